import PyProof.Rows.All
import Open.Pieces
import OpenK.KLine
import PySem.Challenge.RW_tellworld_k05_worlds_at_their_bounds
import Wide.All
import OpenK.AllK
import Wide.FinOn
import PyProof.EqAt
import PyProof.EqKinds
import PyProof.TupleCall
import PyProof.StrWalks
import PyProof.ConsumeWalk
import PyProof.NeKinds
import PyProof.Rows.SetFrom
import KE.KIsAll
import PyProof.WalksMore
import PyProof.TupleKey
import PyProof.DictWalks
import PyProof.Rows.ZipGen
import KE.KDictLaws
import PyProof.DictItems
import KE.KSortTup
import PyProof.TupleOfSeq
import PyProof.Rows.SortStr
import PyProof.Rows.StrInSeq3
import PyProof.TupleIter
import KE.KDictOf
import PyProof.CollectWalk
import PyProof.Rows.SeqMore
set_option genSizeOf false
local macro_rules (kind:=Lean.Parser.Command.declaration)|s=>do
 if s.getPos?.isNone||s[1][1][0].getId.getRoot== `PySem then Lean.Macro.throwUnsupported
 let s:=s.rewriteBottomUp (·.setInfo .none)
 if s[1].getKind∈[``Lean.Parser.Command.definition,``Lean.Parser.Command.abbrev,``Lean.Parser.Command.instance]&&s[0][4].isNone then
  return s.setArg 0 (s[0].setArg 4 (Lean.mkNullNode #[Lean.Syntax.node .none ``Lean.Parser.Command.noncomputable #[Lean.mkAtom "noncomputable"]]))
 return s
set_option compiler.extract_closed false
noncomputable section
open PySem renaming Value->aa,Shared->ae,wpAny_bind->ai,wpAny_pure->aw,starEach->ao,mainGlobals->az,wpAny->af,sizeLine->av,Program->aq,Around->au,World->aj,Spec->m7,compareOp->aI,wpAny_holding->bC,wpAny_mono->bf,wpAny_truthy_bool->bY,wpAny_Call_Name_kw->cu,swapsWith->bu,FuncData->aW,SetTable->bg,backTo->aK,bootBuiltins->cf,sizeLine_eq->bX,assignEach->bT,codeAny->bB,wpAny_execs_nil->dE,codeAny_builtin->dF,wpAny_pyIter_list->dX,codeAny_mono->cM,keywordEach->cy,sysModules->ck,attributeBase->c7,mem_of_lookup->eK,binaryOp->bO,letOwnedTupleGo->d0,behindInMarks->dH,foldedSetIterable->eL,ofAClassStatement->eN,wpAny_setState_of->eO,codeAny_call_builtin->fI,wpAny_passesOwn->eT,wpAny_specialOf->eU,wpAny_call->c9,NameKind->cz,wpAny_execs_cons->fR,Result->bU,wpAny_pyIter_tuple->gO,tupleKind_room_in1->gR,wpAny_excMatches_sub_self->iR,Scope->bM,wpAny_Call_method->gW,Builtin->eA,wpAny_standAt->fX,plainId_quiet->fY,GenState->dO,wpAny_forIn_list->hU,Paired->eC,wpAny_pyNext_list_item->i5,Keyword->dc,call_meetsIn->gb,wpAny_isTrue_Compare1->jc,wpAny_pyNext_list_end->jd,wpAny_eqIsQuiet_tuple->jg,codeAny_handlers_test->jk,wpAny_Expr_any->ig,carriedByValue->ik,typeIs_none->gh,wpAny_handleBy_cons->jy,Within->iq,BindsTo->eE,seqIndex_neg->ix,slot_list_getitem->jQ,wpAny_storeSet_of->jV,noFill_tuple_add->jY,wpAny_Try_except->j6,Model->cO,seqIndex_of->iA,codeAny_of_tree->kc,wpAny_looks_onW->kh,wpAny_Name->iC,Operator->gp,wpAny_loadPart->km,typeIs_str->iF,PlainAttrs->iG,call_meets->iH,meets_dict_get->kn,call->iI,wpAny_seqItems->ko,isSubtype_type->kq,boot_len->ku,KeyKind->kB,intBits_le_64->kC,seq_tuple_add->kD,evalPart_none->kE,call_list_seq->kF,wpAny_attempt->kL,CmpOp->dQ,Params->fw,SetFound->iM
open List renaming length_map->ar,length_append->aE,length_cons->aB,getElem?_eq_getElem->aQ,all_eq_true->aF,mem_cons_of_mem->aM,getElem?_eq_some_iff->aV,mem_cons_self->aL,size_toArray->aH,getElem?_map->aU,mem_of_getElem?->bw,mem_cons->aN,length_take->aZ,getElem?_set->bq,map_cons->aT,length_replicate->bI,length_singleton->bJ,range->aJ,mem_range->bj,mem_append_right->bQ,append_nil->bE,mem_map->bc,mem_singleton->bR,getElem?_append_left->cB,getElem?_append_right->cP,filterMap_cons->cq,getElem?_set_ne->cD,length_nil->bV,mem_filterMap->cE,getElem?_drop->cF,length_set->bZ,foldl_cons->cb,append_assoc->cG,mem_iff_getElem->dj,getElem?_set_self->dR,length_range->cU,lookup_cons->cX,zip_cons_cons->du,replicate->cJ,nodup_append->dw,find?_cons->cZ,map_append->c5,lookup->cg,length->cj,drop_eq_getElem_cons->fA,mem_append->dD,getElem?_replicate->fB,zipWith_cons_cons->fE,take_of_length_le->fF,nodup_cons->d5,nil_append->d6,any_cons->dJ,getElem?_eq_none->fG,mem_append_left->fH,getD_eq_getElem?_getD->gq,perm_append_singleton->gr,mem_of_mem_take->fK,length_drop->eP,any_eq_true->eQ,not_mem_nil->eR,map_map->dN,all_cons->d7,eq_of_mem_replicate->gw,length_zip->eW,mem_replicate->fN,zipWith->d9,getElem?_toArray->gy,getElem_mem->fQ,getElem?_range->gB,length_zipWith->gE,getElem_of_mem->gG,mem_map_of_mem->gH,nodup_nil->fW,pairwise_iff_getElem->iP,take_sublist->gU,foldl_append->gY,flatMap_cons->hE,map_take->fZ,getElem_inj->hG,getElem?_cons_succ->iX,getElem?_cons_zero->iY,map_nil->f7,drop_eq_nil_of_le->i9,mem_filter->hX,of_mem_zip->ia,contains_iff_mem->jf,take_append_drop->jh,filterMap_append->ji,mem_of_mem_drop->jo,pairwise_append->jq,map_id->gj,contains_cons->jD,ext_getElem?->jM,any_eq_false->jN,take_add_one->jR,pairwise_map->jT,filter_cons->j3,nodup_range->j5,mem_flatMap->j7,zip_append->ka,drop_zero->ky,drop_nil->kG,all_map->kP,set_set->kW,rec->lq
open PySem.Heap renaming get?_push_of_some->aD,lt_size->aA,get?_push_size->aY,size_push->dG,SameBut->dM,get?_update_other->i7,get?_update_self->je,FlyingW->iy,MadeExcOf->kz
open Bool renaming and_eq_true->aC,false_ne_true->aO,and_false->cc,false_eq_true->dq,eq_iff_iff->cY,not_eq_true'->dY,or_eq_false_iff->gA,false_and->fV,eq_false_iff->gZ,or_eq_true->ic,not_eq_true->j4,rec->iK
open Nat renaming le_refl->ay,ne_of_lt->aG,ble_eq_true_of_le->bG,lt_of_lt_of_le->bD,zero_le->aR,le_trans->bz,ble->aP,lt_succ_of_lt->cR,le_of_ble_eq_true->dU,lt_succ_self->cW,le_of_lt_succ->dy,succ_pos->cN,lt_irrefl->c6,ble_eq->cm,zero_add->d8,le_add_right->fT,min_self->fi,lt_of_le_of_lt->gS,mod_lt->et,le_succ->fo,le_of_lt->f6,lt_trans->f9,sub_self->gf,add_right_comm->jz,lt_or_eq_of_le->jI,beq->eD,ne_of_gt->ir,lt_trichotomy->jS,le_of_not_lt->j1,beq_refl->kM,le_of_eq->kO,lt_or_ge->kT,pow_succ->kU
open PySem.W renaming Frag->m6,kitOne->m8,kia_one->lu,emptyDict->m9,findIn->ng,keepIn->nh,instObj->ni,looks_findIn->gz,callWith_K->nq,kitx_list->nt,kitx_dict->nu,fnOf->nz,codeIn->nE,plainGet_of->nF,callWith_K0->nG,plainGet->nH,OpenLaw->jL,kitx_tuple->nJ,hideAll_get->jX,cellsFrom_some->nL,methodObj->nM,hasDictIn->nN,of_hideAll->j8,methodCall_KW->nO,lookIn->nP,nsIn->nQ,Looks->eF,makes_of->l4,takerIn->nR,makesIn->nT,mg_of->nU,plainOver->nV,make_core->nW,specialIn->nX,kitx_none->nY,kitx_bool->nZ,isFn->n5
open Array renaming getElem?_toList->bF,length_toList->bK,getElem?_eq_getElem->cQ,getD_eq_getD_getElem?->dg,getElem?_eq_some_iff->fz,size_setIfInBounds->iV,toList_filterMap->jb,replicate->ie,forIn_toList->jE,toList_push->jW,size_map->kx,toList->kN
open PySem.SetTable renaming below->bp,turns->br,insertAt->bN,runEnd->bH,Probe->bW,bits->bS,advance->dZ,grown->eY,insertAt_perm->gx,fits->eZ,fill->ip,sizeAbove->jJ,layClean->jU,slot->kI,leap->kJ,laid->kK,has->kR
open PySem.SetTable.layClean renaming free->cp
open Option.some renaming inj->bL,injEq->mV
open False renaming elim->bA
open PyProof.Rows.F renaming plain_set_update_loop->dh,entry_set_update_loop->fC
open Prod renaming fst->aX,snd->cn
open PySem.SetTable.probe renaming go->cI
open PySem.Builtin.List renaming listTooLong->eG
open PySem.Calls renaming spliced_cons->dW,evalArgs_plain->eI,callWith_builtin->fD,spliced_nil->eM,Name_function_global->iO
open Option renaming map_some->dA,isSome_iff_exists->gv,getD_none->fS,bind_eq_some_iff->iZ,map_eq_some_iff->i8,getD_some->j2,some_get->kj
open PySem.Around renaming under_plainId->eJ,under->iu
open PySem.F renaming called_set->c8,slot_NoneType_hash->fJ,slot_dict_get->eV,slot_list_extend->fL,plainAttrs_list->fO,slot_list_append->gQ,args_dict_get_2->gV,plainAttrs_dict->gX,entry_dict_get->hJ,slot_dict_setdefault->ja,args_list_extend_2->jm,sub_list_frozenset->jn,excBase_ValueError->jr,excAttr_ValueError->js,entry_list_extend->jx,args_tuple_add_2->jC,type_list_append->jG,type_list_extend->jH,entry_tuple_add->jO,slot_tuple_add->jZ,type_dict_get->j9,plain_set_new->kg,sub_list_set->kr
open Ne renaming symm->bP
open PyProof.Rows renaming boot_isinstance->eX,AllBare->cA,subscriptTail_builtinR->i6,IntsAre->fq,Subscript_->iE
open Int renaming emod_lt_of_pos->fM,emod_nonneg->fU,eq_ofNat_of_zero_le->i4,toNat_natCast->jP
open PySem.SetTable.below renaming go->fP
open PySem.Heap.SameBut renaming update->gL,refl->mX
open Nat.succ renaming inj->fj
open PySem.Obj renaming mapSeq->ee,putSet->iJ
open PySem.SeqAt.EqAt renaming of_refs->gT,same->ib,none_int->jt,none_str->ju,int_none->jv,str_none->jw,int_str->jA,str_int->jB,tuple_none->l7,tuple_bool->l8,tuple_list->l9,list_tuple->me,none_tuple->mf,bool_tuple->mh,none_bool->mj,bool_none->ml,bool_bool->mm,tuple_int->mn,tuple_str->mr,list_none->mw,list_bool->mx,none_list->my,bool_list->mB,int_tuple->mC,str_tuple->mE,bool_int->mF,bool_str->mG,int_bool->mH,str_bool->mI,list_int->mJ,list_str->mK,int_list->mL,str_list->mM,int_int->mQ,str_str->mR
open Classical renaming byContradiction->iQ
open PySem.AutoSeq1 renaming wpAny_loadPart'->iU
open LawfulBEq renaming eq_of_beq->eB
open PySem.SeqAt renaming eq_list_lengthsAt->iW,EqAt->gk
open PySem.Paired renaming length->il,snoc->la
open PySem.Walks renaming list->gm,tuple->lb
open PySem.Code renaming quiet_builtin->jF,isFrame->iw,frames->kZ
open PySem.Heap.IsList renaming extBut->jK
open PySem.Txt renaming slice->gn,mul->iN
open Sum.inr renaming inj->iz
open PySem.Moved renaming trans->iB
open PySem.Builtin.Frozenset renaming updateFrom->ly,newClass->lD
open PySem.PassesOwn renaming never->kl
open PySem.SeqAt.RcNeAt renaming lists_lengths->lC,tuples->mO,lists->mT
open PySem.EqNone renaming eq_none_none->lE,eq_none_bool->lF,eq_bool_none->lG,ne_none_none->lK,ne_none_bool->lL,ne_bool_none->lM,eq_none_int->lP,eq_none_str->lQ,eq_int_none->lR,eq_str_none->lT,ne_none_int->lW,ne_none_str->lX,ne_int_none->lY,ne_str_none->l0
open PySem.EqMixed renaming eq_bool_str->lH,eq_str_bool->lI,ne_bool_str->lN,ne_str_bool->lO,eq_int_str->lS,eq_str_int->lV,ne_int_str->lZ,ne_str_int->l3
open PySem.Value renaming isStrOf->kA,isInt->kY
open PySem.SeqAt.RcAt renaming lists_lengths->l5,tuples->mW,lists->mY
open PySem.Pv renaming boot_tuple->kH,boot_list->kQ,boot_int->lg
open PySem.Builtin.Range renaming rangeSize->l6
open List.Pairwise renaming sublist->mi
open Prod.mk renaming inj->kX
open PySem.Heap.IsSliceOf renaming new->mP
open PySem.W.WShape renaming has->lh
open PySem.W.KF renaming slot_gs->lj
open PySem.Within renaming cons->mU
open PyProof.Rows.IsTup renaming new->lp
open PySem.Heap.DictOf renaming new->m5
open PySem.W.Looks renaming ld->lr
def ag:=@if_pos
def ah:=@if_neg
def ak:=@absurd
def bh:=@decide_eq_true_eq
def ba:=@decide_eq_false
def bb:=@decide_eq_true
def aS:=@congrArg
def cH:=@of_decide_eq_true
set_option Elab.async false
set_option linter.all false
namespace L5
open PySem PySem.W
noncomputable def pick(l:List Obj):Nat->List Addr->List Obj:=
 @lq Obj (λ_=>Nat->List Addr->List Obj) (λ_ _=>[])
  (λo _ ih i as=>@lq Addr (λ_=>List Obj) [] (λa r _=>@iK (λ_=>List Obj) (ih (Nat.succ i) as) (o::ih (Nat.succ i) r) (eD a i)) as) l
theorem Gh(i:Nat)(as:List Addr):pick [] i as=[]:=rfl
theorem Jn(o:Obj)(l:List Obj)(i:Nat)(r:List Addr):pick (o::l) i (i::r)=o::pick l (i+1) r:=by show @iK (λ_=>List Obj) _ _ (eD i i)=_;rw[kM];rfl
theorem Jo(o:Obj)(l:List Obj)(i a:Nat)(r:List Addr)(h:a≠i):pick (o::l) i (a::r)=pick l (i+1) (a::r):=by
 show @iK (λ_=>List Obj) _ _ (eD a i)=_;have:eD a i=false:=by
  cases q:eD a i with
  |false=>rfl
  |true=>exact ak (Nat.eq_of_beq_eq_true q) h
 rw[this];rfl
theorem Bn:∀(l:List Obj) (i:Nat) (as:List Addr),(pick l i as).length=as.length->∀j (hj:j<as.length),∃b,as[j]=i+b/\l[b]?=(pick l i as)[j]?
 |[],i,as,h,j,hj=>by rw[Gh]at h;simp at h;omega
 |o::l,i,[],h,j,hj=>by simp at hj
 |o::l,i,a::r,h,j,hj=>by
  by_cases q:a=i
  ·subst q;rw[Jn]at h ⊢;cases j with
   |zero=>exact⟨0,rfl,rfl⟩
   |succ j=>obtain⟨b,e1,e2⟩:=Bn l (a+1) r (by simpa using h) j (by simpa using hj);exact⟨b+1,by rw[List.getElem_cons_succ,e1];exact jz a 1 b,by simpa using e2⟩
  ·rw[Jo _ _ _ _ _ q]at h ⊢;obtain⟨b,e1,e2⟩:=Bn l (i+1) (a::r) h j hj;exact⟨b+1,by rw[e1];exact jz i 1 b,by simpa using e2⟩
def live(o:Obj):Bool:=match o with|⟨_,_,.freed,_⟩=>false|_=>true
theorem Jp{h:Heap}{as:List Addr}{K:Frag}(e:as=K.map (·.1))(x:(pick h.objs.toList 0 as,K.all λp=>live p.2)=(K.map (·.2),true)):K.In h:=by
 obtain⟨x1,x2⟩:=kX x;refine Frag.in_of e (jM λj=>?_);rw[aU,aU];by_cases hj:j<as.length
 ·have hl:(pick h.objs.toList 0 as).length=as.length:=by rw[x1,e,ar,ar]
  obtain⟨b,e1,e2⟩:=Bn _ _ _ hl j hj;have hk:j<K.length:=by rw[e,ar]at hj;exact hj
  rw[aQ hj,aQ hk,dA,dA,e1,d8];have e3:h.objs[b]?=some (K[j].2):=by rw[<-bF,e2,x1,aU,aQ hk];rfl
  have lv:live K[j].2=true:=aF.mp x2 _ (fQ hk);refine aS some ?_;unfold Heap.get?;rw[e3];revert lv;cases K[j].2 with
  |mk c d data sl=>cases data<;>intro lv<;>first|rfl|cases lv
 ·rw[fG (by omega),fG (by rw[e,ar]at hj;omega)];rfl
noncomputable def Pp(K:fw->Frag) (as:List Addr) (e:∀P,as=(K P).map (·.1)):Hook:=
 ⟨List Obj×Bool,λs=>(pick s.heap.objs.toList 0 as,true),λw=>((K w.params).map (·.2),(K w.params).all λp=>live p.2),InK K,λw s x=>Jp (e w.params) (by
  obtain⟨x1,x2⟩:=kX x;rw[x1,<- x2]),InK.keeps⟩
end L5
section
open PySem PySem.W PyProof.Rows
local macro_rules|`(tactic|o_head ($f:ident $k $as $e))=>`(tactic|o_head ((L5.Pp $k $as (fun _=>by kernel_rfl)):W.Hook))
local macro_rules|`(command|#where)=>do
 let mut r:=#[]
 for n in [43:1605] do
  let x:=Lean.mkIdent (.mkSimple s!"tw{((Lean.Name.mkSimple "hd").str s!"o_{n}").hash}")
  r:=r.push ((<-`(command|noncomputable def $x:ident:=0)).raw.rewriteBottomUp (·.setInfo .none))
 return Lean.mkNullNode r
noncomputable section
namespace PySem.W.Fast
def tw9233118851787248685:=0
def tw16549743009188526336:=0
def tw5407970635648715744:=0
def tw10960043547308012770:=0
def tw16506471722634982818:=0
def tw10368827614151553891:=0
def tw5472014076119043557:=0
def tw8284440405640956358:=0
def tw3929716308415612584:=0
def tw10374632558016547081:=0
def tw12117474829687734569:=0
def tw55967982260289129:=0
def tw11077171220434159658:=0
def tw3945831679567021610:=0
def tw938635154573522699:=0
def tw14221096863170989933:=0
def tw7169921974074120141:=0
def tw7774113678449685934:=0
def tw9046706918899111342:=0
def tw5731719637626353167:=0
def tw7772153672920534736:=0
def tw17605677831807779889:=0
def tw11230526295406434642:=0
def tw2020029945253560339:=0
def tw861502493610598483:=0
def tw17602763723307633555:=0
def tw3274555792734442164:=0
def tw13241236600578272084:=0
def tw1396790254627216725:=0
def tw8446133121994151445:=0
def tw8787369257342119190:=0
def tw15219865102035514327:=0
def tw2875624504187281209:=0
def tw12947719026363549466:=0
def tw12997944504462753307:=0
def tw9596587850589165884:=0
def tw266417322512704989:=0
def tw14145249242217061149:=0
def tw7478123994339007903:=0
def tw1478219040936898111:=0
def tw5416208439484045201:=0
def tw907951536374205942:=0
def tw9725562876746918227:=0
def tw1883925188791702583:=0
def tw5427034111212743767:=0
def tw13310030377091497835:=0
def tw994629486567451560:=0
def tw6478921715580560531:=0
def tw9014997679908115983:=0
def tw3650042829212327629:=0
def tw3666531124078437927:=0
def tw9363214764283991203:=0
def tw12462768516373914062:=0
#where
end PySem.W.Fast
end
set_option maxRecDepth 100000 in
set_option maxHeartbeats 0 in
open_top hd for PySem.Challenge.rw_tellworld_k05_worlds_at_their_bounds
end
set_option maxRecDepth 100000
namespace L2
open PySem PySem.Spec PyProof.Rows
abbrev Key:=Sum Int Str
def yX:Key->aa->Bool
 |.inl k,v=>kY k v
 |.inr x,v=>kA x v
def Pq(w:aj):Key->Int
 |.inl k=>hashInt k
 |.inr x=>hashStr w x
theorem o4:∀{k:Key} {v:aa},yX k v=true->(∃i t,k=Sum.inl i/\v=Value.int i t)\/(∃x t,k=Sum.inr x/\v=Value.str x t)
 |.inl i,v,h=>by obtain⟨t,e⟩:=Value.isInt_shape (k:=i) (v:=v) h;exact .inl ⟨i,t,rfl,e⟩
 |.inr x,v,h=>by obtain⟨t,e⟩:=Value.isStrOf_shape (x:=x) (v:=v) h;exact .inr ⟨x,t,rfl,e⟩
theorem E7(i:Int)(t:Tok):yX (.inl i) (.int i t)=true:=by simp[yX,kY]
theorem E8(x:Str)(t:Tok):yX (.inr x) (.str x t)=true:=by simp[yX,kA]
theorem LZ(a b:Int):decide ((Sum.inl a:Key)=Sum.inl b)=(a==b):=by
 by_cases e:a=b
 ·subst e;simp
 ·have h:¬(Sum.inl a:Key)=Sum.inl b:=λq=>e (Sum.inl.inj q);rw[ba h];exact(beq_eq_false_iff_ne.mpr e).symm
theorem L6(a b:Str):decide ((Sum.inr a:Key)=Sum.inr b)=decide (a=b):=by
 by_cases e:a=b
 ·subst e;simp
 ·have h:¬(Sum.inr a:Key)=Sum.inr b:=λq=>e (iz q);rw[ba h,ba e]
theorem L7(a:Int)(b:Str):decide ((Sum.inl a:Key)=Sum.inr b)=false:=ba (λq=>nomatch q)
theorem L8(a:Str)(b:Int):decide ((Sum.inr a:Key)=Sum.inl b)=false:=ba (λq=>nomatch q)
def ox(prog:aq)(w:aj):kB prog w Key where
 is:=yX
 hash:=Pq w
 inj:=λv a b ha hb=>by
  rcases o4 ha with ⟨i,t,rfl,rfl⟩|⟨x,t,rfl,rfl⟩
  ·rcases o4 hb with ⟨j,u,rfl,e⟩|⟨y,u,rfl,e⟩
   ·injection e with e1 _;rw[e1]
   ·exact nomatch e
  ·rcases o4 hb with ⟨j,u,rfl,e⟩|⟨y,u,rfl,e⟩
   ·exact nomatch e
   ·injection e with e1 _;rw[e1]
 byValue:=λk v h=>by rcases o4 h with ⟨i,t,rfl,rfl⟩|⟨x,t,rfl,rfl⟩<;>rfl
 pyHash:=λhv h=>by
  rcases o4 hv with ⟨i,t,rfl,rfl⟩|⟨x,t,rfl,rfl⟩
  ·exact wpAny_pyHash_int h
  ·exact wpAny_pyHash_str h
 eqBool:=λhu hv h=>by
  rcases o4 hu with ⟨i,t,rfl,rfl⟩|⟨x,t,rfl,rfl⟩
  ·rcases o4 hv with ⟨j,u,rfl,rfl⟩|⟨y,u,rfl,rfl⟩
   ·rw[LZ]at h;exact wpAny_eqBool_int h
   ·rw[L7]at h;exact jA i t y u _ _ _ _ h
  ·rcases o4 hv with ⟨j,u,rfl,rfl⟩|⟨y,u,rfl,rfl⟩
   ·rw[L8]at h;exact jB x t j u _ _ _ _ h
   ·rw[L6]at h;exact wpAny_eqBool_str h
 «strs»:=λk x t v h=>by
  rcases o4 h with ⟨i,u,rfl,e⟩|⟨y,u,rfl,e⟩
  ·exact nomatch e
  ·injection e with e1 _;subst e1;cases v<;>rfl
theorem BZ(prog:aq)(w:aj)(i:Int)(t:Tok):(ox prog w).is (.inl i) (.int i t)=true:=E7 i t
theorem B2(prog:aq)(w:aj)(x:Str)(t:Tok):(ox prog w).is (.inr x) (.str x t)=true:=E8 x t
inductive V where
 |non|bl (b:Bool)|int (i:Int)|str (x:Str)|byt (b:Array UInt8)|flt (b:UInt64)|ref (a:Addr)|ty (n:String)
 deriving DecidableEq
def RelV:V->aa->Prop
 |.non,u=>u=Value.none
 |.bl b,u=>u=Value.bool b
 |.int i,u=>∃t,u=Value.int i t
 |.str x,u=>∃t,u=Value.str x t
 |.byt b,u=>∃t,u=Value.bytes b t
 |.flt b,u=>∃t,u=Value.float b t
 |.ref a,u=>u=Value.ref a
 |.ty n,u=>u=Value.type n
abbrev Vals:List V->List aa->Prop:=eC RelV
variable{us:List aa}
theorem Vals.length{xs:List V}(r:Vals xs us):xs.length=us.length:=il r
theorem Vals.get:∀{xs:List V} {us:List aa} {i:Nat} {x:V},Vals xs us->xs[i]?=some x->∃u,us[i]?=some u/\RelV x u
 |_,_,_,_,.nil,e=>by simp at e
 |_,_,0,_,.cons r _,e=>by simp at e;subst e;exact⟨_,rfl,r⟩
 |_,_,i+1,x,.cons _ t,e=>by obtain⟨u,h1,h2⟩:=Vals.get (i:=i) (x:=x) t (by simpa using e);exact⟨u,by simpa using h1,h2⟩
theorem Vals.set{x:V}{u:aa}(r:RelV x u):∀{xs:List V} {us:List aa} (i:Nat),Vals xs us->Vals (xs.set i x) (us.set i u)
 |_,_,_,.nil=>.nil
 |_,_,0,.cons _ t=>.cons r t
 |_,_,i+1,.cons q t=>.cons q (Vals.set r i t)
theorem Vals.append:∀{xs ys:List V} {us ws:List aa},Vals xs us->Vals ys ws->Vals (xs++ys) (us++ws)
 |_,_,_,_,.nil,s=>s
 |_,_,_,_,.cons r t,s=>.cons r (Vals.append t s)
theorem Vals.take:∀{xs:List V} {us:List aa} (n:Nat),Vals xs us->Vals (xs.take n) (us.take n)
 |_,_,0,_=>.nil
 |_,_,_+1,.nil=>.nil
 |_,_,n+1,.cons r t=>.cons r (Vals.take n t)
theorem Vals.drop:∀{xs:List V} {us:List aa} (n:Nat),Vals xs us->Vals (xs.drop n) (us.drop n)
 |_,_,0,r=>r
 |_,_,_+1,.nil=>.nil
 |_,_,n+1,.cons _ t=>Vals.drop n t
def uY:Option V->Option aa->Prop
 |some v,some u=>RelV v u
 |none,none=>True
 |_,_=>False
def KV{κ:Type}:List (κ×V)->List (κ×aa)->Prop:=eC λ(p:κ×V) (q:κ×aa)=>p.1=q.1/\RelV p.2 q.2
def kV:Key->V
 |.inl i=>.int i
 |.inr x=>.str x
inductive HO where
 |lst (xs:List V)
 |tup (xs:List V)
 |dK (kvs:List (Key×V))|dT (kvs:List (List Key×V))
 |set (S:Int->Bool) (n:Nat)
 |ins (C dx:Addr) (fs:List (Str×V))
 |own (x:Addr)
 |xd (fs:List (Str×V))
 |met (f x:Addr)
 |rng (lo hi:Int)
 |frz (o:Obj) (u:HO)
 |tbl (ps:Array aa)
 |ext (φ:Heap->Prop)
abbrev Hp:=Addr->Option HO
def upd(H:Hp)(a:Addr)(o:HO):Hp:=λb=>if b=a then some o else H b
variable{o:HO}
theorem oi{H:Hp}{a:Addr}:upd H a o a=some o:=by unfold upd;rw[ag rfl]
theorem oo{H:Hp}{a b:Addr}(h:b≠a):upd H a o b=H b:=by unfold upd;rw[ah h]
theorem Pr{H:Hp}{a b:Addr}{u:HO}(h:H a=some o)(h':H b=some u)(d:o≠u):a≠b:=by intro e;subst e;rw[h]at h';exact d (bL h')
theorem pz{H:Hp}{a b:Addr}(h:H a=some o)(h':H b=none):a≠b:=by intro e;subst e;rw[h]at h';cases h'
section
variable(P:aq)(w:aj)
def ObjOk(H:Hp)(h:Heap)(a:Addr):HO->Prop
 |.lst xs=>xs.length<=av/\∃(its:List aa) (n:Nat),Vals xs its/\h.get? a=some { cls:=.type "list", data:=.seq its.toArray n }
 |.tup xs=>xs.length<=av/\∃its:List aa,Vals xs its/\IsTup h a its.toArray
 |.dK kvs=>kvs.length<=av/\(a==ck)=false/\∃vs,KV kvs vs/\h.DictOf (ox P w) a vs
 |.dT kvs=>kvs.length<=av/\(a==ck)=false/\∃xs:List (List Key×Addr×aa),
   eC (λ(p:List Key×V) (q:List Key×Addr×aa)=>p.1=q.1/\H q.2.1=some (.tup (p.1.map kV))/\RelV p.2 q.2.2) kvs xs/\
   ∃o es ep,h.get? a=some o/\o.ExactDict/\o.data=.dict es ep/\es.toList=xs.map (entryOfKey (tupleKind (ox P w)))/\(xs.map (·.1)).Nodup
 |.set S n=>h.SetOf (intKind P w) a S n
 |.ins C dx fs=>H dx=some (.own a)/\fs.length<=1000/\dx≠a/\h.get? a=some (W.instObj C dx)/\
   ∃mA,h.Ns1 dx mA/\(∀f,uY (fs.lookup f) (mA f))/\iq mA (fs.map (·.1))
 |.own _=>∃o,h.get? a=some o
 |.xd fs=>∃mA,h.Ns1 a mA/\∀f,uY (fs.lookup f) (mA f)
 |.rng lo hi=>∃t u v,h.get? a=some { cls:=.type "range", data:=.fields #[.int lo t,.int hi u,.int 1 v] }
 |.frz o u=>h.get? a=some o/\ObjOk H h a u
 |.tbl ps=>h.get? a=some { cls:=.none,data:=.fields ps }
 |.met f x=>h.get? a=some (W.methodObj (.ref f) (.ref x))
 |.ext φ=>φ h/\(∃o,h.get? a=some o)/\∀h1 h2:Heap,φ h1->(∀o,h1.get? a=some o->h2.get? a=some o)->φ h2
def HOk(H:Hp)(h:Heap):Prop:=∀a o,H a=some o->ObjOk P w H h a o
end
section
variable{P:aq}{w:aj}{H H':Hp}{h h':Heap}{a:Addr}{o:HO}
theorem ObjOk.lt(x:ObjOk P w H h a o):a<h.objs.size:=by
 cases o with
 |lst xs=>obtain⟨_,_,_,_,e⟩:=x;exact aA e
 |tup xs=>obtain⟨_,_,_,p⟩:=x;exact p.lt
 |dK kvs=>obtain⟨_,_,_,_,o,_,_,e,_⟩:=x;exact aA e
 |dT kvs=>obtain⟨_,_,_,_,o,_,_,e,_⟩:=x;exact aA e
 |set S n=>obtain⟨o,_,_,_,e,_⟩:=x;exact aA e
 |ins C dx fs=>obtain⟨_,_,_,e,_⟩:=x;exact aA e
 |own y=>obtain⟨_,e⟩:=x;exact aA e
 |xd fs=>obtain⟨_,⟨_,_,_,e,_⟩,_⟩:=x;exact aA e
 |rng lo hi=>obtain⟨_,_,_,e⟩:=x;exact aA e
 |frz ob u=>obtain⟨e,_⟩:=x;exact aA e
 |tbl ps=>exact aA (show h.get? a=some _ from x)
 |met f y=>exact aA (show h.get? a=some _ from x)
 |ext φ=>obtain⟨_,⟨_,e⟩,_⟩:=x;exact aA e
theorem Paired.mapP{α β:Type}{F G:α->β->Prop}:∀{l₁:List α} {l₂:List β},eC F l₁ l₂->(∀a b,F a b->G a b)->eC G l₁ l₂
 |_,_,.nil,_=>.nil
 |_,_,.cons r t,f=>.cons (f _ _ r) (Paired.mapP t f)
theorem ObjOk.stay(x:ObjOk P w H h a o)(k:∀b u,(b=a\/H b=some (.own a))->h.get? b=some u->h'.get? b=some u)
  (ho:∀b,H b=some (.own a)->H' b=some (.own a)) (ht:∀b xs,H b=some (.tup xs)->H' b=some (.tup xs)):ObjOk P w H' h' a o:=by
 induction o with
 |lst xs=>obtain⟨z,its,n,r,e⟩:=x;exact⟨z,its,n,r,k _ _ (.inl rfl) e⟩
 |tup xs=>obtain⟨z,its,r,ob,e,c⟩:=x;exact⟨z,its,r,ob,k _ _ (.inl rfl) e,c⟩
 |dK kvs=>obtain⟨z,y,vs,r,ob,es,ep,e,c⟩:=x;exact⟨z,y,vs,r,ob,es,ep,k _ _ (.inl rfl) e,c⟩
 |dT kvs=>obtain⟨z,y,xs,r,ob,es,ep,e,c⟩:=x;exact⟨z,y,xs,Paired.mapP r λp q z=>⟨z.1,ht _ _ z.2.1,z.2.2⟩,ob,es,ep,k _ _ (.inl rfl) e,c⟩
 |set S n=>obtain⟨ob,es,ep,t,e,c⟩:=x;exact⟨ob,es,ep,t,k _ _ (.inl rfl) e,c⟩
 |ins C dx fs=>obtain⟨d,z,ne,e,mA,⟨od,es,ep,e2,c⟩,r⟩:=x;exact⟨ho _ d,z,ne,k _ _ (.inl rfl) e,mA,⟨od,es,ep,k _ _ (.inr d) e2,c⟩,r⟩
 |own y=>obtain⟨ob,e⟩:=x;exact⟨ob,k _ _ (.inl rfl) e⟩
 |xd fs=>obtain⟨mA,⟨od,es,ep,e,c⟩,r⟩:=x;exact⟨mA,⟨od,es,ep,k _ _ (.inl rfl) e,c⟩,r⟩
 |rng lo hi=>obtain⟨t,u,v,e⟩:=x;exact⟨t,u,v,k _ _ (.inl rfl) e⟩
 |frz ob u ih=>obtain⟨e,q⟩:=x;exact⟨k _ _ (.inl rfl) e,ih q⟩
 |tbl ps=>have e:h.get? a=some { cls:=.none,data:=.fields ps }:=x;show h'.get? a=some { cls:=.none,data:=.fields ps };exact k a _ (.inl rfl) e
 |met f y=>have e:h.get? a=some (W.methodObj (.ref f) (.ref y)):=x;show h'.get? a=some (W.methodObj (.ref f) (.ref y));exact k a _ (.inl rfl) e
 |ext φ=>obtain⟨p,⟨o,e⟩,st⟩:=x;exact⟨st _ _ p λo q=>k _ _ (.inl rfl) q,⟨o,k _ _ (.inl rfl) e⟩,st⟩
theorem HOk.lt(x:HOk P w H h)(e:H a=some o):a<h.objs.size:=(x a o e).lt
theorem HOk.fresh(x:HOk P w H h)(e:h.objs.size<=a):H a=none:=by
 cases q:H a with
 |none=>rfl
 |some u=>exact ak (bD (x.lt q) e) (c6 _)
theorem HOk.kept(x:HOk P w H h)(k:∀b u,h.get? b=some u->h'.get? b=some u):HOk P w H h':=λa o e=>
 (x a o e).stay (λb u _ q=>k b u q) (λ_ q=>q) λ_ _ q=>q
theorem HOk.laid(x:HOk P w H h)(k:∀b u,h.get? b=some u->h'.get? b=some u)(hp:h.objs.size<=a)(new:ObjOk P w (upd H a o) h' a o):HOk P w (upd H a o) h':=λb u e=>by
 have hn:=x.fresh hp;by_cases hb:b=a
 ·subst hb;rw[oi]at e;cases e;exact new
 ·rw[oo hb]at e;exact(x b u e).stay (λc v _ q=>k c v q) (λc q=>by rw[oo (pz q hn)];exact q) λc xs q=>by rw[oo (pz q hn)];exact q
end
def Rd(H:Hp)(a:Addr)(u:HO):Prop:=H a=some u\/∃o,H a=some (.frz o u)
theorem Rd.ok{P:aq}{w:aj}{H:Hp}{h:Heap}{a:Addr}{u:HO}(r:Rd H a u)(x:HOk P w H h):ObjOk P w H h a u:=by
 rcases r with r|⟨o,r⟩
 ·exact x a u r
 ·obtain⟨_,q⟩:=x a _ r;exact q
def Mut:Option HO->Prop
 |some (.lst _)=>True
 |some (.dK _)=>True
 |some (.dT _)=>True
 |some (.set _ _)=>True
 |some (.ins _ _ _)=>True
 |some (.ext _)=>True
 |_=>False
section
variable{P:aq}{w:aj}{H:Hp}{h h':Heap}{x e:Addr}{o':HO}
theorem HOk.write(ok:HOk P w H h)(mu:Mut (H x))(he:e=x\/H e=some (.own x))(k:∀b u,b≠e->h.get? b=some u->h'.get? b=some u)(heo:∃u,h'.get? e=some u)
  (new:ObjOk P w (upd H x o') h' x o'):HOk P w (upd H x o') h':=λb u q=>by
 have nown:∀c y,H c=some (.own y)->c≠x:=λc y r z=>by subst z;rw[r]at mu;exact mu
 have ntup:∀c xs,H c=some (.tup xs)->c≠x:=λc xs r z=>by subst z;rw[r]at mu;exact mu
 by_cases hb:b=x
 ·subst hb;rw[oi]at q;cases q;exact new
 ·rw[oo hb]at q;by_cases hbe:b=e
  ·have q':H b=some (.own x):=by
    rcases he with z|z
    ·exact ak (hbe.trans z) hb
    ·rw[hbe];exact z
   rw[q]at q';cases q';obtain⟨v,hv⟩:=heo;exact⟨v,by rw[hbe];exact hv⟩
  ·refine(ok b u q).stay (λc v hc r=>k c v ?_ r) (λc r=>by rw[oo (nown c b r)];exact r) λc xs r=>by rw[oo (ntup c xs r)];exact r
   rcases hc with rfl|hc
   ·exact hbe
   ·rintro rfl;rcases he with z|z
    ·exact nown c b hc z
    ·rw[hc]at z;cases z;exact hb rfl
end
structure Un(fs ex:List Addr)(H H':Hp)(h h':Heap):Prop where
 keep:∀b o,h.get? b=some o->H b=none->b∉fs->b∉ex->h'.get? b=some o
 slot:∀b o,h.get? b=some o->H b=none->b∈fs->b∉ex->∃sl,h'.get? b=some { o with slots:=sl }
 free:∀b o,h.get? b=some o->H b=none->b∉ex->H' b=none
 there:∀b o,h.get? b=some o->b∉ex->∃o',h'.get? b=some o'
 tups:∀b xs,H b=some (.tup xs)->H' b=some (.tup xs)
 frzs:∀b o u,H b=some (.frz o u)->H' b=some (.frz o u)
 tbls:∀b ps,H b=some (.tbl ps)->∃more,H' b=some (.tbl (ps++more))
section
variable{fs fs' ex ex':List Addr}{H H1 H2:Hp}{h h1 h2 h':Heap}{a x e:Addr}{o:HO}
theorem Un.any(u:Un fs ex H H1 h h1){b:Addr}{ob:Obj}(q:h.get? b=some ob)(n:H b=none)(hx:b∉ex):∃sl,h1.get? b=some { ob with slots:=sl }:=by
 by_cases hb:b∈fs
 ·exact u.slot b ob q n hb hx
 ·exact⟨ob.slots,u.keep b ob q n hb hx⟩
theorem Un.kept(k:∀b u,h.get? b=some u->h'.get? b=some u):Un fs ex H H h h':=
 ⟨λb ob q _ _ _=>k b ob q,λb ob q _ _ _=>⟨ob.slots,k b ob q⟩,λ_ _ _ n _=>n,λb ob q _=>⟨ob,k b ob q⟩,λ_ _ q=>q,λ_ _ _ q=>q,λ_ ps q=>⟨#[],by rw[q];simp⟩⟩
theorem Un.refl:Un fs ex H H h h:=Un.kept λ_ _ q=>q
theorem Un.laid(k:∀b u,h.get? b=some u->h'.get? b=some u)(hp:h.objs.size<=a)(hn:H a=none):Un fs ex H (upd H a o) h h' where
 keep:=λb u q _ _ _=>k b u q
 slot:=λb u q _ _ _=>⟨u.slots,k b u q⟩
 free:=λb u q n _=>by rw[oo (aG (bD (aA q) hp))];exact n
 there:=λb u q _=>⟨u,k b u q⟩
 tups:=λb xs q=>by rw[oo (pz q hn)];exact q
 frzs:=λb u xs q=>by rw[oo (pz q hn)];exact q
 tbls:=λb ps q=>⟨#[],by rw[oo (pz q hn),q];simp⟩
theorem Un.write(mu:Mut (H x))(he:e=x\/H e=some (.own x))(k:∀b u,b≠e->h.get? b=some u->h'.get? b=some u)(heo:∃u,h'.get? e=some u):Un fs ex H (upd H x o) h h':=by
 have hx:∀b,H b=none->b≠x:=λb n z=>by subst z;rw[n]at mu;exact mu
 have hb:∀b,H b=none->b≠e:=λb n z=>by
  subst z;rcases he with r|r
  ·exact hx b n r
  ·rw[n]at r;cases r
 have hm:∀b u,H b=some u->¬Mut (some u)->b≠x:=λb u q nm z=>by subst z;rw[q]at mu;exact nm mu
 refine⟨λb u q n _ _=>k b u (hb b n) q,λb u q n _ _=>⟨u.slots,k b u (hb b n) q⟩,λb u q n _=>by rw[oo (hx b n)];exact n,λb u q _=>?_,
  λb xs q=>by rw[oo (hm b _ q λz=>z)];exact q,λb u xs q=>by rw[oo (hm b _ q λz=>z)];exact q,λb ps q=>⟨#[],by rw[oo (hm b _ q λz=>z),q];simp⟩⟩
 by_cases hbe:b=e
 ·subst hbe;exact heo
 ·exact⟨u,k b u hbe q⟩
end
def trk(h:Heap)(H:Hp):List Addr:=(aJ h.objs.size).filter λa=>(H a).isSome
def Bo(h:Heap)(H:Hp):Heap:=W.hideAll h (trk h H)
theorem E9(h:Heap)(H:Hp):(Bo h H).objs.size=h.objs.size:=W.hideAll_size _ _
theorem Gi{h:Heap}{H:Hp}{b:Addr}{o:Obj}(e:h.get? b=some o)(n:H b=none):(Bo h H).get? b=some o:=
 W.hideAll_get _ e λhm=>by have q:(H b).isSome=true:=(hX.mp hm).2;rw[n]at q;simp at q
theorem Jq{h:Heap}{H:Hp}{b:Addr}{o:Obj}(e:(Bo h H).get? b=some o):h.get? b=some o/\H b=none:=by
 have e':h.get? b=some o:=W.of_hideAll (trk h H) e;refine⟨e',?_⟩;cases q:H b with
 |none=>rfl
 |some x=>have hm:b∈trk h H:=hX.mpr ⟨bj.mpr (aA e'),by simp[q]⟩;have z:(Bo h H).get? b=none:=W.hideAll_none (trk h H) hm;rw[z]at e;cases e
def Jr(g h:Heap)(L:Addr):List (Addr×Obj):=(aJ h.objs.size).filterMap λa=>if a=L\/(g.get? a).isSome=true then none else (h.get? a).map λo=>(a,o)
def rest(g h:Heap)(L d:Addr):List (Addr×Obj):=(Jr g h L).filter λp=>decide (p.1≠d)
structure Mod(K:W.Frag)(mg:Str->Option aa)(base:Heap):Prop where
 kin:K.In base
 glob:base.Ns az mg
 blt:∃mb,base.Ns builtinsNs mb/\∀x:Str,x≠"__name__" -> mb x=cf x
 nolimit:base.NoLimit
structure Cx where
 prog:aq
 w:aj
 K:W.Frag
 mg:Str->Option aa
 base:Heap
 A:au
 N:List Str
 s₀:ae
 H₀:Hp
 env:Env
 outer:List Env
 stack:List Env
 ex:List Addr
 fn:Str->Bool
 calm:Bool
 pn:List (Addr×Obj)
 xe:aa->ae->Prop
def frs(l:List Env):List Addr:=l.filterMap (·.frame)
abbrev Cx.fs(X:Cx):List Addr:=frs X.outer
def Vis(sc:bM)(x:Str):Prop:=sc.names.lookup x=some .local\/sc.names.lookup x=some .cell\/sc.names.lookup x=some .free
def Loc(sc:bM)(x:Str):Prop:=sc.names.lookup x=some .local\/sc.names.lookup x=some .cell
def Look(env:Env)(h:Heap)(m:Str->Option aa)(x:Str)(u:aa):Prop:=
 (env.kindOf x=some .local/\m x=some u)\/((env.kindOf x=some .cell\/env.kindOf x=some .free)/\∃c,env.cells.lookup x=some c/\h.IsCell c (some u))
structure Cx.Ok(X:Cx):Prop where
 mod:Mod X.K X.mg X.base
 kind:X.env.scope.kind=.function
 glob:X.env.globals=az
 blt:X.env.builtins=builtinsNs
 above:X.s₀.heap.objs.size<=X.env.locals
 inj:∀x y c,X.env.cells.lookup x=some c->X.env.cells.lookup y=some c->x=y
 has:∀x,(X.env.kindOf x=some .cell\/X.env.kindOf x=some .free)->∃c,X.env.cells.lookup x=some c
 cab:∀x c,X.fn x=true->X.env.cells.lookup x=some c->X.s₀.heap.objs.size<=c
 hd:X.calm=true->X.A.handled=none
 frames:X.A.frames=some X.stack
 stk:X.stack=X.outer\/(X.stack=X.env::X.outer/\X.env.frame=some X.env.locals)
 exf:∀b∈X.ex,b≠X.env.locals/\∀x c,X.env.cells.lookup x=some c->c≠b
 bs:∀b o,X.base.get? b=some o->X.s₀.heap.get? b=some o/\X.H₀ b=none
 bsz:X.base.objs.size<=X.s₀.heap.objs.size
 noex:∀b o,X.base.get? b=some o->b∉X.ex
 exfs:∀b∈X.ex,b∉X.fs
 funs:X.s₀.heap.FunFrames X.base X.outer
 frf:∀b∈X.fs,X.H₀ b=none
structure Inv(X:Cx)(pins:List (Addr×Obj))(σ:List (Option V))(H:Hp)(s:ae):Prop where
 ok:X.Ok
 os:s.os=X.s₀.os
 bare:cA s.gens
 base:Un X.fs X.ex X.H₀ H X.s₀.heap s.heap
 loc:∃m,s.heap.Ns X.env.locals m/\∀(i:Nat) (x:Str) (v:V),X.N[i]?=some x->σ[i]?=some (some v)->Vis X.env.scope x->∃u,RelV v u/\Look X.env s.heap m x u
 cell:∀x c,X.env.cells.lookup x=some c->∃v,s.heap.IsCell c v
 free:H X.env.locals=none
 freeC:∀x c,X.env.cells.lookup x=some c->H c=none
 pin:∀p∈X.pn++pins,s.heap.get? p.1=some p.2/\H p.1=none/\p.1≠X.env.locals/\p.1∉X.fs/\∀v,p.2.data≠.cell v
 hok:HOk X.prog X.w H s.heap
 len:σ.length=X.N.length
variable{g':Array dO}{t':Nat}{d':Drawn}{ch:List Addr}{it:Addr}{N:List Str}{x:Str}{E:aa->ae->Prop}{s':ae}
section
variable{X:Cx}{pins:List (Addr×Obj)}{σ:List (Option V)}{H H':Hp}{s:ae}{h':Heap}
theorem Cx.Ok.nofr(ok:X.Ok){b:Addr}{o:Obj}(e:X.base.get? b=some o):b∉X.fs:=λhb=>by have:=(ok.funs.mem hb).1;rw[e]at this;cases this
theorem Inv.bs(I:Inv X pins σ H s):∀b o,X.base.get? b=some o->s.heap.get? b=some o/\H b=none:=λb o e=>
 ⟨I.base.keep b o (I.ok.bs b o e).1 (I.ok.bs b o e).2 (I.ok.nofr e) (I.ok.noex b o e),I.base.free b o (I.ok.bs b o e).1 (I.ok.bs b o e).2 (I.ok.noex b o e)⟩
theorem Inv.bk(I:Inv X pins σ H s):∀b o,X.base.get? b=some o->s.heap.get? b=some o:=λb o e=>(I.bs b o e).1
theorem Inv.mod(I:Inv X pins σ H s):Mod X.K X.mg X.base:=I.ok.mod
theorem Inv.kIn(I:Inv X pins σ H s):X.K.In s.heap:=I.ok.mod.kin.keeps I.bk
theorem Inv.fr(I:Inv X pins σ H s):∃m,Fr X.base X.env.locals s.heap m:=
 let ⟨m,hn,_⟩:=I.loc
 ⟨m,hn,I.bk,bz I.ok.bsz I.ok.above⟩
theorem Inv.lt(I:Inv X pins σ H s):X.env.locals<s.heap.objs.size:=let ⟨_,hn,_⟩:=I.loc;hn.lt
theorem Inv.sz(I:Inv X pins σ H s):X.s₀.heap.objs.size<=s.heap.objs.size:=bz I.ok.above (f6 I.lt)
theorem Inv.nofs(I:Inv X pins σ H s){a:Addr}(h:s.heap.objs.size<=a):a∉X.fs:=λhb=>by obtain⟨_,o,ho,_⟩:=I.ok.funs.mem hb;exact ak (bD (aA ho) (bz I.sz h)) (c6 _)
theorem Inv.cne(I:Inv X pins σ H s):∀x c,X.env.cells.lookup x=some c->c≠X.env.locals:=λx c e z=>by obtain⟨v,o,ho,hd⟩:=I.cell x c e;obtain⟨m,⟨o',es,ep,ho',hd',_⟩,_⟩:=I.loc;rw[z,ho']at ho;cases ho;rw[hd']at hd;cases hd
theorem Inv.funs(I:Inv X pins σ H s):s.heap.FunFrames X.base X.outer:=by
 have all:∀(l:List Env),(∀b∈frs l,b∈X.fs)->X.s₀.heap.FunFrames X.base l->s.heap.FunFrames X.base l:=by
  intro l
  induction l with
  |nil=>intro _ _;trivial
  |cons env r ih=>intro hs hl;obtain⟨hk,⟨L,o,hf,hn,ho,hd⟩,hr⟩:=hl;have hL:L∈X.fs:=hs L (by unfold frs;rw[cq,hf];exact aL);obtain⟨sl,e⟩:=I.base.slot L o ho (I.ok.frf L hL) hL λz=>I.ok.exfs L z hL;exact⟨hk,⟨L,_,hf,hn,e,hd⟩,ih (λb hb=>hs b (by unfold frs;rw[cq,hf];exact aM _ hb)) hr⟩
 exact all X.outer (λ_ hb=>hb) I.ok.funs
theorem Inv.stack(I:Inv X pins σ H s):s.heap.FunFrames X.base X.stack:=by
 rcases I.ok.stk with e|⟨e,hf⟩
 ·rw[e];exact I.funs
 ·rw[e];obtain⟨m,hn,_⟩:=I.loc;refine .cons (by rw[I.ok.kind];decide) hf hn ?_ I.funs;exact Heap.get?_none_of_le (bz I.ok.bsz I.ok.above)
theorem Inv.stkSub(I:Inv X pins σ H s):∀b∈frs X.stack,b∈X.env.locals::X.fs:=λb hb=>by
 rcases I.ok.stk with e|⟨e,hf⟩
 ·rw[e]at hb;exact aM _ hb
 ·rw[e]at hb;unfold frs at hb;rw[cq,hf]at hb;exact hb
theorem Inv.stkFree(I:Inv X pins σ H s):∀b∈frs X.stack,H b=none:=λb hb=>by
 rcases aN.mp (I.stkSub b hb)with e|hb
 ·rw[e];exact I.free
 ·obtain⟨_,o,ho,_⟩:=I.ok.funs.mem hb;exact I.base.free b o ho (I.ok.frf b hb) λz=>I.ok.exfs b z hb
theorem Inv.step(I:Inv X pins σ H s)
  (hch:∀b∈ch,(b∈X.ex\/X.s₀.heap.objs.size<=b)/\b≠X.env.locals/\(∀x c,X.env.cells.lookup x=some c->c≠b)/\∀p∈X.pn++pins,p.1≠b)
  (keep:∀b o,b≠X.env.locals->b∉X.fs->b∉ch->s.heap.get? b=some o->H b=none->h'.get? b=some o)
  (slot:∀b o,b≠X.env.locals->b∈X.fs->b∉ch->s.heap.get? b=some o->H b=none->∃sl,h'.get? b=some { o with slots:=sl }) (free:∀b o,b∉ch->s.heap.get? b=some o->H b=none->H' b=none)
  (there:∀b o,b∉ch->s.heap.get? b=some o->∃o',h'.get? b=some o')
  (tups:∀b xs,H b=some (.tup xs)->H' b=some (.tup xs)) (frzs:∀b o u,H b=some (.frz o u)->H' b=some (.frz o u)) (tbls:∀b ps,H b=some (.tbl ps)->∃more,H' b=some (.tbl (ps++more)))
  (ns:∀m,s.heap.Ns X.env.locals m->h'.Ns X.env.locals m) (hok:HOk X.prog X.w H' h') (hg:cA g'):
  Inv X pins σ H' { s with heap:=h',gens:=g',drawn:=d',toks:=t' }:=by
 have neL:∀b o,X.s₀.heap.get? b=some o->b≠X.env.locals:=λb o e=>aG (bD (aA e) I.ok.above);have neC:∀b o,X.s₀.heap.get? b=some o->b∉X.ex->b∉ch:=λb o e hx hb=>by
  rcases(hch b hb).1 with z|z
  ·exact hx z
  ·exact ak (bD (aA e) z) (c6 _)
 have cellK:∀x c,X.env.cells.lookup x=some c->∀v,s.heap.IsCell c v->h'.IsCell c v:=λx c e v ⟨o,ho,hd⟩=>by
  have nch:c∉ch:=λz=>(hch c z).2.2.1 x c e rfl;by_cases hc:c∈X.fs
  ·obtain⟨sl,q⟩:=slot c o (I.cne x c e) hc nch ho (I.freeC x c e);exact⟨_,q,hd⟩
  ·exact⟨o,keep c o (I.cne x c e) hc nch ho (I.freeC x c e),hd⟩
 refine⟨I.ok,I.os,hg,⟨λb o e n hb hx=>?_,λb o e n hb hx=>?_,λb o e n hx=>?_,λb o e hx=>?_,λb xs e=>tups b xs (I.base.tups b xs e),λb o xs e=>frzs b o xs (I.base.frzs b o xs e),λb ps e=>?_⟩,?_,λx c e=>?_,?_,λx c e=>?_,λp hp=>?_,hok,I.len⟩
 ·exact keep b o (neL b o e) hb (neC b o e hx) (I.base.keep b o e n hb hx) (I.base.free b o e n hx)
 ·obtain⟨sl,e1⟩:=I.base.slot b o e n hb hx;obtain⟨sl',e2⟩:=slot b _ (neL b o e) hb (neC b o e hx) e1 (I.base.free b o e n hx);exact⟨sl',e2⟩
 ·obtain⟨o',e1⟩:=I.base.there b o e hx;exact free b o' (neC b o e hx) e1 (I.base.free b o e n hx)
 ·obtain⟨o',e1⟩:=I.base.there b o e hx;exact there b o' (neC b o e hx) e1
 ·obtain⟨m1,e1⟩:=I.base.tbls b ps e;obtain⟨m2,e2⟩:=tbls b _ e1;exact⟨m1++m2,by rw[e2,Array.append_assoc]⟩
 ·obtain⟨m,hn,hl⟩:=I.loc;refine⟨m,ns m hn,λi x v e1 e2 e3=>?_⟩;obtain⟨u,r,l⟩:=hl i x v e1 e2 e3;refine⟨u,r,?_⟩;rcases l with l|⟨k,c,e,z⟩
  ·exact .inl l
  ·exact .inr ⟨k,c,e,cellK x c e _ z⟩
 ·obtain⟨v,z⟩:=I.cell x c e;exact⟨v,cellK x c e v z⟩
 ·obtain⟨m,⟨o,_,_,ho,_⟩,_⟩:=I.loc;exact free _ o (λz=>(hch _ z).2.1 rfl) ho I.free
 ·obtain⟨v,o,ho,hd⟩:=I.cell x c e;exact free c o (λz=>(hch c z).2.2.1 x c e rfl) ho (I.freeC x c e)
 ·obtain⟨e,n,ne,nf,d⟩:=I.pin p hp;have nch:p.1∉ch:=λz=>(hch p.1 z).2.2.2 p hp rfl;exact⟨keep p.1 p.2 ne nf nch e n,free p.1 p.2 nch e n,ne,nf,d⟩
theorem Inv.un(I:Inv X pins σ H s)(u:Un X.fs [] H H' s.heap h')(hok:HOk X.prog X.w H' h'):Inv X pins σ H' { s with heap:=h',toks:=t' }:=by
 obtain⟨m,⟨o,es,ep,ho,r⟩,_⟩:=id I.loc;obtain⟨sl,hL⟩:=u.any ho I.free (by simp);exact I.step (g':=s.gens) (d':=s.drawn) (ch:=[]) (λ_ z=>nomatch z) (λb o _ hb _ e n=>u.keep b o e n hb (by simp)) (λb o _ hb _ e n=>u.slot b o e n hb (by simp)) (λb o _ e n=>u.free b o e n (by simp)) (λb o _ e=>u.there b o e (by simp)) u.tups u.frzs u.tbls (λm' hm=>by
  obtain⟨o',es',ep',ho',r'⟩:=hm;rw[ho]at ho';cases ho';exact⟨_,es',ep',hL,r'⟩) hok I.bare
theorem Inv.call(I:Inv X pins σ H s)(u:Un (frs X.stack) ch H H' s.heap h')(hok:HOk X.prog X.w H' h')(hg:cA g')
  (hch:∀b∈ch,(b∈X.ex\/X.s₀.heap.objs.size<=b)/\b≠X.env.locals/\(∀x c,X.env.cells.lookup x=some c->c≠b)/\∀p∈X.pn++pins,p.1≠b):
  Inv X pins σ H' { s with heap:=h',gens:=g',drawn:=d',toks:=t' }:=by
 obtain⟨m,⟨o,es,ep,ho,r⟩,_⟩:=id I.loc;obtain⟨sl,hL⟩:=u.any ho I.free λz=>(hch _ z).2.1 rfl;exact I.step (ch:=ch) hch (λb o hL hb hc e n=>u.keep b o e n (λz=>(aN.mp (I.stkSub b z)).elim hL hb) hc) (λb o _ _ hc e n=>u.any e n hc) (λb o hc e n=>u.free b o e n hc) (λb o hc e=>u.there b o e hc) u.tups u.frzs u.tbls (λm' hm=>by
  obtain⟨o',es',ep',ho',r'⟩:=hm;rw[ho]at ho';cases ho';exact⟨_,es',ep',hL,r'⟩) hok hg
theorem Inv.turned(I:Inv X pins σ H s)(k:∀b o,b≠it->s.heap.get? b=some o->h'.get? b=some o)(hn:H it=none)(hL:it≠X.env.locals)
  (h1:it∈X.ex\/X.s₀.heap.objs.size<=it) (h2:∀x c,X.env.cells.lookup x=some c->c≠it) (h3:∀p∈X.pn++pins,p.1≠it):Inv X pins σ H { s with heap:=h',toks:=t' }:=by
 have nit:∀b u,H b=some u->b≠it:=λb u e z=>by rw[z,hn]at e;cases e
 refine I.step (g':=s.gens) (d':=s.drawn) (ch:=[it]) (λb hb=>?_) (λb o _ _ hc e _=>k b o (λz=>hc (by simp[z])) e) (λb o _ _ hc e _=>⟨o.slots,k b o (λz=>hc (by simp[z])) e⟩) (λ_ _ _ _ n=>n)
  (λb o hc e=>⟨o,k b o (λz=>hc (by simp[z])) e⟩) (λ_ _ e=>e) (λ_ _ _ e=>e) (λb ps e=>⟨#[],by rw[e];simp⟩) (λm hm=>?_) (λb u e=>?_) I.bare
 ·have e:b=it:=by simpa using hb
  subst e;exact⟨h1,hL,h2,h3⟩
 ·obtain⟨o,es,ep,ho,r⟩:=hm;exact⟨o,es,ep,k _ o (bP hL) ho,r⟩
 ·refine(I.hok b u e).stay (λc v hc q=>k c v ?_ q) (λ_ q=>q) λ_ _ q=>q;rcases hc with z|z
  ·rw[z];exact nit b u e
  ·exact nit c _ z
theorem Inv.tok(I:Inv X pins σ H s)(t:Nat):Inv X pins σ H { s with toks:=t }:=I.un (h':=s.heap) (t':=t) Un.refl I.hok
theorem Inv.kept(I:Inv X pins σ H s)(k:∀b u,s.heap.get? b=some u->h'.get? b=some u):Inv X pins σ H { s with heap:=h',toks:=t' }:=I.un (Un.kept k) (I.hok.kept k)
theorem Inv.laid{a:Addr}(I:Inv X pins σ H s)(k:∀b u,s.heap.get? b=some u->h'.get? b=some u)(hp:s.heap.objs.size<=a)(new:ObjOk X.prog X.w (upd H a o) h' a o):
  Inv X pins σ (upd H a o) { s with heap:=h',toks:=t' }:=I.un (Un.laid k hp (I.hok.fresh hp)) (I.hok.laid k hp new)
theorem Inv.write{x e:Addr}(I:Inv X pins σ H s)(mu:Mut (H x))(he:e=x\/H e=some (.own x))(k:∀b u,b≠e->s.heap.get? b=some u->h'.get? b=some u)(heo:∃u,h'.get? e=some u)
  (new:ObjOk X.prog X.w (upd H x o) h' x o):Inv X pins σ (upd H x o) { s with heap:=h',toks:=t' }:=I.un (Un.write mu he k heo) (I.hok.write mu he k heo new)
theorem Inv.weak{σ':List (Option V)}(I:Inv X pins σ H s)(hl:σ'.length=σ.length)(w:∀(i:Nat) v,σ'[i]?=some (some v)->σ[i]?=some (some v)):Inv X pins σ' H s:=
 ⟨I.ok,I.os,I.bare,I.base,let ⟨m,hn,hl'⟩:=I.loc;⟨m,hn,λi x v e1 e2 e3=>hl' i x v e1 (w i v e2) e3⟩,I.cell,I.free,I.freeC,I.pin,I.hok,hl.trans I.len⟩
theorem Inv.pins_of{pins':List (Addr×Obj)}(I:Inv X pins σ H s)(h:∀p∈pins',s.heap.get? p.1=some p.2/\H p.1=none/\p.1≠X.env.locals/\p.1∉X.fs/\∀v,p.2.data≠.cell v):Inv X pins' σ H s:=
 ⟨I.ok,I.os,I.bare,I.base,I.loc,I.cell,I.free,I.freeC,λp hp=>(dD.mp hp).elim (λz=>I.pin p (fH _ z)) (h p),I.hok,I.len⟩
theorem yY(hN:N.Nodup){i j:Nat}(a:N[i]?=some x)(b:N[j]?=some x):i=j:=by obtain⟨h1,e1⟩:=aV.mp a;obtain⟨h2,e2⟩:=aV.mp b;exact(hG hN).mp (e1.trans e2.symm)
theorem Fb{M:cO}{A:au}{i:Nat}{v:V}{u:aa}{Q:Unit->ae->Prop}(I:Inv X pins σ H s)(hN:X.N.Nodup)(hi:X.N[i]?=some x)(hx:Loc X.env.scope x)(r:RelV v u)
  (h:∀s',Inv X pins (σ.set i (some v)) H s'->(∃a,dM a s.heap s'.heap/\(a=X.env.locals\/X.env.cells.lookup x=some a))->Q () s') (hf:X.fn x=true\/X.env.scope.names.lookup x=some .local:=by first|exact .inl rfl|exact .inr rfl|assumption):af M A (storeName X.env x u) Q E s:=by
 obtain⟨m,hn,hl⟩:=id I.loc;have hcls:(X.env.scope.kind==.class||(X.env.scope.kind==.module&&X.env.locals != X.env.globals))=false:=by rw[I.ok.kind];rfl
 have hiσ:i<σ.length:=by rw[I.len];exact(aV.mp hi).1
 have cne:=I.cne;have tracked:∀{a:Addr} {h':Heap},(∃o,s.heap.get? a=some o/\H a=none)->dM a s.heap h'->HOk X.prog X.w H h':=λ{a h'} ha hs b ob e=>by
  obtain⟨_,_,hfree⟩:=ha;refine(I.hok b ob e).stay (λc w' hc q=>(hs.2 c ?_).trans q) (λ_ q=>q) λ_ _ q=>q;rintro rfl;rcases hc with rfl|hc
  ·rw[hfree]at e;cases e
  ·rw[hfree]at hc;cases hc
 rcases hx with hk|hk
 ·refine wpAny_storeName_local hk hn (λh' hn' hs=>?_) hcls;obtain⟨oL,_,_,hoL,_⟩:=id hn;refine h _ ⟨I.ok,I.os,I.bare,⟨λb o e n hb hx=>?_,λb o e n hb hx=>?_,I.base.free,λb o e hx=>?_,I.base.tups,I.base.frzs,I.base.tbls⟩,⟨_,hn',λj y v' e1 e2 e3=>?_⟩,λy c e=>?_,I.free,I.freeC,λp hp=>?_,tracked ⟨oL,hoL,I.free⟩ hs,by simpa using I.len⟩ ⟨_,hs,.inl rfl⟩
  ·exact(hs.2 b (aG (bD (aA e) I.ok.above))).trans (I.base.keep b o e n hb hx)
  ·obtain⟨sl,e1⟩:=I.base.slot b o e n hb hx;exact⟨sl,(hs.2 b (aG (bD (aA e) I.ok.above))).trans e1⟩
  ·obtain⟨o',e1⟩:=I.base.there b o e hx;exact⟨o',(hs.2 b (aG (bD (aA e) I.ok.above))).trans e1⟩
  ·by_cases hj:j=i
   ·subst hj;rw[hi]at e1;cases e1;rw[dR hiσ]at e2;cases e2;exact⟨u,r,.inl ⟨hk,by simp⟩⟩
   ·rw[cD (bP hj)]at e2;obtain⟨u',r',q⟩:=hl j y v' e1 e2 e3;refine⟨u',r',?_⟩;rcases q with ⟨k,e⟩|⟨k,c,e,z⟩
    ·refine .inl ⟨k,?_⟩;have:y≠x:=λe=>hj (yY hN e1 (e▸hi));simp[this,e]
    ·exact .inr ⟨k,c,e,z.sameBut hs (cne y c e)⟩
  ·obtain⟨w',z⟩:=I.cell y c e;exact⟨w',z.sameBut hs (cne y c e)⟩
  ·obtain⟨e,n,ne,nf,d⟩:=I.pin p hp;exact⟨(hs.2 p.1 ne).trans e,n,ne,nf,d⟩
 ·have hfn:X.fn x=true:=by
   rcases hf with z|z
   ·exact z
   ·rw[z]at hk;cases hk
  obtain⟨c,hc⟩:=I.ok.has x (.inl hk);obtain⟨w',z⟩:=I.cell x c hc;refine wpAny_storeName_cell I.ok.kind hk hc z (λh' hc' hs=>?_);obtain⟨oc,hoc,hocd⟩:=id z;refine h { s with heap:=h' } ⟨I.ok,I.os,I.bare,⟨λb o e n hb hx=>?_,λb o e n hb hx=>?_,I.base.free,λb o e hx=>?_,I.base.tups,I.base.frzs,I.base.tbls⟩,⟨m,hn.sameBut hs (bP (cne x c hc)),λj y v' e1 e2 e3=>?_⟩,λy c' e=>?_,I.free,I.freeC,λp hp=>?_,tracked ⟨oc,hoc,I.freeC x c hc⟩ hs,by simpa using I.len⟩ ⟨c,hs,.inr hc⟩
  ·exact(hs.2 b (aG (bD (aA e) (I.ok.cab x c hfn hc)))).trans (I.base.keep b o e n hb hx)
  ·obtain⟨sl,e1⟩:=I.base.slot b o e n hb hx;exact⟨sl,(hs.2 b (aG (bD (aA e) (I.ok.cab x c hfn hc)))).trans e1⟩
  ·obtain⟨o',e1⟩:=I.base.there b o e hx;exact⟨o',(hs.2 b (aG (bD (aA e) (I.ok.cab x c hfn hc)))).trans e1⟩
  ·by_cases hj:j=i
   ·subst hj;rw[hi]at e1;cases e1;rw[dR hiσ]at e2;cases e2;exact⟨u,r,.inr ⟨.inl hk,c,hc,hc'⟩⟩
   ·rw[cD (bP hj)]at e2;obtain⟨u',r',q⟩:=hl j y v' e1 e2 e3;refine⟨u',r',?_⟩;rcases q with q|⟨k,c',e,z'⟩
    ·exact .inl q
    ·refine .inr ⟨k,c',e,z'.sameBut hs ?_⟩;rintro rfl;exact hj (yY hN e1 (I.ok.inj _ _ _ e hc▸hi))
  ·by_cases hcc:c'=c
   ·subst hcc;exact⟨_,hc'⟩
   ·obtain⟨w2,z2⟩:=I.cell y c' e;exact⟨w2,z2.sameBut hs hcc⟩
  ·obtain⟨e,n,ne,nf,d⟩:=I.pin p hp;refine⟨(hs.2 p.1 ?_).trans e,n,ne,nf,d⟩;intro q;rw[q,hoc]at e;have q':oc=p.2:=bL e;exact d w' (by rw[<-q'];exact hocd)
theorem yZ{M:cO}{A:au}{i:Nat}{v:V}{u:aa}{Q:Unit->ae->Prop}(I:Inv X pins σ H s)(hN:X.N.Nodup)(hi:X.N[i]?=some x)(hx:Loc X.env.scope x)(r:RelV v u)
  (h:∀s',Inv X pins (σ.set i (some v)) H s'->Q () s') (hf:X.fn x=true\/X.env.scope.names.lookup x=some .local:=by first|exact .inl rfl|exact .inr rfl|assumption):af M A (storeName X.env x u) Q E s:=
 Fb I hN hi hx r (λs' I' _=>h s' I') hf
theorem Inv.call'(I:Inv X pins σ H s)(ho:s'.os=s.os)(u:Un (frs X.stack) ch H H' s.heap s'.heap)(hok:HOk X.prog X.w H' s'.heap)(hg:cA s'.gens)
  (hch:∀b∈ch,(b∈X.ex\/X.s₀.heap.objs.size<=b)/\b≠X.env.locals/\(∀x c,X.env.cells.lookup x=some c->c≠b)/\∀p∈X.pn++pins,p.1≠b):Inv X pins σ H' s':=by
 obtain⟨h',g',d',t',o'⟩:=s';have e:o'=s.os:=ho;subst e;exact I.call (g':=g') (t':=t') (d':=d') u hok hg hch
end
abbrev XK:=aa->Option Addr->Hp->Prop
abbrev St:=List (Option V)
abbrev VK:=V->Hp->Prop
abbrev TE:=St->Hp->VK->Prop
abbrev TT:=St->Hp->(Bool->Hp->Prop)->Prop
abbrev TA:=St->Hp->(List V->Hp->Prop)->Prop
structure Ends where
 nx:St->Hp->Prop
 rt:VK
 bk:St->Hp->Prop:=λ_ _=>False
 ct:St->Hp->Prop:=λ_ _=>False
abbrev TS:=Ends->St->Hp->Prop
def EP(X:Cx)(pins:List (Addr×Obj))(σ:St)(Q:VK)(u:aa)(s':ae):Prop:=∃v H',Inv X pins σ H' s'/\RelV v u/\Q v H'
def TP(X:Cx)(pins:List (Addr×Obj))(σ:St)(Q:Bool->Hp->Prop)(b:Bool)(s':ae):Prop:=∃H',Inv X pins σ H' s'/\Q b H'
def AP(X:Cx)(pins:List (Addr×Obj))(σ:St)(Q:List V->Hp->Prop)(us:List aa)(s':ae):Prop:=∃vs H',Inv X pins σ H' s'/\Vals vs us/\Q vs H'
def SP(X:Cx)(pins:List (Addr×Obj))(D:Ends)(f:Flow)(s':ae):Prop:=
 match f with
 |.next=>∃σ' H',Inv X pins σ' H' s'/\D.nx σ' H'
 |.brk=>∃σ' H',Inv X pins σ' H' s'/\D.bk σ' H'
 |.cont=>∃σ' H',Inv X pins σ' H' s'/\D.ct σ' H'
 |.ret u=>∃v σ' H',Inv X pins σ' H' s'/\RelV v u/\D.rt v H'
def PE(X:Cx)(e:Expr)(t:TE):Prop:=
 ∀(pins:List (Addr×Obj)) (s:ae) (σ:St) (H:Hp) (Q:VK),Inv X pins σ H s->t σ H Q->af (model X.prog X.w) X.A (eval e X.env) (EP X pins σ Q) X.xe s
def PT(X:Cx)(e:Expr)(t:TT):Prop:=
 ∀(pins:List (Addr×Obj)) (s:ae) (σ:St) (H:Hp) (Q:Bool->Hp->Prop),Inv X pins σ H s->t σ H Q->af (model X.prog X.w) X.A (isTrue e X.env (eval e X.env)) (TP X pins σ Q) X.xe s
def PW(X:Cx)(e:Expr)(t:TT):Prop:=
 ∀(whole:Sem aa) (pins:List (Addr×Obj)) (s:ae) (σ:St) (H:Hp) (Q:Bool->Hp->Prop),Inv X pins σ H s->t σ H Q->af (model X.prog X.w) X.A (isTrue e X.env whole) (TP X pins σ Q) X.xe s
variable{X:Cx}
theorem PW.pt{e:Expr}{t:TT}(h:PW X e t):PT X e t:=h _
def PA(X:Cx)(es:List Expr)(t:TA):Prop:=
 ∀(pos:Pos) (pins:List (Addr×Obj)) (s:ae) (σ:St) (H:Hp) (Q:List V->Hp->Prop),Inv X pins σ H s->t σ H Q->af (model X.prog X.w) X.A (spliced (aK pos (ao es X.env))) (AP X pins σ Q) X.xe s
def PS(X:Cx)(st:Stmt)(t:TS):Prop:=
 ∀(pins:List (Addr×Obj)) (s:ae) (σ:St) (H:Hp) (D:Ends),Inv X pins σ H s->t D σ H->af (model X.prog X.w) X.A (exec st X.env) (SP X pins D) X.xe s
def PSs(X:Cx)(st:List Stmt)(t:TS):Prop:=
 ∀(pins:List (Addr×Obj)) (s:ae) (σ:St) (H:Hp) (D:Ends),Inv X pins σ H s->t D σ H->af (model X.prog X.w) X.A (execs st X.env) (SP X pins D) X.xe s
theorem thn{α:Type}{t:Sem α}{Q Q':α->ae->Prop}{M:cO}{A:au}{s:ae}(h:af M A t Q E s)(hQ:∀a s,Q a s->Q' a s):af M A t Q' E s:=bf h hQ λ_ _ x=>x
variable{pins:List (Addr×Obj)}{σ:St}{pos:Pos}{Q:aa->ae->Prop}{op:dQ}
section
variable{X:Cx}
theorem bin{a b:Expr}{ta tb:TE}(ha:PE X a ta)(hb:PE X b tb){s:ae}{H:Hp}{R:V->V->Hp->Prop}(I:Inv X pins σ H s)(h:ta σ H λx H1=>tb σ H1 λy H2=>R x y H2)
  {α:Type} {Q:α->ae->Prop} {f:aa->aa->Sem α}
  (hf:∀v u s2 x y H2,Inv X pins σ H2 s2->RelV x v->RelV y u->R x y H2->af (model X.prog X.w) X.A (f v u) Q X.xe s2):
  af (model X.prog X.w) X.A (eval a X.env) (λv s₁=>af (model X.prog X.w) X.A (eval b X.env) (λu s₂=>af (model X.prog X.w) X.A (f v u) Q X.xe s₂) X.xe s₁) X.xe s:=by
 refine thn (ha pins s σ H _ I h) λv s1 zz=>?_;obtain⟨x,H1,I1,r1,q1⟩:=zz;refine thn (hb pins s1 σ H1 _ I1 q1) λu s2 zz=>?_;obtain⟨y,H2,I2,r2,q2⟩:=zz;exact hf v u s2 x y H2 I2 r1 r2 q2
def um(i:Nat):TE:=λσ H Q=>∃v,σ[i]?=some (some v)/\Q v H
def tC(v:V):TE:=λ_ H Q=>Q v H
theorem L9{i:Nat}(hN:X.N[i]?=some x)(hv:Vis X.env.scope x)(hd:(x==("__debug__" : Str))=false:=by decide)(hcd:(x==("__classdict__" : Str))=false:=by decide):PE X (.Name x pos) (um i):=by
 intro pins s σ H Q I h;obtain⟨v,e,h⟩:=h;obtain⟨m,hn,hl⟩:=I.loc;obtain⟨u,r,l⟩:=hl i x v hN e hv;have fin:EP X pins σ Q u s:=⟨v,H,I,r,h⟩;rcases l with ⟨hk,hm⟩|⟨hk,c,hc,hcell⟩
 ·exact iC (wpAny_loadName_local I.ok.kind hk hn hm fin) hd
 ·rcases hk with hk|hk
  ·exact iC (wpAny_loadName_cell I.ok.kind hk hc hcell fin) hd
  ·exact iC (wpAny_loadName_free I.ok.kind hk hc hcell fin hcd) hd
theorem Dc{i j pos}:PE X (.Constant (.int i) j pos) (tC (.int i)):=λ_ _ _ H _ I h=>wpAny_Constant_int ⟨.int i,H,I.tok _,⟨_,rfl⟩,h⟩
theorem Pt{b j pos}:PE X (.Constant (.bool b) j pos) (tC (.bl b)):=λ_ _ _ H _ I h=>Constant_bool ⟨.bl b,H,I,rfl,h⟩
theorem Ma{j pos}:PE X (.Constant .none j pos) (tC .non):=λ_ _ _ H _ I h=>Constant_none ⟨.non,H,I,rfl,h⟩
theorem Mb{x j pos}:PE X (.Constant (.str x) j pos) (tC (.str x)):=λ_ _ _ H _ I h=>Calls.Constant_str ⟨.str x,H,I.tok _,⟨_,rfl⟩,h⟩
def Gl(X:Cx)(x:Str):Prop:=X.env.kindOf x=some .globalImplicit
theorem rH{s:ae}{H:Hp}{u:aa}(I:Inv X pins σ H s)(hg:Gl X x)(hm:X.mg x=some u)(h:Q u s)
  (hd:(x==("__debug__" : Str))=false:=by decide):af (model X.prog X.w) X.A (eval (.Name x pos) X.env) Q E s:=
 iO I.ok.kind hg (Calls.loadGlobal_global (by rw[I.ok.glob];exact I.mod.glob.keeps I.bk) hm h) hd
theorem xG{s:ae}{H:Hp}{u:aa}(I:Inv X pins σ H s)(hg:Gl X x)(hm:X.mg x=none)(hv:cf x=some u)(h:Q u s)
  (hn:x≠"__name__" := by decide) (hd:(x==("__debug__" : Str))=false:=by decide):af (model X.prog X.w) X.A (eval (.Name x pos) X.env) Q E s:=by
 obtain⟨mb,h1,h2⟩:=I.mod.blt;exact iO I.ok.kind hg (Calls.loadGlobal_builtin (by rw[I.ok.glob];exact I.mod.glob.keeps I.bk) hm (by rw[I.ok.blt];exact h1.keeps I.bk) ((h2 x hn).trans hv) h) hd
theorem wO{v:V}{u:aa}(hg:Gl X x)(hm:X.mg x=some u)(r:RelV v u)(hd:(x==("__debug__" : Str))=false:=by decide):PE X (.Name x pos) (tC v):=
 λ_ _ _ H _ I h=>rH I hg hm ⟨v,H,I,r,h⟩ hd
theorem D3{v:V}{u:aa}(hg:Gl X x)(hm:X.mg x=none)(hv:cf x=some u)(r:RelV v u)(hn:x≠"__name__" := by decide)(hd:(x==("__debug__" : Str))=false:=by decide):PE X (.Name x pos) (tC v):=
 λ_ _ _ H _ I h=>xG I hg hm hv ⟨v,H,I,r,h⟩ hn hd
variable{a b:Expr}{ta tb:TE}{pos:Pos}
def PC(X:Cx)(op:dQ)(a b:Expr)(t:TE):Prop:=
 ∀(pins:List (Addr×Obj)) (s:ae) (σ:St) (H:Hp) (Q:VK),Inv X pins σ H s->t σ H Q->
  af (model X.prog X.w) X.A (eval a X.env) (λv s₁=>af (model X.prog X.w) X.A (eval b X.env) (λu s₂=>af (model X.prog X.w) X.A (aI op v u) (EP X pins σ Q) X.xe s₂) X.xe s₁) X.xe s
def tB(t:TE):TT:=λσ H Q=>t σ H λx H1=>∃c,x=.bl c/\Q c H1
theorem Re{t:TE}(h:PC X op a b t)(h1:dH op b=false:=by first|exact nobehind _ (by decide) (by decide)|rfl):PT X (.Compare a [op] [b] pos) (tB t):=by intro pins s σ H Q I hw;refine jc (thn (h pins s σ H _ I hw) λv s1 h1=>thn h1 λu s2 h2=>thn h2 λc s3 zz=>?_) h1;obtain⟨x,H1,I1,r1,q1⟩:=zz;obtain⟨d,rfl,q⟩:=q1;cases r1;exact bY ⟨H1,I1,q⟩
theorem Mc{e:Expr}{t:TE}(h:PE X e t)(he:∀whole,isTrue e X.env whole=(do let v<-whole;standAt e.pos;holding [v] (truthy v)):=by intro _;rfl):PT X e (tB t):=by intro pins s σ H Q I hw;refine isTrue_plain (thn (h pins s σ H _ I hw) λv s1 zz=>?_) (he _);obtain⟨x,H1,I1,r1,q1⟩:=zz;obtain⟨d,rfl,q⟩:=q1;cases r1;exact bY ⟨H1,I1,q⟩
variable{tA tB':TT}{rest:List Expr}
def tOr(t u:TT):TT:=λσ H Q=>t σ H λc H1=>if c=true then Q true H1 else u σ H1 Q
def Rf(t:TT):TT:=λσ H Q=>t σ H λc H1=>Q (!c) H1
theorem Md(ha:PT X a tA):PW X (.BoolOp .Or [a] pos) tA:=by
 intro wh pins s σ H Q I h;refine isTrue_or (thn (ha pins s σ H Q I h) λc s1 e=>?_);cases c with
 |false=>exact isTrue_or_nil e
 |true=>exact e
theorem Pu(ha:PT X a tA)(hb:PW X (.BoolOp .Or (b::rest) pos) tB'):PW X (.BoolOp .Or (a::b::rest) pos) (tOr tA tB'):=by
 intro wh pins s σ H Q I h;refine isTrue_or (thn (ha pins s σ H _ I h) λc s1 zz=>?_);obtain⟨H1,I1,q1⟩:=zz;cases c with
 |true=>exact⟨H1,I1,q1⟩
 |false=>exact hb wh pins s1 σ H1 Q I1 q1
theorem Me(ha:PT X a tA):PT X (.UnaryOp .Not a pos) (Rf tA):=by intro pins s σ H Q I h;exact isTrue_not (ha pins s σ H (λc H1=>Q (!c) H1) I h)
def Pw(ta tb:TE):TE:=λσ H Q=>ta σ H λx H1=>∃c,x=.bl c/\if c=true then tb σ H1 Q else Q (.bl false) H1
def Rg(ta tb:TE):TE:=λσ H Q=>ta σ H λx H1=>∃c,x=.bl c/\if c=true then Q (.bl true) H1 else tb σ H1 Q
def Px(ta:TE):TE:=λσ H Q=>ta σ H λx H1=>∃c,x=.bl c/\Q (.bl (!c)) H1
theorem Mg{op}{t:TE}(h:PE X a t):PE X (.BoolOp op [a] pos) t:=λpins s σ H Q I hw=>BoolOp_one (h pins s σ H Q I hw)
theorem Mh(ha:PE X a ta)(hb:PE X (.BoolOp .And (b::rest) pos) tb):PE X (.BoolOp .And (a::b::rest) pos) (Pw ta tb):=by
 intro pins s σ H Q I h;refine BoolOp_and (thn (ha pins s σ H _ I h) λv s1 zz=>?_);obtain⟨x,H1,I1,r1,q1⟩:=zz;obtain⟨c,rfl,q1⟩:=q1;cases r1;refine bY ?_;cases c with
 |true=>exact hb pins s1 σ H1 Q I1 q1
 |false=>exact⟨.bl false,H1,I1,rfl,q1⟩
theorem Py(ha:PE X a ta)(hb:PE X (.BoolOp .Or (b::rest) pos) tb):PE X (.BoolOp .Or (a::b::rest) pos) (Rg ta tb):=by
 intro pins s σ H Q I h;refine BoolOp_or (thn (ha pins s σ H _ I h) λv s1 zz=>?_);obtain⟨x,H1,I1,r1,q1⟩:=zz;obtain⟨c,rfl,q1⟩:=q1;cases r1;refine bY ?_;cases c with
 |false=>exact hb pins s1 σ H1 Q I1 q1
 |true=>exact⟨.bl true,H1,I1,rfl,q1⟩
theorem Dd(ha:PE X a ta):PE X (.UnaryOp .Not a pos) (Px ta):=by intro pins s σ H Q I h;refine UnaryOp_ (thn (ha pins s σ H _ I h) λv s1 zz=>?_);obtain⟨x,H1,I1,r1,q1⟩:=zz;obtain⟨c,rfl,q1⟩:=q1;cases r1;exact not_of (bY ⟨.bl (!c),H1,I1,rfl,q1⟩)
def tIf(t:TT)(ta tb:TE):TE:=λσ H Q=>t σ H λc H1=>if c=true then ta σ H1 Q else tb σ H1 Q
theorem Gj{c:Expr}(hc:PT X c tA)(ha:PE X a ta)(hb:PE X b tb):PE X (.IfExp c a b pos) (tIf tA ta tb):=by
 intro pins s σ H Q I h;refine wpAny_IfExp (thn (hc pins s σ H _ I h) λd s1 zz=>?_);obtain⟨H1,I1,q1⟩:=zz;cases d with
 |true=>exact ha pins s1 σ H1 Q I1 q1
 |false=>exact hb pins s1 σ H1 Q I1 q1
end
def SqL(K:W.Frag)(H:Hp)(a:Addr)(xs:List V):Prop:=
 Rd H a (.lst xs)\/
  ∃(o:Obj) (its:Array aa) (n:Nat),K.lookup a=some o/\o.cls=.type "list" /\ o.dict=none/\o.data=.seq its n/\its.size<=av/\Vals xs its.toList
def SqT(K:W.Frag)(H:Hp)(a:Addr)(xs:List V):Prop:=
 Rd H a (.tup xs)\/
  ∃(o:Obj) (its:Array aa) (n:Nat),K.lookup a=some o/\o.cls=.type "tuple" /\ o.data=.seq its n/\its.size<=av/\Vals xs its.toList
def Rh:aa->Option V
 |.none=>some .non
 |.bool b=>some (.bl b)
 |.int i _=>some (.int i)
 |.str x _=>some (.str x)
 |.bytes b _=>some (.byt b)
 |.float b _=>some (.flt b)
 |.ref a=>some (.ref a)
 |.type n=>some (.ty n)
 |_=>none
theorem RelV.abs{x:V}{u:aa}(r:RelV x u):Rh u=some x:=by
 cases x with
 |non=>cases r;rfl
 |bl _=>cases r;rfl
 |int _=>obtain⟨t,rfl⟩:=r;rfl
 |str _=>obtain⟨t,rfl⟩:=r;rfl
 |byt _=>obtain⟨t,rfl⟩:=r;rfl
 |flt _=>obtain⟨t,rfl⟩:=r;rfl
 |ref _=>cases r;rfl
 |ty _=>cases r;rfl
theorem RelV.inj{x y:V}{u:aa}(r:RelV x u)(q:RelV y u):x=y:=bL (r.abs.symm.trans q.abs)
theorem Vals.inj:∀{xs ys:List V} {us:List aa},Vals xs us->Vals ys us->xs=ys
 |_,_,_,.nil,.nil=>rfl
 |_,_,_,.cons r t,.cons r' t'=>by rw[r.inj r',Vals.inj t t']
section
variable{X:Cx}{pins:List (Addr×Obj)}{σ:St}{H:Hp}{s:ae}{a:Addr}{xs ys:List V}
theorem SqL.of{K:W.Frag}(h:H a=some (.lst xs)):SqL K H a xs:=.inl (.inl h)
theorem SqT.of{K:W.Frag}(h:H a=some (.tup xs)):SqT K H a xs:=.inl (.inl h)
theorem Inv.list(I:Inv X pins σ H s)(h:SqL X.K H a xs):∃its:List aa,Vals xs its/\PlainL s.heap a its.toArray/\xs.length<=av:=by
 rcases h with h|⟨o,its,n,hk,hc,hd,hs,hz,r⟩
 ·obtain⟨z,its,n,r,e⟩:=h.ok I.hok;exact⟨its,r,⟨_,n,e,rfl,rfl,rfl⟩,z⟩
 ·refine⟨its.toList,r,⟨o,n,I.kIn a o hk,hc,hd,by simpa using hs⟩,?_⟩;have e:=r.length;simp only[bK]at e;omega
theorem Inv.tuple(I:Inv X pins σ H s)(h:SqT X.K H a xs):∃its:List aa,Vals xs its/\IsTup s.heap a its.toArray/\xs.length<=av:=by
 rcases h with h|⟨o,its,n,hk,hc,hs,hz,r⟩
 ·obtain⟨z,its,r,p⟩:=h.ok I.hok;exact⟨its,r,p,z⟩
 ·refine⟨its.toList,r,⟨o,I.kIn a o hk,hc,n,by simpa using hs⟩,?_⟩;have e:=r.length;simp only[bK]at e;omega
theorem Inv.list_inj(I:Inv X pins σ H s)(h:SqL X.K H a xs)(h':SqL X.K H a ys):xs=ys:=by
 obtain⟨its,r,⟨o,n,e,_,_,d⟩,_⟩:=I.list h;obtain⟨its',r',⟨o',n',e',_,_,d'⟩,_⟩:=I.list h';rw[e]at e';cases e';rw[d]at d';injection d' with d1 _;have:its=its':=by simpa using aS kN d1
 subst this;exact r.inj r'
theorem Inv.tuple_inj(I:Inv X pins σ H s)(h:SqT X.K H a xs)(h':SqT X.K H a ys):xs=ys:=by
 obtain⟨its,r,⟨o,e,_,n,d⟩,_⟩:=I.tuple h;obtain⟨its',r',⟨o',e',_,n',d'⟩,_⟩:=I.tuple h';rw[e]at e';cases e';rw[d]at d';injection d' with d1 _;have:its=its':=by simpa using aS kN d1
 subst this;exact r.inj r'
end
abbrev Cx.wish(X:Cx)(E:aa->ae->Prop):Cx:={ X with xe:=E }
abbrev Cx.nox(X:Cx):Cx:=X.wish λ_ _=>False
theorem Cx.Ok.wish(ok:X.Ok)(E:aa->ae->Prop):(X.wish E).Ok:=
 ⟨ok.mod,ok.kind,ok.glob,ok.blt,ok.above,ok.inj,ok.has,ok.cab,ok.hd,ok.frames,ok.stk,ok.exf,ok.bs,ok.bsz,ok.noex,ok.exfs,ok.funs,ok.frf⟩
theorem Cx.Ok.unwish(ok:(X.wish E).Ok):X.Ok:=
 ⟨ok.mod,ok.kind,ok.glob,ok.blt,ok.above,ok.inj,ok.has,ok.cab,ok.hd,ok.frames,ok.stk,ok.exf,ok.bs,ok.bsz,ok.noex,ok.exfs,ok.funs,ok.frf⟩
section
variable{X:Cx}{pins:List (Addr×Obj)}{σ:St}{H:Hp}{s:ae}{E:aa->ae->Prop}
theorem Inv.wish(I:Inv X pins σ H s)(E:aa->ae->Prop):Inv (X.wish E) pins σ H s:=⟨I.ok.wish E,I.os,I.bare,I.base,I.loc,I.cell,I.free,I.freeC,I.pin,I.hok,I.len⟩
theorem Inv.unwish(I:Inv (X.wish E) pins σ H s):Inv X pins σ H s:=⟨I.ok.unwish,I.os,I.bare,I.base,I.loc,I.cell,I.free,I.freeC,I.pin,I.hok,I.len⟩
theorem SP.unwish{D:Ends}{f:Flow}(h:SP (X.wish E) pins D f s'):SP X pins D f s':=by
 cases f with
 |next=>obtain⟨σ',H',I,q⟩:=h;exact⟨σ',H',I.unwish,q⟩
 |brk=>obtain⟨σ',H',I,q⟩:=h;exact⟨σ',H',I.unwish,q⟩
 |cont=>obtain⟨σ',H',I,q⟩:=h;exact⟨σ',H',I.unwish,q⟩
 |ret u=>obtain⟨v,σ',H',I,r,q⟩:=h;exact⟨v,σ',H',I.unwish,r,q⟩
theorem PSs.nox{st:List Stmt}{t:TS}(h:PSs X.nox st t):PSs X st t:=λpins s σ H D I hw=>
 bf (h pins s σ H D (I.wish _) hw) (λ_ _ q=>q.unwish) λ_ _ z=>bA z
end
section
variable{X:Cx}{st:Stmt}{rest:List Stmt}{t u:TS}{e:Expr}{te:TE}{pos:Pos}
def Pz:TS:=λD σ H=>D.nx σ H
def Rj(t u:TS):TS:=λD σ H=>t { D with nx:=u D } σ H
theorem D4:PSs X [] Pz:=λ_ _ σ H _ I h=>dE ⟨σ,H,I,h⟩
theorem u4(h1:PS X st t)(h2:PSs X rest u):PSs X (st::rest) (Rj t u):=by
 intro pins s σ H D I h;refine fR (thn (h1 pins s σ H { D with nx:=u D } I h) λf s1 q=>?_);cases f with
 |next=>obtain⟨σ',H',I',q⟩:=q;exact h2 pins s1 σ' H' D I' q
 |ret v=>exact q
 |brk=>exact q
 |cont=>exact q
theorem wQ(h1:PS X st t):PSs X [st] t:=by
 intro pins s σ H D I h;refine fR (thn (h1 pins s σ H D I h) λf s1 q=>?_);cases f with
 |next=>exact dE q
 |ret v=>exact q
 |brk=>exact q
 |cont=>exact q
theorem Inv.quiet{H:Hp}{s:ae}(I:Inv X pins σ H s):interactive X.env=false:=by simp[interactive,I.ok.kind]
def Gk(te:TE):TS:=λD σ H=>te σ H λ_ H1=>D.nx σ H1
theorem Bp(he:PE X e te)(hs:bu e none pos.line X.env=pure false:=by rfl):PS X (.Expr e pos) (Gk te):=by intro pins s σ H D I h;exact ig (thn (he pins s σ H _ I h) λv s1 ⟨x,H1,I1,r1,q1⟩=>⟨σ,H1,I1,q1⟩) I.quiet hs
def Mi(te:TE):TS:=λD σ H=>te σ H D.rt
theorem Bq(he:PE X e te):PS X (.Return (some e) pos) (Mi te):=by intro pins s σ H D I h;exact wpAny_Return_some (thn (he pins s σ H _ I h) λv s1 ⟨x,H1,I1,r1,q1⟩=>⟨x,σ,H1,I1,r1,q1⟩)
def Rk(c:TT)(t u:TS):TS:=λD σ H=>c σ H λb H1=>if b=true then t D σ H1 else u D σ H1
theorem Lq{c:Expr}{a b:List Stmt}{tc:TT}(hc:PT X c tc)(ha:PSs X a t)(hb:PSs X b u):PS X (.If c a b pos) (Rk tc t u):=by
 intro pins s σ H D I h;refine wpAny_If (thn (hc pins s σ H _ I h) λd s1 zz=>?_);obtain⟨H1,I1,q1⟩:=zz;cases d with
 |true=>exact ha pins s1 σ H1 D I1 q1
 |false=>exact hb pins s1 σ H1 D I1 q1
end
abbrev TG:=V->St->Hp->(St->Hp->Prop)->Prop
abbrev TGs:=List V->St->Hp->(St->Hp->Prop)->Prop
def PG(X:Cx)(target:Expr)(t:TG):Prop:=
 ∀(pins:List (Addr×Obj)) (s:ae) (σ:St) (H:Hp) (v:V) (u:aa) (Q:St->Hp->Prop),Inv X pins σ H s->RelV v u->t v σ H Q->
  af (model X.prog X.w) X.A (assign target X.env u) (λ_ s'=>∃σ' H',Inv X pins σ' H' s'/\Q σ' H') X.xe s
def PGs(X:Cx)(ts:List Expr)(t:TGs):Prop:=
 ∀(pins:List (Addr×Obj)) (s:ae) (σ:St) (H:Hp) (vs:List V) (us:List aa) (Q:St->Hp->Prop),Inv X pins σ H s->Vals vs us->t vs σ H Q->
  af (model X.prog X.w) X.A (assignInOrder ((bT ts X.env).map (·.2)) us) (λ_ s'=>∃σ' H',Inv X pins σ' H' s'/\Q σ' H') X.xe s
abbrev Mj:=V->V->V->Hp->(Hp->Prop)->Prop
def PB(X:Cx)(t:Mj):Prop:=
 ∀(pins:List (Addr×Obj)) (s:ae) (σ:St) (H:Hp) (o i v:V) (ov iv u:aa) (Q:Hp->Prop),Inv X pins σ H s->RelV o ov->RelV i iv->RelV v u->t o i v H Q->
  af (model X.prog X.w) X.A (setItem ov iv u) (λ_ s'=>∃H',Inv X pins σ H' s'/\Q H') X.xe s
variable{tg:Expr}{te:TE}
section
variable{X:Cx}{pos:Pos}
def sS(i:Nat):TG:=λv σ H Q=>Q (σ.set i (some v)) H
theorem D5{i:Nat}(hN:X.N.Nodup)(hi:X.N[i]?=some x)(hx:Loc X.env.scope x)(hf:X.fn x=true\/X.env.scope.names.lookup x=some .local:=by first|exact .inl rfl|exact .inr rfl|assumption):PG X (.Name x pos) (sS i):=by intro pins s σ H v u Q I r h;exact wpAny_assign_Name (yZ I hN hi hx r (λs' I'=>⟨_,H,I',h⟩) hf)
def PD:TGs:=λvs σ H Q=>vs=[]/\Q σ H
def Lr(t:TG)(u:TGs):TGs:=λvs σ H Q=>∃v r,vs=v::r/\t v σ H λσ' H'=>u r σ' H' Q
theorem Js:PGs X [] PD:=by intro pins s σ H vs us Q I r h;obtain⟨e,h⟩:=h;subst e;cases r;exact assignInOrder_nil ⟨σ,H,I,h⟩
theorem Gm{e:Expr}{es:List Expr}{t:TG}{u:TGs}(h1:PG X e t)(h2:PGs X es u)
  (hs:(bT (e::es) X.env).map (·.2)=assign e X.env::(bT es X.env).map (·.2):=by rfl):PGs X (e::es) (Lr t u):=by
 intro pins s σ H vs us Q I r h;obtain⟨v,vr,e1,h⟩:=h;subst e1;cases r with
 |cons r rr=>rw[hs];refine assignInOrder_cons (thn (h1 pins s σ H _ _ _ I r h) λ_ s1 zz=>?_);obtain⟨σ1,H1,I1,q1⟩:=zz;exact h2 pins s1 σ1 H1 _ _ Q I1 rr q1
def PF(to ti:TE)(t:Mj):TG:=λv σ H Q=>to σ H λo H1=>ti σ H1 λi H2=>t o i v H2 λH3=>Q σ H3
theorem Ml{o i:Expr}{to ti:TE}{t:Mj}(ho:PE X o to)(hi:PE X i ti)(hs:PB X t)
  (ha:∀v,assign (.Subscript o i pos) X.env v=(do
   let ov<-holding [v] (eval o X.env);let iv<-holding [v,ov] (eval i X.env)
   standAt pos
   holding [v,ov,iv] (setItem ov iv v)
   release [v,ov,iv] []):=by intro _;rfl):PG X (.Subscript o i pos) (PF to ti t):=by
 intro pins s σ H v u Q I r h;rw[ha];refine ai (bC (thn (ho pins s σ H _ I h) λov s1 zz=>?_));obtain⟨x,H1,I1,r1,q1⟩:=zz;refine ai (bC (thn (hi pins s1 σ H1 _ I1 q1) λiv s2 zz=>?_));obtain⟨y,H2,I2,r2,q2⟩:=zz;refine ai (fX (ai (bC (thn (hs pins s2 σ H2 x y v ov iv u _ I2 r1 r2 r q2) λ_ s3 zz=>?_))));obtain⟨H3,I3,q3⟩:=zz;exact wpAny_release ⟨σ,H3,I3,q3⟩
def wH(te:TE)(g:TG):TS:=λD σ H=>te σ H λx H1=>g x σ H1 D.nx
theorem Gp{e:Expr}{g:TG}(he:PE X e te)(hg:PG X tg g)(hs:swapsWithSole [tg] e pos.line X.env=pure false:=by rfl)(hw:swappedStores [tg] e X.env=pure none:=by rfl)
  (h1:(bT [tg] X.env).map (·.2)=[assign tg X.env]:=by rfl):PS X (.Assign [tg] e pos) (wH te g):=by
 intro pins s σ H D I h;refine wpAny_Assign_stores (thn (he pins s σ H _ I h) λv s1 zz=>?_) hs hw;obtain⟨x,H1,I1,r1,q1⟩:=zz;rw[h1];exact thn (hg pins s1 σ H1 x v _ I1 r1 q1) λ_ s2 q=>q
theorem De{i:Nat}{e:Expr}{pos':Pos}(hN:X.N.Nodup)(hi:X.N[i]?=some x)(hx:Loc X.env.scope x)(he:PE X e te)(hs:bu e (some (.Name x pos')) pos.line X.env=pure false:=by rfl)(hf:X.fn x=true\/X.env.scope.names.lookup x=some .local:=by first|exact .inl rfl|exact .inr rfl|assumption):
  PS X (.Assign [.Name x pos'] e pos) (wH te (sS i)):=by
 intro pins s σ H D I h;refine wpAny_Assign_Name (thn (he pins s σ H _ I h) λv s1 zz=>?_) hs;obtain⟨y,H1,I1,r1,q1⟩:=zz;exact yZ I1 hN hi hx r1 (λs2 I2=>⟨_,H1,I2,q1⟩) hf
end
structure It where
 go:Nat->Hp->Prop
 yld:Nat->Hp->V->Hp->Prop
 stop:Nat->Hp->Prop
def Br(X:Cx)(pins:List (Addr×Obj))(H:Hp)(b:Addr):Prop:=
 H b=none/\b≠X.env.locals/\b∉X.fs/\(b∈X.ex\/X.s₀.heap.objs.size<=b)/\(∀x c,X.env.cells.lookup x=some c->c≠b)/\∀p∈X.pn++pins,p.1≠b
theorem Inv.fpOk{H H':Hp}{s:ae}{b:Addr}(I:Inv X pins σ H s)(hb:s.heap.objs.size<=b)(hn:H' b=none):Br X pins H' b:=by
 refine⟨hn,ir (bD I.lt hb),I.nofs hb,.inr (bz I.sz hb),λx c e z=>?_,λp hp z=>?_⟩
 ·obtain⟨v,q⟩:=I.cell x c e;exact ak (bD q.lt (by rw[z];exact hb)) (c6 _)
 ·exact ak (bD (aA (I.pin p hp).1) (by rw[z];exact hb)) (c6 _)
structure Turn(P:aq)(w:aj)(K:W.Frag)(tg:Expr)(J:It)(fp:List Addr)(it:Addr)(tn:Nat->Heap->Prop):Prop where
 mem:it∈fp
 obj:∀i h,tn i h->∀b∈fp,∃o,h.get? b=some o/\∀v,o.data≠.cell v
 keep:∀i h h',tn i h->(∀b∈fp,∀o,h.get? b=some o->h'.get? b=some o)->tn i h'
 item:∀(X:Cx),X.prog=P->X.w=w->X.K=K->X.calm=true->∀(i:Nat) (pins:List (Addr×Obj)) (s:ae) (σ:St) (H:Hp) (E:aa->ae->Prop),Inv X pins σ H s->(∀b∈fp,Br X pins H b)->tn i s.heap->J.go i H->
  af (model P w) X.A (pyNext (.ref it)) (λr s1=>∃u,r=some u/\
   af (model P w) X.A (d0 tg (.ref it) u) (λ_ s2=>∃x H',Inv X pins σ H' s2/\RelV x u/\J.yld i H x H'/\tn (i+1) s2.heap/\∀b∈fp,H' b=none) E s1) E s
 done:∀(X:Cx),X.prog=P->X.w=w->X.K=K->X.calm=true->∀(i:Nat) (pins:List (Addr×Obj)) (s:ae) (σ:St) (H:Hp) (E:aa->ae->Prop),Inv X pins σ H s->(∀b∈fp,Br X pins H b)->tn i s.heap->J.stop i H->
  af (model P w) X.A (pyNext (.ref it)) (λr s1=>r=none/\Inv X pins σ H s1) E s
 self:∀(A:au) (i:Nat) (s:ae) (Q:aa->ae->Prop) (E:aa->ae->Prop),tn i s.heap->Q (.ref it) s->af (model P w) A (pyIter (.ref it)) Q E s
abbrev TI:=St->Hp->(It->Hp->Prop)->Prop
def PIE(X:Cx)(pins:List (Addr×Obj))(σ:St)(tg:Expr)(R:It->Hp->Prop)(itv:aa)(s2:ae):Prop:=
 ∃(it:Addr) (fp:List Addr) (tn:Nat->Heap->Prop) (J:It) (H':Hp),itv=.ref it/\Inv X pins σ H' s2/\Turn X.prog X.w X.K tg J fp it tn/\tn 0 s2.heap/\(∀b∈fp,Br X pins H' b)/\R J H'
def PI(X:Cx)(tg iter:Expr)(wi:TI):Prop:=
 ∀(pins:List (Addr×Obj)) (s:ae) (σ:St) (H:Hp) (R:It->Hp->Prop),Inv X pins σ H s->wi σ H R->
  af (model X.prog X.w) X.A (eval iter X.env) (λv s1=>af (model X.prog X.w) X.A (pyIter v) (PIE X pins σ tg R) X.xe s1) X.xe s
theorem D6{M:cO}{A:au}{s:ae}{u:aa}{o:Obj}{n:String}{vs:Array aa}{Q:Unit->ae->Prop}(ho:s.heap.get? it=some o)(hc:o.cls=.type n)(hd:o.data=.fields vs)
  (hn:["enumerate", "zip", "dict_itemiterator", "dict_reverseitemiterator", "odict_iterator", "itertools.zip_longest", "itertools.pairwise"].contains n=false) (hQ:Q () s):af M A (d0 tg (.ref it) u) Q E s:=by
 unfold d0;cases tg<;>first
  |exact aw hQ
  |(cases u<;>first
    |exact aw hQ
    |(refine ai (wpAny_load ho ?_)
      rw[hc,hd];show af M A (if (["enumerate", "zip", "dict_itemiterator", "dict_reverseitemiterator", "odict_iterator", "itertools.zip_longest", "itertools.pairwise"].contains n&&vs[0]?==some (rawInt _))=true then _ else _) Q E s;rw[ah (by intro h;rw[hn,fV]at h;cases h)];exact aw hQ))
def Itl(K:W.Frag)(a:Addr):It:=
 ⟨λi H=>∃xs x,SqL K H a xs/\xs[i]?=some x,λi H x H'=>H'=H/\∀xs,SqL K H a xs->xs[i]?=some x,λi H=>∃xs,SqL K H a xs/\xs.length<=i⟩
def Itt(K:W.Frag)(a:Addr):It:=
 ⟨λi H=>∃xs x,SqT K H a xs/\xs[i]?=some x,λi H x H'=>H'=H/\∀xs,SqT K H a xs->xs[i]?=some x,λi H=>∃xs,SqT K H a xs/\xs.length<=i⟩
def Itr(lo:Int)(n:Nat):It:=⟨λi _=>i<n,λi H x H'=>H'=H/\x=.int (lo+i),λi _=>n<=i⟩
theorem Fc{P:aq}{w:aj}{K:W.Frag}(a it:Addr):Turn P w K tg (Itl K a) [it] it (λi h=>h.IsListIter it a i) where
 mem:=by simp
 obj:=λi h st b hb=>by
  have e:b=it:=by simpa using hb
  subst e;obtain⟨o,e,c,d⟩:=st;exact⟨o,e,λv z=>by rw[d]at z;cases z⟩
 keep:=λi h h' st k=>st.at λo e=>k it (by simp) o e
 item:=by intro X hP hw hK hc i pins s σ H E I hf st hg;subst hP hw hK;obtain⟨xs,x,hq,hx⟩:=hg;obtain⟨its,rv,p,hz⟩:=I.list hq;obtain⟨u,hu,ru⟩:=rv.get hx;obtain⟨f0,f1,f2,f3,f4,f5⟩:=hf it (by simp);refine i5 st p.isList (x:=u) (by simpa using hu) λh' st' sb=>?_;have I1:Inv X pins σ H { s with heap:=h' }:=I.turned (t':=s.toks) (λb o hb e=>(sb.2 b hb).trans e) f0 f1 f3 f4 f5;obtain⟨o,e,c,d⟩:=id st';exact⟨u,rfl,D6 (s:={ s with heap:=h' }) e c d (by decide) ⟨x,H,I1,ru,⟨rfl,λys hy=>by rw[I.list_inj hy hq];exact hx⟩,st',λb hb=>(hf b hb).1⟩⟩
 done:=by intro X hP hw hK hc i pins s σ H E I hf st hg;subst hP hw hK;obtain⟨xs,hq,hx⟩:=hg;obtain⟨its,rv,p,hz⟩:=I.list hq;obtain⟨f0,f1,f2,f3,f4,f5⟩:=hf it (by simp);have hl:=rv.length;exact jd (I.ok.hd hc) st p.isList (by simp;omega) λh' eb=>⟨rfl,I.turned (t':=s.toks) (λb o hb e=>eb b o hb e) f0 f1 f3 f4 f5⟩
 self:=λ_ _ _ _ _ st h=>wpAny_pyIter_listiter st h
theorem Dg{P:aq}{w:aj}{K:W.Frag}(a it:Addr):Turn P w K tg (Itt K a) [it] it (λi h=>h.IsTupleIter it a i) where
 mem:=by simp
 obj:=λi h st b hb=>by
  have e:b=it:=by simpa using hb
  subst e;obtain⟨o,e,c,d⟩:=st;exact⟨o,e,λv z=>by rw[d]at z;cases z⟩
 keep:=λi h h' st k=>st.at λo e=>k it (by simp) o e
 item:=by intro X hP hw hK hc i pins s σ H E I hf st hg;subst hP hw hK;obtain⟨xs,x,hq,hx⟩:=hg;obtain⟨its,rv,p,hz⟩:=I.tuple hq;obtain⟨u,hu,ru⟩:=rv.get hx;obtain⟨f0,f1,f2,f3,f4,f5⟩:=hf it (by simp);refine wpAny_pyNext_tuple_item st (show s.heap.IsTuple a its.toArray from p) (x:=u) (by simpa using hu) λh' st' sb=>?_;have I1:Inv X pins σ H { s with heap:=h' }:=I.turned (t':=s.toks) (λb o hb e=>(sb.2 b hb).trans e) f0 f1 f3 f4 f5;obtain⟨o,e,c,d⟩:=id st';exact⟨u,rfl,D6 (s:={ s with heap:=h' }) e c d (by decide) ⟨x,H,I1,ru,⟨rfl,λys hy=>by rw[I.tuple_inj hy hq];exact hx⟩,st',λb hb=>(hf b hb).1⟩⟩
 done:=by intro X hP hw hK hc i pins s σ H E I hf st hg;subst hP hw hK;obtain⟨xs,hq,hx⟩:=hg;obtain⟨its,rv,p,hz⟩:=I.tuple hq;obtain⟨f0,f1,f2,f3,f4,f5⟩:=hf it (by simp);have hl:=rv.length;exact wpAny_pyNext_tuple_end (I.ok.hd hc) st (show s.heap.IsTuple a its.toArray from p) (by simp;omega) λh' eb=>⟨rfl,I.turned (t':=s.toks) (λb o hb e=>eb b o hb e) f0 f1 f3 f4 f5⟩
 self:=λ_ _ _ _ _ st h=>wpAny_pyIter_tupleiter st h
theorem Dh{P:aq}{w:aj}{K:W.Frag}(it:Addr)(lo:Int)(n:Nat):Turn P w K tg (Itr lo n) [it] it (λi h=>IsRangeIter h it (lo+(i:Nat) * 1) ((n:Int) - (i:Nat)) 1) where
 mem:=by simp
 obj:=λi h st b hb=>by
  have e:b=it:=by simpa using hb
  subst e;exact⟨_,st,λv z=>by
   have z':Data.fields _=Data.cell v:=z;cases z'⟩
 keep:=λi h h' st k=>k it (by simp) _ st
 item:=by intro X hP hw hK hc i pins s σ H E I hf st hg;subst hP hw hK;obtain⟨f0,f1,f2,f3,f4,f5⟩:=hf it (by simp);have W:=Walks.range (prog:=X.prog) (w:=X.w) (I.ok.hd hc) it lo 1 n;refine W.item i s _ _ hg st λv h' tk hv st' kk=>?_;obtain⟨t,rfl⟩:=hv;have I1:Inv X pins σ H { s with heap:=h',toks:=tk }:=I.turned (λb o hb e=>kk b o (by simpa using hb) e) f0 f1 f3 f4 f5;refine⟨_,rfl,D6 (s:={ s with heap:=h',toks:=tk }) (n:="range_iterator") st' rfl rfl (by decide) ⟨.int (lo+i),H,I1,⟨t,?_⟩,⟨rfl,rfl⟩,st',λb hb=>(hf b hb).1⟩⟩;rw[Int.mul_one]
 done:=by intro X hP hw hK hc i pins s σ H E I hf st hg;subst hP hw hK;obtain⟨f0,f1,f2,f3,f4,f5⟩:=hf it (by simp);exact wpAny_pyNext_range_end (I.ok.hd hc) st (by have:n<=i:=hg;omega) λh' eb=>⟨rfl,I.turned (t':=s.toks) (λb o hb e=>eb b o hb e) f0 f1 f3 f4 f5⟩
 self:=λ_ _ _ _ _ st h=>wpAny_pyIter_rangeiter st h
variable{l:Expr}{tl:TE}{body:List Stmt}
section
variable{X:Cx}{tg:Expr}
def Gq(K:W.Frag)(tl:TE):TI:=λσ H R=>tl σ H λx H1=>∃a,x=.ref a/\(∃xs,SqL K H1 a xs)/\R (Itl K a) H1
def Mn(K:W.Frag)(tl:TE):TI:=λσ H R=>tl σ H λx H1=>∃a,x=.ref a/\(∃xs,SqT K H1 a xs)/\R (Itt K a) H1
theorem Jt(hl:PE X l tl):PI X tg l (Gq X.K tl):=by
 intro pins s σ H R I h;refine thn (hl pins s σ H _ I h) λv s1 zz=>?_;obtain⟨x,H1,I1,r1,q1⟩:=zz;obtain⟨a,e,⟨xs,hq⟩,q⟩:=q1;subst e;cases r1;obtain⟨its,rv,p,hz⟩:=I1.list hq;refine dX p.isList ?_;refine⟨s1.heap.objs.size,[s1.heap.objs.size],_,_,H1,rfl,I1.kept (t':=s1.toks) λb o e=>aD _ e,Fc a _,⟨_,aY _ rfl,rfl,rfl⟩,λb hb=>?_,q⟩;have e:b=s1.heap.objs.size:=by simpa using hb
 subst e;exact I1.fpOk (ay _) (I1.hok.fresh (ay _))
theorem Mo(hl:PE X l tl):PI X tg l (Mn X.K tl):=by
 intro pins s σ H R I h;refine thn (hl pins s σ H _ I h) λv s1 zz=>?_;obtain⟨x,H1,I1,r1,q1⟩:=zz;obtain⟨a,e,⟨xs,hq⟩,q⟩:=q1;subst e;cases r1;obtain⟨its,rv,p,hz⟩:=I1.tuple hq;refine gO (show s1.heap.IsTuple a its.toArray from p) ?_;refine⟨s1.heap.objs.size,[s1.heap.objs.size],_,_,H1,rfl,I1.kept (t':=s1.toks) λb o e=>aD _ e,Dg a _,⟨_,aY _ rfl,rfl,rfl⟩,λb hb=>?_,q⟩;have e:b=s1.heap.objs.size:=by simpa using hb
 subst e;exact I1.fpOk (ay _) (I1.hok.fresh (ay _))
theorem Gr{H:Hp}{s:ae}{R:It->Hp->Prop}{lo hi:Int}{t u v:Tok}{tk:Nat}(I:Inv X pins σ H s)(h1:-(2 ^ 62)<=lo)(h2:lo<2 ^ 62)(h3:-(2 ^ 62)<=hi)(h4:hi<2 ^ 62)
  (q:R (Itr lo (hi - lo).toNat) H):af (model X.prog X.w) X.A (pyIter (.ref s.heap.objs.size)) (PIE X pins σ tg R) E { s with heap:=s.heap.push { cls:=.type "range", data:=.fields #[.int lo t,.int hi u,.int 1 v] },toks:=tk }:=by
 refine wpAny_pyIter_range (IsRange.new ..) (small_one h1 h2 h3 h4) ?_;have I1:Inv X pins σ H { s with heap:=s.heap.push { cls:=.type "range", data:=.fields #[.int lo t,.int hi u,.int 1 v] },toks:=tk }:=I.kept λb o e=>aD _ e;refine⟨(s.heap.push { cls:=.type "range", data:=.fields #[.int lo t,.int hi u,.int 1 v] }).objs.size,[(s.heap.push { cls:=.type "range", data:=.fields #[.int lo t,.int hi u,.int 1 v] }).objs.size],_,_,H,rfl,
  I1.kept (t':=tk) λb o e=>aD _ e,Dh _ lo (hi - lo).toNat,?_,λb hb=>?_,q⟩
 ·have e1:lo+((0:Nat):Int) * 1=lo:=by simp
  have e2:(((hi - lo).toNat:Nat):Int) - ((0:Nat):Int)=l6 lo hi 1:=by rw[rangeSize_one];split<;>omega
  show IsRangeIter _ _ (lo+((0:Nat):Int) * 1) ((((hi - lo).toNat:Nat):Int) - ((0:Nat):Int)) 1;rw[e1,e2];exact aY _ rfl
 ·have e:b=(s.heap.push { cls:=.type "range", data:=.fields #[.int lo t,.int hi u,.int 1 v] }).objs.size:=by simpa using hb
  subst e;exact I1.fpOk (ay _) (I1.hok.fresh (ay _))
def Ls(ta:TA):TI:=λσ H R=>ta σ H λvs H1=>∃j:Int,vs=[.int j]/\-(2 ^ 62)<=j/\j<2 ^ 62/\R (Itr 0 j.toNat) H1
theorem Fd{a:Expr}{ta:TA}{p:Pos}(hg:Gl X "range")(hm:X.mg "range" = none)(ha:PA X [a] ta)(hs:ao [a] X.env=[(false,eval a X.env)]:=by rfl):PI X tg (.Call (.Name "range" p) [a] [] pos) (Ls ta):=by
 intro pins s σ H R I h;refine Call_ (xG I hg hm boot_range (callWith_type1 (thn (ha pos pins s σ H _ I h) λus s1 zz=>?_) hs rfl));obtain⟨vs,H1,I1,r1,q1⟩:=zz;obtain⟨j,e,q1,q2,q⟩:=q1;subst e;cases r1 with
 |cons r rr=>cases rr;obtain⟨t,rfl⟩:=r;exact call_range_1 (Gr I1 (by omega) (by omega) q1 q2 (by simpa using q))
def Mp(wi:TI)(g:TG)(tb:TS):TS:=λD σ H=>wi σ H λJ H1=>∃W:Nat->Nat->St->Hp->Prop,(∃m,W 0 m σ H1)/\∀i m σ H,W i m σ H->
 (J.stop i H/\D.nx σ H)\/(J.go i H/\∃N:St->Hp->Prop,(∀σ' H',N σ' H'->∃m',m'<m/\W (i+1) m' σ' H')/\∀x H',J.yld i H x H'->g x σ H' λσ2 H2=>tb { D with nx:=N,ct:=N,bk:=D.nx } σ2 H2)
def y6(fp:List Addr)(h:Heap):List (Addr×Obj):=fp.filterMap λb=>(h.get? b).map λo=>(b,o)
theorem sC{fp:List Addr}{h:Heap}{b:Addr}{o:Obj}(hb:b∈fp)(e:h.get? b=some o):(b,o)∈y6 fp h:=cE.mpr ⟨b,hb,by rw[e];rfl⟩
theorem Fe{fp:List Addr}{h:Heap}{p:Addr×Obj}(hp:p∈y6 fp h):p.1∈fp/\h.get? p.1=some p.2:=by
 obtain⟨b,hb,e⟩:=cE.mp hp;cases q:h.get? b with
 |none=>rw[q]at e;cases e
 |some o=>rw[q]at e;have e':(b,o)=p:=bL e;subst e';exact⟨hb,q⟩
theorem Inv.pinned{H:Hp}{s:ae}{fp:List Addr}(I:Inv X pins σ H s)(hf:∀b∈fp,Br X pins H b)(ho:∀b∈fp,∃o,s.heap.get? b=some o/\∀v,o.data≠.cell v):Inv X (pins++y6 fp s.heap) σ H s:=
 I.pins_of λp hp=>(dD.mp hp).elim (λz=>I.pin p (bQ _ z)) λz=>by obtain⟨hb,e⟩:=Fe z;obtain⟨f0,f1,f2,_⟩:=hf p.1 hb;obtain⟨o,e',d⟩:=ho p.1 hb;rw[e]at e';cases e';exact⟨e,f0,f1,f2,d⟩
theorem Inv.unpinned{pl:List (Addr×Obj)}{H:Hp}{s:ae}(I:Inv X (pins++pl) σ H s):Inv X pins σ H s:=I.pins_of λp hp=>I.pin p (bQ _ (fH _ hp))
theorem Gs{iter:Expr}{wi:TI}{g:TG}{tb:TS}(hp:PassesOwn (model X.prog X.w) X.A X.env X.xe)(hc:X.calm=true)(hi:PI X tg iter wi)(hg:PG X tg g)(hb:PSs X body tb)
  (hs:∀x,eL iter X.env x=pure x:=by intro _;rfl):PS X (.For tg iter body [] pos) (Mp wi g tb):=by
 intro pins s σ H D I h;refine wpAny_For (thn (hi pins s σ H _ I h) λv s1 h1=>thn h1 λitv s2 h2=>?_) hs;obtain⟨it,fp,tn,J,H2,e,I2,T,st2,f2,W,⟨m0,w0⟩,turn⟩:=h2;subst e;have stat:∀{H':Hp},(∀b∈fp,H' b=none)->∀b∈fp,Br X pins H' b:=λhn b hb=>⟨hn b hb,(f2 b hb).2⟩;refine codeAny_forLoop_any (λn s'=>∃i σ' H',Inv X pins σ' H' s'/\tn i s'.heap/\(∀b∈fp,H' b=none)/\W i n σ' H') ?_ m0 ⟨0,σ,H2,I2,st2,λb hb=>(f2 b hb).1,w0⟩;rintro n s3 ⟨i,σ3,H3,I3,st3,fr3,w3⟩;rcases turn i n σ3 H3 w3 with ⟨stop,qn⟩|⟨go,N,hN,step⟩
 ·refine eT hp (thn (T.done X rfl rfl rfl hc i pins s3 σ3 H3 X.xe I3 (stat fr3) st3 stop) λr s4 zz=>?_);obtain⟨hr,I4⟩:=zz;subst hr;exact dE ⟨σ3,H3,I4,qn⟩
 ·refine eT hp (thn (T.item X rfl rfl rfl hc i pins s3 σ3 H3 X.xe I3 (stat fr3) st3 go) λr s4 zz=>?_);obtain⟨u,hr,h4⟩:=zz;subst hr;refine eT hp (thn h4 λ_ s5 zz=>?_);obtain⟨x,H5,I5,r5,y5,st5,fr5⟩:=zz;have I5':=I5.pinned (stat fr5) (T.obj _ _ st5);refine eT hp (thn (hg _ s5 σ3 H5 x u _ I5' r5 (step x H5 y5)) λ_ s6 zz=>?_);obtain⟨σ6,H6,I6,q6⟩:=zz;refine eT hp (thn (hb _ s6 σ6 H6 _ I6 q6) λf s7 q7=>?_);have again:∀{σ7:St} {H7:Hp},Inv X (pins++y6 fp s5.heap) σ7 H7 s7->N σ7 H7->∃m,m<n/\∃i σ' H',Inv X pins σ' H' s7/\tn i s7.heap/\(∀b∈fp,H' b=none)/\W i m σ' H':=λ{σ7 H7} I7 n7=>by obtain⟨m',hm,w7⟩:=hN σ7 H7 n7;refine⟨m',hm,i+1,σ7,H7,I7.unpinned,T.keep _ _ _ st5 λb hb o e=>(I7.pin (b,o) (bQ _ (bQ _ (sC hb e)))).1,λb hb=>?_,w7⟩;obtain⟨o,e,d⟩:=T.obj _ _ st5 b hb;exact(I7.pin (b,o) (bQ _ (bQ _ (sC hb e)))).2.1
  cases f with
  |next=>obtain⟨σ7,H7,I7,n7⟩:=q7;exact again I7 n7
  |cont=>obtain⟨σ7,H7,I7,n7⟩:=q7;exact again I7 n7
  |brk=>obtain⟨σ7,H7,I7,q7⟩:=q7;exact⟨σ7,H7,I7.unpinned,q7⟩
  |ret v=>obtain⟨x7,σ7,H7,I7,r7,q7⟩:=q7;exact⟨x7,σ7,H7,I7.unpinned,r7,q7⟩
end
abbrev R2:=V->V->Hp->VK->Prop
def OpR(X:Cx)(f:aa->aa->Sem aa)(r:R2):Prop:=
 ∀(pins:List (Addr×Obj)) (s:ae) (σ:St) (H:Hp) (x y:V) (v u:aa) (Q:VK),Inv X pins σ H s->RelV x v->RelV y u->r x y H Q->
  af (model X.prog X.w) X.A (f v u) (EP X pins σ Q) X.xe s
def pM(X:Cx)(f:aa)(r:List V->Hp->VK->Prop):Prop:=
 ∀(pins:List (Addr×Obj)) (s:ae) (σ:St) (H:Hp) (xs:List V) (us:List aa) (Q:VK),Inv X pins σ H s->Vals xs us->r xs H Q->
  af (model X.prog X.w) X.A (call f us) (EP X pins σ Q) X.xe s
def tOp(r:R2)(ta tb:TE):TE:=λσ H Q=>ta σ H λx H1=>tb σ H1 λy H2=>r x y H2 Q
def rI(C:Int->Int->Prop)(g:Int->Int->V):R2:=λx y H Q=>∃i j,x=.int i/\y=.int j/\C i j/\Q (g i j) H
def rI0(g:Int->Int->V):R2:=λx y H Q=>∃i j,x=.int i/\y=.int j/\Q (g i j) H
section
variable{X:Cx}{a b c:Expr}{ta tb tc:TE}{pos:Pos}
theorem Mq(ha:PE X a ta)(hb:PE X b tb){s:ae}{H:Hp}{R:V->V->Hp->Prop}(I:Inv X pins σ H s)
  (h:ta σ H λx H1=>tb σ H1 λy H2=>R x y H2) {f:aa->aa->Sem aa}
  (hf:∀v u s2 x y H2,Inv X pins σ H2 s2->RelV x v->RelV y u->R x y H2->af (model X.prog X.w) X.A (f v u) Q X.xe s2):
  af (model X.prog X.w) X.A (eval a X.env) (λv s₁=>af (model X.prog X.w) X.A (eval b X.env) (λu s₂=>af (model X.prog X.w) X.A (f v u) Q X.xe s₂) X.xe s₁) X.xe s:=by
 refine thn (ha pins s σ H _ I h) λv s1 zz=>?_;obtain⟨x,H1,I1,r1,q1⟩:=zz;refine thn (hb pins s1 σ H1 _ I1 q1) λu s2 zz=>?_;obtain⟨y,H2,I2,r2,q2⟩:=zz;exact hf v u s2 x y H2 I2 r1 r2 q2
theorem D7{op:gp}{r:R2}(ho:OpR X (bO op) r)(ha:PE X a ta)(hb:PE X b tb):PE X (.BinOp a op b pos) (tOp r ta tb):=by intro pins s σ H Q I h;exact wpAny_BinOp (Mq ha hb I h λv u s2 x y H2 I2 rx ry q=>ho pins s2 σ H2 x y v u Q I2 rx ry q)
theorem opI{f:aa->aa->Sem aa}{C:Int->Int->Prop}{g:Int->Int->Int}
  (rule:∀(i j:Int) (t u:Tok) (s:ae) (Q:aa->ae->Prop) (E:aa->ae->Prop),C i j->Q (.int (g i j) s.toks) { s with toks:=s.toks+1 }->af (model X.prog X.w) X.A (f (.int i t) (.int j u)) Q E s):
  OpR X f (rI C λi j=>.int (g i j)):=by
 intro pins s σ H x y v u Q I rx ry h;obtain⟨i,j,rfl,rfl,hc,q⟩:=h;obtain⟨t,rfl⟩:=rx;obtain⟨t',rfl⟩:=ry;exact rule i j t t' s _ _ hc ⟨.int (g i j),H,I.tok _,⟨_,rfl⟩,q⟩
theorem PH{f:aa->aa->Sem aa}{g:Int->Int->Int}
  (rule:∀(i j:Int) (t u:Tok) (s:ae) (Q:aa->ae->Prop) (E:aa->ae->Prop),Q (.int (g i j) s.toks) { s with toks:=s.toks+1 }->af (model X.prog X.w) X.A (f (.int i t) (.int j u)) Q E s):
  OpR X f (rI0 λi j=>.int (g i j)):=by
 intro pins s σ H x y v u Q I rx ry h;obtain⟨i,j,rfl,rfl,q⟩:=h;obtain⟨t,rfl⟩:=rx;obtain⟨t',rfl⟩:=ry;exact rule i j t t' s _ _ ⟨.int (g i j),H,I.tok _,⟨_,rfl⟩,q⟩
theorem Ju{f:aa->aa->Sem aa}{g:Int->Int->Bool}
  (rule:∀(i j:Int) (t u:Tok) (s:ae) (Q:aa->ae->Prop) (E:aa->ae->Prop),Q (.bool (g i j)) s->af (model X.prog X.w) X.A (f (.int i t) (.int j u)) Q E s):
  OpR X f (rI0 λi j=>.bl (g i j)):=by
 intro pins s σ H x y v u Q I rx ry h;obtain⟨i,j,rfl,rfl,q⟩:=h;obtain⟨t,rfl⟩:=rx;obtain⟨t',rfl⟩:=ry;exact rule i j t t' s _ _ ⟨.bl (g i j),H,I,rfl,q⟩
def Mr(i j:Int):Prop:=0<j/\j<1073741824
def PJ(i j:Int):Prop:=0<=j/\j<=1000000/\i.natAbs<2 ^ 64
def Jv(i j:Int):Prop:=(-(2 ^ 64)<i/\i<2 ^ 64)\/(-(2 ^ 64)<j/\j<2 ^ 64)
theorem Jv.ok{i j:Int}(h:Jv i j):IntMulOk i j:=by
 rcases h with ⟨h1,h2⟩|⟨h1,h2⟩
 ·exact .of_left (kC h1 h2)
 ·exact .of_right (kC h1 h2)
theorem Ms:OpR X (bO .Add) (rI0 λi j=>.int (i+j)):=PH λ_ _ _ _ _ _ _ q=>add_int q
theorem Mt:OpR X (bO .Sub) (rI0 λi j=>.int (i - j)):=PH λ_ _ _ _ _ _ _ q=>sub_int q
theorem Mu:OpR X (bO .Mult) (rI Jv λi j=>.int (i * j)):=opI λ_ _ _ _ _ _ _ hc q=>mul_int q hc.ok
theorem Jw:OpR X (bO .FloorDiv) (rI Mr λi j=>.int (i / j)):=opI λi j _ _ _ _ _ hc q=>by have h1:(0:Int)<j:=hc.1;have h2:j<1073741824:=hc.2;exact floordiv_int (by omega) (by rw[Int.fdiv_eq_ediv_of_nonneg i (by omega)];exact q) (.inl (PyProof.noPylong_small (by omega)))
theorem Mv:OpR X (bO .Mod) (rI (λ_ j=>0<j) λi j=>.int (i % j)):=opI λi j _ _ _ _ _ hc q=>by have h1:(0:Int)<j:=hc;exact mod_int' (by omega) (by rw[Int.fmod_eq_emod_of_nonneg i (by omega)];exact q)
theorem Mw:OpR X (bO .Pow) (rI PJ λi j=>.int (i ^ j.toNat)):=opI λ_ _ _ _ _ _ _ hc q=>pow_int_small hc.1 hc.2.1 hc.2.2 q
end
def Gu:V->V->Bool
 |.non,.non=>true|.non,.int _=>true|.int _,.non=>true|.non,.bl _=>true|.bl _,.non=>true|.non,.str _=>true|.str _,.non=>true
 |.int _,.int _=>true|.bl _,.bl _=>true|.str _,.str _=>true|.byt _,.byt _=>true
 |.int _,.str _=>true|.str _,.int _=>true|.bl _,.str _=>true|.str _,.bl _=>true
 |_,_=>false
def rEq:R2:=λx y H Q=>Gu x y=true/\Q (.bl (decide (x=y))) H
def rNe:R2:=λx y H Q=>Gu x y=true/\Q (.bl (!decide (x=y))) H
theorem D8{i j:Int}:decide (V.int i=V.int j)=(i==j):=by rw[cY];simp
theorem Gv{i j:Bool}:decide (V.bl i=V.bl j)=(i==j):=by rw[cY];simp
theorem D9{i j:Str}:decide (V.str i=V.str j)=(i==j):=by rw[cY];simp
theorem Ea{i j:Array UInt8}:decide (V.byt i=V.byt j)=(i.toList==j.toList):=by rw[cY];cases i;cases j;simp
variable{op':dQ}{r':R2}
section
variable{X:Cx}{a b c:Expr}{ta tb tc:TE}{pos:Pos}
theorem oQ{H:Hp}{s:ae}{Q:VK}{k k':Bool}(I:Inv X pins σ H s)(q:Q (.bl k) H)(e:k=k'):EP X pins σ Q (.bool k') s:=by subst e;exact⟨.bl k,H,I,rfl,q⟩
theorem PK:OpR X (aI .Eq) rEq:=by
 intro pins s σ H x y v u Q I rx ry h;obtain⟨hs,q⟩:=h;cases x with
 |non=>
  cases rx;cases y with
  |non=>cases ry;exact lE (oQ I q (by simp))
  |bl j=>cases ry;exact lF (oQ I q (by simp))
  |int j=>obtain⟨t',rfl⟩:=ry;exact lP (oQ I q (by simp))
  |str j=>obtain⟨t',rfl⟩:=ry;exact lQ (oQ I q (by simp))
  |_=>exact ak (show false=true from hs) aO
 |bl i=>
  cases rx;cases y with
  |non=>cases ry;exact lG (oQ I q (by simp))
  |bl j=>cases ry;exact eq_bool (oQ I q Gv)
  |str j=>obtain⟨t',rfl⟩:=ry;exact lH (oQ I q (by simp))
  |_=>exact ak (show false=true from hs) aO
 |int i=>
  obtain⟨t,rfl⟩:=rx;cases y with
  |non=>cases ry;exact lR (oQ I q (by simp))
  |int j=>obtain⟨t',rfl⟩:=ry;exact eq_int (oQ I q D8)
  |str j=>obtain⟨t',rfl⟩:=ry;exact lS (oQ I q (by simp))
  |_=>exact ak (show false=true from hs) aO
 |str i=>
  obtain⟨t,rfl⟩:=rx;cases y with
  |non=>cases ry;exact lT (oQ I q (by simp))
  |bl j=>cases ry;exact lI (oQ I q (by simp))
  |int j=>obtain⟨t',rfl⟩:=ry;exact lV (oQ I q (by simp))
  |str j=>obtain⟨t',rfl⟩:=ry;exact eq_str (oQ I q D9)
  |_=>exact ak (show false=true from hs) aO
 |byt i=>
  obtain⟨t,rfl⟩:=rx;cases y with
  |byt j=>obtain⟨t',rfl⟩:=ry;exact W.eq_bytes (oQ I q Ea)
  |_=>exact ak (show false=true from hs) aO
 |_=>cases y<;>exact ak (show false=true from hs) aO
theorem PL:OpR X (aI .NotEq) rNe:=by
 intro pins s σ H x y v u Q I rx ry h;obtain⟨hs,q⟩:=h;cases x with
 |non=>
  cases rx;cases y with
  |non=>cases ry;exact lK (oQ I q (by simp))
  |bl j=>cases ry;exact lL (oQ I q (by simp))
  |int j=>obtain⟨t',rfl⟩:=ry;exact lW (oQ I q (by simp))
  |str j=>obtain⟨t',rfl⟩:=ry;exact lX (oQ I q (by simp))
  |_=>exact ak (show false=true from hs) aO
 |bl i=>
  cases rx;cases y with
  |non=>cases ry;exact lM (oQ I q (by simp))
  |bl j=>cases ry;exact ne_bool (oQ I q (aS not Gv))
  |str j=>obtain⟨t',rfl⟩:=ry;exact lN (oQ I q (by simp))
  |_=>exact ak (show false=true from hs) aO
 |int i=>
  obtain⟨t,rfl⟩:=rx;cases y with
  |non=>cases ry;exact lY (oQ I q (by simp))
  |int j=>obtain⟨t',rfl⟩:=ry;exact ne_int (oQ I q (aS not D8))
  |str j=>obtain⟨t',rfl⟩:=ry;exact lZ (oQ I q (by simp))
  |_=>exact ak (show false=true from hs) aO
 |str i=>
  obtain⟨t,rfl⟩:=rx;cases y with
  |non=>cases ry;exact l0 (oQ I q (by simp))
  |bl j=>cases ry;exact lO (oQ I q (by simp))
  |int j=>obtain⟨t',rfl⟩:=ry;exact l3 (oQ I q (by simp))
  |str j=>obtain⟨t',rfl⟩:=ry;exact ne_str (oQ I q (aS not D9))
  |_=>exact ak (show false=true from hs) aO
 |byt i=>
  obtain⟨t,rfl⟩:=rx;cases y with
  |byt j=>obtain⟨t',rfl⟩:=ry;exact W.ne_bytes (oQ I q (aS not Ea))
  |_=>exact ak (show false=true from hs) aO
 |_=>cases y<;>exact ak (show false=true from hs) aO
theorem PM:OpR X (aI .Lt) (rI0 λi j=>.bl (decide (i<j))):=Ju λ_ _ _ _ _ _ _ q=>lt_int q
theorem PN:OpR X (aI .LtE) (rI0 λi j=>.bl (decide (i<=j))):=Ju λ_ _ _ _ _ _ _ q=>le_int q
theorem PQ:OpR X (aI .Gt) (rI0 λi j=>.bl (decide (j<i))):=Ju λ_ _ _ _ _ _ _ q=>gt_int q
theorem PR:OpR X (aI .GtE) (rI0 λi j=>.bl (decide (j<=i))):=Ju λ_ _ _ _ _ _ _ q=>ge_int q
theorem Mx:OpR X (aI .Is) (λx y H Q=>y=.non/\Q (.bl (decide (x=.non))) H):=by
 intro pins s σ H x y v u Q I rx ry h;obtain⟨rfl,q⟩:=h;cases ry;refine is_none_gen (oQ I q ?_);cases x<;>first
  |(cases rx;rfl)
  |(obtain⟨t,rfl⟩:=rx;rfl)
theorem Jx:OpR X (aI .IsNot) (λx y H Q=>y=.non/\Q (.bl (!decide (x=.non))) H):=by
 intro pins s σ H x y v u Q I rx ry h;obtain⟨rfl,q⟩:=h;cases ry;refine isnot_none_gen (oQ I q ?_);cases x<;>first
  |(cases rx;rfl)
  |(obtain⟨t,rfl⟩:=rx;rfl)
theorem Jy{r:R2}(ho:OpR X (aI op) r)(ha:PE X a ta)(hb:PE X b tb)(hm:dH op b=false):PE X (.Compare a [op] [b] pos) (tOp r ta tb):=by intro pins s σ H Q I h;exact wpAny_Compare1 (Mq ha hb I h λv u s2 x y H2 I2 rx ry q=>ho pins s2 σ H2 x y v u Q I2 rx ry q) hm
def Gw(t:TE):TT:=λσ H Q=>t σ H λx H'=>∃k,x=.bl k/\Q k H'
theorem Jz{r:R2}(ho:OpR X (aI op) r)(ha:PE X a ta)(hb:PE X b tb)(hm:dH op b=false):PT X (.Compare a [op] [b] pos) (Gw (tOp r ta tb)):=by
 intro pins s σ H Q I h;refine jc (thn (ha pins s σ H _ I h) λv s1 ⟨x,H1,I1,r1,q1⟩=>thn (hb pins s1 σ H1 _ I1 q1) λu s2 ⟨y,H2,I2,r2,q2⟩=>
  thn (ho pins s2 σ H2 x y v u _ I2 r1 r2 q2) λc s3 ⟨z,H3,I3,r3,k,e,q3⟩=>?_) hm
 subst e;cases r3;exact bY ⟨H3,I3,q3⟩
def Di(r r':R2)(ta tb tc:TE):TE:=λσ H Q=>ta σ H λx H1=>tb σ H1 λy H2=>r x y H2 λz H3=>∃k,z=.bl k/\
 (if k=true then tc σ H3 λw' H4=>r' y w' H4 Q else Q (.bl false) H3)
theorem Gx{r:R2}(ho:OpR X (aI op) r)(ho':OpR X (aI op') r')(ha:PE X a ta)(hb:PE X b tb)(hc:PE X c tc)
  (hm:lastMarks [op,op'] [b,c]=false:=by with_unfolding_all rfl):PE X (.Compare a [op,op'] [b,c] pos) (Di r r' ta tb tc):=by
 intro pins s σ H Q I h;refine Compare_chain (thn (ha pins s σ H _ I h) λv s1 ⟨x,H1,I1,r1,q1⟩=>chain_link (thn (hb pins s1 σ H1 _ I1 q1) λu s2 ⟨y,H2,I2,r2,q2⟩=>
  thn (ho pins s2 σ H2 x y v u _ I2 r1 r2 q2) λd s3 ⟨z,H3,I3,r3,k,e,q3⟩=>?_)) hm
 subst e;cases r3;refine bY ?_;cases k with
 |false=>exact ite_ff ⟨.bl false,H3,I3,rfl,q3⟩
 |true=>exact ite_tt (chain_last (thn (hc pins s3 σ H3 _ I3 q3) λw' s4 ⟨z',H4,I4,r4,q4⟩=>ho' pins s4 σ H4 y z' u w' Q I4 r2 r4 q4))
theorem Gy{r:R2}(ho:OpR X (aI op) r)(ho':OpR X (aI op') r')(ha:PE X a ta)(hb:PE X b tb)(hc:PE X c tc)
  (hm:lastMarks [op,op'] [b,c]=false:=by with_unfolding_all rfl):PT X (.Compare a [op,op'] [b,c] pos) (Gw (Di r r' ta tb tc)):=by
 intro pins s σ H Q I h;refine isTrue_chain (thn (ha pins s σ H _ I h) λv s1 ⟨x,H1,I1,r1,q1⟩=>test_link (thn (hb pins s1 σ H1 _ I1 q1) λu s2 ⟨y,H2,I2,r2,q2⟩=>
  thn (ho pins s2 σ H2 x y v u _ I2 r1 r2 q2) λd s3 ⟨z,H3,I3,r3,k,e,q3⟩=>?_)) hm
 subst e;cases r3;refine bY ?_;cases k with
 |false=>obtain⟨k',e',q'⟩:=q3;cases e';exact ite_ff ⟨H3,I3,q'⟩
 |true=>refine ite_tt (test_last (thn (hc pins s3 σ H3 _ I3 q3) λw' s4 ⟨z',H4,I4,r4,q4⟩=>thn (ho' pins s4 σ H4 y z' u w' _ I4 r2 r4 q4) λd' s5 ⟨z2,H5,I5,r5,k2,e2,q5⟩=>?_));subst e2;cases r5;exact bY ⟨H5,I5,q5⟩
theorem xH:(av:Nat)<2 ^ 63:=by rw[bX];decide
theorem Dj:OpR X (bO .Add) (λx y H Q=>∃i j,x=.str i/\y=.str j/\i.length+j.length<=av/\Q (.str (i++j)) H):=by intro pins s σ H x y v u Q I rx ry h;obtain⟨i,j,rfl,rfl,hz,q⟩:=h;obtain⟨t,rfl⟩:=rx;obtain⟨t',rfl⟩:=ry;exact add_str (λt' tk=>⟨.str (i++j),H,I.tok _,⟨_,rfl⟩,q⟩) hz
theorem vals1{x:V}(r:Vals [x] us):∃u,us=[u]/\RelV x u:=by
 cases r with
 |cons r1 r2=>cases r2;exact⟨_,rfl,r1⟩
theorem vals2{x y:V}(r:Vals [x,y] us):∃u w',us=[u,w']/\RelV x u/\RelV y w':=by
 cases r with
 |cons r1 r2=>
  cases r2 with
  |cons r3 r4=>cases r4;exact⟨_,_,rfl,r1,r3⟩
theorem Fg(hc:X.calm=true):pM X (.builtin "max") (λxs H Q=>∃i j,xs=[.int i,.int j]/\Q (.int (if j > i then j else i)) H):=by
 intro pins s σ H xs us Q I r h;obtain⟨i,j,rfl,q⟩:=h;obtain⟨u,w',rfl,⟨t,rfl⟩,⟨t',rfl⟩⟩:=vals2 r;refine max_two_ints (I.ok.hd hc) λh' tk k=>⟨_,H,I.kept k,?_,q⟩;by_cases hj:j > i
 ·rw[ag hj,ag hj];exact⟨_,rfl⟩
 ·rw[ah hj,ah hj];exact⟨_,rfl⟩
theorem Fh(hc:X.calm=true):pM X (.builtin "min") (λxs H Q=>∃i j,xs=[.int i,.int j]/\Q (.int (if j<i then j else i)) H):=by
 intro pins s σ H xs us Q I r h;obtain⟨i,j,rfl,q⟩:=h;obtain⟨u,w',rfl,⟨t,rfl⟩,⟨t',rfl⟩⟩:=vals2 r;refine min_two_ints (I.ok.hd hc) λh' tk k=>⟨_,H,I.kept k,?_,q⟩;by_cases hj:j<i
 ·rw[ag hj,ag hj];exact⟨_,rfl⟩
 ·rw[ah hj,ah hj];exact⟨_,rfl⟩
theorem Fi:pM X (.type "int") (λxs H Q=>(∃i,xs=[.int i]/\Q (.int i) H)\/∃k,xs=[.bl k]/\Q (.int (if k then 1 else 0)) H):=by
 intro pins s σ H xs us Q I r h;rcases h with ⟨i,rfl,q⟩|⟨k,rfl,q⟩
 ·obtain⟨u,rfl,t,rfl⟩:=vals1 r;exact call_int_int ⟨.int i,H,I,⟨_,rfl⟩,q⟩
 ·obtain⟨u,rfl,r1⟩:=vals1 r;cases r1;exact call_int_bool ⟨.int (if k then 1 else 0),H,I.tok _,⟨_,rfl⟩,q⟩
end
structure Dk(h:Heap)(x dx C:Addr)(mA:Str->Option aa):Prop where
 obj:h.get? x=some (W.instObj C dx)
 ns:h.Ns1 dx mA
 ne:dx≠x
variable{dx:Addr}{mA:Str->Option aa}
theorem Fj{h:Heap}(n:h.Ns1 dx mA):∃od,h.get? dx=some od/\∀name,W.lookIn name od=some (mA name):=by
 obtain⟨o,es,ep,ho,hd,hk,_,hm⟩:=n;refine⟨o,ho,λname=>?_⟩;have e:=hm name;unfold nsFind findBy at e;rw[<-Array.find?_toList]at e;unfold W.lookIn;rw[hd];dsimp only;split
 ·rename_i y q;rw[q]at e;exact aS some e
 ·rename_i q;rw[q]at e;have a:es.toList.any (·.refKey)=false:=by rw[jN];intro y hy;obtain⟨z,t,hkey⟩:=hk y (Array.mem_toList_iff.mp hy);simp[DictEntry.refKey,hkey]
  have a':¬es.toList.any (·.refKey)=true:=by rw[a];exact aO
  rw[ah a'];exact aS some e
variable{C:Addr}
theorem Dk.look{h:Heap}{x:Addr}(I:Dk h x dx C mA):∃od,W.InstAt h x (W.instObj C dx) C (some od)/\∀name,W.lookIn name od=some (mA name):=
 let ⟨od,ho,hl⟩:=Fj I.ns
 ⟨od,⟨I.obj,rfl,rfl,ho⟩,hl⟩
variable{kw:List (Str×aa)}
section
variable{prog:aq}{w:aj}{A:au}{E:aa->ae->Prop}{s:ae}{K:W.Frag}{x dx C f:Addr}{mA:Str->Option aa}{name:Str}{v:aa}
theorem get_map{expr:Bool}(X:K.In s.heap)(I:Dk s.heap x dx C mA)(hg:W.plainGet K C name=true)(hh:W.hasDictIn K C=true)
  (ha:W.findIn K (.ref C) name=some none) (hv:mA name=some v) (hv':W.handedIn v=true) (h:Q v { s with toks:=s.toks+1 }):
  af (model prog w) A (getAttr (.ref x) name expr) Q E s:=by
 obtain⟨od,J,hl⟩:=I.look;exact W.get_value X J (W.plainGet_of hg).1 (W.findObj_own hh ha rfl (by rw[hl,hv])) hv' h
theorem GA{pl:Sem Bool}{Q:aa×List aa->ae->Prop}(X:K.In s.heap)(I:Dk s.heap x dx C mA)(hg:W.plainGet K C name=true)
  (hf:W.findIn K (.ref C) name=some (some (.ref f))) (ht:W.isFn K (.ref f)=true) (hv:mA name=none) (h:Q (.ref f,[.ref x]) s):
  af (model prog w) A (getMethod (.ref x) name pl) Q E s:=by
 obtain⟨od,J,hl⟩:=I.look;exact W.method_fn X J (W.plainGet_of hg).1 (W.plainGet_of hg).2 hf (beq_iff_eq.mp ht) (by show (W.lookIn name od).map (·.isSome)=some false;rw[hl,hv];rfl) h
theorem JA{ns:List Str}{Q:Unit->ae->Prop}(X:K.In s.heap)(I:Dk s.heap x dx C mA)
  (hs:W.findIn K (.ref C) "__setattr__" = some (some (.builtin "object.__setattr__"))) (hp:W.plainOver K C=true) (ht:W.takerIn K C name=some none) (hh:W.hasDictIn K C=true)
  (hw:iq mA ns) (hsz:ns.length<=av)
  (h:∀h',Dk h' x dx C (λy=>if y=name then some v else mA y)->dM dx s.heap h'->Q () { s with heap:=h',toks:=s.toks+2 }):
  af (model prog w) A (setAttr (.ref x) name v) Q E s:=by
 obtain⟨od,J,hl⟩:=I.look;refine W.set_plain X J hs (W.osa_open (s:={ s with toks:=s.toks+1 }) (r:=none) X J hp ht λb=>?_);obtain⟨cd,hc,hd'⟩:=W.any_some hh;have hx:s.heap.get? x=some ⟨.ref C,some dx,.plain,#[]⟩:=I.obj;refine ai (aw (ai (ai (km hx (ai (W.Looks.here (s:={ s with toks:=s.toks+1 }) (W.looks_clsIn X hc) ?_))))));rw[hd'];refine aw (a:=some dx) (ai (aw (ai ?_)));refine wpAny_nsSet1 (s:={ s with toks:=s.toks+1 }) I.ns λh' hn2 hs2=>?_;obtain⟨oD,esD,epD,hoD,hdD,hcD⟩:=hn2.count (mU name v hw);refine ai (wpAny_lookBehind hoD (by rw[hdD];exact pastItsLine_dict (bz hcD (by rw[aB];omega))) ?_);exact aw (h _ ⟨(hs2.2 _ (bP I.ne)).trans I.obj,hn2,I.ne⟩ hs2)
theorem B3{R:bU->ae->Prop}{vs:List aa}(X:K.In s.heap)(hm:W.makesIn K C=true)
  (hi:W.findIn K (.ref C) "__init__" = some (some (.ref f))) (hf:W.typeIn K (.ref f)=some (.type "function"))
  (h:bB (model prog w) (A.under (.builtin "type.__call__" ⟨.ref C::vs,kw⟩)) (.call (.ref f) ⟨.ref (s.heap.objs.size+1)::vs,kw⟩) (W.InitBack (s.heap.objs.size+1) R)
   { s with heap:=(s.heap.push W.emptyDict).push (W.instObj C s.heap.objs.size) }):
  bB (model prog w) A (.call (.ref C) ⟨vs,kw⟩) R s:=by
 obtain⟨hh,g,d,t,os⟩:=s;exact W.make_core (W.makes_of X hm) (W.looks_findIn X hi) (λself=>W.bind_fn X self hf) (.inl rfl) h
theorem Fk{R:bU->ae->Prop}(X:K.In s.heap)(hm:W.makesIn K C=true)
  (hi:W.findIn K (.ref C) "__init__" = some (some (.builtin "object.__init__")))
  (hb:∀self,W.Looks (model prog w) s.heap (bindSpecial (.builtin "object.__init__") self) (.builtin "object.__init__", [self]))
  (h:bB (model prog w) (A.under (.builtin "type.__call__" ⟨[.ref C],[]⟩)) (.call (.builtin "object.__init__") ⟨[.ref (s.heap.objs.size+1)],[]⟩) (W.InitBack (s.heap.objs.size+1) R)
   { s with heap:=(s.heap.push W.emptyDict).push (W.instObj C s.heap.objs.size) }):
  bB (model prog w) A (.call (.ref C) ⟨[],[]⟩) R s:=by
 obtain⟨hh,g,d,t,os⟩:=s;exact W.make_core (W.makes_of X hm) (W.looks_findIn X hi) hb (.inr ⟨rfl,rfl⟩) h
end
def tZ(f:Str)(v:V):List (Str×V)->List (Str×V)
 |[]=>[(f,v)]
 |(g,x)::r=>if g=f then (g,v)::r else (g,x)::tZ f v r
theorem x9(f g:Str)(v:V):∀fs:List (Str×V),(tZ f v fs).lookup g=if g=f then some v else fs.lookup g
 |[]=>by
  show cg g [(f,v)]=_;by_cases h:g=f
  ·have hb:(g==f)=true:=beq_iff_eq.mpr h;simp only[cg,hb,ag h]
  ·have hb:(g==f)=false:=beq_eq_false_iff_ne.mpr h;simp only[cg,hb,ah h]
 |(k,x)::r=>by
  have ih:=x9 f g v r;rw[show tZ f v ((k,x)::r)=(if k=f then (k,v)::r else (k,x)::tZ f v r) from rfl];by_cases hk:k=f
  ·rw[ag hk];by_cases h:g=k
   ·have hb:(g==k)=true:=beq_iff_eq.mpr h;simp only[cg,hb,ag (h.trans hk)]
   ·have hb:(g==k)=false:=beq_eq_false_iff_ne.mpr h;simp only[cg,hb,ah (λe:g=f=>h (e.trans hk.symm))]
  ·rw[ah hk];by_cases h:g=k
   ·have hb:(g==k)=true:=beq_iff_eq.mpr h;simp only[cg,hb,ah (λe:g=f=>hk (h.symm.trans e))]
   ·have hb:(g==k)=false:=beq_eq_false_iff_ne.mpr h;simp only[cg,hb];exact ih
theorem xI(f:Str)(v:V):∀fs:List (Str×V),f∈(tZ f v fs).map (·.1)/\∀g,g∈fs.map (·.1)->g∈(tZ f v fs).map (·.1)
 |[]=>⟨by simp[tZ],λg h=>by simp at h⟩
 |(k,x)::r=>by
  obtain⟨i1,i2⟩:=xI f v r;rw[show tZ f v ((k,x)::r)=(if k=f then (k,v)::r else (k,x)::tZ f v r) from rfl];by_cases hk:k=f
  ·rw[ag hk];subst hk;exact⟨by simp,λg h=>by simpa using h⟩
  ·rw[ah hk];refine⟨?_,λg h=>?_⟩
   ·rw[aT];exact aM _ i1
   ·rw[aT]at h ⊢;rcases aN.mp h with e|e
    ·exact aN.mpr (.inl e)
    ·exact aM _ (i2 g e)
theorem ya(f:Str)(v:V):∀fs:List (Str×V),(tZ f v fs).length<=fs.length+1
 |[]=>by simp[tZ]
 |(k,x)::r=>by
  have ih:=ya f v r;rw[show tZ f v ((k,x)::r)=(if k=f then (k,v)::r else (k,x)::tZ f v r) from rfl];by_cases hk:k=f
  ·rw[ag hk,aB,aB];omega
  ·rw[ah hk,aB,aB];omega
theorem uY.some_of{v:V}{o:Option aa}(r:uY (some v) o):∃u,o=some u/\RelV v u:=by
 cases o with
 |none=>exact(show False from r).elim
 |some u=>exact⟨u,rfl,r⟩
theorem uY.none_of{o:Option aa}(r:uY none o):o=none:=by
 cases o with
 |none=>rfl
 |some u=>exact(show False from r).elim
theorem Fl{v:V}{u:aa}(r:RelV v u):W.handedIn u=true:=by
 cases v with
 |non=>cases (show u=Value.none from r);rfl
 |bl b=>cases (show u=Value.bool b from r);rfl
 |int i=>obtain⟨t,e⟩:=(show ∃t,u=Value.int i t from r);cases e;rfl
 |str x=>obtain⟨t,e⟩:=(show ∃t,u=Value.str x t from r);cases e;rfl
 |byt b=>obtain⟨t,e⟩:=(show ∃t,u=Value.bytes b t from r);cases e;rfl
 |flt b=>obtain⟨t,e⟩:=(show ∃t,u=Value.float b t from r);cases e;rfl
 |ref a=>cases (show u=Value.ref a from r);rfl
 |ty n=>cases (show u=Value.type n from r);rfl
section
variable{P:aq}{w:aj}{H H':Hp}{h h':Heap}{a C dx:Addr}{fs fs':List (Str×V)}
theorem sT(hok:HOk P w H h)(e:H a=some (.ins C dx fs)):∃mA,Dk h a dx C mA/\(∀f,uY (fs.lookup f) (mA f))/\iq mA (fs.map (·.1))/\fs.length<=1000/\H dx=some (.own a):=by obtain⟨d,z,ne,ob,mA,n,r,q⟩:=(show ObjOk P w H h a (.ins C dx fs) from hok a _ e);exact⟨mA,⟨ob,n,ne⟩,r,q,z,d⟩
end
structure Cls(K:W.Frag)(C:Addr):Prop where
 pg:W.plainGet K C Str.empty=true
 hd:W.hasDictIn K C=true
 po:W.plainOver K C=true
 sa:W.findIn K (.ref C) "__setattr__" = some (some (.builtin "object.__setattr__"))
theorem Cls.get{K:W.Frag}(c:Cls K C)(f:Str):W.plainGet K C f=true:=c.pg
def sD(K:W.Frag)(C:Addr)(f:Str):Prop:=W.findIn K (.ref C) f=some none
theorem sD.taker{K:W.Frag}{f:Str}(n:sD K C f):W.takerIn K C f=some none:=by unfold W.takerIn;rw[show W.findIn K (.ref C) f=some none from n];rfl
structure Meth(K:W.Frag)(C:Addr)(m:Str)(f:Addr):Prop where
 at_:W.findIn K (.ref C) m=some (some (.ref f))
 fn:W.isFn K (.ref f)=true
 kp:W.keepIn K (.ref f)=true
section
variable{X:Cx}{pins:List (Addr×Obj)}{σ:St}{H:Hp}{s:ae}{a C dx:Addr}{fs:List (Str×V)}{f:Str}{v:V}{A:au}{E:aa->ae->Prop}
theorem Dl{b:Bool}(I:Inv X pins σ H s)(e:H a=some (.ins C dx fs))(c:Cls X.K C)(n:sD X.K C f)(l:fs.lookup f=some v)
  (h:∀u s',Inv X pins σ H s'->RelV v u->Q u s'):af (model X.prog X.w) A (getAttr (.ref a) f b) Q E s:=by
 obtain⟨mA,O,r,_,_,_⟩:=sT I.hok e;obtain⟨u,hu,ru⟩:=uY.some_of (v:=v) (o:=mA f) (by rw[<-l];exact r f);exact get_map I.kIn O (c.get f) c.hd n hu (Fl ru) (h u _ (I.tok _) ru)
theorem y7{m:Str}{g:Addr}{pl:Sem Bool}{Q:aa×List aa->ae->Prop}(I:Inv X pins σ H s)(e:H a=some (.ins C dx fs))(c:Cls X.K C)(k:Meth X.K C m g)(l:fs.lookup m=none)
  (h:Q (.ref g,[.ref a]) s):af (model X.prog X.w) A (getMethod (.ref a) m pl) Q E s:=by
 obtain⟨mA,O,r,_,_,_⟩:=sT I.hok e;have hn:mA m=none:=uY.none_of (by rw[<-l];exact r m);exact GA I.kIn O (c.get m) k.at_ k.fn hn h
theorem Dm{y:V}{u:aa}{Q:Unit->ae->Prop}(I:Inv X pins σ H s)(e:H a=some (.ins C dx fs))(c:Cls X.K C)(n:sD X.K C f)(hl:fs.length<1000)(ry:RelV y u)
  (h:∀s',Inv X pins σ (upd H a (.ins C dx (tZ f y fs))) s'->Q () s'):af (model X.prog X.w) A (setAttr (.ref a) f u) Q E s:=by
 obtain⟨mA,O,r,wi,_,ho⟩:=sT I.hok e;have hz:(fs.map (·.1)).length<=av:=by rw[ar,bX];omega
 refine JA I.kIn O c.sa c.po n.taker c.hd wi hz λh' O' sb=>h _ ?_;have hd:∃o,h'.get? dx=some o:=let ⟨o,_,_,e',_⟩:=O'.ns;⟨o,e'⟩;refine I.write (x:=a) (e:=dx) (by rw[e];exact True.intro) (.inr ho) (λb q hb z=>(sb.2 b hb).trans z) hd ?_;refine⟨by rw[oo O.ne];exact ho,?_,O.ne,O'.obj,_,O'.ns,λg=>?_,λg hg=>?_⟩
 ·have:=ya f y fs;omega
 ·show uY ((tZ f y fs).lookup g) (if g=f then some u else mA g);rw[x9];by_cases q:g=f
  ·rw[ag q,ag q];exact ry
  ·rw[ah q,ah q];exact r g
 ·by_cases q:g=f
  ·rw[q];exact(xI f y fs).1
  ·refine(xI f y fs).2 g (wi g λz=>hg ?_);show (if g=f then some u else mA g)=none;rw[ah q];exact z
theorem Inv.made(I:Inv X pins σ H s):Inv X pins σ (upd (upd H s.heap.objs.size (.own (s.heap.objs.size+1))) (s.heap.objs.size+1) (.ins C s.heap.objs.size []))
  { s with heap:=(s.heap.push W.emptyDict).push (W.instObj C s.heap.objs.size) }:=by
 have e1:(s.heap.push W.emptyDict).get? s.heap.objs.size=some W.emptyDict:=aY s.heap rfl;have e2:((s.heap.push W.emptyDict).push (W.instObj C s.heap.objs.size)).get? (s.heap.objs.size+1)=some (W.instObj C s.heap.objs.size):=by
  have:=aY (s.heap.push W.emptyDict) (o:=W.instObj C s.heap.objs.size) rfl
  rwa [dG]at this
 have e3:(s.heap.push W.emptyDict).Ns s.heap.objs.size (λ_=>none):=⟨W.emptyDict,#[],_,e1,rfl,(λe he=>ak he (by simp)),λ_=>rfl⟩;have I1:=I.laid (a:=s.heap.objs.size) (o:=.own (s.heap.objs.size+1)) (h':=s.heap.push W.emptyDict) (t':=s.toks) (λb u q=>aD _ q) (ay _) ⟨_,e1⟩;refine I1.laid (a:=s.heap.objs.size+1) (o:=.ins C s.heap.objs.size []) (t':=s.toks) (λb u q=>aD _ q) (kO (dG _ _)) ?_;have ne:s.heap.objs.size≠s.heap.objs.size+1:=aG (cW _);refine⟨by rw[oo ne,oi],aR _,ne,e2,λ_=>none,(Heap.Ns1.of_empty e3).at λo q=>aD _ q,λ_=>True.intro,λy hy=>ak rfl hy⟩
theorem JB{prog:aq}{w:aj}{env:Env}{e:Expr}{f:Str}{s:ae}(hb:c7 e f env (eval e env)=eval e env)
  (h:af (model prog w) A (eval e env) (λo s₁=>af (model prog w) A (getAttr o f true) Q E s₁) E s):af (model prog w) A (eval (.Attribute e f pos) env) Q E s:=
 Attribute_any_ h (by rw[arm_eval_Attribute,hb])
end
def Rl(K:W.Frag)(ta:TE)(f:Str):TE:=λσ H Q=>ta σ H λx H1=>∃a C dx fs v,x=.ref a/\H1 a=some (.ins C dx fs)/\Cls K C/\sD K C f/\fs.lookup f=some v/\Q v H1
def PU(K:W.Frag)(ta tv:TE)(f:Str):TS:=λD σ H=>tv σ H λy H1=>ta σ H1 λx H2=>∃a C dx fs,x=.ref a/\H2 a=some (.ins C dx fs)/\Cls K C/\sD K C f/\fs.length<1000/\
 D.nx σ (upd H2 a (.ins C dx (tZ f y fs)))
section
variable{X:Cx}{o e value:Expr}{f:Str}{pos pos' tpos:Pos}{ta tv:TE}
theorem My(he:PE X e ta)(hb:c7 e f X.env (eval e X.env)=eval e X.env):PE X (.Attribute e f pos) (Rl X.K ta f):=by intro pins s σ H Q I h;refine JB hb (thn (he pins s σ H _ I h) λu s1 zz=>?_);obtain⟨x,H1,I1,rx,a,C,dx,fs,v,ex,ea,c,n,l,q⟩:=zz;subst ex;obtain rfl:u=Value.ref a:=rx;exact Dl I1 ea c n l λu' s2 I2 ru=>⟨v,H1,I2,ru,q⟩
theorem Mz(ha:PE X o ta)(hv:PE X value tv)(hs:bu value (some (.Attribute o f pos')) pos.line X.env=pure false):PS X (.Assign [.Attribute o f pos'] value pos) (PU X.K ta tv f):=by intro pins s σ H D I h;refine plainObj_wpAny_Assign_Attribute (thn (hv pins s σ H _ I h) λu s1 ⟨y,H1,I1,ry,q⟩=>thn (ha pins s1 σ H1 _ I1 q) λov s2 zz=>?_) hs;obtain⟨x,H2,I2,rx,a,C,dx,fs,ex,ea,c,n,l,q2⟩:=zz;subst ex;obtain rfl:ov=Value.ref a:=rx;exact Dm I2 ea c n l ry λs3 I3=>⟨σ,_,I3,q2⟩
end
section
variable{X:Cx}{pins:List (Addr×Obj)}{σ:St}{H:Hp}{s:ae}{A:au}{E:aa->ae->Prop}{Q:aa->ae->Prop}{c:aa}{b:Bool}
inductive yL(K:W.Frag) (H:Hp):V->aa->Prop where
 |non:yL K H .non (.type "NoneType")
 |bl (x:Bool):yL K H (.bl x) (.type "bool")
 |int (i:Int):yL K H (.int i) (.type "int")
 |str (x:Str):yL K H (.str x) (.type "str")
 |flt (x:UInt64):yL K H (.flt x) (.type "float")
 |lst {a:Addr} {xs:List V} (e:H a=some (.lst xs)):yL K H (.ref a) (.type "list")
 |frz {a:Addr} {o:Obj} {xs:List V} (e:H a=some (.frz o (.lst xs))):yL K H (.ref a) (.type "list")
 |tup {a:Addr} {xs:List V} (e:H a=some (.tup xs)):yL K H (.ref a) (.type "tuple")
 |dK {a:Addr} {kvs:List (Key×V)} (e:H a=some (.dK kvs)):yL K H (.ref a) (.type "dict")
 |dT {a:Addr} {kvs:List (List Key×V)} (e:H a=some (.dT kvs)):yL K H (.ref a) (.type "dict")
 |ins {a C dx:Addr} {fs:List (Str×V)} (e:H a=some (.ins C dx fs)) (cl:Cls K C) (ha:W.findIn K (.ref C) "__class__" = some (some (.builtin "object.__class__")))
   (hn:W.specialIn K (.builtin "object.__class__") "__get__" = some (some (.builtin "getset_descriptor.__get__"))) (htk:W.takesIn K (.builtin "object.__class__")=some true)
   (hm:W.mroIn K C (.type "object")=some true):yL K H (.ref a) (.ref C)
theorem sr{x:V}{u t:aa}(I:Inv X pins σ H s)(rx:RelV x u)(ty:yL X.K H x t)(e:W.kitOne X.K t c=some b)(h:∀tk,Q (.bool b) { s with toks:=tk }):
  af (model X.prog X.w) A (call (.builtin "isinstance") [u,c]) Q E s:=by
 cases ty with
 |non=>cases (show u=Value.none from rx);exact W.kia_one W.kitx_none I.kIn True.intro e (λz=>nomatch z) h
 |bl y=>cases (show u=Value.bool y from rx);exact W.kia_one W.kitx_bool I.kIn True.intro e (λz=>nomatch z) h
 |int i=>obtain⟨t,q⟩:=(show ∃t,u=Value.int i t from rx);cases q;exact W.kia_one W.kitx_int I.kIn True.intro e (λz=>nomatch z) h
 |str y=>obtain⟨t,q⟩:=(show ∃t,u=Value.str y t from rx);cases q;exact W.kia_one W.kitx_str I.kIn True.intro e (λz=>nomatch z) h
 |flt y=>obtain⟨t,q⟩:=(show ∃t,u=Value.float y t from rx);cases q;exact W.kia_one W.kitx_float I.kIn True.intro e (λz=>nomatch z) h
 |@lst a xs ea=>cases (show u=Value.ref a from rx);obtain⟨_,_,n,_,h1⟩:=(show ObjOk X.prog X.w H s.heap a (.lst xs) from I.hok a _ ea);exact W.kia_one W.kitx_list I.kIn ⟨_,h1,rfl⟩ e (λz=>nomatch z) h
 |@frz a ob xs ea=>cases (show u=Value.ref a from rx);obtain⟨_,_,_,n,_,h1⟩:=(show ObjOk X.prog X.w H s.heap a (.frz ob (.lst xs)) from I.hok a _ ea);exact W.kia_one W.kitx_list I.kIn ⟨_,h1,rfl⟩ e (λz=>nomatch z) h
 |@tup a xs ea=>cases (show u=Value.ref a from rx);obtain⟨_,_,_,p⟩:=(show ObjOk X.prog X.w H s.heap a (.tup xs) from I.hok a _ ea);obtain⟨o,h1,h2,_⟩:=p;exact W.kia_one W.kitx_tuple I.kIn ⟨o,h1,h2⟩ e (λz=>nomatch z) h
 |@dK a kvs ea=>cases (show u=Value.ref a from rx);obtain⟨_,_,vs,_,p⟩:=(show ObjOk X.prog X.w H s.heap a (.dK kvs) from I.hok a _ ea);obtain⟨o,es,ep,h1,h2,_⟩:=p;exact W.kia_one W.kitx_dict I.kIn ⟨o,h1,h2.1⟩ e (λz=>nomatch z) h
 |@dT a kvs ea=>cases (show u=Value.ref a from rx);obtain⟨_,_,xs,_,o,es,ep,h1,h2,_⟩:=(show ObjOk X.prog X.w H s.heap a (.dT kvs) from I.hok a _ ea);exact W.kia_one W.kitx_dict I.kIn ⟨o,h1,h2.1⟩ e (λz=>nomatch z) h
 |@ins a C dx fs ea cl ha hn htk hm=>cases (show u=Value.ref a from rx);obtain⟨mA,O,_⟩:=sT I.hok ea;obtain⟨od,J,_⟩:=O.look;exact W.kia_one (W.kitx_own (cl.get _) cl.hd ha hn htk hm) I.kIn J e (λz=>nomatch z) h
end
structure pJ(k:Nat)(A:au):Prop where
 hd:A.handled=none
 dp:A.depth+3 * k+5<recursionLimit
 un:A.units+16 * k+200<cLine
theorem pJ.mono{j k:Nat}{A:au}(r:pJ k A)(h:j<=k):pJ j A:=⟨r.hd,by have:=r.dp;omega,by have:=r.un;omega⟩
theorem pJ.deeper{k:Nat}{A:au}(r:pJ (k+1) A)(env:Env):pJ k (A.deeper env):=
 ⟨r.hd,by have:=r.dp;show A.depth+1+3 * k+5<_;omega,by have:=r.un;show A.units+3+16 * k+200<_;omega⟩
theorem Dn{A:au}:(A.under (.builtin "type.__call__" ⟨.ref C::us,kw⟩)).depth=A.depth+1:=by
 first|rfl|simp[iu,Code.weight,Code.isCreation,Code.isGuard,Code.isCaller,kZ,iw,guardIds]
theorem Do{A:au}:(A.under (.builtin "type.__call__" ⟨.ref C::us,kw⟩)).units=A.units+1:=by
 first|rfl|simp[iu,Code.cUnits,kZ,iw]
theorem pJ.make{k:Nat}{A:au}(r:pJ (k+1) A)(C:Addr)(us:List aa)(kw:List (Str×aa)):pJ k (A.under (.builtin "type.__call__" ⟨.ref C::us,kw⟩)):=
 ⟨r.hd,by have:=r.dp;rw[Dn];omega,by have:=r.un;rw[Do];omega⟩
theorem pJ.depth{k:Nat}{A:au}(r:pJ k A):A.depth<recursionLimit:=by have:=r.dp;omega
theorem pJ.units{k:Nat}{A:au}(r:pJ k A):A.units+64<cLine:=by have:=r.un;omega
def y8:TA:=λ_ H Q=>Q [] H
def u7(ta:TE)(tr:TA):TA:=λσ H Q=>ta σ H λx H1=>tr σ H1 λxs H2=>Q (x::xs) H2
section
variable{X:Cx}{e:Expr}{es:List Expr}{te:TE}{t:TA}{pos:Pos}
theorem qK:PA X [] y8:=λ_ _ _ _ H Q I h=>eM ⟨[],H,I,.nil,h⟩
theorem o5(ha:PE X e te)(hr:PA X es t)(hs:ao (e::es) X.env=(false,eval e X.env)::ao es X.env:=by rfl):PA X (e::es) (u7 te t):=by intro pos pins s σ H Q I h;rw[hs];show af _ _ (spliced ((false,eval e X.env)::aK pos (ao es X.env))) _ _ s;refine dW (thn (ha pins s σ H _ I h) λu s1 zz=>?_);obtain⟨x,H1,I1,r1,q1⟩:=zz;exact thn (hr pos pins s1 σ H1 _ I1 q1) λus s2 ⟨xs,H2,I2,r2,q2⟩=>⟨x::xs,H2,I2,.cons r1 r2,q2⟩
def PV(t:TA):TE:=λσ H Q=>t σ H λxs H1=>xs.length<=av/\∀p,H1 p=none->Q (.ref p) (upd H1 p (.tup xs))
def PX(t:TA):TE:=λσ H Q=>t σ H λxs H1=>xs.length<=av/\∀p,H1 p=none->Q (.ref p) (upd H1 p (.lst xs))
theorem GB{x1}(h:PA X es t):PE X (.Tuple es x1 pos) (PV t):=by intro pins s σ H Q I hq;refine wpAny_Tuple_spliced (thn (h pos pins s σ H _ I hq) λus s1 ⟨xs,H1,I1,r,z,q⟩=>⟨by rw[<-r.length];exact z,?_⟩);have hf:H1 s1.heap.objs.size=none:=I1.hok.fresh (ay _);refine⟨.ref s1.heap.objs.size,upd H1 s1.heap.objs.size (.tup xs),I1.laid (t':=s1.toks) (λb u e=>aD _ e) (ay _) ?_,rfl,q _ hf⟩;exact⟨z,us,r,⟨_,aY _ rfl,rfl,_,rfl⟩⟩
theorem Bs(h:PA X es t):PE X (.List es pos) (PX t):=by intro pins s σ H Q I hq;refine wpAny_List_spliced (thn (h pos pins s σ H _ I hq) λus s1 ⟨xs,H1,I1,r,z,q⟩=>⟨by rw[<-r.length];exact z,?_⟩);have hf:H1 s1.heap.objs.size=none:=I1.hok.fresh (ay _);refine⟨.ref s1.heap.objs.size,upd H1 s1.heap.objs.size (.lst xs),I1.laid (t':=s1.toks) (λb u e=>aD _ e) (ay _) ?_,rfl,q _ hf⟩;exact⟨z,us,0,r,aY _ rfl⟩
end
abbrev Sp:=List V->Hp->VK->XK->Prop
abbrev CXT:=List Env->Hp->ae->XK->aa->ae->Prop
structure Dp(P:aq)(w:aj)(K:W.Frag)(mg:Str->Option aa)(base:Heap)(A:au)(outer:List Env)(s:ae)(H:Hp):Prop where
 frames:A.frames=some outer
 mod:Mod K mg base
 bs:∀b o,base.get? b=some o->s.heap.get? b=some o/\H b=none
 bsz:base.objs.size<=s.heap.objs.size
 funs:s.heap.FunFrames base outer
 frf:∀b∈frs outer,H b=none
 hok:HOk P w H s.heap
 bare:cA s.gens
def CE(outer:List Env)(P:aq)(w:aj)(H:Hp)(s:ae)(Q:VK)(u:aa)(s':ae):Prop:=
 ∃v H',s'.os=s.os/\cA s'.gens/\Un (frs outer) [] H H' s.heap s'.heap/\HOk P w H' s'.heap/\RelV v u/\Q v H'
def CR(CX:CXT)(outer:List Env)(P:aq)(w:aj)(H:Hp)(s:ae)(Q:VK)(E:XK)(r:bU)(s':ae):Prop:=
 match r with
 |.ok (.ret u)=>CE outer P w H s Q u s'
 |.ok _=>False
 |.error e=>CX outer H s E e s'
structure qx(P:aq)(w:aj)(K:W.Frag)(mg:Str->Option aa)(base:Heap)(CX:CXT)(k:Nat)(f:Addr)(fd:aW)(ps:List Str)(sp:Sp):Prop where
 len:∀vs H Q E,sp vs H Q E->vs.length=ps.length
 run:∀(A:au) (outer:List Env) (s:ae) (H:Hp) (args:Args) (us:List aa) (vs:List V) (Q:VK) (E:XK),pJ k A->Dp P w K mg base A outer s H->eE s fd args (ps.zip us)->Vals vs us->sp vs H Q E->
  bB (model P w) A (.call (.ref f) args) (CR CX outer P w H s Q E) s
variable{mg:Str->Option aa}{base:Heap}{CX:CXT}{fd:aW}{ps:List Str}{sp:Sp}
theorem qx.imp{P:aq}{w:aj}{K:W.Frag}{k:Nat}{f:Addr}{sp':Sp}(F:qx P w K mg base CX k f fd ps sp)
  (h:∀vs H Q E,sp' vs H Q E->sp vs H Q E):qx P w K mg base CX k f fd ps sp':=
 ⟨λvs H Q E q=>F.len vs H Q E (h _ _ _ _ q),λA outer s H args us vs Q E hr he hb hv hs=>F.run A outer s H args us vs Q E hr he hb hv (h _ _ _ _ hs)⟩
variable{outer:List Env}
theorem Dp.make{P:aq}{w:aj}{K:W.Frag}{A:au}{s:ae}{H:Hp}(e:Dp P w K mg base A outer s H)(C:Addr)(us:List aa)(kw:List (Str×aa)):
  Dp P w K mg base (A.under (.builtin "type.__call__" ⟨.ref C::us,kw⟩)) outer s H:=⟨by first|exact e.frames|(simpa [iu,Code.envs,iw,pushEnvs]using e.frames),e.mod,e.bs,e.bsz,e.funs,e.frf,e.hok,e.bare⟩
section
variable{X:Cx}{pins:List (Addr×Obj)}{σ:St}{H:Hp}{s s':ae}
theorem Inv.env0(I:Inv X pins σ H s):Dp X.prog X.w X.K X.mg X.base X.A X.stack s H:=
 ⟨I.ok.frames,I.ok.mod,I.bs,bz I.ok.bsz I.sz,I.stack,I.stkFree,I.hok,I.bare⟩
theorem Inv.after{Q:VK}{u:aa}(I:Inv X pins σ H s)(h:CE X.stack X.prog X.w H s Q u s'):EP X pins σ Q u s':=by obtain⟨v,H',os,bare,un,hok,r,q⟩:=h;obtain⟨hh,g,d,t,os'⟩:=s';obtain rfl:os'=s.os:=os;exact⟨v,H',I.call (h':=hh) (g':=g) (d':=d) (t':=t) (ch:=[]) un hok bare (λb z=>ak z (by simp)),r,q⟩
end
def u9(sp:Sp)(dvs:List V)(E:XK)(t:TA):TE:=λσ H Q=>t σ H λvs H1=>sp (vs++dvs) H1 Q E
def B4(C:Addr)(sp:Sp)(dvs:List V)(E:XK)(t:TA):TE:=λσ H Q=>t σ H λvs H1=>∀x dx,H1 x=none->H1 dx=none->dx≠x->
 sp (.ref x::(vs++dvs)) (upd (upd H1 dx (.own x)) x (.ins C dx [])) (λv H2=>v=.non/\Q (.ref x) H2) E
def Binds(K:W.Frag)(fd:aW)(ps:List Str)(ds:List aa):Prop:=
 ∀(s:ae) (us:List aa),K.In s.heap->(us++ds).length=ps.length->eE s fd ⟨us,[]⟩ (ps.zip (us++ds))
theorem Binds.all{K:W.Frag}(h:∀us:List aa,us.length=ps.length->bindArgs fd ⟨us,[]⟩=pure (ps.zip us)):Binds K fd ps []:=λs us _ hl=>by rw[bE]at hl ⊢;exact .of_eq (h us hl)
def Passes(CX:CXT)(X:Cx)(E:XK):Prop:=∀(pins:List (Addr×Obj)) (σ:St) (H:Hp) (s:ae) (e:aa) (s':ae),Inv X pins σ H s->CX X.stack H s E e s'->X.xe e s'
section
variable{X:Cx}{CX:CXT}{k:Nat}{f C:Addr}{fd:aW}{ps:List Str}{sp:Sp}{dvs:List V}{ds:List aa}{E:XK}{x m:Str}{p pos apos:Pos}{e o:Expr}{es:List Expr}{ta:TE}{t:TA}
theorem Bt{H:Hp}{s:ae}{Q:VK}{vs:List V}(F:qx X.prog X.w X.K X.mg X.base CX k f fd ps sp)(hr:pJ k X.A)(hb:Binds X.K fd ps ds)(hd:Vals dvs ds)(hx:Passes CX X E)
  (I:Inv X pins σ H s) (r:Vals vs us) (h:sp (vs++dvs) H Q E):af (model X.prog X.w) X.A (call (.ref f) us) (EP X pins σ Q) X.xe s:=by
 have r2:Vals (vs++dvs) (us++ds):=r.append hd;have hl:(us++ds).length=ps.length:=by rw[<-r2.length];exact F.len _ _ _ _ h
 refine c9 (cM (F.run X.A X.stack s H ⟨us,[]⟩ (us++ds) (vs++dvs) Q E hr I.env0 (hb s us I.kIn hl) r2 h) λr s' hq=>?_);cases r with
 |error e=>exact hx pins σ H s e s' I hq
 |ok fl=>
  cases fl with
  |ret u=>exact I.after hq
  |next=>exact bA hq
  |brk=>exact bA hq
  |cont=>exact bA hq
theorem yQ(F:qx X.prog X.w X.K X.mg X.base CX k f fd ps sp)(hr:pJ k X.A)(hg:Gl X x)(hm:X.mg x=some (.ref f))(hk:W.keepIn X.K (.ref f)=true)(hb:Binds X.K fd ps ds)(hd:Vals dvs ds)(hx:Passes CX X E)
  (ha:PA X (e::es) t) (hdb:(x==("__debug__" : Str))=false:=by decide) (he:ao (e::es) X.env=(false,eval e X.env)::ao es X.env:=by rfl) (hpl:(aK pos (ao es X.env)).any (·.1)=false:=by rfl):
  PE X (.Call (.Name x p) (e::es) [] pos) (u9 sp dvs E t):=by
 intro pins s σ H Q I h;refine cu (rH I hg hm ?_ hdb);refine W.callWith_K (h₀:=X.base) I.ok.mod.kin hk (thn (ha pos pins s σ H _ I h) λus s1 ⟨vs,H1,I1,r,q⟩=>⟨I1.kIn,?_⟩) he hpl;exact Bt F hr hb hd hx I1 r q
theorem GE(F:qx X.prog X.w X.K X.mg X.base CX k f fd ps sp)(hr:pJ k X.A)(hg:Gl X x)(hm:X.mg x=some (.ref f))(hk:W.keepIn X.K (.ref f)=true)(hb:Binds X.K fd ps ds)(hd:Vals dvs ds)(hx:Passes CX X E)
  (hdb:(x==("__debug__" : Str))=false:=by decide):PE X (.Call (.Name x p) [] [] pos) (u9 sp dvs E y8):=by
 intro pins s σ H Q I h;refine cu (rH I hg hm ?_ hdb);exact W.callWith_K0 I.kIn hk (Bt (us:=[]) F hr hb hd hx I .nil h)
structure Mk(K:W.Frag)(C f:Addr):Prop where
 makes:W.makesIn K C=true
 init:W.findIn K (.ref C) "__init__" = some (some (.ref f))
 fn:W.isFn K (.ref f)=true
 kp:W.keepIn K (.ref C)=true
theorem GF{H:Hp}{s:ae}{Q:VK}{vs:List V}(M:Mk X.K C f)(F:qx X.prog X.w X.K X.mg X.base CX k f fd ps sp)(hr:pJ (k+1) X.A)(hb:Binds X.K fd ps ds)(hd:Vals dvs ds)
  (hx:Passes CX X E) (I:Inv X pins σ H s) (r:Vals vs us)
  (h:∀x dx,H x=none->H dx=none->dx≠x->sp (.ref x::(vs++dvs)) (upd (upd H dx (.own x)) x (.ins C dx [])) (λv H2=>v=.non/\Q (.ref x) H2) E):
  af (model X.prog X.w) X.A (call (.ref C) us) (EP X pins σ Q) X.xe s:=by
 have hq:=h (s.heap.objs.size+1) s.heap.objs.size (I.hok.fresh (fo _)) (I.hok.fresh (ay _)) (aG (cW _));have I2:=Inv.made (C:=C) I;have r2:Vals (V.ref (s.heap.objs.size+1)::(vs++dvs)) (Value.ref (s.heap.objs.size+1)::(us++ds)):=.cons rfl (r.append hd);have hl:(Value.ref (s.heap.objs.size+1)::us++ds).length=ps.length:=by have e:=r2.length;rw[F.len _ _ _ _ hq]at e;exact e.symm
 refine c9 (B3 (f:=f) I.kIn M.makes M.init (beq_iff_eq.mp M.fn) (cM (F.run _ X.stack _ _ ⟨Value.ref (s.heap.objs.size+1)::us,[]⟩ (Value.ref (s.heap.objs.size+1)::(us++ds)) _ _ E (hr.make C us [])
  (I2.env0.make C us []) (hb _ (Value.ref (s.heap.objs.size+1)::us) I2.kIn hl) r2 hq) λr s' hq'=>?_))
 cases r with
 |error e=>exact hx pins σ _ _ e s' I2 hq'
 |ok fl=>
  cases fl with
  |ret u=>obtain⟨v,H',I3,rv,ev,q3⟩:=I2.after hq';subst ev;exact⟨rv,⟨V.ref (s.heap.objs.size+1),H',I3,rfl,q3⟩⟩
  |next=>exact bA hq'
  |brk=>exact bA hq'
  |cont=>exact bA hq'
theorem Eb(M:Mk X.K C f)(F:qx X.prog X.w X.K X.mg X.base CX k f fd ps sp)(hr:pJ (k+1) X.A)(hg:Gl X x)(hm:X.mg x=some (.ref C))(hb:Binds X.K fd ps ds)(hd:Vals dvs ds)(hx:Passes CX X E)
  (ha:PA X (e::es) t) (hdb:(x==("__debug__" : Str))=false:=by decide) (he:ao (e::es) X.env=(false,eval e X.env)::ao es X.env:=by rfl) (hpl:(aK pos (ao es X.env)).any (·.1)=false:=by rfl):
  PE X (.Call (.Name x p) (e::es) [] pos) (B4 C sp dvs E t):=by
 intro pins s σ H Q I h;refine cu (rH I hg hm ?_ hdb);refine W.callWith_K (h₀:=X.base) I.ok.mod.kin M.kp (thn (ha pos pins s σ H _ I h) λus s1 ⟨vs,H1,I1,r,q⟩=>⟨I1.kIn,?_⟩) he hpl;exact GF M F hr hb hd hx I1 r q
end
structure p7(N P:List Str)(sc:bM):Prop where
 kind:sc.kind=.function
 co:sc.isCoroutine=false
 gen:sc.isGenerator=false
 nd:N.Nodup
 pre:N.take P.length=P
 par:∀x∈P,sc.names.lookup x=some .local\/sc.names.lookup x=some .cell
 nofree:∀y∈sc.names,y.2≠.free
theorem Ax{kindOf:Str->Option cz}{x:Str}:∀{binds:List (Str×aa)} {m:Str->Option aa},(∀v,(x,v)∉binds)->bindL kindOf binds m x=m x
 |[],_,_=>rfl
 |(n,v)::r,m,h=>by
  unfold bindL;rw[Ax λw hw=>h w (aM _ hw)];split
  ·have:x≠n:=by rintro rfl;exact h v aL
   simp[this]
  ·rfl
theorem Ay{kindOf:Str->Option cz}{x:Str}:∀{binds:List (Str×aa)} {m:Str->Option aa},(∀v,(x,v)∉binds)->bindC kindOf binds m x=m x
 |[],_,_=>rfl
 |(n,v)::r,m,h=>by
  unfold bindC;rw[Ay λw hw=>h w (aM _ hw)];split
  ·rfl
  ·have:x≠n:=by rintro rfl;exact h v aL
   simp[this]
theorem AA{kindOf:Str->Option cz}{x:Str}{v:aa}:∀{P:List Str} {vs:List aa} {i:Nat} {m:Str->Option aa},P.Nodup->P[i]?=some x->vs[i]?=some v->kindOf x=some .local->
  bindL kindOf (P.zip vs) m x=some v
 |[],_,_,_,_,h,_,_=>by simp at h
 |_::_,[],_,_,_,_,h,_=>by simp at h
 |p::P,w::vs,0,m,nd,h1,h2,hk=>by simp at h1 h2;subst h1;subst h2;show bindL kindOf ((p,w)::P.zip vs) m p=_;unfold bindL;rw[Ax λv hv=>(d5.mp nd).1 (ia hv).1,ag hk];simp
 |p::P,w::vs,i+1,m,nd,h1,h2,hk=>by show bindL kindOf ((p,w)::P.zip vs) m x=_;unfold bindL;exact AA (i:=i) (d5.mp nd).2 (by simpa using h1) (by simpa using h2) hk
theorem AB{kindOf:Str->Option cz}{x:Str}{v:aa}:∀{P:List Str} {vs:List aa} {i:Nat} {m:Str->Option aa},P.Nodup->P[i]?=some x->vs[i]?=some v->kindOf x≠some .local->
  bindC kindOf (P.zip vs) m x=some v
 |[],_,_,_,_,h,_,_=>by simp at h
 |_::_,[],_,_,_,_,h,_=>by simp at h
 |p::P,w::vs,0,m,nd,h1,h2,hk=>by simp at h1 h2;subst h1;subst h2;show bindC kindOf ((p,w)::P.zip vs) m p=_;unfold bindC;rw[Ay λv hv=>(d5.mp nd).1 (ia hv).1,ah hk];simp
 |p::P,w::vs,i+1,m,nd,h1,h2,hk=>by show bindC kindOf ((p,w)::P.zip vs) m x=_;unfold bindC;exact AB (i:=i) (d5.mp nd).2 (by simpa using h1) (by simpa using h2) hk
def start(N:List Str)(vs:List V):St:=vs.map some++cJ (N.length - vs.length) none
def Bu(CX:CXT)(P:aq)(w:aj)(K:W.Frag)(mg:Str->Option aa)(base:Heap)(N:List Str)(qual:Str)(scope:bM)(f:Addr)(cd:aa)(A:au)(outer:List Env)(s:ae)(H:Hp)(E:XK):Cx where
 prog:=P
 w:=w
 K:=K
 mg:=mg
 base:=base
 A:=A.deeper (envOfC qual scope s.heap.objs.size f cd)
 N:=N
 s₀:=s
 H₀:=H
 env:=envOfC qual scope s.heap.objs.size f cd
 outer:=outer
 stack:=envOfC qual scope s.heap.objs.size f cd::outer
 ex:=[]
 calm:=true
 fn:=λ_=>true
 pn:=[]
 xe:=λe s'=>af (model P w) (A.deeper (envOfC qual scope s.heap.objs.size f cd)) (leaving (envOfC qual scope s.heap.objs.size f cd) e) (λ_ s''=>CX outer H s E e s'') (λe' s''=>CX outer H s E e' s'') s'
theorem B5{sc:bM}{n:Nat}(h:sc.names.lookup x=some .cell):∃c,(cellsFrom n sc.names []).lookup x=some c:=by have q:=W.cellsFrom_some sc.names n [] (.inl h);exact gv.mp q
variable{qual:Str}{scope:bM}
theorem Fm{P:aq}{w:aj}{K:W.Frag}{f:Addr}{cd:aa}{A:au}{s s1:ae}{H:Hp}{E:XK}{vs:List V}
  (S:p7 N ps scope) (hd:A.handled=none) (e0:Dp P w K mg base A outer s H) (hl:vs.length=ps.length) (r:Vals vs us)
  (x:InCallC s s.heap.objs.size (bindL (envOfC qual scope s.heap.objs.size f cd).kindOf (ps.zip us) λ_=>none) (cellsFrom (s.heap.objs.size+1) scope.names []) (bindC (envOfC qual scope s.heap.objs.size f cd).kindOf (ps.zip us) λ_=>none) s1):
  Inv (Bu CX P w K mg base N qual scope f cd A outer s H E) [] (start N vs) H s1:=by
 have hpl:ps.length<=N.length:=by have:=aS cj S.pre;rw[aZ]at this;omega
 obtain⟨h1,tk,rfl,hk⟩:=x.done;have noA:∀b:Addr,b∉(Bu CX P w K mg base N qual scope f cd A outer s H E).ex:=λb z=>ak (show b∈([]:List Addr) from z) (by simp);refine⟨⟨e0.mod,S.kind,rfl,rfl,ay _,λy z c h1 h2=>?_,λy hy=>?_,λy c _ h=>?_,λ_=>hd,Around.frames_deeper e0.frames,.inr ⟨rfl,rfl⟩,λb z=>ak z (noA b),e0.bs,e0.bsz,λb _ _=>noA b,λb z=>ak z (noA b),e0.funs,e0.frf⟩,
  rfl,e0.bare,Un.kept hk,⟨_,x.toInCall.ns,λi y v h1 h2 h3=>?_⟩,λy c h=>⟨_,x.cell y c h⟩,e0.hok.fresh (ay _),λy c h=>?_,λp hp=>ak (show p∈([]:List (Addr×Obj)) from hp) (by simp),e0.hok.kept hk,?_⟩
 ·exact name_of_addr x.apart (eK h1) (eK h2)
 ·have hy:scope.names.lookup y=some .cell\/scope.names.lookup y=some .free:=hy;rcases hy with hy|hy
  ·exact B5 hy
  ·exact ak rfl (S.nofree _ (eK hy))
 ·exact f6 (x.above y c (eK h))
 ·have hi:i<vs.length:=by
   unfold start at h2;by_cases hi:i<vs.length
   ·exact hi
   ·rw[cP (by simpa using hi)]at h2;rw[fB]at h2;split at h2<;>cases h2
  have ha:vs[i]?=some v:=by
   unfold start at h2;rw[cB (by simpa using hi),aU]at h2;cases e:vs[i]? with
   |none=>rw[e]at h2;cases h2
   |some a=>rw[e]at h2;cases h2;rfl
  obtain⟨u,hu,rv⟩:=r.get ha;have hp:ps[i]?=some y:=by rw[<-S.pre,List.getElem?_take_of_lt (by omega)];exact h1
  have ndP:ps.Nodup:=by rw[<-S.pre];exact S.nd.sublist (gU _ _)
  refine⟨u,rv,?_⟩;rcases S.par y (bw hp)with k|k
  ·exact .inl ⟨k,AA ndP hp hu k⟩
  ·obtain⟨c,e⟩:=B5 (n:=s.heap.objs.size+1) k;refine .inr ⟨.inl k,c,e,?_⟩;have q:=x.cell y c e;rw[AB ndP hp hu (by show scope.names.lookup y≠_;rw[k];decide)]at q;exact q
 ·exact e0.hok.fresh (f6 (x.above y c (eK h)))
 ·unfold start;show _=N.length;rw[aE,ar,bI];omega
theorem AC{P:aq}{w:aj}{K:W.Frag}{k:Nat}{f:Addr}{name:Str}{params:Arguments}{dV kV doc pm cdv ct oc:aa}{an od:Option Addr}
  {osl:Array (Option aa)} (lk:K.lookup f=some ⟨oc,od,.func (W.fnOf name qual params body scope dV kV doc pm an cdv ct),osl⟩) (hcd:W.codeIn K cdv qual=true) (S:p7 N ps scope)
  (len:∀vs H Q E,sp vs H Q E->vs.length=ps.length)
  (hbody:∀(A:au) (outer:List Env) (s:ae) (H:Hp) (vs:List V) (Q:VK) (E:XK),pJ k (A.deeper (envOfC qual scope s.heap.objs.size f cdv))->sp vs H Q E->
   ∃t,PSs (Bu CX P w K mg base N qual scope f cdv A outer s H E) body t/\t { nx:=λ_ H'=>Q .non H',rt:=Q } (start N vs) H):
  qx P w K mg base CX (k+1) f (W.fnOf name qual params body scope dV kV doc pm an cdv ct) ps sp:=by
 refine⟨len,λA outer s H args us vs Q E hr e0 hb r hsp=>?_⟩;have hl:=len _ _ _ _ hsp;have KX:K.In s.heap:=e0.mod.kin.keeps λb o e=>(e0.bs b o e).1;have lim:s.heap.NoLimit:=e0.mod.nolimit.keeps λb o e=>(e0.bs b o e).1;have hkind:∀y∈ps.zip us,scope.names.lookup y.1=some .local\/(scope.names.lookup y.1=some .cell/\((cellsFrom (s.heap.objs.size+1) scope.names []).lookup y.1).isSome=true):=λ⟨n,v⟩ hy=>by
  rcases S.par n (ia hy).1 with q|q
  ·exact .inl q
  ·exact .inr ⟨q,W.cellsFrom_some _ _ _ (.inl q)⟩
 refine codeAny_call_function hr.depth (KX _ _ lk) rfl S.co S.gen rfl (W.codeRec_of KX hcd) (hb _ _ _ _ ?_);refine wpAny_newFunctionEnv_cells S.kind hkind λenv he s1 x=>?_;subst he;refine⟨lim.keeps x.toInCall.keep,codeAny_func ?_⟩;obtain⟨t,ht,hq⟩:=hbody A outer s H vs Q E (hr.deeper _) hsp;have I:Inv (Bu CX P w K mg base N qual scope f cdv A outer s H E) [] (start N vs) H s1:=Fm S hr.hd e0 hl r x;refine bf (ht [] s1 (start N vs) H _ I hq) (λfl s' hs=>?_) λe s' hs=>hs;have fin:∀{σ':St} {H':Hp} {v:V} {u:aa},Inv (Bu CX P w K mg base N qual scope f cdv A outer s H E) [] σ' H' s'->RelV v u->Q v H'->CE outer P w H s Q u s':=
  λ{σ' H' v u} J rv q=>⟨v,H',J.os,J.bare,J.base,J.hok,rv,q⟩
 cases fl with
 |ret u=>obtain⟨v,σ',H',J,rv,q⟩:=hs;exact fin J rv q
 |next=>obtain⟨σ',H',J,q⟩:=hs;exact fin (v:=V.non) (u:=Value.none) J rfl q
 |brk=>obtain⟨_,_,_,q⟩:=hs;exact bA q
 |cont=>obtain⟨_,_,_,q⟩:=hs;exact bA q
section
variable{X:Cx}{x:Str}{p pos:Pos}{e:Expr}{es:List Expr}{t:TA}{id T:String}{r:List V->Hp->VK->Prop}
def tCB(r:List V->Hp->VK->Prop)(t:TA):TE:=λσ H Q=>t σ H λvs H1=>r vs H1 Q
theorem rO(hc:pM X (.builtin id) r)(hg:Gl X x)(hm:X.mg x=none)(hv:cf x=some (.builtin id))(ha:PA X (e::es) t)(hn:x≠"__name__" := by decide)(hdb:(x==("__debug__" : Str))=false:=by decide)
  (he:ao (e::es) X.env=(false,eval e X.env)::ao es X.env:=by rfl) (hpl:(aK pos (ao es X.env)).any (·.1)=false:=by rfl):PE X (.Call (.Name x p) (e::es) [] pos) (tCB r t):=by
 intro pins s σ H Q I h;refine cu (xG I hg hm hv ?_ hn hdb);exact callWith_builtin1 (thn (ha pos pins s σ H _ I h) λus s1 ⟨vs,H1,I1,r1,q1⟩=>hc pins s1 σ H1 vs us Q I1 r1 q1) he hpl
theorem Fn(hc:pM X (.type T) r)(hg:Gl X x)(hm:X.mg x=none)(hv:cf x=some (.type T))(ha:PA X (e::es) t)(hn:x≠"__name__" := by decide)(hdb:(x==("__debug__" : Str))=false:=by decide)
  (he:ao (e::es) X.env=(false,eval e X.env)::ao es X.env:=by rfl) (hpl:(aK pos (ao es X.env)).any (·.1)=false:=by rfl):PE X (.Call (.Name x p) (e::es) [] pos) (tCB r t):=by
 intro pins s σ H Q I h;refine cu (xG I hg hm hv ?_ hn hdb);exact callWith_type1 (thn (ha pos pins s σ H _ I h) λus s1 ⟨vs,H1,I1,r1,q1⟩=>hc pins s1 σ H1 vs us Q I1 r1 q1) he hpl
end
end L2
namespace HT
open PySem PyProof.Rows
section
variable{prog:aq}{w:aj}{A:au}{E:aa->ae->Prop}{s:ae}
theorem JC{t b:Addr}{vs ws:List aa}{Q:aa->ae->Prop}(ht:IsTup s.heap t vs.toArray)(hb:IsTup s.heap b ws.toArray)(hv:vs≠[])
  (h1:ws=[]->Q (.ref t) s) (h2:ws≠[]->Q (.ref s.heap.objs.size) { s with heap:=s.heap.push { cls:=.type "tuple", data:=.seq (vs++ws).toArray } })
  (hsz:vs.length+ws.length<=av):af (model prog w) A (bO .Add (.ref t) (.ref b)) Q E s:=by
 obtain⟨⟨cls,dd,data,sl⟩,ho,hc,n,hd⟩:=id ht;obtain⟨⟨cls2,dd2,data2,sl2⟩,ho2,hc2,n2,hd2⟩:=id hb;simp only at hc hd hc2 hd2;subst hc hd hc2 hd2;have e:vs.toArray++ws.toArray=(vs++ws).toArray:=by simp
 by_cases hw:ws=[]
 ·exact concat_meets ⟨_,ho,rfl⟩ ⟨_,ho2,rfl⟩ jY kD jZ jO (jC _ _)
   (tuple_addW1 t b vs.toArray ws.toArray n n2 dd dd2 sl sl2 (by simpa using hv) (by simp[hw])) ⟨ho,ho2,h1 hw⟩
 ·refine concat_meets ⟨_,ho,rfl⟩ ⟨_,ho2,rfl⟩ jY kD jZ jO (jC _ _)
   (tuple_addW2 t b vs.toArray ws.toArray n n2 dd dd2 sl sl2 (by simpa using hv) (by simpa using hw) (by rw[aH,aH];exact hsz)) ⟨ho,ho2,?_⟩
  rw[e];exact h2 hw
def sIx(n d:Nat):Option Int->Nat
 |none=>d
 |some v=>if v<0 then (v+(n:Int)).toNat else min v.toNat n
theorem GH(n d:Nat):sIx n d none=d:=rfl
theorem JD(n d k:Nat):sIx n d (some (k:Int))=min k n:=by show (if (k:Int)<0 then ((k:Int)+(n:Int)).toNat else min (k:Int).toNat n)=min k n;rw[ah (by omega),jP]
end
end HT
namespace L2
open PySem PySem.Spec PyProof.Rows
abbrev TO:=St->Hp->(Option Int->Hp->Prop)->Prop
def PO(X:Cx)(e:Option Expr)(t:TO):Prop:=
 ∀(pins:List (Addr×Obj)) (s:ae) (σ:St) (H:Hp) (Q:Option Int->Hp->Prop),Inv X pins σ H s->t σ H Q->
  af (model X.prog X.w) X.A (evalPart e X.env) (λu s'=>∃o H',Inv X pins σ H' s'/\IsPart u o/\Q o H') X.xe s
def JE:TO:=λ_ H Q=>Q none H
def PY(t:TE):TO:=λσ H Q=>t σ H λx H1=>∃i,x=.int i/\Q (some i) H1
section
variable{X:Cx}{e:Expr}{te:TE}{lo hi:Option Expr}{tl th:TO}{pos p2:Pos}
theorem Ec:PO X none JE:=by intro pins s σ H Q I h;rw[kE];exact aw ⟨none,H,I,.none,h⟩
theorem Ed(h:PE X e te):PO X (some e) (PY te):=by intro pins s σ H Q I hw;rw[evalPart_some];refine thn (h pins s σ H _ I hw) λu s1 zz=>?_;obtain⟨x,H1,I1,r1,q1⟩:=zz;obtain⟨i,rfl,q⟩:=q1;obtain⟨t,rfl⟩:=r1;exact⟨some i,H1,I1,.int i t,q⟩
def SlR(X:Cx)(r:V->Option Int->Option Int->Hp->VK->Prop):Prop:=
 ∀(pins:List (Addr×Obj)) (s:ae) (σ:St) (H:Hp) (x:V) (v vl vu:aa) (lo hi:Option Int) (sl:Addr) (Q:VK),Inv X pins σ H s->RelV x v->s.heap.IsSliceOf sl vl vu .none->IsPart vl lo->IsPart vu hi->r x lo hi H Q->
  ∃T id,typeLookup (.type T) "__getitem__" = pure (some (.builtin id))/\s.TypeIs v T/\af (model X.prog X.w) X.A (getItem v (.ref sl)) (EP X pins σ Q) X.xe s
def tSl(r:V->Option Int->Option Int->Hp->VK->Prop)(te:TE)(tl th:TO):TE:=λσ H Q=>te σ H λx H1=>tl σ H1 λl H2=>th σ H2 λu H3=>r x l u H3 Q
theorem y9{r:V->Option Int->Option Int->Hp->VK->Prop}(hr:SlR X r)(he:PE X e te)(hl:PO X lo tl)(hu:PO X hi th):PE X (.Subscript e (.Slice lo hi none p2) pos) (tSl r te tl th):=by intro pins s σ H Q I h;refine iE (thn (he pins s σ H _ I h) λv s1 zz=>?_);obtain⟨x,H1,I1,r1,q1⟩:=zz;refine wpAny_Slice (thn (hl pins s1 σ H1 _ I1 q1) λvl s2 ⟨l,H2,I2,pl,q2⟩=>thn (hu pins s2 σ H2 _ I2 q2) λvu s3 zz=>?_);obtain⟨u,H3,I3,pu,q3⟩:=zz;rw[kE];refine aw ?_;have I4:Inv X pins σ H3 { s3 with heap:=s3.heap.push { cls:=.type "slice", data:=.fields #[vl,vu,.none] } }:=I3.kept (t':=s3.toks) λb ob q=>aD _ q;obtain⟨T,id,hT,ht,hg⟩:=hr pins { s3 with heap:=s3.heap.push { cls:=.type "slice", data:=.fields #[vl,vu,.none] } } σ H3 x v vl vu l u s3.heap.objs.size Q I4 r1 (mP ..) pl pu q3;show af (model X.prog X.w) X.A (subscriptTail e (.Slice lo hi none p2) v (.ref s3.heap.objs.size)) (EP X pins σ Q) X.xe { s3 with heap:=s3.heap.push { cls:=.type "slice", data:=.fields #[vl,vu,.none] } };exact tail_any (ops:=[.ref s3.heap.objs.size,v]) ht hT hg (by with_unfolding_all rfl)
def Fo(xs:List V)(lo hi:Option Int):List V:=(xs.drop (HT.sIx xs.length 0 lo)).take (HT.sIx xs.length xs.length hi - HT.sIx xs.length 0 lo)
theorem B6(xs:List V)(lo hi:Option Int):(Fo xs lo hi).length<=xs.length:=by unfold Fo;rw[aZ,eP];omega
def PZ(K:W.Frag):R2:=λx y H Q=>∃a b xs ys,x=.ref a/\y=.ref b/\SqT K H a xs/\SqT K H b ys/\xs≠[]/\xs.length+ys.length<=av/\
 (ys=[]->Q (.ref a) H)/\(ys≠[]->∀p,H p=none->Q (.ref p) (upd H p (.tup (xs++ys))))
theorem Vals.nil_iff{xs:List V}{us:List aa}(r:Vals xs us):us=[] ↔ xs=[]:=by
 cases r with
 |nil=>simp
 |cons _ _=>simp
theorem JF:OpR X (bO .Add) (PZ X.K):=by intro pins s σ H x y v u Q I rx ry h;obtain⟨a,b,xs,ys,rfl,rfl,ha,hb,hx,hz,q1,q2⟩:=h;cases rx;cases ry;obtain⟨its,r1,p1,_⟩:=I.tuple ha;obtain⟨its2,r2,p2,_⟩:=I.tuple hb;refine HT.JC p1 p2 (λz=>hx (r1.nil_iff.mp z)) (λz=>⟨.ref a,H,I,rfl,q1 (r2.nil_iff.mp z)⟩) (λz=>?_) (by rw[<-r1.length,<- r2.length];exact hz);refine⟨.ref s.heap.objs.size,_,I.laid (t':=s.toks) (o:=.tup (xs++ys)) (λb ob q=>aD _ q) (ay _) ?_,rfl,q2 (λw=>z (r2.nil_iff.mpr w)) _ (I.hok.fresh (ay _))⟩;exact⟨by rw[aE];exact hz,_,r1.append r2,lp _ _⟩
end
def ixN(n:Nat)(i:Int):Option Nat:=if 0<=i then (if i<n then some i.toNat else none)else if -(n:Int)<=i then some (i+n).toNat else none
def atI{α:Type}(xs:List α)(i:Int):Option α:=(ixN xs.length i).bind λj=>xs[j]?
theorem Ee{n:Nat}{i:Int}{j:Nat}(h:ixN n i=some j):seqIndex? i n=some j/\j<n/\-(n:Int)<=i/\i<n:=by
 unfold ixN at h;by_cases h0:0<=i
 ·rw[ag h0]at h;by_cases h1:i<n
  ·rw[ag h1]at h;have e:i.toNat=j:=bL h;exact⟨by rw[iA h0 h1,e],by omega,by omega,h1⟩
  ·rw[ah h1]at h;cases h
 ·rw[ah h0]at h;by_cases h1:-(n:Int)<=i
  ·rw[ag h1]at h;have e:(i+n).toNat=j:=bL h;exact⟨by rw[ix (by omega) h1,e],by omega,h1,by omega⟩
  ·rw[ah h1]at h;cases h
theorem Bv{α:Type}{xs:List α}{i:Int}{v:α}(h:atI xs i=some v):∃j,seqIndex? i xs.length=some j/\xs[j]?=some v/\j<xs.length/\-(xs.length:Int)<=i/\i<xs.length:=by
 unfold atI at h;cases e:ixN xs.length i with
 |none=>rw[e]at h;cases h
 |some j=>rw[e]at h;obtain⟨h1,h2,h3,h4⟩:=Ee e;exact⟨j,h1,h,h2,h3,h4⟩
theorem Ef{α:Type}{xs:List α}{j:Nat}{v:α}(h:xs[j]?=some v):atI xs (j:Int)=some v:=by
 have hj:j<xs.length:=(aV.mp h).1;have e:ixN xs.length (j:Int)=some j:=by unfold ixN;rw[ag (by omega),ag (by omega)];simp
 unfold atI;rw[e];exact h
def Eg(b:Expr):Prop:=∀o i,subscripted b false o i=operate [o,i] (getItem o i)
def IxR(X:Cx)(r:R2):Prop:=
 ∀(value slice:Expr) (pins:List (Addr×Obj)) (s:ae) (σ:St) (H:Hp) (x y:V) (v u:aa) (Q:VK),Inv X pins σ H s->RelV x v->RelV y u->r x y H Q->
  subscripted slice false v u=operate [v,u] (getItem v u)->af (model X.prog X.w) X.A (subscriptTail value slice v u) (EP X pins σ Q) X.xe s
def MtR(X:Cx)(id:String)(r:V->List V->Hp->VK->Prop):Prop:=
 ∀(pins:List (Addr×Obj)) (s:ae) (σ:St) (H:Hp) (x:V) (xs:List V) (v:aa) (us:List aa) (Q:VK),Inv X pins σ H s->RelV x v->Vals xs us->r x xs H Q->
  af (model X.prog X.w) X.A (call (.builtin id) (v::us)) (EP X pins σ Q) X.xe s
variable{pins:List (Addr×Obj)}{σ:St}{its its':List aa}
section
variable{X:Cx}{a b:Expr}{ta tb:TE}{pos:Pos}
theorem IxR.or{r r':R2}(h:IxR X r)(h':IxR X r'):IxR X (λx y H Q=>r x y H Q\/r' x y H Q):=by
 intro value slice pins s σ H x y v u Q I rx ry q hs;rcases q with q|q
 ·exact h value slice pins s σ H x y v u Q I rx ry q hs
 ·exact h' value slice pins s σ H x y v u Q I rx ry q hs
theorem P0{r:R2}(hr:IxR X r)(ha:PE X a ta)(hb:PE X b tb)(hs:Eg b):PE X (.Subscript a b pos) (tOp r ta tb):=by intro pins s σ H Q I h;exact iE (Mq ha hb I h λv u s2 x y H2 I2 rx ry q=>hr a b pins s2 σ H2 x y v u Q I2 rx ry q (hs _ _))
def P1(K:W.Frag):R2:=λx y H Q=>∃p xs i v,x=.ref p/\y=.int i/\SqL K H p xs/\atI xs i=some v/\Q v H
def P2(K:W.Frag):R2:=λx y H Q=>∃p xs i v,x=.ref p/\y=.int i/\SqT K H p xs/\atI xs i=some v/\Q v H
def P3:R2:=λx y H Q=>∃z i c,x=.str z/\y=.int i/\z.length<=av/\atI z.cps.toList i=some c/\Q (.str ⟨#[c]⟩) H
theorem JG:IxR X (P1 X.K):=by
 intro value slice pins s σ H x y v u Q I rx ry h hs;obtain⟨p,xs,i,z,rfl,rfl,hq,he,q⟩:=h;cases rx;obtain⟨t,rfl⟩:=ry;obtain⟨its,r,pl,hz⟩:=I.list hq;obtain⟨j,h1,h2,h3,h4,h5⟩:=Bv he;obtain⟨w,ew,rw'⟩:=r.get h2;have hl:=r.length;have hn:=xH;have fin:EP X pins σ Q w s:=⟨z,H,I,rw',q⟩;by_cases h0:0<=i
 ·have hj:i.toNat=j:=by rw[iA h0 h5]at h1;exact bL h1
  exact item_listR pl.isList h0 (by omega) (by rw[hj];simpa using ew) fin hs
 ·have hj:(i+(its.toArray.size:Int)).toNat=j:=by rw[ix (by omega) h4]at h1;rw[aH,<- hl];exact bL h1
  exact i6 (x:=w) pl.isList.typeIs jQ.lookup
   (wpAny_getItem_list_neg (Q:=λr s'=>r=w/\EP X pins σ Q r s') pl.isList (by omega) (by rw[aH]<;>omega) (by omega) (by rw[hj];simpa using ew) ⟨rfl,fin⟩) hs
theorem MA:IxR X (P2 X.K):=by
 intro value slice pins s σ H x y v u Q I rx ry h hs;obtain⟨p,xs,i,z,rfl,rfl,hq,he,q⟩:=h;cases rx;obtain⟨t,rfl⟩:=ry;obtain⟨its,r,pl,hz⟩:=I.tuple hq;obtain⟨j,h1,h2,h3,h4,h5⟩:=Bv he;obtain⟨w,ew,rw'⟩:=r.get h2;have hl:=r.length;have hn:=xH;have fin:EP X pins σ Q w s:=⟨z,H,I,rw',q⟩;exact i6 (x:=w) pl.typeIs slot_tuple_getitem.lookup
  (getItem_tuple (j:=j) (Q:=λr s'=>r=w/\EP X pins σ Q r s') pl (by omega) (by omega) (by rw[aH,<- hl];exact h1) (by simpa using ew) ⟨rfl,fin⟩) hs
theorem MB:IxR X P3:=by
 intro value slice pins s σ H x y v u Q I rx ry h hs;obtain⟨z,i,c,rfl,rfl,hz,he,q⟩:=h;obtain⟨t,rfl⟩:=rx;obtain⟨t',rfl⟩:=ry;obtain⟨j,h1,h2,h3,h4,h5⟩:=Bv he;have hl:z.cps.toList.length=z.length:=by simp[Str.length]
 rw[hl]at h1 h4 h5;have hn:=xH;exact tail_any (iF s z t) slot_str_getitem.lookup (getItem_str (c:=c) (by
  have e1:decide (i < -(2 ^ 63:Int))=false:=ba (by omega);have e2:decide (i >= 2 ^ 63)=false:=ba (by omega);rw[e1,e2,Bool.or_false]) (by rw[h1];simpa using h2) ⟨.str ⟨#[c]⟩,H,I.tok _,⟨_,rfl⟩,q⟩) hs
def rIx(K:W.Frag):R2:=λx y H Q=>P1 K x y H Q\/P2 K x y H Q\/P3 x y H Q
theorem MC:IxR X (rIx X.K):=JG.or (MA.or MB)
theorem Dr(its:List aa)(n j:Nat)(u:aa):ee (·.setIfInBounds j u) { cls:=.type "list", data:=.seq its.toArray n }={ cls:=.type "list", data:=.seq (its.set j u).toArray n }:=by simp[ee]
theorem Inv.lst{pins:List (Addr×Obj)}{σ:St}{H:Hp}{s:ae}{p:Addr}{xs:List V}(I:Inv X pins σ H s)(h:H p=some (.lst xs)):
  ∃(its:List aa) (n:Nat),Vals xs its/\s.heap.get? p=some { cls:=.type "list", data:=.seq its.toArray n }/\xs.length<=av:=by
 obtain⟨z,its,n,r,e⟩:=I.hok p _ h;exact⟨its,n,r,e,z⟩
theorem Inv.lstUpd{H:Hp}{s:ae}{p:Addr}{xs ys:List V}{n n':Nat}{f:Obj->Obj}(I:Inv X pins σ H s)(h:H p=some (.lst xs))
  (ho:s.heap.get? p=some { cls:=.type "list", data:=.seq its.toArray n }) (hf:f { cls:=.type "list", data:=.seq its.toArray n }={ cls:=.type "list", data:=.seq its'.toArray n' }) (r:Vals ys its') (hz:ys.length<=av) (t:Nat):
  Inv X pins σ (upd H p (.lst ys)) { s with heap:=s.heap.update p f,toks:=t }:=by
 have e:(s.heap.update p f).get? p=some { cls:=.type "list", data:=.seq its'.toArray n' }:=by rw[je f ho (by rw[hf]<;>rfl),hf]
 refine I.write (x:=p) (e:=p) (by rw[h];trivial) (.inl rfl) (λb u hb q=>(i7 _ _ (bP hb)).trans q) ⟨_,e⟩ ?_;exact⟨hz,its',n',r,e⟩
def Lu:V->V->V->Hp->(Hp->Prop)->Prop:=λo i v H Q=>∃p xs k j,o=.ref p/\i=.int k/\H p=some (.lst xs)/\ixN xs.length k=some j/\Q (upd H p (.lst (xs.set j v)))
theorem set_list:PB X Lu:=by
 intro pins s σ H o i v ov iv u Q I ro ri rv h;obtain⟨p,xs,k,j,rfl,rfl,hp,hj,q⟩:=h;cases ro;obtain⟨t,rfl⟩:=ri;obtain⟨its,n,r,ho,hz⟩:=I.lst hp;obtain⟨h1,h2,h3,h4⟩:=Ee hj;have hl:=r.length;have hn:=xH;have I':Inv X pins σ (upd H p (.lst (xs.set j v))) { s with heap:=s.heap.update p (ee (·.setIfInBounds j u)) }:=
  I.lstUpd hp ho (Dr its n j u) (r.set rv j) (by rw[bZ];exact hz) s.toks
 by_cases h0:0<=k
 ·have hk:k.toNat=j:=by rw[iA h0 h4]at h1;exact bL h1
  exact W.ki_setAt ho h0 (by omega) (by rw[aH,<- hl];exact h4) (by rw[hk];exact⟨_,I',q⟩)
 ·have hk:(k+(its.toArray.size:Int)).toNat=j:=by rw[ix (by omega) h3]at h1;rw[aH,<- hl];exact bL h1
  exact W.ki_setBack ho (by omega) (by rw[aH,<- hl];exact h3) (by omega) (by rw[hk];exact⟨_,I',q⟩)
theorem Bw(lo hi:Option Int)(n:Nat):(sliceBounds lo hi none n).1=((HT.sIx n 0 lo:Nat):Int)/\(sliceBounds lo hi none n).2.1=((HT.sIx n n hi:Nat):Int)/\(sliceBounds lo hi none n).2.2=1:=by
 refine⟨?_,?_,rfl⟩
 ·cases lo with
  |none=>simp[sliceBounds,HT.sIx]
  |some i=>
   simp only[sliceBounds,HT.sIx,fS,show (1:Int) > 0 by decide,if_true];by_cases h:i<0
   ·simp only[h,if_true]<;>omega
   ·simp only[h,if_false]<;>omega
 ·cases hi with
  |none=>simp[sliceBounds,HT.sIx]
  |some i=>
   simp only[sliceBounds,HT.sIx,fS,show (1:Int) > 0 by decide,if_true];by_cases h:i<0
   ·simp only[h,if_true]<;>omega
   ·simp only[h,if_false]<;>omega
theorem Ak(its:List aa)(lo hi:Option Int):slicePick its.toArray lo hi none=((its.drop (HT.sIx its.length 0 lo)).take (HT.sIx its.length its.length hi - HT.sIx its.length 0 lo)).toArray:=by obtain⟨h1,h2,h3⟩:=Bw lo hi its.toArray.size;unfold slicePick;rw[h1,h2,h3];simp only[sliceRange_one,pick_run,aH]<;>rfl
def Fp(K:W.Frag):V->Option Int->Option Int->Hp->VK->Prop:=λx lo hi H Q=>∃a xs,x=.ref a/\SqL K H a xs/\∀p,H p=none->Q (.ref p) (upd H p (.lst (Fo xs lo hi)))
theorem JH:SlR X (Fp X.K):=by intro pins s σ H x v vl vu lo hi sl Q I rx hs pl pu h;obtain⟨a,xs,rfl,hx,q⟩:=h;cases rx;obtain⟨its,r,ht,hz⟩:=I.list hx;have hlen:=r.length;refine⟨"list", _,jQ.lookup,ht.isList.typeIs,?_⟩;refine wpAny_getItem_list_slice ht.isList hs pl pu .none (by simp) ?_ (by rw[aH]<;>omega);rw[Ak,<- hlen];refine⟨.ref s.heap.objs.size,_,I.laid (t':=s.toks) (o:=.lst (Fo xs lo hi)) (λb ob q=>aD _ q) (ay _) ?_,rfl,q _ (I.hok.fresh (ay _))⟩;exact⟨bz (B6 xs lo hi) hz,_,0,(r.drop (HT.sIx xs.length 0 lo)).take (HT.sIx xs.length xs.length hi - HT.sIx xs.length 0 lo),aY _ rfl⟩
def wa:V->Bool
 |.non=>true
 |.bl _=>true
 |.int _=>true
 |.str _=>true
 |_=>false
def eqV:V->V->Bool
 |.non,.non=>true
 |.bl a,.bl b=>a==b
 |.bl a,.int b=>(if a then 1 else 0)==b
 |.int a,.bl b=>a==(if b then 1 else 0)
 |.int a,.int b=>a==b
 |.str a,.str b=>a==b
 |_,_=>false
theorem za{A:au}{s:ae}{y x:V}{u v:aa}(ry:RelV y u)(rx:RelV x v)(fy:wa y=true)(fx:wa x=true):gk A s u v (eqV y x):=by
 cases y with
 |non=>
  cases ry;cases x with
  |non=>cases rx;exact ib _
  |bl b=>cases rx;exact mj b
  |int b=>obtain⟨t,rfl⟩:=rx;exact jt b t
  |str b=>obtain⟨t,rfl⟩:=rx;exact ju b t
  |_=>exact ak (show false=true from fx) aO
 |bl a=>
  cases ry;cases x with
  |non=>cases rx;exact ml a
  |bl b=>cases rx;exact mm a b
  |int b=>obtain⟨t,rfl⟩:=rx;exact mF a b t
  |str b=>obtain⟨t,rfl⟩:=rx;exact mG a b t
  |_=>exact ak (show false=true from fx) aO
 |int a=>
  obtain⟨t',rfl⟩:=ry;cases x with
  |non=>cases rx;exact jv a t'
  |bl b=>cases rx;exact mH a t' b
  |int b=>obtain⟨t,rfl⟩:=rx;exact mQ a t' b t
  |str b=>obtain⟨t,rfl⟩:=rx;exact jA a t' b t
  |_=>exact ak (show false=true from fx) aO
 |str a=>
  obtain⟨t',rfl⟩:=ry;cases x with
  |non=>cases rx;exact jw a t'
  |bl b=>cases rx;exact mI a t' b
  |int b=>obtain⟨t,rfl⟩:=rx;exact jB a t' b t
  |str b=>obtain⟨t,rfl⟩:=rx;exact mR a t' b t
  |_=>exact ak (show false=true from fx) aO
 |_=>exact ak (show false=true from fy) aO
def eqU(x:V)(u:aa):Bool:=match u with
 |.none=>eqV .non x
 |.bool b=>eqV (.bl b) x
 |.int i _=>eqV (.int i) x
 |.str z _=>eqV (.str z) x
 |_=>false
theorem GK{x y:V}{u:aa}(r:RelV y u)(f:wa y=true):eqU x u=eqV y x:=by
 cases y with
 |non=>cases r;rfl
 |bl b=>cases r;rfl
 |int i=>obtain⟨t,rfl⟩:=r;rfl
 |str z=>obtain⟨t,rfl⟩:=r;rfl
 |_=>exact ak (show false=true from f) aO
theorem wR{x:V}:∀{xs:List V} {us:List aa},Vals xs us->xs.all wa=true->us.any (eqU x)=xs.any λy=>eqV y x
 |_,_,.nil,_=>rfl
 |y::xs,u::us,.cons r t,f=>by rw[d7,aC]at f;rw[dJ,dJ,GK r f.1,wR t f.2]
theorem va{A:au}{s:ae}{x:V}{v:aa}(rx:RelV x v)(fx:wa x=true):∀{xs:List V} {us:List aa},Vals xs us->xs.all wa=true->∀u∈us,gk A s u v (eqU x u)
 |_,_,.nil,_=>λu hu=>by cases hu
 |y::xs,u::us,.cons r t,f=>λu' hu=>by
  rw[d7,aC]at f;rcases aN.mp hu with rfl|hu
  ·rw[GK r f.1];exact za r rx f.1 fx
  ·exact va rx fx t f.2 u' hu
def inV(x:V)(xs:List V):Bool:=xs.any λy=>eqV y x
def rIn(K:W.Frag)(neg:Bool):R2:=λx y H Q=>∃p xs,y=.ref p/\(SqL K H p xs\/SqT K H p xs)/\wa x=true/\xs.all wa=true/\Q (.bl (if neg then !inV x xs else inV x xs)) H
theorem Fq:OpR X (aI .In) (rIn X.K false):=by
 intro pins s σ H x y v u Q I rx ry h;obtain⟨p,xs,rfl,hq,fx,fs,q⟩:=h;cases ry;rcases hq with hq|hq
 ·obtain⟨its,r,pl,hz⟩:=I.list hq;refine SeqAt.in_listAt (eqU x) pl.isList (λw hw=>va rx fx r fs w (by simpa using hw)) ⟨.bl _,H,I,rfl,?_⟩;rw[show its.toArray.any (eqU x)=its.any (eqU x) by simp,wR r fs];exact q
 ·obtain⟨its,r,pl,hz⟩:=I.tuple hq;refine SeqAt.in_tupleAt (eqU x) pl (λw hw=>va rx fx r fs w (by simpa using hw)) ⟨.bl _,H,I,rfl,?_⟩;rw[show its.toArray.any (eqU x)=its.any (eqU x) by simp,wR r fs];exact q
theorem By:OpR X (aI .NotIn) (rIn X.K true):=by
 intro pins s σ H x y v u Q I rx ry h;obtain⟨p,xs,rfl,hq,fx,fs,q⟩:=h;cases ry;rcases hq with hq|hq
 ·obtain⟨its,r,pl,hz⟩:=I.list hq;refine SeqAt.notIn_listAt (eqU x) pl.isList (λw hw=>va rx fx r fs w (by simpa using hw)) ⟨.bl _,H,I,rfl,?_⟩;rw[show its.toArray.any (eqU x)=its.any (eqU x) by simp,wR r fs];exact q
 ·obtain⟨its,r,pl,hz⟩:=I.tuple hq;refine SeqAt.notIn_tupleAt (eqU x) pl (λw hw=>va rx fx r fs w (by simpa using hw)) ⟨.bl _,H,I,rfl,?_⟩;rw[show its.toArray.any (eqU x)=its.any (eqU x) by simp,wR r fs];exact q
theorem BA:pM X (.builtin "len") (λxs H Q=>∃p ys,xs=[.ref p]/\(SqL X.K H p ys\/SqT X.K H p ys)/\Q (.int ys.length) H):=by
 intro pins s σ H xs us Q I r h;obtain⟨p,ys,rfl,hq,q⟩:=h;obtain⟨u,rfl,rx⟩:=vals1 r;cases rx;have hn:=xH;rcases hq with hq|hq
 ·obtain⟨its,r',pl,hz⟩:=I.list hq;have hlen:=r'.length;exact Calls.call_len_list pl.isList (by simp only[aH]<;>omega) ⟨.int ys.length,H,I.tok _,⟨s.toks+1,by rw[aH,hlen]⟩,q⟩
 ·obtain⟨its,r',pl,hz⟩:=I.tuple hq;have hlen:=r'.length;exact len_tuple pl (by simp only[aH]<;>omega) ⟨.int ys.length,H,I.tok _,⟨s.toks+1,by rw[aH,hlen]⟩,q⟩
theorem BB:pM X (.builtin "len") (λxs H Q=>∃z,xs=[.str z]/\z.length<=av/\Q (.int z.length) H):=by intro pins s σ H xs us Q I r h;obtain⟨z,rfl,hz,q⟩:=h;obtain⟨u,rfl,t,rfl⟩:=vals1 r;have hn:=xH;exact len_str (by omega) ⟨.int z.length,H,I.tok _,⟨_,rfl⟩,q⟩
theorem BC:pM X (.type "list") (λxs H Q=>∃p ys,xs=[.ref p]/\(SqL X.K H p ys\/SqT X.K H p ys)/\∀l,H l=none->Q (.ref l) (upd H l (.lst ys))):=by
 intro pins s σ H xs us Q I r h;obtain⟨p,ys,rfl,hq,q⟩:=h;obtain⟨u,rfl,rx⟩:=vals1 r;cases rx;have fin:∀(its:List aa),Vals ys its->ys.length<=av->∀(h':Heap) (c':Nat),(∀b o',s.heap.get? b=some o'->h'.get? b=some o')->
   h'.get? s.heap.objs.size=some { cls:=.type "list", dict:=none,data:=.seq its.toArray c',slots:=#[] }->EP X pins σ Q (.ref s.heap.objs.size) { s with heap:=h' }:=λits r' hz h' c' kp e=>
  ⟨.ref s.heap.objs.size,_,I.laid (t':=s.toks) kp (ay _) (show ObjOk X.prog X.w _ h' _ (.lst ys) from⟨hz,its,c',r',e⟩),rfl,q _ (I.hok.fresh (ay _))⟩
 rcases hq with hq|hq
 ·obtain⟨its,r',pl,hz⟩:=I.list hq;have hlen:=r'.length;obtain⟨o,ho,hc,n,hd⟩:=pl.isList;exact kF p (.inl rfl) ho hc hd (λh' c' kp e=>fin its r' hz h' c' kp e) (by simp only[aH]<;>omega)
 ·obtain⟨its,r',pl,hz⟩:=I.tuple hq;have hlen:=r'.length;obtain⟨o,ho,hc,n,hd⟩:=pl;exact kF p (.inr rfl) ho hc hd (λh' c' kp e=>fin its r' hz h' c' kp e) (by simp only[aH]<;>omega)
theorem Al:pM X (.type "tuple") (λxs H Q=>∃p ys,xs=[.ref p]/\((SqL X.K H p ys/\∀l,H l=none->Q (.ref l) (upd H l (.tup ys)))\/(SqT X.K H p ys/\Q (.ref p) H))):=by
 intro pins s σ H xs us Q I r h;obtain⟨p,ys,rfl,h⟩:=h;obtain⟨u,rfl,rx⟩:=vals1 r;cases rx;rcases h with ⟨hq,q⟩|⟨hq,q⟩
 ·obtain⟨its,r',pl,hz⟩:=I.list hq;have hlen:=r'.length;refine call_tuple_list pl.isList (λh' kp=>?_) (by simp only[aH]<;>omega);have I1:Inv X pins σ H { s with heap:=h' }:=I.kept (t':=s.toks) kp;have I2:Inv X pins σ (upd H h'.objs.size (.tup ys)) { s with heap:=h'.push { cls:=.type "tuple", data:=.seq its.toArray } }:=
   I1.laid (t':=s.toks) (λb o e=>aD _ e) (ay _) (show ObjOk X.prog X.w _ _ _ (.tup ys) from⟨hz,its,r',lp _ _⟩)
  exact⟨.ref h'.objs.size,_,I2,rfl,q _ (I1.hok.fresh (ay _))⟩
 ·obtain⟨its,r',pl,hz⟩:=I.tuple hq;exact call_tuple_same pl ⟨.ref p,H,I,rfl,q⟩
def tyV(K:W.Frag)(T:String)(x:V)(H:Hp):Prop:=match x with
 |.str _=>T="str"
 |.int _=>T="int"
 |.ref p=>(T="list" /\ ∃xs,SqL K H p xs)\/(T="tuple" /\ ∃o,K.lookup p=some o/\o.cls=.type "tuple" /\ o.dict=none)\/
   (T="dict" /\ ((∃kvs,H p=some (.dK kvs))\/∃kvs,H p=some (.dT kvs)))\/(T="set" /\ ∃S n,H p=some (.set S n))
 |_=>False
theorem ME{H:Hp}{s:ae}{T:String}{x:V}{v:aa}(I:Inv X pins σ H s)(r:RelV x v)(ty:tyV X.K T x H):
  s.TypeIs v T/\∀a,v=.ref a->∃ob,s.heap.get? a=some ob/\ob.dict=none:=by
 cases x with
 |str z=>obtain⟨t,rfl⟩:=r;cases (show T="str" from ty);exact⟨iF s z t,λ_ e=>nomatch e⟩
 |int i=>obtain⟨t,rfl⟩:=r;cases (show T="int" from ty);exact⟨typeIs_int s i t,λ_ e=>nomatch e⟩
 |ref p=>
  cases r;rcases ty with ⟨rfl,xs,hq⟩|⟨rfl,o,hk,hc,hd⟩|⟨rfl,hk⟩|⟨rfl,S,n,hk⟩
  ·obtain⟨its,_,pl,_⟩:=I.list hq;refine⟨pl.isList.typeIs,λa e=>?_⟩;cases e;obtain⟨o,n,e,c,hd,_⟩:=pl;exact⟨o,e,hd⟩
  ·refine⟨⟨o,I.kIn p o hk,hc⟩,λa e=>?_⟩;cases e;exact⟨o,I.kIn _ o hk,hd⟩
  ·have z:∃o,s.heap.get? p=some o/\o.ExactDict:=by
    rcases hk with ⟨kvs,hk⟩|⟨kvs,hk⟩
    ·obtain⟨_,_,_,_,o,_,_,e,ex,_⟩:=I.hok p _ hk;exact⟨o,e,ex⟩
    ·obtain⟨_,_,_,_,o,_,_,e,ex,_⟩:=I.hok p _ hk;exact⟨o,e,ex⟩
   obtain⟨o,e,ex⟩:=z;refine⟨⟨o,e,ex.1⟩,λa e2=>?_⟩;cases e2;exact⟨o,e,ex.2.1⟩
  ·obtain⟨o,_,_,_,e,ex,_⟩:=I.hok p _ hk;refine⟨⟨o,e,ex.1⟩,λa e2=>?_⟩;cases e2;exact⟨o,e,ex.2.1⟩
 |_=>exact bA ty
def tBM(K:W.Frag)(T:String)(r:V->List V->Hp->VK->Prop)(to:TE)(t:TA):TE:=λσ H Q=>to σ H λx H1=>tyV K T x H1/\t σ H1 λxs H2=>r x xs H2 Q
variable{o e:Expr}{es:List Expr}{to:TE}{t:TA}{name:Str}{apos cpos:Pos}{T id:String}{r:V->List V->Hp->VK->Prop}
theorem P4(pa:iG T)(slot:Slot T name id)(hty:typeOf (.builtin id)=pure (.type "method_descriptor"))(hm:MtR X id r)(ho:PE X o to)(ha:PA X (e::es) t)
  (hbase:c7 o name X.env (eval o X.env)=eval o X.env:=by rfl)
  (hfew:((aK cpos (ao (e::es) X.env)).all (λx=>!x.1)&&(backToKw cpos (cy [] X.env)).all (λx=>x.1.isSome)
   && decide ((e::es).length+([]:List dc).length+(if ([]:List dc).isEmpty then 0 else 1)<30))=true:=by rfl)
  (hline:(apos.endLine==cpos.line)=true:=by rfl) (hs:ao (e::es) X.env=(false,eval e X.env)::ao es X.env:=by rfl) (hplain:(aK cpos (ao es X.env)).any (·.1)=false:=by rfl):
  PE X (.Call (.Attribute o name apos) (e::es) [] cpos) (tBM X.K T r to t):=by
 intro pins s σ H Q I h;refine wpAny_Call_method_late hbase hfew hline rfl (thn (ho pins s σ H _ I h) λv s1 zz=>?_);obtain⟨x,H1,I1,r1,ty,q1⟩:=zz;obtain⟨h1,h2⟩:=ME I1 r1 ty;refine⟨T,id,pa,slot,hty,h1,h2,?_⟩;have hA:=ha cpos pins s1 σ H1 _ I1 q1;rw[hs]at hA ⊢;refine fD (by show (false||(aK cpos (ao es X.env)).any (·.1))=false;rw[hplain]<;>rfl) (eI ?_)
 exact thn hA λus s2 ⟨vs,H2,I2,r2,q2⟩=>hm pins s2 σ H2 x vs v us Q I2 r1 r2 q2
end
def MtM(X:Cx)(id:String)(r:V->List V->Hp->VK->Prop):Prop:=
 ∀(pins:List (Addr×Obj)) (s:ae) (σ:St) (H:Hp) (x:V) (xs:List V) (v:aa) (us:List aa) (Q:VK),Inv X pins σ H s->RelV x v->Vals xs us->r x xs H Q->
  af (model X.prog X.w) X.A (call (.builtin id) (v::us)) (EP X pins σ Q) X.xe s
theorem Vals.one:∀{x:V} {us:List aa},Vals [x] us->∃u,us=[u]/\RelV x u
 |_,_,.cons r .nil=>⟨_,rfl,r⟩
variable{t':Nat}
section
variable{X:Cx}{pins:List (Addr×Obj)}{σ:St}{H:Hp}{s:ae}{l b:Addr}{xs ys zs:List V}
theorem Inv.lset{n:Nat}{f:Array aa->Array aa}(I:Inv X pins σ H s)(hH:H l=some (.lst xs))
  (e:s.heap.get? l=some { cls:=.type "list", data:=.seq its.toArray n }) (hf:f its.toArray=its'.toArray) (hv:Vals ys its') (hz:ys.length<=av):
  Inv X pins σ (upd H l (.lst ys)) { s with heap:=s.heap.update l (ee f),toks:=t' }:=by
 have q:=PySem.IsL.update e f;rw[hf]at q;refine I.write (x:=l) (e:=l) (by rw[hH];exact trivial) (.inl rfl) (λb' u hb hu=>(i7 s.heap (ee f) (bP hb)).trans hu) ⟨_,q⟩ ?_;exact⟨hz,its',_,hv,q⟩
theorem Inv.lnew(I:Inv X pins σ H s)(hv:Vals ys its)(hz:ys.length<=av):
  Inv X pins σ (upd H s.heap.objs.size (.lst ys)) { s with heap:=s.heap.push { cls:=.type "list", data:=.seq its.toArray },toks:=t' }:=
 I.laid (λ_ _ q=>aD _ q) (ay _) ⟨hz,its,0,hv,aY _ rfl⟩
theorem Inv.fresh(I:Inv X pins σ H s):H s.heap.objs.size=none:=I.hok.fresh (ay _)
theorem Inv.lstM(I:Inv X pins σ H s)(hH:H l=some (.lst xs)):xs.length<=av/\∃(its:List aa) (n:Nat),Vals xs its/\xs.length=its.length/\s.heap.get? l=some { cls:=.type "list", data:=.seq its.toArray n }:=by obtain⟨z,its,n,r,e⟩:=I.hok l _ hH;exact⟨z,its,n,r,r.length,e⟩
theorem B7{n:Nat}(h:n<=av):eG n=false:=by unfold eG;exact ba (by omega)
end
section
variable{X:Cx}
def BD:V->List V->Hp->VK->Prop:=λx vs H Q=>∃l xs y,x=.ref l/\vs=[y]/\H l=some (.lst xs)/\xs.length<av/\Q .non (upd H l (.lst (xs++[y])))
theorem xJ:MtM X "list.append" BD:=by intro pins s σ H x vs v us Q I rx rv h;obtain⟨l,xs,y,rfl,rfl,hH,hz,q⟩:=h;cases rx;obtain⟨u,rfl,ru⟩:=rv.one;obtain⟨z,its,n,r,hl,e⟩:=I.lstM hH;refine iH gQ ⟨_,e,rfl⟩ F.entry_list_append (F.args_list_append_2 _ _) (PySem.list_append l its.toArray n u (by rw[aH];omega)) ⟨e,?_⟩;refine⟨.non,_,I.lset (its':=its++[u]) hH e (by simp) (r.append (.cons ru .nil)) ?_,rfl,q⟩;rw[aE,bJ];omega
def Ei:V->List V->Hp->VK->Prop:=λx vs H Q=>∃l b xs zs,x=.ref l/\vs=[.ref b]/\H l=some (.lst xs)/\H b=some (.lst zs)/\xs.length+zs.length<=av/\Q .non (upd H l (.lst (xs++zs)))
theorem Fs:MtM X "list.extend" Ei:=by
 intro pins s σ H x vs v us Q I rx rv h;obtain⟨l,b,xs,zs,rfl,rfl,hH,hB,hz,q⟩:=h;cases rx;obtain⟨u,rfl,ru⟩:=rv.one;cases ru;obtain⟨z,its,n,r,hl,e⟩:=I.lstM hH;obtain⟨z2,its2,n2,r2,hl2,e2⟩:=I.lstM hB;have hsz:its.toArray.size+its2.toArray.size<=av:=by rw[aH,aH];omega
 have hlong:¬(!its.toArray.isEmpty&&eG (its.toArray.size+its2.toArray.size))=true:=by rw[B7 hsz,cc];exact aO
 refine iH fL ⟨_,e,rfl⟩ jx (jm _ _)
  (AutoSeq1.list_extend_list_list_0 l its.toArray n b its2.toArray n2 hlong (by rw[aH];omega) (by omega)) ⟨e,e2,?_⟩
 refine⟨.non,_,I.lset (its':=its++its2) hH e (by simp) (r.append r2) ?_,rfl,q⟩;rw[aE];omega
def Rm:R2:=λx y H Q=>∃l b xs zs,x=.ref l/\y=.ref b/\H l=some (.lst xs)/\H b=some (.lst zs)/\xs.length+zs.length<=av/\∀p,H p=none->Q (.ref p) (upd H p (.lst (xs++zs)))
theorem GL:OpR X (bO .Add) Rm:=by
 intro pins s σ H x y v u Q I rx ry h;obtain⟨l,b,xs,zs,rfl,rfl,hH,hB,hz,q⟩:=h;cases rx;cases ry;obtain⟨z,its,n,r,hl,e⟩:=I.lstM hH;obtain⟨z2,its2,n2,r2,hl2,e2⟩:=I.lstM hB;refine PySem.P.add_list e e2 ?_ (by rw[aH,aH];omega);have ea:its.toArray++its2.toArray=(its++its2).toArray:=by simp
 rw[ea];exact⟨.ref _,_,I.lnew (t':=s.toks) (r.append r2) (by rw[aE];omega),rfl,q _ I.fresh⟩
end
section
variable{prog:aq}{w:aj}{A:au}{E:aa->ae->Prop}{s:ae}
set_option maxRecDepth 100000 in
end
section
variable{κ:Type}[DecidableEq κ]
def qY(kvs:List (κ×V))(k:κ):Option V:=(kvs.find? λkv=>decide (kv.1=k)).map (·.2)
def putK(kvs:List (κ×V))(k:κ)(v:V):List (κ×V):=
 if (kvs.any λkv=>decide (kv.1=k))=true then kvs.map (λkv=>if kv.1=k then (kv.1,v)else kv)else kvs++[(k,v)]
theorem wU{p:κ×V}{r:List (κ×V)}{k:κ}(e:p.1=k):qY (p::r) k=some p.2:=by simp[qY,cZ,e]
theorem wV{p:κ×V}{r:List (κ×V)}{k:κ}(e:¬p.1=k):qY (p::r) k=qY r k:=by simp[qY,cZ,e]
theorem zb(k:κ):∀kvs:List (κ×V),(kvs.any λkv=>decide (kv.1=k))=(qY kvs k).isSome
 |[]=>rfl
 |p::r=>by
  rw[dJ];by_cases e:p.1=k
  ·simp only[wU e,bb e,Bool.true_or,Option.isSome_some]
  ·rw[wV e,ba e,Bool.false_or];exact zb k r
theorem vc(kvs:List (κ×V))(k:κ)(v:V):(putK kvs k v).length<=kvs.length+1:=by
 unfold putK;split
 ·rw[ar];omega
 ·rw[aE,aB,bV];omega
theorem GN{kvs:List (κ×V)}{k:κ}(v:V)(h:qY kvs k=none):putK kvs k v=kvs++[(k,v)]:=by unfold putK;rw[zb,h];exact ah (by decide)
theorem uY.isSome_eq{o:Option V}{u:Option aa}(r:uY o u):o.isSome=u.isSome:=by
 cases o with
 |none=>cases u with
  |none=>rfl
  |some _=>exact(show False from r).elim
 |some _=>cases u with
  |none=>exact(show False from r).elim
  |some _=>rfl
theorem uY.getD{o:Option V}{u:Option aa}{d:V}{d':aa}(r:uY o u)(rd:RelV d d'):RelV (o.getD d) (u.getD d'):=by
 cases o with
 |none=>cases u with
  |none=>exact rd
  |some _=>exact(show False from r).elim
 |some _=>cases u with
  |none=>exact(show False from r).elim
  |some _=>exact r
theorem KV.val{kvs:List (κ×V)}{vs:List (κ×aa)}(r:KV kvs vs)(k:κ):uY (qY kvs k) (valueAt vs k):=by
 unfold KV at r
 induction r with
 |nil=>exact True.intro
 |@cons p q ps qs h t ih=>
  obtain⟨h1,h2⟩:=h;by_cases e:p.1=k
  ·have e':q.1=k:=h1.symm.trans e;have b:valueAt (q::qs) k=some q.2:=by simp[valueAt,cZ,e']
   rw[wU e,b];exact h2
  ·have e':¬q.1=k:=λz=>e (h1.trans z);have b:valueAt (q::qs) k=valueAt qs k:=by simp[valueAt,cZ,e']
   rw[wV e,b];exact ih
theorem KV.any{kvs:List (κ×V)}{vs:List (κ×aa)}(r:KV kvs vs)(k:κ):(kvs.any λkv=>decide (kv.1=k))=vs.any λkv=>decide (kv.1=k):=by
 unfold KV at r
 induction r with
 |nil=>rfl
 |cons h t ih=>rw[dJ,dJ,ih,h.1]
theorem KV.repl{kvs:List (κ×V)}{vs:List (κ×aa)}(r:KV kvs vs)(k:κ){y:V}{u:aa}(ry:RelV y u):
  KV (kvs.map λkv=>if kv.1=k then (kv.1,y)else kv) (vs.map λkv=>if kv.1=k then (kv.1,u)else kv):=by
 unfold KV at r ⊢
 induction r with
 |nil=>exact .nil
 |@cons p q ps qs h t ih=>
  rw[aT,aT];refine .cons ?_ ih;obtain⟨h1,h2⟩:=h;by_cases e:p.1=k
  ·rw[ag e,ag (h1.symm.trans e)];exact⟨h1,ry⟩
  ·rw[ah e,ah (λz=>e (h1.trans z))];exact⟨h1,h2⟩
theorem KV.put{kvs:List (κ×V)}{vs:List (κ×aa)}(r:KV kvs vs)(k:κ){y:V}{u:aa}(ry:RelV y u):KV (putK kvs k y) (stored vs k u):=by
 unfold putK stored;rw[r.any k];by_cases e:(vs.any λkv=>decide (kv.1=k))=true
 ·rw[ag e,ag e];exact r.repl k ry
 ·rw[ah e,ah e];exact la r ⟨rfl,ry⟩
theorem KV.length{kvs:List (κ×V)}{vs:List (κ×aa)}(r:KV kvs vs):kvs.length=vs.length:=il r
end
theorem zc{P:aq}{w:aj}{k:Key}{u:aa}(r:RelV (kV k) u):(ox P w).is k u=true:=by
 cases k with
 |inl i=>obtain⟨t,e⟩:=(show ∃t,u=Value.int i t from r);subst e;exact BZ P w i t
 |inr x=>obtain⟨t,e⟩:=(show ∃t,u=Value.str x t from r);subst e;exact B2 P w x t
theorem AD{P:aq}{w:aj}:∀{ks:List Key} {us:List aa},Vals (ks.map kV) us->ItemsAre (ox P w) ks us
 |[],_,r=>by rw[f7]at r;cases r;exact .nil
 |k::ks,_,r=>by
  rw[aT]at r;cases r with
  |cons h t=>exact .cons (zc h) (AD t)
abbrev KT(H:Hp):List (List Key×V)->List (List Key×Addr×aa)->Prop:=eC λp q=>p.1=q.1/\H q.2.1=some (.tup (p.1.map kV))/\RelV p.2 q.2.2
variable{kvs:List (List Key×V)}{xs:List (List Key×Addr×aa)}
theorem KT.val{H:Hp}(r:KT H kvs xs)(k:List Key):uY (qY kvs k) ((atKey xs k).map (·.2)):=by
 induction r with
 |nil=>exact True.intro
 |@cons p q ps qs h t ih=>
  obtain⟨h1,_,h2⟩:=h;by_cases e:p.1=k
  ·have e':q.1=k:=h1.symm.trans e;have b:atKey (q::qs) k=some q.2:=by simp[atKey,cZ,e']
   rw[wU e,b];exact h2
  ·have e':¬q.1=k:=λz=>e (h1.trans z);have b:atKey (q::qs) k=atKey qs k:=by simp[atKey,cZ,e']
   rw[wV e,b];exact ih
theorem KT.repl{H:Hp}(r:KT H kvs xs)(k:List Key){y:V}{u:aa}(ry:RelV y u):
  KT H (kvs.map λkv=>if kv.1=k then (kv.1,y)else kv) (xs.map (putAt k u)):=by
 induction r with
 |nil=>exact .nil
 |@cons p q ps qs h t ih=>
  rw[aT,aT];refine .cons ?_ ih;obtain⟨h1,h2,h3⟩:=h;unfold putAt;by_cases e:p.1=k
  ·rw[ag e,ag (h1.symm.trans e)];exact⟨h1,h2,ry⟩
  ·rw[ah e,ah (λz=>e (h1.trans z))];exact⟨h1,h2,h3⟩
theorem KT.put{H:Hp}(r:KT H kvs xs)(k:List Key){b:Addr}{y:V}{u:aa}(hb:H b=some (.tup (k.map kV)))(ry:RelV y u):
  KT H (putK kvs k y) (storedH xs k b u):=by
 have e:(kvs.any λkv=>decide (kv.1=k))=(atKey xs k).isSome:=by rw[zb,(r.val k).isSome_eq,Option.isSome_map]
 unfold putK storedH;rw[e];by_cases q:(atKey xs k).isSome=true
 ·rw[ag q,ag q];exact r.repl k ry
 ·rw[ah q,ah q];exact la r ⟨rfl,hb,ry⟩
variable{H':Hp}
theorem KT.keeps{H:Hp}(r:KT H kvs xs)(ht:∀b ys,H b=some (.tup ys)->H' b=some (.tup ys)):KT H' kvs xs:=
 Paired.mapP r λ_ _ z=>⟨z.1,ht _ _ z.2.1,z.2.2⟩
section
variable{P:aq}{w:aj}{H:Hp}{h:Heap}{a:Addr}
theorem Lv{u:HO}(ok:HOk P w H h)(e:Rd H a u):ObjOk P w H h a u:=e.ok ok
theorem zd{kvs:List (Key×V)}(ok:HOk P w H h)(e:Rd H a (.dK kvs)):kvs.length<=av/\(a==ck)=false/\∃vs,KV kvs vs/\h.DictOf (ox P w) a vs:=
 show ObjOk P w H h a (.dK kvs) from Lv ok e
theorem Lx{kvs:List (Key×V)}(ok:HOk P w H h)(e:H a=some (.dK kvs)):kvs.length<=av/\(a==ck)=false/\∃vs,KV kvs vs/\h.DictOf (ox P w) a vs:=zd ok (.inl e)
theorem BE{ks:List Key}(ok:HOk P w H h)(e:H a=some (.tup (ks.map kV))):(tupleKind (ox P w)).is h ks a:=by obtain⟨_,its,r,o,h1,h2,n,h3⟩:=(show ObjOk P w H h a (.tup (ks.map kV)) from ok a _ e);exact⟨o,its.toArray,n,h1,h2,h3,by simpa using AD r⟩
theorem B8(ok:HOk P w H h)(e:Rd H a (.dT kvs)):kvs.length<=av/\(a==ck)=false/\
  ∃xs,KT H kvs xs/\h.DictOfH (tupleKind (ox P w)) a xs:=by
 obtain⟨z,y,xs,r,o,es,ep,h1,h2,h3,h4,h5⟩:=(show ObjOk P w H h a (.dT kvs) from Lv ok e);refine⟨z,y,xs,r,o,es,ep,h1,h2,h3,h4,λx hx=>?_,h5⟩;have all:∀{l:List (List Key×V)} {m:List (List Key×Addr×aa)},KT H l m->∀x∈m,(tupleKind (ox P w)).is h x.1 x.2.1:=by
  intro l m q
  induction q with
  |nil=>intro x hx;exact nomatch hx
  |@cons p q ps qs hq t ih=>
   intro x hx;rcases aN.mp hx with e|hx
   ·subst e;exact BE ok (by rw[<-hq.1];exact hq.2.1)
   ·exact ih x hx
 exact all r x hx
theorem P5(ok:HOk P w H h)(e:H a=some (.dT kvs)):kvs.length<=av/\(a==ck)=false/\
  ∃xs,KT H kvs xs/\h.DictOfH (tupleKind (ox P w)) a xs:=B8 ok (.inl e)
end
def DGet(H:Hp)(a:Addr)(y:V)(r:Option V):Prop:=
 (∃kvs k,Rd H a (.dK kvs)/\y=kV k/\r=qY kvs k)\/∃kvs k b,Rd H a (.dT kvs)/\y=.ref b/\H b=some (.tup (k.map kV))/\r=qY kvs k
def GO(H:Hp)(a:Addr)(y v:V)(H':Hp):Prop:=
 (∃kvs k,H a=some (.dK kvs)/\y=kV k/\kvs.length<av/\H'=upd H a (.dK (putK kvs k v)))\/
 ∃kvs k b,H a=some (.dT kvs)/\y=.ref b/\H b=some (.tup (k.map kV))/\kvs.length<av/\H'=upd H a (.dT (putK kvs k v))
theorem GO.k{H:Hp}{a:Addr}{kvs:List (Key×V)}{k:Key}{v:V}(e:H a=some (.dK kvs))(hl:kvs.length<av):GO H a (kV k) v (upd H a (.dK (putK kvs k v))):=.inl ⟨kvs,k,e,rfl,hl,rfl⟩
variable{Q:aa->ae->Prop}{h':Heap}
section
variable{X:Cx}{pins:List (Addr×Obj)}{σ:St}{H:Hp}{s:ae}{a:Addr}{y v:V}{u r:aa}{o:Option V}{A:au}{E:aa->ae->Prop}
theorem Inv.big(I:Inv X pins σ H s):ck<s.heap.objs.size:=by have h:az<s.heap.objs.size:=(I.mod.glob.keeps I.bk).lt;exact f9 (by decide) h
theorem Ft(hu:A.units+1<cLine)(I:Inv X pins σ H s)(g:DGet H a y (some v))(ry:RelV y u)(h:∀w' s',Inv X pins σ H s'->RelV v w'->Q w' s'):
  af (model X.prog X.w) A (getItem (.ref a) u) Q E s:=by
 rcases g with ⟨kvs,k,e,ey,l⟩|⟨kvs,k,b,e,ey,eb,l⟩
 ·subst ey;obtain⟨z,hd,vs,rel,dd⟩:=zd I.hok e;obtain⟨w',hw,rw'⟩:=uY.some_of (v:=v) (o:=valueAt vs k) (by rw[l];exact rel.val k);exact wpAny_getItem_of (zc ry) dd.mapOf hw (h w' _ (I.tok _) rw')
 ·subst ey;cases (show u=Value.ref b from ry);obtain⟨z,hd,xs,rel,dd⟩:=B8 I.hok e;obtain⟨w',hw,rw'⟩:=uY.some_of (v:=v) (o:=(atKey xs k).map (·.2)) (by rw[l];exact rel.val k)
  obtain⟨p,hp,hp2⟩:=i8.mp hw;refine wpAny_getItem_heap (gR hu) (BE I.hok eb) dd hp ?_;rw[hp2];exact h w' _ (I.tok _) rw'
theorem BF{ob:HO}(I:Inv X pins σ H s)(mu:Mut (H a))(hs:dM a s.heap h')(he:∃q,h'.get? a=some q)(new:ObjOk X.prog X.w (upd H a ob) h' a ob):
  Inv X pins σ (upd H a ob) { s with heap:=h',toks:=t' }:=
 I.write (x:=a) (e:=a) mu (.inl rfl) (λb q hb z=>(hs.2 b hb).trans z) he new
theorem GP{P:aq}{w:aj}{kvs:List (Key×V)}{vs:List (Key×aa)}(z:kvs.length<=av)(hd:(a==ck)=false)(rel:KV kvs vs)(dd:h'.DictOf (ox P w) a vs):
  ObjOk P w H' h' a (.dK kvs):=⟨z,hd,vs,rel,dd⟩
theorem Fu{Q:Unit->ae->Prop}(hu:A.units+1<cLine)(I:Inv X pins σ H s)(g:GO H a y v H')(ry:RelV y u)(rv:RelV v r)(h:∀s',Inv X pins σ H' s'->Q () s'):
  af (model X.prog X.w) A (setItem (.ref a) u r) Q E s:=by
 rcases g with ⟨kvs,k,e,ey,l,eH⟩|⟨kvs,k,b,e,ey,eb,l,eH⟩
 ·subst ey eH;obtain⟨z,hd,vs,rel,dd⟩:=Lx I.hok e;have hz:vs.length<=av:=by rw[<-rel.length];exact z
  have hl:(putK kvs k v).length<=av:=by have:=vc kvs k v;omega
  refine wpAny_setItem_pairs (hsz:=hz) (zc ry) dd λh' dd' hs=>h _ ?_;have he:∃q,h'.get? a=some q:=let ⟨q,_,_,hq,_⟩:=dd';⟨q,hq⟩;exact BF I (by rw[e];exact True.intro) hs he (GP hl hd (rel.put k rv) dd')
 ·subst ey eH;cases (show u=Value.ref b from ry);obtain⟨z,hd,xs,rel,dd⟩:=P5 I.hok e;have hz:xs.length<=av:=by rw[<-il rel];exact z
  have hl:(putK kvs k v).length<=av:=by have:=vc kvs k v;omega
  refine wpAny_setItem_heap (hsz:=hz) (gR hu) (BE I.hok eb) dd λh' dd' hs=>h _ ?_;obtain⟨q,es,ep,hq,h2,h3,h4,_,h5⟩:=dd';refine BF I (by rw[e];exact True.intro) hs ⟨q,hq⟩ ⟨hl,hd,_,(rel.put k eb rv).keeps λc ys ec=>?_,q,es,ep,hq,h2,h3,h4,h5⟩;rw[oo (Pr ec e (λz=>nomatch z))];exact ec
end
section
variable{X:Cx}{pins:List (Addr×Obj)}{σ:St}{H:Hp}{s:ae}{a:Addr}{kvs:List (Key×V)}{k:Key}{u:aa}{A:au}{E:aa->ae->Prop}
theorem P6(I:Inv X pins σ H s)(e:Rd H a (.dK kvs))(h:∀t s',Inv X pins σ H s'->Q (.int kvs.length t) s'):af (model X.prog X.w) A (call (.builtin "len") [.ref a]) Q E s:=by obtain⟨z,hd,vs,rel,dd⟩:=zd I.hok e;refine call_len_dict hd dd (by rw[<-rel.length];rw[bX]at z;omega) ?_;rw[<-rel.length];exact h _ _ (I.tok _)
end
def MF(i:Expr):Prop:=∀ov iv,subscripted i false ov iv=operate [ov,iv] (getItem ov iv)
theorem JI{prog:aq}{w:aj}{A:au}{E:aa->ae->Prop}{s:ae}{env:Env}{value slice:Expr}{pos:Pos}{T id:String}
  (hl:typeLookup (.type T) "__getitem__" = pure (some (.builtin id))) (hs:MF slice)
  (h:af (model prog w) A (eval value env) (λo s₁=>af (model prog w) A (eval slice env) (λi s₂=>s₂.TypeIs o T/\af (model prog w) A (getItem o i) Q E s₂) E s₁) E s):
  af (model prog w) A (eval (.Subscript value slice pos) env) Q E s:=by
 refine iE (bf h (λo s₁ h₁=>bf h₁ (λi s₂ h₂=>?_) λ_ _ x=>x) λ_ _ x=>x);obtain⟨hT,h₂⟩:=h₂;unfold subscriptTail;refine ai ?_;rw[getitemInPython_of_ne hT.not_modules];refine ai (eU hT hl ?_);have fin:af (model prog w) A (subscripted slice false o i) (λr s₃=>af (model prog w) A (letTemporaryGo value o r>>=λ_=>pure r) Q E s₃) E s₂:=by rw[hs o i];exact wpAny_operating (bf h₂ (λr s₃ h₃=>ai (wpAny_letTemporaryGo (aw h₃))) λ_ _ x=>x)
 first
  |exact aw (ai fin)
  |exact ai (aw (ai fin))
  |exact ai fin
variable{X:Cx}
theorem B9{H:Hp}{s:ae}{a:Addr}{y:V}{o:Option V}(I:Inv X pins σ H s)(g:DGet H a y o):s.TypeIs (.ref a) "dict" := by
 rcases g with ⟨kvs,k,e,_,_⟩|⟨kvs,k,b,e,_,_,_⟩
 ·obtain⟨_,_,vs,_,dd⟩:=zd I.hok e;exact dd.typeIs
 ·obtain⟨_,_,xs,_,dd⟩:=B8 I.hok e;exact dd.typeIs
def P7(td ty:TE):TE:=λσ H Q=>td σ H λx H1=>ty σ H1 λy H2=>∃a v,x=.ref a/\DGet H2 a y (some v)/\Q v H2
def Ly(td ty tv:TE):TS:=λD σ H=>tv σ H λv H1=>td σ H1 λx H2=>ty σ H2 λy H3=>∃a H4,x=.ref a/\GO H3 a y v H4/\D.nx σ H4
section
variable{X:Cx}{o i e value:Expr}{pos pos' tpos:Pos}{td ty tv:TE}
theorem JJ(hu:X.A.units+1<cLine)(ho:PE X o td)(hi:PE X i ty)(hs:MF i):PE X (.Subscript o i pos) (P7 td ty):=by intro pins s σ H Q I h;refine JI F.slot_dict_getitem.lookup hs (thn (ho pins s σ H _ I h) λu s1 ⟨x,H1,I1,rx,q1⟩=>thn (hi pins s1 σ H1 _ I1 q1) λiv s2 zz=>?_);obtain⟨y,H2,I2,ry,a,v,ex,g,q2⟩:=zz;subst ex;obtain rfl:u=Value.ref a:=rx;exact⟨B9 I2 g,Ft hu I2 g ry λw' s3 I3 rw'=>⟨v,H2,I3,rw',q2⟩⟩
theorem JK(hu:X.A.units+1<cLine)(ho:PE X o td)(hi:PE X i ty)(hv:PE X value tv)(hs:bu value (some (.Subscript o i pos')) pos.line X.env=pure false):
  PS X (.Assign [.Subscript o i pos'] value pos) (Ly td ty tv):=by
 intro pins s σ H D I h;refine wpAny_Assign_Subscript (thn (hv pins s σ H _ I h) λr s1 ⟨v,H1,I1,rv,q1⟩=>thn (ho pins s1 σ H1 _ I1 q1) λu s2 ⟨x,H2,I2,rx,q2⟩=>thn (hi pins s2 σ H2 _ I2 q2) λiv s3 zz=>?_) hs;obtain⟨y,H3,I3,ry,a,H4,ex,g,q3⟩:=zz;subst ex;obtain rfl:u=Value.ref a:=rx;exact Fu hu I3 g ry rv λs4 I4=>⟨σ,H4,I4,q3⟩
end
theorem GQ{P:aq}{w:aj}{H:Hp}(h:Heap)(hb:ck<h.objs.size):ObjOk P w H (h.push { cls:=.type "dict", data:=.dict #[] }) h.objs.size (.dK []):=
 ⟨aR _,beq_eq_false_iff_ne.mpr (bP (aG hb)),[],.nil,m5 h⟩
def Ds:TE:=λ_ H Q=>∀p,H p=none->Q (.ref p) (upd H p (.dK []))
section
variable{X:Cx}{pos:Pos}
theorem Ca:PE X (.Dict [] [] pos) Ds:=λpins s σ H Q I h=>
 wpAny_Dict_empty ⟨.ref s.heap.objs.size,_,I.laid (a:=s.heap.objs.size) (o:=.dK []) (t':=s.toks) (λ_ _ q=>aD _ q) (ay _) (GQ s.heap I.big),rfl,h _ (I.hok.fresh (ay _))⟩
end
structure M1(X:Cx)(o:Expr)(m:Str)(apos:Pos)(e:Expr)(cpos:Pos):Prop where
 base:c7 o m X.env (eval o X.env)=eval o X.env
 few:((aK cpos (ao [e] X.env)).all (λx=>!x.1)&&(backToKw cpos (cy [] X.env)).all (λx=>x.1.isSome)
  && decide (([e]:List Expr).length+([]:List dc).length+(if ([]:List dc).isEmpty then 0 else 1)<30))=true
 line:(apos.endLine==cpos.line)=true
 trees:aK cpos (ao [e] X.env)=[(false,eval e X.env)]
structure M2(X:Cx)(o:Expr)(m:Str)(apos:Pos)(e f:Expr)(cpos:Pos):Prop where
 base:c7 o m X.env (eval o X.env)=eval o X.env
 few:((aK cpos (ao [e,f] X.env)).all (λx=>!x.1)&&(backToKw cpos (cy [] X.env)).all (λx=>x.1.isSome)
  && decide (([e,f]:List Expr).length+([]:List dc).length+(if ([]:List dc).isEmpty then 0 else 1)<30))=true
 line:(apos.endLine==cpos.line)=true
 trees:aK cpos (ao [e,f] X.env)=[(false,eval e X.env),(false,eval f X.env)]
def IsD(H:Hp)(a:Addr):Prop:=(∃kvs,Rd H a (.dK kvs))\/∃kvs,Rd H a (.dT kvs)
theorem Dt{H:Hp}{s:ae}{a:Addr}(I:Inv X pins σ H s)(d:IsD H a):
  s.TypeIs (.ref a) "dict" /\ (∀b,Value.ref a=.ref b->∃ob,s.heap.get? b=some ob/\ob.dict=none)/\(a==ck)=false:=by
 rcases d with ⟨kvs,e⟩|⟨kvs,e⟩
 ·obtain⟨_,hd,vs,_,dd⟩:=zd I.hok e;refine⟨dd.typeIs,λb q=>?_,hd⟩;cases q;obtain⟨ob,_,_,h1,h2,_⟩:=dd;exact⟨ob,h1,h2.2.1⟩
 ·obtain⟨_,hd,xs,_,dd⟩:=B8 I.hok e;refine⟨dd.typeIs,λb q=>?_,hd⟩;cases q;obtain⟨ob,_,_,h1,h2,_⟩:=dd;exact⟨ob,h1,h2.2.1⟩
section
variable{X:Cx}{pins:List (Addr×Obj)}{σ:St}{H:Hp}{s:ae}{a:Addr}{y d:V}{u r:aa}{o:Option V}{A:au}{E:aa->ae->Prop}
theorem GR(hu:A.units+1<cLine)(I:Inv X pins σ H s)(g:DGet H a y o)(ry:RelV y u)(h:∀w' s',Inv X pins σ H s'->RelV (o.getD .non) w'->Q w' s'):
  af (model X.prog X.w) A (call (.builtin "dict.get") [.ref a,u]) Q E s:=by
 rcases g with ⟨kvs,k,e,ey,l⟩|⟨kvs,k,b,e,ey,eb,l⟩
 ·subst ey;obtain⟨z,hd,vs,rel,dd⟩:=zd I.hok e;refine gb eV dd.typeIs hJ (gV _ _) (kn (ox X.prog X.w) a (zc ry) hd) ⟨_,dd.mapOf,h _ _ (I.tok _) ?_⟩;rw[l];exact(rel.val k).getD rfl
 ·subst ey;cases (show u=Value.ref b from ry);obtain⟨z,hd,xs,rel,dd⟩:=B8 I.hok e;refine gb eV dd.typeIs hJ (gV _ _) (meetsH_dict_get (tupleKind (ox X.prog X.w)) a b hd) ⟨gR hu,k,xs,BE I.hok eb,dd,h _ _ (I.tok _) ?_⟩;rw[l];exact(rel.val k).getD rfl
end
def MG(td ty:TE):TE:=λσ H Q=>td σ H λx H1=>∃a,x=.ref a/\IsD H1 a/\ty σ H1 λy H2=>∃o,DGet H2 a y o/\Q (o.getD .non) H2
section
variable{X:Cx}{o e f:Expr}{apos cpos:Pos}{td ty tx:TE}
theorem GT(hu:X.A.units+1<cLine)(ho:PE X o td)(he:PE X e ty)(m:M1 X o "get" apos e cpos):PE X (.Call (.Attribute o "get" apos) [e] [] cpos) (MG td ty):=by intro pins s σ H Q I h;refine gW m.base m.few m.line gX eV j9 (thn (ho pins s σ H _ I h) λu s1 zz=>?_);obtain⟨x,H1,I1,rx,a,ex,d,q1⟩:=zz;subst ex;obtain rfl:u=Value.ref a:=rx;obtain⟨t1,t2,_⟩:=Dt I1 d;refine⟨t1,t2,?_⟩;rw[m.trees];refine fD rfl (eI (dW (thn (he pins s1 σ H1 _ I1 q1) λiv s2 ⟨y,H2,I2,ry,ov,g,q2⟩=>eM ?_)));exact GR hu I2 g ry λw' s3 I3 rw'=>⟨_,H2,I3,rw',q2⟩
end
end L2
namespace Att
open PySem PySem.W PySem.Calls PyProof.Rows
theorem yM{P:fw}{h:Heap}:∀(ns:List Int) (vs:List aa),WellAll P h vs (ns.map WData.int)->fq vs ns:=by
 intro ns
 induction ns with
 |nil=>intro vs w;rw[f7]at w;cases w;exact .nil
 |cons n ns ih=>
  intro vs w;rw[aT]at w;cases w with
  |cons a b=>cases a;exact .cons _ _ (ih _ b)
variable{l:jL}
theorem Fv{n:Nat}(hn:l.most=some n){P:fw}{h:Heap}{args:List WData}{vals:List aa}
  (hpre:l.row.toRowW.claim.pre args=true) (hwl:WellAll P h vals args):
  ∃a vs ns,vals=[Value.ref a]/\args=[WData.list (ns.map WData.int)]/\h.get? a=some { cls:=.type "list", data:=.seq vs.toArray }/\fq vs ns/\ns.length<=n:=by
 have hsh:WShape.hasAll [] args [.list .int]=true:=(pre_splitW hpre).1;have hc:l.pre.holds [] { args:=args }=true:=(pre_splitW hpre).2;obtain⟨d,r,rfl,h1,h2⟩:=hasAllW_cons hsh;obtain rfl:=hasAllW_nil h2;obtain⟨xs,rfl,h3⟩:=hasW_list h1;obtain⟨ns,rfl⟩:=items_int h3;have hlen:ns.length<=n:=by
  unfold OpenLaw.pre at hc;have h4:(WTm.not (.lt (.lit (.int (n:Int))) (.len (.arg 0)))).holds [] { args:=[.list (ns.map .int)] }=true:=by have h4:=(holds_andW hc).1;rw[hn]at h4;exact h4
  have h5:=condW_of h4 (w_not (w_lt w_lit (w_len_list (w_arg rfl))));rw[ar]at h5;refine j1 λq=>?_;have q':(n:Int)<((ns.length:Nat):Int):=by omega
  first
   |(rw[bb q']at h5;exact ak h5 (by decide))
   |(simp at h5;omega)
 cases hwl with
 |cons w1 w2=>
  cases w2;cases w1 with
  |list ho hall=>exact⟨_,_,ns,rfl,rfl,ho,yM ns _ hall,hlen⟩
theorem Fw(l:jL)(args:List WData):l.row.toRowW.claim.post args (.bool true) args=true:=
 postW_of (r:=l.row.toRowW) (X:=(true==true))
  (show lh [] (.bool true) .bool=true by first|rfl|decide|simp[lh,WShape.arms,WShape.armsAll])
  (show (WTm.eq .res (.lit (.bool true))).value [] { args:=args,res:=some (.bool true),after:=args }=some (.bool (true==true)) from w_eq_bool (w_res rfl) w_lit) rfl
theorem attach_call{n:Nat}{q:aq}{loose:List Str}{XP:(Str->Option aa)->Heap->Prop}{YP:aj->Heap->Prop}{d:DefRec}
  (hn:l.most=some n) (hdf:d.params.defaults=[])
  (call:∀(w:aj) (s₀ s₁:ae) (mg mb:Str->Option aa) (fa:Addr) (o:Obj) (pm cd doc:aa) (a:Addr) (vs:List aa) (ns:List Int),
   Ground q loose [] XP w s₀ mg mb s₁.heap->YP w s₁.heap->
   s₁.heap.get? fa=some o->o.data=.func (docDef d.name d.params d.body d.scope pm cd doc)->s₁.heap.CodeRec cd d.name->mg d.name=some (.ref fa)->
   s₁.heap.get? a=some { cls:=.type "list", data:=.seq vs.toArray }->fq vs ns->ns.length<=n->s₁.gens=#[]->
   bB (model l.prog w) callerA (.call (.ref fa) ⟨[.ref a],[]⟩) (λr s'=>r=.ok (.ret (.bool true))/\OldK s₁.heap s'.heap/\s'.os=s₁.os/\cA s'.gens) s₁):
  WalkO q loose XP YP l.row.toRowW d [] (λf vs=>iI f vs):=by
 intro w s₀ s₁ mg mb G Y fa o pm cd doc dV kV ho hd hcd hD hmg hg args vals as hpre hlay hrd hwl hlo;obtain rfl:dV=.none:=Dflts.none hD hdf;obtain rfl:kV=.none:=Dflts.noKw hD;obtain⟨a,vs,ns,rfl,rfl,hobj,hints,hlen⟩:=Fv hn hpre hwl;refine enter_call (cM (call w s₀ s₁ mg mb fa o pm cd doc a vs ns G Y ho (fd_plain hd) hcd hmg hobj hints hlen hg) λr s' hq=>?_);obtain⟨rfl,h2,h3,h4⟩:=hq;exact⟨.inl ⟨.bool true,.bool true,[],rfl,λ_=>rfl,.bool true,Fw l _,λ_=>⟨List.Pairwise.nil,λ_ hm=>(nomatch hm)⟩⟩,h2,h3,h4⟩
end Att
namespace L2
open PySem PySem.Spec PyProof.Rows
theorem AE:∀{vs:List aa} {ns:List Int},fq vs ns->Vals (ns.map V.int) vs
 |_,_,.nil=>.nil
 |_,_,.cons n t h=>.cons ⟨t,rfl⟩ (AE h)
def MH(H:Hp):Prop:=∀b,H b=none\/∃o xs,H b=some (.frz o (.lst xs))
variable{fd:aW}{x:Str}{sp:Sp}
theorem GU{P:aq}{w:aj}{K:W.Frag}{mg mb:Str->Option aa}{CX:CXT}{k:Nat}{fa a:Addr}{s₁:ae}{vs:List aa}{ns:List Int}
  (KX:K.In s₁.heap) (hns:s₁.heap.Ns az mg) (hb:s₁.heap.Ns builtinsNs mb) (hbb:∀x:Str,x≠"__name__" -> mb x=cf x) (hlim:s₁.heap.NoLimit) (hg:s₁.gens=#[])
  (ha:s₁.heap.get? a=some { cls:=.type "list", data:=.seq vs.toArray }) (hi:fq vs ns) (hl:ns.length<=av) (hr:pJ k callerA)
  (F:∀base:Heap,K.In base->base.Ns az mg->qx P w K mg base CX k fa fd [x] sp) (hbind:∀(s:ae) (u:aa),eE s fd ⟨[u],[]⟩ [(x,u)])
  (hsp:∀H:Hp,MH H->SqL K H a (ns.map V.int)->sp [.ref a] H (λv _=>v=.bl true) λ_ _ _=>False)
  (hCX:∀H e s',CX [] H s₁ (λ_ _ _=>False) e s'->False):
  bB (model P w) callerA (.call (.ref fa) ⟨[.ref a],[]⟩) (λr s'=>r=.ok (.ret (.bool true))/\OldK s₁.heap s'.heap/\s'.os=s₁.os/\cA s'.gens) s₁:=by
 have rv:=AE hi;have lenV:=hi.length;have core:∀H:Hp,MH H->SqL K H a (ns.map V.int)->HOk P w H s₁.heap->(∀b,H b≠none->b=a)->(H a≠none->K.lookup a=none)->
   bB (model P w) callerA (.call (.ref fa) ⟨[.ref a],[]⟩) (λr s'=>r=.ok (.ret (.bool true))/\OldK s₁.heap s'.heap/\s'.os=s₁.os/\cA s'.gens) s₁:=by
  intro H hO hS hok hA hK;have base_of:∀{b:Addr} {o:Obj},s₁.heap.get? b=some o->H b=none->(Bo s₁.heap H).get? b=some o:=λe n=>Gi e n;have noA:∀{b:Addr} {o:Obj} {es:Array DictEntry} {ep:Nat},s₁.heap.get? b=some o->o.data=.dict es ep->H b=none:=λ{b o es ep} e d=>by
   cases q:H b with
   |none=>rfl
   |some u=>have e':b=a:=hA b (by rw[q];simp);subst e';rw[ha]at e;cases e;have d':Data.seq vs.toArray _=Data.dict es ep:=d;cases d'
  have nsK:∀{b:Addr} {m:Str->Option aa},s₁.heap.Ns b m->(Bo s₁.heap H).Ns b m:=λ{b m} ⟨o,es,ep,e,d,r⟩=>⟨o,es,ep,base_of e (noA e d),d,r⟩;have hKb:K.In (Bo s₁.heap H):=λb o e=>base_of (KX b o e) (by
   cases q:H b with
   |none=>rfl
   |some u=>
    have e':b=a:=hA b (by rw[q];simp);subst e';rw[hK (by rw[q];simp)]at e;cases e)
  have hM:Mod K mg (Bo s₁.heap H):=⟨hKb,nsK hns,⟨mb,nsK hb,hbb⟩,let ⟨mc,h1,h2⟩:=hlim;⟨mc,nsK h1,h2⟩⟩;have e0:Dp P w K mg (Bo s₁.heap H) callerA [] s₁ H:=⟨rfl,hM,λb o e=>Jq e,kO (E9 _ _),trivial,λb hb=>ak (show b∈([]:List Addr) from hb) (by simp),hok,.of_eq hg⟩;refine cM ((F _ hKb (nsK hns)).run callerA [] s₁ H ⟨[.ref a],[]⟩ [.ref a] [.ref a] _ _ hr e0 (hbind s₁ (.ref a)) (.cons rfl .nil) (hsp H hO hS)) λr s' h=>?_;cases r with
  |error e=>exact(hCX H e s' h).elim
  |ok fl=>
   cases fl with
   |next=>exact bA h
   |brk=>exact bA h
   |cont=>exact bA h
   |ret u=>
    obtain⟨v,H',os,bare,un,hok',r',q⟩:=h;have q':v=.bl true:=q;subst q';obtain rfl:u=Value.bool true:=r';refine⟨rfl,OldK.of_keep λb o e=>?_,os,bare⟩;cases q:H b with
    |none=>exact un.keep b o e q (by intro z;exact ak (show b∈([]:List Addr) from z) (by simp)) (by simp)
    |some u=>
     rcases hO b with z|⟨ob,xs,z⟩
     ·rw[q]at z;cases z
     ·have z2:=un.frzs b ob _ z;obtain⟨e1,_⟩:=hok b _ z;obtain⟨e2,_⟩:=hok' b _ z2;rw[e]at e1;cases e1;exact e2
 cases hk:K.lookup a with
 |some o=>have e:=KX a o hk;rw[ha]at e;cases e;refine core (λ_=>none) (λ_=>.inl rfl) (.inr ⟨_,vs.toArray,_,hk,rfl,rfl,rfl,by rw[aH,lenV];exact hl,by simpa using rv⟩) (λb u z=>by have z':(none:Option HO)=some u:=z;cases z') (λb z=>ak rfl z) λz=>ak rfl z
 |none=>
  refine core (λb=>if b=a then some (.frz { cls:=.type "list", data:=.seq vs.toArray } (.lst (ns.map V.int)))else none) (λb=>?_) (.inl (.inr ⟨{ cls:=.type "list", data:=.seq vs.toArray },ag rfl⟩)) (λb u z=>?_) (λb z=>?_) λ_=>hk
  ·by_cases hb:b=a
   ·exact .inr ⟨_,_,ag hb⟩
   ·exact .inl (ah hb)
  ·by_cases hb:b=a
   ·have z':=(ag hb).symm.trans z;cases z';subst hb;exact⟨ha,by rw[ar];exact hl,vs,_,rv,ha⟩
   ·have z':=(ah hb).symm.trans z;cases z'
  ·by_cases hb:b=a
   ·exact hb
   ·exact ak (ah hb) z
theorem JL{l:W.OpenLaw}{n k:Nat}{q:aq}{loose:List Str}{XP:(Str->Option aa)->Heap->Prop}{YP:aj->Heap->Prop}{d:DefRec}{K:fw->W.Frag}{CX:aj->CXT}{sp:aj->Sp}
  (hn:l.most=some n) (hn2:n<=av) (hdf:d.params.defaults=[]) (hr:pJ k callerA)
  (hY:∀(w:aj) (h:Heap),YP w h->(K w.params).In h)
  (F:∀(w:aj) (mg:Str->Option aa) (fa:Addr) (h:Heap),(K w.params).In h->h.Ns az mg->mg d.name=some (.ref fa)->
   ∃fd:aW,(∀(s:ae) (u:aa),eE s fd ⟨[u],[]⟩ [(x,u)])/\
    ∀base:Heap,(K w.params).In base->base.Ns az mg->qx l.prog w (K w.params) mg base (CX w) k fa fd [x] (sp w))
  (hsp:∀(w:aj) (H:Hp) (a:Addr) (ns:List Int),ns.length<=n->MH H->SqL (K w.params) H a (ns.map V.int)->sp w [.ref a] H (λv _=>v=.bl true) λ_ _ _=>False)
  (hCX:∀(w:aj) (H:Hp) (s:ae) (e:aa) (s':ae),CX w [] H s (λ_ _ _=>False) e s'->False):
  W.WalkO q loose XP YP l.row.toRowW d [] (λf vs=>iI f vs):=by
 refine Att.attach_call hn hdf λw s₀ s₁ mg mb fa o pm cd doc a vs ns G Y ho hd hcd hmg hobj hints hlen hg=>?_;have KX:=hY w _ Y;obtain⟨fd,hb,hF⟩:=F w mg fa _ KX G.T.g hmg;exact GU KX G.T.g G.T.b G.T.builtins G.T.nolimit hg hobj hints (bz hlen hn2) hr hF hb (λH hO hS=>hsp w H a ns hlen hO hS) λH e s'=>hCX w H s₁ e s'
def inClass(s:Stmt)(j:Nat):Stmt:=match s with
 |.ClassDef _ _ _ body _ _ _ _ _ _ _=>body.getD j (.Pass ⟨0,0,0,0⟩)
 |_=>.Pass ⟨0,0,0,0⟩
def qL(s:Stmt):Arguments:=match s with
 |.FunctionDef _ a _ _ _ _ _ _ _ _=>a
 |_=>{ posonlyargs:=[],args:=[],vararg:=none,kwonlyargs:=[],kw_defaults:=[],kwarg:=none,defaults:=[] }
def oN(s:Stmt):List Stmt:=match s with
 |.FunctionDef _ _ b _ _ _ _ _ _ _=>b
 |_=>[]
def ot(s:Stmt):bM:=match s with
 |.FunctionDef _ _ _ _ _ _ sc _ _ _=>sc
 |_=>{ kind:=.function,names:=[],isGenerator:=false,isCoroutine:=false }
abbrev CX0:CXT:=λ_ _ _ _ _ _=>False
abbrev E0:XK:=λ_ _ _=>False
theorem AF{X:Cx}:Passes CX0 X E0:=λ_ _ _ _ _ _ _ h=>h.elim
structure Fun(K:W.Frag)(x qual:Str)(st:Stmt)(f:Addr)(fd:aW):Prop where
 ex:∃(oc:aa) (od:Option Addr) (kV doc pm:aa) (an:Option Addr) (cdv ct:aa) (osl:Array (Option aa)),
  fd=W.fnOf x qual (qL st) (oN st) (ot st) .none kV doc pm an cdv ct/\K.lookup f=some ⟨oc,od,.func fd,osl⟩/\W.codeIn K cdv qual=true
 kp:W.keepIn K (.ref f)=true
variable{qual:Str}{ps:List Str}
section
variable{P:aq}{w:aj}{K:W.Frag}{mg:Str->Option aa}{base:Heap}
theorem Fun.ok{st:Stmt}{f:Addr}{N:List Str}{k:Nat}(F:Fun K x qual st f fd)(S:p7 N ps (ot st))(len:∀vs H Q E,sp vs H Q E->vs.length=ps.length)
  (hbody:∀(cdv:aa) (A:au) (outer:List Env) (s:ae) (H:Hp) (vs:List V) (Q:VK) (E:XK),pJ k (A.deeper (envOfC qual (ot st) s.heap.objs.size f cdv))->sp vs H Q E->
   ∃t,PSs (Bu CX0 P w K mg base N qual (ot st) f cdv A outer s H E).nox (oN st) t/\t { nx:=λ_ H'=>Q .non H',rt:=Q } (start N vs) H):qx P w K mg base CX0 (k+1) f fd ps sp:=by
 obtain⟨oc,od,kV,doc,pm,an,cdv,ct,osl,rfl,lk,hcd⟩:=F.ex;refine AC lk hcd S len λA outer s H vs Q E hr hsp=>?_;obtain⟨t,h,q⟩:=hbody cdv A outer s H vs Q E hr hsp;exact⟨t,h.nox,q⟩
theorem Fun.binds{st:Stmt}{f:Addr}(F:Fun K x qual st f fd)
  (h:∀(kV doc pm:aa) (an:Option Addr) (cdv ct:aa) (us:List aa),us.length=ps.length->bindArgs (W.fnOf x qual (qL st) (oN st) (ot st) .none kV doc pm an cdv ct) ⟨us,[]⟩=pure (ps.zip us)):Binds K fd ps []:=by
 obtain⟨oc,od,kV,doc,pm,an,cdv,ct,osl,rfl,lk,hcd⟩:=F.ex;exact .all (h kV doc pm an cdv ct)
end
theorem Ej{A:au}{k:Nat}(hr:pJ k A):A.units+1<cLine:=gS (Nat.add_le_add_left (by decide:1<=64) _) hr.units
theorem vS{n:Nat}(h:n<=1000):n<av:=gS h (by decide)
section
variable{X:Cx}
theorem pv(i:Nat){pos:Pos}(hN:X.N[i]?=some x:=by rfl)(hv:Vis X.env.scope x:=by first|exact Or.inl rfl|exact Or.inr (Or.inl rfl)|exact Or.inr (Or.inr rfl))(hd:(x==("__debug__" : Str))=false:=by decide)
  (hcd:(x==("__classdict__" : Str))=false:=by decide):PE X (.Name x pos) (um i):=L9 hN hv hd hcd
end
variable{B:Prop}
theorem Cb{A:Prop}(h:B):if false=true then A else B:=by rw[ah aO];exact h
theorem Cd{A:Prop}(h:A):if true=true then A else B:=by rw[ag rfl];exact h
def oh(H H':Hp):Prop:=∀b o,H b=some o->H' b=some o
theorem oh.refl(H:Hp):oh H H:=λ_ _ h=>h
theorem oh.trans{H H1 H2:Hp}(a:oh H H1)(b:oh H1 H2):oh H H2:=λc o h=>b c o (a c o h)
theorem oh.seq{K:W.Frag}{H H':Hp}{a:Addr}{xs:List V}(e:oh H H')(h:SqL K H a xs):SqL K H' a xs:=by
 rcases h with (h|⟨o,h⟩)|h
 ·exact .inl (.inl (e _ _ h))
 ·exact .inl (.inr ⟨o,e _ _ h⟩)
 ·exact .inr h
end L2
set_option maxHeartbeats 4000000
namespace L3
open PySem PySem.Spec PyProof.Rows L2
abbrev St:=L2.St
theorem ze{α β:Type}{f:α->β->Sem (ForInStep β)}{g:β->α->β}:∀(l:List α) (b:β),(∀x∈l,∀c,f x c=pure (ForInStep.yield (g c x)))->(forIn l b f:Sem β)=pure (l.foldl g b)
 |[],b,_=>by simp
 |x::r,b,h=>by rw[List.forIn_cons,h x aL b];show (forIn r (g b x) f:Sem β)=_;rw[ze r (g b x) λy hy c=>h y (aM _ hy) c];rfl
def uH(cells:List (Str×Addr))(cs:List (Str×Addr))(x:Str×cz):List (Str×Addr):=if (x.2==NameKind.free)=true then (x.1,(cells.lookup x.1).getD 0)::cs else cs
def rV(cells:List (Str×Addr))(names:List (Str×cz)):List (Str×Addr):=names.foldl (uH cells) []
variable{scope:bM}{env:Env}
theorem Am(h:∀x∈scope.names,x.2=.free->∃c,env.cells.lookup x.1=some c):
  closureFor scope env=pure (rV env.cells scope.names):=by
 simp only[closureFor];rw[ze (g:=uH env.cells) scope.names [] λx hx c=>by
  obtain⟨n,k⟩:=x;by_cases hk:k=.free
  ·subst hk;obtain⟨a,e⟩:=h _ hx rfl;have e':env.cells.lookup n=some a:=e;simp only[uH,cellOf,e',beq_self_eq_true,if_true,j2];rfl
  ·have hb:(k==NameKind.free)=false:=by simpa using hk
   simp only[uH,hb,dq,if_false]]
 rfl
theorem Ce{cells:List (Str×Addr)}:∀(names:List (Str×cz)) (acc:List (Str×Addr)),(∀x∈names,x.2=.free->∃c,cells.lookup x.1=some c)->(∀x c,acc.lookup x=some c->cells.lookup x=some c)->
  ∀x c,(names.foldl (uH cells) acc).lookup x=some c->cells.lookup x=some c
 |[],acc,_,ha,x,c,e=>ha x c e
 |y::r,acc,h,ha,x,c,e=>by
  refine Ce r (uH cells acc y) (λz hz=>h z (aM _ hz)) (λz d ez=>?_) x c e;obtain⟨n,k⟩:=y;unfold uH at ez;split at ez
  ·rename_i hk;obtain⟨a,ea⟩:=h (n,k) aL (by simpa using hk);have ea':cells.lookup n=some a:=ea;rw[cX]at ez;cases hb:z==n with
   |true=>rw[hb]at ez;have ez':some ((cells.lookup n).getD 0)=some d:=ez;rw[ea']at ez';rw[eB hb,ea'];exact ez'
   |false=>rw[hb]at ez;exact ha z d ez
  ·exact ha z d ez
theorem AG{cells:List (Str×Addr)}:∀(names:List (Str×cz)) (acc:List (Str×Addr)) (x:Str),(∃c,acc.lookup x=some c)->∃c,(names.foldl (uH cells) acc).lookup x=some c
 |[],_,_,h=>h
 |y::r,acc,x,h=>by
  refine AG r (uH cells acc y) x ?_;unfold uH;split
  ·rw[cX];cases x==y.1 with
   |true=>exact⟨_,rfl⟩
   |false=>exact h
  ·exact h
theorem zf{cells:List (Str×Addr)}:∀(names:List (Str×cz)) (acc:List (Str×Addr)) (x:Str),(x,NameKind.free)∈names->∃c,(names.foldl (uH cells) acc).lookup x=some c
 |[],_,_,h=>by cases h
 |y::r,acc,x,h=>by
  rcases aN.mp h with e|h
  ·subst e;refine AG r _ x ?_;unfold uH;rw[ag (by simp),cX];simp
  ·exact zf r _ x h
theorem uo{env:Env}(x:Str):∀(names:List (Str×cz)),
  (names.map λ(n,k)=>if (k==NameKind.free&&env.scope.kind==.function&&env.kindOf n==some .cell)then (n,NameKind.cell)else (n,k)).lookup x=
   (names.lookup x).map λk=>if (k==NameKind.free&&env.scope.kind==.function&&env.kindOf x==some .cell)=true then NameKind.cell else k
 |[]=>rfl
 |(n,k)::r=>by
  have ih:=uo (env:=env) x r;rw[aT,cX (k:=n)];show cg x ((if (k==NameKind.free&&env.scope.kind==.function&&env.kindOf n==some .cell)=true then (n,NameKind.cell)else (n,k))::_)=_;cases hx:x==n with
  |true=>
   have e:=eB hx;subst e;split
   ·rename_i hc;simp only[cX,hx,dA,hc,if_true]
   ·rename_i hc;simp only[cX,hx,dA];rw[ah hc]
  |false=>
   rw[<-ih];split
   ·simp only[cX,hx]
   ·simp only[cX,hx]
variable{x:Str}
theorem Du(hcell:∀y∈scope.names,y.2≠.cell)(h:(relabel scope env).names.lookup x=some .cell\/(relabel scope env).names.lookup x=some .free):(x,NameKind.free)∈scope.names:=by
 have e:=uo (env:=env) x scope.names;have h':(scope.names.lookup x).map (λk=>if (k==NameKind.free&&env.scope.kind==.function&&env.kindOf x==some .cell)=true then NameKind.cell else k)=some .cell\/
   (scope.names.lookup x).map (λk=>if (k==NameKind.free&&env.scope.kind==.function&&env.kindOf x==some .cell)=true then NameKind.cell else k)=some .free:=by
  rw[<-e];exact h
 cases q:scope.names.lookup x with
 |none=>rw[q]at h';rcases h' with z|z<;>cases z
 |some k=>
  rw[q]at h';have hm:=mem_of_lookup q;have hc:=hcell _ hm;cases k with
  |free=>exact hm
  |cell=>exact ak rfl hc
  |_=>rcases h' with z|z<;>cases z
theorem An(h:scope.names.lookup x=some .free):(relabel scope env).names.lookup x=some .cell\/(relabel scope env).names.lookup x=some .free:=by
 have e:=uo (env:=env) x scope.names;have e':(relabel scope env).names.lookup x=(scope.names.lookup x).map λk=>if (k==NameKind.free&&env.scope.kind==.function&&env.kindOf x==some .cell)=true then NameKind.cell else k:=e
 rw[e',h,dA];split
 ·exact .inl rfl
 ·exact .inr rfl
def pK(X:Cx)(N':List Str)(scope:bM)(cl:List (Str×Addr))(C:Addr)(fp:List Addr)(s:ae)(H:Hp):Cx:=
 { X with N:=N',s₀:=s,H₀:=H,env:=compEnvC scope cl C X.env,outer:=X.stack,ex:=fp,fn:=λ_=>false,pn:=[],xe:=λ_ _=>False }
def PIf(X:Cx)(ifs:List Expr)(t:TT):Prop:=
 ∀(pins:List (Addr×Obj)) (s:ae) (σ:St) (H:Hp) (Q:Bool->Hp->Prop),Inv X pins σ H s->t σ H Q->
  af (model X.prog X.w) X.A (forIn ifs true λc r=>if r=true then do let ok<-isTrue c X.env (eval c X.env);pure (ForInStep.yield ok)else pure (ForInStep.yield r)) (TP X pins σ Q) X.xe s
def Ro:TT:=λ_ H Q=>Q true H
variable{X:Cx}
theorem JM:PIf X [] Ro:=λ_ _ _ H _ I h=>wpAny_tests_nil ⟨H,I,h⟩
theorem JN{c:Expr}{t:TT}(h:PT X c t):PIf X [c] t:=λpins s σ H Q I hq=>wpAny_tests_one (h pins s σ H Q I hq)
variable{elt iter:Expr}{ifs:List Expr}{pos:Pos}
section
variable{prog:aq}{w:aj}{A:au}{R:bU->ae->Prop}{s:ae}
theorem BG{target:Expr}{it acc:aa}(J:Nat->ae->Prop)
  (turn:∀n s,J n s->af (model prog w) A (pyNext it) (λr s₁=>match r with
   |none=>R (.ok .next) s₁
   |some v=>af (model prog w) A (d0 target it v) (λ_ s₁'=>af (model prog w) A (assign target env v) (λ_ s₂=>
     af (model prog w) A (forIn ifs true λc r=>if r=true then do let ok<-isTrue c env (eval c env);pure (ForInStep.yield ok)else pure (ForInStep.yield r)) (λok s₃=>
      if ok=true then af (model prog w) A (eval elt env) (λx s₄=>
       af (model prog w) A (call (.builtin "list.append") [acc,x]) (λ_ s₅=>∃m,m<n/\J m s₅) (notedBy (model prog w) A env λe s'=>R (.error e) s') s₄) (notedBy (model prog w) A env λe s'=>R (.error e) s') s₃
      else ∃m,m<n/\J m s₃) (notedBy (model prog w) A env λe s'=>R (.error e) s') s₂) (notedBy (model prog w) A env λe s'=>R (.error e) s') s₁')
      (notedBy (model prog w) A env λe s'=>R (.error e) s') s₁) (notedBy (model prog w) A env λe s'=>R (.error e) s') s)
  (n:Nat) (h:J n s):
  bB (model prog w) A (.compLoop (.ListComp elt [⟨target,iter,ifs,0⟩] scope pos) 0 it acc env) R s:=by
 refine codeAny_loop rfl J (λn s hI=>?_) n h;show af _ A ((compTurn (.ListComp elt [⟨target,iter,ifs,0⟩] scope pos) 0 it acc env).onRaise (λx=>do noteFrame x env;theTreesLotGoes x)) _ _ s;refine wpAny_noted ?_;rw[compTurn_list];refine ai (fX (ai (bf (turn n s hI) (λr s₁ h₁=>?_) λ_ _ h'=>h')));cases r with
 |none=>exact aw h₁
 |some v=>
  refine ai (bf h₁ (λ_ s₁' h₁'=>?_) λ_ _ h'=>h');refine ai (bf h₁' (λ_ s₂ h₂=>ai (bf h₂ (λok s₃ h₃=>?_) λ_ _ h'=>h')) λ_ _ h'=>h');cases ok with
  |false=>exact aw ⟨rfl,h₃⟩
  |true=>exact ai (ai (bf h₃ (λx s₄ h₄=>ai (bf h₄ (λ_ s₅ h₅=>aw (aw ⟨rfl,h₅⟩)) λ_ _ h'=>h')) λ_ _ h'=>h'))
end
def qM(k:Nat)(cap:List Nat)(σ:St):St:=cJ k none++cap.map λj=>(σ[j]?).join
variable{σ:St}
theorem AH{k:Nat}{cap:List Nat}{i:Nat}{v:V}(h:(qM k cap σ)[i]?=some (some v)):k<=i:=by
 by_cases hi:k<=i
 ·exact hi
 ·unfold qM at h;rw[cB (by rw[bI];omega),fB]at h;split at h<;>cases h
variable{N N':List Str}
theorem Fy{k:Nat}{cap:List Nat}{i:Nat}{v:V}(hcap:(N'.drop k).map some=cap.map λj=>N[j]?)(hx:N'[i]?=some x)(h:(qM k cap σ)[i]?=some (some v)):
  ∃j:Nat,N[j]?=some x/\σ[j]?=some (some v)/\x∈N'.drop k:=by
 have hi:=AH h;unfold qM at h;rw[cP (by rw[bI];exact hi),bI,aU]at h;have hd:(N'.drop k)[i - k]?=some x:=by rw[cF,show k+(i - k)=i by omega];exact hx
 have e:=aS (λl=>l[i - k]?) hcap;simp only[aU,hd,dA]at e;cases q:cap[i - k]? with
 |none=>rw[q]at h;cases h
 |some j=>
  rw[q]at h e;simp only[dA,mV]at h e;refine⟨j,e.symm,?_,bw hd⟩;cases z:σ[j]? with
  |none=>rw[z]at h;cases h
  |some o=>rw[z]at h;have h':o=some v:=h;rw[h']
def yb(wi:TI)(g:TG)(tt:TT)(te:TE)(k:Nat)(cap:List Nat):TE:=λσ H Q=>wi σ H λJ H1=>∀p,H1 p=none->
 ∃W:Nat->Nat->List V->Hp->Prop,(∃m,W 0 m [] (upd H1 p (.lst [])))/\∀i m acc H2,W i m acc H2->
  (J.stop i H2/\Q (.ref p) H2)\/
   (J.go i H2/\∀x H3,J.yld i H2 x H3->g x (qM k cap σ) H3 λσ4 H4=>σ4.drop k=(qM k cap σ).drop k/\tt σ4 H4 λb H5=>
    if b=true then te σ4 H5 λy H6=>∃acc',H6 p=some (.lst acc')/\acc'.length<av/\∃m',m'<m/\W (i+1) m' (acc'++[y]) (upd H6 p (.lst (acc'++[y])))
    else ∃m',m'<m/\W (i+1) m' acc H5)
variable{tg:Expr}{wi:TI}{tt:TT}{te:TE}
theorem AI{pins:List (Addr×Obj)}{s:ae}{H:Hp}{use:Option (aa->Sem Unit)}{P:aa->ae->Prop}{Q:V->Hp->Prop}{k:Nat}{cap:List Nat}{g:TG}
  (hc:X.calm=true) (hi:PI X tg iter wi)
  (body:∀(cl:List (Str×Addr)) (C:Addr) (fp:List Addr) (s:ae) (H:Hp),PG (pK X N' scope cl C fp s H) tg g/\PIf (pK X N' scope cl C fp s H) ifs tt/\PE (pK X N' scope cl C fp s H) elt te)
  (hkind:scope.kind=.function) (hcell:(scope.names.all λy=>y.2 != .cell)=true)
  (hloc:(scope.names.all λy=>y.2 != .local||scope.names.lookup y.1==some .local)=true)
  (hfree:(scope.names.all λy=>y.2 != .free||(X.env.kindOf y.1==some .cell||X.env.kindOf y.1==some .free))=true)
  (hlen:N'.length=k+cap.length) (hcap:(N'.drop k).map some=cap.map λj=>X.N[j]?)
  (hcf:((N'.drop k).all λx=>scope.names.lookup x==some .free)=true)
  (hs:∀x,eL iter X.env x=pure x)
  (I:Inv X pins σ H s) (h:yb wi g tt te k cap σ H Q)
  (fin:∀a C m u s4 H3,s4.heap.Ns C m->Inv X pins σ H3 s4->Br X pins H3 C->Q (.ref a) H3->compPost (model X.prog X.w) X.A X.xe use P (.ref a) C (.ok u) s4):
  af (model X.prog X.w) X.A (comprehension (.ListComp elt [⟨tg,iter,ifs,0⟩] scope pos) scope X.env (firstIterPos [⟨tg,iter,ifs,0⟩] pos) (newList []) false (eval iter X.env) use) P X.xe s:=by
 have hcell':∀y∈scope.names,y.2≠.cell:=λy hy e=>by have z:=aF.mp hcell y hy;rw[e]at z;exact ak z (by decide)
 have hloc':∀y∈scope.names,y.2=.local->scope.names.lookup y.1=some .local:=λy hy e=>by have z:=aF.mp hloc y hy;rw[e]at z;simpa using z
 have hfree':∀y∈scope.names,y.2=.free->X.env.kindOf y.1=some .cell\/X.env.kindOf y.1=some .free:=λy hy e=>by have z:=aF.mp hfree y hy;rw[e]at z;simpa using z
 have hcl:∀y∈scope.names,y.2=.free->∃c,X.env.cells.lookup y.1=some c:=λy hy e=>I.ok.has y.1 (hfree' y hy e);refine wpAny_comprehension_free rfl hs (Am hcl) hkind hloc' (thn (hi pins s σ H _ I h) λxv s₁ h₁=>thn h₁ λit s₂ h₂=>?_);obtain⟨ita,fp,tn,J,H2,e,I2,T,st2,f2,R2⟩:=h₂;subst e;obtain⟨W,⟨m0,w0⟩,turn⟩:=R2 s₂.heap.objs.size (I2.hok.fresh (ay _));refine wpAny_newObj_type (wpAny_newFunctionEnv hcell' (by intro y hy;simp at hy) (λh₁ hns₁ hsb₁=>?_) hkind);dsimp only at hns₁ hsb₁ ⊢;generalize hp:s₂.heap.push { cls:=.type "list", dict:=none,data:=.seq ([]:List aa).toArray }=hpL at hns₁ hsb₁ ⊢;have hsz:hpL.objs.size=s₂.heap.objs.size+1:=by rw[<-hp,dG]
 have I3:Inv X pins σ (upd H2 s₂.heap.objs.size (.lst [])) { s₂ with heap:=hpL }:=by rw[<-hp];exact I2.laid (t':=s₂.toks) (λb u e=>aD _ e) (ay _) ⟨aR _,[],0,.nil,aY _ rfl⟩
 have old:∀b o,hpL.get? b=some o->h₁.get? b=some o:=λb o e=>hsb₁.extBut b o (aG (aA e)) (aD _ e);have older:∀b o,s₂.heap.get? b=some o->hpL.get? b=some o:=λb o e=>by rw[<-hp];exact aD _ e
 have hfpS:∀b∈fp,b<s₂.heap.objs.size:=λb hb=>let ⟨o,e,_⟩:=T.obj _ _ st2 b hb;aA e;have sub:∀x c,(rV X.env.cells scope.names).lookup x=some c->X.env.cells.lookup x=some c:=Ce scope.names [] hcl (λx c e=>by cases e);have ok':(pK X N' scope (rV X.env.cells scope.names) hpL.objs.size fp { s₂ with heap:=hpL } (upd H2 s₂.heap.objs.size (.lst []))).Ok:={
  mod:=I3.ok.mod
  kind:=hkind
  glob:=I3.ok.glob
  blt:=I3.ok.blt
  above:=ay _
  inj:=λx y c h1 h2=>I3.ok.inj x y c (sub x c h1) (sub y c h2)
  has:=λx hx=>zf scope.names [] x (Du hcell' hx)
  cab:=λx c hf _=>ak (show false=true from hf) aO
  hd:=I3.ok.hd
  frames:=I3.ok.frames
  stk:=.inl rfl
  exf:=λb hb=>⟨(by
   show b≠hpL.objs.size;rw[hsz];exact aG (cR (hfpS b hb))),λx c e=>(f2 b hb).2.2.2.2.1 x c (sub x c e)⟩
  bs:=I3.bs
  bsz:=bz I3.ok.bsz I3.sz
  noex:=λb o e hb=>by
   rcases(f2 b hb).2.2.2.1 with z|z
   ·exact I3.ok.noex b o e z
   ·exact ak (bD (aA e) (bz I3.ok.bsz z)) (c6 _)
  exfs:=λb hb z=>(aN.mp (I3.stkSub b z)).elim (f2 b hb).2.1 (f2 b hb).2.2.1
  funs:=I3.stack
  frf:=I3.stkFree }
 have IX:Inv (pK X N' scope (rV X.env.cells scope.names) hpL.objs.size fp { s₂ with heap:=hpL } (upd H2 s₂.heap.objs.size (.lst []))) [] (qM k cap σ) (upd H2 s₂.heap.objs.size (.lst []))
   { s₂ with heap:=h₁,toks:=s₂.toks+([]:List (Str×aa)).length }:={
  ok:=ok'
  os:=rfl
  bare:=I3.bare
  base:=Un.kept old
  loc:=⟨_,hns₁,λi x v e1 e2 _=>by
   obtain⟨j,hj,hσ,hm⟩:=Fy hcap e1 e2;have hx:scope.names.lookup x=some .free:=by simpa using aF.mp hcf x hm
   have hk:=hfree' (x,.free) (mem_of_lookup hx) rfl;obtain⟨m,hn,hl⟩:=I3.loc;obtain⟨u,r,lk⟩:=hl j x v hj hσ (hk.elim (λz=>.inr (.inl z)) λz=>.inr (.inr z));refine⟨u,r,.inr ⟨An hx,?_⟩⟩;rcases lk with ⟨z,_⟩|⟨_,c,e,o,ho,hd⟩
   ·rcases hk with y|y
    ·rw[y]at z;cases z
    ·rw[y]at z;cases z
   ·obtain⟨c',e'⟩:=zf (cells:=X.env.cells) scope.names [] x (mem_of_lookup hx);have ec:=sub x c' e';rw[e]at ec;have ec':c=c':=bL ec;subst ec';exact⟨c,e',o,old _ _ ho,hd⟩⟩
  cell:=λx c e=>by obtain⟨v,o,ho,hd⟩:=I3.cell x c (sub x c e);exact⟨v,o,old _ _ ho,hd⟩
  free:=I3.hok.fresh (ay _)
  freeC:=λx c e=>I3.freeC x c (sub x c e)
  pin:=λp hp=>ak (show p∈([]:List (Addr×Obj)) from hp) (by simp)
  hok:=I3.hok.kept old
  len:=by
   show (qM k cap σ).length=N'.length;rw[hlen];unfold qM;rw[aE,bI,ar] }
 have stat:∀{H':Hp},(∀b∈fp,H' b=none)->∀b∈fp,Br (pK X N' scope (rV X.env.cells scope.names) hpL.objs.size fp { s₂ with heap:=hpL } (upd H2 s₂.heap.objs.size (.lst []))) [] H' b:=λhn b hb=>⟨hn b hb,(ok'.exf b hb).1,ok'.exfs b hb,.inl hb,(ok'.exf b hb).2,λp hp=>ak (show p∈([]:List (Addr×Obj)) from hp) (by simp)⟩
 have st4:tn 0 h₁:=T.keep _ _ _ st2 λb _ o e=>old b o (older b o e);have loop:bB (model X.prog X.w) X.A (.compLoop (.ListComp elt [⟨tg,iter,ifs,0⟩] scope pos) 0 (.ref ita) (.ref s₂.heap.objs.size) (compEnvC scope (rV X.env.cells scope.names) hpL.objs.size X.env))
   (compPost (model X.prog X.w) X.A X.xe use P (.ref s₂.heap.objs.size) hpL.objs.size) { s₂ with heap:=h₁,toks:=s₂.toks+([]:List (Str×aa)).length }:=by
  refine BG (λn s'=>∃i acc H',Inv (pK X N' scope (rV X.env.cells scope.names) hpL.objs.size fp { s₂ with heap:=hpL } (upd H2 s₂.heap.objs.size (.lst []))) [] (qM k cap σ) H' s'/\tn i s'.heap/\(∀b∈fp,H' b=none)/\W i n acc H')
   ?_ m0 ⟨0,[],_,IX,st4,λb hb=>?_,w0⟩
  ·rintro n s3 ⟨i,acc,H3,I4,st3,fr3,w3⟩;rcases turn i n acc H3 w3 with ⟨stop,qn⟩|⟨go,step⟩
   ·refine thn (T.done (pK X N' scope (rV X.env.cells scope.names) hpL.objs.size fp { s₂ with heap:=hpL } (upd H2 s₂.heap.objs.size (.lst []))) rfl rfl rfl hc i [] s3 _ H3 _ I4 (stat fr3) st3 stop) λr s4 zz=>?_;obtain⟨hr,I5⟩:=zz;subst hr;obtain⟨m,hn,_⟩:=id I5.loc;have U:=I5.base;refine fin _ _ m _ _ _ hn (I3.call' (s':=s4) (ch:=fp) I5.os ⟨λb o e n hb hx=>U.keep b o e n hb hx,λb o e n hb hx=>U.slot b o e n hb hx,U.free,λb o e hx=>U.there b o e hx,U.tups,U.frzs,U.tbls⟩ I5.hok I5.bare
     λb hb=>⟨(f2 b hb).2.2.2.1,(f2 b hb).2.1,(f2 b hb).2.2.2.2.1,(f2 b hb).2.2.2.2.2⟩) (I3.fpOk (ay _) I5.free) qn
   ·refine thn (T.item (pK X N' scope (rV X.env.cells scope.names) hpL.objs.size fp { s₂ with heap:=hpL } (upd H2 s₂.heap.objs.size (.lst []))) rfl rfl rfl hc i [] s3 _ H3 _ I4 (stat fr3) st3 go) λr s4 zz=>?_;obtain⟨u,hr,h4⟩:=zz;subst hr;refine thn h4 λ_ s5 zz=>?_;obtain⟨x,H5,I5,r5,y5,st5,fr5⟩:=zz;have I5':=I5.pinned (stat fr5) (T.obj _ _ st5);have again:∀{H8:Hp} {s8:ae} {σ8:St} {acc8:List V} {m':Nat},Inv (pK X N' scope (rV X.env.cells scope.names) hpL.objs.size fp { s₂ with heap:=hpL } (upd H2 s₂.heap.objs.size (.lst []))) ([]++y6 fp s5.heap) σ8 H8 s8->σ8.drop k=(qM k cap σ).drop k->m'<n->W (i+1) m' acc8 H8->
      ∃m,m<n/\∃i acc H',Inv (pK X N' scope (rV X.env.cells scope.names) hpL.objs.size fp { s₂ with heap:=hpL } (upd H2 s₂.heap.objs.size (.lst []))) [] (qM k cap σ) H' s8/\tn i s8.heap/\(∀b∈fp,H' b=none)/\W i m acc H':=λ{H8 s8 σ8 acc8 m'} I8 hd8 hm8 w8=>by
     refine⟨m',hm8,i+1,acc8,H8,I8.unpinned.weak (IX.len.trans I8.len.symm) (λj v e=>?_),T.keep _ _ _ st5 λb hb o e=>(I8.pin (b,o) (bQ _ (bQ _ (sC hb e)))).1,λb hb=>?_,w8⟩
     ·have hj:=AH e;have q:(σ8.drop k)[j - k]?=((qM k cap σ).drop k)[j - k]?:=by rw[hd8]
      rw[cF,cF,show k+(j - k)=j by omega]at q;rw[q];exact e
     ·obtain⟨o,e,d⟩:=T.obj _ _ st5 b hb;exact(I8.pin (b,o) (bQ _ (bQ _ (sC hb e)))).2.1
    refine bf ((body _ _ _ _ _).1 _ s5 _ H5 x u _ I5' r5 (step x H5 y5)) (λ_ s6 h6=>?_) λ_ _ f=>f.elim;obtain⟨σ6,H6,I6,hd6,q6⟩:=h6;refine bf ((body _ _ _ _ _).2.1 _ s6 σ6 H6 _ I6 q6) (λb s7 h7=>?_) λ_ _ f=>f.elim;obtain⟨H7,I7,q7⟩:=h7;cases b with
    |false=>rw[ah aO]at q7;rw[ah aO];obtain⟨m',hm',w7⟩:=q7;exact again I7 hd6 hm' w7
    |true=>rw[ag rfl]at q7;rw[ag rfl];refine bf ((body _ _ _ _ _).2.2 _ s7 σ6 H7 _ I7 q7) (λyv s8 h8=>?_) λ_ _ f=>f.elim;obtain⟨y,H8,I8,r8,acc',hp8,hl8,m',hm',w8⟩:=h8;refine bf (xJ (X:=pK X N' scope (rV X.env.cells scope.names) hpL.objs.size fp { s₂ with heap:=hpL } (upd H2 s₂.heap.objs.size (.lst []))) _ s8 σ6 H8 (.ref s₂.heap.objs.size) [y] (.ref s₂.heap.objs.size) [yv] (λ_ Hx=>Hx=upd H8 s₂.heap.objs.size (.lst (acc'++[y]))) I8 rfl (.cons r8 .nil) ⟨_,acc',y,rfl,rfl,hp8,hl8,rfl⟩) (λ_ s9 h9=>?_) λ_ _ f=>f.elim;obtain⟨_,H9,I9,_,e9⟩:=h9;subst e9;exact again I9 hd6 hm' w8
  ·have z:b≠s₂.heap.objs.size:=aG (hfpS b hb);rw[oo z];exact(f2 b hb).1
 exact codeAny_compStart_list loop (T.self _ 0 _ _ _ st4 loop)
theorem JO{k:Nat}{cap:List Nat}{g:TG}
  (hc:X.calm=true) (hi:PI X tg iter wi)
  (body:∀(cl:List (Str×Addr)) (C:Addr) (fp:List Addr) (s:ae) (H:Hp),PG (pK X N' scope cl C fp s H) tg g/\PIf (pK X N' scope cl C fp s H) ifs tt/\PE (pK X N' scope cl C fp s H) elt te)
  (hkind:scope.kind=.function:=by rfl) (hcell:(scope.names.all λy=>y.2 != .cell)=true:=by rfl)
  (hloc:(scope.names.all λy=>y.2 != .local||scope.names.lookup y.1==some .local)=true:=by rfl)
  (hfree:(scope.names.all λy=>y.2 != .free||(X.env.kindOf y.1==some .cell||X.env.kindOf y.1==some .free))=true:=by rfl)
  (hlen:N'.length=k+cap.length:=by rfl) (hcap:(N'.drop k).map some=cap.map λj=>X.N[j]?:=by rfl)
  (hcf:((N'.drop k).all λx=>scope.names.lookup x==some .free)=true:=by rfl)
  (hs:∀x,eL iter X.env x=pure x:=by intro _;rfl):
  PE X (.ListComp elt [⟨tg,iter,ifs,0⟩] scope pos) (yb wi g tt te k cap):=by
 intro pins s σ H Q I h;exact AI hc hi body hkind hcell hloc hfree hlen hcap hcf hs I h λa C m u s4 H3 hn back fpC qn=>⟨m,hn,λh' hs'=>⟨.ref a,H3,back.turned (t':=s4.toks) (λb o hb e=>(hs'.2 b hb).trans e) fpC.1 fpC.2.1 fpC.2.2.2.1 fpC.2.2.2.2.1 fpC.2.2.2.2.2,rfl,qn⟩⟩
def Its(x:Str):It:=⟨λi _=>i<x.cps.size,λi H v H'=>H'=H/\∃c,x.cps[i]?=some c/\v=.str ⟨#[c]⟩,λi _=>i=x.cps.size⟩
theorem MI{M:cO}{A:au}{E:aa->ae->Prop}{s:ae}{it:Addr}{c:Str}{t:Tok}{Q:Unit->ae->Prop}(hQ:Q () s):af M A (d0 tg (.ref it) (.str c t)) Q E s:=by unfold d0;cases tg<;>exact aw hQ
theorem Cf{P:aq}{w:aj}{K:W.Frag}(it:Addr)(ty:String)(x:Str)(t:Tok)
  (hW:∀A:au,A.handled=none->Walks P w A it [it] [it] x.cps.size (SignAt x) (λi h=>h.IsStrIter it ty x t i))
  (hS:∀(A:au) (i:Nat) (s:ae) (Q:aa->ae->Prop) (E:aa->ae->Prop),s.heap.IsStrIter it ty x t i->Q (.ref it) s->af (model P w) A (pyIter (.ref it)) Q E s):
  Turn P w K tg (Its x) [it] it (λi h=>h.IsStrIter it ty x t i) where
 mem:=by simp
 obj:=λi h st b hb=>by
  have e:b=it:=by simpa using hb
  subst e;obtain⟨o,e,c,d⟩:=st;exact⟨o,e,λv z=>by rw[d]at z;cases z⟩
 keep:=λi h h' st k=>by obtain⟨o,e,r⟩:=st;exact⟨o,k it (by simp) o e,r⟩
 item:=by intro X hP hw hK hc i pins s σ H E I hf st hg;subst hP hw hK;obtain⟨f0,f1,f2,f3,f4,f5⟩:=hf it (by simp);refine(hW _ (I.ok.hd hc)).item i s _ _ hg st λv h' tk hv st' kk=>?_;obtain⟨c,t',hc',rfl⟩:=hv;have I1:Inv X pins σ H { s with heap:=h',toks:=tk }:=I.turned (λb o hb e=>kk b o (by simpa using hb) e) f0 f1 f3 f4 f5;exact⟨_,rfl,MI ⟨.str ⟨#[c]⟩,H,I1,⟨t',rfl⟩,⟨rfl,c,hc',rfl⟩,st',λb hb=>(hf b hb).1⟩⟩
 done:=by intro X hP hw hK hc i pins s σ H E I hf st hg;subst hP hw hK;obtain⟨f0,f1,f2,f3,f4,f5⟩:=hf it (by simp);have hg':i=x.cps.size:=hg;subst hg';exact(hW _ (I.ok.hd hc)).done s _ _ st λh' tk kk=>⟨rfl,I.turned (λb o hb e=>kk b o (by simpa using hb) e) f0 f1 f3 f4 f5⟩
 self:=hS
variable{l:Expr}{tl:TE}
section
variable{X:Cx}{tg:Expr}
def P8(tl:TE):TI:=λσ H R=>tl σ H λv H1=>∃x,v=.str x/\R (Its x) H1
theorem MJ(hl:PE X l tl):PI X tg l (P8 tl):=by
 intro pins s σ H R I h;refine thn (hl pins s σ H _ I h) λv s1 zz=>?_;obtain⟨x,H1,I1,r1,q1⟩:=zz;obtain⟨z,e,q⟩:=q1;subst e;obtain⟨t,rfl⟩:=r1;have fp:∀b∈[s1.heap.objs.size],Br X pins H1 b:=λb hb=>by
  have e:b=s1.heap.objs.size:=by simpa using hb
  subst e;exact I1.fpOk (ay _) (I1.hok.fresh (ay _))
 cases ha:z.cps.all (· < 128)
 ·refine wpAny_pyIter_wide ha ⟨s1.heap.objs.size,[s1.heap.objs.size],_,_,H1,rfl,I1.kept (t':=s1.toks) λb o e=>aD _ e,Cf _ "str_iterator" z t (λA hA=>Walks.strWide hA _ z t) (λA i s Q E st hQ=>wpAny_pyIter_striter_wide st hQ),⟨_,aY _ rfl,rfl,rfl⟩,fp,q⟩
 ·refine wpAny_pyIter_ascii ha ⟨s1.heap.objs.size,[s1.heap.objs.size],_,_,H1,rfl,I1.kept (t':=s1.toks) λb o e=>aD _ e,Cf _ "str_ascii_iterator" z t (λA hA=>Walks.strAscii hA _ z t) (λA i s Q E st hQ=>wpAny_pyIter_striter_ascii st hQ),⟨_,aY _ rfl,rfl,rfl⟩,fp,q⟩
end
section
variable{X:Cx}
theorem FB:OpR X (aI .LtE) (λx y H Q=>∃i j,x=.str i/\y=.str j/\Q (.bl (!decide (j.cps.toList<i.cps.toList))) H):=by intro pins s σ H x y v u Q I rx ry h;obtain⟨i,j,rfl,rfl,q⟩:=h;obtain⟨t,rfl⟩:=rx;obtain⟨t',rfl⟩:=ry;exact PySem.P.le_str (oQ I q rfl)
theorem GV(hc:X.calm=true):pM X (.builtin "all") (λxs H Q=>∃(p:Addr) (bs:List Bool),xs=[.ref p]/\SqL X.K H p (bs.map V.bl)/\Q (.bl (bs.all id)) H):=by
 intro pins s σ H xs us Q I r h;obtain⟨p,bs,rfl,hq,q⟩:=h;obtain⟨u,rfl,ru⟩:=vals1 r;cases ru;obtain⟨its,rv,pl,hz⟩:=I.list hq;have hlt:p<s.heap.objs.size:=by obtain⟨o,ho,_⟩:=pl.isList;exact aA ho
 have hl:bs.length=its.length:=by have:=rv.length;rw[ar]at this;exact this
 refine call_all_walk (dX pl.isList ⟨s.heap.objs.size,_,_,_,_,_,λi=>(bs[i]?).getD true,rfl,gm (show X.A.in1.handled=none from I.ok.hd hc) _ p (aG hlt) its.toArray,⟨⟨_,aY _ rfl,rfl,rfl⟩,?_⟩,?_,λh' tk hk=>?_⟩)
 ·exact pl.isList.at λo e=>aD _ e
 ·intro i v s' Q' E' hv hQ';have hv':its[i]?=some v:=by simpa using hv
  have hi:i<its.length:=(aV.mp hv').1;have hb:(bs.map V.bl)[i]?=some (.bl (bs[i]'(by omega))):=by simp[show i<bs.length by omega]
  obtain⟨u,hu,ru⟩:=rv.get hb;rw[hv']at hu;cases hu;cases ru;refine bY ?_;have e:(bs[i]?).getD true=bs[i]'(by omega):=by simp[show i<bs.length by omega]
  rw[<-e];exact hQ'
 ·refine⟨.bl (bs.all id),H,?_,?_,q⟩
  ·exact I.kept (t':=tk) λb o e=>hk b o (by simp;exact aG (aA e)) (aD _ e)
  ·show Value.bool _=Value.bool _;congr 1;rw[aH,<- hl];rw[cY];simp only[aF,bj,id];constructor
   ·intro hh b hb;obtain⟨i,hi,rfl⟩:=dj.mp hb;have:=hh i hi;simpa [hi]using this
   ·intro hh i hi;simp only[aQ hi,j2];exact hh _ (fQ hi)
end
inductive Dq where
 |non|bl (b:Bool)|int (i:Int)|str (x:Str)|tup (ds:List Dq)|lst (ds:List Dq)
mutual
def Rep(K:W.Frag)(H:Hp):Dq->V->Prop
 |.non,v=>v=.non
 |.bl b,v=>v=.bl b
 |.int i,v=>v=.int i
 |.str x,v=>v=.str x
 |.tup ds,v=>∃a xs,v=.ref a/\SqT K H a xs/\n8 K H ds xs
 |.lst ds,v=>∃a xs,v=.ref a/\SqL K H a xs/\n8 K H ds xs
def n8(K:W.Frag)(H:Hp):List Dq->List V->Prop
 |[],xs=>xs=[]
 |d::ds,xs=>∃v r,xs=v::r/\Rep K H d v/\n8 K H ds r
end
mutual
def eqD:Dq->Dq->Bool
 |.non,.non=>true
 |.bl a,.bl b=>a==b
 |.bl a,.int b=>(if a then 1 else 0)==b
 |.int a,.bl b=>a==(if b then 1 else 0)
 |.int a,.int b=>a==b
 |.str a,.str b=>a==b
 |.tup a,.tup b=>uq a b
 |.lst a,.lst b=>uq a b
 |_,_=>false
def uq:List Dq->List Dq->Bool
 |[],[]=>true
 |a::r,b::q=>eqD a b&&uq r q
 |_,_=>false
end
mutual
def dpt:Dq->Nat
 |.tup ds=>qj ds+1
 |.lst ds=>qj ds+1
 |_=>0
def qj:List Dq->Nat
 |[]=>0
 |d::r=>max (dpt d) (qj r)
end
mutual
theorem GW:∀d:Dq,eqD d d=true
 |.non=>by unfold eqD;rfl
 |.bl b=>by unfold eqD;simp
 |.int i=>by unfold eqD;simp
 |.str x=>by unfold eqD;simp
 |.tup ds=>by unfold eqD;exact xK ds
 |.lst ds=>by unfold eqD;exact xK ds
theorem xK:∀ds:List Dq,uq ds ds=true
 |[]=>by unfold uq;rfl
 |d::r=>by unfold uq;rw[GW d,xK r];rfl
end
theorem n9{K:W.Frag}{H:Hp}:∀{ds:List Dq} {xs:List V},n8 K H ds xs->ds.length=xs.length
 |[],xs,h=>by unfold n8 at h;subst h;rfl
 |d::ds,xs,h=>by unfold n8 at h;obtain⟨v,r,rfl,_,h2⟩:=h;rw[aB,aB,n9 h2]
def eAt(ds ds':List Dq)(j:Nat):Bool:=match ds[j]?,ds'[j]? with
 |some a,some b=>eqD a b
 |_,_=>true
theorem zg:∀(ds ds':List Dq),uq ds ds'=true ↔ ds.length=ds'.length/\∀j,j<ds.length->eAt ds ds' j=true
 |[],[]=>by simp[uq]
 |[],b::q=>by simp[uq]
 |a::r,[]=>by simp[uq]
 |a::r,b::q=>by
  have ih:=zg r q;unfold uq;rw[aC,ih,aB,aB];constructor
  ·rintro⟨h1,h2,h3⟩;refine⟨by omega,λj hj=>?_⟩;cases j with
   |zero=>exact h1
   |succ j=>exact h3 j (by omega)
  ·rintro⟨h1,h2⟩;exact⟨h2 0 (by omega),by omega,λj hj=>h2 (j+1) (by omega)⟩
variable{ds ds':List Dq}
theorem ur{n m:Nat}(hn:ds.length=n)(hm:ds'.length=m):((aJ (min n m)).all (eAt ds ds')&&n==m)=uq ds ds':=by
 rw[cY,zg,aC,aF];subst hn hm;constructor
 ·rintro⟨h1,h2⟩;have e:ds.length=ds'.length:=by simpa using h2
  exact⟨e,λj hj=>h1 j (bj.mpr (by omega))⟩
 ·rintro⟨e,h⟩;exact⟨λj hj=>h j (by have:=bj.mp hj;omega),by simpa using e⟩
theorem ve{n:Nat}(hn:ds.length=n)(hm:ds'.length=n):(aJ n).all (eAt ds ds')=uq ds ds':=by rw[<-ur hn hm];simp
theorem zh(h:ds.length≠ds'.length):uq ds ds'=false:=by
 cases e:uq ds ds' with
 |false=>rfl
 |true=>exact ak ((zg ds ds').mp e).1 h
section
variable{X:Cx}{pins:List (Addr×Obj)}{σ:St}{H:Hp}{s:ae}
theorem LA(I:Inv X pins σ H s){a:Addr}{xs ys:List V}(h:SqL X.K H a xs)(h':SqT X.K H a ys):False:=by obtain⟨its,_,p,_⟩:=I.list h;obtain⟨its',_,p',_⟩:=I.tuple h';exact SeqAt.ne_of_list_tuple p.isList (show s.heap.IsTuple a its'.toArray from p') rfl
mutual
theorem zi(I:Inv X pins σ H s):∀(d d':Dq) (v:V),Rep X.K H d v->Rep X.K H d' v->eqD d d'=true
 |.non,d',v,h,h'=>by unfold Rep at h;subst h;cases d'<;>unfold Rep at h'<;>first|rfl|(exact nomatch h')|(obtain⟨_,_,e,_⟩:=h';exact nomatch e)
 |.bl b,d',v,h,h'=>by unfold Rep at h;subst h;cases d'<;>unfold Rep at h'<;>first|(obtain⟨_,_,e,_⟩:=h';cases e)|(cases h'<;>simp[eqD])
 |.int b,d',v,h,h'=>by unfold Rep at h;subst h;cases d'<;>unfold Rep at h'<;>first|(obtain⟨_,_,e,_⟩:=h';cases e)|(cases h'<;>simp[eqD])
 |.str b,d',v,h,h'=>by unfold Rep at h;subst h;cases d'<;>unfold Rep at h'<;>first|(obtain⟨_,_,e,_⟩:=h';cases e)|(cases h'<;>simp[eqD])
 |.tup ds,d',v,h,h'=>by
  unfold Rep at h;obtain⟨a,xs,rfl,hq,hr⟩:=h;cases d' with
  |tup ds'=>unfold Rep at h';obtain⟨a',xs',e,hq',hr'⟩:=h';cases e;have ex:=I.tuple_inj hq hq';subst ex;unfold eqD;exact xM I ds ds' xs hr hr'
  |lst ds'=>unfold Rep at h';obtain⟨a',xs',e,hq',hr'⟩:=h';cases e;exact(LA I hq' hq).elim
  |_=>unfold Rep at h';exact nomatch h'
 |.lst ds,d',v,h,h'=>by
  unfold Rep at h;obtain⟨a,xs,rfl,hq,hr⟩:=h;cases d' with
  |lst ds'=>unfold Rep at h';obtain⟨a',xs',e,hq',hr'⟩:=h';cases e;have ex:=I.list_inj hq hq';subst ex;unfold eqD;exact xM I ds ds' xs hr hr'
  |tup ds'=>unfold Rep at h';obtain⟨a',xs',e,hq',hr'⟩:=h';cases e;exact(LA I hq hq').elim
  |_=>unfold Rep at h';exact nomatch h'
theorem xM(I:Inv X pins σ H s):∀(ds ds':List Dq) (xs:List V),n8 X.K H ds xs->n8 X.K H ds' xs->uq ds ds'=true
 |[],ds',xs,h,h'=>by
  unfold n8 at h;subst h;cases ds' with
  |nil=>rfl
  |cons d r=>unfold n8 at h';obtain⟨_,_,e,_⟩:=h';exact nomatch e
 |d::ds,ds',xs,h,h'=>by
  unfold n8 at h;obtain⟨v,r,rfl,h1,h2⟩:=h;cases ds' with
  |nil=>unfold n8 at h';exact nomatch h'
  |cons d' r'=>unfold n8 at h';obtain⟨v',q,e,h1',h2'⟩:=h';cases e;unfold uq;rw[zi I d d' v h1 h1',xM I ds r' r h2 h2'];rfl
end
mutual
theorem MK(I:Inv X pins σ H s):∀(d d':Dq) (x y:V) (u v:aa) (A:au),Rep X.K H d x->Rep X.K H d' y->RelV x u->RelV y v->A.units+dpt d+dpt d'<cLine->gk A s u v (eqD d d')
 |.tup ds,d',x,y,u,v,A,hx,hy,ru,rv,hu=>by
  unfold Rep at hx;obtain⟨a,xs,rfl,hq,hr⟩:=hx;cases ru;obtain⟨its,rx,p,_⟩:=I.tuple hq;have p:s.heap.IsTuple a its.toArray:=p;cases d' with
  |non=>unfold Rep at hy;subst hy;cases rv;exact l7 p (by omega)
  |bl b=>unfold Rep at hy;subst hy;cases rv;exact l8 b p (by omega)
  |int b=>unfold Rep at hy;subst hy;obtain⟨t,rfl⟩:=rv;exact mn b t p (by omega)
  |str b=>unfold Rep at hy;subst hy;obtain⟨t,rfl⟩:=rv;exact mr b t p (by omega)
  |lst ds'=>unfold Rep at hy;obtain⟨b,ys,rfl,hq',hr'⟩:=hy;cases rv;obtain⟨its',ry,p',_⟩:=I.list hq';exact l9 p p'.isList (by omega)
  |tup ds'=>
   have hy0:=hy;unfold Rep at hy;obtain⟨b,ys,rfl,hq',hr'⟩:=hy;cases rv;obtain⟨its',ry,p',_⟩:=I.tuple hq';have p':s.heap.IsTuple b its'.toArray:=p';by_cases hab:a=b
   ·subst hab;have e:eqD (.tup ds) (.tup ds')=true:=zi I _ _ (.ref a) (by unfold Rep;exact⟨a,xs,rfl,hq,hr⟩) hy0;rw[e];exact ib _
   ·have hd:dpt (.tup ds)=qj ds+1:=by rw[dpt]
    have hd':dpt (.tup ds')=qj ds'+1:=by rw[dpt]
    have q:=mW (A:=A) (e:=eAt ds ds') p p' (by omega) λj h1 h2=>by have z:=uu I ds ds' xs ys its its' A.in1 hr hr' rx ry (by show A.units+1+qj ds+qj ds'<cLine;omega) j (by simpa using h1) (by simpa using h2);simpa using z
    rw[ur (by rw[n9 hr,rx.length];simp) (by rw[n9 hr',ry.length];simp)]at q;exact gT hab (by unfold eqD;exact q)
 |.lst ds,d',x,y,u,v,A,hx,hy,ru,rv,hu=>by
  unfold Rep at hx;obtain⟨a,xs,rfl,hq,hr⟩:=hx;cases ru;obtain⟨its,rx,p,_⟩:=I.list hq;have p:=p.isList;cases d' with
  |non=>unfold Rep at hy;subst hy;cases rv;exact mw p (by omega)
  |bl b=>unfold Rep at hy;subst hy;cases rv;exact mx b p (by omega)
  |int b=>unfold Rep at hy;subst hy;obtain⟨t,rfl⟩:=rv;exact mJ b t p (by omega)
  |str b=>unfold Rep at hy;subst hy;obtain⟨t,rfl⟩:=rv;exact mK b t p (by omega)
  |tup ds'=>unfold Rep at hy;obtain⟨b,ys,rfl,hq',hr'⟩:=hy;cases rv;obtain⟨its',ry,p',_⟩:=I.tuple hq';exact me p (show s.heap.IsTuple b its'.toArray from p') (by omega)
  |lst ds'=>
   have hy0:=hy;unfold Rep at hy;obtain⟨b,ys,rfl,hq',hr'⟩:=hy;cases rv;obtain⟨its',ry,p',_⟩:=I.list hq';have p':=p'.isList;by_cases hab:a=b
   ·subst hab;have e:eqD (.lst ds) (.lst ds')=true:=zi I _ _ (.ref a) (by unfold Rep;exact⟨a,xs,rfl,hq,hr⟩) hy0;rw[e];exact ib _
   ·have hd:dpt (.lst ds)=qj ds+1:=by rw[dpt]
    have hd':dpt (.lst ds')=qj ds'+1:=by rw[dpt]
    by_cases hl:its.length=its'.length
    ·have q:=mY (A:=A) (e:=eAt ds ds') p p' (by simpa using hl) (by omega) λj h1 h2=>by have z:=uu I ds ds' xs ys its its' A.in1 hr hr' rx ry (by show A.units+1+qj ds+qj ds'<cLine;omega) j (by simpa using h1) (by simpa using h2);simpa using z
     rw[ve (by rw[n9 hr,rx.length];simp) (by rw[n9 hr',ry.length,<- hl];simp)]at q;exact gT hab (by unfold eqD;exact q)
    ·have e:eqD (.lst ds) (.lst ds')=false:=by unfold eqD;exact zh (by rw[n9 hr,n9 hr',rx.length,ry.length];exact hl)
     rw[e];exact gT hab (l5 p p' (by simpa using hl) (by omega))
 |.non,d',x,y,u,v,A,hx,hy,ru,rv,hu=>by
  unfold Rep at hx;subst hx;cases d' with
  |tup ds'=>unfold Rep at hy;obtain⟨b,ys,rfl,hq',hr'⟩:=hy;cases rv;cases ru;obtain⟨its',ry,p',_⟩:=I.tuple hq';exact mf (show s.heap.IsTuple b its'.toArray from p') (by omega)
  |lst ds'=>unfold Rep at hy;obtain⟨b,ys,rfl,hq',hr'⟩:=hy;cases rv;cases ru;obtain⟨its',ry,p',_⟩:=I.list hq';exact my p'.isList (by omega)
  |_=>unfold Rep at hy;subst hy;exact za ru rv rfl rfl
 |.bl c,d',x,y,u,v,A,hx,hy,ru,rv,hu=>by
  unfold Rep at hx;subst hx;cases d' with
  |tup ds'=>unfold Rep at hy;obtain⟨b,ys,rfl,hq',hr'⟩:=hy;cases rv;cases ru;obtain⟨its',ry,p',_⟩:=I.tuple hq';exact mh c (show s.heap.IsTuple b its'.toArray from p') (by omega)
  |lst ds'=>unfold Rep at hy;obtain⟨b,ys,rfl,hq',hr'⟩:=hy;cases rv;cases ru;obtain⟨its',ry,p',_⟩:=I.list hq';exact mB c p'.isList (by omega)
  |_=>unfold Rep at hy;subst hy;exact za ru rv rfl rfl
 |.int c,d',x,y,u,v,A,hx,hy,ru,rv,hu=>by
  unfold Rep at hx;subst hx;cases d' with
  |tup ds'=>unfold Rep at hy;obtain⟨b,ys,rfl,hq',hr'⟩:=hy;cases rv;obtain⟨t,rfl⟩:=ru;obtain⟨its',ry,p',_⟩:=I.tuple hq';exact mC c t (show s.heap.IsTuple b its'.toArray from p') (by omega)
  |lst ds'=>unfold Rep at hy;obtain⟨b,ys,rfl,hq',hr'⟩:=hy;cases rv;obtain⟨t,rfl⟩:=ru;obtain⟨its',ry,p',_⟩:=I.list hq';exact mL c t p'.isList (by omega)
  |_=>unfold Rep at hy;subst hy;exact za ru rv rfl rfl
 |.str c,d',x,y,u,v,A,hx,hy,ru,rv,hu=>by
  unfold Rep at hx;subst hx;cases d' with
  |tup ds'=>unfold Rep at hy;obtain⟨b,ys,rfl,hq',hr'⟩:=hy;cases rv;obtain⟨t,rfl⟩:=ru;obtain⟨its',ry,p',_⟩:=I.tuple hq';exact mE c t (show s.heap.IsTuple b its'.toArray from p') (by omega)
  |lst ds'=>unfold Rep at hy;obtain⟨b,ys,rfl,hq',hr'⟩:=hy;cases rv;obtain⟨t,rfl⟩:=ru;obtain⟨its',ry,p',_⟩:=I.list hq';exact mM c t p'.isList (by omega)
  |_=>unfold Rep at hy;subst hy;exact za ru rv rfl rfl
theorem uu(I:Inv X pins σ H s):∀(ds ds':List Dq) (xs ys:List V) (us vs:List aa) (A:au),n8 X.K H ds xs->n8 X.K H ds' ys->Vals xs us->Vals ys vs->A.units+qj ds+qj ds'<cLine->
  ∀(j:Nat) (h1:j<us.length) (h2:j<vs.length),gk A s us[j] vs[j] (eAt ds ds' j)
 |[],ds',xs,ys,us,vs,A,hx,hy,ru,rv,hu,j,h1,h2=>by
  have:=n9 hx;have:=ru.length;simp only[bV]at *
  omega
 |d::ds,[],xs,ys,us,vs,A,hx,hy,ru,rv,hu,j,h1,h2=>by
  have:=n9 hy;have:=rv.length;simp only[bV]at *
  omega
 |d::ds,d'::ds',xs,ys,us,vs,A,hx,hy,ru,rv,hu,j,h1,h2=>by
  unfold n8 at hx hy;obtain⟨x,xr,rfl,hx1,hx2⟩:=hx;obtain⟨y,yr,rfl,hy1,hy2⟩:=hy;have e1:qj (d::ds)=max (dpt d) (qj ds):=by rw[qj]
  have e2:qj (d'::ds')=max (dpt d') (qj ds'):=by rw[qj]
  cases ru with
  |cons r1 r2=>
   cases rv with
   |cons q1 q2=>
    cases j with
    |zero=>exact MK I d d' x y _ _ A hx1 hy1 r1 q1 (by omega)
    |succ j=>exact uu I ds ds' xr yr _ _ A hx2 hy2 r2 q2 (by omega) j (by simpa using h1) (by simpa using h2)
end
def LB:Dq->Dq->Bool
 |.tup _,.tup _=>true
 |.lst _,.lst _=>true
 |_,_=>false
def Dw(K:W.Frag)(neg:Bool):R2:=λx y H Q=>∃d d',Rep K H d x/\Rep K H d' y/\LB d d'=true/\dpt d<=20/\dpt d'<=20/\Q (.bl (if neg then !eqD d d' else eqD d d')) H
theorem ML(hu:X.A.units+64<cLine):OpR X (aI .Eq) (Dw X.K false):=by
 intro pins s σ H x y u v Q I ru rv h;obtain⟨d,d',hx,hy,hd,h1,h2,q⟩:=h;cases d with
 |tup ds=>
  cases d' with
  |tup ds'=>
   have hd1:dpt (.tup ds)=qj ds+1:=by rw[dpt]
   have hd2:dpt (.tup ds')=qj ds'+1:=by rw[dpt]
   unfold Rep at hx hy;obtain⟨a,xs,rfl,hq,hr⟩:=hx;obtain⟨b,ys,rfl,hq',hr'⟩:=hy;cases ru;cases rv;obtain⟨its,rx,p,_⟩:=I.tuple hq;obtain⟨its',ry,p',_⟩:=I.tuple hq';refine SeqAt.eq_tupleAt (e:=eAt ds ds') (show s.heap.IsTuple a its.toArray from p) (show s.heap.IsTuple b its'.toArray from p') (by omega) (λj h1 h2=>?_) ?_
   ·have z:=uu I ds ds' xs ys its its' X.A.in1 hr hr' rx ry (by show X.A.units+1+qj ds+qj ds'<cLine;omega) j (by simpa using h1) (by simpa using h2);simpa using z
   ·rw[ur (by rw[n9 hr,rx.length];simp) (by rw[n9 hr',ry.length];simp)];unfold eqD at q;exact oQ I q rfl
  |_=>exact nomatch hd
 |lst ds=>
  cases d' with
  |lst ds'=>
   have hd1:dpt (.lst ds)=qj ds+1:=by rw[dpt]
   have hd2:dpt (.lst ds')=qj ds'+1:=by rw[dpt]
   unfold Rep at hx hy;obtain⟨a,xs,rfl,hq,hr⟩:=hx;obtain⟨b,ys,rfl,hq',hr'⟩:=hy;cases ru;cases rv;obtain⟨its,rx,p,_⟩:=I.list hq;obtain⟨its',ry,p',_⟩:=I.list hq';by_cases hl:its.length=its'.length
   ·refine SeqAt.eq_listAt (e:=eAt ds ds') p.isList p'.isList (by simpa using hl) (by omega) (λj h1 h2=>?_) ?_
    ·have z:=uu I ds ds' xs ys its its' X.A.in1 hr hr' rx ry (by show X.A.units+1+qj ds+qj ds'<cLine;omega) j (by simpa using h1) (by simpa using h2);simpa using z
    ·rw[ve (by rw[n9 hr,rx.length];simp) (by rw[n9 hr',ry.length,<- hl];simp)];unfold eqD at q;exact oQ I q rfl
   ·refine iW p.isList p'.isList (by simpa using hl) (by omega) ?_;have e:uq ds ds'=false:=zh (by rw[n9 hr,n9 hr',rx.length,ry.length];exact hl);unfold eqD at q;rw[e]at q;exact oQ I q rfl
  |_=>exact nomatch hd
 |_=>exact nomatch hd
theorem MM(hu:X.A.units+64<cLine):OpR X (aI .NotEq) (Dw X.K true):=by
 intro pins s σ H x y u v Q I ru rv h;obtain⟨d,d',hx,hy,hd,h1,h2,q⟩:=h;cases d with
 |tup ds=>
  cases d' with
  |tup ds'=>
   have hd1:dpt (.tup ds)=qj ds+1:=by rw[dpt]
   have hd2:dpt (.tup ds')=qj ds'+1:=by rw[dpt]
   unfold Rep at hx hy;obtain⟨a,xs,rfl,hq,hr⟩:=hx;obtain⟨b,ys,rfl,hq',hr'⟩:=hy;cases ru;cases rv;obtain⟨its,rx,p,_⟩:=I.tuple hq;obtain⟨its',ry,p',_⟩:=I.tuple hq';have w:=mO (A:=X.A) (e:=eAt ds ds') (show s.heap.IsTuple a its.toArray from p) (show s.heap.IsTuple b its'.toArray from p') (by omega) (λj h1 h2=>by
    have z:=uu I ds ds' xs ys its its' X.A.in1 hr hr' rx ry (by show X.A.units+1+qj ds+qj ds'<cLine;omega) j (by simpa using h1) (by simpa using h2);simpa using z)
   rw[ur (by rw[n9 hr,rx.length];simp) (by rw[n9 hr',ry.length];simp)]at w;unfold eqD at q;exact w X.prog X.w X.xe _ (oQ I q rfl)
  |_=>exact nomatch hd
 |lst ds=>
  cases d' with
  |lst ds'=>
   have hd1:dpt (.lst ds)=qj ds+1:=by rw[dpt]
   have hd2:dpt (.lst ds')=qj ds'+1:=by rw[dpt]
   unfold Rep at hx hy;obtain⟨a,xs,rfl,hq,hr⟩:=hx;obtain⟨b,ys,rfl,hq',hr'⟩:=hy;cases ru;cases rv;obtain⟨its,rx,p,_⟩:=I.list hq;obtain⟨its',ry,p',_⟩:=I.list hq';by_cases hl:its.length=its'.length
   ·have w:=mT (A:=X.A) (e:=eAt ds ds') p.isList p'.isList (by simpa using hl) (by omega) (λj h1 h2=>by
     have z:=uu I ds ds' xs ys its its' X.A.in1 hr hr' rx ry (by show X.A.units+1+qj ds+qj ds'<cLine;omega) j (by simpa using h1) (by simpa using h2);simpa using z)
    rw[ve (by rw[n9 hr,rx.length];simp) (by rw[n9 hr',ry.length,<- hl];simp)]at w;unfold eqD at q;exact w X.prog X.w X.xe _ (oQ I q rfl)
   ·have e:uq ds ds'=false:=zh (by rw[n9 hr,n9 hr',rx.length,ry.length];exact hl);unfold eqD at q;rw[e]at q;exact lC p.isList p'.isList (by simpa using hl) (by omega) X.prog X.w X.xe _ (oQ I q rfl)
  |_=>exact nomatch hd
 |_=>exact nomatch hd
end
inductive StrsAre:List Expr->List V->Prop
 |nil:StrsAre [] []
 |cons {x:Str} {j:Nat} {pos:Pos} {es:List Expr} {vs:List V} (h:StrsAre es vs):StrsAre (.Constant (.str x) j pos::es) (.str x::vs)
theorem qC{n:Nat}(h:n<=1000):n<=av:=f6 (vS h)
theorem oh.new{p:Addr}{H H1:Hp}(x:oh H H1)(hp:H1 p=none)(o:HO):oh H (upd H1 p o):=λb u e=>by have z:=x b u e;rw[oo (pz z hp)];exact z
structure FC(K:W.Frag)(x qual:Str)(st:Stmt)(f:Addr)(fd:aW)(T:Addr):Prop where
 ex:∃(oc:aa) (od:Option Addr) (kV doc pm:aa) (an:Option Addr) (cdv ct:aa) (osl:Array (Option aa)),
  fd=W.fnOf x qual (qL st) (oN st) (ot st) (.ref T) kV doc pm an cdv ct/\K.lookup f=some ⟨oc,od,.func fd,osl⟩/\W.codeIn K cdv qual=true
 kp:W.keepIn K (.ref f)=true
variable{qual:Str}{fd:aW}{ps:List Str}
section
variable{P:aq}{w:aj}{K:W.Frag}{mg:Str->Option aa}{base:Heap}
theorem FC.ok{st:Stmt}{f T:Addr}{k:Nat}{sp:Sp}(F:FC K x qual st f fd T)(S:p7 N ps (ot st))(len:∀vs H Q E,sp vs H Q E->vs.length=ps.length)
  (hbody:∀(cdv:aa) (A:au) (outer:List Env) (s:ae) (H:Hp) (vs:List V) (Q:VK) (E:XK),pJ k (A.deeper (envOfC qual (ot st) s.heap.objs.size f cdv))->sp vs H Q E->
   ∃t,PSs (Bu CX0 P w K mg base N qual (ot st) f cdv A outer s H E).nox (oN st) t/\t { nx:=λ_ H'=>Q .non H',rt:=Q } (L2.start N vs) H):qx P w K mg base CX0 (k+1) f fd ps sp:=by
 obtain⟨oc,od,kV,doc,pm,an,cdv,ct,osl,rfl,lk,hcd⟩:=F.ex;refine AC lk hcd S len λA outer s H vs Q E hr hsp=>?_;obtain⟨t,h,q⟩:=hbody cdv A outer s H vs Q E hr hsp;exact⟨t,h.nox,q⟩
end
theorem FC.binds{K:W.Frag}{st:Stmt}{f T:Addr}{ds:List aa}{o:Obj}{items:Array aa}{n:Nat}(F:FC K x qual st f fd T)(ho:K.lookup T=some o)(hs:o.data=.seq items n)
  (h:∀(kV doc pm:aa) (an:Option Addr) (cdv ct:aa) (us:List aa),us.length=ps.length - ds.length->∃k,bindArgs (W.fnOf x qual (qL st) (oN st) (ot st) (.ref T) kV doc pm an cdv ct) ⟨us,[]⟩=seqItems? (.ref T)>>=k/\k (some items)=pure (ps.zip (us++ds))):Binds K fd ps ds:=by
 obtain⟨oc,od,kV,doc,pm,an,cdv,ct,osl,rfl,lk,hcd⟩:=F.ex;intro s us KX hl;obtain⟨k,h1,h2⟩:=h kV doc pm an cdv ct us (by rw[aE]at hl;omega);exact BindsTo.of_defaults (k:=k) rfl (KX _ _ ho) hs h1 h2
section
variable{X:Cx}
theorem Dy:OpR X (bO .Mult) (λx y H Q=>∃z n,x=.str z/\y=.int n/\MulOk z n/\Q (.str (iN z n)) H):=by intro pins s σ H x y v u Q I rx ry h;obtain⟨z,n,rfl,rfl,hm,q⟩:=h;obtain⟨t,rfl⟩:=rx;obtain⟨t',rfl⟩:=ry;exact SB.mul hm λt2 k=>⟨.str _,H,I.tok _,⟨t2,rfl⟩,q⟩
end
section
variable{X:Cx}(K:W.Frag)
theorem Cg(hl:PE X l tl)(hK:X.K=K:=by rfl):PI X tg l (Gq K tl):=by subst hK;exact Jt hl
theorem JP(hl:PE X l tl)(hK:X.K=K:=by rfl):PI X tg l (Mn K tl):=by subst hK;exact Mo hl
variable{o e:Expr}{es:List Expr}{to:TE}{t:TA}{name:Str}{apos cpos:Pos}{T id:String}{r:V->List V->Hp->VK->Prop}
theorem GY(pa:iG T)(slot:Slot T name id)(hty:typeOf (.builtin id)=pure (.type "method_descriptor"))(hm:MtR X id r)(ho:PE X o to)(ha:PA X (e::es) t)
  (hbase:c7 o name X.env (eval o X.env)=eval o X.env:=by rfl)
  (hfew:((aK cpos (ao (e::es) X.env)).all (λx=>!x.1)&&(backToKw cpos (cy [] X.env)).all (λx=>x.1.isSome)
   && decide ((e::es).length+([]:List dc).length+(if ([]:List dc).isEmpty then 0 else 1)<30))=true:=by rfl)
  (hline:(apos.endLine==cpos.line)=true:=by rfl) (hs:ao (e::es) X.env=(false,eval e X.env)::ao es X.env:=by rfl) (hplain:(aK cpos (ao es X.env)).any (·.1)=false:=by rfl) (hK:X.K=K:=by rfl):
  PE X (.Call (.Attribute o name apos) (e::es) [] cpos) (tBM K T r to t):=by subst hK;exact P4 pa slot hty hm ho ha hbase hfew hline hs hplain
end
end L3
namespace L2
open PySem PySem.Spec PyProof.Rows
section
variable{X:Cx}{pins:List (Addr×Obj)}{σ:St}{H:Hp}{s:ae}
theorem t9{H:Hp}{a c:Addr}{u v:HO}(e:H a=some u)(q:H c=some v)(d:u≠v)(n:HO):upd H a n c=some v:=by rw[oo (λz=>by subst z;rw[e]at q;exact d (bL q))];exact q
theorem Inv.freeze{a:Addr}{kvs:List (Key×V)}(I:Inv X pins σ H s)(e:H a=some (.dK kvs)):∃o,Inv X pins σ (upd H a (.frz o (.dK kvs))) s:=by
 obtain⟨z,y,vs,r,ob,es,ep,e1,c⟩:=(show ObjOk X.prog X.w H s.heap a (.dK kvs) from I.hok a _ e);refine⟨ob,?_⟩;have I':=I.step (H':=upd H a (.frz ob (.dK kvs))) (h':=s.heap) (g':=s.gens) (d':=s.drawn) (t':=s.toks) (ch:=[]) (λ_ z=>nomatch z) (λb o _ _ _ q _=>q) (λb o _ _ _ q _=>⟨o.slots,q⟩)
  (λb o _ _ n=>by rw[oo (λz=>by subst z;rw[e]at n;cases n)];exact n) (λb o _ q=>⟨o,q⟩) (λb xs q=>t9 e q (λz=>nomatch z) _) (λb o u q=>t9 e q (λz=>nomatch z) _)
  (λb ps q=>⟨#[],by rw[t9 e q (λz=>nomatch z) _];simp⟩) (λm q=>q) ?_ I.bare
 ·obtain⟨h,g,d,t,os⟩:=s;exact I'
 ·intro b u q;have st:∀{b:Addr} {u:HO},ObjOk X.prog X.w H s.heap b u->ObjOk X.prog X.w (upd H a (.frz ob (.dK kvs))) s.heap b u:=λ{b u} x=>x.stay (λ_ _ _ q=>q) (λc q=>t9 e q (λz=>nomatch z) _) λc xs q=>t9 e q (λz=>nomatch z) _
  by_cases hb:b=a
  ·subst hb;rw[oi]at q;cases q;exact⟨e1,st (I.hok b _ e)⟩
  ·rw[oo hb]at q;exact st (I.hok b u q)
theorem PE.ghost{e:Expr}{t:TE}(h:PE X e t):PE X e (λσ H Q=>t σ H λx H1=>Q x H1\/∃a kvs,H1 a=some (.dK kvs)/\∀o,Q x (upd H1 a (.frz o (.dK kvs)))):=λpins s σ H Q I hq=>
 thn (h pins s σ H _ I hq) λu s1 ⟨x,H1,I1,r1,q1⟩=>by
  rcases q1 with q|⟨a,kvs,e,q⟩
  ·exact⟨x,H1,I1,r1,q⟩
  ·obtain⟨o,I2⟩:=I1.freeze e;exact⟨x,_,I2,r1,q o⟩
end
end L2
namespace L4
open PySem PySem.Spec PyProof.Rows L2 L3
abbrev St:=L2.St
inductive D where
 |non|bl (b:Bool)|int (i:Int)|str (x:Str)
 |tup (ds:List D)|lst (ds:List D)
 |fzl (ds:List D)
 |obj (c:Nat) (ns:List Str) (ds:List D)
 |dic (ks:List Key) (ds:List D)
structure Bg where
 K:W.Frag
 ca:Nat->Addr
mutual
def Rep(G:Bg)(H:Hp):D->V->Prop
 |.non,v=>v=.non
 |.bl b,v=>v=.bl b
 |.int i,v=>v=.int i
 |.str x,v=>v=.str x
 |.tup ds,v=>∃a xs,v=.ref a/\SqT G.K H a xs/\n8 G H ds xs
 |.lst ds,v=>∃a xs,v=.ref a/\H a=some (.lst xs)/\n8 G H ds xs
 |.fzl ds,v=>∃a xs,v=.ref a/\SqL G.K H a xs/\n8 G H ds xs
 |.obj c ns ds,v=>∃a dx xs,v=.ref a/\H a=some (.ins (G.ca c) dx (ns.zip xs))/\ns.length=xs.length/\n8 G H ds xs
 |.dic ks ds,v=>∃a o xs,v=.ref a/\H a=some (.frz o (.dK (ks.zip xs)))/\ks.length=xs.length/\n8 G H ds xs
def n8(G:Bg)(H:Hp):List D->List V->Prop
 |[],xs=>xs=[]
 |d::ds,xs=>∃v r,xs=v::r/\Rep G H d v/\n8 G H ds r
end
variable{H':Hp}{xs:List V}
theorem SqT.mono{K:W.Frag}{H:Hp}{a:Addr}(e:oh H H')(h:SqT K H a xs):SqT K H' a xs:=by
 rcases h with (h|⟨o,h⟩)|h
 ·exact .inl (.inl (e _ _ h))
 ·exact .inl (.inr ⟨o,e _ _ h⟩)
 ·exact .inr h
mutual
theorem Rep.mono{G:Bg}{H H':Hp}(e:oh H H'):∀(d:D) (v:V),Rep G H d v->Rep G H' d v
 |.non,v,h=>by unfold Rep at h ⊢;exact h
 |.bl b,v,h=>by unfold Rep at h ⊢;exact h
 |.int i,v,h=>by unfold Rep at h ⊢;exact h
 |.str x,v,h=>by unfold Rep at h ⊢;exact h
 |.tup ds,v,h=>by unfold Rep at h ⊢;obtain⟨a,xs,rfl,h1,h2⟩:=h;exact⟨a,xs,rfl,SqT.mono e h1,n8.mono e ds xs h2⟩
 |.lst ds,v,h=>by unfold Rep at h ⊢;obtain⟨a,xs,rfl,h1,h2⟩:=h;exact⟨a,xs,rfl,e _ _ h1,n8.mono e ds xs h2⟩
 |.fzl ds,v,h=>by unfold Rep at h ⊢;obtain⟨a,xs,rfl,h1,h2⟩:=h;exact⟨a,xs,rfl,e.seq h1,n8.mono e ds xs h2⟩
 |.obj c ns ds,v,h=>by unfold Rep at h ⊢;obtain⟨a,dx,xs,rfl,h1,h2,h3⟩:=h;exact⟨a,dx,xs,rfl,e _ _ h1,h2,n8.mono e ds xs h3⟩
 |.dic ks ds,v,h=>by unfold Rep at h ⊢;obtain⟨a,o,xs,rfl,h1,h2,h3⟩:=h;exact⟨a,o,xs,rfl,e _ _ h1,h2,n8.mono e ds xs h3⟩
theorem n8.mono{G:Bg}{H H':Hp}(e:oh H H'):∀(ds:List D) (xs:List V),n8 G H ds xs->n8 G H' ds xs
 |[],xs,h=>by unfold n8 at h ⊢;exact h
 |d::ds,xs,h=>by unfold n8 at h ⊢;obtain⟨v,r,rfl,h1,h2⟩:=h;exact⟨v,r,rfl,Rep.mono e d v h1,n8.mono e ds r h2⟩
end
variable{ds:List D}
section
variable{G:Bg}{H:Hp}
theorem oO:n8 G H [] []:=by unfold n8;rfl
theorem oM{d:D}{v:V}(h:Rep G H d v)(r:n8 G H ds xs):n8 G H (d::ds) (v::xs):=by unfold n8;exact⟨v,xs,rfl,h,r⟩
theorem n9:∀{ds:List D} {xs:List V},n8 G H ds xs->ds.length=xs.length
 |[],xs,h=>by unfold n8 at h;subst h;rfl
 |d::ds,xs,h=>by unfold n8 at h;obtain⟨v,r,rfl,_,h2⟩:=h;rw[aB,aB,n9 h2]
theorem pU:∀{ds es:List D} {xs ys:List V},n8 G H ds xs->n8 G H es ys->n8 G H (ds++es) (xs++ys)
 |[],es,xs,ys,h,h'=>by unfold n8 at h;subst h;exact h'
 |d::ds,es,xs,ys,h,h'=>by unfold n8 at h;obtain⟨v,r,rfl,h1,h2⟩:=h;exact oM h1 (pU h2 h')
theorem rP:∀{ds:List D} {xs:List V} {i:Nat} {d:D},n8 G H ds xs->ds[i]?=some d->∃v,xs[i]?=some v/\Rep G H d v
 |[],xs,i,d,h,e=>by simp at e
 |d'::ds,xs,i,d,h,e=>by
  unfold n8 at h;obtain⟨v,r,rfl,h1,h2⟩:=h;cases i with
  |zero=>simp at e;subst e;exact⟨v,rfl,h1⟩
  |succ i=>simpa using rP (i:=i) (d:=d) h2 (by simpa using e)
theorem Ci:∀{ds:List D} {xs:List V} (i:Nat) {d:D} {v:V},n8 G H ds xs->Rep G H d v->n8 G H (ds.set i d) (xs.set i v)
 |[],xs,i,d,v,h,e=>by unfold n8 at h;subst h;exact oO
 |d'::ds,xs,i,d,v,h,e=>by
  unfold n8 at h;obtain⟨v',r,rfl,h1,h2⟩:=h;cases i with
  |zero=>exact oM e h2
  |succ i=>exact oM h1 (Ci i h2 e)
theorem AJ:∀{ds:List D} {xs:List V} (n:Nat),n8 G H ds xs->n8 G H (ds.drop n) (xs.drop n)
 |ds,xs,0,h=>h
 |[],xs,n+1,h=>by unfold n8 at h;subst h;exact oO
 |d::ds,xs,n+1,h=>by unfold n8 at h;obtain⟨v,r,rfl,h1,h2⟩:=h;exact AJ n h2
theorem AK:∀{ds:List D} {xs:List V} (n:Nat),n8 G H ds xs->n8 G H (ds.take n) (xs.take n)
 |ds,xs,0,h=>oO
 |[],xs,n+1,h=>by unfold n8 at h;subst h;exact oO
 |d::ds,xs,n+1,h=>by unfold n8 at h;obtain⟨v,r,rfl,h1,h2⟩:=h;exact oM h1 (AK n h2)
theorem yR{a:Addr}(h:SqT G.K H a xs)(r:n8 G H ds xs):Rep G H (.tup ds) (.ref a):=by unfold Rep;exact⟨a,xs,rfl,h,r⟩
theorem sU{a:Addr}(h:H a=some (.lst xs))(r:n8 G H ds xs):Rep G H (.lst ds) (.ref a):=by unfold Rep;exact⟨a,xs,rfl,h,r⟩
theorem p8(i:Int):Rep G H (.int i) (.int i):=by unfold Rep;rfl
theorem qh(i:Bool):Rep G H (.bl i) (.bl i):=by unfold Rep;rfl
theorem sV(i:Str):Rep G H (.str i) (.str i):=by unfold Rep;rfl
theorem sW:Rep G H .non .non:=by unfold Rep;rfl
end
inductive Sl where
 |un
 |im (d:D)
 |ls (ds:List D)
 |pm (ds:List D)
 |dk (ks:List Key) (ds:List D)
 |ob (c:Nat) (ns:List Str) (ds:List D)
def Sl.own:Sl->Bool
 |.ls _=>true
 |.pm _=>true
 |.dk _ _=>true
 |.ob _ _ _=>true
 |_=>false
structure Fr where
 B0:Hp
 B:Hp
 A:List Addr
def Ao(G:Bg)(F:Fr)(H0 H:Hp)(o:Option V):Sl->Prop
 |.un=>True
 |.im d=>∃v,o=some v/\Rep G H0 d v
 |.ls ds=>∃a xs,o=some (.ref a)/\H a=some (.lst xs)/\H0 a=none/\F.B a=none/\n8 G H0 ds xs
 |.pm ds=>∃a xs,o=some (.ref a)/\H a=some (.lst xs)/\H0 a=none/\a∈F.A/\n8 G H0 ds xs
 |.dk ks ds=>∃a xs,o=some (.ref a)/\H a=some (.dK (ks.zip xs))/\H0 a=none/\F.B a=none/\ks.length=xs.length/\n8 G H0 ds xs
 |.ob c ns ds=>∃a dx xs,o=some (.ref a)/\H a=some (.ins (G.ca c) dx (ns.zip xs))/\H0 a=none/\a∈F.A/\ns.length=xs.length/\n8 G H0 ds xs
structure RelE(G:Bg)(F:Fr)(σ:St)(ρ:List Sl)(H0 H:Hp):Prop where
 sub:oh H0 H
 g0:oh F.B0 H0
 keep:∀b o,F.B b=some o->b∉F.A->H b=some o
 fr:∀b o,H0 b=some o->F.B0 b=some o\/F.B b=none
 am:∀a∈F.A,∃o,H a=some o
 len:σ.length=ρ.length
 sl:∀(i:Nat) (s:Sl),ρ[i]?=some s->Ao G F H0 H (σ[i]?).join s
 ap:∀(i j:Nat) (s t:Sl) (a:Addr),i≠j->ρ[i]?=some s->ρ[j]?=some t->s.own=true->t.own=true->(σ[i]?).join=some (.ref a)->(σ[j]?).join=some (.ref a)->False
variable{G:Bg}{F:Fr}{H0:Hp}
theorem Ao.at{H:Hp}{o:Option V}{s:Sl}(h:Ao G F H0 H o s)(e:s.own=true):∃a u,o=some (.ref a)/\H a=some u/\H0 a=none/\(F.B a=none\/a∈F.A):=by
 cases s with
 |un=>cases e
 |im d=>cases e
 |ls ds=>obtain⟨a,xs,h1,h2,h3,h4,_⟩:=h;exact⟨a,_,h1,h2,h3,.inl h4⟩
 |pm ds=>obtain⟨a,xs,h1,h2,h3,h4,_⟩:=h;exact⟨a,_,h1,h2,h3,.inr h4⟩
 |dk ks ds=>obtain⟨a,xs,h1,h2,h3,h4,_⟩:=h;exact⟨a,_,h1,h2,h3,.inl h4⟩
 |ob c ns ds=>obtain⟨a,dx,xs,h1,h2,h3,h4,_⟩:=h;exact⟨a,_,h1,h2,h3,.inr h4⟩
variable{H0':Hp}
theorem Ao.grow{H:Hp}{o:Option V}{s:Sl}(h:Ao G F H0 H o s)(h0:oh H0 H0')(hk:∀a u,o=some (.ref a)->s.own=true->H a=some u->H' a=some u)
  (hn:∀a u,o=some (.ref a)->s.own=true->H a=some u->H0 a=none->H0' a=none):Ao G F H0' H' o s:=by
 cases s with
 |un=>trivial
 |im d=>obtain⟨v,h1,h2⟩:=h;exact⟨v,h1,Rep.mono h0 _ _ h2⟩
 |ls ds=>obtain⟨a,xs,h1,h2,h3,h4,h5⟩:=h;exact⟨a,xs,h1,hk _ _ h1 rfl h2,hn _ _ h1 rfl h2 h3,h4,n8.mono h0 _ _ h5⟩
 |pm ds=>obtain⟨a,xs,h1,h2,h3,h4,h5⟩:=h;exact⟨a,xs,h1,hk _ _ h1 rfl h2,hn _ _ h1 rfl h2 h3,h4,n8.mono h0 _ _ h5⟩
 |dk ks ds=>obtain⟨a,xs,h1,h2,h3,h4,h5,h6⟩:=h;exact⟨a,xs,h1,hk _ _ h1 rfl h2,hn _ _ h1 rfl h2 h3,h4,h5,n8.mono h0 _ _ h6⟩
 |ob c ns ds=>obtain⟨a,dx,xs,h1,h2,h3,h4,h5,h6⟩:=h;exact⟨a,dx,xs,h1,hk _ _ h1 rfl h2,hn _ _ h1 rfl h2 h3,h4,h5,n8.mono h0 _ _ h6⟩
section
variable{G:Bg}{F:Fr}{σ:St}{ρ:List Sl}{H0 H H0' H':Hp}
theorem RelE.bNone(R:RelE G F σ ρ H0 H){b:Addr}(h:H b=none):F.B b=none:=by
 cases e:F.B b with
 |none=>rfl
 |some o=>
  by_cases ha:b∈F.A
  ·obtain⟨xs,q⟩:=R.am b ha;rw[q]at h;cases h
  ·have q:=R.keep b o e ha;rw[q]at h;cases h
theorem RelE.grow(R:RelE G F σ ρ H0 H)(hs:oh H H')(h0:oh H0 H0')(sub':oh H0' H')(hf:∀b o,H0' b=some o->H0 b=some o\/H b=none):RelE G F σ ρ H0' H' where
 sub:=sub'
 g0:=R.g0.trans h0
 keep:=λb o e n=>hs _ _ (R.keep b o e n)
 fr:=λb o e=>by
  rcases hf b o e with q|q
  ·exact R.fr b o q
  ·exact .inr (R.bNone q)
 am:=λa ha=>let ⟨xs,q⟩:=R.am a ha;⟨xs,hs _ _ q⟩
 len:=R.len
 sl:=λi s e=>(R.sl i s e).grow h0 (λa u _ _ q=>hs _ _ q) λa u _ _ q q0=>by
  cases z:H0' a with
  |none=>rfl
  |some o=>
   rcases hf a o z with y|y
   ·rw[y]at q0;cases q0
   ·rw[y]at q;cases q
 ap:=R.ap
theorem oq{H:Hp}{p:Addr}(hp:H p=none)(o:HO):oh H (upd H p o):=oh.new (oh.refl H) hp o
theorem RelE.h0none(R:RelE G F σ ρ H0 H){p:Addr}(hp:H p=none):H0 p=none:=by
 cases e:H0 p with
 |none=>rfl
 |some o=>have:=R.sub _ _ e;rw[this]at hp;cases hp
theorem GZ{H0 H:Hp}(s:oh H0 H)(p:Addr)(o:HO):oh (upd H0 p o) (upd H p o):=λb u e=>by
 by_cases hb:b=p
 ·subst hb;rw[oi]at e ⊢;exact e
 ·rw[oo hb]at e ⊢;exact s _ _ e
theorem RelE.newIm(R:RelE G F σ ρ H0 H){p:Addr}(hp:H p=none)(o:HO):RelE G F σ ρ (upd H0 p o) (upd H p o):=
 R.grow (oq hp o) (oq (R.h0none hp) o) (GZ R.sub p o) λb u e=>by
  by_cases hb:b=p
  ·subst hb;exact .inr hp
  ·rw[oo hb]at e;exact .inl e
theorem RelE.newOwn(R:RelE G F σ ρ H0 H){p:Addr}(hp:H p=none)(o:HO):RelE G F σ ρ H0 (upd H p o):=
 R.grow (oq hp o) (oh.refl _) (λb u e=>by rw[oo (pz (R.sub _ _ e) hp)];exact R.sub _ _ e) λb u e=>.inl e
def Apart(σ:St)(ρ:List Sl)(p:Addr):Prop:=∀(i:Nat) (s:Sl),ρ[i]?=some s->s.own=true->(σ[i]?).join≠some (.ref p)
theorem RelE.apart(R:RelE G F σ ρ H0 H){p:Addr}(hp:H p=none):Apart σ ρ p:=λi s e so z=>by obtain⟨a,u,h1,h2,_⟩:=(R.sl i s e).at so;rw[z]at h1;cases h1;rw[hp]at h2;cases h2
theorem RelE.freeze(R:RelE G F σ ρ H0 H){p:Addr}{o:HO}(hp:H p=some o)(h0:H0 p=none)(hb:F.B p=none)(ap:Apart σ ρ p):RelE G F σ ρ (upd H0 p o) H where
 sub:=λb u e=>by
  by_cases hb:b=p
  ·subst hb;rw[oi]at e;cases e;exact hp
  ·rw[oo hb]at e;exact R.sub _ _ e
 g0:=R.g0.trans (oq h0 o)
 keep:=R.keep
 fr:=λb u e=>by
  by_cases hb':b=p
  ·subst hb';exact .inr hb
  ·rw[oo hb']at e;exact R.fr _ _ e
 am:=R.am
 len:=R.len
 sl:=λi s e=>(R.sl i s e).grow (oq h0 o) (λa u _ _ q=>q) λa u z so q q0=>by rw[oo (λy=>ap i s e so (by rw[z,y]))];exact q0
 ap:=R.ap
theorem Cj{σ:St}{i j:Nat}{v:Option V}(hi:i<σ.length):((σ.set i v)[j]?).join=if j=i then v else (σ[j]?).join:=by
 rw[bq];by_cases h:i=j
 ·subst h;simp[hi]
 ·rw[ah h,ah (λz=>h z.symm)]
theorem RelE.set(R:RelE G F σ ρ H0 H){i:Nat}{v:V}{s:Sl}(hs:Ao G F H0 H (some v) s)(ap:s.own=true->∀a,v=.ref a->∀(j:Nat) (t:Sl),j≠i->ρ[j]?=some t->t.own=true->(σ[j]?).join≠some (.ref a)):
  RelE G F (σ.set i (some v)) (ρ.set i s) H0 H where
 sub:=R.sub
 g0:=R.g0
 keep:=R.keep
 fr:=R.fr
 am:=R.am
 len:=by rw[bZ,bZ,R.len]
 sl:=λj t e=>by
  rw[bq]at e;by_cases h:i=j
  ·subst h;rw[ag rfl]at e;split at e
   ·rename_i hi;cases e;rw[Cj (by rw[R.len];exact hi),ag rfl];exact hs
   ·cases e
  ·rw[ah h]at e;have hh:=R.sl j t e;rw[bq,ah h];exact hh
 ap:=λj k t u a hjk ej ek tj tk vj vk=>by
  have gen:∀{m:Nat} {x:Sl},(ρ.set i s)[m]?=some x->m≠i->ρ[m]?=some x/\((σ.set i (some v))[m]?).join=(σ[m]?).join:=λ{m x} e hm=>by rw[bq,ah (λz=>hm z.symm)]at e;exact⟨e,by rw[bq,ah (λz=>hm z.symm)]⟩
  have self:∀{x:Sl},(ρ.set i s)[i]?=some x->x=s/\((σ.set i (some v))[i]?).join=some v:=λ{x} e=>by
   rw[bq,ag rfl]at e;split at e
   ·rename_i hi;cases e;exact⟨rfl,by rw[Cj (by rw[R.len];exact hi),ag rfl]⟩
   ·cases e
  by_cases hj:j=i
  ·subst hj;obtain⟨rfl,ev⟩:=self ej;rw[ev]at vj;cases vj;obtain⟨e2,e3⟩:=gen ek (λz=>hjk z.symm);rw[e3]at vk;exact ap tj a rfl k u (λz=>hjk z.symm) e2 tk vk
  ·obtain⟨e2,e3⟩:=gen ej hj;by_cases hk:k=i
   ·subst hk;obtain⟨rfl,ev⟩:=self ek;rw[ev]at vk;cases vk;rw[e3]at vj;exact ap tk a rfl j t hj e2 tj vj
   ·obtain⟨e4,e5⟩:=gen ek hk;rw[e3]at vj;rw[e5]at vk;exact R.ap j k t u a hjk e2 e4 tj tk vj vk
theorem RelE.setIm(R:RelE G F σ ρ H0 H)(i:Nat){v:V}{d:D}(h:Rep G H0 d v):RelE G F (σ.set i (some v)) (ρ.set i (.im d)) H0 H:=R.set ⟨v,rfl,h⟩ λz=>by cases z
theorem RelE.setLs(R:RelE G F σ ρ H0 H)(i:Nat){p:Addr}(hp:H p=some (.lst xs))(h0:H0 p=none)(hb:F.B p=none)(ap:Apart σ ρ p)(h:n8 G H0 ds xs):RelE G F (σ.set i (some (.ref p))) (ρ.set i (.ls ds)) H0 H:=
 R.set ⟨p,xs,rfl,hp,h0,hb,h⟩ λ_ a e j t _ ej tj=>by cases e;exact ap j t ej tj
theorem RelE.mut(R:RelE G F σ ρ H0 H){i:Nat}{a:Addr}{s s':Sl}{o:HO}(hi:ρ[i]?=some s)(so:s.own=true)(ha:(σ[i]?).join=some (.ref a))(ok:∀H',H' a=some o->Ao G F H0 H' (some (.ref a)) s')
  (so':s'.own=true):RelE G F σ (ρ.set i s') H0 (upd H a o):=by
 obtain⟨a',u,e1,e2,e3,e4⟩:=(R.sl i s hi).at so;rw[ha]at e1;cases e1;exact {
  sub:=λb w e=>by rw[oo (λz=>by rw[z,e3]at e;cases e)];exact R.sub _ _ e
  g0:=R.g0
  keep:=λb w e n=>by
   have nb:b≠a:=λz=>by
    subst z;rcases e4 with q|q
    ·rw[q]at e;cases e
    ·exact n q
   rw[oo nb];exact R.keep b w e n
  fr:=R.fr
  am:=λb hb=>by
   by_cases z:b=a
   ·subst z;exact⟨o,oi⟩
   ·rw[oo z];exact R.am b hb
  len:=by rw[bZ];exact R.len
  sl:=λj t e=>by
   rw[bq]at e;by_cases h:i=j
   ·subst h;rw[ag rfl]at e;split at e
    ·cases e;rw[ha];exact ok _ oi
    ·cases e
   ·rw[ah h]at e;refine(R.sl j t e).grow (oh.refl _) (λb w z to q=>?_) λb w _ _ _ q=>q;rw[oo (λy=>by subst y;exact R.ap j i t s b (λy=>h y.symm) e hi to so z ha)];exact q
  ap:=λj k t u b hjk ej ek tj tk vj vk=>by
   have gen:∀{m:Nat} {x:Sl},(ρ.set i s')[m]?=some x->∃y,ρ[m]?=some y/\(x.own=true->y.own=true):=λ{m x} e=>by
    rw[bq]at e;by_cases h:i=m
    ·subst h;exact⟨s,hi,λ_=>so⟩
    ·rw[ah h]at e;exact⟨x,e,λq=>q⟩
   obtain⟨y,ey,oy⟩:=gen ej;obtain⟨z,ez,oz⟩:=gen ek;exact R.ap j k y z b hjk ey ez (oy tj) (oz tk) vj vk }
end
abbrev FE:=List Sl->Option (D×List Sl)
abbrev FT:=List Sl->Option (Bool×List Sl)
abbrev FA:=List Sl->Option (List D×List Sl)
def tF(G:Bg)(f:FE):TE:=λσ H Q=>∃F ρ H0 d ρ',RelE G F σ ρ H0 H/\f ρ=some (d,ρ')/\∀v H0' H',oh H0 H0'->RelE G F σ ρ' H0' H'->Rep G H0' d v->Q v H'
def tFT(G:Bg)(f:FT):TT:=λσ H Q=>∃F ρ H0 d ρ',RelE G F σ ρ H0 H/\f ρ=some (d,ρ')/\∀H0' H',oh H0 H0'->RelE G F σ ρ' H0' H'->Q d H'
def tFA(G:Bg)(f:FA):TA:=λσ H Q=>∃F ρ H0 ds ρ',RelE G F σ ρ H0 H/\f ρ=some (ds,ρ')/\∀xs H0' H',oh H0 H0'->RelE G F σ ρ' H0' H'->n8 G H0' ds xs->Q xs H'
def tFN(G:Bg)(f:FA):TE:=λσ H Q=>∃F ρ H0 ds ρ',RelE G F σ ρ H0 H/\f ρ=some (ds,ρ')/\∀p xs H0' H',oh H0 H0'->RelE G F σ ρ' H0' H'->H' p=some (.lst xs)->H0' p=none->F.B p=none->Apart σ ρ' p->n8 G H0' ds xs->Q (.ref p) H'
variable{X:Cx}
theorem PE.weak{e:Expr}{t t':TE}(h:PE X e t)(w:∀σ H Q,t' σ H Q->t σ H Q):PE X e t':=λpins s σ H Q I hq=>h pins s σ H Q I (w _ _ _ hq)
theorem PT.weak{e:Expr}{t t':TT}(h:PT X e t)(w:∀σ H Q,t' σ H Q->t σ H Q):PT X e t':=λpins s σ H Q I hq=>h pins s σ H Q I (w _ _ _ hq)
theorem PW.weak{e:Expr}{t t':TT}(h:PW X e t)(w:∀σ H Q,t' σ H Q->t σ H Q):PW X e t':=λwh pins s σ H Q I hq=>h wh pins s σ H Q I (w _ _ _ hq)
theorem PA.weak{e:List Expr}{t t':TA}(h:PA X e t)(w:∀σ H Q,t' σ H Q->t σ H Q):PA X e t':=λpos pins s σ H Q I hq=>h pos pins s σ H Q I (w _ _ _ hq)
noncomputable def cC(d:D):FE:=λρ=>some (d,ρ)
noncomputable def cV(i:Nat):FE:=λρ=>match ρ[i]? with
 |some (.im d)=>some (d,ρ)
 |_=>none
noncomputable def c1(g:D->Option D) (f:FE):FE:=λρ=>match f ρ with
 |some (d,ρ')=>match g d with
  |some x=>some (x,ρ')
  |none=>none
 |none=>none
noncomputable def c2(g:D->D->Option D) (f f':FE):FE:=λρ=>match f ρ with
 |some (x,ρ1)=>match f' ρ1 with
  |some (y,ρ2)=>match g x y with
   |some z=>some (z,ρ2)
   |none=>none
  |none=>none
 |none=>none
variable{ρ ρ':List Sl}{z:D}
theorem wW{g:D->Option D}{f:FE}(h:c1 g f ρ=some (z,ρ')):∃d,f ρ=some (d,ρ')/\g d=some z:=by
 unfold c1 at h;cases e:f ρ with
 |none=>rw[e]at h;cases h
 |some p=>
  obtain⟨d,ρ1⟩:=p;rw[e]at h;cases e2:g d with
  |none=>simp only[e2]at h;cases h
  |some x=>simp only[e2]at h;cases h;exact⟨d,rfl,e2⟩
variable{f':FE}
theorem wX{g:D->D->Option D}{f:FE}(h:c2 g f f' ρ=some (z,ρ')):∃x y ρ1,f ρ=some (x,ρ1)/\f' ρ1=some (y,ρ')/\g x y=some z:=by
 unfold c2 at h;cases e:f ρ with
 |none=>rw[e]at h;cases h
 |some p=>
  obtain⟨x,ρ1⟩:=p;simp only[e]at h;cases e2:f' ρ1 with
  |none=>simp only[e2]at h;cases h
  |some q=>
   obtain⟨y,ρ2⟩:=q;simp only[e2]at h;cases e3:g x y with
   |none=>simp only[e3]at h;cases h
   |some w=>simp only[e3]at h;cases h;exact⟨x,y,ρ1,rfl,e2,e3⟩
variable{pos:Pos}{op:dQ}
section
variable{X:Cx}{G:Bg}
theorem MN{i j pos}:PE X (.Constant (.int i) j pos) (tF G (cC (.int i))):=PE.weak Dc λσ H Q h=>by obtain⟨F,ρ,H0,d,ρ',R,e,k⟩:=h;cases e;exact k _ _ _ (oh.refl _) R (p8 i)
theorem P9{i j pos}:PE X (.Constant (.bool i) j pos) (tF G (cC (.bl i))):=PE.weak Pt λσ H Q h=>by obtain⟨F,ρ,H0,d,ρ',R,e,k⟩:=h;cases e;exact k _ _ _ (oh.refl _) R (qh i)
theorem MO{i j pos}:PE X (.Constant (.str i) j pos) (tF G (cC (.str i))):=PE.weak Mb λσ H Q h=>by obtain⟨F,ρ,H0,d,ρ',R,e,k⟩:=h;cases e;exact k _ _ _ (oh.refl _) R (sV i)
theorem MP{j pos}:PE X (.Constant .none j pos) (tF G (cC .non)):=PE.weak Ma λσ H Q h=>by obtain⟨F,ρ,H0,d,ρ',R,e,k⟩:=h;cases e;exact k _ _ _ (oh.refl _) R sW
theorem JQ{i:Nat}{d:D}(h:cV i ρ=some (d,ρ')):ρ[i]?=some (.im d)/\ρ'=ρ:=by
 unfold cV at h;split at h
 ·rename_i e;cases h;exact⟨e,rfl⟩
 ·cases h
theorem qN{α:Type}{o:Option (Option α)}{v:α}(h:o.join=some v):o=some (some v):=by
 cases o with
 |none=>cases h
 |some u=>cases u with
  |none=>cases h
  |some w=>cases h;rfl
theorem DA{e:Expr}{i:Nat}(h:PE X e (um i)):PE X e (tF G (cV i)):=PE.weak h λσ H Q hh=>by obtain⟨F,ρ,H0,d,ρ',R,e,k⟩:=hh;obtain⟨e1,rfl⟩:=JQ e;obtain⟨v,e2,e3⟩:=R.sl i _ e1;exact⟨v,qN e2,k _ _ _ (oh.refl _) R e3⟩
theorem JR{e:Expr}{v:V}{d:D}(h:PE X e (tC v))(r:∀H,Rep G H d v):PE X e (tF G (cC d)):=PE.weak h λσ H Q hh=>by obtain⟨F,ρ,H0,d',ρ',R,e,k⟩:=hh;cases e;exact k _ _ _ (oh.refl _) R (r _)
def OpD(G:Bg)(r:R2)(g:D->D->Option D):Prop:=∀x y z H0 H v u (Q:VK),g x y=some z->oh H0 H->Rep G H0 x v->Rep G H0 y u->(∀w,(∀H0',oh H0 H0'->Rep G H0' z w)->Q w H)->r v u H Q
theorem Ek{r:R2}{g:D->D->Option D}{f:FE}(ho:OpD G r g):∀σ H Q,tF G (c2 g f f') σ H Q->tOp r (tF G f) (tF G f') σ H Q:=λσ H Q hh=>by obtain⟨F,ρ,H0,d,ρ',R,e,k⟩:=hh;obtain⟨x,y,ρ1,e1,e2,e3⟩:=wX e;refine⟨F,ρ,H0,x,ρ1,R,e1,λv H1 H1' s1 R1 r1=>⟨F,ρ1,H1,y,ρ',R1,e2,λu H2 H2' s2 R2 r2=>?_⟩⟩;exact ho x y d H2 H2' v u Q e3 R2.sub (Rep.mono s2 _ _ r1) r2 λw hw=>k w H2 H2' (s1.trans s2) R2 (hw _ (oh.refl _))
theorem Qa{a b:Expr}{op:gp}{r:R2}{g:D->D->Option D}{f:FE}(hr:OpR X (bO op) r)(ho:OpD G r g)(ha:PE X a (tF G f))(hb:PE X b (tF G f')):PE X (.BinOp a op b pos) (tF G (c2 g f f')):=PE.weak (D7 hr ha hb) (Ek ho)
theorem MQ{a b:Expr}{r:R2}{g:D->D->Option D}{f:FE}(hr:OpR X (aI op) r)(ho:OpD G r g)(ha:PE X a (tF G f))(hb:PE X b (tF G f'))(hm:dH op b=false):PE X (.Compare a [op] [b] pos) (tF G (c2 g f f')):=PE.weak (Jy hr ha hb hm) (Ek ho)
theorem Qb{a b:Expr}{r:R2}{g:D->D->Option D}{f:FE}(hr:IxR X r)(ho:OpD G r g)(ha:PE X a (tF G f))(hb:PE X b (tF G f'))(hs:Eg b):PE X (.Subscript a b pos) (tF G (c2 g f f')):=PE.weak (P0 hr ha hb hs) (Ek ho)
def cT(f:FE):FT:=λρ=>match f ρ with
 |some (.bl b,ρ')=>some (b,ρ')
 |_=>none
theorem El{f:FE}{b:Bool}(h:cT f ρ=some (b,ρ')):f ρ=some (.bl b,ρ'):=by
 unfold cT at h;split at h
 ·rename_i e;cases h;exact e
 ·cases h
theorem Em{f:FE}:∀σ H Q,tFT G (cT f) σ H Q->Gw (tF G f) σ H Q:=λσ H Q hh=>by obtain⟨F,ρ,H0,d,ρ',R,e,k⟩:=hh;refine⟨F,ρ,H0,_,ρ',R,El e,λv H0' H' s R' r=>?_⟩;unfold Rep at r;exact⟨d,r,k _ _ s R'⟩
theorem JS{a b:Expr}{r:R2}{g:D->D->Option D}{f:FE}(hr:OpR X (aI op) r)(ho:OpD G r g)(ha:PE X a (tF G f))(hb:PE X b (tF G f'))(hm:dH op b=false):
  PT X (.Compare a [op] [b] pos) (tFT G (cT (c2 g f f'))):=PT.weak (Jz hr ha hb hm) λσ H Q hh=>by
 obtain⟨F,ρ,H0,d,ρ',R,e,k⟩:=Em σ H Q hh;exact Ek ho σ H _ ⟨F,ρ,H0,d,ρ',R,e,k⟩
theorem JT{e:Expr}{f:FE}(h:PE X e (tF G f))(he:∀whole,isTrue e X.env whole=(do let v<-whole;standAt e.pos;holding [v] (truthy v)):=by intro _;rfl):PT X e (tFT G (cT f)):=PT.weak (Mc h he) λσ H Q hh=>by obtain⟨F,ρ,H0,d,ρ',R,e,k⟩:=hh;refine⟨F,ρ,H0,_,ρ',R,El e,λv H0' H' s R' r=>?_⟩;unfold Rep at r;exact⟨d,r,k _ _ s R'⟩
def pC(f:FT):FT:=λρ=>match f ρ with
 |some (b,ρ')=>some (!b,ρ')
 |none=>none
def rk(f g:FT):FT:=λρ=>match f ρ with
 |some (false,ρ')=>g ρ'
 |r=>r
theorem JU{a:Expr}{f:FT}(h:PT X a (tFT G f)):PT X (.UnaryOp .Not a pos) (tFT G (pC f)):=PT.weak (Me h) λσ H Q hh=>by
 obtain⟨F,ρ,H0,d,ρ',R,e,k⟩:=hh;unfold pC at e;cases e1:f ρ with
 |none=>simp only[e1]at e;cases e
 |some p=>obtain⟨b,ρ1⟩:=p;simp only[e1]at e;cases e;exact⟨F,ρ,H0,b,_,R,e1,λH0' H' s R'=>k _ _ s R'⟩
theorem Qc{f g:FT}:∀σ H Q,tFT G (rk f g) σ H Q->tOr (tFT G f) (tFT G g) σ H Q:=λσ H Q hh=>by
 obtain⟨F,ρ,H0,d,ρ',R,e,k⟩:=hh;unfold rk at e;cases e1:f ρ with
 |none=>simp only[e1]at e;cases e
 |some p=>
  obtain⟨b,ρ1⟩:=p;cases b with
  |false=>simp only[e1]at e;exact⟨F,ρ,H0,false,ρ1,R,e1,λH0' H' s R'=>Cb ⟨F,ρ1,H0',d,ρ',R',e,λH2 H2' s2 R2=>k _ _ (s.trans s2) R2⟩⟩
  |true=>simp only[e1]at e;cases e;exact⟨F,ρ,H0,true,_,R,e1,λH0' H' s R'=>Cd (k _ _ s R')⟩
theorem JV{a:Expr}{f:FT}(h:PT X a (tFT G f)):PW X (.BoolOp .Or [a] pos) (tFT G f):=Md h
theorem G0{a b:Expr}{rest:List Expr}{f g:FT}(ha:PT X a (tFT G f))(hb:PW X (.BoolOp .Or (b::rest) pos) (tFT G g)):PW X (.BoolOp .Or (a::b::rest) pos) (tFT G (rk f g)):=PW.weak (Pu ha hb) Qc
def pj(f g:FE):FE:=λρ=>match f ρ with
 |some (.bl true,ρ')=>g ρ'
 |some (.bl false,ρ')=>some (.bl false,ρ')
 |_=>none
def cOr(f g:FE):FE:=λρ=>match f ρ with
 |some (.bl false,ρ')=>g ρ'
 |some (.bl true,ρ')=>some (.bl true,ρ')
 |_=>none
def zj(f:FE):FE:=λρ=>match f ρ with
 |some (.bl b,ρ')=>some (.bl !b,ρ')
 |_=>none
def cIf(c:FT)(f g:FE):FE:=λρ=>match c ρ with
 |some (true,ρ')=>f ρ'
 |some (false,ρ')=>g ρ'
 |none=>none
theorem MR{a:Expr}{op}{f:FE}(h:PE X a (tF G f)):PE X (.BoolOp op [a] pos) (tF G f):=Mg h
theorem Ck{f:FE}:(∃ρ1,f ρ=some (.bl true,ρ1))\/(∃ρ1,f ρ=some (.bl false,ρ1))\/(∀b ρ1,f ρ≠some (.bl b,ρ1)):=by
 by_cases h1:∃ρ1,f ρ=some (.bl true,ρ1)
 ·exact .inl h1
 by_cases h2:∃ρ1,f ρ=some (.bl false,ρ1)
 ·exact .inr (.inl h2)
 refine .inr (.inr λb ρ1 z=>?_);cases b with
 |true=>exact h1 ⟨ρ1,z⟩
 |false=>exact h2 ⟨ρ1,z⟩
theorem FD{f g:FE}(h:∀b ρ1,f ρ≠some (.bl b,ρ1)):pj f g ρ=none:=by
 unfold pj;split
 ·rename_i e;exact ak e (h _ _)
 ·rename_i e;exact ak e (h _ _)
 ·rfl
theorem G1{f g:FE}(h:∀b ρ1,f ρ≠some (.bl b,ρ1)):cOr f g ρ=none:=by
 unfold cOr;split
 ·rename_i e;exact ak e (h _ _)
 ·rename_i e;exact ak e (h _ _)
 ·rfl
theorem MS{a b:Expr}{rest:List Expr}{f g:FE}(ha:PE X a (tF G f))(hb:PE X (.BoolOp .And (b::rest) pos) (tF G g)):PE X (.BoolOp .And (a::b::rest) pos) (tF G (pj f g)):=PE.weak (Mh ha hb) λσ H Q hh=>by
 obtain⟨F,ρ,H0,d,ρ',R,e,k⟩:=hh;rcases Ck (f:=f) (ρ:=ρ)with ⟨ρ1,e1⟩|⟨ρ1,e1⟩|e1
 ·have e':g ρ1=some (d,ρ'):=by unfold pj at e;simp only[e1]at e;exact e
  refine⟨F,ρ,H0,_,ρ1,R,e1,λv H1 H1' s R' r=>?_⟩;unfold Rep at r;refine⟨true,r,?_⟩;exact Cd ⟨F,ρ1,H1,d,ρ',R',e',λv H2 H2' s2 R2 r2=>k _ _ _ (s.trans s2) R2 r2⟩
 ·have e':some (D.bl false,ρ1)=some (d,ρ'):=by unfold pj at e;simp only[e1]at e;exact e
  cases e';refine⟨F,ρ,H0,_,_,R,e1,λv H1 H1' s R' r=>?_⟩;have r':=r;unfold Rep at r';refine⟨false,r',?_⟩;exact Cb (k _ _ _ s R' (qh false))
 ·rw[FD e1]at e;cases e
theorem Qd{a b:Expr}{rest:List Expr}{f g:FE}(ha:PE X a (tF G f))(hb:PE X (.BoolOp .Or (b::rest) pos) (tF G g)):PE X (.BoolOp .Or (a::b::rest) pos) (tF G (cOr f g)):=PE.weak (Py ha hb) λσ H Q hh=>by
 obtain⟨F,ρ,H0,d,ρ',R,e,k⟩:=hh;rcases Ck (f:=f) (ρ:=ρ)with ⟨ρ1,e1⟩|⟨ρ1,e1⟩|e1
 ·have e':some (D.bl true,ρ1)=some (d,ρ'):=by unfold cOr at e;simp only[e1]at e;exact e
  cases e';refine⟨F,ρ,H0,_,_,R,e1,λv H1 H1' s R' r=>?_⟩;unfold Rep at r;refine⟨true,r,?_⟩;exact Cd (k _ _ _ s R' (qh true))
 ·have e':g ρ1=some (d,ρ'):=by unfold cOr at e;simp only[e1]at e;exact e
  refine⟨F,ρ,H0,_,ρ1,R,e1,λv H1 H1' s R' r=>?_⟩;unfold Rep at r;refine⟨false,r,?_⟩;exact Cb ⟨F,ρ1,H1,d,ρ',R',e',λv H2 H2' s2 R2 r2=>k _ _ _ (s.trans s2) R2 r2⟩
 ·rw[G1 e1]at e;cases e
theorem MU{a:Expr}{f:FE}(ha:PE X a (tF G f)):PE X (.UnaryOp .Not a pos) (tF G (zj f)):=PE.weak (Dd ha) λσ H Q hh=>by
 obtain⟨F,ρ,H0,d,ρ',R,e,k⟩:=hh;unfold zj at e;split at e
 ·rename_i b ρ1 e1;cases e;refine⟨F,ρ,H0,_,_,R,e1,λv H1 H1' s R' r=>?_⟩;unfold Rep at r;exact⟨b,r,k _ _ _ s R' (qh _)⟩
 ·cases e
theorem Qe{c a b:Expr}{h:FT}{f g:FE}(hc:PT X c (tFT G h))(ha:PE X a (tF G f))(hb:PE X b (tF G g)):PE X (.IfExp c a b pos) (tF G (cIf h f g)):=PE.weak (Gj hc ha hb) λσ H Q hh=>by
 obtain⟨F,ρ,H0,d,ρ',R,e,k⟩:=hh;unfold cIf at e;cases e1:h ρ with
 |none=>simp only[e1]at e;cases e
 |some p=>
  obtain⟨b,ρ1⟩:=p;refine⟨F,ρ,H0,b,ρ1,R,e1,λH1 H1' s R'=>?_⟩;cases b with
  |true=>simp only[e1]at e;exact Cd ⟨F,ρ1,H1,d,ρ',R',e,λv H2 H2' s2 R2 r2=>k _ _ _ (s.trans s2) R2 r2⟩
  |false=>simp only[e1]at e;exact Cb ⟨F,ρ1,H1,d,ρ',R',e,λv H2 H2' s2 R2 r2=>k _ _ _ (s.trans s2) R2 r2⟩
noncomputable def o6:FA:=λρ=>some ([],ρ)
noncomputable def aCons(f:FE) (g:FA):FA:=λρ=>match f ρ with
 |some (d,ρ1)=>match g ρ1 with
  |some (ds,ρ2)=>some (d::ds,ρ2)
  |none=>none
 |none=>none
theorem DB{f:FE}{g:FA}(h:aCons f g ρ=some (ds,ρ')):∃d r ρ1,f ρ=some (d,ρ1)/\g ρ1=some (r,ρ')/\ds=d::r:=by
 unfold aCons at h;cases e:f ρ with
 |none=>rw[e]at h;cases h
 |some p=>
  obtain⟨x,ρ1⟩:=p;simp only[e]at h;cases e2:g ρ1 with
  |none=>simp only[e2]at h;cases h
  |some q=>obtain⟨y,ρ2⟩:=q;simp only[e2]at h;cases h;exact⟨x,y,ρ1,rfl,e2,rfl⟩
theorem sg:PA X [] (tFA G o6):=PA.weak qK λσ H Q hh=>by obtain⟨F,ρ,H0,d,ρ',R,e,k⟩:=hh;cases e;exact k _ _ _ (oh.refl _) R oO
theorem qk{e:Expr}{es:List Expr}{f:FE}{g:FA}(ha:PE X e (tF G f))(hr:PA X es (tFA G g))(hs:ao (e::es) X.env=(false,eval e X.env)::ao es X.env:=by rfl):PA X (e::es) (tFA G (aCons f g)):=PA.weak (o5 ha hr hs) λσ H Q hh=>by obtain⟨F,ρ,H0,d,ρ',R,e,k⟩:=hh;obtain⟨x,r,ρ1,e1,e2,rfl⟩:=DB e;exact⟨F,ρ,H0,x,ρ1,R,e1,λv H1 H1' s R' rv=>⟨F,ρ1,H1,r,ρ',R',e2,λxs H2 H2' s2 R2 rs=>k _ _ _ (s.trans s2) R2 (oM (Rep.mono s2 _ _ rv) rs)⟩⟩
def qZ(g:FA):FE:=λρ=>match g ρ with
 |some (ds,ρ')=>if ds.length<=1000 then some (.tup ds,ρ')else none
 |none=>none
def oI(g:FA):FA:=λρ=>match g ρ with
 |some (ds,ρ')=>if ds.length<=1000 then some (ds,ρ')else none
 |none=>none
theorem MV{es:List Expr}{x1}{g:FA}(h:PA X es (tFA G g)):PE X (.Tuple es x1 pos) (tF G (qZ g)):=PE.weak (GB h) λσ H Q hh=>by
 obtain⟨F,ρ,H0,d,ρ',R,e,k⟩:=hh;unfold qZ at e;cases e1:g ρ with
 |none=>simp only[e1]at e;cases e
 |some p=>
  obtain⟨ds,ρ1⟩:=p;simp only[e1]at e;split at e
  ·rename_i hl;cases e;refine⟨F,ρ,H0,_,_,R,e1,λxs H1 H1' s R' rs=>⟨by rw[<-n9 rs];exact qC hl,λp hp=>?_⟩⟩;exact k _ _ _ (s.trans (oq (R'.h0none hp) _)) (R'.newIm hp _) (yR (SqT.of oi) (n8.mono (oq (R'.h0none hp) _) _ _ rs))
  ·cases e
theorem JW{es:List Expr}{g:FA}(h:PA X es (tFA G g)):PE X (.List es pos) (tFN G (oI g)):=PE.weak (Bs h) λσ H Q hh=>by
 obtain⟨F,ρ,H0,d,ρ',R,e,k⟩:=hh;unfold oI at e;cases e1:g ρ with
 |none=>simp only[e1]at e;cases e
 |some p=>
  obtain⟨ds,ρ1⟩:=p;simp only[e1]at e;split at e
  ·rename_i hl;cases e;refine⟨F,ρ,H0,_,_,R,e1,λxs H1 H1' s R' rs=>⟨by rw[<-n9 rs];exact qC hl,λp hp=>?_⟩⟩;exact k _ _ _ _ s (R'.newOwn hp _) oi (R'.h0none hp) (R'.bNone hp) (R'.apart hp) rs
  ·cases e
def cL(g:FA):FE:=λρ=>match g ρ with
 |some (ds,ρ')=>some (.lst ds,ρ')
 |none=>none
theorem JX{g:FA}{d:D}(h:cL g ρ=some (d,ρ')):∃ds,g ρ=some (ds,ρ')/\d=.lst ds:=by
 unfold cL at h;cases e:g ρ with
 |none=>simp only[e]at h;cases h
 |some p=>obtain⟨ds,ρ1⟩:=p;simp only[e]at h;cases h;exact⟨ds,rfl,rfl⟩
theorem Qf{g:FA}:∀σ H Q,tF G (cL g) σ H Q->tFN G g σ H Q:=λσ H Q hh=>by obtain⟨F,ρ,H0,d,ρ',R,e,k⟩:=hh;obtain⟨ds,e1,rfl⟩:=JX e;refine⟨F,ρ,H0,ds,ρ',R,e1,λp xs H1 H1' s R' hp h0 hb ap rs=>?_⟩;exact k _ _ _ (s.trans (oq h0 _)) (R'.freeze hp h0 hb ap) (sU oi (n8.mono (oq h0 _) _ _ rs))
theorem MW{e:Expr}{g:FA}(h:PE X e (tFN G g)):PE X e (tF G (cL g)):=PE.weak h Qf
end
inductive Out where
 |nx (ρ:List Sl)|bk (ρ:List Sl)|ct (ρ:List Sl)
 |rt (d:D) (ρ:List Sl)
 |rn (ds:List D) (ρ:List Sl)
abbrev FS:=List Sl->Option Out
def En(G:Bg)(F:Fr)(H0:Hp)(E:Ends):Out->Prop
 |.nx ρ'=>∀σ' H0' H',oh H0 H0'->RelE G F σ' ρ' H0' H'->E.nx σ' H'
 |.bk ρ'=>∀σ' H0' H',oh H0 H0'->RelE G F σ' ρ' H0' H'->E.bk σ' H'
 |.ct ρ'=>∀σ' H0' H',oh H0 H0'->RelE G F σ' ρ' H0' H'->E.ct σ' H'
 |.rt d ρ'=>∀v σ' H0' H',oh H0 H0'->RelE G F σ' ρ' H0' H'->Rep G H0' d v->E.rt v H'
 |.rn ds ρ'=>∀p xs σ' H0' H',oh H0 H0'->RelE G F σ' ρ' H0' H'->H' p=some (.lst xs)->H0' p=none->F.B p=none->Apart σ' ρ' p->n8 G H0' ds xs->E.rt (.ref p) H'
def tFS(G:Bg)(f:FS):TS:=λE σ H=>∃F ρ H0 o,RelE G F σ ρ H0 H/\f ρ=some o/\En G F H0 E o/\(∀p,E.rt p=E.rt p)
variable{H1:Hp}
theorem En.back{E:Ends}{o:Out}(h:En G F H0 E o)(s:oh H0 H1):En G F H1 E o:=by
 cases o with
 |nx ρ=>exact λσ' H0' H' s' R=>h σ' H0' H' (s.trans s') R
 |bk ρ=>exact λσ' H0' H' s' R=>h σ' H0' H' (s.trans s') R
 |ct ρ=>exact λσ' H0' H' s' R=>h σ' H0' H' (s.trans s') R
 |rt d ρ=>exact λv σ' H0' H' s' R=>h v σ' H0' H' (s.trans s') R
 |rn ds ρ=>exact λp xs σ' H0' H' s' R=>h p xs σ' H0' H' (s.trans s') R
theorem PS.weak{e:Stmt}{t t':TS}(h:PS X e t)(w:∀E σ H,t' E σ H->t E σ H):PS X e t':=λpins s σ H D I hq=>h pins s σ H D I (w _ _ _ hq)
theorem PSs.weak{e:List Stmt}{t t':TS}(h:PSs X e t)(w:∀E σ H,t' E σ H->t E σ H):PSs X e t':=λpins s σ H D I hq=>h pins s σ H D I (w _ _ _ hq)
def o3:FS:=λρ=>some (.nx ρ)
noncomputable def og(f g:FS):FS:=λρ=>match f ρ with
 |some (.nx ρ')=>g ρ'
 |r=>r
variable{σ:St}{tg:Expr}{N:List Str}{vs:List V}{np:Nat}
section
variable{X:Cx}{G:Bg}
theorem G2{E:Ends}{H:Hp}(h:tFS G o3 E σ H):E.nx σ H:=by obtain⟨F,ρ,H0,o,R,e,k,_⟩:=h;cases e;exact k _ _ _ (oh.refl _) R
theorem JY:PSs X [] (tFS G o3):=PSs.weak D4 λE σ H h=>G2 h
theorem G3{st:Stmt}{rest:List Stmt}{f g:FS}(h1:PS X st (tFS G f))(h2:PSs X rest (tFS G g)):PSs X (st::rest) (tFS G (og f g)):=PSs.weak (u4 h1 h2) λE σ H h=>by
 obtain⟨F,ρ,H0,o,R,e,k,k2⟩:=h;unfold og at e;cases e1:f ρ with
 |none=>simp only[e1]at e;cases e
 |some o1=>
  cases o1 with
  |nx ρ1=>simp only[e1]at e;exact⟨F,ρ,H0,_,R,e1,λσ' H0' H' s R'=>⟨F,ρ1,H0',o,R',e,k.back s,k2⟩,k2⟩
  |bk ρ1=>simp only[e1]at e;cases e;exact⟨F,ρ,H0,_,R,e1,k,k2⟩
  |ct ρ1=>simp only[e1]at e;cases e;exact⟨F,ρ,H0,_,R,e1,k,k2⟩
  |rt d ρ1=>simp only[e1]at e;cases e;exact⟨F,ρ,H0,_,R,e1,k,k2⟩
  |rn d ρ1=>simp only[e1]at e;cases e;exact⟨F,ρ,H0,_,R,e1,k,k2⟩
theorem JZ{st:Stmt}{f:FS}(h1:PS X st (tFS G f)):PSs X [st] (tFS G f):=wQ h1
noncomputable def oJ(f:FE):FS:=λρ=>match f ρ with
 |some (d,ρ')=>some (.rt d ρ')
 |none=>none
noncomputable def qy(f:FA):FS:=λρ=>match f ρ with
 |some (d,ρ')=>some (.rn d ρ')
 |none=>none
theorem oB{α:Type}{f:List Sl->Option (α×List Sl)}:f ρ=none\/∃d ρ',f ρ=some (d,ρ'):=by
 cases e:f ρ with
 |none=>exact .inl rfl
 |some p=>exact .inr ⟨p.1,p.2,rfl⟩
theorem J0{e:Expr}{f:FE}(h:PE X e (tF G f)):PS X (.Return (some e) pos) (tFS G (oJ f)):=PS.weak (Bq h) λE σ H hh=>by
 obtain⟨F,ρ,H0,o,R,e,k,k2⟩:=hh;unfold oJ at e;rcases oB (f:=f) (ρ:=ρ)with e1|⟨d,ρ',e1⟩<;>simp only[e1]at e
 ·cases e
 ·cases e;exact⟨F,ρ,H0,d,ρ',R,e1,λv H0' H' s R' r=>k _ _ _ _ s R' r⟩
theorem G4{e:Expr}{f:FA}(h:PE X e (tFN G f)):PS X (.Return (some e) pos) (tFS G (qy f)):=PS.weak (Bq h) λE σ H hh=>by
 obtain⟨F,ρ,H0,o,R,e,k,k2⟩:=hh;unfold qy at e;rcases oB (f:=f) (ρ:=ρ)with e1|⟨d,ρ',e1⟩<;>simp only[e1]at e
 ·cases e
 ·cases e;exact⟨F,ρ,H0,d,ρ',R,e1,λp xs H0' H' s R' h1 h2 h3 h4 h5=>k _ _ _ _ _ s R' h1 h2 h3 h4 h5⟩
noncomputable def ra(f:FE):FS:=λρ=>match f ρ with
 |some (_,ρ')=>some (.nx ρ')
 |none=>none
theorem G5{e:Expr}{f:FE}(h:PE X e (tF G f))(hs:bu e none pos.line X.env=pure false:=by rfl):PS X (.Expr e pos) (tFS G (ra f)):=PS.weak (Bp h hs) λE σ H hh=>by
 obtain⟨F,ρ,H0,o,R,e,k,k2⟩:=hh;unfold ra at e;rcases oB (f:=f) (ρ:=ρ)with e1|⟨d,ρ',e1⟩<;>simp only[e1]at e
 ·cases e
 ·cases e;exact⟨F,ρ,H0,d,ρ',R,e1,λv H0' H' s R' r=>k _ _ _ s R'⟩
noncomputable def sIf(c:FT) (f g:FS):FS:=λρ=>match c ρ with
 |some (true,ρ')=>f ρ'
 |some (false,ρ')=>g ρ'
 |none=>none
theorem MX{c:Expr}{a b:List Stmt}{h:FT}{f g:FS}(hc:PT X c (tFT G h))(ha:PSs X a (tFS G f))(hb:PSs X b (tFS G g)):PS X (.If c a b pos) (tFS G (sIf h f g)):=PS.weak (Lq hc ha hb) λE σ H hh=>by
 obtain⟨F,ρ,H0,o,R,e,k,k2⟩:=hh;unfold sIf at e;rcases oB (f:=h) (ρ:=ρ)with e1|⟨d,ρ',e1⟩
 ·simp only[e1]at e;cases e
 ·refine⟨F,ρ,H0,d,ρ',R,e1,λH0' H' s R'=>?_⟩;cases d with
  |true=>simp only[e1]at e;exact Cd ⟨F,ρ',H0',o,R',e,k.back s,k2⟩
  |false=>simp only[e1]at e;exact Cb ⟨F,ρ',H0',o,R',e,k.back s,k2⟩
abbrev FG:=D->List Sl->Option (List Sl)
def tFG(G:Bg)(n:Nat)(g:FG):TG:=λv σ H Q=>∃F ρ H0 d ρ',RelE G F σ ρ H0 H/\Rep G H0 d v/\g d ρ=some ρ'/\∀σ',σ'.drop n=σ.drop n->RelE G F σ' ρ' H0 H->Q σ' H
def G6(G:Bg)(n:Nat)(g:List D->List Sl->Option (List Sl)):TGs:=λvs σ H Q=>∃F ρ H0 ds ρ',RelE G F σ ρ H0 H/\n8 G H0 ds vs/\g ds ρ=some ρ'/\∀σ',σ'.drop n=σ.drop n->RelE G F σ' ρ' H0 H->Q σ' H
theorem PG.weak{e:Expr}{t t':TG}(h:PG X e t)(w:∀v σ H Q,t' v σ H Q->t v σ H Q):PG X e t':=λpins s σ H x u Q I r hq=>h pins s σ H x u Q I r (w _ _ _ _ hq)
theorem PGs.weak{e:List Expr}{t t':TGs}(h:PGs X e t)(w:∀v σ H Q,t' v σ H Q->t v σ H Q):PGs X e t':=λpins s σ H x u Q I r hq=>h pins s σ H x u Q I r (w _ _ _ _ hq)
def gN(i:Nat):FG:=λd ρ=>some (ρ.set i (.im d))
theorem Cm{α:Type}{l:List α}{i n:Nat}{x:α}(h:i<n):(l.set i x).drop n=l.drop n:=by apply jM;intro j;rw[cF,cF,bq,ah (by omega)]
theorem G7{i:Nat}(n:Nat)(h:PG X tg (sS i))(hi:i<n):PG X tg (tFG G n (gN i)):=PG.weak h λv σ H Q hh=>by obtain⟨F,ρ,H0,d,ρ',R,r,e,k⟩:=hh;cases e;exact k _ (Cm hi) (R.setIm i r)
def AL:List D->List Sl->Option (List Sl):=λds ρ=>match ds with
 |[]=>some ρ
 |_=>none
def pA(g:FG)(gs:List D->List Sl->Option (List Sl)):List D->List Sl->Option (List Sl):=λds ρ=>match ds with
 |d::r=>match g d ρ with
  |some ρ'=>gs r ρ'
  |none=>none
 |[]=>none
theorem J1{n:Nat}(h:PGs X [] PD):PGs X [] (G6 G n AL):=PGs.weak h λv σ H Q hh=>by
 obtain⟨F,ρ,H0,ds,ρ',R,r,e,k⟩:=hh;cases ds with
 |nil=>cases e;unfold n8 at r;exact⟨r,k _ rfl R⟩
 |cons d ds=>cases e
theorem G8{n:Nat}{e:Expr}{es:List Expr}{g:FG}{gs:List D->List Sl->Option (List Sl)}(h:PGs X (e::es) (Lr (tFG G n g) (G6 G n gs))):PGs X (e::es) (G6 G n (pA g gs)):=PGs.weak h λv σ H Q hh=>by
 obtain⟨F,ρ,H0,ds,ρ',R,r,e,k⟩:=hh;cases ds with
 |nil=>cases e
 |cons d ds=>
  unfold n8 at r;obtain⟨v1,r1,rfl,q1,q2⟩:=r;unfold pA at e;cases e1:g d ρ with
  |none=>simp only[e1]at e;cases e
  |some ρ1=>simp only[e1]at e;exact⟨v1,r1,rfl,F,ρ,H0,d,ρ1,R,q1,e1,λσ' s R'=>⟨F,ρ1,H0,ds,ρ',R',q2,e,λσ'' s' R''=>k _ (s'.trans s) R''⟩⟩
def DC(f:FE)(g:FG):FS:=λρ=>match f ρ with
 |some (d,ρ')=>match g d ρ' with
  |some ρ2=>some (.nx ρ2)
  |none=>none
 |none=>none
theorem J2{st:Stmt}{f:FE}{g:FG}{n:Nat}(h:PS X st (wH (tF G f) (tFG G n g))):PS X st (tFS G (DC f g)):=PS.weak h λE σ H hh=>by
 obtain⟨F,ρ,H0,o,R,e,k,k2⟩:=hh;unfold DC at e;rcases oB (f:=f) (ρ:=ρ)with e1|⟨d,ρ',e1⟩<;>simp only[e1]at e
 ·cases e
 ·cases e2:g d ρ' with
  |none=>simp only[e2]at e;cases e
  |some ρ2=>simp only[e2]at e;cases e;exact⟨F,ρ,H0,d,ρ',R,e1,λv H0' H' s R' r=>⟨F,ρ',H0',d,ρ2,R',r,e2,λσ' _ R2=>k _ _ _ s R2⟩⟩
def oY(i:Nat)(f:FE):FS:=λρ=>match f ρ with
 |some (d,ρ')=>some (.nx (ρ'.set i (.im d)))
 |none=>none
theorem Eo{st:Stmt}{i:Nat}{f:FE}(h:PS X st (wH (tF G f) (sS i))):PS X st (tFS G (oY i f)):=PS.weak h λE σ H hh=>by
 obtain⟨F,ρ,H0,o,R,e,k,k2⟩:=hh;unfold oY at e;rcases oB (f:=f) (ρ:=ρ)with e1|⟨d,ρ',e1⟩<;>simp only[e1]at e
 ·cases e
 ·cases e;exact⟨F,ρ,H0,d,ρ',R,e1,λv H0' H' s R' r=>k _ _ _ s (R'.setIm i r)⟩
def sX(i:Nat)(f:FA):FS:=λρ=>match f ρ with
 |some (d,ρ')=>some (.nx (ρ'.set i (.ls d)))
 |none=>none
theorem Cn{st:Stmt}{i:Nat}{f:FA}(h:PS X st (wH (tFN G f) (sS i))):PS X st (tFS G (sX i f)):=PS.weak h λE σ H hh=>by
 obtain⟨F,ρ,H0,o,R,e,k,k2⟩:=hh;unfold sX at e;rcases oB (f:=f) (ρ:=ρ)with e1|⟨d,ρ',e1⟩<;>simp only[e1]at e
 ·cases e
 ·cases e;exact⟨F,ρ,H0,d,ρ',R,e1,λp xs H0' H' s R' h1 h2 h3 h4 h5=>k _ _ _ s (R'.setLs i h1 h2 h3 h4 h5)⟩
def stE(n:Nat)(ds:List D):List Sl:=ds.map Sl.im++cJ (n - ds.length) .un
def fnD(np n:Nat)(f:FS):List D->Option D:=λds=>if ds.length=np then match f (stE n ds)with
 |some (.rt d _)=>some d
 |some (.rn ds _)=>some (.lst ds)
 |some (.nx _)=>some .non
 |_=>none
 else none
def fnN(np n:Nat)(f:FS):List D->Option (List D):=λds=>if ds.length=np then match f (stE n ds)with
 |some (.rn ds _)=>some ds
 |_=>none
 else none
def spF(G:Bg)(g:List D->Option D):Sp:=λvs H Q _=>∃H0 ds d,oh H0 H/\n8 G H0 ds vs/\g ds=some d/\
 ∀v H0' H',oh H0 H0'->oh H0' H'->oh H H'->(∀b o,H0' b=some o->H0 b=some o\/H b=none)->Rep G H0' d v->Q v H'
def spN(G:Bg)(g:List D->Option (List D)):Sp:=λvs H Q _=>∃H0 ds d,oh H0 H/\n8 G H0 ds vs/\g ds=some d/\
 ∀p xs H0' H',oh H0 H0'->oh H0' H'->oh H H'->(∀b o,H0' b=some o->H0 b=some o\/H b=none)->H p=none->H' p=some (.lst xs)->H0' p=none->n8 G H0' d xs->Q (.ref p) H'
theorem wY{n:Nat}{i:Nat}{s:Sl}(h:(stE n ds)[i]?=some s):s=.un\/∃d,ds[i]?=some d/\s=.im d:=by
 unfold stE at h;by_cases hi:i<ds.length
 ·rw[cB (by simpa using hi),aU,aQ hi]at h;cases h;exact .inr ⟨_,aQ hi,rfl⟩
 ·rw[cP (by simpa using hi),fB]at h;split at h
  ·cases h;exact .inl rfl
  ·cases h
theorem rl{i:Nat}{v:V}(h:vs[i]?=some v):((L2.start N vs)[i]?).join=some v:=by unfold L2.start;have hi:=(aV.mp h).1;rw[cB (by simpa using hi),aU,h];rfl
theorem vT{H:Hp}(s:oh H0 H)(r:n8 G H0 ds vs)(hl:vs.length<=N.length):RelE G ⟨H0,H,[]⟩ (L2.start N vs) (stE N.length ds) H0 H where
 sub:=s
 g0:=oh.refl _
 keep:=λb o e _=>e
 fr:=λb o e=>.inl e
 am:=λa h=>by cases h
 len:=by unfold L2.start stE;rw[aE,aE,ar,ar,bI,bI,n9 r]
 sl:=λi t e=>by
  rcases wY e with rfl|⟨d,e1,rfl⟩
  ·trivial
  ·obtain⟨v,e2,e3⟩:=rP r e1;exact⟨v,rl e2,e3⟩
 ap:=λi j t u a _ e _ ht=>by rcases wY e with rfl|⟨d,_,rfl⟩<;>cases ht
theorem Cp{n:Nat}{f:FS}{d:D}(h:fnD np n f ds=some d):ds.length=np/\((∃ρ,f (stE n ds)=some (.rt d ρ))\/(∃xs ρ,f (stE n ds)=some (.rn xs ρ)/\d=.lst xs)\/∃ρ,f (stE n ds)=some (.nx ρ)/\d=.non):=by
 unfold fnD at h;split at h
 ·rename_i hl;refine⟨hl,?_⟩;split at h
  ·rename_i e;cases h;exact .inl ⟨_,e⟩
  ·rename_i e;cases h;exact .inr (.inl ⟨_,_,e,rfl⟩)
  ·rename_i e;cases h;exact .inr (.inr ⟨_,e,rfl⟩)
  ·cases h
 ·cases h
theorem Cq{n:Nat}{f:FS}{xs:List D}(h:fnN np n f ds=some xs):ds.length=np/\∃ρ,f (stE n ds)=some (.rn xs ρ):=by
 unfold fnN at h;split at h
 ·rename_i hl;refine⟨hl,?_⟩;split at h
  ·rename_i e;cases h;exact⟨_,e⟩
  ·cases h
 ·cases h
end
variable{E:XK}
theorem J3{f:FS}{H:Hp}{Q:VK}(hN:np<=N.length)(h:spF G (fnD np N.length f) vs H Q E):tFS G f { nx:=λ_ H'=>Q .non H',rt:=Q } (L2.start N vs) H:=by
 obtain⟨H0,ds,d,s,r,e,k⟩:=h;obtain⟨hl,e'⟩:=Cp e;clear e;have R:=vT (N:=N) s r (by rw[<-n9 r,hl];exact hN);have fin:∀{σ':St} {ρ':List Sl} {H0' H':Hp},RelE G ⟨H0,H,[]⟩ σ' ρ' H0' H'->oh H H'/\oh H0' H'/\∀b o,H0' b=some o->H0 b=some o\/H b=none:=λR'=>⟨λb o e=>R'.keep b o e (by simp),R'.sub,R'.fr⟩;rcases e' with ⟨ρ,e⟩|⟨xs,ρ,e,rfl⟩|⟨ρ,e,rfl⟩
 ·refine⟨_,_,H0,_,R,e,λv σ' H0' H' s' R' rv=>?_,λ_=>rfl⟩;obtain⟨h1,h2,h3⟩:=fin R';exact k v H0' H' s' h2 h1 h3 rv
 ·refine⟨_,_,H0,_,R,e,λp ys σ' H0' H' s' R' hp h0 hb ap rs=>?_,λ_=>rfl⟩;have R2:=R'.freeze hp h0 hb ap;obtain⟨h1,h2,h3⟩:=fin R2;exact k _ _ H' (s'.trans (oq h0 _)) h2 h1 h3 (sU oi (n8.mono (oq h0 _) _ _ rs))
 ·refine⟨_,_,H0,_,R,e,λσ' H0' H' s' R'=>?_,λ_=>rfl⟩;obtain⟨h1,h2,h3⟩:=fin R';exact k _ H0' H' s' h2 h1 h3 sW
theorem J4{f:FS}{H:Hp}{Q:VK}(hN:np<=N.length)(h:spN G (fnN np N.length f) vs H Q E):tFS G f { nx:=λ_ H'=>Q .non H',rt:=Q } (L2.start N vs) H:=by obtain⟨H0,ds,d,s,r,e,k⟩:=h;obtain⟨hl,ρ,e⟩:=Cq e;have R:=vT (N:=N) s r (by rw[<-n9 r,hl];exact hN);refine⟨_,_,H0,_,R,e,λp ys σ' H0' H' s' R' hp h0 hb ap rs=>?_,λ_=>rfl⟩;exact k p ys H0' H' s' R'.sub (λb o e=>R'.keep b o e (by simp)) R'.fr hb hp h0 rs
theorem Qg{g:List D->Option D}(hg:∀ds d,g ds=some d->ds.length=np):∀vs H Q E,spF G g vs H Q E->vs.length=np:=λvs H Q E h=>by obtain⟨H0,ds,d,_,r,e,_⟩:=h;rw[<-n9 r];exact hg _ _ e
theorem Qh{g:List D->Option (List D)}(hg:∀ds d,g ds=some d->ds.length=np):∀vs H Q E,spN G g vs H Q E->vs.length=np:=λvs H Q E h=>by obtain⟨H0,ds,d,_,r,e,_⟩:=h;rw[<-n9 r];exact hg _ _ e
theorem Ka{n:Nat}{f:FS}:∀ds d,fnD np n f ds=some d->ds.length=np:=λ_ _ h=>(Cp h).1
theorem Kb{n:Nat}{f:FS}:∀ds d,fnN np n f ds=some d->ds.length=np:=λ_ _ h=>(Cq h).1
def xN{α:Type}(g:List D->Option α)(a:FA):List Sl->Option (α×List Sl):=λρ=>match a ρ with
 |some (ds,ρ')=>match g ds with
  |some d=>some (d,ρ')
  |none=>none
 |none=>none
abbrev n6(g:List D->Option D)(a:FA):FE:=xN g a
abbrev pL(g:List D->Option (List D))(a:FA):FA:=xN g a
theorem wI{α:Type}{g:List D->Option α}{a:FA}{d:α}(h:xN g a ρ=some (d,ρ')):∃ds,a ρ=some (ds,ρ')/\g ds=some d:=by
 unfold xN at h;rcases oB (f:=a) (ρ:=ρ)with e1|⟨ds,ρ1,e1⟩<;>simp only[e1]at h
 ·cases h
 ·cases e2:g ds with
  |none=>simp only[e2]at h;cases h
  |some x=>simp only[e2]at h;cases h;exact⟨ds,e1,e2⟩
variable{dvs:List V}{dds:List D}
section
variable{X:Cx}{G:Bg}
theorem Kc{g:List D->Option D}{a:FA}(hd:∀H,n8 G H dds dvs):∀σ H Q,tF G (n6 (λds=>g (ds++dds)) a) σ H Q->u9 (spF G g) dvs E (tFA G a) σ H Q:=λσ H Q hh=>by obtain⟨F,ρ,H0,d,ρ',R,e,k⟩:=hh;obtain⟨ds,e1,e2⟩:=wI e;refine⟨F,ρ,H0,ds,ρ',R,e1,λxs H1 H1' s R' rs=>⟨H1,ds++dds,d,R'.sub,pU rs (hd _),e2,λv H2 H2' s1 s2 s3 fr rv=>?_⟩⟩;exact k v H2 H2' (s.trans s1) (R'.grow s3 s1 s2 fr) rv
theorem Ke{g:List D->Option (List D)}{a:FA}(hd:∀H,n8 G H dds dvs):∀σ H Q,tFN G (pL (λds=>g (ds++dds)) a) σ H Q->u9 (spN G g) dvs E (tFA G a) σ H Q:=λσ H Q hh=>by obtain⟨F,ρ,H0,d,ρ',R,e,k⟩:=hh;obtain⟨ds,e1,e2⟩:=wI e;refine⟨F,ρ,H0,ds,ρ',R,e1,λxs H1 H1' s R' rs=>⟨H1,ds++dds,d,R'.sub,pU rs (hd _),e2,λp ys H2 H2' s1 s2 s3 fr hn hp h0 rv=>?_⟩⟩;exact k p ys H2 H2' (s.trans s1) (R'.grow s3 s1 s2 fr) hp h0 (R'.bNone hn) (R'.apart hn) rv
end
variable{ff:FE}{ta:TE}{apos:Pos}
section
variable{X:Cx}{G:Bg}
theorem Kg{e:Expr}{g:List D->Option D}{a:FA}(hd:∀H,n8 G H dds dvs)(h:PE X e (u9 (spF G g) dvs E (tFA G a))):PE X e (tF G (n6 (λds=>g (ds++dds)) a)):=PE.weak h (Kc hd)
theorem G9{e:Expr}{g:List D->Option (List D)}{a:FA}(hd:∀H,n8 G H dds dvs)(h:PE X e (u9 (spN G g) dvs E (tFA G a))):PE X e (tFN G (pL (λds=>g (ds++dds)) a)):=PE.weak h (Ke hd)
theorem FH{e:Expr}{g:List D->Option (List D)}(h:PE X e (u9 (spN G g) [] E y8)):PE X e (tFN G (pL g o6)):=PE.weak h λσ H Q hh=>by obtain⟨F,ρ,H0,d,ρ',R,e,k⟩:=hh;obtain⟨ds,e1,e2⟩:=wI e;cases e1;exact⟨H0,[],d,R.sub,oO,e2,λp ys H2 H2' s1 s2 s3 fr hn hp h0 rv=>k p ys H2 H2' s1 (R.grow s3 s1 s2 fr) hp h0 (R.bNone hn) (R.apart hn) rv⟩
def FI:List Str->List D->Str->Option D
 |n::ns,d::ds,f=>if n=f then some d else FI ns ds f
 |_,_,_=>none
theorem AM{H:Hp}:∀{ns:List Str} {ds:List D} {xs:List V} {f:Str} {d:D},n8 G H ds xs->FI ns ds f=some d->∃v,(ns.zip xs).lookup f=some v/\Rep G H d v
 |[],ds,xs,f,d,r,e=>by simp[FI]at e
 |n::ns,[],xs,f,d,r,e=>by simp[FI]at e
 |n::ns,d'::ds,xs,f,d,r,e=>by
  unfold n8 at r;obtain⟨v,q,rfl,h1,h2⟩:=r;unfold FI at e;by_cases hn:n=f
  ·rw[ag hn]at e;cases e;subst hn;exact⟨v,by simp[cg],h1⟩
  ·rw[ah hn]at e;obtain⟨w,e1,e2⟩:=AM h2 e;refine⟨w,?_,e2⟩;have hb:(f==n)=false:=beq_eq_false_iff_ne.mpr λz=>hn z.symm;simp only[du,cg,hb];exact e1
def ou(ok:Nat->Bool)(f:Str):D->Option D
 |.obj c ns ds=>if ok c=true then FI ns ds f else none
 |_=>none
theorem He{e:Expr}{f:Str}{ok:Nat->Bool}(he:PE X e (tF G ff))(hc:∀c,ok c=true->Cls X.K (G.ca c)/\sD X.K (G.ca c) f)(hb:c7 e f X.env (eval e X.env)=eval e X.env:=by rfl):PE X (.Attribute e f pos) (tF G (c1 (ou ok f) ff)):=PE.weak (My he hb) λσ H Q hh=>by
 obtain⟨F,ρ,H0,d,ρ',R,e,k⟩:=hh;obtain⟨x,e1,e2⟩:=wW e;cases x with
 |obj c ns ds=>
  unfold ou at e2;simp only at e2;split at e2
  ·rename_i hk;refine⟨F,ρ,H0,_,ρ',R,e1,λv H1 H1' s R' r=>?_⟩;unfold Rep at r;obtain⟨a,dx,xs,rfl,h1,h2,h3⟩:=r;obtain⟨w,l1,l2⟩:=AM h3 e2;exact⟨a,_,dx,_,w,rfl,R'.sub _ _ h1,(hc c hk).1,(hc c hk).2,l1,k _ _ _ s R' l2⟩
  ·cases e2
 |_=>cases e2
def MOk(X:Cx)(C:Addr)(m:Str)(sp:Sp)(dvs:List V)(E:XK):Prop:=∃(k:Nat) (f:Addr) (fd:aW) (ps:List Str) (ds:List aa),Cls X.K C/\Meth X.K C m f/\qx X.prog X.w X.K X.mg X.base CX0 k f fd ps sp/\pJ k X.A/\Binds X.K fd ps ds/\Vals dvs ds/\Passes CX0 X E
def pV(g:Nat->Option (List D->Option D))(m:Str)(f:FE)(a:FA):FE:=λρ=>match f ρ with
 |some (.obj c ns ds,ρ1)=>match g c with
  |some h=>if ns.contains m=true then none else match a ρ1 with
   |some (es,ρ2)=>match h (.obj c ns ds::es)with
    |some d=>some (d,ρ2)
    |none=>none
   |none=>none
  |none=>none
 |_=>none
theorem zk{g:Nat->Option (List D->Option D)}{m:Str}{f:FE}{a:FA}{d:D}(h:pV g m f a ρ=some (d,ρ')):
  ∃c ns ds ρ1 hh es,f ρ=some (.obj c ns ds,ρ1)/\g c=some hh/\ns.contains m=false/\a ρ1=some (es,ρ')/\hh (.obj c ns ds::es)=some d:=by
 unfold pV at h;split at h
 ·rename_i c ns ds ρ1 e1;cases e2:g c with
  |none=>simp only[e2]at h;cases h
  |some hh=>
   simp only[e2]at h;cases e3:ns.contains m with
   |true=>simp only[e3,if_true]at h;cases h
   |false=>
    simp only[e3,dq,if_false]at h;rcases oB (f:=a) (ρ:=ρ1)with e4|⟨es,ρ2,e4⟩<;>simp only[e4]at h
    ·cases h
    ·cases e5:hh (.obj c ns ds::es)with
     |none=>simp only[e5]at h;cases h
     |some x=>simp only[e5]at h;cases h;exact⟨c,ns,ds,ρ1,hh,es,e1,e2,e3,e4,e5⟩
 ·cases h
theorem wJ{m:Str}:∀{ns:List Str} {xs:List V},ns.contains m=false->(ns.zip xs).lookup m=none
 |[],xs,h=>rfl
 |n::ns,[],h=>rfl
 |n::ns,x::xs,h=>by rw[jD,gA]at h;simp only[du,cg,h.1];exact wJ h.2
theorem Hf{o e:Expr}{es:List Expr}{t:TA}{m:Str}{pl:Sem Bool}(T:Addr->Sp->Prop)(hT:∀C sp,T C sp->MOk X C m sp dvs E)(he:PE X o ta)(ha:PA X (e::es) t)
  (hst:ao (e::es) X.env=(false,eval e X.env)::ao es X.env:=by rfl) (hpl:(aK pos (ao es X.env)).any (·.1)=false:=by rfl)
  (ht:eval (.Call (.Attribute o m apos) (e::es) [] pos) X.env=(do
   let ov<-eval o X.env
   standAt apos.atName
   let (f,first)<-holding [ov] (getMethod ov m pl)
   callWith pos f first (aK pos (ao (e::es) X.env)) (backToKw pos (cy [] X.env))):=by rfl):
  PE X (.Call (.Attribute o m apos) (e::es) [] pos) (λσ H Q=>ta σ H λx H1=>∃a C dx fs sp,x=.ref a/\H1 a=some (.ins C dx fs)/\T C sp/\fs.lookup m=none/\t σ H1 λvs H2=>sp (x::(vs++dvs)) H2 Q E):=by
 intro pins s σ H Q I h;refine W.methodCall_KW (pl:=pl) (thn (he pins s σ H _ I h) λu s1 zz=>?_) ht;obtain⟨x,H1,I1,rx,a,C,dx,fs,sp,ex,ea,ht,l,q⟩:=zz;obtain⟨k,f,fd,ps,ds,c,hm,F,hr,hb,hd,hx⟩:=hT C sp ht;subst ex;obtain rfl:u=Value.ref a:=rx;refine y7 I1 ea c hm l ?_;refine W.callWith_K (first:=[.ref a]) (h₀:=X.base) I.ok.mod.kin hm.kp (thn (ha pos pins s1 σ H1 _ I1 q) λus s2 ⟨vs,H2,I2,r,q2⟩=>⟨I2.kIn,?_⟩) hst hpl;exact Bt (us:=.ref a::us) (vs:=.ref a::vs) F hr hb hd hx I2 (.cons rfl r) q2
theorem FJ{o:Expr}{m:Str}{pl:Sem Bool}(T:Addr->Sp->Prop)(hT:∀C sp,T C sp->MOk X C m sp dvs E)(he:PE X o ta)
  (ht:eval (.Call (.Attribute o m apos) [] [] pos) X.env=(do
   let ov<-eval o X.env
   standAt apos.atName
   let (f,first)<-holding [ov] (getMethod ov m pl)
   callWith pos f first (aK pos (ao [] X.env)) (backToKw pos (cy [] X.env))):=by rfl):
  PE X (.Call (.Attribute o m apos) [] [] pos) (λσ H Q=>ta σ H λx H1=>∃a C dx fs sp,x=.ref a/\H1 a=some (.ins C dx fs)/\T C sp/\fs.lookup m=none/\sp (x::dvs) H1 Q E):=by
 intro pins s σ H Q I h;refine W.methodCall_KW (pl:=pl) (thn (he pins s σ H _ I h) λu s1 zz=>?_) ht;obtain⟨x,H1,I1,rx,a,C,dx,fs,sp,ex,ea,ht,l,q⟩:=zz;obtain⟨k,f,fd,ps,ds,c,hm,F,hr,hb,hd,hx⟩:=hT C sp ht;subst ex;obtain rfl:u=Value.ref a:=rx;refine y7 I1 ea c hm l ?_;exact W.callWith_K0 (first:=[.ref a]) I1.kIn hm.kp (Bt (us:=[.ref a]) (vs:=[.ref a]) F hr hb hd hx I1 (.cons rfl .nil) q)
def MT(G:Bg)(g:Nat->Option (List D->Option D)):Addr->Sp->Prop:=λC sp=>∃c h,g c=some h/\C=G.ca c/\sp=spF G h
theorem Kh{o e:Expr}{es:List Expr}{f:FE}{a:FA}{m:Str}{g:Nat->Option (List D->Option D)}(h:PE X (.Call (.Attribute o m apos) (e::es) [] pos) (λσ H Q=>tF G f σ H λx H1=>∃a' C dx fs sp,x=.ref a'/\H1 a'=some (.ins C dx fs)/\MT G g C sp/\fs.lookup m=none/\tFA G a σ H1 λvs H2=>sp (x::(vs++[])) H2 Q E)):
  PE X (.Call (.Attribute o m apos) (e::es) [] pos) (tF G (pV g m f a)):=PE.weak h λσ H Q hh=>by
 obtain⟨F,ρ,H0,d,ρ',R,e,k⟩:=hh;obtain⟨c,ns,ds,ρ1,hh,es',e1,e2,e3,e4,e5⟩:=zk e;refine⟨F,ρ,H0,_,ρ1,R,e1,λv H1 H1' s R' r=>?_⟩;have r0:=r;unfold Rep at r;obtain⟨a',dx,xs,rfl,h1,h2,h3⟩:=r;refine⟨a',_,dx,_,_,rfl,R'.sub _ _ h1,⟨c,hh,e2,rfl,rfl⟩,wJ e3,F,ρ1,H1,es',ρ',R',e4,λys H2 H2' s2 R2 rs=>?_⟩;show spF G hh (V.ref a'::(ys++[])) H2' Q E;rw[bE];exact⟨H2,_,d,R2.sub,oM (Rep.mono s2 _ _ r0) rs,e5,λv H3 H3' t1 t2 t3 fr rv=>k v H3 H3' (s.trans (s2.trans t1)) (R2.grow t3 t1 t2 fr) rv⟩
theorem Hg{o:Expr}{f:FE}{m:Str}{g:Nat->Option (List D->Option D)}(h:PE X (.Call (.Attribute o m apos) [] [] pos) (λσ H Q=>tF G f σ H λx H1=>∃a' C dx fs sp,x=.ref a'/\H1 a'=some (.ins C dx fs)/\MT G g C sp/\fs.lookup m=none/\sp (x::[]) H1 Q E)):
  PE X (.Call (.Attribute o m apos) [] [] pos) (tF G (pV g m f o6)):=PE.weak h λσ H Q hh=>by
 obtain⟨F,ρ,H0,d,ρ',R,e,k⟩:=hh;obtain⟨c,ns,ds,ρ1,hh,es',e1,e2,e3,e4,e5⟩:=zk e;cases e4;refine⟨F,ρ,H0,_,_,R,e1,λv H1 H1' s R' r=>?_⟩;have r0:=r;unfold Rep at r;obtain⟨a',dx,xs,rfl,h1,h2,h3⟩:=r;refine⟨a',_,dx,_,_,rfl,R'.sub _ _ h1,⟨c,hh,e2,rfl,rfl⟩,wJ e3,?_⟩;exact⟨H1,_,d,R'.sub,oM r0 oO,e5,λv H3 H3' t1 t2 t3 fr rv=>k v H3 H3' (s.trans t1) (R'.grow t3 t1 t2 fr) rv⟩
def spI(G:Bg)(c:Nat)(g:List D->Option (List Str×List D)):Sp:=λvs H Q _=>∃(p dx:Addr) (us:List V) (H0:Hp) (ds:List D) (ns:List Str) (es:List D),vs=.ref p::us/\H p=some (.ins (G.ca c) dx [])/\H0 p=none/\oh H0 H/\n8 G H0 ds us/\g ds=some (ns,es)/\
 ∀ys dx' H0' H',oh H0 H0'->oh H0' H'->(∀b o,H b=some o->b≠p->H' b=some o)->(∀b o,H0' b=some o->H0 b=some o\/H b=none)->H0' p=none->H' p=some (.ins (G.ca c) dx' (ns.zip ys))->ns.length=ys.length->n8 G H0' es ys->Q .non H'
def oA(c:Nat)(g:List D->Option (List Str×List D))(a:FA):FE:=λρ=>match a ρ with
 |some (ds,ρ')=>match g ds with
  |some (ns,es)=>some (.obj c ns es,ρ')
  |none=>none
 |none=>none
theorem Ki{e:Expr}{c:Nat}{g:List D->Option (List Str×List D)}{a:FA}(hd:∀H,n8 G H dds dvs)(h:PE X e (B4 (G.ca c) (spI G c g) dvs E (tFA G a))):PE X e (tF G (oA c (λds=>g (ds++dds)) a)):=PE.weak h λσ H Q hh=>by
 obtain⟨F,ρ,H0,d,ρ',R,e,k⟩:=hh;unfold oA at e;rcases oB (f:=a) (ρ:=ρ)with e1|⟨ds,ρ1,e1⟩<;>simp only[e1]at e
 ·cases e
 ·cases e2:g (ds++dds)with
  |none=>simp only[e2]at e;cases e
  |some q=>
   obtain⟨ns,es⟩:=q;simp only[e2]at e;cases e;refine⟨F,ρ,H0,ds,ρ',R,e1,λxs H1 H1' s R' rs x dx hx hdx ne=>?_⟩;have hx2:(upd H1' dx (.own x)) x=none:=by rw[oo (λz=>ne z.symm)];exact hx
   have sx:oh H1' (upd (upd H1' dx (.own x)) x (.ins (G.ca c) dx [])):=(oq hdx _).trans (oq hx2 _);refine⟨x,dx,_,H1,ds++dds,ns,es,rfl,oi,R'.h0none hx,R'.sub.trans sx,pU rs (hd _),e2,λys dx' H2 H2' t1 t2 t3 fr h0 hp hl ry=>⟨rfl,?_⟩⟩;have t4:oh H1' H2':=λb o e=>t3 b o (sx b o e) (pz e hx);have fr1:∀b o,H2 b=some o->H1 b=some o\/H1' b=none:=λb o e=>by
    rcases fr b o e with q|q
    ·exact .inl q
    ·cases z:H1' b with
     |none=>exact .inr rfl
     |some u=>rw[sx b u z]at q;cases q
   have R2:=R'.grow t4 t1 t2 fr1;have hb:F.B x=none:=R'.bNone hx;have R3:=R2.freeze hp h0 hb (λi t ei to z=>R'.apart hx i t ei to z);refine k _ _ _ (s.trans (t1.trans (oq h0 _))) R3 ?_;unfold Rep;exact⟨x,dx',ys,rfl,oi,hl,n8.mono (oq h0 _) _ _ ry⟩
def oP(c0:Nat)(i:Nat)(f:Str)(ff:FE):FS:=λρ=>match ff ρ with
 |some (d,ρ1)=>match ρ1[i]? with
  |some (.ob c ns ds)=>if c=c0 then if ns.contains f=true then none else if ds.length=ns.length then if ns.length<900 then some (.nx (ρ1.set i (.ob c (ns++[f]) (ds++[d]))))else none else none else none
  |_=>none
 |none=>none
theorem Cr{f:Str}{v:V}:∀{ns:List Str} {xs:List V},ns.contains f=false->ns.length=xs.length->tZ f v (ns.zip xs)=(ns++[f]).zip (xs++[v])
 |[],[],h,l=>rfl
 |[],x::xs,h,l=>by cases l
 |n::ns,[],h,l=>by cases l
 |n::ns,x::xs,h,l=>by
  rw[jD,gA]at h;have hn:¬n=f:=λz=>by rw[z]at h;simp at h
  have ih:=Cr (f:=f) (v:=v) (ns:=ns) (xs:=xs) h.2 (by simpa using l);show tZ f v ((n,x)::ns.zip xs)=_;rw[show tZ f v ((n,x)::ns.zip xs)=(if n=f then (n,v)::ns.zip xs else (n,x)::tZ f v (ns.zip xs)) from rfl,ah hn,ih];rfl
theorem Kj{st:Stmt}{c0 i:Nat}{f:Str}(h:PS X st (PU X.K (um i) (tF G ff) f))(hc:Cls X.K (G.ca c0)/\sD X.K (G.ca c0) f):PS X st (tFS G (oP c0 i f ff)):=PS.weak h λE σ H hh=>by
 obtain⟨F,ρ,H0,o,R,e,k,k2⟩:=hh;unfold oP at e;rcases oB (f:=ff) (ρ:=ρ)with e1|⟨d,ρ1,e1⟩<;>simp only[e1]at e
 ·cases e
 ·split at e
  ·rename_i c ns ds e2;split at e
   ·rename_i hcc;subst hcc;split at e
    ·cases e
    rename_i hnc;split at e
    ·rename_i hl;split at e
     ·rename_i h9;cases e;refine⟨F,ρ,H0,d,ρ1,R,e1,λv H1 H1' s R' r=>?_⟩;obtain⟨a,dx,xs,e3,e4,e5,e6,e7,e8⟩:=R'.sl i _ e2;refine⟨_,qN e3,a,_,dx,_,rfl,e4,hc.1,hc.2,by rw[eW];omega,?_⟩;have hnf:ns.contains f=false:=by simpa using hnc
      rw[Cr hnf e7];refine k _ _ _ s (R'.mut e2 rfl e3 (λH' hH=>?_) rfl);exact⟨a,dx,xs++[v],rfl,hH,e5,e6,by rw[aE,aE,e7];rfl,pU e8 (oM r oO)⟩
     ·cases e
    ·cases e
   ·cases e
  ·cases e
def stI(c n:Nat)(ds:List D):List Sl:=.ob c [] []::stE (n - 1) ds
def fnI(c np n:Nat)(f:FS):List D->Option (List Str×List D):=λds=>if ds.length=np then match f (stI c n ds)with
 |some (.nx ρ)=>match (ρ:List Sl)[0]? with
  |some (Sl.ob c' ns es)=>if c'=c then if ns.length=es.length then some (ns,es)else none else none
  |_=>none
 |_=>none
 else none
theorem zl{c n:Nat}{f:FS}{q:List Str×List D}(h:fnI c np n f ds=some q):ds.length=np/\∃ρ,f (stI c n ds)=some (.nx ρ)/\ρ[0]?=some (.ob c q.1 q.2)/\q.1.length=q.2.length:=by
 unfold fnI at h;split at h
 ·rename_i hl;refine⟨hl,?_⟩;split at h
  ·rename_i ρ e;split at h
   ·rename_i c' ns es e2;split at h
    ·rename_i hc;split at h
     ·rename_i h3;subst hc;cases h;exact⟨ρ,e,e2,h3⟩
     ·cases h
    ·cases h
   ·cases h
  ·cases h
 ·cases h
theorem BH{c:Nat}{f:FS}{H:Hp}{Q:VK}(hN:np+1<=N.length)(h:spI G c (fnI c np N.length f) vs H Q E):tFS G f { nx:=λ_ H'=>Q .non H',rt:=Q } (L2.start N vs) H:=by
 obtain⟨p,dx,us,H0,ds,ns,es,rfl,hp,h0,s,r,e,k⟩:=h;obtain⟨hl,ρ,e1,e2,e3⟩:=zl e;have hul:us.length=np:=by rw[<-n9 r];exact hl
 have gets:∀{i:Nat} {t:Sl},(stI c N.length ds)[i]?=some t->(i=0/\t=.ob c [] [])\/t=.un\/∃(j:Nat) (d:D),i=j+1/\ds[j]?=some d/\t=.im d:=λ{i t} e=>by
  cases i with
  |zero=>cases e;exact .inl ⟨rfl,rfl⟩
  |succ j=>
   have e':(stE (N.length - 1) ds)[j]?=some t:=e;rcases wY e' with rfl|⟨d,e1,rfl⟩
   ·exact .inr (.inl rfl)
   ·exact .inr (.inr ⟨j,d,rfl,e1,rfl⟩)
 have R:RelE G ⟨H0,H,[p]⟩ (L2.start N (.ref p::us)) (stI c N.length ds) H0 H:={
  sub:=s
  g0:=oh.refl _
  keep:=λb o e _=>e
  fr:=λb o e=>.inl e
  am:=λa ha=>by
   have ea:a=p:=by simpa using ha
   subst ea;exact⟨_,hp⟩
  len:=by unfold L2.start stI stE;simp only[aE,ar,bI,aB];have:=n9 r;omega
  sl:=λi t e=>by
   rcases gets e with ⟨rfl,rfl⟩|rfl|⟨j,d,rfl,e1,rfl⟩
   ·exact⟨p,dx,[],rl rfl,hp,h0,by simp,rfl,oO⟩
   ·trivial
   ·obtain⟨v,e2,e3⟩:=rP r e1;exact⟨v,rl (by simpa using e2),e3⟩
  ap:=λi j t u a hij ei ej ht hu=>by
   rcases gets ei with ⟨rfl,rfl⟩|rfl|⟨_,_,_,_,rfl⟩
   ·rcases gets ej with ⟨rfl,rfl⟩|rfl|⟨_,_,_,_,rfl⟩
    ·exact ak rfl hij
    ·cases hu
    ·cases hu
   ·cases ht
   ·cases ht }
 refine⟨_,_,H0,_,R,e1,λσ' H0' H' s' R'=>?_,λ_=>rfl⟩;obtain⟨a,dx',ys,q1,q2,q3,q4,q5,q6⟩:=R'.sl 0 _ e2;have ea:a=p:=by simpa using q4
 subst ea;exact k ys dx' H0' H' s' R'.sub (λb o e n=>R'.keep b o e (by simpa using n)) R'.fr q3 q2 q5 q6
end
def Sl.L:Sl->Option (List D)
 |.ls ds=>some ds
 |.pm ds=>some ds
 |_=>none
def Sl.putL:Sl->List D->Sl
 |.pm _,ds=>.pm ds
 |_,ds=>.ls ds
theorem Sl.L_own{s:Sl}(h:s.L=some ds):s.own=true:=by cases s<;>first|rfl|cases h
theorem Sl.putL_L{s:Sl}:(s.putL ds).L=some ds:=by cases s<;>rfl
section
variable{G:Bg}{F:Fr}{σ:St}{ρ:List Sl}{H0 H:Hp}
theorem Ao.lst{o:Option V}{s:Sl}{ds:List D}(h:Ao G F H0 H o s)(e:s.L=some ds):∃a xs,o=some (.ref a)/\H a=some (.lst xs)/\H0 a=none/\n8 G H0 ds xs:=by
 cases s with
 |ls ds'=>cases e;obtain⟨a,xs,h1,h2,h3,h4,h5⟩:=h;exact⟨a,xs,h1,h2,h3,h5⟩
 |pm ds'=>cases e;obtain⟨a,xs,h1,h2,h3,h4,h5⟩:=h;exact⟨a,xs,h1,h2,h3,h5⟩
 |_=>cases e
theorem RelE.mutL(R:RelE G F σ ρ H0 H){i:Nat}{a:Addr}{s:Sl}{ds':List D}{xs':List V}(hi:ρ[i]?=some s)(hs:s.L=some ds)(ha:(σ[i]?).join=some (.ref a))(r:n8 G H0 ds' xs'):
  RelE G F σ (ρ.set i (s.putL ds')) H0 (upd H a (.lst xs')):=by
 have ok:=R.sl i s hi;rw[ha]at ok;refine R.mut hi (Sl.L_own hs) ha (λH' hH=>?_) (Sl.L_own Sl.putL_L);cases s with
 |ls ds0=>obtain⟨b,xs,h1,h2,h3,h4,h5⟩:=ok;cases h1;exact⟨a,xs',rfl,hH,h3,h4,r⟩
 |pm ds0=>obtain⟨b,xs,h1,h2,h3,h4,h5⟩:=ok;cases h1;exact⟨a,xs',rfl,hH,h3,h4,r⟩
 |_=>cases hs
end
def ql(ρ:List Sl)(i:Nat):Option (List D):=match ρ[i]? with
 |some s=>s.L
 |none=>none
theorem rp{i:Nat}(h:ql ρ i=some ds):∃s,ρ[i]?=some s/\s.L=some ds:=by
 unfold ql at h;cases e:ρ[i]? with
 |none=>rw[e]at h;cases h
 |some s=>rw[e]at h;exact⟨s,rfl,h⟩
def putAt(ρ:List Sl)(i:Nat)(ds:List D):List Sl:=match ρ[i]? with
 |some s=>ρ.set i (s.putL ds)
 |none=>ρ
def zm(i:Nat)(f:FE):FE:=λρ=>match ql ρ i with
 |some _=>match f ρ with
  |some (d,ρ1)=>match ql ρ1 i with
   |some ds=>if ds.length<1000 then some (.non,putAt ρ1 i (ds++[d]))else none
   |none=>none
  |none=>none
 |none=>none
section
variable{X:Cx}{G:Bg}
theorem rQ{H:Hp}(R:RelE G F σ ρ H0 H){i:Nat}(h:ql ρ i=some ds):∃a xs,σ[i]?=some (some (.ref a))/\H a=some (.lst xs)/\n8 G H0 ds xs/\
  (∀ds' xs',n8 G H0 ds' xs'->RelE G F σ (putAt ρ i ds') H0 (upd H a (.lst xs'))):=by
 obtain⟨s,e1,e2⟩:=rp h;obtain⟨a,xs,e3,e4,e5,e6⟩:=(R.sl i s e1).lst e2;refine⟨a,xs,qN e3,e4,e6,λds' xs' r=>?_⟩;unfold putAt;rw[e1];exact R.mutL e1 e2 e3 r
theorem FK{e:Expr}{i:Nat}{f:FE}(h:PE X e (tBM G.K "list" BD (um i) (tFA G (aCons f o6)))):PE X e (tF G (zm i f)):=PE.weak h λσ H Q hh=>by
 obtain⟨F,ρ,H0,d,ρ',R,e,k⟩:=hh;unfold zm at e;cases e0:ql ρ i with
 |none=>simp only[e0]at e;cases e
 |some ds0=>
  simp only[e0]at e;rcases oB (f:=f) (ρ:=ρ)with e1|⟨x,ρ1,e1⟩<;>simp only[e1]at e
  ·cases e
  ·cases e2:ql ρ1 i with
   |none=>simp only[e2]at e;cases e
   |some ds=>
    simp only[e2]at e;split at e
    ·rename_i hl;cases e;obtain⟨a,xs,s1,s2,s3,_⟩:=rQ R e0;refine⟨.ref a,s1,.inl ⟨rfl,xs,SqL.of s2⟩,F,ρ,H0,[x],ρ1,R,by unfold aCons;rw[e1];rfl,λys H1 H1' s R' rs=>?_⟩;unfold n8 at rs;obtain⟨v,r0,rfl,rv,rn⟩:=rs;unfold n8 at rn;subst rn;obtain⟨a',xs',t1,t2,t3,t4⟩:=rQ R' e2;rw[s1]at t1;cases t1;exact⟨a,xs',v,rfl,rfl,t2,by rw[<-n9 t3];exact vS (by omega),k _ _ _ s (t4 _ _ (pU t3 (oM rv oO))) sW⟩
    ·cases e
def Kk(i:Nat)(f:FA):FE:=λρ=>match ql ρ i with
 |some _=>match f ρ with
  |some (es,ρ1)=>match ql ρ1 i with
   |some ds=>if ds.length+es.length<=1000 then some (.non,putAt ρ1 i (ds++es))else none
   |none=>none
  |none=>none
 |none=>none
theorem FL{e:Expr}{i:Nat}{f:FA}(h:PE X e (tBM G.K "list" Ei (um i) (u7 (tFN G f) y8))):PE X e (tF G (Kk i f)):=PE.weak h λσ H Q hh=>by
 obtain⟨F,ρ,H0,d,ρ',R,e,k⟩:=hh;unfold Kk at e;cases e0:ql ρ i with
 |none=>simp only[e0]at e;cases e
 |some ds0=>
  simp only[e0]at e;rcases oB (f:=f) (ρ:=ρ)with e1|⟨x,ρ1,e1⟩<;>simp only[e1]at e
  ·cases e
  ·cases e2:ql ρ1 i with
   |none=>simp only[e2]at e;cases e
   |some ds=>
    simp only[e2]at e;split at e
    ·rename_i hl;cases e;obtain⟨a,xs,s1,s2,s3,_⟩:=rQ R e0;refine⟨.ref a,s1,.inl ⟨rfl,xs,SqL.of s2⟩,F,ρ,H0,x,ρ1,R,e1,λp ys H1 H1' s R' hp h0 hb ap rs=>?_⟩;obtain⟨a',xs',t1,t2,t3,t4⟩:=rQ R' e2;rw[s1]at t1;cases t1;refine⟨a,p,xs',ys,rfl,rfl,t2,hp,?_,k _ _ _ s (t4 _ _ (pU t3 rs)) sW⟩;rw[<-n9 t3,<- n9 rs];exact qC hl
    ·cases e
def Sx(i:Nat):FE:=λρ=>match ql ρ i with
 |some (d::ds)=>some (d,putAt ρ i ds)
 |_=>none
theorem zp{i:Int}{d:D}(r:n8 G H0 ds xs)(h:atI ds i=some d):∃v,atI xs i=some v/\Rep G H0 d v:=by
 unfold atI at h ⊢;rw[<-n9 r];cases e:ixN ds.length i with
 |none=>rw[e]at h;cases h
 |some j=>rw[e]at h;exact rP r h
def cFz(i:Nat):FE:=λρ=>match ρ[i]? with
 |some (.ls ds)=>some (.lst ds,ρ.set i (.im (.lst ds)))
 |some (.dk ks ds)=>some (.dic ks ds,ρ.set i (.im (.dic ks ds)))
 |some (.im d)=>some (d,ρ)
 |_=>none
theorem RelE.toIm{H:Hp}(R:RelE G F σ ρ H0 H){i:Nat}{s:Sl}{p:Addr}{o:HO}{d:D}(hi:ρ[i]?=some s)(hs:(σ[i]?).join=some (.ref p))(so:s.own=true)(hp:H p=some o)(h0:H0 p=none)(hb:F.B p=none)(r:Rep G (upd H0 p o) d (.ref p)):
  RelE G F σ (ρ.set i (.im d)) (upd H0 p o) H where
 sub:=λb u e=>by
  by_cases hb:b=p
  ·subst hb;rw[oi]at e;cases e;exact hp
  ·rw[oo hb]at e;exact R.sub _ _ e
 g0:=R.g0.trans (oq h0 o)
 keep:=R.keep
 fr:=λb u e=>by
  by_cases hb':b=p
  ·subst hb';exact .inr hb
  ·rw[oo hb']at e;exact R.fr _ _ e
 am:=R.am
 len:=by rw[bZ];exact R.len
 sl:=λj t e=>by
  rw[bq]at e;by_cases h:i=j
  ·subst h;rw[ag rfl]at e;split at e
   ·cases e;exact⟨_,hs,r⟩
   ·cases e
  ·rw[ah h]at e;refine(R.sl j t e).grow (oq h0 o) (λa u _ _ q=>q) λa u z to q q0=>?_;rw[oo (λy=>by subst y;exact R.ap j i t s a (λy=>h y.symm) e hi to so z hs)];exact q0
 ap:=λj k t u b hjk ej ek tj tk vj vk=>by
  have gen:∀{m:Nat} {x:Sl},(ρ.set i (.im d))[m]?=some x->x.own=true->ρ[m]?=some x:=λ{m x} e xo=>by
   rw[bq]at e;by_cases h:i=m
   ·subst h;rw[ag rfl]at e;split at e
    ·cases e;cases xo
    ·cases e
   ·rw[ah h]at e;exact e
  exact R.ap j k t u b hjk (gen ej tj) (gen ek tk) tj tk vj vk
theorem RelE.toImD{H:Hp}(R:RelE G F σ ρ H0 H){i:Nat}{s:Sl}{p:Addr}{o:HO}{d:D}(hi:ρ[i]?=some s)(hs:(σ[i]?).join=some (.ref p))(so:s.own=true)(h0:H0 p=none)(hb:F.B p=none)(r:Rep G (upd H0 p o) d (.ref p)):
  RelE G F σ (ρ.set i (.im d)) (upd H0 p o) (upd H p o) where
 sub:=λb u e=>by
  by_cases hb:b=p
  ·subst hb;rw[oi]at e ⊢;exact e
  ·rw[oo hb]at e ⊢;exact R.sub _ _ e
 g0:=R.g0.trans (oq h0 o)
 keep:=λb u e n=>by rw[oo (λz=>by subst z;rw[hb]at e;cases e)];exact R.keep b u e n
 fr:=λb u e=>by
  by_cases hb':b=p
  ·subst hb';exact .inr hb
  ·rw[oo hb']at e;exact R.fr _ _ e
 am:=λb hm=>by
  by_cases hb':b=p
  ·subst hb';exact⟨o,oi⟩
  ·rw[oo hb'];exact R.am b hm
 len:=by rw[bZ];exact R.len
 sl:=λj t e=>by
  rw[bq]at e;by_cases h:i=j
  ·subst h;rw[ag rfl]at e;split at e
   ·cases e;exact⟨_,hs,r⟩
   ·cases e
  ·rw[ah h]at e;refine(R.sl j t e).grow (oq h0 o) (λa u z to q=>?_) λa u z to q q0=>?_
   ·rw[oo (λy=>by subst y;exact R.ap j i t s a (λy=>h y.symm) e hi to so z hs)];exact q
   ·rw[oo (λy=>by subst y;exact R.ap j i t s a (λy=>h y.symm) e hi to so z hs)];exact q0
 ap:=λj k t u b hjk ej ek tj tk vj vk=>by
  have gen:∀{m:Nat} {x:Sl},(ρ.set i (.im d))[m]?=some x->x.own=true->ρ[m]?=some x:=λ{m x} e xo=>by
   rw[bq]at e;by_cases h:i=m
   ·subst h;rw[ag rfl]at e;split at e
    ·cases e;cases xo
    ·cases e
   ·rw[ah h]at e;exact e
  exact R.ap j k t u b hjk (gen ej tj) (gen ek tk) tj tk vj vk
theorem Qi{e:Expr}{i:Nat}(h:PE X e (um i)):PE X e (tF G (cFz i)):=PE.weak (PE.ghost h) λσ H Q hh=>by
 obtain⟨F,ρ,H0,d,ρ',R,e,k⟩:=hh;unfold cFz at e;split at e
 ·rename_i ds e0;cases e;obtain⟨a,xs,h1,h2,h3,h4,h5⟩:=R.sl i _ e0;have rr:Rep G (upd H0 a (.lst xs)) (.lst ds) (.ref a):=sU oi (n8.mono (oq h3 _) _ _ h5);exact⟨_,qN h1,.inl (k _ _ _ (oq h3 _) (R.toIm e0 h1 rfl h2 h3 h4 rr) rr)⟩
 ·rename_i ks ds e0;cases e;obtain⟨a,xs,h1,h2,h3,h4,h5,h6⟩:=R.sl i _ e0;refine⟨_,qN h1,.inr ⟨a,_,h2,λo=>?_⟩⟩;have rr:Rep G (upd H0 a (.frz o (.dK (ks.zip xs)))) (.dic ks ds) (.ref a):=by unfold Rep;exact⟨a,o,xs,rfl,oi,h5,n8.mono (oq h3 _) _ _ h6⟩
  exact k _ _ _ (oq h3 _) (R.toImD e0 h1 rfl h3 h4 rr) rr
 ·rename_i d' e0;cases e;obtain⟨v,e2,e3⟩:=R.sl i _ e0;exact⟨v,qN e2,.inl (k _ _ _ (oh.refl _) R e3)⟩
 ·cases e
def Hh(i:Nat):FA:=λρ=>match ρ[i]? with
 |some (.ls ds)=>some (ds,ρ.set i .un)
 |_=>none
theorem Kl{e:Expr}{i:Nat}(h:PE X e (um i)):PE X e (tFN G (Hh i)):=PE.weak h λσ H Q hh=>by
 obtain⟨F,ρ,H0,d,ρ',R,e,k⟩:=hh;unfold Hh at e;split at e
 ·rename_i ds e0;cases e;obtain⟨a,xs,h1,h2,h3,h4,h5⟩:=R.sl i _ e0;have gen:∀{m:Nat} {x:Sl},(ρ.set i .un)[m]?=some x->x.own=true->m≠i/\ρ[m]?=some x:=λ{m x} e xo=>by
   rw[bq]at e;by_cases h:i=m
   ·subst h;rw[ag rfl]at e;split at e
    ·cases e;cases xo
    ·cases e
   ·rw[ah h]at e;exact⟨λz=>h z.symm,e⟩
  have R':RelE G F σ (ρ.set i .un) H0 H:={
   sub:=R.sub,g0:=R.g0,keep:=R.keep,fr:=R.fr,am:=R.am
   len:=by rw[bZ];exact R.len
   sl:=λj t e=>by
    rw[bq]at e;by_cases h:i=j
    ·subst h;rw[ag rfl]at e;split at e
     ·cases e;trivial
     ·cases e
    ·rw[ah h]at e;exact R.sl j t e
   ap:=λj k t u b hjk ej ek tj tk vj vk=>R.ap j k t u b hjk (gen ej tj).2 (gen ek tk).2 tj tk vj vk }
  refine⟨_,qN h1,k a xs _ _ (oh.refl _) R' h2 h3 h4 (λj t ej to z=>?_) h5⟩;obtain⟨nj,ej'⟩:=gen ej to;exact R.ap j i t _ a nj ej' e0 to rfl z h1
 ·cases e
end
def spM(G:Bg)(g:List D->List D->Option (D×List D)):Sp:=λvs H Q _=>∃(a:Addr) (us xs:List V) (H0:Hp) (es ds:List D) (d:D) (es':List D),vs=.ref a::us/\H a=some (.lst xs)/\H0 a=none/\oh H0 H/\n8 G H0 es xs/\n8 G H0 ds us/\g es ds=some (d,es')/\
 ∀v xs' H0' H',oh H0 H0'->oh H0' H'->(∀b o,H b=some o->b≠a->H' b=some o)->(∀b o,H0' b=some o->H0 b=some o\/H b=none)->H0' a=none->H' a=some (.lst xs')->n8 G H0' es' xs'->Rep G H0' d v->Q v H'
def stM(n:Nat)(es ds:List D):List Sl:=.pm es::stE (n - 1) ds
def yc(ρ:List Sl):Option (List D):=match ρ with
 |.pm es::_=>some es
 |_=>none
def fnM(np n:Nat)(f:FS):List D->List D->Option (D×List D):=λes ds=>if ds.length=np then match f (stM n es ds)with
 |some (.rt d ρ)=>match yc ρ with
  |some es'=>some (d,es')
  |none=>none
 |some (.rn xs ρ)=>match yc ρ with
  |some es'=>some (.lst xs,es')
  |none=>none
 |_=>none
 else none
theorem zq{es:List D}(h:yc ρ=some es):ρ[0]?=some (.pm es):=by
 unfold yc at h;split at h
 ·cases h;rfl
 ·cases h
variable{es':List D}
theorem Cs{n:Nat}{f:FS}{es:List D}{d:D}(h:fnM np n f es ds=some (d,es')):ds.length=np/\((∃ρ,f (stM n es ds)=some (.rt d ρ)/\ρ[0]?=some (.pm es'))\/∃xs ρ,f (stM n es ds)=some (.rn xs ρ)/\ρ[0]?=some (.pm es')/\d=.lst xs):=by
 unfold fnM at h;split at h
 ·rename_i hl;refine⟨hl,?_⟩;split at h
  ·rename_i x ρ e;cases e2:yc ρ with
   |none=>simp only[e2]at h;cases h
   |some q=>simp only[e2]at h;cases h;exact .inl ⟨ρ,e,zq e2⟩
  ·rename_i x ρ e;cases e2:yc ρ with
   |none=>simp only[e2]at h;cases h
   |some q=>simp only[e2]at h;cases h;exact .inr ⟨x,ρ,e,zq e2,rfl⟩
  ·cases h
 ·cases h
section
variable{X:Cx}{G:Bg}
theorem Km{f:FS}{H:Hp}{Q:VK}(hN:np+1<=N.length)(h:spM G (fnM np N.length f) vs H Q E):tFS G f { nx:=λ_ H'=>Q .non H',rt:=Q } (L2.start N vs) H:=by
 obtain⟨a,us,xs,H0,es,ds,d,es',rfl,ha,h0,s,r1,r,e,k⟩:=h;obtain⟨hl,e1⟩:=Cs e;have hul:us.length=np:=by rw[<-n9 r];exact hl
 have gets:∀{i:Nat} {t:Sl},(stM N.length es ds)[i]?=some t->(i=0/\t=.pm es)\/t=.un\/∃(j:Nat) (d:D),i=j+1/\ds[j]?=some d/\t=.im d:=λ{i t} e=>by
  cases i with
  |zero=>cases e;exact .inl ⟨rfl,rfl⟩
  |succ j=>
   have e':(stE (N.length - 1) ds)[j]?=some t:=e;rcases wY e' with rfl|⟨d,e1,rfl⟩
   ·exact .inr (.inl rfl)
   ·exact .inr (.inr ⟨j,d,rfl,e1,rfl⟩)
 have R:RelE G ⟨H0,H,[a]⟩ (L2.start N (.ref a::us)) (stM N.length es ds) H0 H:={
  sub:=s
  g0:=oh.refl _
  keep:=λb o e _=>e
  fr:=λb o e=>.inl e
  am:=λb hb=>by
   have eb:b=a:=by simpa using hb
   subst eb;exact⟨_,ha⟩
  len:=by unfold L2.start stM stE;simp only[aE,ar,bI,aB];have:=n9 r;omega
  sl:=λi t e=>by
   rcases gets e with ⟨rfl,rfl⟩|rfl|⟨j,d,rfl,e1,rfl⟩
   ·exact⟨a,xs,rl rfl,ha,h0,by simp,r1⟩
   ·trivial
   ·obtain⟨v,e2,e3⟩:=rP r e1;exact⟨v,rl (by simpa using e2),e3⟩
  ap:=λi j t u b hij ei ej ht hu=>by
   rcases gets ei with ⟨rfl,rfl⟩|rfl|⟨_,_,_,_,rfl⟩
   ·rcases gets ej with ⟨rfl,rfl⟩|rfl|⟨_,_,_,_,rfl⟩
    ·exact ak rfl hij
    ·cases hu
    ·cases hu
   ·cases ht
   ·cases ht }
 have fin:∀{v:V} {σ':St} {ρ':List Sl} {H0' H':Hp},oh H0 H0'->RelE G ⟨H0,H,[a]⟩ σ' ρ' H0' H'->ρ'[0]?=some (.pm es')->Rep G H0' d v->Q v H':=λs' R' e2 rv=>by
  obtain⟨a',ys,q1,q2,q3,q4,q5⟩:=R'.sl 0 _ e2;have ea:a'=a:=by simpa using q4
  subst ea;exact k _ ys _ _ s' R'.sub (λb o e n=>R'.keep b o e (by simpa using n)) R'.fr q3 q2 q5 rv
 rcases e1 with ⟨ρ,e1,e2⟩|⟨zs,ρ,e1,e2,rfl⟩
 ·exact⟨_,_,H0,_,R,e1,λv σ' H0' H' s' R' rv=>fin s' R' e2 rv,λ_=>rfl⟩
 ·refine⟨_,_,H0,_,R,e1,λp ys σ' H0' H' s' R' hp hp0 hb ap rs=>?_,λ_=>rfl⟩;exact fin (s'.trans (oq hp0 _)) (R'.freeze hp hp0 hb ap) e2 (sU oi (n8.mono (oq hp0 _) _ _ rs))
theorem Qj{g:List D->List D->Option (D×List D)}(hg:∀es ds d,g es ds=some d->ds.length=np):∀vs H Q E,spM G g vs H Q E->vs.length=np+1:=λvs H Q E h=>by obtain⟨a,us,xs,H0,es,ds,d,es',rfl,_,_,_,_,r,e,_⟩:=h;rw[aB,<- n9 r,hg _ _ _ e]
theorem Kn{n:Nat}{f:FS}:∀es ds d,fnM np n f es ds=some d->ds.length=np:=λ_ _ d h=>(Cs (d:=d.1) (es':=d.2) h).1
theorem RelE.call1{H:Hp}(R:RelE G F σ ρ H0 H){i:Nat}{s:Sl}{es:List D}{b:Addr}{zs:List V}(hi:ρ[i]?=some s)(hs:s.L=some es)(hb:(σ[i]?).join=some (.ref b))
  (s1:oh H0 H0') (s2:oh H0' H') (s3:∀c o,H c=some o->c≠b->H' c=some o) (fr:∀c o,H0' c=some o->H0 c=some o\/H c=none) (h0:H0' b=none) (hz:H' b=some (.lst zs)) (r:n8 G H0' es' zs):
  RelE G F σ (ρ.set i (s.putL es')) H0' H':=by
 have so:=Sl.L_own hs;obtain⟨b',u,e1,e2,e3,e4⟩:=(R.sl i s hi).at so;rw[hb]at e1;cases e1;exact {
  sub:=s2
  g0:=R.g0.trans s1
  keep:=λc o e n=>by
   refine s3 c o (R.keep c o e n) λz=>?_;subst z;rcases e4 with q|q
   ·rw[q]at e;cases e
   ·exact n q
  fr:=λc o e=>by
   rcases fr c o e with q|q
   ·exact R.fr c o q
   ·exact .inr (R.bNone q)
  am:=λc hc=>by
   by_cases z:c=b
   ·subst z;exact⟨_,hz⟩
   ·obtain⟨o,q⟩:=R.am c hc;exact⟨o,s3 c o q z⟩
  len:=by rw[bZ];exact R.len
  sl:=λj t e=>by
   rw[bq]at e;by_cases h:i=j
   ·subst h;rw[ag rfl]at e;split at e
    ·cases e;rw[hb];have ok:=R.sl i s hi;rw[hb]at ok;cases s with
     |ls ds0=>obtain⟨c,xs,h1,h2,h3,h4,h5⟩:=ok;cases h1;exact⟨b,zs,rfl,hz,h0,h4,r⟩
     |pm ds0=>obtain⟨c,xs,h1,h2,h3,h4,h5⟩:=ok;cases h1;exact⟨b,zs,rfl,hz,h0,h4,r⟩
     |_=>cases hs
    ·cases e
   ·rw[ah h]at e;refine(R.sl j t e).grow s1 (λc w z to q=>s3 c w q λy=>?_) λc w z to q q0=>?_
    ·subst y;exact R.ap j i t s c (λy=>h y.symm) e hi to so z hb
    ·cases y:H0' c with
     |none=>rfl
     |some o=>
      rcases fr c o y with x|x
      ·rw[x]at q0;cases q0
      ·rw[x]at q;cases q
  ap:=λj k t u c hjk ej ek tj tk vj vk=>by
   have gen:∀{m:Nat} {x:Sl},(ρ.set i (s.putL es'))[m]?=some x->∃y,ρ[m]?=some y/\(x.own=true->y.own=true):=λ{m x} e=>by
    rw[bq]at e;by_cases h:i=m
    ·subst h;exact⟨s,hi,λ_=>so⟩
    ·rw[ah h]at e;exact⟨x,e,λq=>q⟩
   obtain⟨y,ey,oy⟩:=gen ej;obtain⟨z,ez,oz⟩:=gen ek;exact R.ap j k y z c hjk ey ez (oy tj) (oz tk) vj vk }
def xO(g:List D->List D->Option (D×List D))(i:Nat)(a:FA):FE:=λρ=>match ql ρ i with
 |some _=>match a ρ with
  |some (ds,ρ1)=>match ql ρ1 i with
   |some es=>match g es ds with
    |some (d,es')=>some (d,putAt ρ1 i es')
    |none=>none
   |none=>none
  |none=>none
 |none=>none
theorem MY{e:Expr}{g:List D->List D->Option (D×List D)}{i:Nat}{a:FA}(h:PE X e (u9 (spM G g) [] E (u7 (um i) (tFA G a)))):PE X e (tF G (xO g i a)):=PE.weak h λσ H Q hh=>by
 obtain⟨F,ρ,H0,d,ρ',R,e,k⟩:=hh;unfold xO at e;cases e0:ql ρ i with
 |none=>simp only[e0]at e;cases e
 |some ds0=>
  simp only[e0]at e;rcases oB (f:=a) (ρ:=ρ)with e1|⟨ds,ρ1,e1⟩<;>simp only[e1]at e
  ·cases e
  ·cases e2:ql ρ1 i with
   |none=>simp only[e2]at e;cases e
   |some es=>
    simp only[e2]at e;cases e3:g es ds with
    |none=>simp only[e3]at e;cases e
    |some q=>
     obtain⟨d1,es'⟩:=q;simp only[e3]at e;cases e;obtain⟨b,xs,s1,s2,s3,_⟩:=rQ R e0;refine⟨.ref b,s1,F,ρ,H0,ds,ρ1,R,e1,λys H1 H1' s R' rs=>?_⟩;obtain⟨s,es0,es1⟩:=rp e2;obtain⟨b',xs',t1,t2,t3,t4⟩:=(R'.sl i s es0).lst es1;rw[qN t1]at s1;cases s1;refine⟨b,ys,xs',H1,es,ds,d,es',?_,t2,t3,R'.sub,t4,rs,e3,λv zs H2 H2' u1 u2 u3 fr w0 w1 w2 w3=>?_⟩
     ·show V.ref b::ys++[]=_;rw[bE]
     ·refine k _ _ _ (oh.trans ‹oh H0 H1› u1) ?_ w3;unfold putAt;rw[es0];exact R'.call1 es0 es1 t1 u1 u2 u3 fr w0 w1 w2
def Walk(G:Bg)(J:It)(ds:List D)(H0:Hp):Prop:=∀(i:Nat) (H1 H1':Hp),oh H0 H1->oh H1 H1'->
 (∀d,ds[i]?=some d->J.go i H1'/\∀x H2',J.yld i H1' x H2'->∃H2,oh H1 H2/\oh H2 H2'/\oh H1' H2'/\(∀b o,H2 b=some o->H1 b=some o\/H1' b=none)/\Rep G H2 d x)/\(i=ds.length->J.stop i H1')
def tFI(G:Bg)(f:FA):TI:=λσ H R=>∃F ρ H0 ds ρ',RelE G F σ ρ H0 H/\f ρ=some (ds,ρ')/\∀J H0' H',oh H0 H0'->RelE G F σ ρ' H0' H'->Walk G J ds H0'->R J H'
theorem PI.weak{e:Expr}{t t':TI}(h:PI X tg e t)(w:∀σ H R,t' σ H R->t σ H R):PI X tg e t':=λpins s σ H R I hq=>h pins s σ H R I (w _ _ _ hq)
theorem zr{a:Addr}(h:SqL G.K H0 a xs)(r:n8 G H0 ds xs):Walk G (Itl G.K a) ds H0:=λi H1 H1' s s'=>by have h1:SqL G.K H1' a xs:=(s.trans s').seq h;refine⟨λd e=>?_,λhl=>⟨xs,h1,by rw[<-n9 r,hl];exact ay _⟩⟩;obtain⟨v,e1,e2⟩:=rP r e;refine⟨⟨xs,v,h1,e1⟩,λx H2' y=>?_⟩;obtain⟨e3,e4⟩:=y;have e5:=e4 xs h1;rw[e1]at e5;cases e5;subst e3;exact⟨H1,oh.refl _,s',oh.refl _,λb o e=>.inl e,Rep.mono s _ _ e2⟩
theorem Hk{a:Addr}(h:SqT G.K H0 a xs)(r:n8 G H0 ds xs):Walk G (Itt G.K a) ds H0:=λi H1 H1' s s'=>by have h1:SqT G.K H1' a xs:=SqT.mono (s.trans s') h;refine⟨λd e=>?_,λhl=>⟨xs,h1,by rw[<-n9 r,hl];exact ay _⟩⟩;obtain⟨v,e1,e2⟩:=rP r e;refine⟨⟨xs,v,h1,e1⟩,λx H2' y=>?_⟩;obtain⟨e3,e4⟩:=y;have e5:=e4 xs h1;rw[e1]at e5;cases e5;subst e3;exact⟨H1,oh.refl _,s',oh.refl _,λb o e=>.inl e,Rep.mono s _ _ e2⟩
def iL(f:FE):FA:=λρ=>match f ρ with
 |some (.lst ds,ρ')=>some (ds,ρ')
 |some (.fzl ds,ρ')=>some (ds,ρ')
 |_=>none
def iT(f:FE):FA:=λρ=>match f ρ with
 |some (.tup ds,ρ')=>some (ds,ρ')
 |_=>none
theorem Ct{e:Expr}{f:FE}(h:PI X tg e (Gq G.K (tF G f))):PI X tg e (tFI G (iL f)):=PI.weak h λσ H R hh=>by
 obtain⟨F,ρ,H0,ds,ρ',R,e,k⟩:=hh;unfold iL at e;split at e
 ·rename_i ds' ρ1 e1;cases e;refine⟨F,ρ,H0,_,_,R,e1,λv H1 H1' s R' r=>?_⟩;unfold Rep at r;obtain⟨a,xs,rfl,r1,r2⟩:=r;exact⟨a,rfl,⟨xs,R'.sub.seq (SqL.of r1)⟩,k _ _ _ s R' (zr (SqL.of r1) r2)⟩
 ·rename_i ds' ρ1 e1;cases e;refine⟨F,ρ,H0,_,_,R,e1,λv H1 H1' s R' r=>?_⟩;unfold Rep at r;obtain⟨a,xs,rfl,r1,r2⟩:=r;exact⟨a,rfl,⟨xs,R'.sub.seq r1⟩,k _ _ _ s R' (zr r1 r2)⟩
 ·cases e
theorem Ko{e:Expr}{f:FE}(h:PI X tg e (Mn G.K (tF G f))):PI X tg e (tFI G (iT f)):=PI.weak h λσ H R hh=>by
 obtain⟨F,ρ,H0,ds,ρ',R,e,k⟩:=hh;unfold iT at e;split at e
 ·rename_i ds' ρ1 e1;cases e;refine⟨F,ρ,H0,_,_,R,e1,λv H1 H1' s R' r=>?_⟩;unfold Rep at r;obtain⟨a,xs,rfl,r1,r2⟩:=r;exact⟨a,rfl,⟨xs,SqT.mono R'.sub r1⟩,k _ _ _ s R' (Hk r1 r2)⟩
 ·cases e
def FM(lo:Int)(n:Nat):List D:=(aJ n).map λ(i:Nat)=>D.int (lo+(i:Int))
theorem Hl{lo:Int}{n:Nat}:Walk G (Itr lo n) (FM lo n) H0:=λi H1 H1' s s'=>by
 refine⟨λd e=>?_,λhl=>by show n<=i;rw[hl];simp[FM]⟩;unfold FM at e;rw[aU]at e;by_cases hi:i<n
 ·rw[gB hi]at e;cases e;refine⟨hi,λx H2' y=>?_⟩;obtain⟨e3,rfl⟩:=y;subst e3;exact⟨H1,oh.refl _,s',oh.refl _,λb o e=>.inl e,p8 _⟩
 ·rw[fG (by simpa using hi)]at e;cases e
def iR1(f:FE):FA:=λρ=>match f ρ with
 |some (.int n,ρ')=>if -1000000<=n/\n<=1000000 then some (FM 0 n.toNat,ρ')else none
 |_=>none
theorem DD{e:Expr}{f:FE}(h:PI X tg e (Ls (tFA G (aCons f o6)))):PI X tg e (tFI G (iR1 f)):=PI.weak h λσ H R hh=>by
 obtain⟨F,ρ,H0,ds,ρ',R,e,k⟩:=hh;unfold iR1 at e;split at e
 ·rename_i n ρ1 e1;split at e
  ·rename_i hn;cases e;refine⟨F,ρ,H0,[.int n],_,R,by unfold aCons;rw[e1];rfl,λxs H1 H1' s R' rs=>?_⟩;unfold n8 at rs;obtain⟨v,r0,rfl,rv,rn⟩:=rs;unfold n8 at rn;unfold Rep at rv;subst rn rv;exact⟨n,rfl,by omega,by omega,k _ _ _ s R' Hl⟩
  ·cases e
 ·cases e
def forL(g:FG)(b:FS):List D->FS
 |[],ρ=>some (.nx ρ)
 |d::r,ρ=>match g d ρ with
  |none=>none
  |some ρ1=>match b ρ1 with
   |some (.nx ρ2)=>forL g b r ρ2
   |some (.ct ρ2)=>forL g b r ρ2
   |some (.bk ρ2)=>some (.nx ρ2)
   |some (.rt d ρ2)=>some (.rt d ρ2)
   |some (.rn d ρ2)=>some (.rn d ρ2)
   |none=>none
def tQ(s:FA)(g:FG)(b:FS):FS:=λρ=>match s ρ with
 |some (ds,ρ')=>forL g b ds ρ'
 |none=>none
theorem Kp{st:Stmt}{n:Nat}{s:FA}{g:FG}{b:FS}(h:PS X st (Mp (tFI G s) (tFG G n g) (tFS G b))):PS X st (tFS G (tQ s g b)):=PS.weak h λE σ H hh=>by
 obtain⟨F,ρ,H0,o,R,e,k,k2⟩:=hh;unfold tQ at e;rcases oB (f:=s) (ρ:=ρ)with e1|⟨ds,ρ1,e1⟩<;>simp only[e1]at e
 ·cases e
 ·refine⟨F,ρ,H0,ds,ρ1,R,e1,λJ H1 H1' s1 R1 wk=>?_⟩;refine⟨λi m σ H=>m=ds.length - i/\i<=ds.length/\∃ρi Hi,oh H1 Hi/\RelE G F σ ρi Hi H/\forL g b (ds.drop i) ρi=some o,⟨_,rfl,aR _,ρ1,H1,oh.refl _,R1,e⟩,?_⟩;rintro i m σi Hi' ⟨rfl,hi,ρi,Hi,si,Ri,ei⟩;by_cases hlt:i<ds.length
  ·have ed:ds.drop i=ds[i]::ds.drop (i+1):=fA hlt;rw[ed]at ei;unfold forL at ei;obtain⟨go,yl⟩:=(wk i Hi Hi' si Ri.sub).1 ds[i] (aQ hlt);refine .inr ⟨go,λσ' H'=>∃ρi Hi,oh H1 Hi/\RelE G F σ' ρi Hi H'/\forL g b (ds.drop (i+1)) ρi=some o,λσ' H' q=>⟨ds.length - (i+1),by omega,rfl,hlt,q⟩,λx H' y=>?_⟩;obtain⟨H2,t1,t2,t3,t4,t5⟩:=yl x H' y;have R2:=Ri.grow t3 t1 t2 t4;cases e2:g ds[i] ρi with
   |none=>simp only[e2]at ei;cases ei
   |some ρ2=>
    simp only[e2]at ei;refine⟨F,ρi,H2,_,ρ2,R2,t5,e2,λσ3 _ R3=>?_⟩;have kk:=k.back (s1.trans (si.trans t1));cases e3:b ρ2 with
    |none=>simp only[e3]at ei;cases ei
    |some q=>
     refine⟨F,ρ2,H2,q,R3,e3,?_,λ_=>rfl⟩;cases q with
     |nx ρ3=>simp only[e3]at ei;exact λσ' H0' H' s' R'=>⟨ρ3,H0',si.trans (t1.trans s'),R',ei⟩
     |ct ρ3=>simp only[e3]at ei;exact λσ' H0' H' s' R'=>⟨ρ3,H0',si.trans (t1.trans s'),R',ei⟩
     |bk ρ3=>simp only[e3]at ei;cases ei;exact kk
     |rt d ρ3=>simp only[e3]at ei;cases ei;exact kk
     |rn d ρ3=>simp only[e3]at ei;cases ei;exact kk
  ·have ez:ds.drop i=[]:=i9 (by omega);rw[ez]at ei;unfold forL at ei;cases ei;exact .inl ⟨(wk i Hi Hi' si Ri.sub).2 (by omega),k _ _ _ (s1.trans si) Ri⟩
end
def Sl.cap:Sl->Sl
 |.im d=>.im d
 |.ls ds=>.pm ds
 |.pm ds=>.pm ds
 |_=>.un
def yN(k:Nat)(cap:List Nat)(ρ:List Sl):List Sl:=cJ k .un++cap.map λj=>((ρ[j]?).getD .un).cap
def rf:List Nat->List Sl->List Sl->Option (List Sl)
 |[],_,ρ=>some ρ
 |j::cap,t::ts,ρ=>match ql ρ j with
  |some _=>match t with
   |.pm ds=>rf cap ts (putAt ρ j ds)
   |_=>none
  |none=>rf cap ts ρ
 |_::_,[],_=>none
def vf(k:Nat)(cap:List Nat)(g:FG)(ft:FT)(fe:FE):List D->List Sl->Option (List D×List Sl)
 |[],ρ=>some ([],ρ)
 |d::r,ρ=>match g d (yN k cap ρ)with
  |none=>none
  |some ρ1=>match ft ρ1 with
   |some (true,ρ2)=>match fe ρ2 with
    |some (x,ρ3)=>match rf cap (ρ3.drop k) ρ with
     |some ρ'=>match vf k cap g ft fe r ρ' with
      |some (xs,ρ'')=>some (x::xs,ρ'')
      |none=>none
     |none=>none
    |none=>none
   |some (false,ρ2)=>match rf cap (ρ2.drop k) ρ with
    |some ρ'=>vf k cap g ft fe r ρ'
    |none=>none
   |none=>none
def oH(k:Nat)(cap:List Nat)(s:FA)(g:FG)(ft:FT)(fe:FE):FA:=λρ=>match s ρ with
 |some (ds,ρ')=>if ds.length<=1000 then vf k cap g ft fe ds ρ' else none
 |none=>none
def pE:FT:=λρ=>some (true,ρ)
theorem uv:∀{cap:List Nat} {ts ρ ρ':List Sl},rf cap ts ρ=some ρ'->ρ'.length=ρ.length/\
  (∀(j:Nat) (s':Sl),ρ'[j]?=some s'->∃s,ρ[j]?=some s/\((s'=s/\(s.L≠none->j∉cap))\/∃(m:Nat) (ds ds0:List D),cap[m]?=some j/\ts[m]?=some (Sl.pm ds)/\s.L=some ds0/\s'=s.putL ds))
 |[],ts,ρ,ρ',h=>by cases h;exact⟨rfl,λj s' e=>⟨s',e,.inl ⟨rfl,λ_ z=>by cases z⟩⟩⟩
 |j0::cap,[],ρ,ρ',h=>by cases h
 |j0::cap,t::ts,ρ,ρ',h=>by
  unfold rf at h;cases e0:ql ρ j0 with
  |none=>
   simp only[e0]at h;obtain⟨h1,h2⟩:=uv h;refine⟨h1,λj s' e=>?_⟩;obtain⟨s,e1,q⟩:=h2 j s' e;refine⟨s,e1,?_⟩;rcases q with ⟨rfl,q⟩|⟨m,ds,ds0,q1,q2,q3,q4⟩
   ·refine .inl ⟨rfl,λz y=>?_⟩;rcases aN.mp y with y|y
    ·subst y;unfold ql at e0;rw[e1]at e0;exact z e0
    ·exact q z y
   ·exact .inr ⟨m+1,ds,ds0,q1,q2,q3,q4⟩
  |some ds1=>
   simp only[e0]at h;cases t with
   |pm ds=>
    simp only at h;obtain⟨s0,e1,e2⟩:=rp e0;unfold putAt at h;rw[e1]at h;simp only at h;obtain⟨h1,h2⟩:=uv h;refine⟨by rw[h1,bZ],λj s' e=>?_⟩;obtain⟨s,e3,q⟩:=h2 j s' e;by_cases hj:j0=j
    ·subst hj;rw[bq,ag rfl]at e3;split at e3
     ·cases e3;refine⟨s0,e1,.inr ?_⟩;rcases q with ⟨rfl,q⟩|⟨m,ds',ds0,q1,q2,q3,q4⟩
      ·exact⟨0,ds,ds1,rfl,rfl,e2,rfl⟩
      ·refine⟨m+1,ds',ds1,q1,q2,e2,?_⟩;rw[q4];cases s0<;>rfl
     ·cases e3
    ·rw[bq,ah hj]at e3;refine⟨s,e3,?_⟩;rcases q with ⟨rfl,q⟩|⟨m,ds',ds0,q1,q2,q3,q4⟩
     ·refine .inl ⟨rfl,λz y=>?_⟩;rcases aN.mp y with y|y
      ·exact hj y.symm
      ·exact q z y
     ·exact .inr ⟨m+1,ds',ds0,q1,q2,q3,q4⟩
   |_=>cases h
def Ap(cap:List Nat)(σ:St)(ρ:List Sl):List Addr:=cap.filterMap λj=>match ql ρ j,(σ[j]?).join with
 |some _,some (.ref a)=>some a
 |_,_=>none
theorem vg{cap:List Nat}{a:Addr}:a∈Ap cap σ ρ ↔ ∃j∈cap,(∃ds,ql ρ j=some ds)/\(σ[j]?).join=some (.ref a):=by
 unfold Ap;rw[cE];constructor
 ·rintro⟨j,hj,e⟩;refine⟨j,hj,?_⟩;split at e
  ·rename_i ds a' e1 e2;cases e;exact⟨⟨ds,e1⟩,e2⟩
  ·cases e
 ·rintro⟨j,hj,⟨ds,e1⟩,e2⟩;refine⟨j,hj,?_⟩;rw[e1,e2]
variable{H1':Hp}{ft:FT}{fe:FE}
section
variable{X:Cx}{G:Bg}{F:Fr}{σ:St}{ρ:List Sl}{H0 H:Hp}
theorem zt{k:Nat}{cap:List Nat}{i:Nat}{s:Sl}(h:(yN k cap ρ)[i]?=some s):s=.un\/∃m j,i=k+m/\cap[m]?=some j/\s=((ρ[j]?).getD .un).cap:=by
 unfold yN at h;by_cases hi:i<k
 ·rw[cB (by simpa using hi),fB,ag hi]at h;cases h;exact .inl rfl
 ·rw[cP (by simpa using j1 hi),bI,aU]at h;cases e:cap[i - k]? with
  |none=>rw[e]at h;cases h
  |some j=>rw[e]at h;cases h;exact .inr ⟨i - k,j,by omega,e,rfl⟩
theorem wZ{k:Nat}{cap:List Nat}{m j:Nat}(h:cap[m]?=some j):((qM k cap σ)[k+m]?).join=(σ[j]?).join:=by unfold qM;rw[cP (by simp),bI,show k+m - k=m by omega,aU,h];rfl
theorem RelE.cap(R:RelE G F σ ρ H0 H)(k:Nat)(cap:List Nat)(nd:cap.Nodup):RelE G ⟨H0,H,Ap cap σ ρ⟩ (qM k cap σ) (yN k cap ρ) H0 H where
 sub:=R.sub
 g0:=oh.refl _
 keep:=λb o e _=>e
 fr:=λb o e=>.inl e
 am:=λa ha=>by obtain⟨j,hj,⟨ds,e1⟩,e2⟩:=vg.mp ha;obtain⟨s,e3,e4⟩:=rp e1;obtain⟨a',xs,h1,h2,_⟩:=(R.sl j s e3).lst e4;rw[e2]at h1;cases h1;exact⟨_,h2⟩
 len:=by unfold qM yN;rw[aE,aE,bI,bI,ar,ar]
 sl:=λi s e=>by
  rcases zt e with rfl|⟨m,j,rfl,e1,rfl⟩
  ·trivial
  ·rw[wZ e1];cases e2:ρ[j]? with
   |none=>trivial
   |some s=>
    have ok:=R.sl j s e2;have mem:∀{a:Addr} {ds:List D},s.L=some ds->(σ[j]?).join=some (.ref a)->a∈Ap cap σ ρ:=λh1 h2=>vg.mpr ⟨j,bw e1,⟨_,by unfold ql;rw[e2];exact h1⟩,h2⟩;cases s with
    |un=>trivial
    |im d=>exact ok
    |ls ds=>obtain⟨a,xs,h1,h2,h3,h4,h5⟩:=ok;exact⟨a,xs,h1,h2,h3,mem rfl h1,h5⟩
    |pm ds=>obtain⟨a,xs,h1,h2,h3,h4,h5⟩:=ok;exact⟨a,xs,h1,h2,h3,mem rfl h1,h5⟩
    |dk ks ds=>trivial
    |ob c ns ds=>trivial
 ap:=λi i' s t a hii e e' so to v v'=>by
  rcases zt e with rfl|⟨m,j,rfl,e1,rfl⟩
  ·cases so
  rcases zt e' with rfl|⟨m',j',rfl,e1',rfl⟩
  ·cases to
  rw[wZ e1]at v;rw[wZ e1']at v';have own:∀{j:Nat},(((ρ[j]?).getD Sl.un).cap).own=true->∃s,ρ[j]?=some s/\s.own=true:=λ{j} h=>by
   cases z:ρ[j]? with
   |none=>rw[z]at h;cases h
   |some s=>rw[z]at h;refine⟨s,rfl,?_⟩;cases s<;>first|rfl|cases h
  obtain⟨s,z,zo⟩:=own so;obtain⟨s',z',zo'⟩:=own to;by_cases hj:j=j'
  ·subst hj;have:m=m':=(List.getElem?_inj (aV.mp e1).1 nd).mp (e1.trans e1'.symm);exact hii (by rw[this])
  ·exact R.ap j j' s s' a hj z z' zo zo' v v'
theorem RelE.uncap(R:RelE G F σ ρ H0 H){k:Nat}{cap:List Nat}{σ4:St}{ρ4:List Sl}(R4:RelE G ⟨H0,H,Ap cap σ ρ⟩ σ4 ρ4 H1 H1')(hd:σ4.drop k=(qM k cap σ).drop k)(hu:rf cap (ρ4.drop k) ρ=some ρ'):RelE G F σ ρ' H1 H1':=by
 obtain⟨hl,hc⟩:=uv hu;have at4:∀{m j:Nat},cap[m]?=some j->(σ4[k+m]?).join=(σ[j]?).join:=λ{m j} e=>by
  have q:(σ4.drop k)[m]?=((qM k cap σ).drop k)[m]?:=by rw[hd]
  rw[cF,cF]at q;rw[q];exact wZ e
 have nA:∀{j:Nat} {s:Sl} {a:Addr},ρ[j]?=some s->s.own=true->(σ[j]?).join=some (.ref a)->(s.L≠none->j∉cap)->a∉Ap cap σ ρ:=λ{j s a} e so z hn ha=>by
  obtain⟨i,hi,⟨ds,e1⟩,e2⟩:=vg.mp ha;obtain⟨t,e3,e4⟩:=rp e1;by_cases hij:i=j
  ·subst hij;rw[e]at e3;cases e3;exact hn (by rw[e4];simp) hi
  ·exact R.ap i j t s a hij e3 e (Sl.L_own e4) so e2 z
 have hA:∀a∈Ap cap σ ρ,F.B a=none\/a∈F.A:=λa ha=>by obtain⟨i,hi,⟨ds,e1⟩,e2⟩:=vg.mp ha;obtain⟨t,e3,e4⟩:=rp e1;obtain⟨a',u,h1,h2,h3,h4⟩:=(R.sl i t e3).at (Sl.L_own e4);rw[e2]at h1;cases h1;exact h4
 have own':∀{j:Nat} {s':Sl},ρ'[j]?=some s'->s'.own=true->∃s,ρ[j]?=some s/\s.own=true:=λ{j s'} e so=>by
  obtain⟨s,e1,q⟩:=hc j s' e;rcases q with ⟨rfl,q⟩|⟨m,ds,ds0,q1,q2,q3,q4⟩
  ·exact⟨s',e1,so⟩
  ·exact⟨s,e1,Sl.L_own q3⟩
 exact {
  sub:=R4.sub
  g0:=R.g0.trans R4.g0
  keep:=λb o e n=>by
   refine R4.keep b o (R.keep b o e n) λha=>?_;rcases hA b ha with q|q
   ·rw[q]at e;cases e
   ·exact n q
  fr:=λb o e=>by
   rcases R4.fr b o e with q|q
   ·exact R.fr b o q
   ·exact .inr (R.bNone q)
  am:=λa ha=>by
   obtain⟨o,q⟩:=R.am a ha;by_cases z:a∈Ap cap σ ρ
   ·exact R4.am a z
   ·exact⟨o,R4.keep a o q z⟩
  len:=by rw[hl];exact R.len
  sl:=λj s' e=>by
   obtain⟨s,e1,q⟩:=hc j s' e;rcases q with ⟨rfl,q⟩|⟨m,ds,ds0,q1,q2,q3,q4⟩
   ·refine(R.sl j s' e1).grow R4.g0 (λa u z so y=>R4.keep a u y (nA e1 so z q)) λa u z so y y0=>?_;cases w:H1 a with
    |none=>rfl
    |some o=>
     rcases R4.fr a o w with x|x
     ·have x':H0 a=some o:=x;rw[x']at y0;cases y0
     ·have x':H a=none:=x;rw[x']at y;cases y
   ·rw[cF]at q2;obtain⟨a,xs,h1,h2,h3,h4,h5⟩:=R4.sl _ _ q2;rw[at4 q1]at h1;have ok:=R.sl j s e1;subst q4;cases s with
    |ls ds1=>obtain⟨a',xs',g1,g2,g3,g4,g5⟩:=ok;rw[h1]at g1;cases g1;exact⟨a,xs,h1,h2,h3,g4,h5⟩
    |pm ds1=>obtain⟨a',xs',g1,g2,g3,g4,g5⟩:=ok;rw[h1]at g1;cases g1;exact⟨a,xs,h1,h2,h3,g4,h5⟩
    |_=>cases q3
  ap:=λi j s t a hij ei ej so to v v'=>by
   obtain⟨s0,z,zo⟩:=own' ei so;obtain⟨t0,y,yo⟩:=own' ej to;exact R.ap i j s0 t0 a hij z y zo yo v v' }
theorem vh{k:Nat}{cap:List Nat}{ts:List Sl}{p:Addr}(h:Apart σ ρ p)(hu:rf cap ts ρ=some ρ'):Apart σ ρ' p:=λi s' e so=>by
 obtain⟨s,e1,q⟩:=(uv hu).2 i s' e;rcases q with ⟨rfl,q⟩|⟨m,ds,ds0,q1,q2,q3,q4⟩
 ·exact h i s' e1 so
 ·exact h i s e1 (Sl.L_own q3)
inductive CI(G:Bg) (F:Fr) (σ:St) (H1:Hp) (p:Addr) (k:Nat) (cap:List Nat) (g:FG) (ft:FT) (fe:FE) (ds es:List D) (ρ':List Sl) (i m:Nat) (acc:List V) (H2:Hp):Prop
 |mk (ρi:List Sl) (Hi:Hp) (dn rest:List D):m=ds.length - i->i<=ds.length->oh H1 Hi->RelE G F σ ρi Hi H2->H2 p=some (.lst acc)->Hi p=none->Apart σ ρi p->n8 G Hi dn acc->dn.length<=i->vf k cap g ft fe (ds.drop i) ρi=some (rest,ρ')->es=dn++rest->CI G F σ H1 p k cap g ft fe ds es ρ' i m acc H2
theorem BI{k:Nat}{cap:List Nat}{s:FA}{g:FG}(nd:cap.Nodup):∀σ H Q,tFN G (oH k cap s g ft fe) σ H Q->yb (tFI G s) (tFG G k g) (tFT G ft) (tF G fe) k cap σ H Q:=λσ H Q hh=>by
 obtain⟨F,ρ,H0,es,ρ',R,e,kk⟩:=hh;unfold oH at e;rcases oB (f:=s) (ρ:=ρ)with e1|⟨ds,ρ1,e1⟩<;>simp only[e1]at e
 ·cases e
 ·split at e
  ·rename_i hlen;refine⟨F,ρ,H0,ds,ρ1,R,e1,λJ H1 H1' s1 R1 wk p hp=>?_⟩;refine⟨CI G F σ H1 p k cap g ft fe ds es ρ',
    ⟨_,ρ1,H1,[],es,rfl,aR _,oh.refl _,R1.newOwn hp _,oi,R1.h0none hp,R1.apart hp,oO,ay _,e,rfl⟩,?_⟩
   rintro i m acc H2 ⟨ρi,Hi,dn,rest,rfl,hi,si,Ri,hp2,hp0,apt,rs,hdn,ei,rfl⟩;by_cases hlt:i<ds.length
   ·have ed:ds.drop i=ds[i]::ds.drop (i+1):=fA hlt;rw[ed]at ei;unfold vf at ei;obtain⟨go,yl⟩:=(wk i Hi H2 si Ri.sub).1 ds[i] (aQ hlt);refine .inr ⟨go,λx H3 y=>?_⟩;obtain⟨Hj,t1,t2,t3,t4,t5⟩:=yl x H3 y;have R2:=Ri.grow t3 t1 t2 t4;have hp3:H3 p=some (.lst acc):=t3 _ _ hp2;have hpj:Hj p=none:=by
     cases w:Hj p with
     |none=>rfl
     |some o=>
      rcases t4 p o w with z|z
      ·rw[hp0]at z;cases z
      ·rw[hp2]at z;cases z
    have RC:=R2.cap k cap nd;have npA:p∉Ap cap σ ρi:=λz=>by obtain⟨j,_,⟨ds',q1⟩,q2⟩:=vg.mp z;obtain⟨t,q3,q4⟩:=rp q1;exact apt j t q3 (Sl.L_own q4) q2
    cases e2:g ds[i] (yN k cap ρi)with
    |none=>simp only[e2]at ei;cases ei
    |some ρ2=>
     simp only[e2]at ei;refine⟨_,_,Hj,ds[i],ρ2,RC,t5,e2,λσ4 hd4 R4=>⟨hd4,?_⟩⟩;rcases oB (f:=ft) (ρ:=ρ2)with e3|⟨b,ρ3,e3⟩
     ·simp only[e3]at ei;cases ei
     ·refine⟨_,ρ2,Hj,b,ρ3,R4,e3,λH5 H5' s5 R5=>?_⟩;have keepP:∀{σ':St} {ρ'':List Sl} {Ha Ha':Hp},RelE G ⟨Hj,H3,Ap cap σ ρi⟩ σ' ρ'' Ha Ha'->Ha' p=some (.lst acc)/\Ha p=none:=λRz=>by
       refine⟨Rz.keep p _ hp3 npA,?_⟩;refine Option.eq_none_iff_forall_ne_some.mpr λo w2=>?_;rcases Rz.fr p o w2 with z|z
       ·have z':Hj p=some o:=z;rw[hpj]at z';cases z'
       ·have z':H3 p=none:=z;rw[hp3]at z';cases z'
      cases b with
      |false=>
       simp only[e3]at ei;refine Cb ?_;cases e4:rf cap (ρ3.drop k) ρi with
       |none=>simp only[e4]at ei;cases ei
       |some ρn=>simp only[e4]at ei;obtain⟨w1,w2⟩:=keepP R5;exact⟨ds.length - (i+1),by omega,ρn,H5,dn,rest,rfl,hlt,si.trans (t1.trans s5),R2.uncap R5 hd4 e4,w1,w2,vh (k:=k) apt e4,n8.mono (t1.trans s5) _ _ rs,by omega,ei,rfl⟩
      |true=>
       simp only[e3]at ei;refine Cd ?_;rcases oB (f:=fe) (ρ:=ρ3)with e5|⟨x5,ρ5,e5⟩
       ·simp only[e5]at ei;cases ei
       ·simp only[e5]at ei;refine⟨_,ρ3,H5,x5,ρ5,R5,e5,λv H6 H6' s6 R6 rv=>?_⟩;obtain⟨w1,w2⟩:=keepP R6;cases e4:rf cap (ρ5.drop k) ρi with
        |none=>simp only[e4]at ei;cases ei
        |some ρn=>
         simp only[e4]at ei;cases e6:vf k cap g ft fe (ds.drop (i+1)) ρn with
         |none=>simp only[e6]at ei;cases ei
         |some q=>
          obtain⟨rest',ρz⟩:=q;simp only[e6]at ei;cases ei;have Rn:=R2.uncap R6 hd4 e4;have lacc:acc.length=dn.length:=(n9 rs).symm;refine⟨acc,w1,vS (by omega),ds.length - (i+1),by omega,ρn,H6,dn++[x5],rest',rfl,hlt,si.trans (t1.trans (s5.trans s6)),?_,oi,w2,vh (k:=k) apt e4,pU (n8.mono (t1.trans (s5.trans s6)) _ _ rs) (oM rv oO),by rw[aE,bJ];omega,e6,by rw[cG];rfl⟩;exact {
           sub:=λb o e=>by rw[oo (λz=>by rw[z,w2]at e;cases e)];exact Rn.sub b o e
           g0:=Rn.g0
           keep:=λb o e n=>by rw[oo (λz=>by subst z;rw[R1.bNone hp]at e;cases e)];exact Rn.keep b o e n
           fr:=Rn.fr
           am:=λb hb=>by
            by_cases z:b=p
            ·subst z;exact⟨_,oi⟩
            ·rw[oo z];exact Rn.am b hb
           len:=Rn.len
           sl:=λj t ej=>(Rn.sl j t ej).grow (oh.refl _) (λb u z to q=>by rw[oo (λy=>vh (k:=k) apt e4 j t ej to (by rw[z,y]))];exact q) λb u _ _ _ q=>q
           ap:=Rn.ap }
   ·have ez:ds.drop i=[]:=i9 (by omega);rw[ez]at ei;unfold vf at ei;cases ei;rw[bE]at kk;exact .inl ⟨(wk i Hi H2 si Ri.sub).2 (by omega),kk p acc Hi H2 (s1.trans si) Ri hp2 hp0 (R1.bNone hp) apt rs⟩
  ·cases e
theorem Hm{e:Expr}{k:Nat}{cap:List Nat}{s:FA}{g:FG}(nd:cap.Nodup)(h:PE X e (yb (tFI G s) (tFG G k g) (tFT G ft) (tF G fe) k cap)):PE X e (tFN G (oH k cap s g ft fe)):=PE.weak h (BI nd)
theorem Hn:PIf X [] (tFT G pE):=λpins s σ H Q I h=>by obtain⟨F,ρ,H0,b,ρ',R,e,k⟩:=h;cases e;exact JM pins s σ H Q I (k _ _ (oh.refl _) R)
end
def qm:D->Bool
 |.non=>true|.bl _=>true|.int _=>true|.str _=>true|_=>false
def vD:D->V
 |.non=>.non|.bl b=>.bl b|.int i=>.int i|.str x=>.str x|_=>.non
variable{r':R2}{g':D->D->Option D}{neg:Bool}
section
variable{X:Cx}{G:Bg}{H:Hp}
theorem rR{d:D}{v:V}(h:Rep G H d v)(f:qm d=true):v=vD d:=by cases d<;>first|(unfold Rep at h;exact h)|cases f
theorem w5{d:D}(f:qm d=true):∀H,Rep G H d (vD d):=λH=>by cases d<;>first|(unfold Rep;rfl)|cases f
theorem xP:∀{ds:List D} {xs:List V},n8 G H ds xs->ds.all qm=true->xs=ds.map vD
 |[],xs,h,f=>by unfold n8 at h;exact h
 |d::ds,xs,h,f=>by unfold n8 at h;obtain⟨v,r,rfl,h1,h2⟩:=h;rw[d7,aC]at f;rw[aT,rR h1 f.1,xP h2 f.2]
theorem Cu{d:D}(f:qm d=true):wa (vD d)=true:=by cases d<;>first|rfl|cases f
theorem AN:∀{ds:List D},ds.all qm=true->(ds.map vD).all wa=true
 |[],_=>rfl
 |d::ds,f=>by rw[d7,aC]at f;rw[aT,d7,Cu f.1,AN f.2];rfl
theorem OpR.or{f:aa->aa->Sem aa}{r:R2}(h:OpR X f r)(h':OpR X f r'):OpR X f (λx y H Q=>r x y H Q\/r' x y H Q):=λpins s σ H x y v u Q I rx ry q=>q.elim (h pins s σ H x y v u Q I rx ry) (h' pins s σ H x y v u Q I rx ry)
theorem OpD.or{r:R2}{g:D->D->Option D}(h:OpD G r g)(h':OpD G r' g'):OpD G (λx y H Q=>r x y H Q\/r' x y H Q) (λx y=>match g x y with|some z=>some z|none=>g' x y):=λx y z H0 H v u Q e s rx ry k=>by
 cases e1:g x y with
 |some w=>simp only[e1]at e;cases e;exact .inl (h x y _ H0 H v u Q e1 s rx ry k)
 |none=>simp only[e1]at e;exact .inr (h' x y z H0 H v u Q e s rx ry k)
def dI(C:Int->Int->Bool)(g:Int->Int->D):D->D->Option D
 |.int a,.int b=>if C a b=true then some (g a b)else none
 |_,_=>none
theorem Ep{C:Int->Int->Bool}{C':Int->Int->Prop}{g:Int->Int->D}{g':Int->Int->V}(hC:∀a b,C a b=true->C' a b)(hf:∀a b,qm (g a b)=true/\vD (g a b)=g' a b):OpD G (rI C' g') (dI C g):=λx y z H0 H v u Q e s rx ry k=>by
 unfold dI at e;split at e
 ·rename_i a b;split at e
  ·rename_i hc;cases e;unfold Rep at rx ry;exact⟨a,b,rx,ry,hC _ _ hc,by rw[<-(hf a b).2];exact k _ λH0' _=>w5 (hf a b).1 H0'⟩
  ·cases e
 ·cases e
theorem xQ{g:Int->Int->D}{g':Int->Int->V}(hf:∀a b,qm (g a b)=true/\vD (g a b)=g' a b):OpD G (rI0 g') (dI (λ_ _=>true) g):=λx y z H0 H v u Q e s rx ry k=>by
 unfold dI at e;split at e
 ·rename_i a b;split at e
  ·cases e;unfold Rep at rx ry;exact⟨a,b,rx,ry,by rw[<-(hf a b).2];exact k _ λH0' _=>w5 (hf a b).1 H0'⟩
  ·cases e
 ·cases e
def pW:=dI (λ_ _=>true) λa b=>.int (a+b)
def rS:=dI (λ_ _=>true) λa b=>.int (a - b)
def uw(a:Int):Bool:=decide (-(2 ^ 64)<a)&&decide (a<2 ^ 64)
def sE:=dI (λa b=>uw a||uw b) λa b=>.int (a * b)
def rh:=dI (λ_ b=>decide (0<b)) λa b=>.int (a % b)
def wb:=dI (λ_ b=>decide (0<b)&&decide (b<1073741824)) λa b=>.int (a / b)
def Ho:=dI (λa b=>decide (0<=b)&&decide (b<=1000000)&&decide (a.natAbs<2 ^ 64)) λa b=>.int (a ^ b.toNat)
def Hr:=dI (λ_ _=>true) λa b=>.bl (decide (a<b))
def uZ:=dI (λ_ _=>true) λa b=>.bl (decide (a<=b))
def Hs:=dI (λ_ _=>true) λa b=>.bl (decide (b<a))
def MZ:=dI (λ_ _=>true) λa b=>.bl (decide (b<=a))
theorem M0:OpD G (rI0 λi j=>.int (i+j)) pW:=xQ λ_ _=>⟨rfl,rfl⟩
theorem M3:OpD G (rI0 λi j=>.int (i - j)) rS:=xQ λ_ _=>⟨rfl,rfl⟩
theorem M4:OpD G (rI Jv λi j=>.int (i * j)) sE:=Ep (λa b h=>by
 unfold uw at h;simp only[ic,aC,bh]at h;exact h) λ_ _=>⟨rfl,rfl⟩
theorem M5:OpD G (rI (λ_ j=>0<j) λi j=>.int (i % j)) rh:=Ep (λa b h=>by simpa using h) λ_ _=>⟨rfl,rfl⟩
theorem M6:OpD G (rI Mr λi j=>.int (i / j)) wb:=Ep (λa b h=>by unfold Mr;simpa using h) λ_ _=>⟨rfl,rfl⟩
theorem M7:OpD G (rI PJ λi j=>.int (i ^ j.toNat)) Ho:=Ep (λa b h=>by
 simp only[aC,bh]at h;exact⟨h.1.1,h.1.2,h.2⟩) λ_ _=>⟨rfl,rfl⟩
theorem Qk:OpD G (rI0 λi j=>.bl (decide (i<j))) Hr:=xQ λ_ _=>⟨rfl,rfl⟩
theorem Ql:OpD G (rI0 λi j=>.bl (decide (i<=j))) uZ:=xQ λ_ _=>⟨rfl,rfl⟩
theorem Qm:OpD G (rI0 λi j=>.bl (decide (j<i))) Hs:=xQ λ_ _=>⟨rfl,rfl⟩
theorem Qn:OpD G (rI0 λi j=>.bl (decide (j<=i))) MZ:=xQ λ_ _=>⟨rfl,rfl⟩
def qG:D->D->Option D
 |.str a,.str b=>if a.length+b.length<=100000 then some (.str (a++b))else none
 |_,_=>none
theorem zu{n:Nat}(h:n<=100000):n<=av:=bz h (by rw[bX];decide)
theorem Kq:OpD G (λx y H Q=>∃i j,x=.str i/\y=.str j/\i.length+j.length<=av/\Q (.str (i++j)) H) qG:=λx y z H0 H v u Q e s rx ry k=>by
 unfold qG at e;split at e
 ·rename_i a b;split at e
  ·rename_i hl;cases e;unfold Rep at rx ry;exact⟨a,b,rx,ry,zu hl,k _ λ_ _=>sV _⟩
  ·cases e
 ·cases e
def Ht:D->D->Option D
 |.str a,.str b=>some (.bl (!decide (b.cps.toList<a.cps.toList)))
 |_,_=>none
theorem M8:OpD G (λx y H Q=>∃i j,x=.str i/\y=.str j/\Q (.bl (!decide (j.cps.toList<i.cps.toList))) H) Ht:=λx y z H0 H v u Q e s rx ry k=>by
 unfold Ht at e;split at e
 ·rename_i a b;cases e;unfold Rep at rx ry;exact⟨a,b,rx,ry,k _ λ_ _=>qh _⟩
 ·cases e
def zv:D->D->Option D
 |.non,.non=>some (.bl true)
 |_,.non=>some (.bl false)
 |_,_=>none
def ua:D->D->Option D
 |.non,.non=>some (.bl false)
 |_,.non=>some (.bl true)
 |_,_=>none
theorem Er{d:D}{v:V}(h:Rep G H d v):decide (v=.non)=(match d with|.non=>true|_=>false):=by
 cases d<;>unfold Rep at h
 ·subst h;rfl
 ·subst h;rfl
 ·subst h;rfl
 ·subst h;rfl
 ·obtain⟨a,xs,rfl,_⟩:=h;rfl
 ·obtain⟨a,xs,rfl,_⟩:=h;rfl
 ·obtain⟨a,xs,rfl,_⟩:=h;rfl
 ·obtain⟨a,dx,xs,rfl,_⟩:=h;rfl
 ·obtain⟨a,ob,xs,rfl,_⟩:=h;rfl
theorem M9:OpD G (λx y H Q=>y=.non/\Q (.bl (decide (x=.non))) H) zv:=λx y z H0 H v u Q e s rx ry k=>by
 have e0:=Er rx;cases y<;>first|(cases x<;>cases e)|skip
 all_goals (unfold Rep at ry;refine⟨ry,?_⟩;rw[e0];exact k _ λ_ _=>qh _)
theorem Kr:OpD G (λx y H Q=>y=.non/\Q (.bl (!decide (x=.non))) H) ua:=λx y z H0 H v u Q e s rx ry k=>by
 have e0:=Er rx;cases y<;>first|(cases x<;>cases e)|skip
 all_goals (unfold Rep at ry;refine⟨ry,?_⟩;rw[e0];exact k _ λ_ _=>qh _)
def Rb:D->D->Option D
 |.bl a,.bl b=>some (.bl (a != b))
 |_,_=>none
mutual
def toD:D->Option L3.Dq
 |.non=>some .non
 |.bl b=>some (.bl b)
 |.int i=>some (.int i)
 |.str x=>some (.str x)
 |.tup ds=>match BJ ds with
  |some l=>some (.tup l)
  |none=>none
 |.lst ds=>match BJ ds with
  |some l=>some (.lst l)
  |none=>none
 |.fzl _=>none
 |.obj _ _ _=>none
 |.dic _ _=>none
def BJ:List D->Option (List L3.Dq)
 |[]=>some []
 |d::ds=>match toD d with
  |some x=>match BJ ds with
   |some l=>some (x::l)
   |none=>none
  |none=>none
end
mutual
theorem BK:∀(d:D) (v:V) (x:L3.Dq),Rep G H d v->toD d=some x->L3.Rep G.K H x v
 |.non,v,x,h,e=>by unfold toD at e;cases e;unfold Rep at h;unfold L3.Rep;exact h
 |.bl b,v,x,h,e=>by unfold toD at e;cases e;unfold Rep at h;unfold L3.Rep;exact h
 |.int b,v,x,h,e=>by unfold toD at e;cases e;unfold Rep at h;unfold L3.Rep;exact h
 |.str b,v,x,h,e=>by unfold toD at e;cases e;unfold Rep at h;unfold L3.Rep;exact h
 |.tup ds,v,x,h,e=>by
  unfold toD at e;cases e1:BJ ds with
  |none=>simp only[e1]at e;cases e
  |some l=>simp only[e1]at e;cases e;unfold Rep at h;obtain⟨a,xs,rfl,h1,h2⟩:=h;unfold L3.Rep;exact⟨a,xs,rfl,h1,zw ds xs l h2 e1⟩
 |.lst ds,v,x,h,e=>by
  unfold toD at e;cases e1:BJ ds with
  |none=>simp only[e1]at e;cases e
  |some l=>simp only[e1]at e;cases e;unfold Rep at h;obtain⟨a,xs,rfl,h1,h2⟩:=h;unfold L3.Rep;exact⟨a,xs,rfl,SqL.of h1,zw ds xs l h2 e1⟩
 |.fzl _,v,x,h,e=>by unfold toD at e;cases e
 |.obj _ _ _,v,x,h,e=>by unfold toD at e;cases e
 |.dic _ _,v,x,h,e=>by unfold toD at e;cases e
theorem zw:∀(ds:List D) (xs:List V) (l:List L3.Dq),n8 G H ds xs->BJ ds=some l->L3.n8 G.K H l xs
 |[],xs,l,h,e=>by unfold BJ at e;cases e;unfold n8 at h;unfold L3.n8;exact h
 |d::ds,xs,l,h,e=>by
  unfold BJ at e;cases e1:toD d with
  |none=>simp only[e1]at e;cases e
  |some x=>
   simp only[e1]at e;cases e2:BJ ds with
   |none=>simp only[e2]at e;cases e
   |some l'=>simp only[e2]at e;cases e;unfold n8 at h;obtain⟨v,r,rfl,h1,h2⟩:=h;unfold L3.n8;exact⟨v,r,rfl,BK d v x h1 e1,zw ds r l' h2 e2⟩
end
def FN(neg:Bool):D->D->Option D:=λx y=>match qm x&&qm y&&Gu (vD x) (vD y)with
 |true=>some (.bl (if neg then !decide (vD x=vD y)else decide (vD x=vD y)))
 |false=>none
def Na(neg:Bool):D->D->Option D:=λx y=>match toD x,toD y with
 |some a,some b=>if LB a b&&decide (dpt a<=20)&&decide (dpt b<=20)then some (.bl (if neg then !eqD a b else eqD a b))else none
 |_,_=>none
def dEq(neg:Bool):D->D->Option D:=λx y=>match FN neg x y with
 |some z=>some z
 |none=>Na neg x y
theorem Nc:OpD G rEq (FN false):=λx y z H0 H v u Q e s rx ry k=>by
 unfold FN at e;cases e1:qm x&&qm y&&Gu (vD x) (vD y)with
 |false=>simp only[e1]at e;cases e
 |true=>simp only[e1]at e;cases e;simp only[aC]at e1;rw[rR rx e1.1.1,rR ry e1.1.2];exact⟨e1.2,k _ λ_ _=>qh _⟩
theorem Nd:OpD G rNe (FN true):=λx y z H0 H v u Q e s rx ry k=>by
 unfold FN at e;cases e1:qm x&&qm y&&Gu (vD x) (vD y)with
 |false=>simp only[e1]at e;cases e
 |true=>simp only[e1]at e;cases e;simp only[aC]at e1;rw[rR rx e1.1.1,rR ry e1.1.2];exact⟨e1.2,k _ λ_ _=>qh _⟩
theorem Hu:OpD G (Dw G.K neg) (Na neg):=λx y z H0 H v u Q e s rx ry k=>by
 unfold Na at e;cases e1:toD x with
 |none=>simp only[e1]at e;cases e
 |some a=>
  cases e2:toD y with
  |none=>simp only[e1,e2]at e;cases e
  |some b=>
   simp only[e1,e2]at e;split at e
   ·rename_i hc;cases e;simp only[aC,bh]at hc;exact⟨a,b,BK x v a (Rep.mono s _ _ rx) e1,BK y u b (Rep.mono s _ _ ry) e2,hc.1.1,hc.1.2,hc.2,k _ λ_ _=>qh _⟩
   ·cases e
theorem Nf(hu:X.A.units+64<cLine)(hK:X.K=G.K:=by rfl):OpR X (aI .Eq) (λx y H Q=>rEq x y H Q\/Dw G.K false x y H Q):=by rw[<-hK];exact OpR.or PK (ML hu)
theorem Ng(hu:X.A.units+64<cLine)(hK:X.K=G.K:=by rfl):OpR X (aI .NotEq) (λx y H Q=>rNe x y H Q\/Dw G.K true x y H Q):=by rw[<-hK];exact OpR.or PL (MM hu)
theorem Qo:OpD G (λx y H Q=>rEq x y H Q\/Dw G.K false x y H Q) (dEq false):=OpD.or Nc Hu
theorem Qp:OpD G (λx y H Q=>rNe x y H Q\/Dw G.K true x y H Q) (dEq true):=OpD.or Nd Hu
def Hv:D->Option (List D)
 |.tup ds=>some ds
 |.lst ds=>some ds
 |.fzl ds=>some ds
 |_=>none
theorem Es{d:D}{v:V}(h:Rep G H d v)(e:Hv d=some ds):∃p xs,v=.ref p/\(SqL G.K H p xs\/SqT G.K H p xs)/\n8 G H ds xs:=by
 cases d with
 |tup l=>cases e;unfold Rep at h;obtain⟨a,xs,rfl,h1,h2⟩:=h;exact⟨a,xs,rfl,.inr h1,h2⟩
 |lst l=>cases e;unfold Rep at h;obtain⟨a,xs,rfl,h1,h2⟩:=h;exact⟨a,xs,rfl,.inl (SqL.of h1),h2⟩
 |fzl l=>cases e;unfold Rep at h;obtain⟨a,xs,rfl,h1,h2⟩:=h;exact⟨a,xs,rfl,.inl h1,h2⟩
 |_=>cases e
def dIn(neg:Bool):D->D->Option D:=λx y=>match Hv y with
 |some ds=>if qm x&&ds.all qm then some (.bl (if neg then !inV (vD x) (ds.map vD)else inV (vD x) (ds.map vD)))else none
 |none=>none
theorem Et{K:W.Frag}{H:Hp}{p:Addr}(s:oh H H')(h:SqL K H p xs\/SqT K H p xs):SqL K H' p xs\/SqT K H' p xs:=h.imp s.seq (SqT.mono s)
theorem LC:OpD G (rIn G.K neg) (dIn neg):=λx y z H0 H v u Q e s rx ry k=>by
 unfold dIn at e;cases e1:Hv y with
 |none=>simp only[e1]at e;cases e
 |some ds=>
  simp only[e1]at e;split at e
  ·rename_i hc;cases e;simp only[aC]at hc;obtain⟨p,xs,rfl,h1,h2⟩:=Es ry e1;refine⟨p,xs,rfl,Et s h1,?_,?_,?_⟩
   ·rw[rR rx hc.1];exact Cu hc.1
   ·rw[xP h2 hc.2];exact AN hc.2
   ·rw[rR rx hc.1,xP h2 hc.2];exact k _ λ_ _=>qh _
  ·cases e
theorem Nh(hK:X.K=G.K:=by rfl):OpR X (aI .In) (rIn G.K false):=by rw[<-hK];exact Fq
theorem FP(hK:X.K=G.K:=by rfl):OpR X (aI .NotIn) (rIn G.K true):=by rw[<-hK];exact By
def dIx:D->D->Option D
 |.tup ds,.int i=>atI ds i
 |.lst ds,.int i=>atI ds i
 |.fzl ds,.int i=>atI ds i
 |.str x,.int i=>if x.length<=100000 then (atI x.cps.toList i).map λc=>.str ⟨#[c]⟩else none
 |_,_=>none
theorem Qq:OpD G (rIx G.K) dIx:=λx y z H0 H v u Q e s rx ry k=>by
 cases y with
 |int i=>
  unfold Rep at ry;subst ry;cases x with
  |tup ds=>unfold Rep at rx;obtain⟨a,xs,rfl,h1,h2⟩:=rx;obtain⟨w,w1,w2⟩:=zp h2 (show atI ds i=some z from e);exact .inr (.inl ⟨a,xs,i,w,rfl,rfl,SqT.mono s h1,w1,k _ λH0' s'=>Rep.mono s' _ _ w2⟩)
  |lst ds=>unfold Rep at rx;obtain⟨a,xs,rfl,h1,h2⟩:=rx;obtain⟨w,w1,w2⟩:=zp h2 (show atI ds i=some z from e);exact .inl ⟨a,xs,i,w,rfl,rfl,s.seq (SqL.of h1),w1,k _ λH0' s'=>Rep.mono s' _ _ w2⟩
  |fzl ds=>unfold Rep at rx;obtain⟨a,xs,rfl,h1,h2⟩:=rx;obtain⟨w,w1,w2⟩:=zp h2 (show atI ds i=some z from e);exact .inl ⟨a,xs,i,w,rfl,rfl,s.seq h1,w1,k _ λH0' s'=>Rep.mono s' _ _ w2⟩
  |str t=>
   unfold Rep at rx;subst rx;unfold dIx at e;simp only at e;split at e
   ·rename_i hl;cases e1:atI t.cps.toList i with
    |none=>rw[e1]at e;cases e
    |some c=>rw[e1]at e;cases e;exact .inr (.inr ⟨t,i,c,rfl,rfl,zu hl,e1,k _ λ_ _=>sV _⟩)
   ·cases e
  |_=>cases e
 |_=>cases x<;>cases e
theorem Rp(hK:X.K=G.K:=by rfl):IxR X (rIx G.K):=by rw[<-hK];exact MC
def AO(G:Bg)(r:List V->Hp->VK->Prop)(g:D->Option D):Prop:=∀x z H0 H v (Q:VK),g x=some z->oh H0 H->Rep G H0 x v->(∀w,(∀H0',oh H0 H0'->Rep G H0' z w)->Q w H)->r [v] H Q
theorem LF{e:Expr}{r:List V->Hp->VK->Prop}{g:D->Option D}{f:FE}(hr:AO G r g)(h:PE X e (tCB r (tFA G (aCons f o6)))):PE X e (tF G (c1 g f)):=PE.weak h λσ H Q hh=>by obtain⟨F,ρ,H0,d,ρ',R,e,k⟩:=hh;obtain⟨x,e1,e2⟩:=wW e;refine⟨F,ρ,H0,[x],ρ',R,by unfold aCons;rw[e1];rfl,λys H1 H1' s R' rs=>?_⟩;unfold n8 at rs;obtain⟨v,r0,rfl,rv,rn⟩:=rs;unfold n8 at rn;subst rn;exact hr x d H1 H1' v Q e2 R'.sub rv λw hw=>k _ _ _ s R' (hw _ (oh.refl _))
theorem pM.or{f:aa}{r r':List V->Hp->VK->Prop}(h:pM X f r)(h':pM X f r'):pM X f (λx H Q=>r x H Q\/r' x H Q):=λpins s σ H xs us Q I rv q=>q.elim (h pins s σ H xs us Q I rv) (h' pins s σ H xs us Q I rv)
def uc:D->Option D
 |.tup ds=>some (.int ds.length)
 |.lst ds=>some (.int ds.length)
 |.fzl ds=>some (.int ds.length)
 |.str x=>if x.length<=100000 then some (.int x.length)else none
 |.dic ks ds=>some (.int ks.length)
 |_=>none
theorem FQ:pM X (.builtin "len") (λxs H Q=>∃a kvs,xs=[V.ref a]/\Rd H a (.dK kvs)/\Q (.int kvs.length) H):=by intro pins s σ H xs us Q I r h;obtain⟨a,kvs,rfl,ha,q⟩:=h;obtain⟨u,rfl,ru⟩:=vals1 r;cases ru;exact P6 I ha λt s' I'=>⟨.int kvs.length,H,I',⟨t,rfl⟩,q⟩
def LG(K:W.Frag):List V->Hp->VK->Prop:=λxs H Q=>(∃p ys,xs=[.ref p]/\(SqL K H p ys\/SqT K H p ys)/\Q (.int ys.length) H)\/((∃z,xs=[.str z]/\z.length<=av/\Q (.int z.length) H)\/(∃a kvs,xs=[V.ref a]/\Rd H a (.dK kvs)/\Q (.int kvs.length) H))
theorem FR(hK:X.K=G.K:=by rfl):pM X (.builtin "len") (LG G.K):=by rw[<-hK];exact pM.or BA (pM.or BB FQ)
theorem Ni:AO G (LG G.K) uc:=λx z H0 H v Q e s rx k=>by
 cases x with
 |tup ds=>cases e;unfold Rep at rx;obtain⟨a,xs,rfl,h1,h2⟩:=rx;refine .inl ⟨a,xs,rfl,.inr (SqT.mono s h1),?_⟩;rw[<-n9 h2];exact k _ λ_ _=>p8 _
 |lst ds=>cases e;unfold Rep at rx;obtain⟨a,xs,rfl,h1,h2⟩:=rx;refine .inl ⟨a,xs,rfl,.inl (s.seq (SqL.of h1)),?_⟩;rw[<-n9 h2];exact k _ λ_ _=>p8 _
 |fzl ds=>cases e;unfold Rep at rx;obtain⟨a,xs,rfl,h1,h2⟩:=rx;refine .inl ⟨a,xs,rfl,.inl (s.seq h1),?_⟩;rw[<-n9 h2];exact k _ λ_ _=>p8 _
 |str t=>
  unfold uc at e;simp only at e;split at e
  ·rename_i hl;cases e;unfold Rep at rx;exact .inr (.inl ⟨t,by rw[rx],zu hl,k _ λ_ _=>p8 _⟩)
  ·cases e
 |dic ks ds=>cases e;unfold Rep at rx;obtain⟨a,o,xs,rfl,h1,h2,h3⟩:=rx;refine .inr (.inr ⟨a,_,rfl,.inr ⟨o,s _ _ h1⟩,?_⟩);rw[eW,<- h2,fi];exact k _ λ_ _=>p8 _
 |_=>cases e
def Nj:D->Option D
 |.int i=>some (.int i)
 |.bl b=>some (.int (if b then 1 else 0))
 |_=>none
theorem Nk:AO G (λxs H Q=>(∃i,xs=[.int i]/\Q (.int i) H)\/∃k,xs=[.bl k]/\Q (.int (if k then 1 else 0)) H) Nj:=λx z H0 H v Q e s rx k=>by
 cases x with
 |int i=>cases e;unfold Rep at rx;subst rx;exact .inl ⟨i,rfl,k _ λ_ _=>p8 _⟩
 |bl b=>cases e;unfold Rep at rx;subst rx;exact .inr ⟨b,rfl,k _ λ_ _=>p8 _⟩
 |_=>cases e
def Aq:List D->Option (List Bool)
 |[]=>some []
 |.bl b::r=>(Aq r).map (b::·)
 |_=>none
theorem zx:∀{ds:List D} {xs:List V} {bs:List Bool},n8 G H ds xs->Aq ds=some bs->xs=bs.map V.bl
 |[],xs,bs,h,e=>by cases e;unfold n8 at h;exact h
 |.bl b::r,xs,bs,h,e=>by
  unfold n8 at h;obtain⟨v,q,rfl,h1,h2⟩:=h;unfold Aq at e;cases e1:Aq r with
  |none=>rw[e1]at e;cases e
  |some l=>rw[e1]at e;cases e;unfold Rep at h1;subst h1;rw[zx h2 e1];rfl
 |.non::r,xs,bs,h,e=>by cases e
 |.int _::r,xs,bs,h,e=>by cases e
 |.str _::r,xs,bs,h,e=>by cases e
 |.tup _::r,xs,bs,h,e=>by cases e
 |.lst _::r,xs,bs,h,e=>by cases e
 |.fzl _::r,xs,bs,h,e=>by cases e
 |.obj _ _ _::r,xs,bs,h,e=>by cases e
 |.dic _ _::r,xs,bs,h,e=>by cases e
def rT:D->Option D
 |.lst ds=>(Aq ds).map λbs=>.bl (bs.all id)
 |_=>none
theorem Nl:AO G (λxs H Q=>∃(p:Addr) (bs:List Bool),xs=[.ref p]/\SqL G.K H p (bs.map V.bl)/\Q (.bl (bs.all id)) H) rT:=λx z H0 H v Q e s rx k=>by
 cases x with
 |lst ds=>
  unfold rT at e;simp only at e;cases e1:Aq ds with
  |none=>rw[e1]at e;cases e
  |some bs=>rw[e1]at e;cases e;unfold Rep at rx;obtain⟨a,xs,rfl,h1,h2⟩:=rx;rw[zx h2 e1]at h1;exact⟨a,bs,rfl,s.seq (SqL.of h1),k _ λ_ _=>qh _⟩
 |_=>cases e
theorem FU(hc:X.calm=true)(hK:X.K=G.K:=by rfl):pM X (.builtin "all") (λxs H Q=>∃(p:Addr) (bs:List Bool),xs=[.ref p]/\SqL G.K H p (bs.map V.bl)/\Q (.bl (bs.all id)) H):=by rw[<-hK];exact GV hc
inductive Ty where
 |b (n:String)|c (k:Nat)
def Ty.val(G:Bg):Ty->aa
 |.b n=>.type n
 |.c k=>.ref (G.ca k)
def Ty.v(G:Bg):Ty->V
 |.b n=>.ty n
 |.c k=>.ref (G.ca k)
def tyD:D->Ty
 |.non=>.b "NoneType" |.bl _=>.b "bool" |.int _=>.b "int" |.str _=>.b "str" |.tup _=>.b "tuple" |.lst _=>.b "list" |.fzl _=>.b "list" |.dic _ _=>.b "dict" |.obj c _ _=>.c c
structure Cv(K:W.Frag)(C:Addr):Prop where
 cl:Cls K C
 ha:W.findIn K (.ref C) "__class__" = some (some (.builtin "object.__class__"))
 hn:W.specialIn K (.builtin "object.__class__") "__get__" = some (some (.builtin "getset_descriptor.__get__"))
 htk:W.takesIn K (.builtin "object.__class__")=some true
 hm:W.mroIn K C (.type "object")=some true
theorem Hw{pins:List (Addr×Obj)}{s:ae}{A:au}{E:aa->ae->Prop}{Q:aa->ae->Prop}{c:aa}{b:Bool}{d:D}{v:V}{u:aa}(I:Inv X pins σ H s)(hK:X.K=G.K)(hd:Rep G H d v)(rv:RelV v u)(hc:∀k ns ds,d=.obj k ns ds->Cv X.K (G.ca k))
  (e:W.kitOne X.K ((tyD d).val G) c=some b) (h:∀tk,Q (.bool b) { s with toks:=tk }):af (model X.prog X.w) A (call (.builtin "isinstance") [u,c]) Q E s:=by
 cases d with
 |non=>unfold Rep at hd;subst hd;exact sr I rv .non e h
 |bl x=>unfold Rep at hd;subst hd;exact sr I rv (.bl x) e h
 |int x=>unfold Rep at hd;subst hd;exact sr I rv (.int x) e h
 |str x=>unfold Rep at hd;subst hd;exact sr I rv (.str x) e h
 |tup ds=>unfold Rep at hd;obtain⟨a,xs,rfl,h1,h2⟩:=hd;cases rv;rw[<-hK]at h1;obtain⟨its,_,p,_⟩:=I.tuple h1;obtain⟨o,q1,q2,_⟩:=p;exact W.kia_one W.kitx_tuple I.kIn ⟨o,q1,q2⟩ e (λz=>nomatch z) h
 |lst ds=>unfold Rep at hd;obtain⟨a,xs,rfl,h1,h2⟩:=hd;exact sr I rv (.lst h1) e h
 |fzl ds=>unfold Rep at hd;obtain⟨a,xs,rfl,h1,h2⟩:=hd;cases rv;rw[<-hK]at h1;obtain⟨its,_,p,_⟩:=I.list h1;obtain⟨o,n,q1,q2,_⟩:=p;exact W.kia_one W.kitx_list I.kIn ⟨o,q1,q2⟩ e (λz=>nomatch z) h
 |dic ks ds=>unfold Rep at hd;obtain⟨a,o,xs,rfl,h1,h2,h3⟩:=hd;cases rv;obtain⟨q0,_,_,vs,_,ob,es,ep,q1,q2,_⟩:=(show ObjOk X.prog X.w H s.heap a (.frz o (.dK (ks.zip xs))) from I.hok a _ h1);exact W.kia_one W.kitx_dict I.kIn ⟨ob,q1,q2.1⟩ e (λz=>nomatch z) h
 |obj k ns ds=>have ci:=hc k ns ds rfl;unfold Rep at hd;obtain⟨a,dx,xs,rfl,h1,h2,h3⟩:=hd;exact sr I rv (.ins h1 ci.cl ci.ha ci.hn ci.htk ci.hm) e h
def pd(t:Ty->Option Bool):D->Option D:=λd=>(t (tyD d)).map .bl
theorem AQ(c:Ty){t:Ty->Option Bool}(ht:∀y b,t y=some b->W.kitOne X.K (y.val G) (c.val G)=some b)(hc:∀k b,t (.c k)=some b->Cv X.K (G.ca k))(hK:X.K=G.K:=by rfl):
  pM X (.builtin "isinstance") (λxs H Q=>∃d x b,xs=[x,c.v G]/\Rep G H d x/\t (tyD d)=some b/\Q (.bl b) H):=by
 intro pins s σ H xs us Q I r h;obtain⟨d,x,b,rfl,hd,e,q⟩:=h;obtain⟨u,w',rfl,ru,rw'⟩:=vals2 r;have ew:w'=c.val G:=by cases c<;>exact rw'
 subst ew;exact Hw I hK hd ru (λk ns ds z=>by subst z;exact hc k b e) (ht _ _ e) λtk=>⟨.bl b,H,I.tok _,rfl,q⟩
theorem Eu{e:Expr}{c:Ty}{t:Ty->Option Bool}{f:FE}(h:PE X e (tCB (λxs H Q=>∃d x b,xs=[x,c.v G]/\Rep G H d x/\t (tyD d)=some b/\Q (.bl b) H) (u7 (tF G f) (u7 (tC (c.v G)) y8)))):PE X e (tF G (c1 (pd t) f)):=PE.weak h λσ H Q hh=>by
 obtain⟨F,ρ,H0,d,ρ',R,e,k⟩:=hh;obtain⟨x,e1,e2⟩:=wW e;unfold pd at e2;cases e3:t (tyD x)with
 |none=>rw[e3]at e2;cases e2
 |some b=>rw[e3]at e2;cases e2;exact⟨F,ρ,H0,x,ρ',R,e1,λv H1 H1' s R' r=>⟨x,v,b,rfl,Rep.mono R'.sub _ _ r,e3,k _ _ _ s R' (qh b)⟩⟩
def p9(f g:FE):FA:=λρ=>match f ρ with
 |some (.lst xs,ρ1)=>match g ρ1 with
  |some (.lst ys,ρ2)=>if xs.length+ys.length<=1000 then some (xs++ys,ρ2)else none
  |_=>none
 |_=>none
theorem Ks{a b:Expr}{f g:FE}(ha:PE X a (tF G f))(hb:PE X b (tF G g)):PE X (.BinOp a .Add b pos) (tFN G (p9 f g)):=PE.weak (D7 GL ha hb) λσ H Q hh=>by
 obtain⟨F,ρ,H0,d,ρ',R,e,k⟩:=hh;unfold p9 at e;split at e
 ·rename_i xs ρ1 e1;split at e
  ·rename_i ys ρ2 e2;split at e
   ·rename_i hl;cases e;refine⟨F,ρ,H0,_,ρ1,R,e1,λv H1 H1' s R' r=>⟨F,ρ1,H1,_,_,R',e2,λu H2 H2' s2 R2 r2=>?_⟩⟩;have r':=Rep.mono s2 _ _ r;unfold Rep at r' r2;obtain⟨a1,xs1,rfl,h1,h2⟩:=r';obtain⟨a2,xs2,rfl,h3,h4⟩:=r2;refine⟨a1,a2,xs1,xs2,rfl,rfl,R2.sub _ _ h1,R2.sub _ _ h3,by rw[<-n9 h2,<- n9 h4];exact qC hl,λp hp=>?_⟩;exact k p _ _ _ (s.trans s2) (R2.newOwn hp _) oi (R2.h0none hp) (R2.bNone hp) (R2.apart hp) (pU h2 h4)
   ·cases e
  ·cases e
 ·cases e
def vm(f:FE):FA:=λρ=>match f ρ with
 |some (d,ρ1)=>match Hv d with
  |some ds=>some (ds,ρ1)
  |none=>none
 |none=>none
theorem Hy{e:Expr}{f:FE}(h:PE X e (tCB (λxs H Q=>∃p ys,xs=[.ref p]/\(SqL G.K H p ys\/SqT G.K H p ys)/\∀l,H l=none->Q (.ref l) (upd H l (.lst ys))) (tFA G (aCons f o6)))):PE X e (tFN G (vm f)):=PE.weak h λσ H Q hh=>by
 obtain⟨F,ρ,H0,ds,ρ',R,e,k⟩:=hh;unfold vm at e;rcases oB (f:=f) (ρ:=ρ)with e1|⟨d,ρ1,e1⟩<;>simp only[e1]at e
 ·cases e
 ·cases e2:Hv d with
  |none=>simp only[e2]at e;cases e
  |some ds'=>simp only[e2]at e;cases e;refine⟨F,ρ,H0,[d],_,R,by unfold aCons;rw[e1];rfl,λys H1 H1' s R' rs=>?_⟩;unfold n8 at rs;obtain⟨v,r0,rfl,rv,rn⟩:=rs;unfold n8 at rn;subst rn;obtain⟨p,xs,rfl,h1,h2⟩:=Es rv e2;exact⟨p,xs,rfl,Et R'.sub h1,λl hl=>k l _ _ _ s (R'.newOwn hl _) oi (R'.h0none hl) (R'.bNone hl) (R'.apart hl) h2⟩
theorem DE(hK:X.K=G.K:=by rfl):pM X (.type "list") (λxs H Q=>∃p ys,xs=[.ref p]/\(SqL G.K H p ys\/SqT G.K H p ys)/\∀l,H l=none->Q (.ref l) (upd H l (.lst ys))):=by rw[<-hK];exact BC
def Ew(f:FE):FE:=λρ=>match f ρ with
 |some (.lst ds,ρ1)=>some (.tup ds,ρ1)
 |some (.tup ds,ρ1)=>some (.tup ds,ρ1)
 |_=>none
theorem Hz{e:Expr}{f:FE}(h:PE X e (tCB (λxs H Q=>∃p ys,xs=[.ref p]/\((SqL G.K H p ys/\∀l,H l=none->Q (.ref l) (upd H l (.tup ys)))\/(SqT G.K H p ys/\Q (.ref p) H))) (tFA G (aCons f o6)))):PE X e (tF G (Ew f)):=PE.weak h λσ H Q hh=>by
 obtain⟨F,ρ,H0,ds,ρ',R,e,k⟩:=hh;unfold Ew at e;split at e
 ·rename_i xs ρ1 e1;cases e;refine⟨F,ρ,H0,[_],_,R,by unfold aCons;rw[e1];rfl,λys H1 H1' s R' rs=>?_⟩;unfold n8 at rs;obtain⟨v,r0,rfl,rv,rn⟩:=rs;unfold n8 at rn;subst rn;unfold Rep at rv;obtain⟨p,zs,rfl,h1,h2⟩:=rv;refine⟨p,zs,rfl,.inl ⟨SqL.of (R'.sub _ _ h1),λl hl=>?_⟩⟩;exact k _ _ _ (s.trans (oq (R'.h0none hl) _)) (R'.newIm hl _) (yR (SqT.of oi) (n8.mono (oq (R'.h0none hl) _) _ _ h2))
 ·rename_i xs ρ1 e1;cases e;refine⟨F,ρ,H0,[_],_,R,by unfold aCons;rw[e1];rfl,λys H1 H1' s R' rs=>?_⟩;unfold n8 at rs;obtain⟨v,r0,rfl,rv,rn⟩:=rs;unfold n8 at rn;subst rn;have rv0:=rv;unfold Rep at rv;obtain⟨p,zs,rfl,h1,h2⟩:=rv;exact⟨p,zs,rfl,.inr ⟨SqT.mono R'.sub h1,k _ _ _ s R' rv0⟩⟩
 ·cases e
theorem FV(hK:X.K=G.K:=by rfl):pM X (.type "tuple") (λxs H Q=>∃p ys,xs=[.ref p]/\((SqL G.K H p ys/\∀l,H l=none->Q (.ref l) (upd H l (.tup ys)))\/(SqT G.K H p ys/\Q (.ref p) H))):=by rw[<-hK];exact Al
def cutD(xs:List D)(lo hi:Option Int):List D:=(xs.drop (HT.sIx xs.length 0 lo)).take (HT.sIx xs.length xs.length hi - HT.sIx xs.length 0 lo)
theorem Cy{lo hi:Option Int}(r:n8 G H0 ds xs):n8 G H0 (cutD ds lo hi) (Fo xs lo hi):=by unfold cutD Fo;rw[<-n9 r];exact AK _ (AJ _ r)
def cSl(f:FE)(lo hi:Option Int):FA:=λρ=>match f ρ with
 |some (.lst ds,ρ1)=>some (cutD ds lo hi,ρ1)
 |some (.fzl ds,ρ1)=>some (cutD ds lo hi,ρ1)
 |_=>none
def tO(o:Option Int):TO:=λ_ H Q=>Q o H
theorem FW{e:Expr}{f:FE}{lo hi:Option Int}(h:PE X e (tSl (Fp G.K) (tF G f) (tO lo) (tO hi))):PE X e (tFN G (cSl f lo hi)):=PE.weak h λσ H Q hh=>by
 obtain⟨F,ρ,H0,ds,ρ',R,e,k⟩:=hh;have gen:∀{a:Addr} {xs:List V} {ds':List D} {H1 H1':Hp},oh H0 H1->RelE G F σ ρ' H1 H1'->SqL G.K H1 a xs->n8 G H1 ds' xs->ds=cutD ds' lo hi->Fp G.K (.ref a) lo hi H1' Q:=λ{a xs ds' H1 H1'} s R' h1 h2 e=>by subst e;exact⟨a,xs,rfl,R'.sub.seq h1,λp hp=>k p _ _ _ s (R'.newOwn hp _) oi (R'.h0none hp) (R'.bNone hp) (R'.apart hp) (Cy h2)⟩
 unfold cSl at e;split at e
 ·rename_i xs ρ1 e1;cases e;refine⟨F,ρ,H0,_,_,R,e1,λv H1 H1' s R' r=>?_⟩;unfold Rep at r;obtain⟨a,ys,rfl,h1,h2⟩:=r;exact gen s R' (SqL.of h1) h2 rfl
 ·rename_i xs ρ1 e1;cases e;refine⟨F,ρ,H0,_,_,R,e1,λv H1 H1' s R' r=>?_⟩;unfold Rep at r;obtain⟨a,ys,rfl,h1,h2⟩:=r;exact gen s R' h1 h2 rfl
 ·cases e
theorem HA{n:Int}{j pos}:PO X (some (.Constant (.int n) j pos)) (tO (some n)):=λpins s σ H Q I h=>Ed Dc pins s σ H Q I ⟨n,rfl,h⟩
theorem Qr:PO X none (tO none):=Ec
theorem Qs(hK:X.K=G.K:=by rfl):SlR X (Fp G.K):=by rw[<-hK];exact JH
end
def Sl.bor:Sl->Sl
 |.un=>.un
 |.im d=>.im d
 |.ls ds=>.im (.lst ds)
 |.pm ds=>.im (.lst ds)
 |.dk _ _=>.un
 |.ob c ns ds=>.im (.obj c ns ds)
variable{fa fb fc:FE}{op':dQ}
section
variable{X:Cx}{G:Bg}
theorem RelE.bor{H:Hp}(R:RelE G F σ ρ H0 H):RelE G ⟨H,H,[]⟩ σ (ρ.map Sl.bor) H H where
 sub:=oh.refl _
 g0:=oh.refl _
 keep:=λb o e _=>e
 fr:=λb o e=>.inl e
 am:=λa h=>by cases h
 len:=by rw[ar];exact R.len
 sl:=λi s e=>by
  rw[aU]at e;cases e1:ρ[i]? with
  |none=>rw[e1]at e;cases e
  |some t=>
   rw[e1]at e;cases e;have ok:=R.sl i t e1;cases t with
   |un=>trivial
   |im d=>obtain⟨v,h1,h2⟩:=ok;exact⟨v,h1,Rep.mono R.sub _ _ h2⟩
   |ls ds=>obtain⟨a,xs,h1,h2,h3,h4,h5⟩:=ok;exact⟨_,h1,sU h2 (n8.mono R.sub _ _ h5)⟩
   |pm ds=>obtain⟨a,xs,h1,h2,h3,h4,h5⟩:=ok;exact⟨_,h1,sU h2 (n8.mono R.sub _ _ h5)⟩
   |dk ks ds=>trivial
   |ob c ns ds=>obtain⟨a,dx,xs,h1,h2,h3,h4,h5,h6⟩:=ok;exact⟨_,h1,by unfold Rep;exact⟨a,dx,xs,rfl,h2,h5,n8.mono R.sub _ _ h6⟩⟩
 ap:=λi j s t a _ e _ so=>by
  rw[aU]at e;cases e1:ρ[i]? with
  |none=>rw[e1]at e;cases e
  |some t=>rw[e1]at e;cases e;cases t<;>cases so
theorem RelE.unbor{σ':St}{H:Hp}(R:RelE G F σ ρ H0 H)(R':RelE G ⟨H,H,[]⟩ σ' ρ' H1 H1'):RelE G F σ ρ H0 H1':=
 R.grow (λb o e=>R'.keep b o e (by simp)) (oh.refl _) (λb o e=>R'.keep b o (R.sub _ _ e) (by simp)) λb o e=>.inl e
def u0(f:FE):FE:=λρ=>match f (ρ.map Sl.bor)with
 |some (d,_)=>if qm d=true then some (d,ρ)else none
 |none=>none
def vn(f:FT):FT:=λρ=>match f (ρ.map Sl.bor)with
 |some (d,_)=>some (d,ρ)
 |none=>none
theorem Nm{e:Expr}{f:FE}(h:PE X e (tF G f)):PE X e (tF G (u0 f)):=PE.weak h λσ H Q hh=>by
 obtain⟨F,ρ,H0,d,ρ',R,e,k⟩:=hh;unfold u0 at e;rcases oB (f:=f) (ρ:=ρ.map Sl.bor)with e1|⟨x,ρ1,e1⟩<;>simp only[e1]at e
 ·cases e
 ·split at e
  ·rename_i hf;cases e;refine⟨_,_,H,d,ρ1,R.bor,e1,λv H1 H1' s R' r=>?_⟩;rw[rR r hf];exact k _ _ _ (oh.refl _) (R.unbor R') (w5 hf _)
  ·cases e
theorem Kt{e:Expr}{f:FT}(h:PT X e (tFT G f)):PT X e (tFT G (vn f)):=PT.weak h λσ H Q hh=>by
 obtain⟨F,ρ,H0,d,ρ',R,e,k⟩:=hh;unfold vn at e;rcases oB (f:=f) (ρ:=ρ.map Sl.bor)with e1|⟨x,ρ1,e1⟩<;>simp only[e1]at e
 ·cases e
 ·cases e;exact⟨_,_,H,d,ρ1,R.bor,e1,λH1 H1' s R'=>k _ _ (oh.refl _) (R.unbor R')⟩
def rq(g g':D->D->Option D)(fa fb fc:FE):FE:=λρ=>match fa ρ with
 |some (x,ρ1)=>match fb ρ1 with
  |some (y,ρ2)=>match g x y with
   |some (.bl true)=>match fc ρ2 with
    |some (z,ρ3)=>match g' y z with
     |some w=>some (w,ρ3)
     |none=>none
    |none=>none
   |some (.bl false)=>some (.bl false,ρ2)
   |_=>none
  |none=>none
 |none=>none
theorem CA{r:R2}{g:D->D->Option D}(ho:OpD G r g)(ho':OpD G r' g'):∀σ H Q,tF G (rq g g' fa fb fc) σ H Q->Di r r' (tF G fa) (tF G fb) (tF G fc) σ H Q:=λσ H Q hh=>by
 obtain⟨F,ρ,H0,d,ρ',R,e,k⟩:=hh;unfold rq at e;rcases oB (f:=fa) (ρ:=ρ)with e1|⟨x,ρ1,e1⟩<;>simp only[e1]at e
 ·cases e
 rcases oB (f:=fb) (ρ:=ρ1)with e2|⟨y,ρ2,e2⟩<;>simp only[e2]at e
 ·cases e
 refine⟨F,ρ,H0,x,ρ1,R,e1,λv H1 H1' s1 R1 r1=>⟨F,ρ1,H1,y,ρ2,R1,e2,λu H2 H2' s2 R2 r2=>?_⟩⟩;split at e
 ·rename_i e3;refine ho x y _ H2 H2' v u _ e3 R2.sub (Rep.mono s2 _ _ r1) r2 λw hw=>?_;have hw':=hw H2 (oh.refl _);unfold Rep at hw';refine⟨true,hw',Cd ?_⟩;rcases oB (f:=fc) (ρ:=ρ2)with e4|⟨z,ρ3,e4⟩<;>simp only[e4]at e
  ·cases e
  cases e5:g' y z with
  |none=>simp only[e5]at e;cases e
  |some q=>simp only[e5]at e;cases e;refine⟨F,ρ2,H2,z,_,R2,e4,λt H3 H3' s3 R3 r3=>?_⟩;exact ho' y z _ H3 H3' u t Q e5 R3.sub (Rep.mono s3 _ _ r2) r3 λw hw=>k w H3 H3' (s1.trans (s2.trans s3)) R3 (hw _ (oh.refl _))
 ·rename_i e3;cases e;refine ho x y _ H2 H2' v u _ e3 R2.sub (Rep.mono s2 _ _ r1) r2 λw hw=>?_;have hw':=hw H2 (oh.refl _);unfold Rep at hw';exact⟨false,hw',Cb (k _ _ _ (s1.trans s2) R2 (qh false))⟩
 ·cases e
theorem HB{a b c:Expr}{r:R2}{g:D->D->Option D}(hr:OpR X (aI op) r)(hr':OpR X (aI op') r')(ho:OpD G r g)(ho':OpD G r' g')(ha:PE X a (tF G fa))(hb:PE X b (tF G fb))(hc:PE X c (tF G fc))
  (hm:lastMarks [op,op'] [b,c]=false:=by with_unfolding_all rfl):PE X (.Compare a [op,op'] [b,c] pos) (tF G (rq g g' fa fb fc)):=PE.weak (Gx hr hr' ha hb hc hm) (CA ho ho')
theorem FX{a b c:Expr}{r:R2}{g:D->D->Option D}(hr:OpR X (aI op) r)(hr':OpR X (aI op') r')(ho:OpD G r g)(ho':OpD G r' g')(ha:PE X a (tF G fa))(hb:PE X b (tF G fb))(hc:PE X c (tF G fc))
  (hm:lastMarks [op,op'] [b,c]=false:=by with_unfolding_all rfl):PT X (.Compare a [op,op'] [b,c] pos) (tFT G (cT (rq g g' fa fb fc))):=PT.weak (Gy hr hr' ha hb hc hm) λσ H Q hh=>by
 obtain⟨F,ρ,H0,d,ρ',R,e,k⟩:=Em σ H Q hh;exact CA ho ho' σ H _ ⟨F,ρ,H0,d,ρ',R,e,k⟩
end
def wc(P:aq)(w:aj)(K:W.Frag)(mg:Str->Option aa)(base:Heap)(k:Nat)(x:Str)(ps:List Str)(sp:Sp):Prop:=
 ∃(f:Addr) (fd:aW),mg x=some (.ref f)/\W.keepIn K (.ref f)=true/\Binds K fd ps []/\qx P w K mg base CX0 k f fd ps sp
def BL(G:Bg)(P:aq)(w:aj)(mg:Str->Option aa)(base:Heap)(k:Nat)(x:Str)(c:Nat)(ps:List Str)(dvs:List V)(g:List D->Option (List Str×List D)):Prop:=
 ∃(f:Addr) (fd:aW) (ds:List aa),Mk G.K (G.ca c) f/\mg x=some (.ref (G.ca c))/\Binds G.K fd ps ds/\Vals dvs ds/\qx P w G.K mg base CX0 k f fd ps (spI G c g)
def xR(G:Bg)(P:aq)(w:aj)(mg:Str->Option aa)(base:Heap)(k:Nat)(m:Str)(c:Nat)(h:List D->Option D):Prop:=
 ∃(f:Addr) (fd:aW) (ps:List Str),Cls G.K (G.ca c)/\Meth G.K (G.ca c) m f/\Binds G.K fd ps []/\qx P w G.K mg base CX0 k f fd ps (spF G h)
section
variable{X:Cx}{G:Bg}{k:Nat}{x m:Str}{p pos apos:Pos}{e o:Expr}{es:List Expr}{a:FA}{ps:List Str}
theorem yd{α:Type}(g:List D->α):(λds=>g (ds++[]))=g:=funext λds=>by rw[bE]
theorem Np{g:List D->Option D}(D:wc X.prog X.w X.K X.mg X.base k x ps (spF G g))(hr:pJ k X.A)(ha:PA X (e::es) (tFA G a))(hg:Gl X x:=by rfl)(hdb:(x==("__debug__" : Str))=false:=by decide)(he:ao (e::es) X.env=(false,eval e X.env)::ao es X.env:=by rfl)(hpl:(aK pos (ao es X.env)).any (·.1)=false:=by rfl):
  PE X (.Call (.Name x p) (e::es) [] pos) (tF G (n6 g a)):=by
 obtain⟨f,fd,h1,h2,h3,h4⟩:=D;have q:=Kg (dvs:=[]) (dds:=[]) (λ_=>oO) (yQ (p:=p) (pos:=pos) h4 hr hg h1 h2 h3 .nil AF ha hdb he hpl);rw[yd]at q;exact q
theorem Ku{g:List D->Option (List D)}(D:wc X.prog X.w X.K X.mg X.base k x ps (spN G g))(hr:pJ k X.A)(ha:PA X (e::es) (tFA G a))(hg:Gl X x:=by rfl)(hdb:(x==("__debug__" : Str))=false:=by decide)(he:ao (e::es) X.env=(false,eval e X.env)::ao es X.env:=by rfl)(hpl:(aK pos (ao es X.env)).any (·.1)=false:=by rfl):
  PE X (.Call (.Name x p) (e::es) [] pos) (tFN G (pL g a)):=by
 obtain⟨f,fd,h1,h2,h3,h4⟩:=D;have q:=G9 (dvs:=[]) (dds:=[]) (λ_=>oO) (yQ (p:=p) (pos:=pos) h4 hr hg h1 h2 h3 .nil AF ha hdb he hpl);rw[yd]at q;exact q
theorem HC{g:List D->Option (List D)}(D:wc X.prog X.w X.K X.mg X.base k x ps (spN G g))(hr:pJ k X.A)(hg:Gl X x:=by rfl)(hdb:(x==("__debug__" : Str))=false:=by decide):PE X (.Call (.Name x p) [] [] pos) (tFN G (pL g o6)):=by obtain⟨f,fd,h1,h2,h3,h4⟩:=D;exact FH (GE h4 hr hg h1 h2 h3 .nil AF hdb)
theorem Kv{g:List D->List D->Option (D×List D)}{i:Nat}(D:wc X.prog X.w X.K X.mg X.base k x ps (spM G g))(hr:pJ k X.A)(hv:PE X e (um i))(ha:PA X es (tFA G a))(hg:Gl X x:=by rfl)(hdb:(x==("__debug__" : Str))=false:=by decide)(he:ao (e::es) X.env=(false,eval e X.env)::ao es X.env:=by rfl)(hpl:(aK pos (ao es X.env)).any (·.1)=false:=by rfl):
  PE X (.Call (.Name x p) (e::es) [] pos) (tF G (xO g i a)):=by
 obtain⟨f,fd,h1,h2,h3,h4⟩:=D;exact MY (yQ (p:=p) (pos:=pos) h4 hr hg h1 h2 h3 .nil AF (o5 hv ha he) hdb he hpl)
theorem Kw{c:Nat}{g:List D->Option (List Str×List D)}(M:BL G X.prog X.w X.mg X.base k x c ps dvs g)(hd:∀H,n8 G H dds dvs)(hr:pJ (k+1) X.A)(ha:PA X (e::es) (tFA G a))(hK:X.K=G.K:=by rfl)(hg:Gl X x:=by rfl)(hdb:(x==("__debug__" : Str))=false:=by decide)
  (he:ao (e::es) X.env=(false,eval e X.env)::ao es X.env:=by rfl) (hpl:(aK pos (ao es X.env)).any (·.1)=false:=by rfl):
  PE X (.Call (.Name x p) (e::es) [] pos) (tF G (oA c (λds=>g (ds++dds)) a)):=by
 obtain⟨f,fd,ds,h1,h2,h3,h4,h5⟩:=M;rw[<-hK]at h1 h3 h5;exact Ki hd (Eb (p:=p) (pos:=pos) h1 h5 hr hg h2 h3 h4 AF ha hdb he hpl)
theorem LH{g:Nat->Option (List D->Option D)}(M:∀c h,g c=some h->xR G X.prog X.w X.mg X.base k m c h)(hr:pJ k X.A)(hK:X.K=G.K):∀C sp,MT G g C sp->MOk X C m sp [] E0:=λC sp h=>by obtain⟨c,h,e,rfl,rfl⟩:=h;obtain⟨f,fd,ps,q1,q2,q3,q4⟩:=M c h e;rw[<-hK]at q1 q2 q3 q4;exact⟨k,f,fd,ps,[],q1,q2,q4,hr,q3,.nil,AF⟩
theorem FY{f:FE}{g:Nat->Option (List D->Option D)}{pl:Sem Bool}(M:∀c h,g c=some h->xR G X.prog X.w X.mg X.base k m c h)(hr:pJ k X.A)(ho:PE X o (tF G f))(ha:PA X (e::es) (tFA G a))(hK:X.K=G.K:=by rfl)
  (hst:ao (e::es) X.env=(false,eval e X.env)::ao es X.env:=by rfl) (hpl:(aK pos (ao es X.env)).any (·.1)=false:=by rfl)
  (ht:eval (.Call (.Attribute o m apos) (e::es) [] pos) X.env=(do
   let ov<-eval o X.env
   standAt apos.atName
   let (f,first)<-holding [ov] (getMethod ov m pl)
   callWith pos f first (aK pos (ao (e::es) X.env)) (backToKw pos (cy [] X.env))):=by rfl):
  PE X (.Call (.Attribute o m apos) (e::es) [] pos) (tF G (pV g m f a)):=Kh (E:=E0) (Hf (dvs:=[]) (MT G g) (LH M hr hK) ho ha hst hpl ht)
theorem DF{f:FE}{g:Nat->Option (List D->Option D)}{pl:Sem Bool}(M:∀c h,g c=some h->xR G X.prog X.w X.mg X.base k m c h)(hr:pJ k X.A)(ho:PE X o (tF G f))(hK:X.K=G.K:=by rfl)
  (ht:eval (.Call (.Attribute o m apos) [] [] pos) X.env=(do
   let ov<-eval o X.env
   standAt apos.atName
   let (f,first)<-holding [ov] (getMethod ov m pl)
   callWith pos f first (aK pos (ao [] X.env)) (backToKw pos (cy [] X.env))):=by rfl):
  PE X (.Call (.Attribute o m apos) [] [] pos) (tF G (pV g m f o6)):=Hg (E:=E0) (FJ (dvs:=[]) (MT G g) (LH M hr hK) ho ht)
end
section
variable{P:aq}{w:aj}{K:W.Frag}{mg:Str->Option aa}{base:Heap}{x qual:Str}{st:Stmt}{f T:Addr}{fd:aW}{N ps:List Str}{k:Nat}{G:Bg}
abbrev vo(P:aq)(w:aj)(K:W.Frag)(mg:Str->Option aa)(base:Heap)(N:List Str)(qual:Str)(st:Stmt)(f:Addr)(cdv:aa)(A:au)(outer:List Env)(s:ae)(H:Hp)(E:XK):Cx:=(Bu CX0 P w K mg base N qual (ot st) f cdv A outer s H E).nox
theorem HD{n:Nat}{g:List D->Option D}{b:FS}(hg:g=fnD np n b)(hp:ps.length=np)(hN:N.length=n)(F:Fun K x qual st f fd)(S:p7 N ps (ot st))(body:∀(cdv:aa) (A:au) (outer:List Env) (s:ae) (H:Hp) (E:XK),pJ k (A.deeper (envOfC qual (ot st) s.heap.objs.size f cdv))->PSs (vo P w K mg base N qual st f cdv A outer s H E) (oN st) (tFS G b)):
  qx P w K mg base CX0 (k+1) f fd ps (spF G g):=by
 subst hg hp hN;exact F.ok S (Qg Ka) λcdv A outer s H vs Q E hr h=>⟨_,body cdv A outer s H E hr,J3 (by have:=aS cj S.pre;rw[aZ]at this;omega) h⟩
theorem Qt{n:Nat}{g:List D->Option (List D)}{b:FS}(hg:g=fnN np n b)(hp:ps.length=np)(hN:N.length=n)(F:Fun K x qual st f fd)(S:p7 N ps (ot st))(body:∀(cdv:aa) (A:au) (outer:List Env) (s:ae) (H:Hp) (E:XK),pJ k (A.deeper (envOfC qual (ot st) s.heap.objs.size f cdv))->PSs (vo P w K mg base N qual st f cdv A outer s H E) (oN st) (tFS G b)):
  qx P w K mg base CX0 (k+1) f fd ps (spN G g):=by
 subst hg hp hN;exact F.ok S (Qh Kb) λcdv A outer s H vs Q E hr h=>⟨_,body cdv A outer s H E hr,J4 (by have:=aS cj S.pre;rw[aZ]at this;omega) h⟩
theorem Qu{n:Nat}{g:List D->List D->Option (D×List D)}{b:FS}{p:Str}{ps:List Str}(hg:g=fnM np n b)(hp:ps.length=np)(hN:N.length=n)(F:Fun K x qual st f fd)(S:p7 N (p::ps) (ot st))(body:∀(cdv:aa) (A:au) (outer:List Env) (s:ae) (H:Hp) (E:XK),pJ k (A.deeper (envOfC qual (ot st) s.heap.objs.size f cdv))->PSs (vo P w K mg base N qual st f cdv A outer s H E) (oN st) (tFS G b)):
  qx P w K mg base CX0 (k+1) f fd (p::ps) (spM G g):=by
 subst hg hp hN;exact F.ok S (Qj Kn) λcdv A outer s H vs Q E hr h=>⟨_,body cdv A outer s H E hr,Km (by have:=aS cj S.pre;rw[aZ,aB]at this;omega) h⟩
theorem LI{c:Nat}{g:List D->Option (List Str×List D)}(hg:∀ds q,g ds=some q->ds.length=np):∀vs H Q E,spI G c g vs H Q E->vs.length=np+1:=λvs H Q E h=>by obtain⟨p,dx,us,H0,ds,ns,es,rfl,_,_,_,r,e,_⟩:=h;rw[aB,<- n9 r,hg _ _ e]
theorem Qv{n:Nat}{g:List D->Option (List Str×List D)}{b:FS}{c:Nat}{p:Str}{ps:List Str}(hg:g=fnI c np n b)(hp:ps.length=np)(hN:N.length=n)(F:Fun K x qual st f fd)(S:p7 N (p::ps) (ot st))(body:∀(cdv:aa) (A:au) (outer:List Env) (s:ae) (H:Hp) (E:XK),pJ k (A.deeper (envOfC qual (ot st) s.heap.objs.size f cdv))->PSs (vo P w K mg base N qual st f cdv A outer s H E) (oN st) (tFS G b)):
  qx P w K mg base CX0 (k+1) f fd (p::ps) (spI G c g):=by
 subst hg hp hN;exact F.ok S (LI λds q h=>(zl h).1) λcdv A outer s H vs Q E hr h=>⟨_,body cdv A outer s H E hr,BH (by have:=aS cj S.pre;rw[aZ,aB]at this;omega) h⟩
theorem Nq{n:Nat}{g:List D->Option (List Str×List D)}{b:FS}{c:Nat}{p:Str}{ps:List Str}(hg:g=fnI c np n b)(hp:ps.length=np)(hN:N.length=n)(F:FC K x qual st f fd T)(S:p7 N (p::ps) (ot st))(body:∀(cdv:aa) (A:au) (outer:List Env) (s:ae) (H:Hp) (E:XK),pJ k (A.deeper (envOfC qual (ot st) s.heap.objs.size f cdv))->PSs (vo P w K mg base N qual st f cdv A outer s H E) (oN st) (tFS G b)):
  qx P w K mg base CX0 (k+1) f fd (p::ps) (spI G c g):=by
 subst hg hp hN;exact F.ok S (LI λds q h=>(zl h).1) λcdv A outer s H vs Q E hr h=>⟨_,body cdv A outer s H E hr,BH (by have:=aS cj S.pre;rw[aZ,aB]at this;omega) h⟩
end
section
variable{X:Cx}{G:Bg}
def vU(G:Bg)(mg:Str->Option aa)(x:Str)(d:D):Prop:=∃(v:V) (u:aa),mg x=some u/\RelV v u/\∀H,Rep G H d v
theorem HE{x:Str}{d:D}(h:vU G X.mg x d)(hg:Gl X x:=by rfl)(hd:(x==("__debug__" : Str))=false:=by decide):PE X (.Name x pos) (tF G (cC d)):=by obtain⟨v,u,h1,h2,h3⟩:=h;exact JR (wO hg h1 h2 hd) h3
def Qw:FS:=λ_=>none
def rW(i:Nat)(j:Int)(f:FE):FS:=λρ=>match f ρ with
 |some (d,ρ1)=>match ql ρ1 i with
  |some ds=>match ixN ds.length j with
   |some k=>some (.nx (putAt ρ1 i (ds.set k d)))
   |none=>none
  |none=>none
 |none=>none
theorem FZ{st:Stmt}{i:Nat}{j:Int}{f:FE}(h:PS X st (wH (tF G f) (PF (um i) (tC (.int j)) Lu))):PS X st (tFS G (rW i j f)):=PS.weak h λE σ H hh=>by
 obtain⟨F,ρ,H0,o,R,e,k,k2⟩:=hh;unfold rW at e;rcases oB (f:=f) (ρ:=ρ)with e1|⟨d,ρ1,e1⟩<;>simp only[e1]at e
 ·cases e
 cases e2:ql ρ1 i with
 |none=>simp only[e2]at e;cases e
 |some ds=>
  simp only[e2]at e;cases e3:ixN ds.length j with
  |none=>simp only[e3]at e;cases e
  |some m=>simp only[e3]at e;cases e;refine⟨F,ρ,H0,d,ρ1,R,e1,λv H1 H1' s R' r=>?_⟩;obtain⟨a,xs,s1,s2,s3,s4⟩:=rQ R' e2;exact⟨.ref a,s1,a,xs,j,m,rfl,rfl,s2,by rw[<-n9 s3];exact e3,k _ _ _ s (s4 _ _ (Ci m s3 r))⟩
def pN(T:String):Ty->Option Bool
 |.b n=>if n="NoneType" then some false else if n="bool" then some (T=="bool" ||T=="int")else if n="int" then some (T=="int")else if n="str" then some (T=="str")else if n="tuple" then some (T=="tuple")else if n="list" then some (T=="list")else if n="dict" then some (T=="dict")else none
 |.c _=>none
theorem HF{T:String}:∀k b,pN T (.c k)=some b->Cv X.K (G.ca k):=λk b h=>by cases h
theorem HG:∀y b,pN "list" y=some b->W.kitOne X.K (y.val G) (.type "list")=some b:=λy b h=>by
 cases y with
 |c k=>cases h
 |b n=>
  unfold pN at h;simp only at h
  iterate 7 (split at h;· rename_i e;subst e;cases h;first|rfl|kernel_rfl)
  cases h
theorem Ky:∀y b,pN "str" y=some b->W.kitOne X.K (y.val G) (.type "str")=some b:=λy b h=>by
 cases y with
 |c k=>cases h
 |b n=>
  unfold pN at h;simp only at h
  iterate 7 (split at h;· rename_i e;subst e;cases h;first|rfl|kernel_rfl)
  cases h
end
end L4
namespace L3
open PySem PySem.Spec PyProof.Rows L2
theorem Kz{X:Cx}{i:Nat}{y:Str}{py spos:Pos}{elt iter tg:Expr}{ifs:List Expr}{scope:bM}{pos:Pos}{N':List Str}{k:Nat}{cap:List Nat}{wi:TI}{g:TG}{tt:TT}{te:TE}
  (hc:X.calm=true) (hN:X.N.Nodup) (hy:X.N[i]?=some y) (hyl:Loc X.env.scope y) (hi:PI X tg iter wi)
  (body:∀(cl:List (Str×Addr)) (C:Addr) (fp:List Addr) (s:ae) (H:Hp),PG (pK X N' scope cl C fp s H) tg g/\PIf (pK X N' scope cl C fp s H) ifs tt/\PE (pK X N' scope cl C fp s H) elt te)
  (hkind:scope.kind=.function:=by rfl) (hcell:(scope.names.all λy=>y.2 != .cell)=true:=by rfl)
  (hloc:(scope.names.all λy=>y.2 != .local||scope.names.lookup y.1==some .local)=true:=by rfl)
  (hfree:(scope.names.all λy=>y.2 != .free||(X.env.kindOf y.1==some .cell||X.env.kindOf y.1==some .free))=true:=by rfl)
  (hlen:N'.length=k+cap.length:=by rfl) (hcap:(N'.drop k).map some=cap.map λj=>X.N[j]?:=by rfl)
  (hcf:((N'.drop k).all λx=>scope.names.lookup x==some .free)=true:=by rfl)
  (hs:∀x,eL iter X.env x=pure x:=by intro _;rfl)
  (hsw:bu (.ListComp elt [⟨tg,iter,ifs,0⟩] scope pos) (some (.Name y py)) spos.line X.env=pure true:=by rfl)
  (hfy:X.fn y=true\/X.env.scope.names.lookup y=some .local:=by first|exact .inl rfl|exact .inr rfl|assumption):
  PS X (.Assign [.Name y py] (.ListComp elt [⟨tg,iter,ifs,0⟩] scope pos) spos) (wH (yb wi g tt te k cap) (sS i)):=by
 intro pins s σ H D I h;rw[exec_Assign_Name_used _ _ _ _ hsw];refine ai (fX (ai ?_));show af _ X.A (do let _<-comprehension (.ListComp elt [⟨tg,iter,ifs,0⟩] scope pos) scope X.env _ (newList []) false (eval iter X.env) (some (assign (.Name y py) X.env))) _ _ s;refine ai (bf (AI (P:=λ_ s'=>SP X pins D .next s') hc hi body hkind hcell hloc hfree hlen hcap hcf hs I h λa C m u s4 H3 hn back fpC qn=>?_) (λ_ s' hq=>aw (aw hq)) λ_ _ e=>e);obtain⟨oC,esC,nC,gC,dC,rC⟩:=id hn;have I7:=back.pinned (fp:=[C]) (λb hb=>bR.mp hb▸fpC) (λb hb=>bR.mp hb▸⟨oC,gC,λv z=>by rw[dC]at z;cases z⟩);show af _ X.A (assign (.Name y py) X.env (.ref a)) _ _ s4;refine thn (D5 (pos:=py) hN hy hyl hfy _ s4 σ H3 (.ref a) (.ref a) (λσ' H'=>D.nx σ' H') I7 rfl qn) λ_ s6 zz=>?_;obtain⟨σ6,H6,I8,q6⟩:=zz;obtain⟨p1,p2,_⟩:=I8.pin (C,oC) (bQ _ (bQ _ (sC (by simp) gC)));exact⟨m,⟨oC,esC,nC,p1,dC,rC⟩,λh' hs'=>⟨σ6,H6,I8.unpinned.turned (t':=s6.toks) (λb o hb e=>(hs'.2 b hb).trans e) p2 fpC.2.1 fpC.2.2.2.1 fpC.2.2.2.2.1 fpC.2.2.2.2.2,q6⟩⟩
end L3
namespace L4
open PySem PySem.Spec PyProof.Rows L2 L3
variable{te:TE}{ft:FT}{fe:FE}
section
variable{X:Cx}{G:Bg}
theorem zy{st:Stmt}{te':TE}{g:TG}(h:PS X st (wH te g))(w:∀σ H Q,te' σ H Q->te σ H Q):PS X st (wH te' g):=PS.weak h λE σ H hh=>w _ _ _ hh
theorem F0{st:Stmt}{i k:Nat}{cap:List Nat}{s:FA}{g:FG}(nd:cap.Nodup)(h:PS X st (wH (yb (tFI G s) (tFG G k g) (tFT G ft) (tF G fe) k cap) (sS i))):PS X st (tFS G (sX i (oH k cap s g ft fe))):=Cn (zy h (BI nd))
theorem HI{st:Stmt}{i k:Nat}{cap:List Nat}{s:FA}{g:FG}(nd:cap.Nodup)(h:PS X st (wH (yb (tFI G s) (tFG G k g) (tFT G ft) (tF G fe) k cap) (sS i))):PS X st (tFS G (oY i (cL (oH k cap s g ft fe)))):=Eo (zy (zy h (BI nd)) Qf)
end
variable{es0 es':List D}{np:Nat}
section
variable{f g h:FS}{c:FT}{e e' e2:FE}{a a':FA}{ρ ρ' ρ1 ρ2 ρ3:List Sl}{d x y z:D}{o:Out}{ds xs ys:List D}
theorem om(h:f ρ=some (.nx ρ')):og f g ρ=g ρ':=by unfold og;rw[h]
theorem xS(h:f ρ=some (.rt d ρ')):og f g ρ=some (.rt d ρ'):=by unfold og;rw[h]
theorem yS(h:c ρ=some (true,ρ')):sIf c f g ρ=f ρ':=by unfold sIf;rw[h]
theorem vV(h:c ρ=some (false,ρ')):sIf c f g ρ=g ρ':=by unfold sIf;rw[h]
theorem sF{i:Nat}(h:e ρ=some (d,ρ')):oY i e ρ=some (.nx (ρ'.set i (.im d))):=by unfold oY;rw[h]
theorem KA{i:Nat}(h:a ρ=some (ds,ρ')):sX i a ρ=some (.nx (ρ'.set i (.ls ds))):=by unfold sX;rw[h]
theorem rX(h:e ρ=some (d,ρ')):oJ e ρ=some (.rt d ρ'):=by unfold oJ;rw[h]
theorem KB(h:a ρ=some (ds,ρ')):qy a ρ=some (.rn ds ρ'):=by unfold qy;rw[h]
theorem yT(h:e ρ=some (d,ρ')):ra e ρ=some (.nx ρ'):=by unfold ra;rw[h]
theorem CB{i k:Nat}{j:Int}(h:e ρ=some (d,ρ1))(h1:ql ρ1 i=some ds)(h2:ixN ds.length j=some k):rW i j e ρ=some (.nx (putAt ρ1 i (ds.set k d))):=by unfold rW;rw[h];simp only[h1,h2]
theorem pI{g:D->D->Option D}(h1:e ρ=some (x,ρ1))(h2:e' ρ1=some (y,ρ2))(h3:g x y=some z):c2 g e e' ρ=some (z,ρ2):=by unfold c2;rw[h1];simp only[h2,h3]
theorem vp{g:D->Option D}(h1:e ρ=some (x,ρ1))(h3:g x=some z):c1 g e ρ=some (z,ρ1):=by unfold c1;rw[h1];simp only[h3]
theorem DG(h1:e (ρ.map Sl.bor)=some (d,ρ1))(hf:qm d=true):u0 e ρ=some (d,ρ):=by unfold u0;rw[h1];simp only[hf,if_true]
theorem KC{b:Bool}(h1:c (ρ.map Sl.bor)=some (b,ρ1)):vn c ρ=some (b,ρ):=by unfold vn;rw[h1]
theorem HJ{b:Bool}(h1:e ρ=some (.bl b,ρ1)):cT e ρ=some (b,ρ1):=by unfold cT;rw[h1]
theorem BM{b:Bool}(h1:c ρ=some (b,ρ1)):pC c ρ=some (!b,ρ1):=by unfold pC;rw[h1]
theorem Nr{b:Bool}{c':FT}(h1:c ρ=some (false,ρ1))(h2:c' ρ1=some (b,ρ2)):rk c c' ρ=some (b,ρ2):=by unfold rk;rw[h1];exact h2
theorem oE(h1:e ρ=some (d,ρ1))(h2:a ρ1=some (ds,ρ2)):aCons e a ρ=some (d::ds,ρ2):=by unfold aCons;rw[h1];simp only[h2]
theorem oK{α:Type}{g:List D->Option α}{r:α}(h1:a ρ=some (ds,ρ1))(h2:g ds=some r):xN g a ρ=some (r,ρ1):=by unfold xN;rw[h1];simp only[h2]
theorem ux(h1:a ρ=some (ds,ρ1)):cL a ρ=some (.lst ds,ρ1):=by unfold cL;rw[h1]
theorem HK(h1:a ρ=some (ds,ρ1))(hl:ds.length<=1000):oI a ρ=some (ds,ρ1):=by unfold oI;rw[h1];simp only[hl,if_true]
theorem BN(h1:e ρ=some (.lst xs,ρ1))(h2:e' ρ1=some (.lst ys,ρ2))(hl:xs.length+ys.length<=1000):p9 e e' ρ=some (xs++ys,ρ2):=by unfold p9;rw[h1];simp only[h2,hl,if_true]
theorem Nt{g:List D->List D->Option (D×List D)}{i:Nat}{es:List D}(h0:ql ρ i=some es0)(h1:a ρ=some (ds,ρ1))(h2:ql ρ1 i=some es)(h3:g es ds=some (d,es')):xO g i a ρ=some (d,putAt ρ1 i es'):=by unfold xO;rw[h0];simp only[h1,h2,h3]
theorem HL{i:Nat}{es:List D}(h0:ql ρ i=some es0)(h1:e ρ=some (d,ρ1))(h2:ql ρ1 i=some es)(hl:es.length<1000):zm i e ρ=some (.non,putAt ρ1 i (es++[d])):=by unfold zm;rw[h0];simp only[h1,h2,hl,if_true]
theorem zz{s:FA}{g:FG}(h1:s ρ=some (ds,ρ1)):tQ s g f ρ=forL g f ds ρ1:=by unfold tQ;rw[h1]
theorem Ex{k:Nat}{cap:List Nat}{s:FA}{g:FG}(h1:s ρ=some (ds,ρ1))(hl:ds.length<=1000):oH k cap s g ft fe ρ=vf k cap g ft fe ds ρ1:=by unfold oH;rw[h1];simp only[hl,if_true]
theorem HM{n:Nat}{b:FS}{es:List D}(hl:ds.length=np)(h:b (L4.stM n es ds)=some (.rt d ρ))(h0:yc ρ=some es'):fnM np n b es ds=some (d,es'):=by unfold fnM;rw[ag hl,h];simp only[h0]
theorem Nu{n:Nat}{b:FS}(hl:ds.length=np)(h:b (L4.stE n ds)=some (.rn xs ρ)):fnN np n b ds=some xs:=by unfold fnN;rw[ag hl,h]
theorem qD{n:Nat}{b:FS}(hl:ds.length=np)(h:b (L4.stE n ds)=some (.rt d ρ)):fnD np n b ds=some d:=by unfold fnD;rw[ag hl,h]
end
def Ar(es:List D):Prop:=(∃c,es=[.int c])\/∃q r n,es=[.int q,.int r,.int n]
theorem ud{a b:Int}(h:uw a=true\/uw b=true):sE (.int a) (.int b)=some (.int (a * b)):=by unfold sE dI;simp only;rw[ag (by simpa using h)]
theorem w6{a b:Int}(h:0<b):rh (.int a) (.int b)=some (.int (a % b)):=by unfold rh dI;simp only;rw[ag (by simpa using h)]
theorem div_pos{a b:Int}(h:0<b)(h':b<1073741824):wb (.int a) (.int b)=some (.int (a / b)):=by unfold wb dI;simp only;rw[ag (by simp[h,h'])]
theorem CC{a:Int}(h:0<=a)(h':a<2147483647):uw a=true:=by unfold uw;simp only[aC,bh];omega
def v8:D->Option Key
 |.int i=>some (.inl i)
 |.str x=>some (.inr x)
 |_=>none
def zA:List Key->List D->Key->Option D
 |k::ks,d::ds,j=>if k=j then some d else zA ks ds j
 |_,_,_=>none
def KD(ks:List Key)(ds:List D)(k:Key)(d:D):List D:=d9 (λk' d'=>if k'=k then d else d') ks ds
def As(ks:List Key)(k:Key):Bool:=ks.any λk'=>decide (k'=k)
variable{o:Obj}{kvs:List (Key×V)}{f' fk:FE}{pos apos cpos:Pos}{tg:Expr}
section
variable{X:Cx}{G:Bg}{H:Hp}
theorem vW{d:D}{v:V}{k:Key}(h:Rep G H d v)(e:v8 d=some k):v=kV k:=by
 cases d<;>first|cases e|skip
 all_goals (unfold Rep at h;exact h)
theorem w9:∀{ks:List Key} {ds:List D} {xs:List V} (j:Key),n8 G H ds xs->ks.length=xs.length->match zA ks ds j with
  |some d=>∃v,qY (ks.zip xs) j=some v/\Rep G H d v
  |none=>qY (ks.zip xs) j=none
 |[],ds,xs,j,r,l=>by cases ds<;>rfl
 |k::ks,ds,[],j,r,l=>by cases l
 |k::ks,[],x::xs,j,r,l=>by unfold n8 at r;cases r
 |k::ks,d::ds,x::xs,j,r,l=>by
  unfold n8 at r;obtain⟨v,q,e,h1,h2⟩:=r;cases e;unfold zA;by_cases hk:k=j
  ·rw[ag hk];exact⟨x,wU (p:=(k,x)) hk,h1⟩
  ·rw[ah hk];have ih:=w9 (ks:=ks) (ds:=ds) (xs:=xs) j h2 (by simpa using l);have e1:qY ((k::ks).zip (x::xs)) j=qY (ks.zip xs) j:=wV (p:=(k,x)) hk;rw[e1];exact ih
theorem BO{k:Key}:∀{ks:List Key} {xs:List V},ks.length=xs.length->((ks.zip xs).any λkv=>decide (kv.1=k))=As ks k
 |[],xs,_=>by cases xs<;>rfl
 |k'::ks,[],l=>by cases l
 |k'::ks,x::xs,l=>by unfold As;rw[du,dJ,dJ,BO (by simpa using l)];rfl
theorem Ey{k:Key}{v:V}:∀{ks:List Key} {xs:List V},ks.length=xs.length->(ks.zip xs).map (λkv=>if kv.1=k then (kv.1,v)else kv)=ks.zip (d9 (λk' x=>if k'=k then v else x) ks xs)
 |[],xs,_=>by cases xs<;>rfl
 |k'::ks,[],l=>by cases l
 |k'::ks,x::xs,l=>by
  rw[du,aT,Ey (by simpa using l),fE,du];congr 1;by_cases hk:k'=k
  ·rw[ag hk,ag hk]
  ·rw[ah hk,ah hk]
theorem CD{k:Key}{d:D}{v:V}(hd:Rep G H d v):∀{ks:List Key} {ds:List D} {xs:List V},n8 G H ds xs->ks.length=xs.length->n8 G H (KD ks ds k d) (d9 (λk' x=>if k'=k then v else x) ks xs)
 |[],ds,xs,r,l=>by unfold KD;cases ds<;>cases xs<;>exact oO
 |k'::ks,ds,[],r,l=>by cases l
 |k'::ks,[],x::xs,r,l=>by unfold n8 at r;cases r
 |k'::ks,d'::ds,x::xs,r,l=>by
  unfold n8 at r;obtain⟨w,q,e,h1,h2⟩:=r;cases e;unfold KD;rw[fE,fE];refine oM ?_ (CD hd h2 (by simpa using l));by_cases hk:k'=k
  ·rw[ag hk,ag hk];exact hd
  ·rw[ah hk,ah hk];exact h1
theorem _root_.L2.DGet.kf{H:Hp}{a:Addr}{k:Key}(e:H a=some (.frz o (.dK kvs))):DGet H a (kV k) (qY kvs k):=.inl ⟨kvs,k,.inr ⟨o,e⟩,rfl,rfl⟩
def AR:D->D->Option D:=λx y=>match x,v8 y with
 |.dic ks ds,some k=>zA ks ds k
 |_,_=>none
theorem KE{a b:Expr}{f:FE}(hu:X.A.units+1<cLine)(ha:PE X a (tF G f))(hb:PE X b (tF G f'))(hs:MF b:=by exact λ_ _=>rfl):PE X (.Subscript a b pos) (tF G (c2 AR f f')):=PE.weak (JJ hu ha hb hs) λσ H Q hh=>by
 obtain⟨F,ρ,H0,d,ρ',R,e,k⟩:=hh;obtain⟨x,y,ρ1,e1,e2,e3⟩:=wX e;refine⟨F,ρ,H0,x,ρ1,R,e1,λv H1 H1' s1 R1 r1=>⟨F,ρ1,H1,y,ρ',R1,e2,λu H2 H2' s2 R2 r2=>?_⟩⟩;have r1':=Rep.mono s2 _ _ r1;cases x with
 |dic ks ds=>
  unfold AR at e3;cases ek:v8 y with
  |none=>simp only[ek]at e3;cases e3
  |some j=>simp only[ek]at e3;unfold Rep at r1';obtain⟨p,ob,xs,rfl,h1,h2,h3⟩:=r1';have lv:=w9 (ks:=ks) j h3 h2;rw[e3]at lv;obtain⟨w,w1,w2⟩:=lv;refine⟨p,w,rfl,?_,k w H2 H2' (s1.trans s2) R2 w2⟩;rw[vW r2 ek,<- w1];exact DGet.kf (R2.sub _ _ h1)
 |_=>unfold AR at e3;cases e3
def wd:D->D->Option D:=λx y=>match x,v8 y with
 |.dic ks ds,some k=>some ((zA ks ds k).getD .non)
 |_,_=>none
theorem HN{a b:Expr}{f:FE}(hu:X.A.units+1<cLine)(ha:PE X a (tF G f))(hb:PE X b (tF G f'))(m:M1 X a "get" apos b cpos):PE X (.Call (.Attribute a "get" apos) [b] [] cpos) (tF G (c2 wd f f')):=PE.weak (GT hu ha hb m) λσ H Q hh=>by
 obtain⟨F,ρ,H0,d,ρ',R,e,k⟩:=hh;obtain⟨x,y,ρ1,e1,e2,e3⟩:=wX e;cases x with
 |dic ks ds=>
  refine⟨F,ρ,H0,_,ρ1,R,e1,λv H1 H1' s1 R1 r1=>?_⟩;have r1':=r1;unfold Rep at r1';obtain⟨p,ob,xs,rfl,h1,h2,h3⟩:=r1';refine⟨p,rfl,.inl ⟨_,.inr ⟨_,R1.sub _ _ h1⟩⟩,F,ρ1,H1,y,ρ',R1,e2,λu H2 H2' s2 R2 r2=>?_⟩;unfold wd at e3;cases ek:v8 y with
  |none=>simp only[ek]at e3;cases e3
  |some j=>
   simp only[ek]at e3;cases e3;have lv:=w9 (ks:=ks) j (n8.mono s2 _ _ h3) h2;refine⟨qY (ks.zip xs) j,?_,?_⟩
   ·rw[vW r2 ek];exact DGet.kf (R2.sub _ _ (s2 _ _ h1))
   ·cases el:zA ks ds j with
    |none=>rw[el]at lv k;rw[lv];exact k _ H2 H2' (s1.trans s2) R2 sW
    |some z=>rw[el]at lv k;obtain⟨w,w1,w2⟩:=lv;rw[w1];exact k _ H2 H2' (s1.trans s2) R2 w2
 |_=>unfold wd at e3;cases e3
def AS(i:Nat):FS:=λρ=>some (.nx (ρ.set i (.dk [] [])))
theorem HP{st:Stmt}{i:Nat}(h:PS X st (wH Ds (sS i))):PS X st (tFS G (AS i)):=PS.weak h λE σ H hh=>by obtain⟨F,ρ,H0,o,R,e,k,k2⟩:=hh;cases e;intro p hp;have R1:=R.newOwn hp (.dK []);refine k _ _ _ (oh.refl _) (R1.set (s:=.dk [] []) ⟨p,[],rfl,oi,R.h0none hp,R.bNone hp,rfl,oO⟩ λ_ a ea j t _ ej to=>?_);cases ea;exact R.apart hp j t ej to
def vq(i:Nat)(fk fv:FE):FS:=λρ=>match fv ρ with
 |some (d,ρ1)=>match ρ1[i]? with
  |some (.dk _ _)=>match fk ρ1 with
   |some (y,ρ2)=>match v8 y with
    |some k=>match ρ2[i]? with
     |some (.dk ks ds)=>if ks.length<1000 then if ds.length=ks.length then some (.nx (ρ2.set i (if As ks k=true then .dk ks (KD ks ds k d)else .dk (ks++[k]) (ds++[d]))))else none else none
     |_=>none
    |none=>none
   |none=>none
  |_=>none
 |none=>none
theorem HQ{st:Stmt}{i:Nat}{fv:FE}(h:PS X st (Ly (um i) (tF G fk) (tF G fv))):PS X st (tFS G (vq i fk fv)):=PS.weak h λE σ H hh=>by
 obtain⟨F,ρ,H0,o,R,e,k,k2⟩:=hh;unfold vq at e;rcases oB (f:=fv) (ρ:=ρ)with e1|⟨d,ρ1,e1⟩<;>simp only[e1]at e
 ·cases e
 split at e
 ·rename_i ks0 ds0 ei;rcases oB (f:=fk) (ρ:=ρ1)with e2|⟨y,ρ2,e2⟩<;>simp only[e2]at e
  ·cases e
  cases ek:v8 y with
  |none=>simp only[ek]at e;cases e
  |some j=>
   simp only[ek]at e;split at e
   ·rename_i ks ds ei2;split at e
    ·rename_i hl;split at e
     ·rename_i hl2;cases e;refine⟨F,ρ,H0,d,ρ1,R,e1,λv H1 H1' s1 R1 r1=>?_⟩;obtain⟨a0,xs0,a1,_⟩:=R1.sl i _ ei;refine⟨_,qN a1,F,ρ1,H1,y,ρ2,R1,e2,λu H2 H2' s2 R2 r2=>?_⟩;obtain⟨a,xs,b1,b2,b3,b4,b5,b6⟩:=R2.sl i _ ei2;rw[a1]at b1;cases b1;refine⟨a0,upd H2' a0 (.dK (putK (ks.zip xs) j v)),rfl,?_,?_⟩
      ·rw[vW r2 ek];exact GO.k b2 (by rw[eW];exact gS (Nat.min_le_left _ _) (vS (by omega)))
      ·have rv:=Rep.mono s2 _ _ r1;refine k _ _ _ (s1.trans s2) (R2.mut ei2 rfl a1 (λH' hH=>?_) ?_)
       ·by_cases hk:As ks j=true
        ·rw[ag hk];refine⟨a0,d9 (λk' x=>if k'=j then v else x) ks xs,rfl,?_,b3,b4,by rw[gE,b5,fi],CD rv b6 b5⟩;rw[hH];unfold putK;rw[BO b5,ag hk,Ey b5]
        ·rw[ah hk];refine⟨a0,xs++[v],rfl,?_,b3,b4,by rw[aE,aE,b5];rfl,pU b6 (oM rv oO)⟩;rw[hH];unfold putK;rw[BO b5,ah hk,ka b5];rfl
       ·split<;>rfl
     ·cases e
    ·cases e
   ·cases e
 ·cases e
def zB:D->Option D
 |.lst ds=>(Aq ds).map λbs=>.bl (bs.any id)
 |_=>none
theorem F1(hc:X.calm=true)(hK:X.K=G.K:=by rfl):pM X (.builtin "any") (λxs H Q=>∃(p:Addr) (bs:List Bool),xs=[.ref p]/\SqL G.K H p (bs.map V.bl)/\Q (.bl (bs.any id)) H):=by
 rw[<-hK];intro pins s σ H xs us Q I r h;obtain⟨p,bs,rfl,hq,q⟩:=h;obtain⟨u,rfl,ru⟩:=vals1 r;cases ru;obtain⟨its,rv,pl,hz⟩:=I.list hq;have hlt:p<s.heap.objs.size:=by obtain⟨o,ho,_⟩:=pl.isList;exact aA ho
 have hl:bs.length=its.length:=by have:=rv.length;rw[ar]at this;exact this
 refine call_any_walk (dX pl.isList ⟨s.heap.objs.size,_,_,_,_,_,λi=>(bs[i]?).getD false,rfl,gm (show X.A.in1.handled=none from I.ok.hd hc) _ p (aG hlt) its.toArray,⟨⟨_,aY _ rfl,rfl,rfl⟩,?_⟩,?_,λh' tk hk=>?_⟩)
 ·exact pl.isList.at λo e=>aD _ e
 ·intro i v s' Q' E' hv hQ';have hv':its[i]?=some v:=by simpa using hv
  have hi:i<its.length:=(aV.mp hv').1;have hb:(bs.map V.bl)[i]?=some (.bl (bs[i]'(by omega))):=by simp[show i<bs.length by omega]
  obtain⟨u,hu,ru⟩:=rv.get hb;rw[hv']at hu;cases hu;cases ru;refine bY ?_;have e:(bs[i]?).getD false=bs[i]'(by omega):=by simp[show i<bs.length by omega]
  rw[<-e];exact hQ'
 ·refine⟨.bl (bs.any id),H,?_,?_,q⟩
  ·exact I.kept (t':=tk) λb o e=>hk b o (by simp;exact aG (aA e)) (aD _ e)
  ·show Value.bool _=Value.bool _;congr 1;rw[aH,<- hl];rw[cY];simp only[eQ,bj,id];constructor
   ·rintro⟨i,hi,h⟩;exact⟨bs[i],fQ hi,by simpa [hi]using h⟩
   ·rintro⟨b,hb,h⟩;obtain⟨i,hi,rfl⟩:=dj.mp hb;exact⟨i,hi,by simpa [hi]using h⟩
theorem Nv:AO G (λxs H Q=>∃(p:Addr) (bs:List Bool),xs=[.ref p]/\SqL G.K H p (bs.map V.bl)/\Q (.bl (bs.any id)) H) zB:=λx z H0 H v Q e s rx k=>by
 cases x with
 |lst ds=>
  unfold zB at e;simp only at e;cases e1:Aq ds with
  |none=>rw[e1]at e;cases e
  |some bs=>rw[e1]at e;cases e;unfold Rep at rx;obtain⟨a,xs,rfl,h1,h2⟩:=rx;rw[zx h2 e1]at h1;exact⟨a,bs,rfl,s.seq (SqL.of h1),k _ λ_ _=>qh _⟩
 |_=>cases e
def iS(f:FE):FA:=λρ=>match f ρ with
 |some (.str x,ρ')=>some (x.cps.toList.map λc=>D.str ⟨#[c]⟩,ρ')
 |_=>none
theorem KG{e:Expr}{f:FE}(h:PI X tg e (P8 (tF G f))):PI X tg e (tFI G (iS f)):=PI.weak h λσ H R hh=>by
 obtain⟨F,ρ,H0,ds,ρ',R,e,k⟩:=hh;unfold iS at e;split at e
 ·rename_i x ρ1 e1;cases e;refine⟨F,ρ,H0,_,_,R,e1,λv H1 H1' s R' r=>?_⟩;unfold Rep at r;refine⟨x,r,k _ _ _ s R' λi H2 H2' t t'=>⟨λd ed=>?_,λhl=>?_⟩⟩
  ·rw[aU]at ed;cases ec:x.cps.toList[i]? with
   |none=>rw[ec]at ed;cases ed
   |some c=>
    rw[ec]at ed;cases ed;have ec':x.cps[i]?=some c:=by simpa using ec
    refine⟨(fz.mp ec').1,λz H3 y=>?_⟩;obtain⟨e3,c',hc',rfl⟩:=y;rw[ec']at hc';cases hc';subst e3;exact⟨H2,oh.refl _,t',oh.refl _,λb o e=>.inl e,sV _⟩
  ·show i=x.cps.size;rw[hl,ar];simp
 ·cases e
def ye(f g:FE):FE:=λρ=>match f ρ with
 |some (.tup (x::xs),ρ1)=>match g ρ1 with
  |some (.tup ys,ρ2)=>if xs.length+ys.length<=900 then some (.tup (x::xs++ys),ρ2)else none
  |_=>none
 |_=>none
theorem KH{a b:Expr}{f g:FE}(ha:PE X a (tF G f))(hb:PE X b (tF G g))(hK:X.K=G.K:=by rfl):PE X (.BinOp a .Add b pos) (tF G (ye f g)):=PE.weak (D7 JF ha hb) λσ H Q hh=>by
 rw[hK];obtain⟨F,ρ,H0,d,ρ',R,e,k⟩:=hh;unfold ye at e;split at e
 ·rename_i x xs ρ1 e1;split at e
  ·rename_i ys ρ2 e2;split at e
   ·rename_i hl;cases e;refine⟨F,ρ,H0,_,ρ1,R,e1,λv H1 H1' s R' r=>⟨F,ρ1,H1,_,_,R',e2,λu H2 H2' s2 R2 r2=>?_⟩⟩;have r':=Rep.mono s2 _ _ r;have r0:=r';unfold Rep at r' r2;obtain⟨a1,xs1,rfl,h1,h2⟩:=r';obtain⟨a2,xs2,rfl,h3,h4⟩:=r2;have l1:=n9 h2;have l2:=n9 h4;rw[aB]at l1;refine⟨a1,a2,xs1,xs2,rfl,rfl,SqT.mono R2.sub h1,SqT.mono R2.sub h3,(λz=>by rw[z]at l1;cases l1),by rw[<-l1,<- l2];exact qC (by omega),λz=>?_,λ_ p hp=>?_⟩
    ·have ey:ys=[]:=by rw[z]at l2;exact List.length_eq_zero_iff.mp l2
     subst ey;rw[bE]at k;exact k _ _ _ (s.trans s2) R2 r0
    ·exact k _ _ _ ((s.trans s2).trans (oq (R2.h0none hp) _)) (R2.newIm hp _) (yR (SqT.of oi) (n8.mono (oq (R2.h0none hp) _) _ _ (pU h2 h4)))
   ·cases e
  ·cases e
 ·cases e
end
section
variable{X:Cx}{G:Bg}
abbrev FO:=List Sl->Option (Option Int×List Sl)
def tFO(G:Bg)(f:FO):TO:=λσ H Q=>∃F ρ H0 d ρ',RelE G F σ ρ H0 H/\f ρ=some (d,ρ')/\∀H0' H',oh H0 H0'->RelE G F σ ρ' H0' H'->Q d H'
def oNo:FO:=λρ=>some (none,ρ)
def oAt(f:FE):FO:=λρ=>match f ρ with
 |some (.int i,ρ')=>some (some i,ρ')
 |_=>none
theorem PO.weak{e:Option Expr}{t t':TO}(h:PO X e t)(w:∀σ H Q,t' σ H Q->t σ H Q):PO X e t':=λpins s σ H Q I hq=>h pins s σ H Q I (w _ _ _ hq)
theorem Nw:PO X none (tFO G oNo):=PO.weak Ec λσ H Q hh=>by obtain⟨F,ρ,H0,d,ρ',R,e,k⟩:=hh;cases e;exact k _ _ (oh.refl _) R
theorem Nx{e:Expr}{f:FE}(h:PE X e (tF G f)):PO X (some e) (tFO G (oAt f)):=PO.weak (Ed h) λσ H Q hh=>by
 obtain⟨F,ρ,H0,d,ρ',R,e,k⟩:=hh;unfold oAt at e;split at e
 ·rename_i i ρ1 e1;cases e;refine⟨F,ρ,H0,_,_,R,e1,λv H1 H1' s R' r=>?_⟩;unfold Rep at r;exact⟨i,r,k _ _ s R'⟩
 ·cases e
def rY(f:FE)(lo hi:FO):FA:=λρ=>match f ρ with
 |some (d,ρ1)=>match d with
  |.lst ds=>match lo ρ1 with
   |some (l,ρ2)=>match hi ρ2 with
    |some (h,ρ3)=>some (cutD ds l h,ρ3)
    |none=>none
   |none=>none
  |.fzl ds=>match lo ρ1 with
   |some (l,ρ2)=>match hi ρ2 with
    |some (h,ρ3)=>some (cutD ds l h,ρ3)
    |none=>none
   |none=>none
  |_=>none
 |none=>none
theorem DH{e:Expr}{f:FE}{lo hi:FO}(h:PE X e (tSl (Fp G.K) (tF G f) (tFO G lo) (tFO G hi))):PE X e (tFN G (rY f lo hi)):=PE.weak h λσ H Q hh=>by
 obtain⟨F,ρ,H0,ds,ρ',R,e,k⟩:=hh;unfold rY at e;rcases oB (f:=f) (ρ:=ρ)with e1|⟨d,ρ1,e1⟩<;>simp only[e1]at e
 ·cases e
 have gen:∀(xs:List D),(∀{H1:Hp} {v:V},Rep G H1 d v->∃a ys,v=.ref a/\SqL G.K H1 a ys/\n8 G H1 xs ys)->(match lo ρ1 with
   |some (l,ρ2)=>match hi ρ2 with
    |some (h,ρ3)=>some (cutD xs l h,ρ3)
    |none=>none
   |none=>none)=some (ds,ρ')->tSl (Fp G.K) (tF G f) (tFO G lo) (tFO G hi) σ H Q:=λxs rd e=>by
  rcases oB (f:=lo) (ρ:=ρ1)with e2|⟨l,ρ2,e2⟩<;>simp only[e2]at e
  ·cases e
  rcases oB (f:=hi) (ρ:=ρ2)with e3|⟨u,ρ3,e3⟩<;>simp only[e3]at e
  ·cases e
  cases e;refine⟨F,ρ,H0,d,ρ1,R,e1,λv H1 H1' s1 R1 r1=>⟨F,ρ1,H1,l,ρ2,R1,e2,λH2 H2' s2 R2=>⟨F,ρ2,H2,u,_,R2,e3,λH3 H3' s3 R3=>?_⟩⟩⟩;obtain⟨a,ys,rfl,q1,q2⟩:=rd (Rep.mono (s2.trans s3) _ _ r1);exact⟨a,ys,rfl,R3.sub.seq q1,λp hp=>k p _ _ _ (s1.trans (s2.trans s3)) (R3.newOwn hp _) oi (R3.h0none hp) (R3.bNone hp) (R3.apart hp) (Cy q2)⟩
 cases d with
 |lst xs=>exact gen xs (λr=>by unfold Rep at r;obtain⟨a,ys,rfl,q1,q2⟩:=r;exact⟨a,ys,rfl,SqL.of q1,q2⟩) e
 |fzl xs=>exact gen xs (λr=>by unfold Rep at r;exact r) e
 |_=>cases e
def zC:D->D->Option D
 |.str x,.int n=>if 0<=n/\n<=1000/\x.length<=100 then some (.str (iN x n))else none
 |_,_=>none
end
section
variable{X:Cx}{G:Bg}
def zD(G:Bg)(c:Nat)(t:Ty->Option Bool):Prop:=(∀y b,t y=some b->W.kitOne G.K (y.val G) (.ref (G.ca c))=some b)/\∀j b,t (.c j)=some b->Cv G.K (G.ca j)
theorem DI{c:Nat}{t:Ty->Option Bool}(h:zD G c t)(hK:X.K=G.K:=by rfl):pM X (.builtin "isinstance") (λxs H Q=>∃d x b,xs=[x,(Ty.c c).v G]/\Rep G H d x/\t (tyD d)=some b/\Q (.bl b) H):=
 AQ (X:=X) (.c c) (by rw[hK];exact h.1) (by rw[hK];exact h.2) hK
end
def ddp(acc:List Key)(k:Key):List Key:=if acc.any (λz=>decide (z=k))then acc else acc++[k]
def sG(ks:List Key):List Key:=ks.foldl ddp []
theorem KI(acc:List Key)(k j:Key):(ddp acc k).any (λz=>decide (z=j))=(acc.any (λz=>decide (z=j))||decide (j=k)):=by
 unfold ddp;by_cases h:acc.any (λz=>decide (z=k))=true
 ·rw[ag h];by_cases e:j=k
  ·subst e;rw[h];simp
  ·simp[e]
 ·rw[ah h,List.any_append];by_cases e:j=k
  ·subst e;simp
  ·have hb:¬k=j:=λz=>e z.symm;simp[hb,e]
theorem EA(acc:List Key)(k:Key):(ddp acc k).length=if acc.any (λz=>decide (z=k))=true then acc.length else acc.length+1:=by unfold ddp;split<;>simp
theorem AU(ks:List Key)(i:Nat)(h:i<ks.length):sG (ks.take (i+1))=ddp (sG (ks.take i)) ks[i]:=by unfold sG;rw[jR,aQ h,gY];rfl
theorem HR(ks:List Key):(sG ks).length<=ks.length:=by
 have gen:∀(l:List Key) (acc:List Key),(l.foldl ddp acc).length<=acc.length+l.length:=by
  intro l
  induction l with
  |nil=>intro acc;simp
  |cons k l ih=>
   intro acc;rw[cb,aB];have h1:=ih (ddp acc k);have h2:(ddp acc k).length<=acc.length+1:=by rw[EA];split<;>omega
   omega
 have:=gen ks [];simpa [sG]using this
theorem set_same{prog:aq}{w:aj}{h:Heap}{a:Addr}{S S':Key->Bool}{n n':Nat}(hS:h.SetOf (ox prog w) a S n)(e:∀k,S k=S' k)(en:n=n'):h.SetOf (ox prog w) a S' n':=by obtain rfl:S=S':=funext e;subst en;exact hS
section
variable{prog:aq}{w:aj}{A:au}{R:bU->ae->Prop}{I:Addr}{fp wr:List Addr}{GG:Array dO->Array dO->Prop}{n:Nat}{PP:Nat->aa->Prop}{SS:Nat->ae->Prop}
theorem HS(W:WalksS prog w A.in1 I fp wr GG n PP SS)(S:Addr)(hSf:S∉fp)(ks:List Key)(hn:ks.length=n)
  (hval:∀i v (h:i<ks.length),PP i v->(ox prog w).is ks[i] v=true/\v.scannable=true) (hb:n+1<scanBound):∀(k i:Nat) (s:ae),n - i=k->i<=n->SS i s->
   s.heap.SetOf (ox prog w) S (λj=>(sG (ks.take i)).any (λz=>decide (z=j))) (sG (ks.take i)).length->
   (∀s',Moved (S::wr) GG s s'->s'.heap.SetOf (ox prog w) S (λj=>(sG ks).any (λz=>decide (z=j))) (sG ks).length->R (.ok (.ret .none)) s')->
   bB (model prog w) A (.builtin "set.update.loop" ⟨[.ref S,.ref I],[]⟩) R s:=by
 have hSw:S∉wr:=λz=>hSf (W.sub _ z);have up:∀b∈wr,b∈S::wr:=λb z=>aM _ z;intro k
 induction k with
 |zero=>
  intro i s hk hi hst hS hR;obtain rfl:i=n:=by omega
  refine dF fC ?_;rw[eJ dh _];show af _ A.in1 (pyNext (.ref I)>>=_) _ _ s;refine ai (W.done s _ _ hst λs' hm=>?_);show af _ A.in1 (ret Value.none) _ _ s';rw[fF (by omega)]at hS;refine aw (hR s' (hm.mono up) ?_);obtain⟨o,es,ep,t,ho,more⟩:=hS;exact⟨o,es,ep,t,hm.heap S _ hSw ho,more⟩
 |succ k ih=>
  intro i s hk hi hst hS hR;have hlt:i<n:=by omega
  have hlk:i<ks.length:=by omega
  refine dF fC ?_;rw[eJ dh _];show af _ A.in1 (pyNext (.ref I)>>=_) _ _ s;refine ai (W.item i s _ _ hlt hst λv s' hP hst' hm=>?_);obtain⟨kv,sc⟩:=hval i v hlk hP;have hS':s'.heap.SetOf (ox prog w) S (λj=>(sG (ks.take i)).any (λz=>decide (z=j))) (sG (ks.take i)).length:=by obtain⟨o,es,ep,t,ho,more⟩:=hS;exact⟨o,es,ep,t,hm.heap S _ hSw ho,more⟩
  show af _ A.in1 (holding [v] (setAdd S v)>>=_) _ _ s';refine ai (bC ?_);unfold setAdd;refine bC ?_;refine ai ((ox prog w).pyHash (k:=ks[i]) kv ?_);have room:(sG (ks.take i)).length+1<scanBound:=by have:=HR (ks.take i);rw[aZ]at this;omega
  refine wpAny_setAddHashed_of (knd:=ox prog w) (s:={ s' with toks:=s'.toks+1 }) kv sc hS' room λh' hsb hS2=>?_;have hSi:h'.SetOf (ox prog w) S (λj=>(sG (ks.take (i+1))).any (λz=>decide (z=j))) (sG (ks.take (i+1))).length:=
   set_same hS2 (λj=>by rw[AU ks i hlk,KI]) (by rw[AU ks i hlk,EA])
  refine aw ⟨fY dh _,ih (i+1) _ (by omega) hlt (W.frame _ s' _ _ hst' (fo _) λb z o e=>?_) hSi λs'' hm'' hS''=>?_⟩
  ·rw[hsb.2 b (λy:b=S=>hSf (by rw[<-y];exact z))];exact e
  ·refine hR s'' (iB W.gtrans ((hm.mono up).then_heap (fo _) λb o z e=>?_) hm'') hS'';rw[hsb.2 b (λy:b=S=>z (by rw[y];exact aL))];exact e
end
theorem KJ(l:Addr)(us:Array aa)(m:Nat)(b:Addr)(o:Obj)(ws:Array aa)(m2:Nat)(hc:o.cls=.type "tuple")(hd:o.data=.seq ws m2)(z0:¬(!us.isEmpty&&eG (us.size+ws.size))=true)(z1:us.size<=av)(z2:us.size+ws.size<=av+1):
  Meets (eA.«list.extend» ⟨[.ref l,.ref b],[]⟩) (λ_ R s=>s.heap.get? l=some { cls:=.type "list", data:=.seq us m }/\s.heap.get? b=some o/\R (.ok (.ret Value.none)) { s with heap:=s.heap.update l (ee λx=>x++ws),toks:=s.toks }):=by
 obtain⟨c,dd,data,sl⟩:=o;cases hc;cases hd;refine .of_wp λprog w A R s h=>?_;obtain⟨hp,g,d,tk,os⟩:=s;obtain⟨hl,hb,h⟩:=h;have f2:=AutoSeq1.sub_tuple_tuple;have f3:=AutoSeq1.sub_list_list;have f4:=AutoSeq1.sub_tuple_list;have f5:=AutoSeq1.sub_list_tuple;have z3:(us++ws).size<=av+1:=Array.size_append (xs:=us) (ys:=ws)▸z2
 wp_walk using (wpAny_updateSeq hl rfl (hz:=z1) (_hz':=z3)),iU hl,iU hb
 exact⟨_,rfl,h⟩
section
variable{X:Cx}{G:Bg}
def CG(K:W.Frag):V->List V->Hp->VK->Prop:=λx vs H Q=>∃l b xs zs,x=.ref l/\vs=[.ref b]/\H l=some (.lst xs)/\SqT K H b zs/\xs.length+zs.length<=av/\Q .non (upd H l (.lst (xs++zs)))
theorem DJ:MtM X "list.extend" (CG X.K):=by
 intro pins s σ H x vs v us Q I rx rv h;obtain⟨l,b,xs,zs,rfl,rfl,hH,hB,hz,q⟩:=h;cases rx;obtain⟨u,rfl,ru⟩:=rv.one;cases ru;obtain⟨z,its,n,r,hl,e⟩:=I.lstM hH;obtain⟨its2,r2,⟨o,e2,hc,n2,hd⟩,hz2⟩:=I.tuple hB;have hl2:=r2.length;have hsz:its.toArray.size+its2.toArray.size<=av:=by rw[aH,aH];omega
 have hlong:¬(!its.toArray.isEmpty&&eG (its.toArray.size+its2.toArray.size))=true:=by rw[B7 hsz,cc];exact aO
 refine iH fL ⟨_,e,rfl⟩ jx (jm _ _)
  (KJ l its.toArray n b o its2.toArray n2 hc hd hlong (by rw[aH];omega) (by omega)) ⟨e,e2,?_⟩
 refine⟨.non,_,I.lset (its':=its++its2) hH e (by simp) (r.append r2) ?_,rfl,q⟩;rw[aE];omega
def vt(i:Nat)(f:FE):FE:=λρ=>match ql ρ i with
 |some _=>match f ρ with
  |some (.tup es,ρ1)=>match ql ρ1 i with
   |some ds=>if ds.length+es.length<=1000 then some (.non,putAt ρ1 i (ds++es))else none
   |none=>none
  |_=>none
 |none=>none
theorem DK{e:Expr}{i:Nat}{f:FE}(h:PE X e (tBM G.K "list" (CG G.K) (um i) (u7 (tF G f) y8))):PE X e (tF G (vt i f)):=PE.weak h λσ H Q hh=>by
 obtain⟨F,ρ,H0,d,ρ',R,e,k⟩:=hh;unfold vt at e;cases e0:ql ρ i with
 |none=>simp only[e0]at e;cases e
 |some ds0=>
  simp only[e0]at e;rcases oB (f:=f) (ρ:=ρ)with e1|⟨x,ρ1,e1⟩<;>simp only[e1]at e
  ·cases e
  ·cases x with
   |tup es=>
    cases e2:ql ρ1 i with
    |none=>simp only[e2]at e;cases e
    |some ds=>
     simp only[e2]at e;split at e
     ·rename_i hl;cases e;obtain⟨a,xs,s1,s2,s3,_⟩:=rQ R e0;refine⟨.ref a,s1,.inl ⟨rfl,xs,SqL.of s2⟩,F,ρ,H0,_,ρ1,R,e1,λv H1 H1' s R' rs=>?_⟩;unfold Rep at rs;obtain⟨p,ys,rfl,hp,rs⟩:=rs;obtain⟨a',xs',t1,t2,t3,t4⟩:=rQ R' e2;rw[s1]at t1;cases t1;refine⟨a,p,xs',ys,rfl,rfl,t2,SqT.mono R'.sub hp,?_,k _ _ _ s (t4 _ _ (pU t3 rs)) sW⟩;rw[<-n9 t3,<- n9 rs];exact qC hl
     ·cases e
   |_=>cases e
end
variable{σ:St}{its:List aa}
section
variable{X:Cx}{G:Bg}{H:Hp}
theorem Ny{pins:List (Addr×Obj)}{s:ae}{d:D}{v:V}{u:aa}(I:Inv X pins σ H s)(hK:X.K=G.K)(hd:Rep G H d v)(rv:RelV v u)(hc:∀k ns ds,d=.obj k ns ds->Cv X.K (G.ca k)):
  ∃HH:Heap->Prop,W.KitX X.K u ((tyD d).val G) HH/\HH s.heap/\u≠.builtin "__main__.__loader__#opaque" := by
 cases d with
 |non=>unfold Rep at hd;subst hd;cases (show u=Value.none from rv);exact⟨_,W.kitx_none,True.intro,λz=>nomatch z⟩
 |bl x=>unfold Rep at hd;subst hd;cases (show u=Value.bool x from rv);exact⟨_,W.kitx_bool,True.intro,λz=>nomatch z⟩
 |int x=>unfold Rep at hd;subst hd;obtain⟨t,q⟩:=(show ∃t,u=Value.int x t from rv);cases q;exact⟨_,W.kitx_int,True.intro,λz=>nomatch z⟩
 |str x=>unfold Rep at hd;subst hd;obtain⟨t,q⟩:=(show ∃t,u=Value.str x t from rv);cases q;exact⟨_,W.kitx_str,True.intro,λz=>nomatch z⟩
 |tup ds=>unfold Rep at hd;obtain⟨a,xs,rfl,h1,h2⟩:=hd;cases rv;rw[<-hK]at h1;obtain⟨its,_,⟨o,q1,q2,_⟩,_⟩:=I.tuple h1;exact⟨_,W.kitx_tuple,⟨o,q1,q2⟩,λz=>nomatch z⟩
 |lst ds=>unfold Rep at hd;obtain⟨a,xs,rfl,h1,h2⟩:=hd;cases rv;obtain⟨_,_,n,_,q⟩:=(show ObjOk X.prog X.w H s.heap a (.lst xs) from I.hok a _ h1);exact⟨_,W.kitx_list,⟨_,q,rfl⟩,λz=>nomatch z⟩
 |fzl ds=>unfold Rep at hd;obtain⟨a,xs,rfl,h1,h2⟩:=hd;cases rv;rw[<-hK]at h1;obtain⟨its,_,⟨o,n,q1,q2,_⟩,_⟩:=I.list h1;exact⟨_,W.kitx_list,⟨o,q1,q2⟩,λz=>nomatch z⟩
 |dic ks ds=>unfold Rep at hd;obtain⟨a,ob,xs,rfl,h1,h2,h3⟩:=hd;cases rv;obtain⟨_,_,_,vs,_,o,es,ep,q1,q2,_⟩:=(show ObjOk X.prog X.w H s.heap a (.frz ob (.dK (ks.zip xs))) from I.hok a _ h1);exact⟨_,W.kitx_dict,⟨o,q1,q2.1⟩,λz=>nomatch z⟩
 |obj k ns ds=>have ci:=hc k ns ds rfl;unfold Rep at hd;obtain⟨a,dx,xs,rfl,h1,h2,h3⟩:=hd;cases rv;obtain⟨mA,O,_⟩:=sT I.hok h1;obtain⟨od,J,_⟩:=O.look;exact⟨_,W.kitx_own (ci.cl.get _) ci.cl.hd ci.ha ci.hn ci.htk ci.hm,J,λz=>nomatch z⟩
def F2(G:Bg)(cs:List Nat):List V:=cs.map λc=>.ref (G.ca c)
def HU(G:Bg)(cs:List Nat):List aa:=cs.map λc=>.ref (G.ca c)
theorem HV(cs:List Nat)(r:Vals (F2 G cs) its):its=HU G cs:=by
 induction cs generalizing its with
 |nil=>cases r;rfl
 |cons c cs ih=>
  cases r with
  |cons r rr=>cases r;exact aS _ (ih rr)
def EB(G:Bg)(cs:List Nat)(t:Ty->Option Bool):Prop:=(∀y b,t y=some b->W.kitAny G.K (y.val G) (HU G cs)=some b)/\∀j b,t (.c j)=some b->Cv G.K (G.ca j)
theorem DL{cs:List Nat}{t:Ty->Option Bool}(ht:EB G cs t)(hK:X.K=G.K:=by rfl):pM X (.builtin "isinstance") (λxs H Q=>∃d x b tp,xs=[x,.ref tp]/\H tp=some (.tup (F2 G cs))/\Rep G H d x/\t (tyD d)=some b/\Q (.bl b) H):=by
 intro pins s σ H xs us Q I r h;obtain⟨d,x,b,tp,rfl,h1,hd,e,q⟩:=h;obtain⟨u,w',rfl,ru,rw'⟩:=vals2 r;cases rw';obtain⟨HH,Z,z,ne⟩:=Ny I hK hd ru λk ns ds y=>by subst y;rw[hK];exact ht.2 k b e
 obtain⟨_,its,rv,⟨⟨c,dd,da,sl⟩,q1,q2,n,q3⟩⟩:=(show ObjOk X.prog X.w H s.heap tp (.tup (F2 G cs)) from I.hok tp _ h1);cases q2;cases q3;have ei:=HV cs rv;subst ei;exact W.kia_tup Z I.kIn z q1 (by rw[hK];exact ht.1 _ _ e) ne λtk=>⟨.bl b,H,I.tok _,rfl,q⟩
def NA(G:Bg):List Nat->TA
 |[]=>y8
 |c::r=>u7 (tC (.ref (G.ca c))) (NA G r)
theorem EC:∀(cs:List Nat) (σ:St) (H:Hp) (Q:List V->Hp->Prop),Q (F2 G cs) H->NA G cs σ H Q
 |[],_,_,_,h=>h
 |c::r,σ,H,Q,h=>EC r σ H (λxs H2=>Q (.ref (G.ca c)::xs) H2) h
theorem HW{e:Expr}{cs:List Nat}{t:Ty->Option Bool}{f:FE}(h:PE X e (tCB (λxs H Q=>∃d x b tp,xs=[x,.ref tp]/\H tp=some (.tup (F2 G cs))/\Rep G H d x/\t (tyD d)=some b/\Q (.bl b) H) (u7 (tF G f) (u7 (PV (NA G cs)) y8))))(hl:cs.length<=1000:=by decide):PE X e (tF G (c1 (pd t) f)):=PE.weak h λσ H Q hh=>by
 obtain⟨F,ρ,H0,d,ρ',R,e,k⟩:=hh;obtain⟨x,e1,e2⟩:=wW e;unfold pd at e2;cases e3:t (tyD x)with
 |none=>rw[e3]at e2;cases e2
 |some b=>
  rw[e3]at e2;cases e2;refine⟨F,ρ,H0,x,ρ',R,e1,λv H1 H1' s R' r=>EC cs _ _ _ ⟨?_,λp hp=>?_⟩⟩
  ·unfold F2;rw[ar];exact qC hl
  ·exact⟨x,v,b,p,rfl,oi,Rep.mono (R'.sub.trans (oq hp _)) _ _ r,e3,k _ _ _ (s.trans (oq (R'.h0none hp) _)) (R'.newIm hp _) (qh b)⟩
end
abbrev one(j:Nat)(led pl:Bool):bg:=⟨7,#[j],#[],0,led,0,pl⟩
variable{ks:List Key}
section
variable{prog:aq}{w:aj}{A:au}{E:aa->ae->Prop}{s:ae}
abbrev TK(prog:aq)(w:aj):=IsTupleKey (ox prog w)
theorem cls_val(n:Nat){v:aa}(h:ik v=true):eN n v=pure false:=by
 cases v with
 |ref a=>simp[ik]at h
 |_=>first|rfl|simp[eN]|(unfold eN;rfl)
theorem ED{a:Addr}{Q:Bool->ae->Prop}(hk:TK prog w s.heap ks a)(h:Q false s):af (model prog w) A (eN 8 (.ref a)) Q E s:=by
 have hT:=hk.typeIs;obtain⟨o,items,n,ho,_,hd,hi⟩:=hk;unfold eN;refine ai (wpAny_typeOf hT ?_);show af _ _ (pure true>>=_) _ _ s;refine ai (aw ?_);simp only[Bool.not_true,dq,if_false];refine ai (ko ho hd ?_);refine ai ?_;show af _ _ (forIn items _ _) _ _ s;rw[<-jE];refine hU _ (λrest r s'=>r.1=none/\s'=s/\∀v∈rest,ik v=true) _ ?_ ?_ _ _ ⟨rfl,rfl,hi.byValue⟩
 ·rintro v rest r s' ⟨hr,rfl,hall⟩;rw[cls_val _ (hall v aL)];refine ai (aw ?_);simp only[dq,if_false];exact aw ⟨rfl,rfl,λu hu'=>hall u (aM _ hu')⟩
 ·rintro⟨r1,r2⟩ s' ⟨hr,rfl,_⟩;simp only at hr;subst hr;exact aw h
end
variable{ep:Nat}
section
variable{prog:aq}{w:aj}{A:au}{E:aa->ae->Prop}{s:ae}
theorem HX{hp:Heap}{S:Addr}{es es':Array (Int×aa)}{t t':bg}(ho:hp.get? S=some o)(hd:o.data=.set es ep t):(hp.update S (iJ es' t')).get? S=some { o with data:=.set es' (ep+1) t' }:=by have:=je (iJ es' t') ho (by rw[putSet_of es' t' hd];rfl);rw[putSet_of es' t' hd]at this;exact this
end
section
variable{prog:aq}{w:aj}{A:au}{R:bU->ae->Prop}{I:Addr}{fp wr:List Addr}{GG:Array dO->Array dO->Prop}{PP:Nat->aa->Prop}{SS:Nat->ae->Prop}
theorem TK.kept{h h':Heap}{a:Addr}(t:TK prog w h ks a)(e:∀o,h.get? a=some o->h'.get? a=some o):TK prog w h' ks a:=by obtain⟨o,its,n,ho,m⟩:=t;exact⟨o,its,n,e o ho,m⟩
def Qx(h:Heap)(S:Addr)(n:Nat):Prop:=∃o es ep t,h.get? S=some o/\o.ExactSet/\o.data=.set es ep t/\es.size<scanBound/\t.fits es.size=true/\es.size=n
end
theorem sub_tuple_set:isSubtype (.type "tuple") (.type "set")=pure false:=by rw[kq];kernel_rfl
theorem sub_tuple_frozenset:isSubtype (.type "tuple") (.type "frozenset")=pure false:=by rw[kq];kernel_rfl
variable{ax:Addr}{itO:Obj}
section
variable{prog:aq}{w:aj}{A:au}{E:aa->ae->Prop}{s:ae}{Q:aa->ae->Prop}
abbrev tR(led:Bool):Obj:={ cls:=.type "set", dict:=none,data:=.set #[] 0 (.fresh 0 0 led) }
abbrev inK(ks:List Key):Key->Bool:=λj=>(sG ks).any (λz=>decide (z=j))
structure Qy(prog:aq)(w:aj)(h:Heap)(a:Addr)(items:Array aa)(ks:List Key):Prop where
 len:ks.length=items.size
 key:∀i v (hi:i<ks.length),items[i]?=some v->(ox prog w).is ks[i] v=true/\v.scannable=true
 bnd:items.size+1<scanBound
def KL(s:ae)(PS:Heap->Prop)(E:aa->ae->Prop):bU->ae->Prop:=
 wants (λr s2=>r=.none/\∃h2 k2,s2={ s with heap:=h2,toks:=k2 }/\PS h2/\∀b o,b<s.heap.objs.size->s.heap.get? b=some o->h2.get? b=some o) E
theorem CH{items:Array aa}{led:Bool}{SS:Nat->Heap->Prop}(K:Qy prog w s.heap ax items ks)(hlt:ax<s.heap.objs.size)
  (W:Walks prog w A.in1 (s.heap.objs.size+1) [s.heap.objs.size+1,ax] [s.heap.objs.size+1] items.size (λi v=>items[i]?=some v) SS) (st:SS 0 ((s.heap.push (tR led)).push itO)) {R:bU->ae->Prop}
  (hR:∀h2 k2,h2.SetOf (ox prog w) s.heap.objs.size (inK ks) (sG ks).length->(∀b o,b<s.heap.objs.size->s.heap.get? b=some o->h2.get? b=some o)->R (.ok (.ret .none)) { s with heap:=h2,toks:=k2 }) (tk:Nat):
  bB (model prog w) A (.builtin "set.update.loop" ⟨[.ref s.heap.objs.size,.ref (s.heap.objs.size+1)],[]⟩) R { s with heap:=(s.heap.push (tR led)).push itO,toks:=tk }:=by
 have notin:s.heap.objs.size∉[s.heap.objs.size+1,ax]:=by
  intro z;rcases aN.mp z with z|z
  ·exact ak z (aG (cW _))
  ·exact ak (bR.mp z) (ir hlt)
 have e0:((s.heap.push (tR led)).push itO).get? s.heap.objs.size=some (tR led):=aD _ (aY _ rfl);refine HS W.toS s.heap.objs.size notin ks K.len (λi v hi hv=>K.key i v hi hv) K.bnd (items.size - 0) 0 _ (by omega) (aR _) st ?_ λs2 mv S2=>?_
 ·exact⟨_,#[],0,_,e0,⟨rfl,rfl,rfl⟩,rfl,λe he=>by simp at he,λk=>by simp[sG],by unfold scanBound;decide,by rfl,rfl⟩
 ·obtain⟨h2,g2,d2,k2,o2⟩:=s2;have eg:g2=s.gens:=mv.gens;have ed:d2=s.drawn:=mv.drawn;have eo:o2=s.os:=mv.os;subst eg ed eo;refine hR h2 k2 S2 λb o hb e=>mv.heap b o (λz=>?_) (aD _ (aD _ e));rcases aN.mp z with z|z
  ·exact ak z (aG hb)
  ·exact ak (bR.mp z) (aG (cR hb))
theorem DM(a:aa){Q₁:aa->ae->Prop}(h:Q₁ (.ref s.heap.objs.size) { s with heap:=s.heap.push (tR (!w.params.followText "set-order")) }):
  bB (model prog w) A (.call (.builtin "set.__new__") ⟨[.type "set", a],[]⟩) (wants Q₁ E) s:=by
 refine kc ?_;show af _ A.in1 (do checkBuiltinCall "set.__new__" ⟨[.type "set", a],[]⟩;again (.builtin "set.__new__" ⟨[.type "set", a],[]⟩)) _ _ s;refine ai (wpAny_of_eq (F.newCall_set_1 a) (aw ⟨fY kg _,dF F.entry_set_new ?_⟩));rw[eJ kg _];unfold eA.«set.__new__» lD;have hsub:=sub_set_self;obtain⟨hp,g,d,tk,os⟩:=s;dsimp only
 wp_walk
 refine wpAny_askSetting (aw ?_);dsimp only;simp only[newObj];refine ai (wpAny_alloc (aw ?_));exact aw h
theorem xa{T:String}{PS:Heap->Prop}(ho:s.heap.get? ax=some o)(hc:o.cls=.type T)
  (u1:isSubtype (.type T) (.type "set")=pure false) (u2:isSubtype (.type T) (.type "frozenset")=pure false) (u3:(Value.type T==Value.type "dict")=false)
  (itr:∀(A:au) (Q:aa->ae->Prop) (E:aa->ae->Prop) (s1:ae),s1.heap.get? ax=some o->Q (.ref s1.heap.objs.size) { s1 with heap:=s1.heap.push itO }->af (model prog w) A (pyIter (.ref ax)) Q E s1)
  (fil:∀tk (R:bU->ae->Prop),(∀h2 k2,PS h2->(∀b o,b<s.heap.objs.size->s.heap.get? b=some o->h2.get? b=some o)->R (.ok (.ret .none)) { s with heap:=h2,toks:=k2 })->
   bB (model prog w) A.in1.in1 (.builtin "set.update.loop" ⟨[.ref s.heap.objs.size,.ref (s.heap.objs.size+1)],[]⟩) R { s with heap:=(s.heap.push (tR (!w.params.followText "set-order"))).push itO,toks:=tk })
  (h:∀h2 k2,PS h2->(∀b o,b<s.heap.objs.size->s.heap.get? b=some o->h2.get? b=some o)->Q (.ref s.heap.objs.size) { s with heap:=h2,toks:=k2 }):
  af (model prog w) A (call (.type "set") [.ref ax]) Q E s:=by
 have hlt:ax<s.heap.objs.size:=aA ho;obtain⟨c,tl,hmro⟩:=c8.mro;have made:=c8.made;have subs:=c8.sub;refine c9 (kc ?_);show af _ _ (callAny (.type "set") _) _ _ _;refine aw ⟨jF _ (by decide +kernel),dF F.entry_type_call ?_⟩;rw[Around.under_plain (weight_type_call_type "set" [.ref ax] []) rfl];have n1:=c8.notType;have n2:=c8.canCreate;have n3:=F.typeCall_set_1 (.ref ax)
 repeat (any_goals (first|assumption|wp_step))
 let led:Bool:=!w.params.followText "set-order";refine cM (DM (.ref ax) (E:=E) (Q₁:=λv s1=>v=.ref s.heap.objs.size/\s1={ s with heap:=s.heap.push (tR led) }) ⟨rfl,rfl⟩) λr s1 hr=>?_;cases r with
 |error e=>exact hr
 |ok fl=>
  cases fl with
  |ret v=>
   obtain⟨rfl,rfl⟩:=hr;have e0:(s.heap.push (tR led)).get? s.heap.objs.size=some (tR led):=aY _ rfl;have ty0:Shared.TypeIs { s with heap:=s.heap.push (tR led) } (.ref s.heap.objs.size) "set" := ⟨_,e0,rfl⟩;have l1:=c8.init.lookup;have l2:=c8.init.bind (.ref s.heap.objs.size)
   repeat (any_goals (first|assumption|wp_step))
   refine cM (fI (R:=KL s PS E) c8.init.plain F.entry_set_init (check_set_init_1 ty0 ?_)) λr2 s2 hr2=>?_
   ·obtain⟨oc,od,oda,osl⟩:=o;cases hc;have e1:(s.heap.push (tR led)).get? ax=some { cls:=.type T,dict:=od,data:=oda,slots:=osl }:=aD _ ho;unfold eA.«set.__init__» noKeywords ly;generalize gP:pyIter=PP
    wp_walk
    subst gP;refine itr _ _ _ _ e1 ?_;refine ai (wpAny_runValue ?_);have ez:(s.heap.push (tR led)).objs.size=s.heap.objs.size+1:=dG _ _;show bB _ _ (.builtin "set.update.loop" ⟨[.ref s.heap.objs.size,.ref (s.heap.push (tR led)).objs.size],[]⟩) _ _;rw[ez];refine fil _ _ λh2 k2 S2 kk=>?_;show af _ _ _ _ _ _;refine aw ?_;show af _ _ (ret Value.none) _ _ _;exact aw ⟨rfl,h2,k2,rfl,S2,kk⟩
   ·cases r2 with
    |error e=>exact hr2
    |ok fl2=>
     cases fl2 with
     |ret r=>
      obtain⟨rfl,h2,k2,rfl,S2,kk⟩:=hr2
      repeat (any_goals (first|assumption|wp_step))
      exact h _ _ S2 kk
     |_=>exact hr2.elim
  |_=>exact hr.elim
end
section
variable{X:Cx}{G:Bg}{H:Hp}{pins:List (Addr×Obj)}{σ:St}{s:ae}
theorem HY{P:aq}{w:aj}{k:Key}{v:aa}(h:(ox P w).is k v=true):v.scannable=true:=by rcases o4 h with ⟨i,t,_,rfl⟩|⟨x,t,_,rfl⟩<;>rfl
theorem HZ{a:Addr}(r:Vals (ks.map kV) its)(hb:ks.length+1<scanBound):Qy X.prog X.w s.heap a its.toArray ks:=by
 have hl:ks.length=its.length:=by have:=r.length;rw[ar]at this;exact this
 refine⟨by rw[aH];exact hl,λi v hi hv=>?_,by rw[aH];omega⟩;have e:(ks.map kV)[i]?=some (kV ks[i]):=by rw[aU,aQ hi];rfl
 obtain⟨u,hu,ru⟩:=r.get e;have eu:v=u:=by rw[gy]at hv;rw[hv]at hu;exact bL hu
 subst eu;have:=zc (P:=X.prog) (w:=X.w) ru;exact⟨this,HY this⟩
theorem Qz{a:Addr}(I:Inv X pins σ H s)(h:SqT X.K H a (ks.map kV)):TK X.prog X.w s.heap ks a:=by
 obtain⟨its,r,p,_⟩:=I.tuple h;obtain⟨o,ho,hc,n,hd⟩:=p;refine⟨o,_,n,ho,hc,hd,?_⟩;have gen:∀(ks:List Key) (its:List aa),Vals (ks.map kV) its->PySem.ItemsAre (ox X.prog X.w) ks its:=λks=>by
  induction ks with
  |nil=>intro its r;cases r;exact .nil
  |cons k ks ih=>intro its r;cases r with|cons h1 h2=>exact .cons (zc h1) (ih _ h2)
 exact gen ks its r
def NB(K:W.Frag)(H:Hp)(a:Addr)(n:Nat):Prop:=∃ks,(SqL K H a (ks.map kV)\/SqT K H a (ks.map kV))/\ks.length+1<scanBound/\n=(sG ks).length
def NC(X:Cx)(S:W.Frag->Hp->Addr->Nat->Prop):Prop:=∀{pins:List (Addr×Obj)} {σ:St} {H:Hp} {s:ae} {A:au} {E:aa->ae->Prop} {Q:aa->ae->Prop} {a:Addr} {n:Nat},Inv X pins σ H s->A.handled=none->A.units+8<cLine->S X.K H a n->
 (∀h2 k2,Qx h2 s.heap.objs.size n->(∀b o,b<s.heap.objs.size->s.heap.get? b=some o->h2.get? b=some o)->Q (.ref s.heap.objs.size) { s with heap:=h2,toks:=k2 })->af (model X.prog X.w) A (call (.type "set") [.ref a]) Q E s
theorem QA:NC X (NB):=by
 intro pins σ H s A E Q a n I hh hu hq h;have h3:A.in1.in1.in1.handled=none:=by simp[hh]
 have gt:∀{h2:Heap} {ks:List Key},h2.SetOf (ox X.prog X.w) s.heap.objs.size (inK ks) (sG ks).length->Qx h2 s.heap.objs.size (sG ks).length:=λS=>by obtain⟨o,es,ep,t,ho,hex,hd,_,_,hz,hf,hn⟩:=S;exact⟨o,es,ep,t,ho,hex,hd,hz,hf,hn⟩
 have it:∀{o:Obj} {led:Bool},o.isFreed=false->((s.heap.push (tR led)).push o).get? (s.heap.objs.size+1)=some o:=λ{o led} z=>by rw[show s.heap.objs.size+1=(s.heap.push (tR led)).objs.size from(dG _ _).symm];exact aY _ z
 obtain⟨ks,hq|hq,hb,rfl⟩:=hq
 ·obtain⟨its,r,p,_⟩:=I.list hq;obtain⟨o,ho,hc,n,hd⟩:=p.isList;have hne:a≠s.heap.objs.size+1:=aG (cR (aA ho));refine xa ho hc kr jn (by decide) (itO:={ cls:=.type "list_iterator", data:=.fields #[.ref a,.int 0 0] })
   (λA Q E s1 e k=>dX ⟨o,e,hc,n,hd⟩ k) (λtk R hR=>CH (HZ r hb) (aA ho) (gm h3 _ a hne its.toArray) ⟨⟨_,it rfl,rfl,rfl⟩,⟨o,aD _ (aD _ ho),hc,n,hd⟩⟩ (λh2 k2 S=>hR h2 k2 (gt S)) tk) h
 ·obtain⟨its,r,p,_⟩:=I.tuple hq;obtain⟨o,ho,hc,n,hd⟩:=p;have hne:a≠s.heap.objs.size+1:=aG (cR (aA ho));refine xa ho hc sub_tuple_set sub_tuple_frozenset (by decide) (itO:={ cls:=.type "tuple_iterator", data:=.fields #[.ref a,.int 0 0] })
   (λA Q E s1 e k=>gO ⟨o,e,hc,n,hd⟩ k) (λtk R hR=>CH (HZ r hb) (aA ho) (lb h3 _ a hne its.toArray) ⟨⟨_,it rfl,rfl,rfl⟩,⟨o,aD _ (aD _ ho),hc,n,hd⟩⟩ (λh2 k2 S=>hR h2 k2 (gt S)) tk) h
def EE(S:W.Frag->Hp->Addr->Nat->Prop)(K:W.Frag)(te:TE):TE:=λσ H Q=>te σ H λx H1=>∃a n,x=.ref a/\S K H1 a n/\Q (.int n) H1
theorem F3{S:W.Frag->Hp->Addr->Nat->Prop}{e:Expr}{p1 p2 p3 p4:Pos}(hV:NC X S)(hu:X.A.units+64<cLine)(hc:X.calm=true)(g1:Gl X "len")(m1:X.mg "len" = none)(g2:Gl X "set")(m2:X.mg "set" = none)(he:PE X e te)
  (z1:ao [Expr.Call (.Name "set" p2) [e] [] p3] X.env=[(false,eval (.Call (.Name "set" p2) [e] [] p3) X.env)]:=by rfl) (z2:ao [e] X.env=[(false,eval e X.env)]:=by rfl):PE X (.Call (.Name "len" p1) [.Call (.Name "set" p2) [e] [] p3] [] p4) (EE S X.K te):=by
 intro pins s σ H Q I h;refine cu (xG I g1 m1 ku ?_ (by decide) (by decide));refine callWith_builtin1 ?_ z1 rfl;rw[z1];show af _ _ (spliced [(false,eval (.Call (.Name "set" p2) [e] [] p3) X.env)]) _ _ s;refine dW ?_;refine cu (xG I g2 m2 Pv.boot_set ?_ (by decide) (by decide));refine callWith_type1 (thn (o5 he qK z2 p3 pins s σ H (λvs H1=>match vs with
  |[x]=>∃a n,x=.ref a/\S X.K H1 a n/\Q (.int n) H1
  |_=>False) I h) λus s1 ⟨vs,H1,I1,r1,q1⟩=>?_) z2 rfl
 match vs,r1,q1 with
 |[x],r1,q1=>
 obtain⟨a,n,e1,hq,q⟩:=q1;subst e1;obtain⟨u,rfl,ru⟩:=vals1 r1;cases ru;refine hV I1 (I1.ok.hd hc) (by omega) hq λh2 k2 S2 kk=>?_;refine eM ?_;obtain⟨o,es,ep,t,ho,hex,hd,hz,hf,hn⟩:=S2;have I2:Inv X pins σ H1 { s1 with heap:=h2,toks:=k2 }:=I1.kept λb o e=>kk b o (aA e) e;refine call_len_set ho hex hd hf (by unfold scanBound at hz;omega) ⟨.int n,H1,I2.tok _,⟨_,by rw[hn]⟩,q⟩
def we:List D->Option (List Key)
 |[]=>some []
 |d::ds=>match v8 d,we ds with
  |some k,some ks=>some (k::ks)
  |_,_=>none
theorem AV:∀{ds:List D} {xs:List V} {ks:List Key},n8 G H ds xs->we ds=some ks->xs=ks.map kV
 |[],xs,ks,r,e=>by cases e;unfold n8 at r;exact r
 |d::ds,xs,ks,r,e=>by
  unfold we at e;cases e1:v8 d with
  |none=>rw[e1]at e;cases e
  |some k=>
   cases e2:we ds with
   |none=>rw[e1,e2]at e;cases e
   |some ks'=>rw[e1,e2]at e;cases e;unfold n8 at r;obtain⟨v,r',rfl,h1,h2⟩:=r;rw[vW h1 e1,AV h2 e2];rfl
def qa(ds:List D):Option D:=match we ds with
 |some ks=>if ks.length<=1000 then some (.int (sG ks).length)else none
 |none=>none
def vv(g:List D->Option D):D->Option D
 |.lst ds=>match qa ds with
  |some r=>some r
  |none=>g ds
 |.tup ds=>qa ds
 |.fzl ds=>qa ds
 |_=>none
theorem EF{g:List D->Option D}{ds:List D}{r:D}(h:qa ds=some r):vv g (.lst ds)=some r:=by show (match qa ds with|some r=>some r|none=>g ds)=some r;rw[h]
theorem DN{S:W.Frag->Hp->Addr->Nat->Prop}{g:List D->Option D}{e:Expr}{f:FE}(hK:X.K=G.K)(hO:∀{H a n},NB X.K H a n->S X.K H a n)
  (hg:∀{ds d H1 H1' a xs},g ds=some d->SqL X.K H1' a xs->n8 G H1 ds xs->oh H1 H1'->∃n:Nat,S X.K H1' a n/\d=.int n)
  (h:PE X e (EE S X.K (tF G f))):PE X e (tF G (c1 (vv g) f)):=PE.weak h λσ H Q hh=>by
 obtain⟨F,ρ,H0,d,ρ',R,e,k⟩:=hh;obtain⟨x,e1,e2⟩:=wW e;have key:∀{ds:List D} {xs:List V} {a:Addr} {H1 H1':Hp},qa ds=some d->n8 G H1 ds xs->oh H0 H1->RelE G F σ ρ' H1 H1'->(SqL X.K H1' a xs\/SqT X.K H1' a xs)->
   ∃a' n,V.ref a=.ref a'/\S X.K H1' a' n/\Q (.int n) H1':=λ{ds xs a H1 H1'} ed rs s R' hq=>by
  unfold qa at ed;cases ek:we ds with
  |none=>rw[ek]at ed;cases ed
  |some ks=>
   rw[ek]at ed;simp only at ed;split at ed
   ·rename_i hl;cases ed;rw[AV rs ek]at hq;exact⟨a,_,rfl,hO ⟨ks,hq,by unfold scanBound;omega,rfl⟩,k _ _ _ s R' (p8 _)⟩
   ·cases ed
 refine⟨F,ρ,H0,x,ρ',R,e1,λv H1 H1' s R' r=>?_⟩;cases x with
 |lst ds=>
  unfold Rep at r;obtain⟨a,xs,rfl,h1,h2⟩:=r;have hq:SqL X.K H1' a xs:=SqL.of (R'.sub _ _ h1);replace e2:(match qa ds with|some r=>some r|none=>g ds)=some d:=e2;cases e3:qa ds with
  |some r=>rw[e3]at e2;cases e2;exact key e3 h2 s R' (.inl hq)
  |none=>rw[e3]at e2;obtain⟨n,h3,rfl⟩:=hg e2 hq h2 R'.sub;exact⟨a,n,rfl,h3,k _ _ _ s R' (p8 _)⟩
 |tup ds=>unfold Rep at r;obtain⟨a,xs,rfl,h1,h2⟩:=r;rw[<-hK]at h1;exact key e2 h2 s R' (.inr (SqT.mono R'.sub h1))
 |fzl ds=>unfold Rep at r;obtain⟨a,xs,rfl,h1,h2⟩:=r;rw[<-hK]at h1;exact key e2 h2 s R' (.inl (R'.sub.seq h1))
 |_=>cases e2
end
theorem EG{P:aq}{w:aj}{k:Key}{v:aa}(h:(ox P w).is k v=true):RelV (kV k) v:=by
 rcases o4 h with ⟨i,t,rfl,rfl⟩|⟨x,t,rfl,rfl⟩
 ·exact⟨t,rfl⟩
 ·exact⟨t,rfl⟩
def Itd(a:Addr)(o:Obj)(kvs:List (Key×V)):It:=
 ⟨λi H=>i<kvs.length/\H a=some (.frz o (.dK kvs)),λi H x H'=>H'=H/\∃k z,kvs[i]?=some (k,z)/\x=kV k,λi H=>kvs.length<=i/\H a=some (.frz o (.dK kvs))⟩
section
variable{X:Cx}{pins:List (Addr×Obj)}{σ:St}{H:Hp}{s:ae}
theorem yf{a:Addr}{es:Array DictEntry}(I:Inv X pins σ H s)(e:H a=some (.frz o (.dK kvs)))(hd:o.data=.dict es ep):
  (a==ck)=false/\s.heap.get? a=some o/\∃vs,KV kvs vs/\s.heap.DictAt (ox X.prog X.w) a vs ep:=by
 obtain⟨q0,_,y,vs,r,ob,es',ep',q1,q2,q3,q4⟩:=(show ObjOk X.prog X.w H s.heap a (.frz o (.dK kvs)) from I.hok a _ e);rw[q0]at q1;cases q1;rw[hd]at q3;cases q3;exact⟨y,q0,vs,r,o,es,q0,q2,hd,q4⟩
theorem ND{vs:List (Key×aa)}(r:KV kvs vs){i:Nat}{k:Key}{x:aa}(e:vs[i]?=some (k,x)):∃z,kvs[i]?=some (k,z):=by
 induction r generalizing i with
 |nil=>cases e
 |@cons p q l l' h _ ih=>
  cases i with
  |zero=>obtain⟨pk,pv⟩:=p;cases e;exact⟨pv,by rw[show pk=k from h.1];rfl⟩
  |succ i=>exact ih e
end
theorem F4{P:aq}{w:aj}{K:W.Frag}(a it:Addr)(o:Obj)(kvs:List (Key×V)):Turn P w K tg (Itd a o kvs) [it] it (λi h=>∃es ep,o.data=.dict es ep/\h.IsKeyIter it a i kvs.length ep) where
 mem:=by simp
 obj:=λi h st b hb=>by
  have e:b=it:=by simpa using hb
  subst e;obtain⟨es,ep,hd,ob,e,c,d⟩:=st;exact⟨ob,e,λv z=>by rw[d]at z;cases z⟩
 keep:=λi h h' st k=>by obtain⟨es,ep,hd,x⟩:=st;exact⟨es,ep,hd,x.at λo e=>k it (by simp) o e⟩
 item:=by
  intro X hP hw hK hc i pins s σ H E I hf st hg;subst hP hw hK;obtain⟨hi,he⟩:=hg;obtain⟨es,ep,hd,ki⟩:=st;obtain⟨f0,f1,f2,f3,f4,f5⟩:=hf it (by simp);obtain⟨_,_,vs,r,da⟩:=yf I he hd;have hl:kvs.length=vs.length:=r.length;have hne:a≠it:=λz=>by subst z;rw[he]at f0;cases f0
  have W:=Walks.dictKeys (knd:=ox X.prog X.w) (A:=X.A) (I.ok.hd hc) it a hne vs ep;refine W.item i s _ _ (by omega) ⟨by rw[<-hl];exact ki,da⟩ λv h' tk hv st' kk=>?_;obtain⟨k,x,hx,hk⟩:=hv;obtain⟨z,hz⟩:=ND r hx;have I1:Inv X pins σ H { s with heap:=h',toks:=tk }:=I.turned (λb o hb e=>kk b o (by simpa using hb) e) f0 f1 f3 f4 f5;obtain⟨ki',_⟩:=st';rw[<-hl]at ki';obtain⟨ob,e,c,d⟩:=id ki';exact⟨v,rfl,D6 (s:={ s with heap:=h',toks:=tk }) e c d (by decide) ⟨kV k,H,I1,EG hk,⟨rfl,k,z,hz,rfl⟩,⟨es,ep,hd,ki'⟩,λb hb=>(hf b hb).1⟩⟩
 done:=by intro X hP hw hK hc i pins s σ H E I hf st hg;subst hP hw hK;obtain⟨hi,he⟩:=hg;obtain⟨es,ep,hd,ki⟩:=st;obtain⟨f0,f1,f2,f3,f4,f5⟩:=hf it (by simp);obtain⟨_,_,vs,r,da⟩:=yf I he hd;have hl:kvs.length=vs.length:=r.length;exact wpAny_pyNext_dict_end (I.ok.hd hc) (by rw[<-hl];exact ki) da (fG (by rw[<-hl];exact hi)) λh' eb=>⟨rfl,I.turned (t':=s.toks) (λb o hb e=>eb b o hb e) f0 f1 f3 f4 f5⟩
 self:=λ_ _ _ _ _ st h=>by obtain⟨es,ep,hd,ki⟩:=st;exact wpAny_pyIter_keyiter ki h
section
variable{X:Cx}{G:Bg}{tg:Expr}
def QB(tl:TE):TI:=λσ H R=>tl σ H λx H1=>∃a o kvs,x=.ref a/\H1 a=some (.frz o (.dK kvs))/\R (Itd a o kvs) H1
theorem KM{l:Expr}{tl:TE}(hl:PE X l tl):PI X tg l (QB tl):=by
 intro pins s σ H R I h;refine thn (hl pins s σ H _ I h) λv s1 zz=>?_;obtain⟨x,H1,I1,r1,q1⟩:=zz;obtain⟨a,o,kvs,e,he,q⟩:=q1;subst e;cases r1;obtain⟨q0,_,y,vs,r,ob,es,ep,e1,e2,e3,e4⟩:=(show ObjOk X.prog X.w H1 s1.heap a (.frz o (.dK kvs)) from I1.hok a _ he);rw[q0]at e1;cases e1;have hl:kvs.length=vs.length:=r.length;refine wpAny_pyIter_dict (knd:=ox X.prog X.w) (kvs:=vs) (ep:=ep) y ⟨o,es,q0,e2,e3,e4⟩ ?_;refine⟨s1.heap.objs.size,[s1.heap.objs.size],_,_,H1,rfl,I1.kept (t':=s1.toks) λb o e=>aD _ e,F4 a _ o kvs,⟨es,ep,e3,⟨_,aY _ rfl,rfl,by rw[hl];rfl⟩⟩,λb hb=>?_,q⟩;have e:b=s1.heap.objs.size:=by simpa using hb
 subst e;exact I1.fpOk (ay _) (I1.hok.fresh (ay _))
def QC:Key->D
 |.inl i=>.int i
 |.inr x=>.str x
theorem KN(k:Key){H:Hp}:Rep G H (QC k) (kV k):=by
 cases k with
 |inl i=>exact p8 i
 |inr x=>exact sV x
def iD(f:FE):FA:=λρ=>match f ρ with
 |some (.dic ks ds,ρ1)=>if ks.length=ds.length then some (ks.map QC,ρ1)else none
 |_=>none
theorem Ia{tg e:Expr}{f:FE}(h:PI X tg e (QB (tF G f))):PI X tg e (tFI G (iD f)):=PI.weak h λσ H R hh=>by
 obtain⟨F,ρ,H0,ds,ρ',R,e,k⟩:=hh;unfold iD at e;split at e
 ·rename_i ks ds' ρ1 e1;split at e
  ·rename_i hlen;cases e;refine⟨F,ρ,H0,_,_,R,e1,λv H1 H1' s R' r=>?_⟩;unfold Rep at r;obtain⟨a,o,xs,rfl,r1,r2,r3⟩:=r;have hz:(ks.zip xs).length=ks.length:=by rw[eW,<- r2,fi]
   refine⟨a,o,_,rfl,R'.sub _ _ r1,k _ _ _ s R' λi H2 H2' t t'=>⟨λd ed=>?_,λhl=>?_⟩⟩
   ·rw[aU]at ed;cases ek:ks[i]? with
    |none=>rw[ek]at ed;cases ed
    |some j=>
     rw[ek]at ed;cases ed;have hi:i<ks.length:=(aV.mp ek).1;refine⟨⟨by rw[hz];exact hi,t' _ _ (t _ _ r1)⟩,λz H3 y=>?_⟩;obtain⟨e3,k',z',hk',rfl⟩:=y;subst e3;have:k'=j:=by rw[List.getElem?_zip_eq_some]at hk';have:=hk'.1;rw[ek]at this;exact(bL this).symm
     subst this;exact⟨H2,oh.refl _,t',oh.refl _,λb o e=>.inl e,KN _⟩
   ·refine⟨by rw[hz,hl,ar];exact ay _,t' _ _ (t _ _ r1)⟩
  ·cases e
 ·cases e
end
mutual
def noC(N c:Nat):D->Bool
 |.non=>true
 |.bl _=>true
 |.int _=>true
 |.str _=>true
 |.tup ds=>sH N c ds
 |.lst ds=>sH N c ds
 |.fzl ds=>sH N c ds
 |.obj k _ ds=>decide (k<N)&&decide (k≠c)&&sH N c ds
 |.dic _ ds=>sH N c ds
def sH(N c:Nat):List D->Bool
 |[]=>true
 |d::ds=>noC N c d&&sH N c ds
end
def without(H:Hp)(a:Addr):Hp:=λb=>if b=a then none else H b
theorem zF{H:Hp}{a b:Addr}(h:b≠a):without H a b=H b:=by unfold without;rw[ah h]
theorem xb{H:Hp}{a b:Addr}{o:HO}(h:without H a b=some o):b≠a/\H b=some o:=by
 unfold without at h;by_cases hb:b=a
 ·rw[ag hb]at h;cases h
 ·rw[ah hb]at h;exact⟨hb,h⟩
theorem qE{H:Hp}{a b:Addr}{u v:HO}(ha:H a=some u)(hb:H b=some v)(d:u≠v):without H a b=some v:=by rw[zF (λz=>by subst z;rw[ha]at hb;exact d (bL hb))];exact hb
variable{xs:List V}
section
variable{G:Bg}{H:Hp}{a dx:Addr}{fs:List (Str×V)}{N c:Nat}
theorem CJ(ha:H a=some (.ins (G.ca c) dx fs)){p:Addr}(h:SqT G.K H p xs):SqT G.K (without H a) p xs:=by
 rcases h with (h|⟨o,h⟩)|h
 ·exact .inl (.inl (qE ha h (λz=>nomatch z)))
 ·exact .inl (.inr ⟨o,qE ha h (λz=>nomatch z)⟩)
 ·exact .inr h
theorem CK(ha:H a=some (.ins (G.ca c) dx fs)){p:Addr}(h:SqL G.K H p xs):SqL G.K (without H a) p xs:=by
 rcases h with (h|⟨o,h⟩)|h
 ·exact .inl (.inl (qE ha h (λz=>nomatch z)))
 ·exact .inl (.inr ⟨o,qE ha h (λz=>nomatch z)⟩)
 ·exact .inr h
mutual
theorem yg(inj:∀j k,j<N->k<N->G.ca j=G.ca k->j=k)(hc:c<N)(ha:H a=some (.ins (G.ca c) dx fs)):∀(d:D) (v:V),noC N c d=true->Rep G H d v->Rep G (without H a) d v
 |.non,v,_,h=>by unfold Rep at h ⊢;exact h
 |.bl _,v,_,h=>by unfold Rep at h ⊢;exact h
 |.int _,v,_,h=>by unfold Rep at h ⊢;exact h
 |.str _,v,_,h=>by unfold Rep at h ⊢;exact h
 |.tup ds,v,n,h=>by unfold noC at n;unfold Rep at h ⊢;obtain⟨p,xs,e,h1,h2⟩:=h;exact⟨p,xs,e,CJ ha h1,qt inj hc ha ds xs n h2⟩
 |.lst ds,v,n,h=>by unfold noC at n;unfold Rep at h ⊢;obtain⟨p,xs,e,h1,h2⟩:=h;exact⟨p,xs,e,qE ha h1 (λz=>nomatch z),qt inj hc ha ds xs n h2⟩
 |.fzl ds,v,n,h=>by unfold noC at n;unfold Rep at h ⊢;obtain⟨p,xs,e,h1,h2⟩:=h;exact⟨p,xs,e,CK ha h1,qt inj hc ha ds xs n h2⟩
 |.obj k ns ds,v,n,h=>by unfold noC at n;simp only[aC,bh]at n;unfold Rep at h ⊢;obtain⟨p,dx',xs,e,h1,h2,h3⟩:=h;refine⟨p,dx',xs,e,qE ha h1 (λz=>?_),h2,qt inj hc ha ds xs n.2 h3⟩;injection z with z1;exact n.1.2 (inj k c n.1.1 hc z1.symm)
 |.dic ks ds,v,n,h=>by unfold noC at n;unfold Rep at h ⊢;obtain⟨p,o,xs,e,h1,h2,h3⟩:=h;exact⟨p,o,xs,e,qE ha h1 (λz=>nomatch z),h2,qt inj hc ha ds xs n h3⟩
theorem qt(inj:∀j k,j<N->k<N->G.ca j=G.ca k->j=k)(hc:c<N)(ha:H a=some (.ins (G.ca c) dx fs)):∀(ds:List D) (xs:List V),sH N c ds=true->n8 G H ds xs->n8 G (without H a) ds xs
 |[],xs,_,h=>by unfold n8 at h ⊢;exact h
 |d::ds,xs,n,h=>by unfold sH at n;simp only[aC]at n;unfold n8 at h ⊢;obtain⟨v,r,e,h1,h2⟩:=h;exact⟨v,r,e,yg inj hc ha d v n.1 h1,qt inj hc ha ds r n.2 h2⟩
end
end
def rZ:Sl->Sl
 |.im d=>.im d
 |_=>.un
def uI(N:Nat)(f:FE):FE:=λρ=>match ρ with
 |.ob c ns ds::r=>match f (.im (.obj c ns ds)::r.map rZ)with
  |some (d,_)=>if (decide (c<N)&&noC N c d)=true then some (d,ρ)else none
  |none=>none
 |_=>none
section
variable{X:Cx}{G:Bg}
theorem DO{s:Sl}:(rZ s).own=false:=by cases s<;>rfl
theorem KO{e:Expr}{f:FE}{N:Nat}(inj:∀j k,j<N->k<N->G.ca j=G.ca k->j=k)(h:PE X e (tF G f)):PE X e (tF G (uI N f)):=PE.weak h λσ H Q hh=>by
 obtain⟨F,ρ,H0,d,ρ',R,e,k⟩:=hh;unfold uI at e;split at e
 ·rename_i c ns ds r;rcases oB (f:=f) (ρ:=.im (.obj c ns ds)::r.map rZ)with e1|⟨x,ρ1,e1⟩<;>simp only[e1]at e
  ·cases e
  split at e
  ·rename_i hn;cases e;simp only[aC,bh]at hn;obtain⟨a,dx,xs,h1,h2,h3,h4,h5,h6⟩:=R.sl 0 _ rfl;have RL:RelE G ⟨upd H0 a (.ins (G.ca c) dx (ns.zip xs)),H,[]⟩ σ (.im (.obj c ns ds)::r.map rZ) (upd H0 a (.ins (G.ca c) dx (ns.zip xs))) H:={
    sub:=λb o q=>by
     by_cases hb:b=a
     ·subst hb;rw[oi]at q;cases q;exact h2
     ·rw[oo hb]at q;exact R.sub _ _ q
    g0:=oh.refl _
    keep:=λb o q _=>q
    fr:=λb o q=>.inl q
    am:=λb q=>by cases q
    len:=by have:=R.len;simpa using this
    sl:=λi s q=>by
     cases i with
     |zero=>cases q;exact⟨.ref a,h1,by unfold Rep;exact⟨a,dx,xs,rfl,oi,h5,n8.mono (oq h3 _) _ _ h6⟩⟩
     |succ i=>
      have q':(r.map rZ)[i]?=some s:=q;rw[aU]at q';cases q1:r[i]? with
      |none=>rw[q1]at q';cases q'
      |some t=>
       rw[q1]at q';cases q';have ok:=R.sl (i+1) t q1;cases t with
       |im d=>obtain⟨v,g1,g2⟩:=ok;exact⟨v,g1,Rep.mono (oq h3 _) _ _ g2⟩
       |_=>trivial
    ap:=λi j s t b _ qi _ so=>by
     cases i with
     |zero=>cases qi;cases so
     |succ i=>
      have q':(r.map rZ)[i]?=some s:=qi;rw[aU]at q';cases q1:r[i]? with
      |none=>rw[q1]at q';cases q'
      |some t=>rw[q1]at q';cases q';rw[DO]at so;cases so }
   refine⟨_,_,_,d,ρ1,RL,e1,λv H1 H1' s R' rd=>?_⟩;have ha:H1 a=some (.ins (G.ca c) dx (ns.zip xs)):=s _ _ oi;have s0:oh H0 (without H1 a):=λb o q=>by
    have hb:b≠a:=λz=>by subst z;rw[h3]at q;cases q
    rw[zF hb];exact s b o (by rw[oo hb];exact q)
   refine k v (without H1 a) H1' s0 ?_ (yg inj hn.1 ha d v hn.2 rd);refine R.grow (λb o q=>R'.keep b o q (by simp)) s0 (λb o q=>R'.sub _ _ (xb q).2) λb o q=>?_;obtain⟨hb,q⟩:=xb q;rcases R'.fr b o q with z|z
   ·have z':upd H0 a (.ins (G.ca c) dx (ns.zip xs)) b=some o:=z;rw[oo hb]at z';exact .inl z'
   ·exact .inr z
  ·cases e
 ·cases e
end
section
variable{X:Cx}{pins:List (Addr×Obj)}{σ:St}{H:Hp}{s:ae}{a:Addr}{A:au}{E:aa->ae->Prop}
theorem NF{k:Key}{z:V}{u r:aa}{Q:aa->ae->Prop}(I:Inv X pins σ H s)(e:H a=some (.dK kvs))(ry:RelV (kV k) u)(rz:RelV z r)(hl:kvs.length<av)
  (h1:∀v w s',qY kvs k=some v->Inv X pins σ H s'->RelV v w->Q w s') (h2:∀s',qY kvs k=none->Inv X pins σ (upd H a (.dK (putK kvs k z))) s'->Q r s'):
  af (model X.prog X.w) A (call (.builtin "dict.setdefault") [.ref a,u,r]) Q E s:=by
 obtain⟨y,hd,vs,rel,dd⟩:=Lx I.hok e;have hz:vs.length<=av:=by rw[<-rel.length];exact y
 have hp:(putK kvs k z).length<=av:=by have:=vc kvs k z;omega
 have rv:=rel.val k;refine gb ja dd.typeIs F.entry_dict_setdefault (F.args_dict_setdefault_3 _ _ _) (kt_meets_setdefault (ox X.prog X.w) a (zc ry) hd r) ⟨vs,dd,hz,λw hw=>?_,λhn h' dd' hs=>?_⟩
 ·rw[hw]at rv;cases ev:qY kvs k with
  |none=>rw[ev]at rv;exact rv.elim
  |some v=>rw[ev]at rv;exact h1 v w _ ev (I.tok _) rv
 ·rw[hn]at rv;cases ev:qY kvs k with
  |some v=>rw[ev]at rv;exact rv.elim
  |none=>have he:∃q,h'.get? a=some q:=let ⟨q,_,_,hq,_⟩:=dd';⟨q,hq⟩;exact h2 _ ev (BF I (by rw[e];exact True.intro) hs he (GP hp hd (rel.put k rz) dd'))
def Ib(td ty tx:TE):TE:=λσ H Q=>td σ H λx H1=>∃a,x=.ref a/\IsD H1 a/\ty σ H1 λy H2=>tx σ H2 λz H3=>∃kvs k,H3 a=some (.dK kvs)/\y=kV k/\kvs.length<av/\
 (∀v,qY kvs k=some v->Q v H3)/\(qY kvs k=none->Q z (upd H3 a (.dK (putK kvs k z))))
theorem Ie{o e f:Expr}{td ty tx:TE}(ho:PE X o td)(he:PE X e ty)(hf:PE X f tx)(m:M2 X o "setdefault" apos e f cpos):PE X (.Call (.Attribute o "setdefault" apos) [e,f] [] cpos) (Ib td ty tx):=by
 intro pins s σ H Q I h;refine gW m.base m.few m.line gX ja F.type_dict_setdefault (thn (ho pins s σ H _ I h) λu s1 zz=>?_);obtain⟨x,H1,I1,rx,a,ex,d,q1⟩:=zz;subst ex;obtain rfl:u=Value.ref a:=rx;obtain⟨t1,t2,_⟩:=Dt I1 d;refine⟨t1,t2,?_⟩;rw[m.trees];refine fD rfl (eI (dW (thn (he pins s1 σ H1 _ I1 q1) λiv s2 ⟨y,H2,I2,ry,q2⟩=>
  dW (thn (hf pins s2 σ H2 _ I2 q2) λfv s3 ⟨z,H3,I3,rz,kvs,k,e3,ey,hl,g1,g2⟩=>eM ?_))))
 subst ey;exact NF I3 e3 ry rz hl (λv w s' ev I' rw'=>⟨v,H3,I',rw',g1 v ev⟩) λs' ev I'=>⟨z,_,I',rz,g2 ev⟩
end
def vw(ks:List Key)(dss:List (List D))(k:Key)(d:D):List Key×List (List D):=
 if As ks k=true then (ks,d9 (λk' ds=>if k'=k then ds++[d]else ds) ks dss)else (ks++[k],dss++[[d]])
theorem CL{k:Key}:As ks k=true ↔ k∈ks:=by unfold As;rw[eQ];exact⟨λ⟨x,h1,h2⟩=>cH h2▸h1,λh=>⟨k,h,bb rfl⟩⟩
variable{vs:List V}
theorem Ig{k:Key}{v:V}:ks.length=vs.length->qY (ks.zip vs) k=some v->∃j:Nat,ks[j]?=some k/\vs[j]?=some v:=by
 induction ks generalizing vs with
 |nil=>intro _ h;cases h
 |cons k0 ks ih=>
  intro hl h;cases vs with
  |nil=>cases hl
  |cons v0 vs=>
   unfold qY at h;rw[du,cZ]at h;by_cases e:k0=k
   ·subst e;simp only[decide_true]at h;cases h;exact⟨0,rfl,rfl⟩
   ·simp only[e,decide_false]at h;obtain⟨j,h1,h2⟩:=ih (by simpa using hl) h;exact⟨j+1,h1,h2⟩
theorem Ih{k:Key}:ks.length=vs.length->qY (ks.zip vs) k=none->k∉ks:=by
 induction ks generalizing vs with
 |nil=>intro _ _ h;cases h
 |cons k0 ks ih=>
  intro hl h hm;cases vs with
  |nil=>cases hl
  |cons v0 vs=>
   unfold qY at h;rw[du,cZ]at h;by_cases e:k0=k
   ·subst e;simp only[decide_true]at h;cases h
   ·simp only[e,decide_false]at h;rcases aN.mp hm with z|z
    ·exact e z.symm
    ·exact ih (by simpa using hl) h z
structure Grp(G:Bg)(F:Fr)(H0 H:Hp)(a:Addr)(ks:List Key)(dss:List (List D))(bs:List Addr):Prop where
 at_:H a=some (.dK (ks.zip (bs.map V.ref)))
 n0:H0 a=none
 nB:F.B a=none
 len:ks.length=bs.length
 len':bs.length=dss.length
 nd:bs.Nodup
 kd:ks.Nodup
 each:∀(i:Nat) (b:Addr) (ds:List D),bs[i]?=some b->dss[i]?=some ds->∃xs,H b=some (.lst xs)/\H0 b=none/\F.B b=none/\n8 G H0 ds xs
section
variable{G:Bg}{F:Fr}{σ:St}{ρ:List Sl}{H0 H H0' H':Hp}{a:Addr}{ks:List Key}{dss:List (List D)}{bs:List Addr}
theorem Grp.grow(g:Grp G F H0 H a ks dss bs)(hs:oh H H')(h0:oh H0 H0')(hf:∀b o,H0' b=some o->H0 b=some o\/H b=none):Grp G F H0' H' a ks dss bs where
 at_:=hs _ _ g.at_
 n0:=by
  cases q:H0' a with
  |none=>rfl
  |some o=>
   rcases hf a o q with z|z
   ·rw[g.n0]at z;cases z
   ·rw[g.at_]at z;cases z
 nB:=g.nB
 len:=g.len
 len':=g.len'
 nd:=g.nd
 kd:=g.kd
 each:=λi b ds e1 e2=>by
  obtain⟨xs,q1,q2,q3,q4⟩:=g.each i b ds e1 e2;refine⟨xs,hs _ _ q1,?_,q3,n8.mono h0 _ _ q4⟩;cases q:H0' b with
  |none=>rfl
  |some o=>
   rcases hf b o q with z|z
   ·rw[q2]at z;cases z
   ·rw[q1]at z;cases z
theorem RelE.still(R:RelE G F σ ρ H0 H)(no:∀s∈ρ,s.own=false):RelE G ⟨H0,H,[]⟩ σ ρ H0 H where
 sub:=R.sub
 g0:=oh.refl _
 keep:=λb o e _=>e
 fr:=λb o e=>.inl e
 am:=λa h=>by cases h
 len:=R.len
 sl:=λi s e=>by
  have ok:=R.sl i s e;have n:=no s (bw e);cases s with
  |un=>trivial
  |im d=>exact ok
  |_=>cases n
 ap:=λi j s t b _ e _ so=>by rw[no s (bw e)]at so;cases so
theorem RelE.touch(R:RelE G F σ ρ H0 H)(no:∀s∈ρ,s.own=false)(hk:∀b o,H b=some o->(H0 b≠none\/F.B b≠none)->H' b=some o)(ha:∀b o,H b=some o->∃o',H' b=some o'):RelE G F σ ρ H0 H' where
 sub:=λb o e=>hk b o (R.sub _ _ e) (.inl (by rw[e];exact λz=>nomatch z))
 g0:=R.g0
 keep:=λb o e n=>hk b o (R.keep b o e n) (.inr (by rw[e];exact λz=>nomatch z))
 fr:=R.fr
 am:=λb hb=>by obtain⟨o,e⟩:=R.am b hb;exact ha b o e
 len:=R.len
 sl:=λi s e=>by
  have ok:=R.sl i s e;have n:=no s (bw e);cases s with
  |un=>trivial
  |im d=>exact ok
  |_=>cases n
 ap:=λi j s t b _ e _ so=>by rw[no s (bw e)]at so;cases so
theorem NG{bs:List Addr}(h:bs.Nodup){i j:Nat}{b:Addr}(e1:bs[i]?=some b)(e2:bs[j]?=some b):i=j:=by obtain⟨h1,q1⟩:=aV.mp e1;obtain⟨h2,q2⟩:=aV.mp e2;exact(hG h).mp (q1.trans q2.symm)
theorem NH{ks:List Key}(h:ks.Nodup){i j:Nat}{b:Key}(e1:ks[i]?=some b)(e2:ks[j]?=some b):i=j:=by obtain⟨h1,q1⟩:=aV.mp e1;obtain⟨h2,q2⟩:=aV.mp e2;exact(hG h).mp (q1.trans q2.symm)
theorem Grp.more(g:Grp G F H0 H a ks dss bs){j:Nat}{k:Key}{b:Addr}{d:D}{v:V}(ek:ks[j]?=some k)(eb:bs[j]?=some b)(hx:H b=some (.lst xs))(rd:Rep G H0 d v):
  Grp G F H0 (upd H b (.lst (xs++[v]))) a (vw ks dss k d).1 (vw ks dss k d).2 bs:=by
 have hm:As ks k=true:=CL.mpr (bw ek);unfold vw;rw[ag hm];have ne:a≠b:=λz=>by subst z;rw[g.at_]at hx;cases hx
 refine⟨by rw[oo ne];exact g.at_,g.n0,g.nB,g.len,?_,g.nd,g.kd,λi c ds e1 e2=>?_⟩
 ·rw[gE,<- g.len',<- g.len,fi,g.len]
 ·rw[List.getElem?_zipWith]at e2;cases q1:ks[i]? with
  |none=>rw[q1]at e2;cases e2
  |some k'=>
   cases q2:dss[i]? with
   |none=>rw[q1,q2]at e2;cases e2
   |some ds'=>
    rw[q1,q2]at e2;cases e2;obtain⟨ys,w1,w2,w3,w4⟩:=g.each i c ds' e1 q2;by_cases hk:k'=k
    ·subst hk;have ij:=NH g.kd q1 ek;subst ij;rw[e1]at eb;cases eb;rw[w1]at hx;cases hx;rw[ag rfl];exact⟨_,oi,w2,w3,pU w4 (oM rd oO)⟩
    ·rw[ah hk];have nc:c≠b:=λz=>by subst z;have ij:=NG g.nd e1 eb;subst ij;rw[q1]at ek;cases ek;exact hk rfl
     exact⟨ys,by rw[oo nc];exact w1,w2,w3,w4⟩
theorem Grp.fresh(g:Grp G F H0 H a ks dss bs){k:Key}{p:Addr}{d:D}{v:V}(hk:k∉ks)(hp:H p=none)(h0:H0 p=none)(hB:F.B p=none)(rd:Rep G H0 d v):
  Grp G F H0 (upd (upd (upd H p (.lst [])) a (.dK ((ks++[k]).zip ((bs++[p]).map V.ref)))) p (.lst [v])) a (vw ks dss k d).1 (vw ks dss k d).2 (bs++[p]):=by
 have hm:¬As ks k=true:=λz=>hk (CL.mp z);unfold vw;rw[ah hm];have ne:a≠p:=λz=>by subst z;rw[g.at_]at hp;cases hp
 have np:p∉bs:=λz=>by
  obtain⟨i,hi,e⟩:=gG z;have e1:bs[i]?=some p:=by rw[aQ hi,e]
  obtain⟨ds,e2⟩:∃ds,dss[i]?=some ds:=⟨dss[i]'(by rw[<-g.len'];exact hi),aQ _⟩;obtain⟨ys,w1,_⟩:=g.each i p ds e1 e2;rw[hp]at w1;cases w1
 refine⟨by rw[oo ne,oi],g.n0,g.nB,by simp[g.len],by simp[g.len'],?_,?_,λi c ds e1 e2=>?_⟩
 ·rw[dw];refine⟨g.nd,by simp,λx hx y hy=>?_⟩;rw[bR]at hy;subst hy;exact λz=>np (z▸hx)
 ·rw[dw];refine⟨g.kd,by simp,λx hx y hy=>?_⟩;rw[bR]at hy;subst hy;exact λz=>hk (z▸hx)
 ·by_cases hi:i<bs.length
  ·rw[cB hi]at e1;rw[cB (by rw[<-g.len'];exact hi)]at e2;obtain⟨ys,w1,w2,w3,w4⟩:=g.each i c ds e1 e2;have nc:c≠p:=λz=>np (z▸bw e1);have na:c≠a:=λz=>by subst z;rw[g.at_]at w1;cases w1
   exact⟨ys,by rw[oo nc,oo na,oo nc];exact w1,w2,w3,w4⟩
  ·have hi':i=bs.length:=by have:i<(bs++[p]).length:=(aV.mp e1).1;rw[aE,bJ]at this;omega
   subst hi';rw[cP (ay _),gf]at e1;rw[g.len',cP (ay _),gf]at e2;cases e1;cases e2;exact⟨[v],oi,h0,hB,oM rd oO⟩
def CM(G:Bg)(fk:FE):TS:=Gk (tBM G.K "list" BD (Ib (um 1) (tF G fk) (PX y8)) (u7 (um 2) y8))
theorem Ii{D0:Ends}{d x:D}{k:Key}{vr:V}(R:RelE G F σ ρ H0 H)(no:∀s∈ρ,s.own=false)(h1:σ[1]?=some (some (.ref a)))(h2:σ[2]?=some (some vr))(rd:Rep G H0 d vr)
  (g:Grp G F H0 H a ks dss bs) (hk:fk ρ=some (x,ρ)) (ek:v8 x=some k) (l1:ks.length<1000) (l2:∀ds∈dss,ds.length<1000)
  (kont:∀Hi Hj bs',oh H0 Hi->RelE G F σ ρ Hi Hj->Grp G F Hi Hj a (vw ks dss k d).1 (vw ks dss k d).2 bs'->D0.nx σ Hj):CM G fk D0 σ H:=by
 refine⟨.ref a,h1,a,rfl,.inl ⟨_,.inl g.at_⟩,_,_,_,x,ρ,RelE.still R no,hk,λv H1 H1' s R1 r=>?_⟩;have hs:oh H H1':=λb o e=>R1.keep b o e (by simp);have hf:∀b o,H1 b=some o->H0 b=some o\/H b=none:=R1.fr;have R2:RelE G F σ ρ H1 H1':=R.grow hs s R1.sub hf;have g2:Grp G F H1 H1' a ks dss bs:=g.grow hs s hf;have rd2:=Rep.mono s _ _ rd;refine⟨aR _,λp hp=>?_⟩;have np:a≠p:=λz=>by subst z;rw[g2.at_]at hp;cases hp
 have R3:RelE G F σ ρ H1 (upd H1' p (.lst [])):=R2.newOwn hp _;have g3:Grp G F H1 (upd H1' p (.lst [])) a ks dss bs:=g2.grow (oq hp _) (oh.refl _) λb o e=>.inl e;have lz:(ks.zip (bs.map V.ref)).length<av:=by rw[eW,ar,<- g.len,fi,bX];omega
 refine⟨_,k,g3.at_,vW r ek,lz,λw ev=>?_,λev=>?_⟩
 ·obtain⟨j,e1,e2⟩:=Ig (by rw[ar];exact g.len) ev;rw[aU]at e2;cases eb:bs[j]? with
  |none=>rw[eb]at e2;cases e2
  |some b=>
   rw[eb]at e2;cases e2;obtain⟨ds,ed⟩:∃ds,dss[j]?=some ds:=⟨dss[j]'(by rw[<-g.len'];exact(aV.mp eb).1),aQ _⟩;obtain⟨xs,w1,w2,w3,w4⟩:=g3.each j b ds eb ed;have lx:xs.length<av:=by rw[<-n9 w4,bX];have:=l2 ds (bw ed);omega
   refine⟨.inl ⟨rfl,xs,SqL.of w1⟩,vr,h2,b,xs,vr,rfl,rfl,w1,lx,?_⟩;refine kont H1 _ bs s (RelE.touch R3 no (λc o e z=>?_) λc o e=>?_) (g3.more e1 eb w1 rd2)
   ·have nc:c≠b:=λy=>by
     subst y;rcases z with z|z
     ·exact z w2
     ·exact z w3
    rw[oo nc];exact e
   ·by_cases y:c=b
    ·subst y;exact⟨_,oi⟩
    ·rw[oo y];exact⟨o,e⟩
 ·have nk:=Ih (by rw[ar];exact g.len) ev;have h0p:H1 p=none:=R2.h0none hp;have hBp:F.B p=none:=R2.bNone hp;have ez:putK (ks.zip (bs.map V.ref)) k (.ref p)=(ks++[k]).zip ((bs++[p]).map V.ref):=by rw[GN _ ev,c5,ka (by rw[ar];exact g.len)];rfl
  rw[ez];have q0:upd (upd H1' p (.lst [])) a (.dK ((ks++[k]).zip ((bs++[p]).map V.ref))) p=some (.lst []):=by rw[oo (λz=>np z.symm),oi]
  refine⟨.inl ⟨rfl,[],SqL.of q0⟩,vr,h2,p,[],vr,rfl,rfl,q0,by rw[bX];decide,?_⟩;refine kont H1 _ (bs++[p]) s (RelE.touch R3 no (λc o e z=>?_) λc o e=>?_) (g2.fresh nk hp h0p hBp rd2)
  ·have n1:c≠p:=λy=>by
    subst y;rcases z with z|z
    ·exact z h0p
    ·exact z hBp
   have n2:c≠a:=λy=>by
    subst y;rcases z with z|z
    ·exact z g2.n0
    ·exact z g2.nB
   rw[d6,oo n1,oo n2];exact e
  ·by_cases y:c=p
   ·subst y;exact⟨_,oi⟩
   ·rw[oo y];by_cases y2:c=a
    ·subst y2;exact⟨_,oi⟩
    ·rw[oo y2];exact⟨o,e⟩
end
def vx(vk:D->Option D):List D->List Key->List (List D)->Option (List Key×List (List D))
 |[],ks,dss=>some (ks,dss)
 |d::r,ks,dss=>match vk d with
  |some x=>match v8 x with
   |some k=>if (decide (ks.length<1000)&&dss.all λds=>decide (ds.length<1000))=true then vx vk r (vw ks dss k d).1 (vw ks dss k d).2 else none
   |none=>none
  |none=>none
def DP(vk:D->Option D):FS:=λρ=>match ρ with
 |[.im (.lst L),.un,.un]=>match vx vk L [] []with
  |some (ks,dss)=>some (.rt (.dic ks (dss.map .lst)) [.im (.lst L),.un,.un])
  |none=>none
 |_=>none
section
variable{X:Cx}{G:Bg}
theorem yh{Hq:Hp}:∀(bs:List Addr) (dss:List (List D)),bs.length=dss.length->(∀(i:Nat) (b:Addr) (ds:List D),bs[i]?=some b->dss[i]?=some ds->∃xs,Hq b=some (.lst xs)/\n8 G Hq ds xs)->
  n8 G Hq (dss.map .lst) (bs.map V.ref)
 |[],[],_,_=>oO
 |[],_::_,h,_=>by cases h
 |_::_,[],h,_=>by cases h
 |b::bs,ds::dss,h,k=>by obtain⟨xs,h1,h2⟩:=k 0 b ds rfl rfl;exact oM (sU h1 h2) (yh bs dss (by simpa using h) λi b ds e1 e2=>k (i+1) b ds e1 e2)
theorem KP{F:Fr}{H0 H:Hp}{a:Addr}{dss:List (List D)}{bs:List Addr}{L:List D}{s2:Sl}(R:RelE G F σ [.im (.lst L),.un,s2] H0 H)(g:Grp G F H0 H a ks dss bs)(o:Obj):
  ∃Hq,oh H0 Hq/\RelE G F σ [.im (.lst L),.un,.un] Hq (upd H a (.frz o (.dK (ks.zip (bs.map V.ref)))))/\Rep G Hq (.dic ks (dss.map .lst)) (.ref a):=by
 have mb:∀{b:Addr},b∈bs->∃xs,H b=some (.lst xs)/\H0 b=none/\F.B b=none:=λ{b} hb=>by obtain⟨i,hi,e⟩:=gG hb;obtain⟨xs,w1,w2,w3,_⟩:=g.each i b (dss[i]'(by rw[<-g.len'];exact hi)) (by rw[aQ hi,e]) (aQ _);exact⟨xs,w1,w2,w3⟩
 have na:a∉bs:=λz=>by obtain⟨xs,w1,_⟩:=mb z;rw[g.at_]at w1;cases w1
 have s0:oh H0 (λc=>if c=a then some (.frz o (.dK (ks.zip (bs.map V.ref))))else if c∈bs then H c else H0 c):=λc u e=>by
  have n1:c≠a:=λz=>by subst z;rw[g.n0]at e;cases e
  have n2:c∉bs:=λz=>by obtain⟨_,_,w2,_⟩:=mb z;rw[w2]at e;cases e
  show (if c=a then _ else if c∈bs then H c else H0 c)=_;rw[ah n1,ah n2];exact e
 refine⟨_,s0,?_,?_⟩
 ·exact {
   sub:=λc u e=>by
    have e':(if c=a then some (HO.frz o (.dK (ks.zip (bs.map V.ref))))else if c∈bs then H c else H0 c)=some u:=e;by_cases n1:c=a
    ·subst n1;rw[ag rfl]at e';rw[oi];exact e'
    ·rw[ah n1]at e';rw[oo n1];by_cases n2:c∈bs
     ·rw[ag n2]at e';exact e'
     ·rw[ah n2]at e';exact R.sub _ _ e'
   g0:=R.g0.trans s0
   keep:=λc u e n=>by rw[oo (λz=>by subst z;rw[g.nB]at e;cases e)];exact R.keep c u e n
   fr:=λc u e=>by
    have e':(if c=a then some (HO.frz o (.dK (ks.zip (bs.map V.ref))))else if c∈bs then H c else H0 c)=some u:=e;by_cases n1:c=a
    ·subst n1;exact .inr g.nB
    ·rw[ah n1]at e';by_cases n2:c∈bs
     ·obtain⟨_,_,_,w3⟩:=mb n2;exact .inr w3
     ·rw[ah n2]at e';exact R.fr _ _ e'
   am:=λc hc=>by
    by_cases n1:c=a
    ·subst n1;exact⟨_,oi⟩
    ·rw[oo n1];exact R.am c hc
   len:=R.len
   sl:=λi s e=>by
    match i,e with
    |0,e=>cases e;obtain⟨v,w1,w2⟩:=R.sl 0 _ rfl;exact⟨v,w1,Rep.mono s0 _ _ w2⟩
    |1,e=>cases e;trivial
    |2,e=>cases e;trivial
    |i+3,e=>cases e
   ap:=λi j s t b _ e _ so=>by
    match i,e with
    |0,e=>cases e;cases so
    |1,e=>cases e;cases so
    |2,e=>cases e;cases so
    |i+3,e=>cases e }
 ·unfold Rep;refine⟨a,o,bs.map V.ref,rfl,by show (if a=a then _ else _)=_;rw[ag rfl],by rw[ar];exact g.len,yh bs dss g.len' λi b ds e1 e2=>?_⟩;obtain⟨xs,w1,w2,w3,w4⟩:=g.each i b ds e1 e2;have hb:=bw e1;refine⟨xs,?_,n8.mono s0 _ _ w4⟩;show (if b=a then _ else if b∈bs then H b else H0 b)=_;have nb:b≠a:=λz=>na (by rw[<-z];exact hb);rw[ah nb,ag hb];exact w1
def Ik{L:List D}{s2:Sl}(h:s2.own=false):∀s∈[Sl.im (.lst L),.un,s2],s.own=false:=λs hs=>by
 simp only[aN,eR,or_false]at hs;rcases hs with rfl|rfl|rfl
 ·rfl
 ·rfl
 ·exact h
inductive GI(G:Bg) (F:Fr) (Ha:Hp) (p:Addr) (L:List D) (vk:D->Option D) (KS:List Key) (DSS:List (List D)) (i:Nat) (σ':St) (H':Hp):Prop
 |mk (Hi:Hp) (ks:List Key) (dss:List (List D)) (bs:List Addr) (s2:Sl):oh Ha Hi->Sl.own s2=false->RelE G F σ' [.im (.lst L),.un,s2] Hi H'->σ'[1]?=some (some (.ref p))->Grp G F Hi H' p ks dss bs->vx vk (L.drop i) ks dss=some (KS,DSS)->GI G F Ha p L vk KS DSS i σ' H'
theorem F5{st1 st2 st3:Stmt}{vk:D->Option D}(h1:PS X st1 (wH Ds (sS 1)))(h2:PS X st2 (Mp (tFI G (iL (cV 0))) (sS 2) (CM G (c1 vk (cV 2)))))
  (h3:PS X st3 (Mi (λσ H Q=>um 1 σ H λx H1=>Q x H1\/∃a kvs,H1 a=some (.dK kvs)/\∀o,Q x (upd H1 a (.frz o (.dK kvs)))))):PSs X [st1,st2,st3] (tFS G (DP vk)):=
 PSs.weak (u4 h1 (u4 h2 (wQ h3))) λE σ H hh=>by
  obtain⟨F,ρ,H0,o,R,e,k,k2⟩:=hh;unfold DP at e;split at e
  ·rename_i L;cases eg:vx vk L [] []with
   |none=>simp only[eg]at e;cases e
   |some p=>
    obtain⟨KS,DSS⟩:=p;simp only[eg]at e;cases e;intro p hp;have R1:RelE G F (σ.set 1 (some (.ref p))) [.im (.lst L),.un,.un] H0 (upd H p (.dK [])):=(R.newOwn hp (.dK [])).set (i:=1) (v:=.ref p) (s:=.un) trivial (λz=>by cases z);have hlen:σ.length=3:=R.len;have g1:Grp G F H0 (upd H p (.dK [])) p [] [] []:=⟨oi,R.h0none hp,R.bNone hp,rfl,rfl,fW,fW,λi b ds e1=>by cases e1⟩;have v1:(σ.set 1 (some (V.ref p)))[1]?=some (some (.ref p)):=by rw[dR (by rw[hlen];decide)]
    refine⟨_,_,_,L,_,RelE.still R1 (Ik rfl),rfl,λJ Ha Hb s Ra wk=>?_⟩;have hs:oh (upd H p (.dK [])) Hb:=λb o e=>Ra.keep b o e (by simp);have R2:=R1.grow hs s Ra.sub Ra.fr;have g2:=g1.grow hs s Ra.fr;refine⟨λi m σ' H'=>m=L.length - i/\i<=L.length/\GI G F Ha p L vk KS DSS i σ' H',
     ⟨_,rfl,aR _,Ha,[],[],[],.un,oh.refl _,rfl,R2,v1,g2,eg⟩,?_⟩
    rintro i m σi Hi' ⟨rfl,hi,Hi,ks,dss,bs,s2,si,n2,Ri,vi,gi,ei⟩;by_cases hlt:i<L.length
    ·have ed:L.drop i=L[i]::L.drop (i+1):=fA hlt;rw[ed]at ei;unfold vx at ei;cases ev:vk L[i]with
     |none=>simp only[ev]at ei;cases ei
     |some x=>
      simp only[ev]at ei;cases ek:v8 x with
      |none=>simp only[ek]at ei;cases ei
      |some kk=>
       simp only[ek]at ei;split at ei
       ·rename_i hb;simp only[aC,bh,aF]at hb;obtain⟨go,yl⟩:=(wk i Hi Hi' si Ri.sub).1 L[i] (aQ hlt);refine .inr ⟨go,GI G F Ha p L vk KS DSS (i+1),
         λσ' H' q=>⟨L.length - (i+1),by omega,rfl,hlt,q⟩,λxv H' y=>?_⟩
        obtain⟨H2,t1,t2,t3,t4,t5⟩:=yl xv H' y;have hl3:σi.length=3:=Ri.len;have R3:RelE G F (σi.set 2 (some xv)) [.im (.lst L),.un,.im L[i]] H2 H':=(Ri.grow t3 t1 t2 t4).setIm 2 t5;have w1:(σi.set 2 (some xv))[1]?=some (some (.ref p)):=by rw[cD (by decide)];exact vi
        have w2:(σi.set 2 (some xv))[2]?=some (some xv):=by rw[dR (by rw[hl3];decide)]
        refine Ii R3 (Ik rfl) w1 w2 t5 (gi.grow t3 t1 t4) (by show c1 vk (cV 2) _=_;unfold c1 cV;simp only[iX,iY,ev]) ek hb.1 (λds hd=>hb.2 ds hd) λHc Hd bs' sc Rc gc=>?_;exact⟨Hc,_,_,bs',_,si.trans (t1.trans sc),rfl,Rc,w1,gc,ei⟩
       ·cases ei
    ·have hi':i=L.length:=by omega
     refine .inl ⟨(wk i Hi Hi' si Ri.sub).2 hi',?_⟩;subst hi';rw[List.drop_length]at ei;cases ei;refine⟨.ref p,vi,.inr ⟨p,_,gi.at_,λo=>?_⟩⟩;obtain⟨Hq,q1,q2,q3⟩:=KP Ri gi o;exact k _ _ Hq _ (s.trans (si.trans q1)) q2 q3
  ·cases e
end
section
variable{X:Cx}{G:Bg}
theorem KQ:∀y b,pN "int" y=some b->W.kitOne X.K (y.val G) (.type "int")=some b:=λy b h=>by
 cases y with
 |c k=>cases h
 |b n=>
  unfold pN at h;simp only at h
  iterate 7 (split at h;· rename_i e;subst e;cases h;first|rfl|kernel_rfl)
  cases h
theorem Il:∀y b,pN "bool" y=some b->W.kitOne X.K (y.val G) (.type "bool")=some b:=λy b h=>by
 cases y with
 |c k=>cases h
 |b n=>
  unfold pN at h;simp only at h
  iterate 7 (split at h;· rename_i e;subst e;cases h;first|rfl|kernel_rfl)
  cases h
theorem kit_tuple:∀y b,pN "tuple" y=some b->W.kitOne X.K (y.val G) (.type "tuple")=some b:=λy b h=>by
 cases y with
 |c k=>cases h
 |b n=>
  unfold pN at h;simp only at h
  iterate 7 (split at h;· rename_i e;subst e;cases h;first|rfl|kernel_rfl)
  cases h
end
end L4
namespace L4
open PySem PySem.Spec PySem.Calls PyProof.Rows PySem.W L2 L3
inductive StrsAre:List aa->List Str->Prop
 |nil:StrsAre [] []
 |cons (x:Str) (t:Tok) {vs:List aa} {xs:List Str} (h:StrsAre vs xs):StrsAre (.str x t::vs) (x::xs)
end L4
namespace L4
open PySem PySem.Spec PyProof.Rows L2 L3
section
variable{X:Cx}{G:Bg}
theorem KR:OpD G (λx y H Q=>∃z n,x=.str z/\y=.int n/\MulOk z n/\Q (.str (iN z n)) H) zC:=λx y z H0 H v u Q e s rx ry k=>by
 unfold zC at e;split at e
 ·rename_i a n;split at e
  ·rename_i hl;obtain⟨h0,h1,h2⟩:=hl;cases e;unfold Rep at rx ry;refine⟨a,n,rx,ry,⟨?_,λh3 h4 h5=>?_,λh3 h4=>?_⟩,k _ λ_ _=>sV _⟩
   ·rw[gA];exact⟨ba (by omega),ba (by omega)⟩
   ·have hn:(0:Int)<n:=by omega
    have q:(9223372036854775807:Int) / n >= 9223372036854775:=by have:=Int.le_ediv_of_mul_le (a:=9223372036854775) (b:=9223372036854775807) hn (by omega);exact this
    have:((2:Int) ^ 63 - 1)=9223372036854775807:=by decide
    rw[this]at h5;omega
   ·have hn:n.toNat<=1000:=by omega
    have:a.length * n.toNat<=100 * 1000:=Nat.mul_le_mul h2 hn;refine ba ?_;rw[bX];omega
  ·cases e
 ·cases e
end
def EH:List String:=["NoneType", "bool", "int", "str", "tuple", "list", "dict"]
def qO(n c:Nat):Ty->Option Bool:=λy=>match y with
 |.b x=>if EH.contains x=true then some false else none
 |.c k=>if k<n then some (k==c)else none
def pO(K:W.Frag)(cs:List Addr)(C:Addr)(c:Nat):Bool:=
 EH.all (λx=>W.kitOne K (.type x) (.ref C)==some false)&&(aJ cs.length).all λk=>W.kitOne K (.ref (cs.getD k 0)) (.ref C)==some (k==c)
theorem pf{B:Bg}{n c:Nat}{cs:List Addr}(h:pO B.K cs (B.ca c) c=true)(hn:cs.length=n)(hc:∀k,k<n->cs.getD k 0=B.ca k)(hI:∀k,k<n->Cv B.K (B.ca k)):zD B c (qO n c):=by
 unfold pO at h;rw[aC,aF,aF]at h;refine⟨λy b e=>?_,λj b e=>?_⟩
 ·cases y with
  |b x=>
   unfold qO at e;simp only at e;split at e
   ·rename_i hx;cases e;exact eB (h.1 x (jf.mp hx))
   ·cases e
  |c k=>
   unfold qO at e;simp only at e;split at e
   ·rename_i hk;cases e;have:=eB (h.2 k (bj.mpr (by omega)));rw[hc k hk]at this;exact this
   ·cases e
 ·unfold qO at e;simp only at e;split at e
  ·rename_i hk;exact hI j hk
  ·cases e
theorem NI{l:List Addr}(h:l.Nodup){j k:Nat}(hj:j<l.length)(hk:k<l.length)(e:l.getD j 0=l.getD k 0):j=k:=by
 rw[gq,gq,aQ hj,aQ hk]at e;have pw:=iP.mp h;rcases jS j k with y|y|y
 ·exact ak e (pw j k hj hk y)
 ·exact y
 ·exact ak e.symm (pw k j hk hj y)
variable{x:Str}
section
variable{B:Bg}{K:W.Frag}{mg:Str->Option aa}{h:Heap}
theorem const_int{i:Int}{t:Tok}(X:K.In h)(Gn:h.Ns az mg)(e:W.nsIn K az x=some (some (.int i t))):vU B mg x (.int i):=
 ⟨.int i,_,W.mg_of X Gn e,⟨_,rfl⟩,λ_=>p8 _⟩
inductive uy:List aa->List Str->Prop
 |nil:uy [] []
 |cons {v:aa} {x:Str} {t:Tok} {vs:List aa} {xs:List Str} (e:v=.str x t) (h:uy vs xs):uy (v::vs) (x::xs)
theorem uy.vals{vs:List aa}{xs:List Str}(h:uy vs xs):Vals (xs.map V.str) vs:=by
 induction h with
 |nil=>exact .nil
 |cons e h ih=>exact .cons ⟨_,e⟩ ih
theorem zG{H:Hp}:∀xs:List Str,n8 B H (xs.map D.str) (xs.map V.str)
 |[]=>oO
 |x::xs=>oM (sV x) (zG xs)
theorem DQ{a:Addr}{o:Obj}{its:Array aa}{n:Nat}(xs:List Str)(X:B.K.In h)(Gn:h.Ns az mg)(e:W.nsIn B.K az x=some (some (.ref a)))(l:B.K.lookup a=some o)(hc:o.cls=.type "tuple")(hd:o.data=.seq its n)(hz:its.size<=1000)
  (r:uy its.toList xs):vU B mg x (.tup (xs.map D.str)):=
 ⟨.ref a,_,W.mg_of X Gn e,rfl,λH=>yR (.inr ⟨o,its,n,l,hc,hd,by rw[bX];omega,r.vals⟩) (zG xs)⟩
end
variable{l ns:List Str}
section
variable{f g' h:FS}{c:FT}{e e' e2:FE}{a a':FA}{ρ ρ' ρ1 ρ2 ρ3:List Sl}{d x y z:D}{ds xs ys:List D}{k:Nat}{cap:List Nat}{g:FG}{ft:FT}{fe:FE}
theorem zH{α:Type}(dd:α->D)(p:α->Bool)(h:α->D):∀l:List α,
  (∀a∈l,∃ρ1 ρ2,g (dd a) (yN k cap ρ)=some ρ1/\ft ρ1=some (p a,ρ2)/\(p a=true->∃ρ3,fe ρ2=some (h a,ρ3)/\rf cap (ρ3.drop k) ρ=some ρ)/\(p a=false->rf cap (ρ2.drop k) ρ=some ρ))->
  vf k cap g ft fe (l.map dd) ρ=some ((l.filter p).map h,ρ)
 |[],_=>rfl
 |a::l,st=>by
  obtain⟨ρ1,ρ2,h1,h2,h3,h4⟩:=st a aL;have ih:=zH dd p h l λa' ha=>st a' (aM _ ha);rw[aT];unfold vf;rw[h1];simp only[h2];cases hp:p a with
  |true=>obtain⟨ρ3,h5,h6⟩:=h3 hp;simp only[h5,h6,ih,j3,hp,if_true,aT]
  |false=>simp only[h4 hp,ih,j3,hp];rfl
theorem KU{α:Type}(dd:α->D)(h:α->D)(l:List α)(st:∀a∈l,∃ρ1 ρ3,g (dd a) (yN k cap ρ)=some ρ1/\fe ρ1=some (h a,ρ3)/\rf cap (ρ3.drop k) ρ=some ρ):vf k cap g pE fe (l.map dd) ρ=some (l.map h,ρ):=by have:=zH (ft:=pE) dd (λ_=>true) h l λa ha=>let ⟨ρ1,ρ3,h1,h2,h3⟩:=st a ha;⟨ρ1,ρ1,h1,rfl,λ_=>⟨ρ3,h2,h3⟩,λz=>by cases z⟩;rw[this,List.filter_eq_self.mpr λ_ _=>rfl]
theorem Im(a:Str)(l:List Str):inV (V.str a) (l.map V.str)=decide (a∈l):=by
 unfold inV;rw[cY,eQ,bh];constructor
 ·rintro⟨v,hv,he⟩;obtain⟨b,hb,rfl⟩:=bc.mp hv;have:b=a:=by unfold eqV at he;simpa using he
  rw[<-this];exact hb
 ·intro ha;refine⟨.str a,gH ha,?_⟩;unfold eqV;simp
theorem F6(l:List Str):(l.map D.str).all qm=true:=by rw[kP,aF];intro x _;rfl
theorem KW(l:List Str):(l.map D.str).map vD=l.map V.str:=by rw[dN];rfl
theorem zI(neg:Bool)(a:Str)(l:List Str):dIn neg (.str a) (.lst (l.map D.str))=some (.bl (if neg then !decide (a∈l)else decide (a∈l))):=by unfold dIn;show (if qm (.str a)&&(l.map D.str).all qm then some (D.bl (if neg then !inV (vD (.str a)) ((l.map D.str).map vD)else inV (vD (.str a)) ((l.map D.str).map vD)))else none)=_;rw[F6,KW];show some (D.bl (if neg then !inV (V.str a) (l.map V.str)else inV (V.str a) (l.map V.str)))=_;rw[Im]
theorem Io(neg:Bool)(a:Str)(l:List Str):dIn neg (.str a) (.tup (l.map D.str))=some (.bl (if neg then !decide (a∈l)else decide (a∈l))):=zI neg a l
theorem BP:∀bs:List Bool,Aq (bs.map D.bl)=some bs
 |[]=>rfl
 |b::bs=>by rw[aT];unfold Aq;rw[BP bs];rfl
theorem Ip(bs:List Bool):rT (.lst (bs.map D.bl))=some (.bl (bs.all id)):=by unfold rT;simp only[BP];rfl
theorem Iq(bs:List Bool):zB (.lst (bs.map D.bl))=some (.bl (bs.any id)):=by unfold zB;simp only[BP];rfl
theorem KY{α:Type}(l:List α)(p:α->Bool):rT (.lst (l.map λa=>D.bl (p a)))=some (.bl (l.all p)):=by rw[show (l.map λa=>D.bl (p a))=(l.map p).map D.bl by rw[dN];rfl,Ip,kP];rfl
theorem KZ{α:Type}(l:List α)(p:α->Bool):zB (.lst (l.map λa=>D.bl (p a)))=some (.bl (l.any p)):=by rw[show (l.map λa=>D.bl (p a))=(l.map p).map D.bl by rw[dN];rfl,Iq,List.any_map];rfl
theorem zJ:∀l:List Str,we (l.map D.str)=some (l.map Sum.inr)
 |[]=>rfl
 |x::l=>by rw[aT];unfold we;rw[zJ l];rfl
theorem Ir:∀(l acc:List Key),(acc++l).Nodup->l.foldl ddp acc=acc++l
 |[],acc,_=>by rw[bE];rfl
 |k::l,acc,h=>by
  have hn:acc.any (λz=>decide (z=k))=false:=by rw[gZ];intro z;obtain⟨y,hy,ey⟩:=eQ.mp z;rw[dw]at h;exact h.2.2 y hy k aL (cH ey)
  rw[cb,show ddp acc k=acc++[k] by unfold ddp;rw[hn];rfl,Ir l (acc++[k]) (by simpa using h)];simp
theorem F7(h:l.Nodup):(l.map (Sum.inr:Str->Key)).Nodup:=by unfold List.Nodup at h ⊢;rw[jT];exact h.imp λhne z=>hne (iz z)
theorem CN(h:l.Nodup)(hl:l.length<=1000):qa (l.map D.str)=some (.int l.length):=by unfold qa;rw[zJ];simp only[ar,hl,if_true];unfold sG;rw[Ir _ [] (by simpa using F7 h)];simp
theorem yU(neg:Bool)(a b:Int):dEq neg (.int a) (.int b)=some (.bl (if neg then !decide (a=b)else decide (a=b))):=by
 have e:FN neg (.int a) (.int b)=some (.bl (if neg then !decide (V.int a=V.int b)else decide (V.int a=V.int b))):=rfl;have e2:decide (V.int a=V.int b)=decide (a=b):=by
  by_cases h:a=b
  ·subst h;simp
  ·rw[ba h,ba (λz=>h (by injection z))]
 unfold dEq;rw[e,e2]
theorem ue(h1:e ρ=some (.bl true,ρ1)):pj e e' ρ=e' ρ1:=by unfold pj;rw[h1]
theorem BQ{g:Nat->Option (List D->Option D)}{m:Str}{c:Nat}{hh:List D->Option D}(h1:e ρ=some (.obj c ns xs,ρ1))(h2:g c=some hh)(h3:ns.contains m=false)(h4:a ρ1=some (ys,ρ2))(h5:hh (.obj c ns xs::ys)=some d):pV g m e a ρ=some (d,ρ2):=by unfold pV;rw[h1];simp only[h2,h3,h4,h5];rfl
theorem K0{c:Nat}{g:List D->Option (List Str×List D)}(h1:a ρ=some (ds,ρ1))(h2:g ds=some (ns,xs)):oA c g a ρ=some (.obj c ns xs,ρ1):=by unfold oA;rw[h1];simp only[h2]
theorem NJ{np n:Nat}{b:FS}(hl:ds.length=np)(h:b (L4.stE n ds)=some (.rn xs ρ)):fnD np n b ds=some (.lst xs):=by unfold fnD;rw[ag hl,h]
end
end L4
namespace L4
open PySem PySem.Spec PyProof.Rows L2 L3
open PySem.W (nsIn findIn keepIn isFn makesIn fnOf)
def DR{α:Type}:Nat->(List α->Prop)->Prop
 |0,P=>P []
 |n+1,P=>∀a,DR n λl=>P (a::l)
theorem yV{α:Type}:∀{n:Nat} {P:List α->Prop},DR n P->∀l,l.length=n->P l
 |0,P,h,[],_=>h
 |n+1,P,h,a::l,e=>yV (P:=λl=>P (a::l)) (h a) l (fj e)
structure CF(K:W.Frag)(C:Addr)(xs:List Str):Prop where
 ci:Cv K C
 mks:makesIn K C=true
 kp:keepIn K (.ref C)=true
 na:(xs.all λx=>match findIn K (.ref C) x with|some none=>true|_=>false)=true
theorem CF.at{K:W.Frag}{C:Addr}{xs:List Str}(c:CF K C xs)(i:Nat){x:Str}(h:xs[i]?=some x):Cls K C/\sD K C x:=⟨c.ci.cl,by
 have e:=aF.mp c.na x (bw h);unfold sD;split at e
 ·rename_i e1;exact e1
 ·cases e⟩
theorem qJ{Q:Nat->Prop}{i:Nat}(h:Q i):∀c,(c==i)=true->Q c:=λc e=>by rw[beq_iff_eq]at e;subst e;exact h
theorem orQ{Q:Nat->Prop}{p:Nat->Bool}{i:Nat}(h:∀c,p c=true->Q c)(h':Q i):∀c,(p c||c==i)=true->Q c:=λc e=>by
 rw[ic]at e;rcases e with e|e
 ·exact h c e
 ·exact qJ h' c e
structure Yw(P:aq)(w:aj)(mg:Str->Option aa)(base:Heap)(G:Bg):Prop where
 m:∃h:Heap,G.K.In h/\h.Ns az mg
variable{np:Nat}{vs:List V}{us:List aa}
section
variable{P:aq}{w:aj}{mg:Str->Option aa}{base:Heap}{G:Bg}{x m qual:Str}{st:Stmt}{N ps:List Str}{k c:Nat}{K:W.Frag}
theorem Yw.g(y:Yw P w mg base G){v:aa}(e:nsIn G.K az x=some (some v)):mg x=some v:=by obtain⟨h,X,Gn⟩:=y.m;exact W.mg_of X Gn e
theorem Yw.n(y:Yw P w mg base G){xs:List Str}(h:(xs.all λx=>match nsIn G.K az x with|some none=>true|_=>false)=true)(i:Nat)(hi:xs[i]?=some x):mg x=none:=by
 obtain⟨hh,X,Gn⟩:=y.m;have e:=aF.mp h x (bw hi);split at e
 ·rename_i e1;exact W.mg_none_of X Gn e1
 ·cases e
def GC(K:W.Frag)(x:Str)(i:Int):Prop:=∃t:Tok,nsIn K az x=some (some (.int i t))
theorem Yw.ci(y:Yw P w mg base G){i:Int}(q:GC G.K x i):vU G mg x (.int i):=by obtain⟨h,X,Gn⟩:=y.m;obtain⟨t,e⟩:=q;exact const_int X Gn e
def GS(K:W.Frag)(x:Str)(xs:List Str):Prop:=∃(a:Addr) (o:Obj) (its:Array aa) (n:Nat),nsIn K az x=some (some (.ref a))/\K.lookup a=some o/\o.cls=.type "tuple" /\ o.data=.seq its n/\its.size<=1000/\uy its.toList xs
theorem Yw.cs(y:Yw P w mg base G){xs:List Str}(q:GS G.K x xs):vU G mg x (.tup (xs.map D.str)):=by obtain⟨h,X,Gn⟩:=y.m;obtain⟨a,o,its,n,e,l,h1,h2,h3,h4⟩:=q;exact DQ xs X Gn e l h1 h2 h3 h4
def GD(K:W.Frag)(x:Str)(st:Stmt):Prop:=∃(f:Addr) (fd:aW),nsIn K az x=some (some (.ref f))/\Fun K x x st f fd
def GM(K:W.Frag)(C:Addr)(m qual:Str)(st:Stmt):Prop:=∃(f:Addr) (fd:aW),findIn K (.ref C) m=some (some (.ref f))/\isFn K (.ref f)=true/\Fun K m qual st f fd
def GJ(K:W.Frag)(C:Addr)(qual:Str)(st:Stmt)(vs:List V):Prop:=∃(f:Addr) (fd:aW) (T:Addr) (o:Obj) (dl:List aa) (n:Nat),findIn K (.ref C) "__init__" = some (some (.ref f))/\isFn K (.ref f)=true/\FC K "__init__" qual st f fd T/\K.lookup T=some o/\o.data=.seq dl.toArray n/\Vals vs dl
abbrev Bdy(P:aq)(w:aj)(K:W.Frag)(mg:Str->Option aa)(base:Heap)(N:List Str)(qual:Str)(st:Stmt)(k:Nat)(t:TS):Prop:=∀(f:Addr) (cdv:aa) (A:au) (outer:List Env) (s:ae) (H:Hp) (E:XK),pJ k (A.deeper (envOfC qual (ot st) s.heap.objs.size f cdv))->PSs (vo P w K mg base N qual st f cdv A outer s H E) (oN st) t
abbrev Bds(x qual:Str)(st:Stmt)(ps:List Str):Prop:=DR ps.length λus=>∀(kV doc pm:aa) (an:Option Addr) (cdv ct:aa),bindArgs (fnOf x qual (qL st) (oN st) (ot st) .none kV doc pm an cdv ct) ⟨us,[]⟩=pure (ps.zip us)
theorem Bds.ok{f:Addr}{fd:aW}(b:Bds x qual st ps)(F:Fun K x qual st f fd):Binds K fd ps []:=F.binds λkV doc pm an cdv ct us hl=>yV b us hl kV doc pm an cdv ct
theorem gD{sp:Sp}(y:Yw P w mg base G)(q:GD G.K x st)(bd:Bds x x st ps)(ok:∀f fd,Fun G.K x x st f fd->qx P w G.K mg base CX0 k f fd ps sp):wc P w G.K mg base k x ps sp:=by obtain⟨f,fd,a,F⟩:=q;exact⟨f,fd,y.g a,F.kp,bd.ok F,ok f fd F⟩
theorem gF{n:Nat}{g:List D->Option D}{b:FS}(hg:g=fnD np n b)(y:Yw P w mg base G)(q:GD G.K x st)(S:p7 N ps (ot st))(body:Bdy P w G.K mg base N x st k (tFS G b))(hp:ps.length=np:=by rfl)(hN:N.length=n:=by rfl)(bd:Bds x x st ps:=by (repeat intro _);rfl):wc P w G.K mg base (k+1) x ps (spF G g):=
 gD y q bd λf fd F=>HD hg hp hN F S (body f)
theorem gN'{n:Nat}{g:List D->Option (List D)}{b:FS}(hg:g=fnN np n b)(y:Yw P w mg base G)(q:GD G.K x st)(S:p7 N ps (ot st))(body:Bdy P w G.K mg base N x st k (tFS G b))(hp:ps.length=np:=by rfl)(hN:N.length=n:=by rfl)(bd:Bds x x st ps:=by (repeat intro _);rfl):wc P w G.K mg base (k+1) x ps (spN G g):=
 gD y q bd λf fd F=>Qt hg hp hN F S (body f)
theorem gM{n:Nat}{g:List D->List D->Option (D×List D)}{b:FS}{p:Str}(hg:g=fnM np n b)(y:Yw P w mg base G)(q:GD G.K x st)(S:p7 N (p::ps) (ot st))(body:Bdy P w G.K mg base N x st k (tFS G b))(hp:ps.length=np:=by rfl)(hN:N.length=n:=by rfl)(bd:Bds x x st (p::ps):=by (repeat intro _);rfl):wc P w G.K mg base (k+1) x (p::ps) (spM G g):=
 gD y q bd λf fd F=>Qu hg hp hN F S (body f)
theorem gI{n:Nat}{g:List D->Option (List Str×List D)}{b:FS}{xs:List Str}{p:Str}(hg:g=fnI c np n b)(y:Yw P w mg base G)(C:CF G.K (G.ca c) xs)(a:nsIn G.K az x=some (some (.ref (G.ca c))))(q:GM G.K (G.ca c) "__init__" qual st)(S:p7 N (p::ps) (ot st))(body:Bdy P w G.K mg base N qual st k (tFS G b))(hp:ps.length=np:=by rfl)(hN:N.length=n:=by rfl)(bd:Bds "__init__" qual st (p::ps):=by (repeat intro _);rfl):BL G P w mg base (k+1) x c (p::ps) [] g:=by obtain⟨f,fd,i,i',F⟩:=q;exact⟨f,fd,[],⟨C.mks,i,i',C.kp⟩,y.g a,bd.ok F,.nil,Qv hg hp hN F S (body f)⟩
theorem CO(h:Vals vs us):us.length=vs.length:=by
 induction h with
 |nil=>rfl
 |cons _ _ ih=>rw[aB,aB,ih]
theorem F8(h:Vals vs us):∀j,Vals (vs.drop j) (us.drop j):=by
 induction h with
 |nil=>intro j;rw[kG,kG];exact .nil
 |cons a b ih=>
  intro j;cases j with
  |zero=>exact .cons a b
  |succ j=>exact ih j
theorem gJ{n:Nat}{g:List D->Option (List Str×List D)}{b:FS}{xs:List Str}{p:Str}(hg:g=fnI c np n b)(y:Yw P w mg base G)(C:CF G.K (G.ca c) xs)(a:nsIn G.K az x=some (some (.ref (G.ca c))))(q:GJ G.K (G.ca c) qual st vs)(S:p7 N (p::ps) (ot st))(body:Bdy P w G.K mg base N qual st k (tFS G b))(j:Nat)(hp:ps.length=np:=by rfl)(hN:N.length=n:=by rfl)
  (bd:DR vs.length λdl=>DR ((p::ps).length - (vs.drop j).length) λus=>∀(T:Addr) (kV doc pm:aa) (an:Option Addr) (cdv ct:aa),∃k,bindArgs (fnOf "__init__" qual (qL st) (oN st) (ot st) (.ref T) kV doc pm an cdv ct) ⟨us,[]⟩=seqItems? (.ref T)>>=k/\k (some dl.toArray)=pure ((p::ps).zip (us++dl.drop j)):=by (repeat intro _);exact⟨_,rfl,rfl⟩):BL G P w mg base (k+1) x c (p::ps) (vs.drop j) g:=by
 obtain⟨f,fd,T,o,dl,n,i,i',F,l,e,r⟩:=q;refine⟨f,fd,dl.drop j,⟨C.mks,i,i',C.kp⟩,y.g a,F.binds l e λkV doc pm an cdv ct us hl=>?_,F8 r j,Nq hg hp hN F S (body f)⟩;exact yV (yV bd dl (CO r)) us (by rw[hl,eP,eP,CO r]) T kV doc pm an cdv ct
end
end L4
namespace L4
open PySem PySem.Spec PySem.Calls PyProof.Rows PySem.W L2 L3
structure Sto(c:Nat->Nat->Bool)(n:Nat):Prop where
 tr:∀i j k,i<n->j<n->k<n->c i j=true->c j k=true->c i k=true
 tot:∀i j,i<n->j<n->i≠j->c i j=false->c j i=true
section
variable{X:Cx}{G:Bg}{pins:List (Addr×Obj)}{σ:St}{H:Hp}{s:ae}
def Rq(K:W.Frag)(H:Hp)(y:V)(k:List Str):Prop:=∃a p q,y=.ref a/\k=[p,q]/\SqT K H a [.str p,.str q]
end
def key2:D->Option (List Str)
 |.tup [.str p,.str q]=>some [p,q]
 |_=>none
def yi:List D->Option (List (List Str))
 |[]=>some []
 |d::ds=>match key2 d,yi ds with
  |some k,some ks=>some (k::ks)
  |_,_=>none
section
variable{X:Cx}{G:Bg}{H:Hp}
theorem Iu{d:D}{v:V}{k:List Str}(r:Rep G H d v)(e:key2 d=some k):Rq G.K H v k:=by
 unfold key2 at e;split at e
 ·rename_i p q;cases e;unfold Rep at r;obtain⟨a,xs,rfl,h1,h2⟩:=r;unfold n8 at h2;obtain⟨v1,r1,rfl,q1,q2⟩:=h2;unfold n8 at q2;obtain⟨v2,r2,rfl,q3,q4⟩:=q2;unfold n8 at q4;unfold Rep at q1 q3;subst q4 q1 q3;exact⟨a,p,q,rfl,rfl,h1⟩
 ·cases e
end
end L4
namespace L4
open PySem PySem.Spec PyProof.Rows L2 L3
structure Bz where
 P:aq
 w:aj
 mg:Str->Option aa
 base:Heap
 G:Bg
structure ZE(X:Cx)(B:Bz)(e:Expr)(f:FE):Prop where p:PE X e (tF B.G f)
structure ZN(X:Cx)(B:Bz)(e:Expr)(f:FA):Prop where p:PE X e (tFN B.G f)
structure ZT(X:Cx)(B:Bz)(e:Expr)(f:FT):Prop where p:PT X e (tFT B.G f)
structure ZW(X:Cx)(B:Bz)(e:Expr)(f:FT):Prop where p:PW X e (tFT B.G f)
structure ZF(X:Cx)(B:Bz)(e:List Expr)(f:FT):Prop where p:PIf X e (tFT B.G f)
structure ZA(X:Cx)(B:Bz)(e:List Expr)(f:FA):Prop where p:PA X e (tFA B.G f)
structure ZS(X:Cx)(B:Bz)(e:Stmt)(f:FS):Prop where p:PS X e (tFS B.G f)
structure ZB(X:Cx)(B:Bz)(e:List Stmt)(f:FS):Prop where p:PSs X e (tFS B.G f)
structure ZI(X:Cx)(B:Bz)(tg e:Expr)(f:FA):Prop where p:PI X tg e (tFI B.G f)
structure ZO(X:Cx)(B:Bz)(e:Option Expr)(f:FO):Prop where p:PO X e (tFO B.G f)
structure ZG(X:Cx)(B:Bz)(e:Expr)(n:Nat)(f:FG):Prop where p:PG X e (tFG B.G n f)
structure ZH(X:Cx)(B:Bz)(e:List Expr)(n:Nat)(f:List D->List Sl->Option (List Sl)):Prop where p:PGs X e (G6 B.G n f)
structure ZK(X:Cx)(e:Option Expr)(i:Option Int):Prop where p:PO X e (tO i)
structure ZV(X:Cx)(e:Expr)(i:Nat):Prop where p:PE X e (um i)
abbrev Gz(X:Cx)(x:Str):Prop:=X.env.kindOf x=some .globalImplicit
abbrev Dz(x:Str):Prop:=(x==("__debug__" : Str))=false
abbrev Nz(x:Str):Prop:=(decide (x≠"__name__")&&!(x==("__debug__" : Str)))=true
abbrev Sz(X:Cx)(e:Expr)(es:List Expr):Prop:=ao (e::es) X.env=(false,eval e X.env)::ao es X.env
abbrev S1(X:Cx)(e:Expr):Prop:=ao [e] X.env=[(false,eval e X.env)]
abbrev Lz(X:Cx)(pos:Pos)(es:List Expr):Prop:=(aK pos (ao es X.env)).any (·.1)=false
abbrev Wz(X:Cx)(e o:Expr)(pos:Pos):Prop:=bu e (some o) pos.line X.env=pure false
abbrev Az(X:Cx)(o:Expr)(m:Str):Prop:=c7 o m X.env (eval o X.env)=eval o X.env
abbrev Ez(p pos:Pos):Prop:=(p.endLine==pos.line)=true
abbrev Iz(e:Expr):Prop:=(λo i=>subscripted e false o i)=λo i=>operate [o,i] (getItem o i)
abbrev Fz(X:Cx)(e:Expr):Prop:=(λx=>eL e X.env x)=λx=>pure x
class Cz(X:Cx)(B:outParam Bz)(k:outParam Nat):Prop where
 P:X.prog=B.P
 w:X.w=B.w
 K:X.K=B.G.K
 mg:X.mg=B.mg
 b:X.base=B.base
 c:X.calm=true
 r:pJ k X.A
class Yb(B:Bz):Prop where y:Yw B.P B.w B.mg B.base B.G
class Df(B:Bz)(j:outParam Nat)(x:Str)(sp:Sp):Prop where p:∃ps,wc B.P B.w B.G.K B.mg B.base j x ps sp
class Kf(B:Bz)(j:outParam Nat)(x:Str)(c:Nat)(g:List D->Option (List Str×List D))(dds:List D):Prop where
 p:∃ps,BL B.G B.P B.w B.mg B.base j x c ps (dds.map vD) g
 f:dds.all qm=true
class Mf(B:Bz)(j:outParam Nat)(m:Str)(g:Nat->Option (List D->Option D)):Prop where p:∀c h,g c=some h->xR B.G B.P B.w B.mg B.base j m c h
class Ff(B:Bz)(ok:Nat->Bool)(f:Str):Prop where p:∀c,ok c=true->Cls B.G.K (B.G.ca c)/\sD B.G.K (B.G.ca c) f
class Af(B:Bz)(c:Nat)(xs:outParam (List Str)):Prop where p:CF B.G.K (B.G.ca c) xs
class Nb(B:Bz)(x:Str):Prop where p:B.mg x=none
class Co(B:Bz)(x:Str)(d:D):Prop where p:vU B.G B.mg x d
class Ic(B:Bz)(x:Str)(t:Ty->Option Bool):Prop where p:∃c,zD B.G c t/\B.mg x=some (.ref (B.G.ca c))
class Ij(B:Bz)(n:Nat):Prop where p:∀j k,j<n->k<n->B.G.ca j=B.G.ca k->j=k
class OpC(op:gp)(g:D->D->Option D):Prop where p:∀(X:Cx) (G:Bg),∃r,OpR X (bO op) r/\OpD G r g
instance in1:OpC .Mod rh:=⟨λ_ _=>⟨_,Mv,M5⟩⟩
instance in2:OpC .FloorDiv wb:=⟨λ_ _=>⟨_,Jw,M6⟩⟩
instance in3:OpC .Mult sE:=⟨λ_ _=>⟨_,Mu,M4⟩⟩
instance in4:OpC .Sub rS:=⟨λ_ _=>⟨_,Mt,M3⟩⟩
instance in5:OpC .Pow Ho:=⟨λ_ _=>⟨_,Mw,M7⟩⟩
instance in6:OpC .Add pW:=⟨λ_ _=>⟨_,Ms,M0⟩⟩
instance in7:OpC .Add qG:=⟨λ_ _=>⟨_,Dj,Kq⟩⟩
instance in8:OpC .Mult zC:=⟨λ_ _=>⟨_,Dy,KR⟩⟩
class CmC(op:dQ)(g:D->D->Option D):Prop where p:∀(X:Cx) (G:Bg),X.K=G.K->X.A.units+64<cLine->∃r,OpR X (aI op) r/\OpD G r g
instance in9:CmC .Eq (dEq false):=⟨λ_ _ h u=>⟨_,Nf u h,Qo⟩⟩
instance in10:CmC .NotEq (dEq true):=⟨λ_ _ h u=>⟨_,Ng u h,Qp⟩⟩
instance in11:CmC .In (dIn false):=⟨λ_ _ h _=>⟨_,Nh h,LC⟩⟩
instance in12:CmC .NotIn (dIn true):=⟨λ_ _ h _=>⟨_,FP h,LC⟩⟩
instance in13:CmC .Is zv:=⟨λ_ _ _ _=>⟨_,Mx,M9⟩⟩
instance in14:CmC .IsNot ua:=⟨λ_ _ _ _=>⟨_,Jx,Kr⟩⟩
instance in16:CmC .Lt Hr:=⟨λ_ _ _ _=>⟨_,PM,Qk⟩⟩
instance in17:CmC .LtE uZ:=⟨λ_ _ _ _=>⟨_,PN,Ql⟩⟩
instance in18:CmC .Gt Hs:=⟨λ_ _ _ _=>⟨_,PQ,Qm⟩⟩
instance in19:CmC .GtE MZ:=⟨λ_ _ _ _=>⟨_,PR,Qn⟩⟩
instance in20:CmC .LtE Ht:=⟨λ_ _ _ _=>⟨_,FB,M8⟩⟩
class B1(x:Str)(g:D->Option D):Prop where p:∀(X:Cx) (G:Bg),X.K=G.K->X.calm=true->∃(id:String) (r:List V->Hp->VK->Prop),pM X (.builtin id) r/\AO G r g/\cf x=some (.builtin id)
instance in21:B1 "len" uc:=⟨λ_ _ h _=>⟨_,_,FR h,Ni,ku⟩⟩
instance in22:B1 "all" rT:=⟨λ_ _ h c=>⟨_,_,FU c h,Nl,boot_all⟩⟩
instance in23:B1 "any" zB:=⟨λ_ _ h c=>⟨_,_,F1 c h,Nv,boot_any⟩⟩
class KtC(x:Str)(T:outParam String):Prop where p:(∀(X:Cx) (G:Bg) y b,pN T y=some b->W.kitOne X.K (y.val G) (.type T)=some b)/\cf x=some (.type T)
instance in24:KtC "str" "str" := ⟨λ_ _=>Ky,Pv.boot_str⟩
instance in25:KtC "int" "int" := ⟨λ_ _=>KQ,lg⟩
instance in26:KtC "bool" "bool" := ⟨λ_ _=>Il,Pv.boot_bool⟩
instance in27:KtC "list" "list" := ⟨λ_ _=>HG,kQ⟩
instance in28:KtC "tuple" "tuple" := ⟨λ_ _=>kit_tuple,kH⟩
theorem LJ{G:Bg}{H:Hp}:∀{dds:List D},dds.all qm=true->n8 G H dds (dds.map vD)
 |[],_=>oO
 |d::ds,h=>by rw[d7,aC]at h;exact oM (w5 h.1 H) (LJ h.2)
theorem eqI{α:Sort u}{a b:α}(h:a=b):a=b:=h
def sees(X:Cx)(i:Nat)(x:Str):Bool:=decide (X.N[i]?=some x)&&(match X.env.scope.names.lookup x with|some .local=>true|some .cell=>true|some .free=>true|_=>false)&&!(x==("__debug__" : Str))&&!(x==("__classdict__" : Str))
def sets(X:Cx)(i:Nat)(x:Str):Bool:=decide X.N.Nodup&&decide (X.N[i]?=some x)&&(match X.env.scope.names.lookup x with|some .local=>true|some .cell=>X.fn x|_=>false)
variable{fu:FT}{id:String}{lo:Option Expr}
section
variable{X:Cx}{B:Bz}{k j i n c0:Nat}{x m:Str}{e e' o tg it:Expr}{es:List Expr}{p p2 p3 pos apos:Pos}{f f' f2:FE}{a:FA}{g:D->D->Option D}
theorem pvI(h:sees X i x=true):PE X (.Name x p) (um i):=by
 unfold sees at h;simp only[aC,bh,dY]at h;obtain⟨⟨⟨h1,h2⟩,h3⟩,h4⟩:=h;refine pv i h1 ?_ h3 h4;unfold Vis;split at h2
 ·rename_i e;exact .inl e
 ·rename_i e;exact .inr (.inl e)
 ·rename_i e;exact .inr (.inr e)
 ·cases h2
theorem QD(h:sees X i x=true):ZE X B (.Name x p) (cV i):=⟨DA (pvI h)⟩
theorem NK(h:sees X i x=true):ZE X B (.Name x p) (cFz i):=⟨Qi (pvI h)⟩
theorem K1(h:sees X i x=true):ZN X B (.Name x p) (Hh i):=⟨Kl (pvI h)⟩
theorem xc(h:sets X i x=true):X.N.Nodup/\X.N[i]?=some x/\L2.Loc X.env.scope x/\(X.fn x=true\/X.env.scope.names.lookup x=some .local):=by
 unfold sets at h;simp only[aC,bh]at h;obtain⟨⟨h1,h2⟩,h3⟩:=h;unfold L2.Loc;split at h3
 ·rename_i e;exact⟨h1,h2,.inl e,.inr e⟩
 ·rename_i e;exact⟨h1,h2,.inr e,.inl h3⟩
 ·cases h3
theorem pgI(h:sets X i x=true):PG X (.Name x p) (sS i):=by obtain⟨h1,h2,h3,h4⟩:=xc h;exact D5 h1 h2 h3 h4
theorem NL(h:sets X i x=true)(hi:Nat.blt i n=true):ZG X B (.Name x p) n (gN i):=⟨G7 n (pgI h) (Nat.blt_eq.mp hi)⟩
theorem stW{te:TE}(h:sets X i x=true)(he:PE X e te)(hs:Wz X e (.Name x p) pos):PS X (.Assign [.Name x p] e pos) (wH te (sS i)):=by obtain⟨h1,h2,h3,h4⟩:=xc h;exact De h1 h2 h3 he hs h4
theorem NM(h:sets X i x=true)(he:ZE X B e f)(hs:Wz X e (.Name x p) pos):ZS X B (.Assign [.Name x p] e pos) (oY i f):=⟨Eo (stW h he.p hs)⟩
theorem NN(h:sets X i x=true)(he:ZN X B e a)(hs:Wz X e (.Name x p) pos):ZS X B (.Assign [.Name x p] e pos) (sX i a):=⟨Cn (stW h he.p hs)⟩
theorem NO(h:sets X i x=true)(hs:Wz X (.Dict [] [] p2) (.Name x p) pos):ZS X B (.Assign [.Name x p] (.Dict [] [] p2) pos) (AS i):=⟨HP (stW h Ca hs)⟩
theorem NP{op:gp}[O:OpC op g](ha:ZE X B e f)(hb:ZE X B e' f'):ZE X B (.BinOp e op e' pos) (c2 g f f'):=by obtain⟨r,h1,h2⟩:=O.p X B.G;exact⟨Qa h1 h2 ha.p hb.p⟩
theorem NQ [C:Cz X B k](ha:ZE X B e f)(hb:ZE X B e' f')(hs:Iz e'):ZE X B (.Subscript e e' pos) (c2 dIx f f'):=⟨Qb (Rp C.K) Qq ha.p hb.p λo i=>congrFun (congrFun hs o) i⟩
theorem NR [C:Cz X B k](ha:ZE X B e f)(hb:ZE X B e' f')(hs:Iz e'):ZE X B (.Subscript e e' pos) (c2 AR f f'):=⟨KE (Ej C.r) ha.p hb.p λo i=>congrFun (congrFun hs o) i⟩
section
variable{op op':dQ}{g':D->D->Option D}
theorem NS [O:CmC op g][C:Cz X B k](ha:ZE X B e f)(hb:ZE X B e' f')(hm:dH op e'=false):ZE X B (.Compare e [op] [e'] pos) (c2 g f f'):=by obtain⟨r,h1,h2⟩:=O.p X B.G C.K C.r.units;exact⟨MQ h1 h2 ha.p hb.p hm⟩
theorem NT [O:CmC op g][C:Cz X B k](ha:ZE X B e f)(hb:ZE X B e' f')(hm:dH op e'=false):ZT X B (.Compare e [op] [e'] pos) (cT (c2 g f f')):=by obtain⟨r,h1,h2⟩:=O.p X B.G C.K C.r.units;exact⟨JS h1 h2 ha.p hb.p hm⟩
theorem NU [O:CmC op g][O':CmC op' g'][C:Cz X B k](ha:ZE X B e f)(hb:ZE X B e' f')(hc:ZE X B o f2)(hm:lastMarks [op,op'] [e',o]=false):ZE X B (.Compare e [op,op'] [e',o] pos) (rq g g' f f' f2):=by obtain⟨r,h1,h2⟩:=O.p X B.G C.K C.r.units;obtain⟨r',h3,h4⟩:=O'.p X B.G C.K C.r.units;exact⟨HB h1 h3 h2 h4 ha.p hb.p hc.p hm⟩
theorem NV [O:CmC op g][O':CmC op' g'][C:Cz X B k](ha:ZE X B e f)(hb:ZE X B e' f')(hc:ZE X B o f2)(hm:lastMarks [op,op'] [e',o]=false):ZT X B (.Compare e [op,op'] [e',o] pos) (cT (rq g g' f f' f2)):=by obtain⟨r,h1,h2⟩:=O.p X B.G C.K C.r.units;obtain⟨r',h3,h4⟩:=O'.p X B.G C.K C.r.units;exact⟨FX h1 h3 h2 h4 ha.p hb.p hc.p hm⟩
end
theorem NW(h:ZE X B e f)(he:(λwhole=>isTrue e X.env whole)=λwhole=>(do let v<-whole;standAt e.pos;holding [v] (truthy v))):ZT X B e (cT f):=⟨JT h.p λw=>congrFun he w⟩
theorem NX{ft:FT}(ha:ZT X B e ft)(hb:ZW X B (.BoolOp .Or (e'::es) pos) fu):ZT X B (.BoolOp .Or (e::e'::es) pos) (rk ft fu):=⟨PW.pt (G0 ha.p hb.p)⟩
theorem NY{d:D}[C:Cz X B k][Q:Co B x d](hg:Gz X x)(hd:Dz x):ZE X B (.Name x pos) (cC d):=⟨HE (C.mg▸Q.p) hg hd⟩
theorem NZ{ok:Nat->Bool}[C:Cz X B k][Q:Ff B ok m](he:ZE X B e f)(hb:Az X e m):ZE X B (.Attribute e m pos) (c1 (ou ok m) f):=⟨He he.p (C.K▸Q.p) hb⟩
section
variable(hg:Gz X x)(hd:Dz x)(hs:Sz X e es)(hl:Lz X pos es)
include hg hd
theorem dz{sp:Sp}[C:Cz X B k][Q:Df B j x sp]:∃ps,wc X.prog X.w X.K X.mg X.base j x ps sp:=by rw[C.P,C.w,C.K,C.mg,C.b];exact Q.p
theorem N0{g:List D->Option (List D)}[C:Cz X B k][Q:Df B j x (spN B.G g)](hj:aP j k=true):ZN X B (.Call (.Name x p) [] [] pos) (pL g o6):=by obtain⟨ps,q⟩:=dz hg hd (X:=X) (Q:=Q);exact⟨HC q (C.r.mono (cm.mp hj)) hg hd⟩
include hs hl
theorem N1{g:List D->Option D}[C:Cz X B k][Q:Df B j x (spF B.G g)](ha:ZA X B (e::es) a)(hj:aP j k=true):ZE X B (.Call (.Name x p) (e::es) [] pos) (n6 g a):=by obtain⟨ps,q⟩:=dz hg hd (X:=X) (Q:=Q);exact⟨Np q (C.r.mono (cm.mp hj)) ha.p hg hd hs hl⟩
theorem N2{g:List D->Option (List D)}[C:Cz X B k][Q:Df B j x (spN B.G g)](ha:ZA X B (e::es) a)(hj:aP j k=true):ZN X B (.Call (.Name x p) (e::es) [] pos) (pL g a):=by obtain⟨ps,q⟩:=dz hg hd (X:=X) (Q:=Q);exact⟨Ku q (C.r.mono (cm.mp hj)) ha.p hg hd hs hl⟩
theorem N3{g:List D->List D->Option (D×List D)}[C:Cz X B k][Q:Df B j x (spM B.G g)](hv:ZV X e i)(ha:ZA X B es a)(hj:aP j k=true):ZE X B (.Call (.Name x p) (e::es) [] pos) (xO g i a):=by obtain⟨ps,q⟩:=dz hg hd (X:=X) (Q:=Q);exact⟨Kv q (C.r.mono (cm.mp hj)) hv.p ha.p hg hd hs hl⟩
theorem N4{g:List D->Option (List Str×List D)}{dds:List D}[C:Cz X B k][Q:Kf B j x c0 g dds](ha:ZA X B (e::es) a)(hj:aP (j+1) k=true):ZE X B (.Call (.Name x p) (e::es) [] pos) (oA c0 (λds=>g (ds++dds)) a):=by obtain⟨ps,q⟩:=Q.p;exact⟨Kw (by rw[C.P,C.w,C.mg,C.b];exact q) (λH=>LJ Q.f) (C.r.mono (cm.mp hj)) ha.p C.K hg hd hs hl⟩
end
theorem mz{g:Nat->Option (List D->Option D)}[C:Cz X B k][Q:Mf B j m g]:∀c h,g c=some h->xR B.G X.prog X.w X.mg X.base j m c h:=by rw[C.P,C.w,C.mg,C.b];exact Q.p
theorem N5{g:Nat->Option (List D->Option D)}{pl:Sem Bool}[C:Cz X B k][Q:Mf B j m g](ho:ZE X B o f)(hj:aP j k=true)
  (ht:eval (.Call (.Attribute o m apos) [] [] pos) X.env=(do
   let ov<-eval o X.env
   standAt apos.atName
   let (f,first)<-holding [ov] (getMethod ov m pl)
   callWith pos f first (aK pos (ao [] X.env)) (backToKw pos (cy [] X.env)))):ZE X B (.Call (.Attribute o m apos) [] [] pos) (pV g m f o6):=⟨DF mz (C.r.mono (cm.mp hj)) ho.p C.K ht⟩
theorem N6{g:Nat->Option (List D->Option D)}{pl:Sem Bool}[C:Cz X B k][Q:Mf B j m g](ho:ZE X B o f)(ha:ZA X B (e::es) a)(hj:aP j k=true)(hs:Sz X e es)(hl:Lz X pos es)
  (ht:eval (.Call (.Attribute o m apos) (e::es) [] pos) X.env=(do
   let ov<-eval o X.env
   standAt apos.atName
   let (f,first)<-holding [ov] (getMethod ov m pl)
   callWith pos f first (aK pos (ao (e::es) X.env)) (backToKw pos (cy [] X.env)))):ZE X B (.Call (.Attribute o m apos) (e::es) [] pos) (pV g m f a):=⟨FY mz (C.r.mono (cm.mp hj)) ho.p ha.p C.K hs hl ht⟩
section
variable(hg:Gz X x)(hd:Nz x)(hs:S1 X e)
include hg hd hs
theorem cbI{r:List V->Hp->VK->Prop}{t:TA}[C:Cz X B k][N:Nb B x](hc:pM X (.builtin id) r)(hv:cf x=some (.builtin id))(ha:PA X [e] t):PE X (.Call (.Name x p) [e] [] pos) (tCB r t):=by simp only[aC,bh,dY]at hd;exact rO hc hg (C.mg▸N.p) hv ha hd.1 hd.2 hs rfl
theorem ctI{T:String}{r:List V->Hp->VK->Prop}{t:TA}[C:Cz X B k][N:Nb B x](hc:pM X (.type T) r)(hv:cf x=some (.type T))(ha:PA X [e] t):PE X (.Call (.Name x p) [e] [] pos) (tCB r t):=by simp only[aC,bh,dY]at hd;exact Fn hc hg (C.mg▸N.p) hv ha hd.1 hd.2 hs rfl
theorem N7{g:D->Option D}[Q:B1 x g][C:Cz X B k][N:Nb B x](ha:ZE X B e f):ZE X B (.Call (.Name x p) [e] [] pos) (c1 g f):=by obtain⟨id,r,h1,h2,h3⟩:=Q.p X B.G C.K C.c;exact⟨LF h2 (cbI hg hd hs h1 h3 (qk ha.p sg hs))⟩
end
section
variable(hs:S1 X e)
include hs
theorem N8 [C:Cz X B k][N:Nb B "list"](hg:Gz X "list")(ha:ZE X B e f):ZN X B (.Call (.Name "list" p) [e] [] pos) (vm f):=⟨Hy (ctI hg (by decide) hs (DE C.K) kQ (qk ha.p sg hs))⟩
theorem N9 [C:Cz X B k][N:Nb B "tuple"](hg:Gz X "tuple")(ha:ZE X B e f):ZE X B (.Call (.Name "tuple" p) [e] [] pos) (Ew f):=⟨Hz (ctI hg (by decide) hs (FV C.K) kH (qk ha.p sg hs))⟩
theorem Oa [C:Cz X B k][N:Nb B "range"](hg:Gz X "range")(ha:ZE X B e f):ZI X B tg (.Call (.Name "range" p) [e] [] pos) (iR1 f):=⟨DD (Fd hg (C.mg▸N.p) (qk ha.p sg hs) hs)⟩
end
section
variable(hi:Gz X "isinstance")(hg:Gz X x)(hs:ao [e,.Name x p2] X.env=[(false,eval e X.env),(false,eval (.Name x p2) X.env)])(hs':S1 X (.Name x p2))
include hi hg hs hs'
theorem Ob{T:String}[Q:KtC x T][C:Cz X B k][N:Nb B "isinstance"][N':Nb B x](ha:ZE X B e f)(hd:Nz x):ZE X B (.Call (.Name "isinstance" p) [e,.Name x p2] [] pos) (c1 (pd (pN T)) f):=by
 simp only[aC,bh,dY]at hd;refine⟨Eu (c:=.b T) (rO (AQ (.b T) (Q.p.1 X B.G) HF C.K) hi (C.mg▸N.p) eX (o5 ha.p (o5 (D3 (v:=.ty T) hg (C.mg▸N'.p) Q.p.2 rfl hd.1 hd.2) qK ?_) ?_) (by decide) (by decide) ?_ ?_)⟩
 ·exact hs'
 ·rw[hs,hs']
 ·rw[hs,hs']
 ·rw[hs'];rfl
theorem Od{t:Ty->Option Bool}[Q:Ic B x t][C:Cz X B k][N:Nb B "isinstance"](ha:ZE X B e f)(hd:Dz x):ZE X B (.Call (.Name "isinstance" p) [e,.Name x p2] [] pos) (c1 (pd t) f):=by
 obtain⟨c,q1,q2⟩:=Q.p;refine⟨Eu (c:=.c c) (rO (DI q1 C.K) hi (C.mg▸N.p) eX (o5 ha.p (o5 (wO (v:=.ref (B.G.ca c)) hg (C.mg▸q2) rfl hd) qK ?_) ?_) (by decide) (by decide) ?_ ?_)⟩
 ·exact hs'
 ·rw[hs,hs']
 ·rw[hs,hs']
 ·rw[hs'];rfl
end
section
variable(hb:Az X o m)(hl:Ez apos pos)(hs:S1 X e)
include hb hl hs
theorem bmI{T:String}{r:V->List V->Hp->VK->Prop}{to:TE}{t:TA}[C:Cz X B k](pa:iG T)(slot:Slot T m id)(hty:typeOf (.builtin id)=pure (.type "method_descriptor"))(hm:MtR X id r)(ho:PE X o to)(ha:PA X [e] t):PE X (.Call (.Attribute o m apos) [e] [] pos) (tBM B.G.K T r to t):=
 GY B.G.K pa slot hty hm ho ha hb (by rw[hs];rfl) hl hs rfl C.K
end
section
variable(h:sees X i x=true)(hb:Az X (.Name x p) m)(hl:Ez apos pos)(hs:S1 X e)
include h hb hl hs
theorem Oe [C:Cz X B k](hm:m="append")(ha:ZE X B e f):ZE X B (.Call (.Attribute (.Name x p) m apos) [e] [] pos) (zm i f):=by subst hm;exact⟨FK (bmI hb hl hs fO gQ jG xJ (pvI h) (qk ha.p sg hs))⟩
theorem Of [C:Cz X B k](hm:m="extend")(ha:ZE X B e f):ZE X B (.Call (.Attribute (.Name x p) m apos) [e] [] pos) (vt i f):=by subst hm;exact⟨DK (bmI hb hl hs fO fL jH (C.K▸DJ) (pvI h) (o5 ha.p qK hs))⟩
end
theorem Og [C:Cz X B k](ha:ZE X B e f)(hb:ZE X B e' f')(h1:Az X e "get")(h2:Ez apos pos)(h3:S1 X e'):ZE X B (.Call (.Attribute e "get" apos) [e'] [] pos) (c2 wd f f'):=⟨HN (Ej C.r) ha.p hb.p ⟨h1,by rw[h3];rfl,h2,by rw[h3];rfl⟩⟩
theorem Oh{xs:List Str}[C:Cz X B k][Q:Af B c0 xs](hx:xs.contains m=true)(h:sees X i x=true)(hv:ZE X B e f)(hs:Wz X e (.Attribute (.Name x p) m apos) pos):ZS X B (.Assign [.Attribute (.Name x p) m apos] e pos) (oP c0 i m f):=⟨Kj (Mz (pvI h) hv.p hs) (by obtain⟨i,_,e⟩:=gG (jf.mp hx);exact C.K▸Q.p.at i (aV.mpr ⟨_,e⟩))⟩
theorem Oi [C:Cz X B k](h:sees X i x=true)(hk:ZE X B e' f')(hv:ZE X B e f)(hs:Wz X e (.Subscript (.Name x p) e' apos) pos):ZS X B (.Assign [.Subscript (.Name x p) e' apos] e pos) (vq i f' f):=⟨HQ (JK (Ej C.r) (pvI h) hk.p hv.p hs)⟩
theorem Oj{n:Nat}[Q:Ij B n](h:ZE X B e f):ZE X B e (uI n f):=⟨KO Q.p h.p⟩
theorem Ol{hi:Option Expr}{fl fh:FO}[C:Cz X B k](he:ZE X B e f)(hl:ZO X B lo fl)(hh:ZO X B hi fh):ZN X B (.Subscript e (.Slice lo hi none p) pos) (rY f fl fh):=⟨DH (y9 (Qs C.K) he.p hl.p hh.p)⟩
theorem Om{hi:Option Expr}{l h:Option Int}[C:Cz X B k](he:ZE X B e f)(hl:ZK X lo l)(hh:ZK X hi h):ZN X B (.Subscript e (.Slice lo hi none p) pos) (cSl f l h):=⟨FW (y9 (Qs C.K) he.p hl.p hh.p)⟩
theorem On{y:Int}:ZK X (some (.Constant (.int y) j pos)) (some y):=⟨HA⟩
theorem Oq:ZK X none none:=⟨Qr⟩
theorem Os [C:Cz X B k](h:ZE X B e f):ZI X B tg e (iL f):=⟨Ct (Cg B.G.K h.p C.K)⟩
theorem Ot [C:Cz X B k](h:ZE X B e f):ZI X B tg e (iT f):=⟨Ko (JP B.G.K h.p C.K)⟩
theorem Ou(h:ZE X B e f):ZI X B tg e (iD f):=⟨Ia (KM h.p)⟩
theorem Ov(h:ZE X B e f):ZI X B tg e (iS f):=⟨KG (MJ h.p)⟩
section
variable{gg:FG}{gs:List D->List Sl->Option (List Sl)}
theorem K2:ZH X B [] n AL:=⟨J1 Js⟩
theorem K3(h1:ZG X B e n gg)(h2:ZH X B es n gs)(hs:(bT (e::es) X.env).map (·.2)=assign e X.env::(bT es X.env).map (·.2)):ZH X B (e::es) n (pA gg gs):=⟨G8 (Gm h1.p h2.p hs)⟩
end
def tgN:Expr->List Str
 |.Name x _=>[x]
 |.Tuple es _ _=>es.filterMap λe=>match e with|.Name x _=>some x|_=>none
 |_=>[]
def cpN(X:Cx)(tg:Expr)(cap:List Nat):List Str:=tgN tg++cap.map λj=>X.N.getD j ""
instance inCz [C:Cz X B k]{N':List Str}{sc:bM}{cl:List (Str×Addr)}{A:Addr}{fp:List Addr}{s:ae}{H:Hp}:Cz (pK X N' sc cl A fp s H) B k:=⟨C.P,C.w,C.K,C.mg,C.b,C.c,C.r⟩
def Ow(X:Cx)(N':List Str)(sc:bM)(n:Nat)(cap:List Nat):Bool:=decide cap.Nodup&&decide (sc.kind=.function)&&(sc.names.all λy=>y.2 != .cell)&&(sc.names.all λy=>y.2 != .local||sc.names.lookup y.1==some .local)&&(sc.names.all λy=>y.2 != .free||(X.env.kindOf y.1==some .cell||X.env.kindOf y.1==some .free))&&decide (N'.length=n+cap.length)&&decide ((N'.drop n).map some=cap.map λj=>X.N[j]?)&&((N'.drop n).all λx=>sc.names.lookup x==some .free)
section
variable{sc:bM}{cap:List Nat}{ifs:List Expr}{gg:FG}{ft:FT}{s:FA}
 (h0:Ow X (cpN X tg cap) sc n cap=true) (hs:Fz X it) (hi:ZI X B tg it s)
 (h1:∀(cl:List (Str×Addr)) (A:Addr) (fp:List Addr) (s:ae) (H:Hp),ZG (pK X (cpN X tg cap) sc cl A fp s H) B tg n gg)
 (h2:∀(cl:List (Str×Addr)) (A:Addr) (fp:List Addr) (s:ae) (H:Hp),ZF (pK X (cpN X tg cap) sc cl A fp s H) B ifs ft)
 (h3:∀(cl:List (Str×Addr)) (A:Addr) (fp:List Addr) (s:ae) (H:Hp),ZE (pK X (cpN X tg cap) sc cl A fp s H) B e f)
include h0 hs hi h1 h2 h3
theorem Ox [C:Cz X B k]:ZN X B (.ListComp e [⟨tg,it,ifs,0⟩] sc pos) (oH n cap s gg ft f):=by unfold Ow at h0;simp only[aC,bh]at h0;obtain⟨⟨⟨⟨⟨⟨⟨a1,a2⟩,a3⟩,a4⟩,a5⟩,a6⟩,a7⟩,a8⟩:=h0;exact⟨Hm a1 (JO (N':=cpN X tg cap) C.c hi.p (λcl A fp s H=>⟨(h1 cl A fp s H).p,(h2 cl A fp s H).p,(h3 cl A fp s H).p⟩) a2 a3 a4 a5 a6 a7 a8 λx=>congrFun hs x)⟩
theorem cpW [C:Cz X B k](h:sets X i x=true)(hw:bu (.ListComp e [⟨tg,it,ifs,0⟩] sc pos) (some (.Name x p)) apos.line X.env=pure true):PS X (.Assign [.Name x p] (.ListComp e [⟨tg,it,ifs,0⟩] sc pos) apos) (wH (yb (tFI B.G s) (tFG B.G n gg) (tFT B.G ft) (tF B.G f) n cap) (sS i))/\cap.Nodup:=by unfold Ow at h0;simp only[aC,bh]at h0;obtain⟨⟨⟨⟨⟨⟨⟨a1,a2⟩,a3⟩,a4⟩,a5⟩,a6⟩,a7⟩,a8⟩:=h0;obtain⟨b1,b2,b3,b4⟩:=xc h;exact⟨Kz (N':=cpN X tg cap) C.c b1 b2 b3 hi.p (λcl A fp s H=>⟨(h1 cl A fp s H).p,(h2 cl A fp s H).p,(h3 cl A fp s H).p⟩) a2 a3 a4 a5 a6 a7 a8 (λx=>congrFun hs x) hw b4,a1⟩
theorem Oy [C:Cz X B k](h:sets X i x=true)(hw:bu (.ListComp e [⟨tg,it,ifs,0⟩] sc pos) (some (.Name x p)) apos.line X.env=pure true):ZS X B (.Assign [.Name x p] (.ListComp e [⟨tg,it,ifs,0⟩] sc pos) apos) (oY i (cL (oH n cap s gg ft f))):=by have z:=cpW (k:=k) h0 hs hi h1 h2 h3 h hw;exact⟨HI z.2 z.1⟩
theorem Oz [C:Cz X B k](h:sets X i x=true)(hw:bu (.ListComp e [⟨tg,it,ifs,0⟩] sc pos) (some (.Name x p)) apos.line X.env=pure true):ZS X B (.Assign [.Name x p] (.ListComp e [⟨tg,it,ifs,0⟩] sc pos) apos) (sX i (oH n cap s gg ft f)):=by have z:=cpW (k:=k) h0 hs hi h1 h2 h3 h hw;exact⟨F0 z.2 z.1⟩
end
section
variable{st:Stmt}{sts:List Stmt}{fs fs':FS}{ft:FT}{a':FA}{z1:Nat}
theorem QE(ha:ZE X B e f)(hr:ZA X B es a)(hs:Sz X e es):ZA X B (e::es) (aCons f a):=⟨qk ha.p hr.p hs⟩
theorem QF:ZA X B [] o6:=⟨sg⟩
theorem OA(h:sees X i x=true):ZV X (.Name x p) i:=⟨pvI h⟩
theorem OB(h:ZN X B e a):ZE X B e (cL a):=⟨MW h.p⟩
theorem QG{y:Str}:ZE X B (.Constant (.str y) j pos) (cC (.str y)):=⟨MO⟩
theorem QH{y:Int}:ZE X B (.Constant (.int y) j pos) (cC (.int y)):=⟨MN⟩
theorem QI{y:Bool}:ZE X B (.Constant (.bool y) j pos) (cC (.bl y)):=⟨P9⟩
theorem QJ:ZE X B (.Constant .none j pos) (cC .non):=⟨MP⟩
theorem CP(h1:ZS X B st fs)(h2:ZB X B sts fs'):ZB X B (st::sts) (og fs fs'):=⟨G3 h1.p h2.p⟩
theorem QK(h1:ZS X B st fs):ZB X B [st] fs:=⟨JZ h1.p⟩
theorem QL:ZB X B [] o3:=⟨JY⟩
theorem OC(h:ZE X B e f):ZS X B (.Return (some e) pos) (oJ f):=⟨J0 h.p⟩
theorem OD(h:ZN X B e a):ZS X B (.Return (some e) pos) (qy a):=⟨G4 h.p⟩
theorem OE(h:ZE X B e f)(hs:bu e none pos.line X.env=pure false):ZS X B (.Expr e pos) (ra f):=⟨G5 h.p hs⟩
theorem OF(h:ZT X B e ft)(h1:ZB X B sts fs){sts':List Stmt}(h2:ZB X B sts' fs'):ZS X B (.If e sts sts' pos) (sIf ft fs fs'):=⟨MX h.p h1.p h2.p⟩
theorem OG(h:ZA X B es a):ZN X B (.List es pos) (oI a):=⟨JW h.p⟩
theorem OH(h:ZA X B es a):ZE X B (.Tuple es z1 pos) (qZ a):=⟨MV h.p⟩
theorem OJ(ha:ZE X B e f)(hb:ZE X B e' f'):ZN X B (.BinOp e .Add e' pos) (p9 f f'):=⟨Ks ha.p hb.p⟩
theorem OK [C:Cz X B k](ha:ZE X B e f)(hb:ZE X B e' f'):ZE X B (.BinOp e .Add e' pos) (ye f f'):=⟨KH ha.p hb.p C.K⟩
theorem OL(ha:ZE X B e f)(hb:ZE X B (.BoolOp .And (e'::es) pos) f'):ZE X B (.BoolOp .And (e::e'::es) pos) (pj f f'):=⟨MS ha.p hb.p⟩
theorem OM(ha:ZE X B e f)(hb:ZE X B (.BoolOp .Or (e'::es) pos) f'):ZE X B (.BoolOp .Or (e::e'::es) pos) (cOr f f'):=⟨Qd ha.p hb.p⟩
theorem ON{op}(ha:ZE X B e f):ZE X B (.BoolOp op [e] pos) f:=⟨MR ha.p⟩
theorem OO(ha:ZE X B e f):ZE X B (.UnaryOp .Not e pos) (zj f):=⟨MU ha.p⟩
theorem OP(ha:ZT X B e ft):ZT X B (.UnaryOp .Not e pos) (pC ft):=⟨JU ha.p⟩
theorem OQ(h:ZT X B o ft)(ha:ZE X B e f)(hb:ZE X B e' f'):ZE X B (.IfExp o e e' pos) (cIf ft f f'):=⟨Qe h.p ha.p hb.p⟩
theorem QM(h:ZT X B e ft):ZF X B [e] ft:=⟨JN h.p⟩
theorem QN:ZF X B [] pE:=⟨Hn⟩
theorem OR(h:ZE X B e f):ZE X B e (u0 f):=⟨Nm h.p⟩
theorem OS(h:ZT X B e ft):ZT X B e (vn ft):=⟨Kt h.p⟩
theorem OT(h:ZE X B e f):ZO X B (some e) (oAt f):=⟨Nx h.p⟩
theorem OU:ZO X B none oNo:=⟨Nw⟩
theorem OV(ha:ZT X B e ft)(hb:ZW X B (.BoolOp .Or (e'::es) pos) fu):ZW X B (.BoolOp .Or (e::e'::es) pos) (rk ft fu):=⟨G0 ha.p hb.p⟩
theorem OW(h:ZT X B e ft):ZW X B (.BoolOp .Or [e] pos) ft:=⟨JV h.p⟩
end
theorem OX{body:List Stmt}{s:FA}{gg:FG}{b:FS}[C:Cz X B k](hp:PassesOwn (model X.prog X.w) X.A X.env X.xe)(hn:X.N.length=n)(hi:ZI X B tg it s)(hg:ZG X B tg n gg)(hb:ZB X B body b)(hs:Fz X it):ZS X B (.For tg it body [] pos) (tQ s gg b):=⟨Kp (Gs hp C.c hi.p hg.p hb.p λx=>congrFun hs x)⟩
end
end L4
namespace L4
open PySem PySem.Spec PyProof.Rows L2 L3
open PySem.W (fnOf)
def nmO(st:Stmt):List Str:=(ot st).names.filterMap λy=>match y.2 with|.local=>some y.1|.cell=>some y.1|_=>none
def psO(st:Stmt):List Str:=(qL st).args.map (·.arg)
def okO(N ps:List Str)(st:Stmt)(np n:Nat):Bool:=decide ((ot st).kind=.function)&&(ot st).isCoroutine==false&&(ot st).isGenerator==false&&decide N.Nodup&&decide (N.take ps.length=ps)&&(ps.all λx=>match (ot st).names.lookup x with|some .local=>true|some .cell=>true|_=>false)&&((ot st).names.all λy=>y.2 != .free)&&decide (ps.length=np)&&decide (N.length=n)
theorem okk{N ps:List Str}{st:Stmt}{np n:Nat}(h:okO N ps st np n=true):p7 N ps (ot st)/\ps.length=np/\N.length=n:=by
 unfold okO at h;simp only[aC,bh,beq_iff_eq]at h;obtain⟨⟨⟨⟨⟨⟨⟨⟨h1,h2⟩,h3⟩,h4⟩,h5⟩,h6⟩,h7⟩,h8⟩,h9⟩:=h;refine⟨⟨h1,h2,h3,h4,h5,λx hx=>?_,λy hy e=>?_⟩,h8,h9⟩
 ·have z:=aF.mp h6 x hx;split at z
  ·rename_i e;exact .inl e
  ·rename_i e;exact .inr e
  ·cases z
 ·have z:=aF.mp h7 y hy;rw[e]at z;exact ak z (by decide)
section
variable{B:Bz}[Y:Yb B]{x m qual:Str}{st s0:Stmt}{l:List Stmt}{k c np n:Nat}{b:FS}{p:Str}{ps xs:List Str}{N:List Str}
abbrev Bdz(B:Bz)(N:List Str)(qual:Str)(st:Stmt)(l:List Stmt)(k:Nat)(b:FS):Prop:=∀{f:Addr} {cdv:aa} {A:au} {outer:List Env} {s:ae} {H:Hp} {E:XK} [Cz (vo B.P B.w B.G.K B.mg B.base N qual st f cdv A outer s H E) B k],ZB (vo B.P B.w B.G.K B.mg B.base N qual st f cdv A outer s H E) B l b
omit Y in
theorem Bdz.ok(h:Bdz B N qual st l k b)(hl:oN st=l):Bdy B.P B.w B.G.K B.mg B.base N qual st k (tFS B.G b):=λf cdv A outer s H E hr=>by subst hl;exact(@h f cdv A outer s H E ⟨rfl,rfl,rfl,rfl,rfl,rfl,hr⟩).p
theorem gF4{g:List D->Option D}(hg:g=fnD np n b)(q:GD B.G.K x st)(hl:oN st=s0::l)(body:Bdz B (nmO st) x st (s0::l) k b)(S:okO (nmO st) (psO st) st np n=true:=by kernel_rfl)(bd:Bds x x st (psO st):=by (repeat intro _);rfl):Df B (k+1) x (spF B.G g):=
 ⟨_,gF hg Y.y q (okk S).1 (body.ok hl) (okk S).2.1 (okk S).2.2 bd⟩
theorem gN4{g:List D->Option (List D)}(hg:g=fnN np n b)(q:GD B.G.K x st)(hl:oN st=s0::l)(body:Bdz B (nmO st) x st (s0::l) k b)(S:okO (nmO st) (psO st) st np n=true:=by kernel_rfl)(bd:Bds x x st (psO st):=by (repeat intro _);rfl):Df B (k+1) x (spN B.G g):=
 ⟨_,gN' hg Y.y q (okk S).1 (body.ok hl) (okk S).2.1 (okk S).2.2 bd⟩
theorem gM4{g:List D->List D->Option (D×List D)}(hg:g=fnM np n b)(q:GD B.G.K x st)(hl:oN st=s0::l)(hp:psO st=p::ps)(body:Bdz B (nmO st) x st (s0::l) k b)(S:okO (nmO st) (p::ps) st (np+1) n=true:=by kernel_rfl)(bd:Bds x x st (p::ps):=by (repeat intro _);rfl):Df B (k+1) x (spM B.G g):=
 ⟨_,gM hg Y.y q (okk S).1 (body.ok hl) (fj (okk S).2.1) (okk S).2.2 bd⟩
theorem hF4{g:List D->Option D}(C:CF B.G.K (B.G.ca c) xs)(hg:g=fnD np n b)(q:GM B.G.K (B.G.ca c) m qual st)(hl:oN st=s0::l)(body:Bdz B (nmO st) qual st (s0::l) k b)(S:okO (nmO st) (psO st) st np n=true:=by kernel_rfl)(bd:Bds m qual st (psO st):=by (repeat intro _);rfl):xR B.G B.P B.w B.mg B.base (k+1) m c g:=by obtain⟨f,fd,a,i,F⟩:=q;exact⟨f,fd,_,C.ci.cl,⟨a,i,F.kp⟩,bd.ok F,HD hg (okk S).2.1 (okk S).2.2 F (okk S).1 (body.ok hl f)⟩
theorem gI4{g:List D->Option (List Str×List D)}(C:CF B.G.K (B.G.ca c) xs)(a:W.nsIn B.G.K az x=some (some (.ref (B.G.ca c))))(hg:g=fnI c np n b)(q:GM B.G.K (B.G.ca c) "__init__" qual st)(hl:oN st=s0::l)(hp:psO st=p::ps)(body:Bdz B (nmO st) qual st (s0::l) k b)(S:okO (nmO st) (p::ps) st (np+1) n=true:=by kernel_rfl)(bd:Bds "__init__" qual st (p::ps):=by (repeat intro _);rfl):Kf B (k+1) x c g []:=
 ⟨⟨_,gI hg Y.y C a q (okk S).1 (body.ok hl) (fj (okk S).2.1) (okk S).2.2 bd⟩,rfl⟩
theorem gJ4{g:List D->Option (List Str×List D)}{dds:List D}(C:CF B.G.K (B.G.ca c) xs)(a:W.nsIn B.G.K az x=some (some (.ref (B.G.ca c))))(hg:g=fnI c np n b)(q:GJ B.G.K (B.G.ca c) qual st (dds.map vD))(hl:oN st=s0::l)(hp:psO st=p::ps)(body:Bdz B (nmO st) qual st (s0::l) k b)(j:Nat)(S:okO (nmO st) (p::ps) st (np+1) n=true:=by kernel_rfl)(hf:dds.all qm=true:=by rfl)
  (bd:DR (dds.map vD).length λdl=>DR ((p::ps).length - ((dds.map vD).drop j).length) λus=>∀(T:Addr) (kV doc pm:aa) (an:Option Addr) (cdv ct:aa),∃k,bindArgs (fnOf "__init__" qual (qL st) (oN st) (ot st) (.ref T) kV doc pm an cdv ct) ⟨us,[]⟩=seqItems? (.ref T)>>=k/\k (some dl.toArray)=pure ((p::ps).zip (us++dl.drop j)):=by (repeat intro _);exact⟨_,rfl,rfl⟩):Kf B (k+1) x c g (dds.drop j):=
 ⟨⟨_,by rw[List.map_drop];exact gJ hg Y.y C a q (okk S).1 (body.ok hl) j (fj (okk S).2.1) (okk S).2.2 bd⟩,by
  rw[aF]at hf ⊢;exact λd h=>hf d (jo h)⟩
theorem vy(n:Nat)(ca:Nat->Addr):∀k,k<n->((aJ n).map ca).getD k 0=ca k:=λk h=>by rw[gq,aU,gB h];rfl
theorem Rr{n:Nat}{ca:Nat->Addr}(h:decide ((aJ n).map ca).Nodup=true):∀j k,j<n->k<n->ca j=ca k->j=k:=λj k hj hk e=>by rw[<-vy n ca j hj,<- vy n ca k hk]at e;exact NI (cH h) (by simpa using hj) (by simpa using hk) e
def uz:Nat->(Nat->Prop)->Prop
 |0,_=>True
 |n+1,Q=>Q 0/\uz n λk=>Q (k+1)
theorem uz.at:∀{n:Nat} {Q:Nat->Prop},uz n Q->∀k,k<n->Q k
 |_+1,_,h,0,_=>h.1
 |_+1,_,h,k+1,hk=>uz.at (Q:=λk=>_) h.2 k (Nat.lt_of_succ_lt_succ hk)
end
section
variable{X:Cx}{B:Bz}{k j i n:Nat}{x y:Str}{e e' tg:Expr}{es:List Expr}{p p2 p3 pos apos:Pos}{f f':FE}{a:FA}{st:Stmt}{sts:List Stmt}{fs fs':FS}{ft:FT}
theorem OY{gg:FG}(hn:X.N.length=n)(he:ZE X B e f)(hg:ZG X B tg n gg)(hs:swapsWithSole [tg] e pos.line X.env=pure false)(hw:swappedStores [tg] e X.env=pure none)(h1:(bT [tg] X.env).map (·.2)=[assign tg X.env]):ZS X B (.Assign [tg] e pos) (DC f gg):=⟨J2 (Gp he.p hg.p hs hw h1)⟩
theorem OZ [C:Cz X B k][N:Nb B "int"](hg:Gz X "int")(hs:S1 X e)(ha:ZE X B e f):ZE X B (.Call (.Name "int" p) [e] [] pos) (c1 Nj f):=⟨LF Nk (ctI hg (by decide) hs Fi lg (qk ha.p sg hs))⟩
end
end L4
namespace L4
open PySem PySem.Spec PyProof.Rows L2 L3
theorem LK{α:Type}[DecidableEq α]:∀{l L:List α},l.Nodup->(∀x∈l,x∈L)->l.length<=L.length
 |[],L,_,_=>aR _
 |a::l,L,nd,h=>by have h1:=h a aL;have nd':=d5.mp nd;have:=LK (l:=l) (L:=L.erase a) nd'.2 λx hx=>(List.mem_erase_of_ne (λe:x=a=>nd'.1 (by rw[<-e];exact hx))).mpr (h x (aM _ hx));rw[List.length_erase_of_mem h1]at this;have:=List.length_pos_of_mem h1;rw[aB];omega
structure Tb(t:bg)(m n:Nat):Prop where
 mask:t.mask=m
 dm:t.dummies=#[]
 pl:t.place.size=n
section
variable{t:bg}{m n:Nat}
theorem Tb.slot(T:Tb t m n)(j:Nat):(∃i,t.slot j=.live i/\t.place[i]?=some j)\/t.slot j=.empty:=by
 unfold kI;by_cases h:(t.place[bp t.place j]?==some j)=true
 ·left;simp only[h,if_true];exact⟨_,rfl,eB h⟩
 ·right;rw[j4]at h;rw[T.dm];simp[h,kR]
theorem Tb.free(T:Tb t m n)(h:n<=m):∃r,r<=m/\t.slot r=.empty:=by
 apply iQ;intro no;have:(aJ (m+1)).length<=t.place.toList.length:=LK j5 λr hr=>by
  rcases T.slot r with ⟨i,_,e⟩|e
  ·rw[<-bF]at e;exact bw e
  ·exact ak ⟨r,by have:=bj.mp hr;omega,e⟩ no
 rw[cU,bK,T.pl]at this;omega
def Emp(t:bg):Nat->bW->Prop
 |0,_=>False
 |f+1,p=>t.slot p.j=.empty\/Emp t f (t.advance p)
theorem Emp.mono:∀{f f':Nat} {p:bW},Emp t f p->f<=f'->Emp t f' p
 |0,_,_,h,_=>h.elim
 |f+1,0,_,_,h=>ak h (by omega)
 |f+1,f'+1,p,h,hl=>h.imp id λh=>h.mono (by omega)
def rs(m i q:Nat):bW:=⟨i,bH m i - i,i,q,none⟩
theorem O0(m i:Nat):bH m i - i<=9:=by unfold bH;split<;>omega
theorem Emp.run(T:Tb t m n){f i q:Nat}(h:Emp t f (rs m ((i * 5+1+q / 32) % (m+1)) (q / 32))):∀(k j:Nat),Emp t (f+k+1) ⟨j,k,i,q,none⟩
 |0,j=>.inr (by
   have e:t.advance ⟨j,0,i,q,none⟩=rs m ((i * 5+1+q / 32) % (m+1)) (q / 32):=by unfold dZ kJ;rw[T.mask];rfl
   rw[e];exact h)
 |k+1,j=>.inr (by
   have e:t.advance ⟨j,k+1,i,q,none⟩=⟨j+1,k,i,q,none⟩:=by unfold dZ;rw[ag (cN k)];rfl
   rw[e];exact Emp.run T h k (j+1))
theorem Emp.leap(T:Tb t m n){f i q:Nat}(h:Emp t f (rs m ((i * 5+1+q / 32) % (m+1)) (q / 32))):Emp t (f+10) (rs m i q):=
 (Emp.run T h (bH m i - i) i).mono (by have:=O0 m i;omega)
def orb(m:Nat):Nat->Nat->List Nat
 |0,_=>[]
 |k+1,i=>i::orb m k ((i * 5+1) % (m+1))
theorem Emp.orb(T:Tb t m n){r:Nat}(hr:t.slot r=.empty):∀(k i:Nat),r∈orb m k i->Emp t (10 * k) (rs m i 0)
 |0,i,h=>by cases h
 |k+1,i,h=>by
  rcases aN.mp h with e|h
  ·exact Emp.mono (f:=1) (.inl (by rw[e]at hr;exact hr)) (by omega)
  ·have:=Emp.leap T (q:=0) (i:=i) (Emp.orb T hr k _ h);exact this.mono (by omega)
theorem BR{p:bW}(h:p.dummy=none):(t.advance p).dummy=none:=by unfold dZ;split<;>exact h
end
theorem O1{t:bg}{F F':Nat->Int}{h:Int}(e:∀i,F i=F' i)(g:Nat)(p:bW):cI t F h g p=cI t F' h g p:=by obtain rfl:F=F':=funext e;rfl
variable{Q:Bool->ae->Prop}
section
variable{prog:aq}{w:aj}{A:au}{E:aa->ae->Prop}{s:ae}
theorem Iv{a2:Addr}{k2:List Key}{l:List aa}(h1:∀v∈l,∃k a,v=.ref a/\TK prog w s.heap k a)(h2:TK prog w s.heap k2 a2)(h:Q false s):af (model prog w) A (searchCouldBeSeen (.ref a2) l) Q E s:=by
 unfold searchCouldBeSeen;refine ai ?_;show af _ _ (forIn l _ _) _ _ s;refine hU _ (λrest r s'=>r=(none,())/\s'=s/\∀v∈rest,∃k a,v=.ref a/\TK prog w s.heap k a) _ ?_ ?_ _ _ ⟨rfl,rfl,h1⟩
 ·rintro v rest r s' ⟨rfl,rfl,hall⟩;obtain⟨k,a1,rfl,h1⟩:=hall v aL;have go:∀v∈rest,∃k a,v=Value.ref a/\TK prog w s'.heap k a:=λu hu'=>hall u (aM _ hu');dsimp only;split
  ·exact aw ⟨rfl,rfl,go⟩
  ·refine ai (jg h2 ?_);refine ai (jg h1 ?_);refine ai (ED h2 ?_);refine ai (ED h1 ?_);exact aw ⟨rfl,rfl,go⟩
 ·rintro r s' ⟨rfl,rfl,_⟩;exact aw h
end
def Nn(ow:Array (Option Nat))(j:Nat):Prop:=(ow.getD j (some 0)).isNone=true
section
variable{ow:Array (Option Nat)}
def lv(ow:Array (Option Nat)):List (Nat×Nat):=(aJ 32).filterMap λj=>(ow.getD j none).map (j,·)
end
def Cz2(m n:Nat):Prop:=(m=7/\n<=4)\/(m=31/\n<=18)\/(m=127/\19<=n/\n<=63)
section
variable{prog:aq}{w:aj}{A:au}{E:aa->ae->Prop}{s:ae}
theorem Iw{x:Str}{ks:List Key}{a:Addr}(hk:TK prog w s.heap (Sum.inr x::ks) a)(h:Q false s):af (model prog w) A (hashByValue 8 (.ref a)) Q E s:=by
 have hT:=hk.typeIs;obtain⟨o,items,n,ho,_,hd,hi⟩:=hk;unfold hashByValue;refine ai (eU hT F.slot_tuple_hash.lookup ?_);show af _ _ (seqItems? (.ref a)>>=_) _ _ s;refine ai (ko ho hd ?_);refine ai ?_;show af _ _ (forIn items _ _) _ _ s;rw[<-jE];generalize items.toList=l at hi ⊢;cases hi with
 |@cons _ v _ vs h1 h2=>
  obtain⟨t,rfl⟩:∃t,v=.str x t:=EG h1;refine hU _ (λrest r s'=>s'=s/\∃u,rest=.str x t::u) _ ?_ ?_ _ _ ⟨rfl,vs,rfl⟩
  ·rintro v rest r s' ⟨rfl,u,e⟩;cases e;refine ai (m:=hashByValue 7 (.str x t)) (aw ?_);exact aw (aw h)
  ·rintro r s' ⟨rfl,u,e⟩;cases e
end
structure Au(h:Heap)(S:Addr)(L:List (List Key×Addr))(led:Bool)(n:Nat)(o:Obj)(es:Array (Int×aa))(ep:Nat)(t:bg):Prop where
 at_:h.get? S=some o
 ex:o.ExactSet
 d:o.data=.set es ep t
 c:∃m,Tb t m n/\Cz2 m n
 led:t.led=led
 pl:0<n->t.plain=false
 p:(es.toList.map cn).Perm (L.map λq=>Value.ref q.2)
variable{led:Bool}{o:Obj}{ep:Nat}
theorem Au.sz{h:Heap}{S:Addr}{L:List (List Key×Addr)}{n:Nat}{es:Array (Int×aa)}{t:bg}(x:Au h S L led n o es ep t):es.size=L.length:=by have:=x.p.length_eq;rw[ar,ar,bK]at this;exact this
theorem Au.fits{h:Heap}{S:Addr}{L:List (List Key×Addr)}{n:Nat}{es:Array (Int×aa)}{t:bg}(x:Au h S L led n o es ep t)(hl:L.length=n):t.fits es.size=true:=by obtain⟨m,T,c⟩:=x.c;unfold eZ ip;rw[x.sz,hl,T.pl,T.dm,T.mask,aC];exact⟨by simp,bb (by unfold Cz2 at c;simp;omega)⟩
end L4
namespace L4
open PySem PySem.Spec PySem.Calls PyProof.Rows PySem.W L2 L3
section
variable{prog:aq}{w:aj}{A:au}{E:aa->ae->Prop}{s:ae}
abbrev TkS(k:List Str):List Key:=k.map Sum.inr
end
section
variable{X:Cx}{G:Bg}{H:Hp}{pins:List (Addr×Obj)}{σ:St}{s:ae}
theorem EI:∀{ds:List D} {ks:List (List Str)} {xs:List V},n8 G H ds xs->yi ds=some ks->∃L:List (List Str×Addr),xs=L.map (λq=>V.ref q.2)/\ks=L.map aX/\∀q∈L,∃p r,q.1=[p,r]/\SqT G.K H q.2 [.str p,.str r]
 |[],ks,xs,r,e=>by cases e;unfold n8 at r;subst r;exact⟨[],rfl,rfl,λq hq=>by cases hq⟩
 |d::ds,ks,xs,r,e=>by
  unfold yi at e;cases e1:key2 d with
  |none=>rw[e1]at e;cases e
  |some k=>
   cases e2:yi ds with
   |none=>rw[e1,e2]at e;cases e
   |some ks'=>
    rw[e1,e2]at e;cases e;unfold n8 at r;obtain⟨v,r',rfl,q1,q2⟩:=r;obtain⟨L,rfl,rfl,h3⟩:=EI q2 e2;obtain⟨a,p,q,rfl,rfl,h1⟩:=Iu q1 e1;refine⟨([p,q],a)::L,rfl,rfl,λz hz=>?_⟩;rcases aN.mp hz with rfl|hz
    ·exact⟨p,q,rfl,h1⟩
    ·exact h3 z hz
end
noncomputable abbrev cS(s:Str):FE:=cC (.str s)
noncomputable abbrev a1(e:FE):FA:=aCons e o6
section
variable{X:Cx}{G:Bg}{C:Addr}{x:Str}{p pos:Pos}{e:Expr}{c:Nat}
structure Mk0(K:W.Frag)(C:Addr):Prop where
 makes:makesIn K C=true
 init:findIn K (.ref C) "__init__" = some (some (.builtin "object.__init__"))
 kp:keepIn K (.ref C)=true
theorem F9(M:Mk0 X.K C)(hg:Gl X x)(hm:X.mg x=some (.ref C))(hdb:(x==("__debug__" : Str))=false):PE X (.Call (.Name x p) [] [] pos) (λσ H Q=>∀y dx,H y=none->H dx=none->dx≠y->Q (.ref y) (upd (upd H dx (.own y)) y (.ins C dx []))):=by
 intro pins s σ H Q I h;refine cu (rH I hg hm ?_ hdb);refine W.callWith_K0 I.kIn M.kp ?_;have hq:=h (s.heap.objs.size+1) s.heap.objs.size (I.hok.fresh (fo _)) (I.hok.fresh (ay _)) (aG (cW _));have I2:=Inv.made (C:=C) I;have Y:=l4 (M:=model X.prog X.w) I.kIn M.makes;refine c9 (Fk I.kIn M.makes M.init (λself=>Looks.of_pure (oi_bind self)) ?_);have e2:((s.heap.push emptyDict).push (instObj C s.heap.objs.size)).get? (s.heap.objs.size+1)=some (instObj C s.heap.objs.size):=by rw[<-dG s.heap emptyDict];exact aY _ rfl
 have t2:eF (model X.prog X.w) ((s.heap.push emptyDict).push (instObj C s.heap.objs.size)) (isInstance (.ref (s.heap.objs.size+1)) (.type "object")) true:=
  ((lr e2).andThen .now:eF (model X.prog X.w) _ (typeOf (.ref (s.heap.objs.size+1))) (.ref C)).andThen (Y.top.keeps λb o e=>aD _ (aD _ e))
 refine fI oi_plain entry_oi (check_slot oi_kind oi_split t2 (oi_args _) ?_);rw[oi_run];exact aw (And.intro rfl ⟨V.ref (s.heap.objs.size+1),_,I2,rfl,hq⟩)
def Av(c:Nat):FE:=λρ=>some (.obj c [] [],ρ)
theorem Ga(h:PE X e (λσ H Q=>∀y dx,H y=none->H dx=none->dx≠y->Q (.ref y) (upd (upd H dx (.own y)) y (.ins (G.ca c) dx [])))):PE X e (tF G (Av c)):=PE.weak h λσ H Q hh=>by
 obtain⟨F,ρ,H0,d,ρ',R,e,k⟩:=hh;cases e;intro x dx hx hdx ne;have hx2:(upd H dx (.own x)) x=none:=by rw[oo (λz=>ne z.symm)];exact hx
 have sx:oh H (upd (upd H dx (.own x)) x (.ins (G.ca c) dx [])):=(oq hdx _).trans (oq hx2 _);have R2:=R.grow sx (λ_ _ e=>e) (R.sub.trans sx) (λb o e=>.inl e);have h0:=R.h0none hx;have R3:=R2.freeze oi h0 (R.bNone hx) (λi t ei to z=>R.apart hx i t ei to z);refine k _ _ _ (oq h0 _) R3 ?_;unfold Rep;exact⟨x,dx,[],rfl,oi,rfl,oO⟩
end
section
variable{X:Cx}{B:Bz}{k:Nat}{p pos:Pos}{x:Str}{c:Nat}
class K0f(B:Bz)(x:Str)(c:Nat):Prop where p:Mk0 B.G.K (B.G.ca c)/\B.mg x=some (.ref (B.G.ca c))
theorem O2 [C:Cz X B k][Q:K0f B x c](hg:Gz X x)(hd:(x==("__debug__" : Str))=false):ZE X B (.Call (.Name x p) [] [] pos) (Av c):=⟨Ga (F9 (by rw[C.K];exact Q.p.1) hg (by rw[C.mg];exact Q.p.2) hd)⟩
end
end L4
namespace L4
open PySem PySem.Spec PyProof.Rows L2 L3
section
variable{X:Cx}{B:Bz}{k j i m:Nat}{x:Str}{e e':Expr}{es:List Expr}{d:D}{p pos:Pos}{g:D->D->Option D}
theorem QO{l:List Stmt}:ZB X B l Qw:=⟨λpins s σ H D I h=>by
 obtain⟨F,ρ,H0,o,R,e,_⟩:=h;cases e⟩
end
mutual
def zK:D->Bool
 |.non=>true
 |.bl _=>true
 |.int _=>true
 |.str _=>true
 |.tup ds=>zL ds
 |.lst ds=>zL ds
 |_=>false
def zL:List D->Bool
 |[]=>true
 |d::ds=>zK d&&zL ds
end
mutual
theorem Rep.but{G:Bg}{H H1:Hp}(e:∀b o,H b=some o->(∀u kvs,o≠HO.frz u (.dK kvs))->H1 b=some o):∀(d:D) (v:V),zK d=true->Rep G H d v->Rep G H1 d v
 |.non,v,_,h=>by unfold Rep at h ⊢;exact h
 |.bl b,v,_,h=>by unfold Rep at h ⊢;exact h
 |.int i,v,_,h=>by unfold Rep at h ⊢;exact h
 |.str x,v,_,h=>by unfold Rep at h ⊢;exact h
 |.tup ds,v,n,h=>by
  unfold Rep at h ⊢;unfold zK at n;obtain⟨a,xs,rfl,h1,h2⟩:=h;refine⟨a,xs,rfl,?_,n8.but e ds xs n h2⟩;rcases h1 with (h|⟨o,h⟩)|h
  ·exact .inl (.inl (e _ _ h λ_ _ z=>nomatch z))
  ·exact .inl (.inr ⟨o,e _ _ h λ_ _ z=>nomatch z⟩)
  ·exact .inr h
 |.lst ds,v,n,h=>by unfold Rep at h ⊢;unfold zK at n;obtain⟨a,xs,rfl,h1,h2⟩:=h;exact⟨a,xs,rfl,e _ _ h1 (λ_ _ z=>nomatch z),n8.but e ds xs n h2⟩
 |.fzl ds,v,n,h=>by unfold zK at n;cases n
 |.obj c ns ds,v,n,h=>by unfold zK at n;cases n
 |.dic ks ds,v,n,h=>by unfold zK at n;cases n
theorem n8.but{G:Bg}{H H1:Hp}(e:∀b o,H b=some o->(∀u kvs,o≠HO.frz u (.dK kvs))->H1 b=some o):∀(ds:List D) (xs:List V),zL ds=true->n8 G H ds xs->n8 G H1 ds xs
 |[],xs,_,h=>by unfold n8 at h ⊢;exact h
 |d::ds,xs,n,h=>by unfold n8 at h ⊢;unfold zL at n;rw[aC]at n;obtain⟨v,r,rfl,h1,h2⟩:=h;exact⟨v,r,rfl,Rep.but e d v n.1 h1,n8.but e ds r n.2 h2⟩
end
abbrev Upw(xs:Array Nat):Prop:=xs.toList.Pairwise (· < ·)
theorem DS{xs:Array Nat}(h:Upw xs){i k a b:Nat}(hik:i<k)(ha:xs[i]?=some a)(hb:xs[k]?=some b):a<b:=by rw[<-bF]at ha hb;obtain⟨h1,rfl⟩:=aV.mp ha;obtain⟨h2,rfl⟩:=aV.mp hb;exact iP.mp h i k h1 h2 hik
theorem zM{xs:Array Nat}(h:Upw xs)(j:Nat):∀(f lo hi:Nat),hi<=xs.size->lo<=hi->hi - lo<=f->(∀i a,i<lo->xs[i]?=some a->a<j)->(∀i a,hi<=i->xs[i]?=some a->j<=a)->
  fP xs j f lo hi<=xs.size/\(∀i a,i<fP xs j f lo hi->xs[i]?=some a->a<j)/\∀i a,fP xs j f lo hi<=i->xs[i]?=some a->j<=a
 |0,lo,hi,h1,h2,h3,h4,h5=>⟨bz h2 h1,h4,λi a hi'=>h5 i a (bz (by omega) (show lo<=i from hi'))⟩
 |f+1,lo,hi,h1,h2,h3,h4,h5=>by
  unfold fP;by_cases hl:lo<hi
  ·rw[ag hl];have hm:(lo+hi) / 2<xs.size:=by omega
   have e:xs[(lo+hi) / 2]?=some xs[(lo+hi) / 2]:=cQ hm;have g:xs.getD ((lo+hi) / 2) j=xs[(lo+hi) / 2]:=by rw[dg,e];rfl
   dsimp only;rw[g];by_cases hc:xs[(lo+hi) / 2]<j
   ·rw[ag hc];refine zM h j f _ hi h1 (by omega) (by omega) (λi a hi' ea=>?_) h5;rcases kT i ((lo+hi) / 2)with z|z
    ·exact f9 (DS h z ea e) hc
    ·have:i=(lo+hi) / 2:=by omega
     rw[this,e]at ea;cases ea;exact hc
   ·rw[ah hc];refine zM h j f lo _ (by omega) (by omega) (by omega) h4 λi a hi' ea=>?_;rcases kT ((lo+hi) / 2) i with z|z
    ·have:=DS h z e ea;omega
    ·have:i=(lo+hi) / 2:=by omega
     rw[this,e]at ea;cases ea;omega
  ·rw[ah hl];exact⟨by omega,h4,λi a hi'=>h5 i a (by omega)⟩
theorem zN{xs:Array Nat}(h:Upw xs)(j:Nat):bp xs j<=xs.size/\(∀i a,i<bp xs j->xs[i]?=some a->a<j)/\∀i a,bp xs j<=i->xs[i]?=some a->j<=a:=
 zM h j xs.size 0 xs.size (ay _) (aR _) (by omega) (λi a z=>ak z (by omega)) λi a z e=>by have:=(fz.mp e).1;omega
theorem below_at{xs:Array Nat}(h:Upw xs){i j:Nat}(e:xs[i]?=some j):bp xs j=i:=by
 obtain⟨h1,h2,h3⟩:=zN h j;rcases jS (bp xs j) i with z|z|z
 ·have hb:bp xs j<xs.size:=f9 z (fz.mp e).1;have eb:xs[bp xs j]?=some xs[bp xs j]:=cQ hb;have:=h3 _ _ (ay _) eb;have:=DS h z eb e;omega
 ·exact z
 ·have:=h2 i j z e;omega
theorem CQ{α:Type}(xs:Array α)(p:Nat)(x:α):(bN xs p x).toList=xs.toList.take p++x::xs.toList.drop p:=by unfold bN;simp;rw[fF];rw[eP,bK];exact ay _
theorem sT{α:Type}(xs:Array α){p:Nat}(hp:p<=xs.size)(x:α)(i:Nat):(bN xs p x)[i]?=if i<p then xs[i]? else if i=p then some x else xs[i - 1]?:=by
 have len:(xs.toList.take p).length=p:=by rw[aZ,bK];omega
 rw[<-bF,CQ,List.getElem?_append,len];by_cases h:i<p
 ·rw[ag h,ag h,List.getElem?_take,ag h,bF]
 ·rw[ah h,ah h];by_cases h2:i=p
  ·subst h2;rw[ag rfl,gf];rfl
  ·rw[ah h2];obtain⟨k,rfl⟩:∃k,i=p+(k+1):=⟨i - p - 1,by omega⟩;rw[show p+(k+1) - p=k+1 by omega,iX,cF,bF];congr 1
theorem O3{xs:Array Nat}(h:Upw xs){j:Nat}(hj:j∉xs.toList):Upw (bN xs (bp xs j) j):=by
 obtain⟨h1,h2,h3⟩:=zN h j;have h':=h;unfold Upw at h' ⊢;rw[CQ,jq];rw[<-jh (bp xs j) xs.toList,jq]at h';have lo:∀a∈xs.toList.take (bp xs j),a<j:=λa ha=>by obtain⟨i,hi,rfl⟩:=dj.mp ha;have hi':=hi;rw[aZ]at hi';refine h2 i _ (by omega) ?_;rw[<-bF,List.getElem_take,aQ]
 have hg:∀a∈xs.toList.drop (bp xs j),j<a:=λa ha=>by
  have ma:a∈xs.toList:=jo ha;obtain⟨i,hi,rfl⟩:=dj.mp ha;have hi':=hi;rw[eP]at hi';have:=h3 (bp xs j+i) (xs.toList.drop (bp xs j))[i] (by omega) (by rw[<-bF,List.getElem_drop,aQ]);rcases jI this with z|z
  ·exact z
  ·exact ak (z▸ma) hj
 refine⟨h'.1,List.pairwise_cons.mpr ⟨hg,h'.2.1⟩,λa ha b hb=>?_⟩;rcases aN.mp hb with rfl|hb
 ·exact lo a ha
 ·exact f9 (lo a ha) (hg b hb)
structure Tu(t:bg)(m n:Nat):Prop extends Tb t m n where
 up:Upw t.place
section
variable{t:bg}{m n:Nat}
theorem Tu.live(T:Tu t m n){i j:Nat}(e:t.place[i]?=some j):t.slot j=.live i:=by unfold kI;rw[below_at T.up e];dsimp only;rw[e];simp
theorem Tu.emp(T:Tu t m n){j:Nat}(e:t.slot j=.empty):j∉t.place.toList:=λh=>by obtain⟨i,hi,rfl⟩:=dj.mp h;rw[T.live (i:=i) (by rw[<-bF,aQ hi])]at e;cases e
def tM(m:Nat):bg:=⟨m,#[],#[],0,false,0,false⟩
def Wy(m:Nat)(O:Nat->Prop)(j:Nat):Nat->bW->Prop
 |0,_=>False
 |f+1,p=>p.j=j\/(O p.j/\Wy m O j f ((tM m).advance p))
theorem Wy.mono{O O':Nat->Prop}(h:∀x,O x->O' x){j:Nat}:∀{f f':Nat} {p:bW},Wy m O j f p->f<=f'->Wy m O' j f' p
 |0,_,_,w,_=>w.elim
 |f+1,0,_,_,l=>ak l (by omega)
 |f+1,f'+1,p,w,l=>w.imp id λw=>⟨h _ w.1,w.2.mono h (by omega)⟩
theorem BS(T:Tb t m n)(p:bW):t.advance p=(tM m).advance p:=by obtain⟨rfl,_,_⟩:=T;rfl
theorem LL(T:Tb t m n)(h:Int):t.probeStart h=(tM m).probeStart h:=by obtain⟨rfl,_,_⟩:=T;rfl
abbrev Oc(t:bg)(x:Nat):Prop:=x∈t.place.toList
theorem O4{x:Nat}(h:Oc t x):∃i:Nat,t.place[i]?=some x:=by obtain⟨i,hi,rfl⟩:=dj.mp h;exact⟨i,by rw[<-bF,aQ hi]⟩
theorem LM(T:Tu t m n)(F:Nat->Int)(h:Int){i0 j0:Nat}(e0:t.place[i0]?=some j0)(h0:F i0=h):∀(f:Nat) (p:bW),p.dummy=none->Wy m (Oc t) j0 f p->∀g,f<=g->
  ∃j i next f',f'<f/\t.slot j=.live i/\t.place[i]?=some j/\F i=h/\cI t F h g p=some (.candidate j i next)/\next.dummy=none/\(i=i0\/Wy m (Oc t) j0 f' next)
 |0,p,_,he,g,_=>he.elim
 |f+1,p,hd,he,0,hg=>ak hg (by omega)
 |f+1,p,hd,he,g+1,hg=>by
  unfold cI;obtain⟨i,ei,hi⟩:∃i:Nat,t.place[i]?=some p.j/\(i=i0\/Wy m (Oc t) j0 f ((tM m).advance p)):=by
   rcases he with e|⟨e,w⟩
   ·exact⟨i0,by rw[e];exact e0,.inl rfl⟩
   ·obtain⟨i,ei⟩:=O4 e;exact⟨i,ei,.inr w⟩
  rw[T.live ei];dsimp only;rw[BS T.toTb];by_cases hh:F i=h
  ·exact⟨p.j,i,(tM m).advance p,f,cW f,T.live ei,ei,hh,by rw[ag (by rw[hh];simp)],BR hd,hi⟩
  ·rw[ah (by simpa using hh)];have w:=hi.resolve_left λe=>hh (by rw[e];exact h0);obtain⟨j,i',nx,f',h1,h2⟩:=LM T F h e0 h0 f _ (BR hd) w g (by omega);exact⟨j,i',nx,f',by omega,h2⟩
theorem LN(T:Tu t m n)(F:Nat->Int)(h:Int):∀(f:Nat) (p:bW),p.dummy=none->Emp t f p->∀g,f<=g->(∃j,t.slot j=.empty/\cI t F h g p=some (.empty j none)/\Wy m (Oc t) j f p)\/
  ∃j i next f',f'<f/\t.slot j=.live i/\t.place[i]?=some j/\F i=h/\cI t F h g p=some (.candidate j i next)/\next.dummy=none/\Emp t f' next/\∀x,Wy m (Oc t) x f' next->Wy m (Oc t) x f p
 |0,p,_,he,g,_=>he.elim
 |f+1,p,hd,he,0,hg=>ak hg (by omega)
 |f+1,p,hd,he,g+1,hg=>by
  unfold cI;rcases T.slot p.j with ⟨i,e1,e2⟩|e1
  ·have he:Emp t f (t.advance p):=he.resolve_left λe=>by rw[e1]at e;cases e
   have oc:Oc t p.j:=by rw[<-bF]at e2;exact bw e2
   rw[e1];dsimp only;by_cases hh:F i=h
   ·right;exact⟨p.j,i,t.advance p,f,cW f,e1,e2,hh,by rw[ag (by rw[hh];simp)],BR hd,he,λx w=>.inr ⟨oc,by rw[<-BS T.toTb];exact w⟩⟩
   ·rw[ah (by simpa using hh)];rcases LN T F h f (t.advance p) (BR hd) he g (by omega)with ⟨j,h1,h2,h3⟩|⟨j,i',nx,f',h1,h2,h3,h4,h5,h6,h7,h8⟩
    ·exact .inl ⟨j,h1,h2,.inr ⟨oc,by rw[<-BS T.toTb];exact h3⟩⟩
    ·exact .inr ⟨j,i',nx,f',by omega,h2,h3,h4,h5,h6,h7,λx w=>.inr ⟨oc,by rw[<-BS T.toTb];exact h8 x w⟩⟩
  ·left;rw[e1];exact⟨p.j,e1,by rw[hd],.inl rfl⟩
end
noncomputable abbrev hkE(prog:aq) (w:aj) (q:List Key×Addr):Int×aa:=(tupleKeyHash (ox prog w) q.1,.ref q.2)
structure Eh(prog:aq)(w:aj)(h:Heap)(L:List (List Key×Addr))(es:Array (Int×aa)):Prop where
 tk:∀q∈L,TK prog w h q.1 q.2
 p:es.toList.Perm (L.map (hkE prog w))
section
variable{prog:aq}{w:aj}{A:au}{E:aa->ae->Prop}{s:ae}{L:List (List Key×Addr)}{es:Array (Int×aa)}{t:bg}{m n ep:Nat}{S a2:Addr}{k2:List Key}{o:Obj}{h:Int}
theorem Eh.at(l:Eh prog w s.heap L es){i:Nat}{e:Int×aa}(he:es[i]?=some e):∃q∈L,e=hkE prog w q:=by rw[<-bF]at he;obtain⟨q,hq,rfl⟩:=bc.mp (l.p.mem_iff.mp (bw he));exact⟨q,hq,rfl⟩
theorem zO{Q:iM->ae->Prop}{R:Nat->bW->Prop}{Z:Nat->Prop}(hu:A.units<cLine)(T:Tb t m n)(hm:m % 2=1)(hf:t.fits es.size=true)(l:Eh prog w s.heap L es)(t2:TK prog w s.heap k2 a2)
  (ho:s.heap.get? S=some o) (hd:o.data=.set es ep t) (hZ:∀j,Z j->Q (.free j false) s) (hT:k2∈L.map aX->Q (.there none) s)
  (step:∀f p,p.dummy=none->R f p->f<=10 * br m->(∃j,cI t (λi=>(es[i]?.map (·.1)).getD 0) h (10 * br m) p=some (.empty j none)/\Z j)\/∃j i next f',f'<f/\t.slot j=.live i/\t.place[i]?=some j/\
   cI t (λi=>(es[i]?.map (·.1)).getD 0) h (10 * br m) p=some (.candidate j i next)/\next.dummy=none/\((∃q∈L,es[i]?=some (hkE prog w q)/\q.1=k2)\/R f' next)):∀(fuel f:Nat) (st:Option bW),f<fuel->f<=10 * br m->(st.getD (t.probeStart h)).dummy=none->R f (st.getD (t.probeStart h))->
   af (model prog w) A (setSearchFrom S (.ref a2) h true fuel st) Q E s
 |0,f,st,hl,_,_,_=>ak hl (by omega)
 |fuel+1,f,st,hl,hg,hdm,he=>by
  have sz:es.size=n:=by unfold eZ at hf;rw[aC,beq_iff_eq,T.pl]at hf;exact hf.1.symm
  unfold setSearchFrom;refine ai (eO ho hd hf ?_);dsimp only;rw[ah (by unfold SetTable.gaveWay;rw[T.mask,hm];decide)];unfold SetTable.probe;rw[O1 (F':=λi=>(es[i]?.map (·.1)).getD 0),T.mask]
  rotate_left
  ·intro i;rfl
  rcases step f _ hdm he hg with ⟨j,e2,z⟩|⟨j,i,nx,f',h1,h2,h3,h5,h6,h7⟩
  ·rw[e2];exact aw (hZ j z)
  ·rw[h5];dsimp only;have hi:i<es.size:=by rw[sz,<- T.pl];exact(fz.mp h3).1
   obtain⟨q,hq,ey,c⟩:∃q∈L,es[i]?=some (hkE prog w q)/\(q.1=k2\/R f' nx):=by
    rcases h7 with ⟨q,hq,e,k⟩|h7
    ·exact⟨q,hq,e,.inl k⟩
    ·obtain⟨q,hq,e⟩:=l.at (cQ hi);exact⟨q,hq,by rw[<-e,cQ hi],.inr h7⟩
   have t1:=l.tk q hq;have si:t.sameMemory t.moves m=some true:=by unfold SetTable.sameMemory;simp
   have sb:∀v∈List.map (λx:Int×aa=>x.snd) (Array.filter (λx=>x.fst==h) es).toList,∃k a,v=Value.ref a/\TK prog w s.heap k a:=λv hv=>by
    obtain⟨e,he,rfl⟩:=bc.mp hv;have he:e∈es.toList:=by rw[Array.toList_filter]at he;exact(hX.mp he).1
    obtain⟨q,hq,rfl⟩:=bc.mp (l.p.mem_iff.mp he);exact⟨q.1,q.2,rfl,l.tk q hq⟩
   cases hb:t.led;refine ai (Iv sb t2 ?_)
   all_goals
    rw[ey];refine ai (bC (wpAny_eqBool_tuple hu t1 t2 ?_));refine ai (eO ho hd hf ?_);by_cases hk:q.1=k2
    ·rw[bb hk];exact aw (hT (bc.mpr ⟨q,hq,hk⟩))
    rw[ba hk];dsimp only;rw[ah (by decide),si];dsimp only;rw[ag rfl,h2];dsimp only;rw[ey];refine ai (wpAny_isSame_ref_self ?_);refine ai (aw ?_);exact zO hu T hm hf l t2 ho hd hZ hT step fuel f' (some nx) (by omega) (by omega) h6 (c.resolve_left hk)
def K4(m:Nat)(t:bg)(es:Array (Int×aa)):Prop:=∀(i:Nat) (e:Int×aa) (j:Nat),es[i]?=some e->t.place[i]?=some j->Wy m (Oc t) j (10 * br m) ((tM m).probeStart e.1)
theorem Iy{Q:iM->ae->Prop}(hu:A.units<cLine)(T:Tu t m n)(hm:m % 2=1/\10 * br m<100000)(hf:t.fits es.size=true)(l:Eh prog w s.heap L es)(W:K4 m t es)(t2:TK prog w s.heap k2 a2)(ho:s.heap.get? S=some o)(hd:o.data=.set es ep t)
  (he:k2∈L.map aX) (hT:Q (.there none) s):af (model prog w) A (setSearchFrom S (.ref a2) (tupleKeyHash (ox prog w) k2) true 100000 none) Q E s:=by
 obtain⟨q,hq,rfl⟩:=bc.mp he;obtain⟨i0,hi,e0⟩:=dj.mp (l.p.mem_iff.mpr (gH (f:=hkE prog w) hq));have e0:es[i0]?=some (hkE prog w q):=by rw[<-bF,aQ hi,e0]
 have sz:es.size=t.place.size:=by unfold eZ at hf;rw[aC,beq_iff_eq]at hf;exact hf.1.symm
 rw[bK]at hi;have p0:t.place[i0]?=some t.place[i0]:=cQ (by omega);refine zO (Z:=λ_=>False) (R:=λf p=>Wy m (Oc t) t.place[i0] f p) hu T.toTb hm.1 hf l t2 ho hd (λj z=>z.elim) (λ_=>hT) (λf p hdm wy hg=>.inr ?_) 100000 _ none hm.2 (ay _) rfl (by
  rw[fS,LL T.toTb];exact W i0 _ _ e0 p0)
 obtain⟨j,i,nx,f',h1,h2,h3,h4,h5,h6,h7⟩:=LM T (λi=>(es[i]?.map (·.1)).getD 0) (tupleKeyHash (ox prog w) q.1) p0 (by show (es[i0]?.map (·.1)).getD 0=_;rw[e0];rfl) f p hdm wy _ hg
 refine⟨j,i,nx,f',h1,h2,h3,h5,h6,?_⟩;rcases h7 with rfl|h7
 ·exact .inl ⟨q,hq,e0,rfl⟩
 ·exact .inr h7
theorem IA{Q:iM->ae->Prop}(hu:A.units<cLine)(T:Tu t m n)(hm:m % 2=1/\10 * br m<100000)(hf:t.fits es.size=true)(l:Eh prog w s.heap L es)(t2:TK prog w s.heap k2 a2)(ho:s.heap.get? S=some o)(hd:o.data=.set es ep t)
  (he:k2∉L.map aX) (em:Emp t (10 * br m) (t.probeStart h)) (hZ:∀j,t.slot j=.empty->Wy m (Oc t) j (10 * br m) ((tM m).probeStart h)->Q (.free j false) s):af (model prog w) A (setSearchFrom S (.ref a2) h true 100000 none) Q E s:=by
 refine zO (Z:=λj=>t.slot j=.empty/\Wy m (Oc t) j (10 * br m) ((tM m).probeStart h)) (R:=λf p=>Emp t f p/\∀x,Wy m (Oc t) x f p->Wy m (Oc t) x (10 * br m) ((tM m).probeStart h)) hu T.toTb hm.1 hf l t2 ho hd (λj z=>hZ j z.1 z.2) (λz=>ak z he) (λf p hdm wy hg=>?_) 100000 _ none hm.2 (ay _) rfl ⟨em,λx w=>by
  rw[fS,LL T.toTb]at w;exact w⟩
 rcases LN T (λi=>(es[i]?.map (·.1)).getD 0) h f p hdm wy.1 _ hg with ⟨j,h1,h2,h3⟩|⟨j,i',nx,f',h1,h2,h3,h4,h5,h6,h7,h8⟩
 ·exact .inl ⟨j,h2,h1,wy.2 j h3⟩
 ·exact .inr ⟨j,i',nx,f',h1,h2,h3,h5,h6,.inr ⟨h7,λx z=>wy.2 x (h8 x z)⟩⟩
end
def Mm(m:Nat):Prop:=m=7\/m=31\/m=127
def O5(m:Nat):Nat->Nat->Nat->Nat
 |0,_,z=>z
 |k+1,i,z=>O5 m k ((i * 5+1) % (m+1)) (z|||2 ^ i)
theorem EJ{m r:Nat}:∀(k i z:Nat),(O5 m k i z).testBit r=true->r∈orb m k i\/z.testBit r=true
 |0,i,z,h=>.inr h
 |k+1,i,z,h=>by
  rcases EJ k _ _ h with h|h
  ·exact .inl (aM _ h)
  ·rw[Nat.testBit_or,Nat.testBit_two_pow,ic,bh]at h;rcases h with h|rfl
   ·exact .inr h
   ·exact .inl aL
theorem IB{m:Nat}(hm:Mm m){i r:Nat}(hi:i<=m)(hr:r<=m):r∈orb m (m+1) i:=by
 have h:∀m∈[7,31,127],((aJ (m+1)).all λi=>O5 m (m+1) i 0==2 ^ (m+1) - 1)=true:=by decide +kernel
 have:=aF.mp (h m (by rcases hm with rfl|rfl|rfl<;>simp)) i (bj.mpr (by omega));refine(EJ (m+1) i 0 ?_).resolve_right (by simp);rw[eB this,Nat.testBit_two_pow_sub_one,bh];omega
theorem Mm.odd{m:Nat}(h:Mm m):m % 2=1/\10 * br m<100000:=by rcases h with rfl|rfl|rfl<;>decide
variable{led:Bool}
section
variable{t:bg}{m n:Nat}
theorem Emp.al(T:Tb t m n)(hm:Mm m)(hn:n<=m):∀(k i q:Nat),i<=m->q<32 ^ k->Emp t (10 * (k+(m+1))) (rs m i q)
 |0,i,q,hi,hq=>by
  obtain⟨r,hr,e⟩:=T.free hn;have q0:q=0:=by simpa using hq
  rw[q0,d8];exact Emp.orb T e _ _ (IB hm hi hr)
 |k+1,i,q,hi,hq=>by have:=Emp.leap T (Emp.al T hm hn k ((i * 5+1+q / 32) % (m+1)) (q / 32) (dy (et _ (cN m))) (by rw[kU]at hq;omega));exact this.mono (by omega)
theorem EK(h:Int):bS h<32 ^ 13:=by unfold bS;omega
theorem Emp.st(T:Tb t m n)(hm:Mm m)(hn:n<=m)(h:Int):Emp t (10 * br m) (t.probeStart h):=by
 have:=Emp.al T hm hn 13 (bS h % (m+1)) (bS h) (dy (et _ (cN m))) (EK h);have e:t.probeStart h=rs m (bS h % (m+1)) (bS h):=by unfold SetTable.probeStart;rw[T.mask];rfl
 rw[e];exact this.mono (by unfold br;omega)
variable{ow:Array (Option Nat)}{O:Nat->Prop}{j:Nat}
theorem IC{i q:Nat}:∀(k mo x:Nat),k<=mo->(∀k',k'<k->O (x+k'))->x+k=j->Wy m O j (k+1) ⟨x,mo,i,q,none⟩
 |0,mo,x,_,_,e=>.inl e
 |k+1,0,x,h,_,_=>ak h (by omega)
 |k+1,mo+1,x,h,ho,e=>.inr ⟨ho 0 (by omega),by
   have e1:(tM m).advance ⟨x,mo+1,i,q,none⟩=⟨x+1,mo,i,q,none⟩:=by unfold dZ;rw[ag (cN mo)];rfl
   rw[e1];exact IC k mo (x+1) (by omega) (λk' hk=>by rw[show x+1+k'=x+(k'+1) by omega];exact ho _ (by omega)) (by omega)⟩
theorem EL{i q f:Nat}(h:Wy m O j f (rs m ((i * 5+1+q / 32) % (m+1)) (q / 32))):∀(mo x:Nat),(∀k,k<=mo->O (x+k))->Wy m O j (f+mo+1) ⟨x,mo,i,q,none⟩
 |0,x,ho=>.inr ⟨ho 0 (ay _),by
   have e:(tM m).advance ⟨x,0,i,q,none⟩=rs m ((i * 5+1+q / 32) % (m+1)) (q / 32):=by unfold dZ kJ;rfl
   rw[e];exact h⟩
 |mo+1,x,ho=>.inr ⟨ho 0 (by omega),by
   have e1:(tM m).advance ⟨x,mo+1,i,q,none⟩=⟨x+1,mo,i,q,none⟩:=by unfold dZ;rw[ag (cN mo)];rfl
   rw[e1];exact EL h mo (x+1) λk hk=>by rw[show x+1+k=x+(k+1) by omega];exact ho _ (by omega)⟩
abbrev Oo(m:Nat)(ow:Array (Option Nat))(x:Nat):Prop:=x<=m/\¬Nn ow x
theorem LO{i:Nat}(hi:i<=m):i<=bH m i/\bH m i<=m/\bH m i<=i+9:=by unfold bH;split<;>omega
theorem BU{f i q:Nat}(hi:i<=m):(∃k,k<=bH m i - i/\Nn ow (i+k)/\(∀k',k'<k->¬Nn ow (i+k'))/\cp m ow (f+1) i q=some (i+k))\/
  ((∀k,k<=bH m i - i->¬Nn ow (i+k))/\cp m ow (f+1) i q=cp m ow f ((i * 5+1+q / 32) % (m+1)) (q / 32)):=by
 have ef:cp m ow (f+1) i q=match (aJ (bH m i+1 - i)).find? λk=>(ow.getD (i+k) (some 0)).isNone with
  |some k=>some (i+k)
  |none=>cp m ow f ((i * 5+1+q / 32) % (m+1)) (q / 32):=rfl
 have rm:=LO hi;rw[ef];cases e:(aJ (bH m i+1 - i)).find? λk=>(ow.getD (i+k) (some 0)).isNone with
 |some k=>
  obtain⟨h1,a,b,h2,h3⟩:=List.find?_eq_some_iff_append.mp e;have hl:a.length=k/\∀x,x<k->x∈a:=by
   have ek:(aJ (bH m i+1 - i))[a.length]?=some k:=by rw[h2];simp
   obtain⟨z1,z2⟩:=aV.mp ek;rw[List.getElem_range]at z2;refine⟨z2,λx hx=>?_⟩;have ex:(aJ (bH m i+1 - i))[x]?=some x:=by rw[gB];rw[cU]at z1;omega
   rw[h2,cB (by omega)]at ex;exact bw ex
  have hk:k∈aJ (bH m i+1 - i):=List.mem_of_find?_eq_some e;rw[bj]at hk;have h5:∀k',k'<k->¬Nn ow (i+k'):=λk' hk' z=>by have:=h3 k' (hl.2 k' hk');unfold Nn at z;rw[z]at this;cases this
  exact .inl ⟨k,by omega,h1,h5,rfl⟩
 |none=>refine .inr ⟨λk hk h=>?_,rfl⟩;have:=List.find?_eq_none.mp e k (bj.mpr (by omega));exact this h
theorem AW{r:Nat}(hr:Nn ow r):∀(k f i:Nat),k<=f->i<=m->r∈orb m k i->∃j,cp m ow f i 0=some j
 |0,f,i,_,_,h=>by cases h
 |k+1,0,i,hf,_,_=>ak hf (by omega)
 |k+1,f+1,i,hf,hi,h=>by
  rcases BU (ow:=ow) (f:=f) (q:=0) hi with ⟨k',_,_,_,e⟩|⟨h1,h2⟩
  ·exact⟨_,e⟩
  ·rcases aN.mp h with e|h
   ·exact ak (e▸hr) (h1 0 (aR _))
   ·rw[h2];exact AW hr k f _ (by omega) (dy (et _ (cN m))) h
theorem EM(hm:Mm m){r:Nat}(hr:Nn ow r)(h32:r<=m):∀(k f i q:Nat),k+(m+1)<=f->i<=m->q<32 ^ k->∃j,cp m ow f i q=some j
 |0,f,i,q,hf,hi,hq=>by
  have q0:q=0:=by simpa using hq
  rw[q0];exact AW hr (m+1) f i (by omega) hi (IB hm hi h32)
 |k+1,0,i,q,hf,_,_=>ak hf (by omega)
 |k+1,f+1,i,q,hf,hi,hq=>by
  rcases BU (ow:=ow) (f:=f) (q:=q) hi with ⟨k',_,_,_,e⟩|⟨_,h2⟩
  ·exact⟨_,e⟩
  ·rw[h2];exact EM hm hr h32 k f _ _ (by omega) (dy (et _ (cN m))) (by rw[kU]at hq;omega)
theorem EN:∀(f i q:Nat),i<=m->cp m ow f i q=some j->Nn ow j/\Wy m (Oo m ow) j (10 * f) (rs m i q)
 |0,i,q,_,e=>by cases e
 |f+1,i,q,hi,e=>by
  have rm:=LO hi;rcases BU (ow:=ow) (f:=f) (q:=q) hi with ⟨k,h1,h2,h3,h4⟩|⟨h1,h2⟩
  ·rw[h4]at e;cases e;exact⟨h2,(IC k _ i h1 (λk' hk=>⟨by omega,h3 k' hk⟩) rfl).mono (λ_ h=>h) (by omega)⟩
  ·rw[h2]at e;obtain⟨h3,h4⟩:=EN f _ _ (dy (et _ (cN m))) e;exact⟨h3,(EL h4 (bH m i - i) i λk hk=>⟨by omega,h1 k hk⟩).mono (λ_ h=>h) (by omega)⟩
def lvm(m:Nat)(ow:Array (Option Nat)):List (Nat×Nat):=(aJ (m+1)).filterMap λj=>(ow.getD j none).map (j,·)
theorem O6(hs:ow.size=m+1){j:Nat}(h:Nn ow j):j<m+1/\ow.getD j none=none:=by
 unfold Nn at h;by_cases hj:j<ow.size
 ·refine⟨by omega,?_⟩;rw[dg,cQ hj]at h ⊢;simpa using h
 ·rw[dg,Array.getElem?_eq_none (by omega)]at h;cases h
theorem ID(hs:ow.size=m+1){j:Nat}(hj:j<=m)(e:ow.getD j none=none):Nn ow j:=by unfold Nn;rw[dg,cQ (by omega)]at e ⊢;simpa using e
theorem EO{k:Nat}(hj:j<ow.size)(i:Nat):(ow.setIfInBounds j (some k)).getD i none=if i=j then some k else ow.getD i none:=by
 rw[dg,dg,Array.getElem?_setIfInBounds];by_cases hi:j=i
 ·subst hi;rw[ag rfl,ag (by omega),ag rfl];rfl
 ·rw[ah hi,ah (λe=>hi e.symm)]
theorem K5(hs:ow.size=m+1){k:Nat}(h:Nn ow j):(lvm m (ow.setIfInBounds j (some k))).Perm ((j,k)::lvm m ow):=by
 obtain⟨hj,e⟩:=O6 hs h;have get:=EO (ow:=ow) (k:=k) (j:=j) (by omega);obtain⟨a,b,sp⟩:=List.append_of_mem (bj.mpr hj);have nd:(aJ (m+1)).Nodup:=j5;rw[sp,dw,d5]at nd;unfold lvm;rw[sp,ji,ji,cq,cq,get j,ag rfl,e];have eq:∀l:List Nat,j∉l->l.filterMap (λi=>((ow.setIfInBounds j (some k)).getD i none).map (i,·))=l.filterMap λi=>(ow.getD i none).map (i,·):=λl hl=>by
  induction l with
  |nil=>rfl
  |cons i l ih=>rw[cq,cq,ih λz=>hl (aM _ z),get i,ah λe=>hl (by rw[<-e];exact aL)]
 rw[eq a λz=>nd.2.2 j z j aL rfl,eq b nd.2.1.1];exact List.perm_middle
theorem IE(hs:ow.size=m+1)(hl:(lvm m ow).length<=m):∃r,r<=m/\Nn ow r:=by
 apply iQ;intro no;have:∀l:List Nat,(∀j∈l,j<=m)->(l.filterMap λj=>(ow.getD j none).map (j,·)).length=l.length:=λl hl=>by
  induction l with
  |nil=>rfl
  |cons j l ih=>
   have hj:=hl j aL;cases e:ow.getD j none with
   |none=>exact ak ⟨j,hj,ID hs hj e⟩ no
   |some x=>rw[cq,e];show (List.filterMap _ l).length+1=l.length+1;rw[ih λz hz=>hl z (aM _ hz)]
 have:=this (aJ (m+1)) λj hj=>by have:=bj.mp hj;omega
 unfold lvm at hl;rw[this,cU]at hl;omega
def Lw(m:Nat)(ow:Array (Option Nat))(hs:List Int):Prop:=∀j k,j<=m->ow.getD j none=some k->∃h,hs[k]?=some h/\Wy m (Oo m ow) j (10 * br m) ((tM m).probeStart h)
theorem LP(hm:Mm m):∀(hs pre:List Int) (ow:Array (Option Nat)),ow.size=m+1->((lvm m ow).map cn).Perm (aJ pre.length)->Lw m ow pre->pre.length+hs.length<=m->∃ow',ow'.size=m+1/\((lvm m ow').map cn).Perm (aJ (pre.length+hs.length))/\Lw m ow' (pre++hs)/\
  (hs.foldl (λacc h=>do
   let (owner,k)<-acc;let j<-cp m owner (br m) (bS h % (m+1)) (bS h)
   pure (owner.setIfInBounds j (some k),k+1)) (some (ow,pre.length)))=some (ow',pre.length+hs.length)
 |[],pre,ow,h1,h2,h4,_=>⟨ow,h1,h2,by rw[bE];exact h4,rfl⟩
 |h::hs,pre,ow,h1,h2,h4,h3=>by
  rw[aB]at h3;have ll:=h2.length_eq;rw[ar,cU]at ll;obtain⟨r,hr,nr⟩:=IE h1 (by omega);have mo:bS h % (m+1)<=m:=dy (et _ (cN m));obtain⟨j,ej⟩:=EM hm nr hr 13 (br m) (bS h % (m+1)) (bS h) (by unfold br;omega) mo (EK h);obtain⟨nj,wj⟩:=EN _ _ _ mo ej;have jl:=(O6 h1 nj).1;have get:=EO (ow:=ow) (k:=pre.length) (j:=j) (by omega);have up:∀x,Oo m ow x->Oo m (ow.setIfInBounds j (some pre.length)) x:=λx hx=>⟨hx.1,λz=>by
   have:=(O6 (m:=m) (by rw[iV];exact h1) z).2;rw[get x]at this;split at this
   ·cases this
   ·exact hx.2 (ID h1 hx.1 this)⟩
  obtain⟨ow',q1,q2,q4,q3⟩:=LP hm hs (pre++[h]) (ow.setIfInBounds j (some pre.length)) (by rw[iV];exact h1) (by
   refine((K5 h1 nj).map cn).trans ?_;rw[aT,aE,bJ,List.range_succ];exact((List.Perm.cons _ h2).trans (gr _ _).symm)) (λx k hx e=>by
    rw[get x]at e;split at e
    ·rename_i ex;cases e;subst ex;exact⟨h,by rw[cP (ay _),gf];rfl,wj.mono up (ay _)⟩
    ·obtain⟨h',e1,w⟩:=h4 x k hx e;exact⟨h',by rw[cB (aV.mp e1).1];exact e1,w.mono up (ay _)⟩) (by rw[aE,bJ];omega)
  rw[aE,bJ]at q2 q3;refine⟨ow',q1,by rw[aB,show pre.length+(hs.length+1)=pre.length+1+hs.length by omega];exact q2,by rw[cG]at q4;exact q4,?_⟩;rw[cb,aB,show pre.length+(hs.length+1)=pre.length+1+hs.length by omega,<- q3];congr 1;show (cp m ow (br m) (bS h % (m+1)) (bS h)).bind _=_;rw[ej];rfl
theorem O7{fg mv:Nat}{pl:Bool}(hm:Mm m)(hs:Array Int)(hn:hs.size<=m):∃t order,kK m fg mv led pl hs=some (t,order)/\Tu t m hs.size/\t.led=led/\t.plain=pl/\order.toList.Perm (aJ hs.size)/\
  ∀(i j k:Nat),t.place[i]?=some j->order[i]?=some k->∃h,hs[k]?=some h/\Wy m (Oc t) j (10 * br m) ((tM m).probeStart h):=by
 have no:∀j,(ie (m+1) (none:Option Nat)).getD j none=none:=λj=>by rw[dg,Array.getElem?_replicate];split<;>rfl
 obtain⟨ow,h1,h2,h4,h3⟩:=LP hm hs.toList [] (ie (m+1) none) (by simp) (by
  have:lvm m (ie (m+1) none)=[]:=by unfold lvm;rw[List.filterMap_eq_nil_iff];intro j hj;rw[no j];rfl
  rw[this];exact .nil) (λj k _ e=>by rw[no j]at e;cases e) (by rw[bK];simpa using hn)
 rw[bV,d8,bK]at h2 h3;have e:jU m hs=some ow:=by unfold jU;rw[<-Array.foldl_toList];exact aS (Option.map aX) h3
 have mem:∀q∈lvm m ow,q.1<=m/\ow.getD q.1 none=some q.2:=λq hq=>by
  unfold lvm at hq;obtain⟨j,hj,e⟩:=cE.mp hq;cases e2:ow.getD j none with
  |none=>rw[e2]at e;cases e
  |some x=>rw[e2]at e;cases e;exact⟨dy (bj.mp hj),e2⟩
 refine⟨⟨m,((lvm m ow).map (·.1)).toArray,#[],fg,led,mv,pl⟩,((lvm m ow).map (·.2)).toArray,by unfold kK;rw[e];rfl,⟨⟨rfl,rfl,?_⟩,?_⟩,rfl,rfl,h2,λi j k ej ek=>?_⟩
 ·have:=h2.length_eq;rw[ar,cU]at this;rw[aH,ar,this]
 ·show List.Pairwise _ ((lvm m ow).map (·.1))
  have sub:∀l:List Nat,((l.filterMap λj=>(ow.getD j none).map (j,·)).map (·.1)).Sublist l:=λl=>by
   induction l with
   |nil=>exact .slnil
   |cons x l ih=>
    rw[cq];cases ow.getD x none with
    |none=>exact ih.cons x
    |some y=>exact ih.cons_cons x
  exact mi (sub _) List.pairwise_lt_range
 ·rw[gy,aU]at ej ek;obtain⟨q,e1,rfl⟩:=i8.mp ej;rw[e1]at ek;cases ek;obtain⟨m1,m2⟩:=mem q (bw e1);obtain⟨h,g1,g2⟩:=h4 q.1 q.2 m1 m2;refine⟨h,by rw[d6,bF]at g1;exact g1,g2.mono (λx hx=>?_) (ay _)⟩;show x∈(lvm m ow).map (·.1)
  cases e2:ow.getD x none with
  |none=>exact ak (ID h1 hx.1 e2) hx.2
  |some y=>exact bc.mpr ⟨(x,y),cE.mpr ⟨x,bj.mpr (by have:=hx.1;omega),by rw[e2];rfl⟩,rfl⟩
end
theorem LQ{α β:Type}(f:α->Option β):∀(l:List α),(∀k∈l,∃e,f k=some e)->∀i:Nat,(l.filterMap f)[i]?=l[i]?.bind f
 |[],_,i=>rfl
 |a::l,h,i=>by
  obtain⟨e,ea⟩:=h a aL;rw[cq,ea];cases i with
  |zero=>exact ea.symm
  |succ i=>exact LQ f l (λk hk=>h k (aM _ hk)) i
section
variable{prog:aq}{w:aj}{A:au}{E:aa->ae->Prop}{s:ae}{L:List (List Key×Addr)}{es:Array (Int×aa)}{t:bg}{m n ep:Nat}{S a2:Addr}{k2:List Key}{o:Obj}{h:Int}
theorem K6{Q:Unit->ae->Prop}(hc:(t.mask=7/\es.size=5/\m=31)\/(t.mask=31/\es.size=19/\m=127))(ho:s.heap.get? S=some o)(hd:o.data=.set es ep t)(hf:t.fits es.size=true)
  (hQ:∀h' es' t',dM S s.heap h'->h'.get? S=some { o with data:=.set es' (ep+1) t' }->Tu t' m es.size->K4 m t' es'->t'.led=t.led->t'.plain=t.plain->es'.toList.Perm es.toList->Q () { s with heap:=h' }):af (model prog w) A (setRelay S (eY es.size)) Q E s:=by
 have hm:Mm m:=by unfold Mm;omega
 have hg:jJ (eY es.size) - 1=m/\¬jJ (eY es.size) > 1000:=by rcases hc with ⟨_,e,rfl⟩|⟨_,e,rfl⟩<;>rw[e]<;>decide
 unfold setRelay;refine ai (eO ho hd hf ?_);dsimp only;rw[ah (by rw[bX];omega)];obtain⟨t',order,e1,T,e2,e3,e4,e5⟩:=O7 (fg:=t.finger) (mv:=t.movedTo m) (led:=t.led) (pl:=t.plain) hm (es.map (·.1)) (by rw[kx];omega)
 rw[kx]at T e4;have all:∀k∈order.toList,∃e,es[k]?=some e:=λk hk=>⟨es[k]'(bj.mp (e4.mem_iff.mp hk)),cQ _⟩;have hp:(order.filterMap (es[·]?)).toList.Perm es.toList:=by rw[jb];exact(e4.filterMap _).trans (by rw[filterMap_getElem?_range])
 have er:t.relaid (es.map (·.1)) (eY es.size)=some (t',order):=by unfold SetTable.relaid;rw[hg.1];exact e1
 rw[er];have sz:(order.filterMap (es[·]?)).size=es.size:=by have:=hp.length_eq;rw[bK,bK]at this;exact this
 refine ai ?_;wp_delta;dsimp only;rw[ah (by rw[sz];simp)];refine aw ?_;refine jV ho hd ?_ (by show (order.filterMap (es[·]?)).size<=av;rw[sz,bX];omega)
 refine hQ _ _ _ (gL ..) (HX ho hd) T (λi e j he hj=>?_) e2 e3 hp;rw[<-bF,jb,LQ _ _ all]at he;obtain⟨k,ek,he⟩:=iZ.mp he;rw[bF]at ek;obtain⟨h,eh,w⟩:=e5 i j k hj ek;rw[Array.getElem?_map,he]at eh;cases eh;exact w
def Cw(m n:Nat)(t:bg)(es:Array (Int×aa)):Prop:=Tu t m n/\Cz2 m n/\K4 m t es
theorem O8{m n:Nat}(h:Cz2 m n):Mm m/\n<=m/\n+1<=m:=by unfold Cz2 at h;unfold Mm;omega
theorem Rt{m n:Nat}(h:Cz2 m n)(h0:n<63)(h5:(n+1) * 5 >= m * 3):∃m',((m=7/\n+1=5/\m'=31)\/(m=31/\n+1=19/\m'=127))/\Cz2 m' (n+1):=by
 unfold Cz2 at h ⊢;by_cases z:m=7
 ·exact⟨31,by omega⟩
 ·exact⟨127,by omega⟩
theorem Ru{m n:Nat}(h:Cz2 m n)(h0:n<63)(h5:¬(n+1) * 5 >= m * 3):Cz2 m (n+1):=by unfold Cz2 at h ⊢;omega
theorem QP{x:Str}{Q:Bool->ae->Prop}(hu:A.units<cLine)(C:Cw m n t es)(h60:n<63)(hf:t.fits es.size=true)(l:Eh prog w s.heap L es)(t2:TK prog w s.heap (Sum.inr x::k2) a2)
  (ho:s.heap.get? S=some o) (hd:o.data=.set es ep t) (hT:(Sum.inr x::k2)∈L.map aX->Q false s)
  (hQ:(Sum.inr x::k2)∉L.map aX->∀h' es' t' ep' m',dM S s.heap h'->h'.get? S=some { o with data:=.set es' ep' t' }->Cw m' (n+1) t' es'->t'.led=t.led->t'.plain=false->es'.toList.Perm ((tupleKeyHash (ox prog w) (Sum.inr x::k2),.ref a2)::es.toList)->Q true { s with heap:=h' }):
  af (model prog w) A (setAddHashed S (.ref a2) (tupleKeyHash (ox prog w) (Sum.inr x::k2))) Q E s:=by
 obtain⟨T,hc,W⟩:=C;have hm:Mm m:=(O8 hc).1;have sz:es.size=n:=by unfold eZ at hf;rw[aC,beq_iff_eq,T.pl]at hf;exact hf.1.symm
 unfold setAddHashed setAddHashedIn;refine bC (ai (eO ho hd hf ?_));dsimp only;rw[ah (by simp[byScan,Value.scannable])];have nm:n<=m:=(O8 hc).2.1;by_cases ne:(Sum.inr x::k2)∈L.map aX
 ·refine ai (Iy hu T hm.odd hf l W t2 ho hd ne ?_);exact aw (hT ne)
 generalize hh:tupleKeyHash (ox prog w) (Sum.inr x::k2)=h at hQ ⊢;refine ai (IA hu T hm.odd hf l t2 ho hd ne (Emp.st T.toTb hm nm h) λj hj wj=>?_);dsimp only;refine ai (eO ho hd hf ?_);dsimp only;have p1:(t.put j).1.mask=m:=T.mask;have p2:(t.put j).1.dummies=#[]:=by show (if kR t.dummies j then _ else t.dummies)=_;rw[T.dm];rfl
 have bl:=(zN T.up j).1;have p3:(t.put j).1.place.size=n+1:=by have:=(gx t.place (bp t.place j) j).length_eq;rw[bK,bK,Array.size_push,T.pl]at this;exact this
 have p4:(bN es (t.put j).2 (h,Value.ref a2)).toList.Perm ((h,.ref a2)::es.toList):=by refine(gx es _ _).trans ?_;rw[jW];exact gr _ _
 have p5:(bN es (t.put j).2 (h,Value.ref a2)).size=n+1:=by have:=p4.length_eq;rw[bK,aB,bK,sz]at this;exact this
 let t1:bg:={ (t.put j).1 with plain:=false };have T1:Tu t1 m (n+1):=⟨⟨p1,p2,p3⟩,O3 T.up (T.emp hj)⟩;have up:∀x,Oc t x->Oc t1 x:=λx hx=>by show x∈(bN t.place (bp t.place j) j).toList;rw[(gx _ _ _).mem_iff,jW];exact fH _ hx
 have W1:K4 m t1 (bN es (t.put j).2 (h,Value.ref a2)):=λi e r he hr=>by
  have he:(bN es (bp t.place j) (h,Value.ref a2))[i]?=some e:=he;have hr:(bN t.place (bp t.place j) j)[i]?=some r:=hr;rw[sT _ (by rw[sz,<- T.pl];exact bl)]at he;rw[sT _ bl]at hr;by_cases c1:i<bp t.place j
  ·rw[ag c1]at he hr;exact(W i e r he hr).mono up (ay _)
  ·rw[ah c1]at he hr;by_cases c2:i=bp t.place j
   ·rw[ag c2]at he hr;cases he;cases hr;exact wj.mono up (ay _)
   ·rw[ah c2]at he hr;exact(W (i - 1) e r he hr).mono up (ay _)
 have f1:t1.fits (bN es (t.put j).2 (h,Value.ref a2)).size=true:=by unfold eZ ip;rw[p5,T1.pl,T1.dm,T1.mask,aC];exact⟨by simp,bb (by have:=(O8 hc).2.2;simp;first|exact this|omega)⟩
 have fin:∀t0:bg,t0=t1->af (model prog w) A (do
   storeSet S (bN es (t.put j).2 (h,.ref a2)) t0
   if (!false&&t0.tooFull)=true then do setRelay S (eY (es.size+1));pure true else pure true) Q E s:=λt0 e=>by
  subst e;refine ai (jV ho hd ?_ (by rw[p5,bX];omega));have g1:=HX (es':=bN es (t.put j).2 (h,Value.ref a2)) (t':=t1) ho hd;have tf:t1.tooFull=decide ((n+1) * 5 >= m * 3):=by unfold SetTable.tooFull ip;rw[T1.pl,T1.dm,T1.mask];rfl
  rw[tf];by_cases h5:(n+1) * 5 >= m * 3
  ·rw[bb h5,ag (by decide),sz,<- p5];obtain⟨m',hm',hz⟩:=Rt hc h60 h5;refine ai (K6 (m:=m') (s:={ s with heap:=s.heap.update S (iJ (bN es (t.put j).2 (h,.ref a2)) t1) }) (by rw[p5,T1.mask];exact hm') g1 rfl f1 λh' es' t' b1 b2 b3 b3' b4 b5 b6=>?_);rw[p5]at b3;exact aw (hQ ne h' es' t' _ m' ((gL ..).trans b1) b2 ⟨b3,hz,b3'⟩ b4 b5 (b6.trans p4))
  ·rw[ba h5,ah (by decide)];exact aw (hQ ne _ _ _ _ m (gL ..) g1 ⟨T1,Ru hc h60 h5,W1⟩ rfl rfl p4)
 split
 ·refine ai (Iw t2 ?_);exact fin _ rfl
 ·rename_i hp;refine ai (aw (fin _ ?_));rw[j4]at hp;rw[ag rfl];show (t.put j).1={ (t.put j).1 with plain:=false };rw[<-hp]
end
section
variable{κ α:Type}[DecidableEq κ]
def ust(acc:List (κ×α))(q:κ×α):List (κ×α):=if q.1∈acc.map aX then acc else acc++[q]
def uqP(l:List (κ×α)):List (κ×α):=l.foldl ust []
def uqK(l:List κ):List κ:=l.foldl (λacc k=>if k∈acc then acc else acc++[k]) []
theorem BV(acc:List (κ×α)):∀l:List (κ×α),∃r,l.foldl ust acc=acc++r/\∀q∈r,q∈l
 |[]=>⟨[],(bE _).symm,λq hq=>by cases hq⟩
 |q::l=>by
  obtain⟨r,e,h⟩:=BV (ust acc q) l;rw[cb,e];unfold ust;split
  ·exact⟨r,rfl,λq hq=>aM _ (h q hq)⟩
  ·refine⟨q::r,by rw[cG];rfl,λx hx=>?_⟩;rcases aN.mp hx with rfl|hx
   ·exact aL
   ·exact aM _ (h x hx)
theorem IF(l:List (κ×α))(q:κ×α):uqP (l++[q])=ust (uqP l) q:=by unfold uqP;rw[gY];rfl
theorem ER(l:List (κ×α))(i:Nat):(uqP (l.take i)).length<=(uqP l).length:=by
 have e:uqP l=(l.drop i).foldl ust (uqP (l.take i)):=by unfold uqP;rw[<-gY,jh]
 obtain⟨r,h,_⟩:=BV (uqP (l.take i)) (l.drop i);rw[e,h,aE];omega
theorem K7{l:List (κ×α)}{q:κ×α}(h:q∈uqP l):q∈l:=by obtain⟨r,e,h'⟩:=BV ([]:List (κ×α)) l;unfold uqP at h;rw[e]at h;exact h' q h
theorem K8{κ':Type}[DecidableEq κ']{g:κ->κ'}(hg:∀a b,g a=g b->a=b)(l:List (κ×α)):uqP (l.map λq=>(g q.1,q.2))=(uqP l).map λq=>(g q.1,q.2):=by
 have:∀(l acc:List (κ×α)),(l.map λq=>(g q.1,q.2)).foldl ust (acc.map λq=>(g q.1,q.2))=(l.foldl ust acc).map λq=>(g q.1,q.2):=λl=>by
  induction l with
  |nil=>intro acc;rfl
  |cons q l ih=>
   intro acc;rw[aT,cb,cb,<- ih];congr 1;unfold ust;have:g q.1∈(acc.map λq=>(g q.1,q.2)).map aX ↔ q.1∈acc.map aX:=by rw[dN,bc,bc];exact⟨λ⟨a,h1,h2⟩=>⟨a,h1,hg _ _ h2⟩,λ⟨a,h1,h2⟩=>⟨a,h1,aS g h2⟩⟩
   by_cases hk:q.1∈acc.map aX
   ·rw[ag hk,ag (this.mpr hk)]
   ·rw[ah hk,ah λz=>hk (this.mp z),c5];rfl
 exact this l []
end
structure K9(prog:aq)(w:aj)(h:Heap)(S:Addr)(L:List (List Key×Addr))(led:Bool)(n:Nat)(o:Obj)(es:Array (Int×aa))(ep:Nat)(t:bg):Prop extends Au h S L led n o es ep t where
 cw:∃m,Cw m n t es
 pe:es.toList.Perm (L.map (hkE prog w))
section
variable{prog:aq}{w:aj}{A:au}{R:bU->ae->Prop}{I:Addr}{fp wr:List Addr}{GG:Array dO->Array dO->Prop}{n:Nat}{PP:Nat->aa->Prop}{SS:Nat->ae->Prop}
theorem Gb(W:WalksS prog w A.in1 I fp wr GG n PP SS){S:Addr}(hSf:S∉fp)(hu:A.in1.units<cLine)(L:List (List Key×Addr))(hn:L.length=n)(h8:(uqP L).length<63)(hk:∀q∈L,∃x k,q.1=Sum.inr x::k)(far:∀q∈L,q.2∉S::wr)
  (hval:∀i v,PP i v->∃q,L[i]?=some q/\v=.ref q.2):∀(k i:Nat) (s:ae) (o:Obj) (es:Array (Int×aa)) (ep:Nat) (t:bg),n - i=k->i<=n->SS i s->(∀q∈L,TK prog w s.heap q.1 q.2)->K9 prog w s.heap S (uqP (L.take i)) led (uqP (L.take i)).length o es ep t->
   (∀s' o es ep t,Moved (S::wr) GG s s'->K9 prog w s'.heap S (uqP L) led (uqP L).length o es ep t->R (.ok (.ret .none)) s')->
   bB (model prog w) A (.builtin "set.update.loop" ⟨[.ref S,.ref I],[]⟩) R s:=by
 have hSw:S∉wr:=λz=>hSf (W.sub _ z);have up:∀b∈wr,b∈S::wr:=λb z=>aM _ z;intro k
 induction k with
 |zero=>
  intro i s o es ep t hk' hi hst tk x hR;obtain rfl:i=n:=by omega
  refine dF fC ?_;rw[eJ dh _];show af _ A.in1 (pyNext (.ref I)>>=_) _ _ s;refine ai (W.done s _ _ hst λs' hm=>?_);show af _ A.in1 (ret Value.none) _ _ s';rw[fF (by omega)]at x;exact aw (hR s' o es ep t (hm.mono up) { x with at_:=hm.heap S _ hSw x.at_ })
 |succ k ih=>
  intro i s o es ep t hk' hi hst tk x hR;have hlt:i<n:=by omega
  refine dF fC ?_;rw[eJ dh _];show af _ A.in1 (pyNext (.ref I)>>=_) _ _ s;refine ai (W.item i s _ _ hlt hst λv s' hP hst' hm=>?_);obtain⟨q,eq,rfl⟩:=hval i v hP;have mq:q∈L:=bw eq;have tk':∀q∈L,TK prog w s'.heap q.1 q.2:=λq hq=>(tk q hq).kept λo=>hm.heap q.2 o λz=>far q hq (up _ z);show af _ A.in1 (holding _ (setAdd S _)>>=_) _ _ s';refine ai (bC ?_);unfold setAdd;refine bC ?_;refine ai (wpAny_pyHash_tuple hu (tk' q mq) ?_);obtain⟨m,C⟩:=x.cw;obtain⟨z,kk,ez⟩:=hk q mq;have tq:TK prog w s'.heap (Sum.inr z::kk) q.2:=by rw[<-ez];exact tk' q mq
  have split:uqP (L.take (i+1))=ust (uqP (L.take i)) q:=by rw[jR,eq];exact IF _ _
  have sub:∀r∈uqP (L.take i),r∈L:=λr hr=>(gU _ _).subset (K7 hr);have x':K9 prog w s'.heap S (uqP (L.take i)) led (uqP (L.take i)).length o es ep t:={ x with at_:=hm.heap S _ hSw x.at_ };have ul:=ER L i;have ul1:=ER L (i+1);rw[ez];refine QP (s:={ s' with toks:=s'.toks+((Sum.inr z::kk:List Key).length+1) }) (L:=uqP (L.take i)) hu C (by omega) (Au.fits ⟨x'.at_,x'.ex,x'.d,x'.c,x'.led,x'.pl,x'.p⟩ rfl) ⟨λr hr=>tk' r (sub r hr),x'.pe⟩ tq x'.at_ x'.d (λinn=>?_) λnin h' es' t' ep' m' b1 b2 b3 b5 b6 b7=>?_
  ·rw[<-ez]at inn;have e:uqP (L.take (i+1))=uqP (L.take i):=by rw[split];unfold ust;rw[ag inn]
   refine aw ⟨fY dh _,ih (i+1) _ o es ep t (by omega) hlt (W.frame _ s' s'.heap _ hst' (fT _ _) λb z o e=>e) tk' (by rw[e];exact x') λs'' o2 es2 ep2 t2 hm'' x2=>?_⟩;exact hR s'' o2 es2 ep2 t2 (iB W.gtrans ((hm.mono up).then_heap (fT _ _) λb o z e=>e) hm'') x2
  rw[<-ez]at nin;have e:uqP (L.take (i+1))=uqP (L.take i)++[q]:=by rw[split];unfold ust;rw[ah nin]
  have y:K9 prog w h' S (uqP (L.take (i+1))) led (uqP (L.take (i+1))).length { o with data:=.set es' ep' t' } es' ep' t':=by
   have pe:es'.toList.Perm ((uqP (L.take (i+1))).map (hkE prog w)):=by rw[e,c5];refine b7.trans (.trans ?_ (gr _ _).symm);rw[show hkE prog w q=(tupleKeyHash (ox prog w) (Sum.inr z::kk),.ref q.2) by unfold hkE;rw[ez]];exact List.Perm.cons _ x.pe
   have hl:(uqP (L.take (i+1))).length=(uqP (L.take i)).length+1:=by rw[e,aE];rfl
   rw[hl];exact⟨⟨b2,x.ex,rfl,⟨m',b3.1.toTb,b3.2.1⟩,b5.trans x.led,λ_=>b6,by have:=pe.map cn;rw[dN]at this;exact this⟩,⟨m',b3⟩,pe⟩
  refine aw ⟨fY dh _,ih (i+1) _ _ _ _ _ (by omega) hlt (W.frame _ s' h' _ hst' (fT _ _) λb z o e=>?_) (λr hr=>(tk' r hr).kept λo e=>?_) y λs'' o2 es2 ep2 t2 hm'' x2=>?_⟩
  ·rw[b1.2 b (λy:b=S=>hSf (by rw[<-y];exact z))];exact e
  ·rw[b1.2 r.2 (λy:r.2=S=>far r hr (by rw[y];exact aL))];exact e
  ·refine hR s'' o2 es2 ep2 t2 (iB W.gtrans ((hm.mono up).then_heap (fT _ _) λb o z e=>?_) hm'') x2;rw[b1.2 b (λy:b=S=>z (by rw[y];exact aL))];exact e
end
end L4
namespace L4
open PySem PySem.Spec PySem.Calls PyProof.Rows PySem.W L2 L3
section
variable{X:Cx}{G:Bg}{H:Hp}{pins:List (Addr×Obj)}{σ:St}{s:ae}
theorem LR(L:List (List Str×Addr)):uqP (L.map λq=>(TkS q.1,q.2))=(uqP L).map λq=>(TkS q.1,q.2):=K8 (g:=TkS) (λa b h=>(List.map_inj_right λ_ _ h=>iz h).mp h) L
theorem IG{prog:aq}{w:aj}{A:au}{ax:Addr}{its:List aa}{L:List (List Str×Addr)}{led:Bool}{itO:Obj}{SS:Nat->Heap->Prop}(hlt:ax<s.heap.objs.size)(ht:∀q∈L,∃p r,q.1=[p,r])(tk:∀q∈L,TK prog w s.heap (TkS q.1) q.2)
  (ev:∀(i:Nat) (v:aa),its[i]?=some v->∃q,L[i]?=some q/\v=.ref q.2) (li:L.length=its.length) (h8:(uqP L).length<63) (hu:A.in1.units<cLine)
  (W:Walks prog w A.in1 (s.heap.objs.size+1) [s.heap.objs.size+1,ax] [s.heap.objs.size+1] its.toArray.size (λi v=>its.toArray[i]?=some v) SS) (st:SS 0 ((s.heap.push (tR led)).push itO)) {R:bU->ae->Prop}
  (hR:∀h2 k2,(∃o es ep t,Au h2 s.heap.objs.size ((uqP L).map λq=>(TkS q.1,q.2)) led (uqP L).length o es ep t)->(∀b o,b<s.heap.objs.size->s.heap.get? b=some o->h2.get? b=some o)->R (.ok (.ret .none)) { s with heap:=h2,toks:=k2 }) (tk':Nat):
  bB (model prog w) A (.builtin "set.update.loop" ⟨[.ref s.heap.objs.size,.ref (s.heap.objs.size+1)],[]⟩) R { s with heap:=(s.heap.push (tR led)).push itO,toks:=tk' }:=by
 have notin:s.heap.objs.size∉[s.heap.objs.size+1,ax]:=by
  intro z;rcases aN.mp z with z|z
  ·exact ak z (aG (cW _))
  ·exact ak (bR.mp z) (ir hlt)
 have ke:∀{b:Addr} {o':Obj},s.heap.get? b=some o'->((s.heap.push (tR led)).push itO).get? b=some o':=λe=>aD _ (aD _ e);refine Gb (S:=s.heap.objs.size) (led:=led) W.toS notin hu (L.map λq=>(TkS q.1,q.2)) (by rw[ar,aH,li]) (by rw[LR,ar];exact h8) ?_ ?_ ?_ (its.toArray.size - 0) 0 _ (tR led) #[] 0 (.fresh 0 0 led) rfl (aR _) st ?_ ?_ λs2 o2 es2 ep2 t2 mv S2=>?_
 ·intro q hq;obtain⟨r,hr,rfl⟩:=bc.mp hq;obtain⟨p,z,e⟩:=ht r hr;exact⟨p,[.inr z],by show TkS r.1=_;rw[e];rfl⟩
 ·intro q hq z;obtain⟨r,hr,rfl⟩:=bc.mp hq;obtain⟨ob,_,_,e,_⟩:=tk r hr;have:=aA e;rcases aN.mp z with z|z
  ·exact ak z (aG this)
  ·exact ak (bR.mp z) (aG (cR this))
 ·intro i v e;rw[gy]at e;obtain⟨q,e1,e2⟩:=ev i v e;exact⟨(TkS q.1,q.2),by rw[aU,e1];rfl,e2⟩
 ·intro q hq;obtain⟨r,hr,rfl⟩:=bc.mp hq;exact(tk r hr).kept λo=>ke
 ·exact⟨⟨aD _ (aY _ rfl),⟨rfl,rfl,rfl⟩,rfl,⟨7,⟨rfl,rfl,rfl⟩,.inl ⟨rfl,aR 4⟩⟩,rfl,λz=>ak z (c6 0),.nil⟩,⟨7,⟨⟨rfl,rfl,rfl⟩,.nil⟩,.inl ⟨rfl,aR 4⟩,λi e j he _=>by cases he⟩,.nil⟩
 ·obtain⟨h2,g2,d2,k2,o2'⟩:=s2;have eg:g2=s.gens:=mv.gens;have ed:d2=s.drawn:=mv.drawn;have eo:o2'=s.os:=mv.os;subst eg ed eo;rw[LR,ar]at S2;refine hR h2 k2 ⟨o2,es2,ep2,t2,⟨S2.at_,S2.ex,S2.d,S2.c,S2.led,S2.pl,S2.p⟩⟩ λb o hb e=>mv.heap b o (λz=>?_) (ke e);rcases aN.mp z with z|z
  ·exact ak z (aG hb)
  ·exact ak (bR.mp z) (aG (cR hb))
theorem Rv{A:au}{E:aa->ae->Prop}{Q:aa->ae->Prop}{a:Addr}{L:List (List Str×Addr)}(I:Inv X pins σ H s)(hh:A.handled=none)(hu:A.units+8<cLine)(hq:SqL X.K H a (L.map λq=>V.ref q.2)\/SqT X.K H a (L.map λq=>V.ref q.2))(h8:(uqP L).length<63)
  (ht:∀q∈L,∃p r,q.1=[p,r]/\SqT X.K H q.2 [.str p,.str r])
  (h:∀h2 k2 o es ep t,Au h2 s.heap.objs.size ((uqP L).map λq=>(TkS q.1,q.2)) (!X.w.params.followText "set-order") (uqP L).length o es ep t->(∀b o,b<s.heap.objs.size->s.heap.get? b=some o->h2.get? b=some o)->Q (.ref s.heap.objs.size) { s with heap:=h2,toks:=k2 }):
  af (model X.prog X.w) A (call (.type "set") [.ref a]) Q E s:=by
 have h3:A.in1.in1.in1.handled=none:=by simp[hh]
 have h4:A.in1.in1.in1.units<cLine:=by show A.units+1+1+1<cLine;omega
 have tk:∀q∈L,TK X.prog X.w s.heap (TkS q.1) q.2:=λq hq=>by obtain⟨p,r,e,h1⟩:=ht q hq;rw[e];exact Qz (ks:=[.inr p,.inr r]) I h1
 have ev:∀{its:List aa},Vals (L.map λq=>V.ref q.2) its->L.length=its.length/\∀(i:Nat) (v:aa),its[i]?=some v->∃q,L[i]?=some q/\v=.ref q.2:=λ{its} r=>by
  have li:L.length=its.length:=by have:=r.length;rw[ar]at this;exact this
  refine⟨li,λi v e=>?_⟩;have hi:i<L.length:=by rw[li];exact(aV.mp e).1
  obtain⟨u,e2,ru⟩:=r.get (i:=i) (x:=V.ref L[i].2) (by rw[aU,aQ hi];rfl);rw[e]at e2;cases e2;exact⟨L[i],aQ hi,ru⟩
 have it:∀{o:Obj} {led:Bool},o.isFreed=false->((s.heap.push (tR led)).push o).get? (s.heap.objs.size+1)=some o:=λ{o led} z=>by rw[show s.heap.objs.size+1=(s.heap.push (tR led)).objs.size from(dG _ _).symm];exact aY _ z
 have ht':∀q∈L,∃p r,q.1=[p,r]:=λq hq=>by obtain⟨p,r,e,_⟩:=ht q hq;exact⟨p,r,e⟩
 rcases hq with hq|hq
 ·obtain⟨its,r,pp,_⟩:=I.list hq;obtain⟨o,ho,hc,n,hd⟩:=pp.isList;have hne:a≠s.heap.objs.size+1:=aG (cR (aA ho));exact xa (PS:=λh2=>∃o es ep t,Au h2 s.heap.objs.size ((uqP L).map λq=>(TkS q.1,q.2)) (!X.w.params.followText "set-order") (uqP L).length o es ep t) ho hc kr jn (by decide) (itO:={ cls:=.type "list_iterator", data:=.fields #[.ref a,.int 0 0] })
   (λA Q E s1 e k=>dX ⟨o,e,hc,n,hd⟩ k) (λtk' R hR=>IG (aA ho) ht' tk (ev r).2 (ev r).1 h8 h4 (gm h3 _ a hne its.toArray) ⟨⟨_,it rfl,rfl,rfl⟩,⟨o,aD _ (aD _ ho),hc,n,hd⟩⟩ hR tk') λh2 k2 ⟨o,es,ep,t,x⟩ kk=>h h2 k2 o es ep t x kk
 ·obtain⟨its,r,p,_⟩:=I.tuple hq;obtain⟨o,ho,hc,n,hd⟩:=p;have hne:a≠s.heap.objs.size+1:=aG (cR (aA ho));exact xa (PS:=λh2=>∃o es ep t,Au h2 s.heap.objs.size ((uqP L).map λq=>(TkS q.1,q.2)) (!X.w.params.followText "set-order") (uqP L).length o es ep t) ho hc sub_tuple_set sub_tuple_frozenset (by decide) (itO:={ cls:=.type "tuple_iterator", data:=.fields #[.ref a,.int 0 0] })
   (λA Q E s1 e k=>gO ⟨o,e,hc,n,hd⟩ k) (λtk' R hR=>IG (aA ho) ht' tk (ev r).2 (ev r).1 h8 h4 (lb h3 _ a hne its.toArray) ⟨⟨_,it rfl,rfl,rfl⟩,⟨o,aD _ (aD _ ho),hc,n,hd⟩⟩ hR tk') λh2 k2 ⟨o,es,ep,t,x⟩ kk=>h h2 k2 o es ep t x kk
end
section
variable{prog:aq}{w:aj}{A:au}{E:aa->ae->Prop}{s:ae}
theorem Gc{Q:Int->ae->Prop}(h:Q 0xFCA86420 { s with toks:=s.toks+1 }):af (model prog w) A (pyHash .none) Q E s:=by
 show af _ _ (pyHashByItsType .none) Q E s;unfold pyHashByItsType;refine ai ?_;rw[cRoomFor,ah (by rw[show [Value.none].any Value.onHeap=false from rfl];exact aO)];refine aw ?_;refine ai (eU (gh s) fJ.lookup ?_);show af _ _ (if (some (Value.builtin "NoneType.__hash__")==some Value.none)=true then _ else _) Q E s;rw[ah (by rw[beq_builtin_none];exact aO)];refine ai (eU (gh s) fJ.lookup ?_);show af _ _ (callSpecialIfBoundUnlessNone? .none "__hash__" _>>=_) Q E s;refine ai (wpAny_callSpecialIfBoundUnlessNone?_slot (gh s) fJ
  (wpAny_call_entry fJ (gh s) F.entry_NoneType_hash
   (show af _ _ (do ret (<-mkInt 0xFCA86420)) _ _ s from wpAny_ret_mkInt ?_) (F.args_NoneType_hash_1 _)))
 exact aw h
theorem La{Q:Bool->ae->Prop}(h:Q true s):af (model prog w) A (eqBool .none .none) Q E s:=by unfold eqBool;refine bC ?_;rw[ag (show (Value.none==Value.none)=true from rfl)];exact ai (wpAny_rule (aw h))
def oIs:Option Key->aa->Bool
 |none,.none=>true
 |none,_=>false
 |some k,v=>yX k v
theorem su{k:Option Key}{v:aa}(h:oIs k v=true):(k=none/\v=.none)\/(∃i t,k=some (Sum.inl i)/\v=Value.int i t)\/∃x t,k=some (Sum.inr x)/\v=Value.str x t:=by
 cases k with
 |none=>cases v<;>first|exact .inl ⟨rfl,rfl⟩|cases h
 |some k=>
  rcases o4 (k:=k) h with ⟨i,t,rfl,rfl⟩|⟨x,t,rfl,rfl⟩
  ·exact .inr (.inl ⟨i,t,rfl,rfl⟩)
  ·exact .inr (.inr ⟨x,t,rfl,rfl⟩)
def optKind(prog:aq)(w:aj):kB prog w (Option Key) where
 is:=oIs
 hash:=λk=>match k with|none=>0xFCA86420|some k=>Pq w k
 inj:=λv a b ha hb=>by rcases su ha with ⟨rfl,rfl⟩|⟨i,t,rfl,rfl⟩|⟨x,t,rfl,rfl⟩<;>rcases su hb with ⟨rfl,e⟩|⟨j,u,rfl,e⟩|⟨y,u,rfl,e⟩<;>first|rfl|(cases e;rfl)|cases e
 byValue:=λk v h=>by rcases su h with ⟨rfl,rfl⟩|⟨i,t,rfl,rfl⟩|⟨x,t,rfl,rfl⟩<;>rfl
 pyHash:=λ{A E s k v Q} hv h=>by
  cases k with
  |some k=>exact(ox prog w).pyHash (k:=k) hv h
  |none=>
   rcases su hv with ⟨_,rfl⟩|⟨i,t,e,_⟩|⟨x,t,e,_⟩
   ·exact Gc h
   ·cases e
   ·cases e
 eqBool:=λ{A E s a b u v Q} hu hv h=>by
  rcases su hu with ⟨rfl,rfl⟩|⟨i,t,rfl,rfl⟩|⟨x,t,rfl,rfl⟩<;>rcases su hv with ⟨rfl,rfl⟩|⟨j,u,rfl,rfl⟩|⟨y,u,rfl,rfl⟩
  ·exact La h
  ·exact jt j u _ _ _ _ h
  ·exact ju y u _ _ _ _ h
  ·exact jv i t _ _ _ _ h
  ·exact(ox prog w).eqBool (a:=Sum.inl i) (b:=Sum.inl j) hu hv (by simpa using h)
  ·exact(ox prog w).eqBool (a:=Sum.inl i) (b:=Sum.inr y) hu hv (by simpa using h)
  ·exact jw x t _ _ _ _ h
  ·exact(ox prog w).eqBool (a:=Sum.inr x) (b:=Sum.inl j) hu hv (by simpa using h)
  ·exact(ox prog w).eqBool (a:=Sum.inr x) (b:=Sum.inr y) hu hv (by simpa using h)
 «strs»:=λk x t v h=>by
  cases k with
  |none=>cases h
  |some k=>exact(ox prog w).strs k x t v h
theorem Lb{h:Heap}{a:Addr}{f:Key->Option aa}(m:h.MapOf (ox prog w) a f):h.MapOf (optKind prog w) a (λk=>match k with|none=>none|some k=>f k):=by
 obtain⟨o,es,ep,h1,h2,h3,h4,h5⟩:=m;refine⟨o,es,ep,h1,h2,h3,λe he=>?_,λk=>?_⟩
 ·obtain⟨k,k1,k2⟩:=h4 e he;exact⟨some k,k1,k2⟩
 ·cases k with
  |some k=>exact h5 k
  |none=>
   unfold findBy;rw[Array.find?_eq_none.mpr λe he=>?_]
   ·rfl
   ·obtain⟨k,k1,_⟩:=h4 e he;rcases o4 k1 with ⟨i,t,_,e1⟩|⟨x,t,_,e1⟩<;>(rw[e1];exact aO)
end
variable{apos cpos:Pos}{f':FE}
section
variable{X:Cx}{G:Bg}{H:Hp}{pins:List (Addr×Obj)}{σ:St}{s:ae}
theorem O9{A:au}{E:aa->ae->Prop}{Q:aa->ae->Prop}{a:Addr}{kvs:List (Key×V)}(I:Inv X pins σ H s)(e:Rd H a (.dK kvs))(h:∀s',Inv X pins σ H s'->Q .none s'):af (model X.prog X.w) A (call (.builtin "dict.get") [.ref a,.none]) Q E s:=by obtain⟨z,hd,vs,rel,dd⟩:=zd I.hok e;exact gb eV dd.typeIs hJ (gV _ _) (kn (optKind X.prog X.w) a (k:=none) rfl hd) ⟨_,Lb dd.mapOf,h _ (I.tok _)⟩
def Pa(td ty:TE):TE:=λσ H Q=>td σ H λx H1=>∃a,x=.ref a/\IsD H1 a/\ty σ H1 λy H2=>(∃o,DGet H2 a y o/\Q (o.getD .non) H2)\/(y=.non/\(∃kvs,Rd H2 a (.dK kvs))/\Q .non H2)
theorem IH{o e:Expr}{td ty:TE}(hu:X.A.units+1<cLine)(ho:PE X o td)(he:PE X e ty)(m:M1 X o "get" apos e cpos):PE X (.Call (.Attribute o "get" apos) [e] [] cpos) (Pa td ty):=by
 intro pins s σ H Q I h;refine gW m.base m.few m.line gX eV j9 (thn (ho pins s σ H _ I h) λu s1 hh=>?_);obtain⟨x,H1,I1,rx,a,ex,d,q1⟩:=hh;subst ex;obtain rfl:u=Value.ref a:=rx;obtain⟨t1,t2,_⟩:=Dt I1 d;refine⟨t1,t2,?_⟩;rw[m.trees];refine fD rfl (eI (dW (thn (he pins s1 σ H1 _ I1 q1) λiv s2 hh=>eM ?_)));obtain⟨y,H2,I2,ry,⟨ov,g,q2⟩|⟨rfl,⟨kvs,e⟩,q2⟩⟩:=hh
 ·exact GR hu I2 g ry λw' s3 I3 rw'=>⟨_,H2,I3,rw',q2⟩
 ·obtain rfl:iv=.none:=ry;exact O9 I2 e λs3 I3=>⟨.non,H2,I3,rfl,q2⟩
def CS:D->D->Option D:=λx y=>match y with
 |.non=>match x with
  |.dic _ _=>some .non
  |_=>none
 |y=>wd x y
theorem II{a b:Expr}{f:FE}(hu:X.A.units+1<cLine)(ha:PE X a (tF G f))(hb:PE X b (tF G f'))(m:M1 X a "get" apos b cpos):PE X (.Call (.Attribute a "get" apos) [b] [] cpos) (tF G (c2 CS f f')):=PE.weak (IH hu ha hb m) λσ H Q hh=>by
 obtain⟨F,ρ,H0,d,ρ',R,e,k⟩:=hh;obtain⟨x,y,ρ1,e1,e2,e3⟩:=wX e;cases x with
 |dic ks ds=>
  refine⟨F,ρ,H0,_,ρ1,R,e1,λv H1 H1' s1 R1 r1=>?_⟩;have r1':=r1;unfold Rep at r1';obtain⟨p,ob,xs,rfl,h1,h2,h3⟩:=r1';refine⟨p,rfl,.inl ⟨_,.inr ⟨_,R1.sub _ _ h1⟩⟩,F,ρ1,H1,y,ρ',R1,e2,λu H2 H2' s2 R2 r2=>?_⟩;by_cases hy:y=.non
  ·subst hy;cases e3;unfold Rep at r2;subst r2;exact .inr ⟨rfl,⟨_,.inr ⟨_,R2.sub _ _ (s2 _ _ h1)⟩⟩,k _ H2 H2' (s1.trans s2) R2 sW⟩
  ·left;have e3:wd (.dic ks ds) y=some d:=by
    unfold CS at e3;split at e3
    ·exact ak rfl hy
    ·exact e3
   unfold wd at e3;cases ek:v8 y with
   |none=>simp only[ek]at e3;cases e3
   |some j=>
    simp only[ek]at e3;cases e3;have lv:=w9 (ks:=ks) j (n8.mono s2 _ _ h3) h2;refine⟨qY (ks.zip xs) j,?_,?_⟩
    ·rw[vW r2 ek];exact DGet.kf (R2.sub _ _ (s2 _ _ h1))
    ·cases el:zA ks ds j with
     |none=>rw[el]at lv k;rw[lv];exact k _ H2 H2' (s1.trans s2) R2 sW
     |some z=>rw[el]at lv k;obtain⟨w,w1,w2⟩:=lv;rw[w1];exact k _ H2 H2' (s1.trans s2) R2 w2
 |_=>
  unfold CS at e3;split at e3
  ·cases e3
  ·unfold wd at e3;cases e3
end
section
variable{X:Cx}{B:Bz}{k:Nat}{e e':Expr}{f f':FE}{apos pos:Pos}
theorem Pb [C:Cz X B k](ha:ZE X B e f)(hb:ZE X B e' f')(h1:Az X e "get")(h2:Ez apos pos)(h3:S1 X e'):ZE X B (.Call (.Attribute e "get" apos) [e'] [] pos) (c2 CS f f'):=⟨II (Ej C.r) ha.p hb.p ⟨h1,by rw[h3];rfl,h2,by rw[h3];rfl⟩⟩
end
section
variable{X:Cx}{G:Bg}
def dStrI:D->Option D
 |.int i=>if i.natAbs.log2<1920 then some (.str (toString i))else none
 |_=>none
theorem pf_b2{e:Expr}{r:List V->Hp->VK->Prop}{g:Int->Int->Int}{f:FE}(hr:∀i j H Q,Q (.int (g i j)) H->r [.int i,.int j] H Q)(h:PE X e (tCB r (tFA G (aCons f (aCons f' o6))))):PE X e (tF G (c2 (λx y=>match x,y with|.int i,.int j=>some (.int (g i j))|_,_=>none) f f')):=PE.weak h λσ H Q hh=>by
 obtain⟨F,ρ,H0,d,ρ',R,e,k⟩:=hh;obtain⟨x,y,ρ1,e1,e2,e3⟩:=wX e;split at e3
 ·cases e3;rename_i i j;refine⟨F,ρ,H0,[.int i,.int j],ρ',R,by unfold aCons;rw[e1];simp only[e2];rfl,λys H1 H1' s R' rs=>?_⟩;unfold n8 at rs;obtain⟨v,r0,rfl,rv,rn⟩:=rs;unfold n8 at rn;obtain⟨v',r1,rfl,rv',rn'⟩:=rn;unfold n8 at rn';subst rn';unfold Rep at rv rv';subst rv rv';exact hr i j _ _ (k _ _ _ s R' (p8 _))
 ·cases e3
def dMax2:D->D->Option D:=λx y=>match x,y with|.int i,.int j=>some (.int (if j > i then j else i))|_,_=>none
def dMin2:D->D->Option D:=λx y=>match x,y with|.int i,.int j=>some (.int (if j<i then j else i))|_,_=>none
end
section
variable{X:Cx}{B:Bz}{k:Nat}{e e' tg:Expr}{f f':FE}{p p2 p3 pos apos:Pos}
theorem zr_mxI [C:Cz X B k][N:Nb B "max"](hg:Gz X "max")(hs:ao [e,e'] X.env=[(false,eval e X.env),(false,eval e' X.env)])(hs':S1 X e')(ha:ZE X B e f)(hb:ZE X B e' f'):ZE X B (.Call (.Name "max" p) [e,e'] [] pos) (c2 dMax2 f f'):=
 ⟨pf_b2 (g:=λi j=>if j > i then j else i) (λi j H Q q=>⟨i,j,rfl,q⟩) (rO (Fg C.c) hg (C.mg▸N.p) boot_max (qk ha.p (qk hb.p sg hs') (by rw[hs,hs'])) (by decide) (by decide) (by rw[hs,hs']) (by rw[hs'];rfl))⟩
theorem zr_mnI [C:Cz X B k][N:Nb B "min"](hg:Gz X "min")(hs:ao [e,e'] X.env=[(false,eval e X.env),(false,eval e' X.env)])(hs':S1 X e')(ha:ZE X B e f)(hb:ZE X B e' f'):ZE X B (.Call (.Name "min" p) [e,e'] [] pos) (c2 dMin2 f f'):=
 ⟨pf_b2 (g:=λi j=>if j<i then j else i) (λi j H Q q=>⟨i,j,rfl,q⟩) (rO (Fh C.c) hg (C.mg▸N.p) boot_min (qk ha.p (qk hb.p sg hs') (by rw[hs,hs'])) (by decide) (by decide) (by rw[hs,hs']) (by rw[hs'];rfl))⟩
end
def tOr(t t':Ty->Option Bool):Ty->Option Bool:=λy=>match t y with
 |some true=>match t' y with
  |some _=>some true
  |none=>none
 |some false=>t' y
 |none=>none
variable{t':Ty->Option Bool}
theorem inst_or{G:Bg}{c c':Nat}{t:Ty->Option Bool}(h:zD G c t)(h':zD G c' t'):EB G [c,c'] (tOr t t'):=by
 refine⟨λy b e=>?_,λj b e=>?_⟩
 ·unfold tOr at e;show kitAny G.K (y.val G) [.ref (G.ca c),.ref (G.ca c')]=some b;unfold kitAny;cases e1:t y with
  |none=>simp only[e1]at e;cases e
  |some v=>
   simp only[e1]at e;rw[h.1 y v e1];cases v with
   |true=>
    cases e2:t' y with
    |none=>simp only[e2]at e;cases e
    |some w=>simp only[e2]at e;cases e;rfl
   |false=>simp only at e;unfold kitAny;simp only;rw[h'.1 y b e];cases b<;>rfl
 ·unfold tOr at e;cases e1:t (.c j)with
  |none=>simp only[e1]at e;cases e
  |some v=>exact h.2 j v e1
section
variable{X:Cx}{B:Bz}{k:Nat}{e:Expr}{f:FE}{p p2 p3 p4 pos:Pos}{x y:Str}
theorem zr_i2I{z1}{t:Ty->Option Bool}[Q:Ic B x t][Q':Ic B y t'][C:Cz X B k][N:Nb B "isinstance"](hi:Gz X "isinstance")(hg:Gz X x)(hg':Gz X y)(hs:ao [e,.Tuple [.Name x p2,.Name y p3] z1 p4] X.env=[(false,eval e X.env),(false,eval (.Tuple [.Name x p2,.Name y p3] z1 p4) X.env)])(hs':S1 X (.Tuple [.Name x p2,.Name y p3] z1 p4))(hs2:ao [.Name x p2,.Name y p3] X.env=[(false,eval (.Name x p2) X.env),(false,eval (.Name y p3) X.env)])(hs3:S1 X (.Name y p3))(ha:ZE X B e f)(hd:Dz x)(hd':Dz y):ZE X B (.Call (.Name "isinstance" p) [e,.Tuple [.Name x p2,.Name y p3] z1 p4] [] pos) (c1 (pd (tOr t t')) f):=by
 obtain⟨c,q1,q2⟩:=Q.p;obtain⟨c',r1,r2⟩:=Q'.p;refine⟨HW (cs:=[c,c']) (rO (DL (inst_or q1 r1) C.K) hi (C.mg▸N.p) eX (o5 ha.p (o5 (GB (o5 (wO (v:=.ref (B.G.ca c)) hg (C.mg▸q2) rfl hd) (o5 (wO (v:=.ref (B.G.ca c')) hg' (C.mg▸r2) rfl hd') qK hs3) ?_)) qK hs') ?_) (by decide) (by decide) ?_ ?_) (by show 2<=1000;decide)⟩
 ·rw[hs2,hs3]
 ·rw[hs,hs']
 ·rw[hs,hs']
 ·rw[hs'];rfl
end
section
variable{X:Cx}{B:Bz}{k i:Nat}{e:Expr}{f:FE}{a:FA}{x:Str}{p p2 p3 pos apos:Pos}
theorem zr_xsI{j:Int}{jj}(h:sees X i x=true)(he:ZE X B e f)(hs:swapsWithSole [.Subscript (.Name x p) (.Constant (.int j) jj p2) p3] e pos.line X.env=pure false)(hw:swappedStores [.Subscript (.Name x p) (.Constant (.int j) jj p2) p3] e X.env=pure none)
  (h1:(bT [.Subscript (.Name x p) (.Constant (.int j) jj p2) p3] X.env).map (·.2)=[assign (.Subscript (.Name x p) (.Constant (.int j) jj p2) p3) X.env]):ZS X B (.Assign [.Subscript (.Name x p) (.Constant (.int j) jj p2) p3] e pos) (rW i j f):=⟨FZ (Gp he.p (Ml (pvI h) Dc set_list) hs hw h1)⟩
theorem zr_xeI [C:Cz X B k](h:sees X i x=true)(hb:Az X (.Name x p) "extend")(hl:Ez apos pos)(hs:S1 X e)(ha:ZN X B e a):ZE X B (.Call (.Attribute (.Name x p) "extend" apos) [e] [] pos) (Kk i a):=
 ⟨FL (bmI hb hl hs fO fL jH Fs (pvI h) (o5 ha.p qK hs))⟩
end
end L4
namespace HT
open PySem PySem.Spec PyProof.Rows
section
variable{prog:aq}{w:aj}{A:au}{E:aa->ae->Prop}{s:ae}
theorem draw_list{it l:Addr}{items:Array aa}(hne:l≠it):∀(n i:Nat) (s:ae) (Q:List aa->ae->Prop),s.heap.IsListIter it l i->s.heap.IsList l items->i+n<=items.size->
  (∀h',h'.IsListIter it l (i+n)->dM it s.heap h'->Q ((items.toList.drop i).take n) { s with heap:=h' })->af (model prog w) A (draw (.ref it) n) Q E s
 |0,i,s,Q,hit,_,_,hQ=>by show af _ _ (pure []) Q E s;exact aw (by simpa using hQ s.heap hit (mX ..))
 |n+1,i,s,Q,hit,ht,hle,hQ=>by
  have hlt:i<items.size:=by omega
  show af _ _ (pyNext (.ref it)>>=_) Q E s;refine ai (i5 hit ht (x:=items[i]) (by simp[hlt]) λh₁ hit₁ hs₁=>?_);refine ai (bC (draw_list hne n (i+1) _ _ hit₁ (jK ht hs₁.extBut hne) (by omega) λh₂ hit₂ hs₂=>aw ?_));have hd:items.toList.drop i=items[i]::items.toList.drop (i+1):=by simp[fA,hlt]
  have:=hQ h₂ (by rw[show i+(n+1)=i+1+n by omega];exact hit₂) (hs₁.trans hs₂);rw[hd,List.take_succ_cons]at this;exact this
theorem unpack_list{l:Addr}{items:Array aa}{Q:List aa->ae->Prop}(hh:A.handled=none)(ht:s.heap.IsList l items)
  (hQ:∀h',Heap.ExtBut s.heap.objs.size s.heap h'->Q items.toList { s with heap:=h' }):af (model prog w) A (unpackItems (.ref l) items.size none) Q E s:=by
 have hlt:l≠s.heap.objs.size:=by obtain⟨o,ho,_⟩:=ht;exact aG (aA ho)
 unfold unpackItems;refine ai ?_;unfold notIterableAtAll;refine ai (eU ht.typeIs slot_list_iter.lookup ?_);refine aw ?_;simp only[dq,if_false];refine ai (bC (dX ht ?_));refine ai (bC (draw_list hlt items.size 0 _ _ ⟨_,aY _ rfl,rfl,rfl⟩ (ht.push _) (by omega) λh₁ hit₁ hs₁=>?_));have hall:List.take items.size (List.drop 0 items.toList)=items.toList:=by rw[ky];exact fF (by simp)
 rw[hall];rw[ah (by simp)];have ht₁:h₁.IsList l items:=jK (ht.push _) hs₁.extBut hlt;refine ai (bC (jd hh hit₁ ht₁ (by simp) λh₂ he₂=>?_));simp only[Option.isSome_none,dq,if_false];exact aw (hQ h₂ λb o hb e=>he₂ b o hb (hs₁.extBut b o hb (aD _ e)))
end
end HT
namespace L2
open PySem PySem.Spec PyProof.Rows
section
variable{X:Cx}{pos:Pos}
def gLst(K:W.Frag)(n:Nat)(t:TGs):TG:=λv σ H Q=>∃a xs,v=.ref a/\SqL K H a xs/\xs.length=n/\t xs σ H Q
theorem pg_lst{es:List Expr}{k:Nat}{t:TGs}{n:Nat}(hc:X.calm=true)(h:PGs X es t)
  (hn:(bT es X.env).length=n) (hst:(bT es X.env).findIdx? (·.1)=none):PG X (.Tuple es k pos) (gLst X.K n t):=by
 intro pins s σ H v u Q I r hw;obtain⟨a,xs,e1,hq,hl,hw⟩:=hw;subst e1;cases r;obtain⟨its,rv,ht,hz⟩:=I.list hq;have e2:(bT es X.env).length=its.toArray.size:=by simp[hn,<- hl,rv.length]
 rw[assign_Tuple];refine ai (fX ?_);unfold unpack;rw[e2,hst];refine ai (bC (HT.unpack_list (I.ok.hd hc) ht.isList λh' hx=>?_));have I1:Inv X pins σ H { s with heap:=h' }:=I.kept (t':=s.toks) λb o e=>hx b o (aG (aA e)) e;exact h pins _ σ H xs _ Q I1 (by simpa using rv) hw
end
end L2
namespace L4
open PySem PySem.Spec PyProof.Rows L2 L3
section
variable{X:Cx}{G:Bg}
def gTL(gs:List D->List Sl->Option (List Sl))(n:Nat):FG:=λd ρ=>match d with
 |.lst ds=>if ds.length=n then gs ds ρ else none
 |_=>none
theorem pfg_lst{n m:Nat}{es:List Expr}{gs:List D->List Sl->Option (List Sl)}{k:Nat}{pos:Pos}(h:PG X (.Tuple es k pos) (gLst G.K m (G6 G n gs))):PG X (.Tuple es k pos) (tFG G n (gTL gs m)):=PG.weak h λv σ H Q hh=>by
 obtain⟨F,ρ,H0,d,ρ',R,r,e,k⟩:=hh;cases d with
 |lst ds=>
  unfold gTL at e;simp only at e;split at e
  ·rename_i hl;unfold Rep at r;obtain⟨a,xs,rfl,h1,h2⟩:=r;exact⟨a,xs,rfl,SqL.of (R.sub _ _ h1),by rw[<-n9 h2];exact hl,F,ρ,H0,ds,ρ',R,h2,e,k⟩
  ·cases e
 |_=>cases e
end
section
variable{X:Cx}{B:Bz}{k j n' k':Nat}{x:Str}{e e':Expr}{es:List Expr}{f f':FE}{a n:FA}{p p' pos:Pos}{g:List D->List D->Option (D×List D)}{gs:List D->List Sl->Option (List Sl)}{i:Int}{m:Nat}
theorem zr_gtuL [C:Cz X B k](h:ZH X B es m gs)(hn:(bT es X.env).length=n')(ht:(bT es X.env).findIdx? (·.1)=none):ZG X B (.Tuple es k' pos) m (gTL gs n'):=⟨pfg_lst (by rw[<-C.K];exact pg_lst C.c h.p hn ht)⟩
end
end L4
namespace L2
open PySem PySem.Spec PyProof.Rows PySem.W
abbrev vErr:List aa:=[.type "ValueError", .type "Exception", .type "BaseException", .type "object"]
def XC(K:W.Frag)(C:Addr):Prop:=excIn K C vErr "ValueError.__new__" = true
theorem XC.obj{K:W.Frag}{C:Addr}{h:Heap}(q:XC K C)(i:K.In h):OwnCls "x" C vErr "ValueError.__new__" (λ_=>some (.ref C)) h:=by
 refine⟨rfl,?_⟩;have q':excIn K C vErr "ValueError.__new__" = true:=q;unfold excIn at q';split at q'
 ·rename_i di dt sl lk;split at q'
  ·rename_i Cc tl a0 a1 a2 a3 nw a5 em es;simp only[aC,beq_iff_eq,dY]at q';obtain⟨⟨⟨⟨⟨h1,h2⟩,h3⟩,h4⟩,h5⟩,h6⟩:=q';cases dt with
   |mk nm bs mro ns qn hd sn sub ab col del=>cases h1;cases h2;have em':mro=_:=em;have hd':del=false:=h3;cases em';cases hd';obtain⟨ll⟩:=sl;have es':ll=_:=es;cases es';exact⟨tl,ns,nm,qn,bs,hd,sn,sub,ab,col,di,a0,a1,a2,a3,a5,_,i _ _ lk,.of_isNs (isNs_of_in i h5),nsMap_none_of_in i h5 h6,tail_of_in i h4⟩
  ·cases q'
 ·cases q'
structure Fly(P:aq)(w:aj)(C:Addr)(l:List Env)(H:Hp)(s:ae)(H':Hp)(a:Addr)(s':ae):Prop where
 ex:∃(B:Heap) (a0:aa),iy B l a (.ref C) a0 s'.heap/\HOk P w H' B/\∀b o,s.heap.get? b=some o->b∉frs l->∃o',B.get? b=some o'
 os:s'.os=s.os
 bare:cA s'.gens
 un:Un (frs l) [] H H' s.heap s'.heap
def CXW(P:aq)(w:aj)(C:Addr):CXT:=λl H s E e s'=>∃a H',e=.ref a/\Fly P w C l H s H' a s'/\E e none H'
theorem un_step{l:List Env}{H H':Hp}{h h1 h2 B:Heap}(kb:∀b o,h.get? b=some o->b∉frs l->∃o',B.get? b=some o')(st:B.StaysIn h1)(st2:B.StaysIn h2)(ff:h1.FunFrames B l)(up:h1.UpToSlots h2)(u:Un (frs l) [] H H' h h1):Un (frs l) [] H H' h h2 where
 keep:=λb o q n hb hx=>by obtain⟨o',e⟩:=kb b o q hb;have e1:=u.keep b o q n hb hx;have e2:=st b o' e;rw[e1]at e2;cases e2;exact st2 b _ e
 slot:=λb o q n hb hx=>by obtain⟨sl,e1⟩:=u.slot b o q n hb hx;obtain⟨_,o1,e2,d⟩:=ff.mem hb;rw[e1]at e2;cases e2;obtain⟨sl',e3⟩:=up b _ e1 d;exact⟨sl',e3⟩
 free:=u.free
 there:=λb o q hx=>by
  by_cases hb:b∈frs l
  ·obtain⟨_,o1,e2,d⟩:=ff.mem hb;obtain⟨sl',e3⟩:=up b _ e2 d;exact⟨_,e3⟩
  ·obtain⟨o',e⟩:=kb b o q hb;exact⟨o',st2 b _ e⟩
 tups:=u.tups
 frzs:=u.frzs
 tbls:=u.tbls
variable{pins:List (Addr×Obj)}{σ:St}{H1:Hp}
section
variable{P:aq}{w:aj}{K:W.Frag}{mg:Str->Option aa}{base:Heap}{N:List Str}{qual:Str}{scope:bM}{f C:Addr}{cd:aa}{A:au}{outer:List Env}{s:ae}{H:Hp}{E:XK}
abbrev cxW(C:Addr)(P:aq)(w:aj)(K:W.Frag)(mg:Str->Option aa)(base:Heap)(N:List Str)(qual:Str)(scope:bM)(f:Addr)(cd:aa)(A:au)(outer:List Env)(s:ae)(H:Hp)(E:XK):Cx:=Bu (CXW P w C) P w K mg base N qual scope f cd A outer s H E
theorem kb_out{s1:ae}{B:Heap}(I:Inv (cxW C P w K mg base N qual scope f cd A outer s H E) pins σ H1 s1)(kb:∀b o,s1.heap.get? b=some o->b∉frs (cxW C P w K mg base N qual scope f cd A outer s H E).stack->∃o',B.get? b=some o'):
  ∀b o,s.heap.get? b=some o->b∉frs outer->∃o',B.get? b=some o':=λb o q hb=>by
 obtain⟨o1,e1⟩:=I.base.there b o q (λz=>nomatch z);refine kb b o1 e1 λhm=>?_;rcases aN.mp (I.stkSub b hm)with z|z
 ·exact ak (bD (aA q) I.ok.above) (by rw[z];exact c6 _)
 ·exact hb z
theorem pass_body:Passes (CXW P w C) (cxW C P w K mg base N qual scope f cd A outer s H E) (λ_ _ H'=>∀e,E e none H'):=λpins σ H1 s1 e s' I h=>by obtain⟨a,H',rfl,fl,z⟩:=h;obtain⟨B,a0,hf,hok,kb⟩:=fl.ex;refine wpAny_leaves_onW I.ok.frames rfl hf λh2 hf2 up=>?_;have u:=un_step kb hf.1 hf2.1 hf.2.2.1 up fl.un;have J:=I.call' (s':={ s' with heap:=h2 }) (ch:=[]) fl.os u (hok.kept hf2.1) fl.bare λ_ z=>nomatch z;exact⟨a,H',rfl,⟨⟨B,a0,hf2,hok,kb_out I kb⟩,J.os,J.bare,J.base⟩,z _⟩
theorem made_body{s1:ae}{a:Addr}{vs:List aa}{h':Heap}(I:Inv (cxW C P w K mg base N qual scope f cd A outer s H E) pins σ H1 s1)(hx:kz s1.heap h' a (.ref C) vs)(z:∀e,E e none H1):
  (cxW C P w K mg base N qual scope f cd A outer s H E).xe (.ref a) { s1 with heap:=h' }:=by
 have hin:∀env∈(cxW C P w K mg base N qual scope f cd A outer s H E).stack,∀b,env.frame=some b->b∈frs (cxW C P w K mg base N qual scope f cd A outer s H E).stack:=λenv he b hb=>cE.mpr ⟨env,he,hb⟩;have ff:=funFrames_hide I.stack hin;have kb:∀b o,s1.heap.get? b=some o->b∉frs (cxW C P w K mg base N qual scope f cd A outer s H E).stack->∃o',(hideAll s1.heap (frs (cxW C P w K mg base N qual scope f cd A outer s H E).stack)).get? b=some o':=λb o q n=>⟨o,jX _ q n⟩;have hok:HOk P w H1 (hideAll s1.heap (frs (cxW C P w K mg base N qual scope f cd A outer s H E).stack)):=λb o e=>(I.hok b o e).stay (λc u hc q=>jX _ q λhm=>by
  have n:=I.stkFree c hm;rcases hc with rfl|hc
  ·rw[e]at n;cases n
  ·rw[hc]at n;cases n) (λ_ q=>q) λ_ _ q=>q
 refine wpAny_leaves_madeW (h:=s1.heap) I.ok.frames rfl (λb o q=>j8 _ q) ff hx λh2 t hf2 _ _ up=>?_;have u:=un_step kb (λb o q=>hx.keeps b o (j8 _ q)) hf2.1 (ff.of_keeps λb o q _=>⟨o,hx.keeps b o q,rfl⟩) up (Un.kept (fs:=frs (cxW C P w K mg base N qual scope f cd A outer s H E).stack) (ex:=[]) (H:=H1) hx.keeps);have J:=I.call' (s':={ s1 with heap:=h2 }) (ch:=[]) rfl u (hok.kept hf2.1) I.bare λ_ z=>nomatch z;exact⟨a,H1,rfl,⟨⟨_,_,hf2,hok,kb_out I kb⟩,J.os,J.bare,J.base⟩,z _⟩
end
def Mades(X:Cx)(C:Addr)(Z:Hp->Prop):Prop:=∀(pins:List (Addr×Obj)) (σ:St) (H:Hp) (s:ae) (a:Addr) (vs:List aa) (h':Heap),Inv X pins σ H s->kz s.heap h' a (.ref C) vs->Z H->X.xe (.ref a) { s with heap:=h' }
section
variable{X:Cx}{C:Addr}{Z:Hp->Prop}{x:Str}{np cpos pos:Pos}{e:Expr}{es:List Expr}{t:TA}
theorem ps_raise(q:XC X.K C)(hc:X.calm=true)(hm:X.mg x=some (.ref C))(mk:Mades X C Z)(ha:PA X (e::es) t)(hg:Gl X x)(hdb:(x==("__debug__" : Str))=false)(he:ao (e::es) X.env=(false,eval e X.env)::ao es X.env)(hpl:(aK cpos (ao es X.env)).any (·.1)=false):
  PS X (.Raise (some (.Call (.Name x np) (e::es) [] cpos)) none pos) (λ_ σ H=>t σ H λvs H1=>vs.length<=av/\Z H1):=by
 intro pins s σ H D I h;obtain⟨bm,N,nm,qn,bs,hd,sn,sub,ab,col,dd,k0,k1,k2,k3,k5,mN,hC,hN,hni,T⟩:=(q.obj I.mod.kin).obj;have hb:bm.contains (.type "BaseException")=true:=T.hasType (b:=true) rfl;refine wpAny_Raise_call_subU (nm:=nm) (q:=qn) (N:=N) (bs:=bs) (hdct:=hd) (sn:=sn) (sub:=sub) (ab:=ab) (col:=col) (dd:=dd) (k0:=k0) (k1:=k1) (k2:=k2) (k3:=k3) (k5:=k5) jr rfl jr hb (I.ok.hd hc) (by rw[he];show (false||(aK cpos (ao es X.env)).any (·.1))=false;rw[hpl];rfl) hni (rH I hg hm ⟨rfl,?_⟩ hdb)
 rw[he];have h2:=ha cpos pins s σ H _ I h;rw[he]at h2;refine eI (thn h2 λus s2 zz=>?_);obtain⟨vs,H2,I2,r,l2,z⟩:=zz;refine⟨rfl,by rw[<-r.length];exact l2,I2.bk _ _ hC,hN.keeps I2.bk,T.keeps I2.bk,λh' a hx=>mk pins σ H2 s2 a us h' I2 hx z⟩
end
abbrev Cx.caught(X:Cx)(v:aa):Cx:={ X with A:=X.A.mark (some v),calm:=false,xe:=λ_ _=>False }
theorem Inv.caught{X:Cx}{H:Hp}{s:ae}(I:Inv X pins σ H s)(v:aa):Inv (X.caught v) pins σ H s:=
 ⟨⟨I.ok.mod,I.ok.kind,I.ok.glob,I.ok.blt,I.ok.above,I.ok.inj,I.ok.has,I.ok.cab,(λz=>by cases z),I.ok.frames,I.ok.stk,I.ok.exf,I.ok.bs,I.ok.bsz,I.ok.noex,I.ok.exfs,I.ok.funs,I.ok.frf⟩,I.os,I.bare,I.base,I.loc,I.cell,I.free,I.freeC,I.pin,I.hok,I.len⟩
variable{fl:Flow}{xe:aa->ae->Prop}
section
variable{X:Cx}{pins:List (Addr×Obj)}{σ:St}{H:Hp}{s:ae}
theorem Inv.uncaught{v:aa}(ok:X.Ok)(I:Inv (X.caught v) pins σ H s):Inv X pins σ H s:=⟨ok,I.os,I.bare,I.base,I.loc,I.cell,I.free,I.freeC,I.pin,I.hok,I.len⟩
theorem SP.uncaught{v:aa}{D:Ends}(ok:X.Ok)(h:SP (X.caught v) pins D fl s):SP X pins D fl s:=by
 cases fl with
 |next=>obtain⟨σ',H',I,q⟩:=h;exact⟨σ',H',I.uncaught ok,q⟩
 |brk=>obtain⟨σ',H',I,q⟩:=h;exact⟨σ',H',I.uncaught ok,q⟩
 |cont=>obtain⟨σ',H',I,q⟩:=h;exact⟨σ',H',I.uncaught ok,q⟩
 |ret u=>obtain⟨v,σ',H',I,r,q⟩:=h;exact⟨v,σ',H',I.uncaught ok,r,q⟩
theorem PA.lift{es:List Expr}{t:TA}(h:PA X es t)(n:∀e s,¬X.xe e s):PA (X.wish xe) es t:=λpos pins s σ H Q I hw=>
 bf (h pos pins s σ H Q I.unwish hw) (λ_ _ ⟨v,H',I',r,q⟩=>⟨v,H',I'.wish xe,r,q⟩) λe s z=>(n e s z).elim
theorem PT.lift{e:Expr}{t:TT}(h:PT X e t)(n:∀e s,¬X.xe e s):PT (X.wish xe) e t:=λpins s σ H Q I hw=>
 bf (h pins s σ H Q I.unwish hw) (λ_ _ ⟨H',I',q⟩=>⟨H',I'.wish xe,q⟩) λe s z=>(n e s z).elim
theorem SP.wish{D:Ends}(xe:aa->ae->Prop)(h:SP X pins D fl s):SP (X.wish xe) pins D fl s:=by
 cases fl with
 |next=>obtain⟨σ',H',I,q⟩:=h;exact⟨σ',H',I.wish xe,q⟩
 |brk=>obtain⟨σ',H',I,q⟩:=h;exact⟨σ',H',I.wish xe,q⟩
 |cont=>obtain⟨σ',H',I,q⟩:=h;exact⟨σ',H',I.wish xe,q⟩
 |ret u=>obtain⟨v,σ',H',I,r,q⟩:=h;exact⟨v,σ',H',I.wish xe,r,q⟩
theorem PS.lift{st:Stmt}{t:TS}(h:PS X st t)(n:∀e s,¬X.xe e s):PS (X.wish xe) st t:=λpins s σ H D I hw=>
 bf (h pins s σ H D I.unwish hw) (λ_ _ q=>q.wish xe) λe s z=>(n e s z).elim
end
section
variable{X:Cx}{CX:CXT}{k:Nat}{f C C0:Addr}{fd:aW}{ps:List Str}{sp:Sp}{dvs:List V}{ds:List aa}{E:XK}{x y:Str}{p np pos pos1 pos2 hp:Pos}{e:Expr}{es:List Expr}{t:TA}{b0:Stmt}{suite:List Stmt}{th:TS}
theorem run_makeX{H:Hp}{s:ae}{Q:VK}{us:List aa}{vs:List V}(M:Mk X.K C0 f)(F:qx X.prog X.w X.K X.mg X.base CX k f fd ps sp)(hr:pJ (k+1) X.A)(hb:Binds X.K fd ps ds)(hd:Vals dvs ds)
  (hx:∀H2 s2 e s',Inv X pins σ H2 s2->CX X.stack H2 s2 E e s'->X.xe e s') (I:Inv X pins σ H s) (r:Vals vs us)
  (h:∀x dx,H x=none->H dx=none->dx≠x->sp (.ref x::(vs++dvs)) (upd (upd H dx (.own x)) x (.ins C0 dx [])) (λv H2=>v=.non/\Q (.ref x) H2) E):
  af (model X.prog X.w) X.A (call (.ref C0) us) (EP X pins σ Q) X.xe s:=by
 have hq:=h (s.heap.objs.size+1) s.heap.objs.size (I.hok.fresh (fo _)) (I.hok.fresh (ay _)) (aG (cW _));have I2:=Inv.made (C:=C0) I;have r2:Vals (V.ref (s.heap.objs.size+1)::(vs++dvs)) (Value.ref (s.heap.objs.size+1)::(us++ds)):=.cons rfl (r.append hd);have hl:(Value.ref (s.heap.objs.size+1)::us++ds).length=ps.length:=by have e:=r2.length;rw[F.len _ _ _ _ hq]at e;exact e.symm
 refine c9 (B3 (f:=f) I.kIn M.makes M.init (beq_iff_eq.mp M.fn) (cM (F.run _ X.stack _ _ ⟨Value.ref (s.heap.objs.size+1)::us,[]⟩ (Value.ref (s.heap.objs.size+1)::(us++ds)) _ _ E (hr.make C0 us [])
  (I2.env0.make C0 us []) (hb _ (Value.ref (s.heap.objs.size+1)::us) I2.kIn hl) r2 hq) λr s' hq'=>?_))
 cases r with
 |error e=>exact hx _ _ e s' I2 hq'
 |ok fl=>
  cases fl with
  |ret u=>obtain⟨v,H',I3,rv,ev,q3⟩:=I2.after hq';subst ev;exact⟨rv,⟨V.ref (s.heap.objs.size+1),H',I3,rfl,q3⟩⟩
  |next=>exact bA hq'
  |brk=>exact bA hq'
  |cont=>exact bA hq'
theorem ps_try(hst:X.stack=X.env::X.outer)(hfm:X.env.frame=some X.env.locals)(hn0:∀e s,¬X.xe e s)(q:XC X.K C)(hg':Gl X y)(hm':X.mg y=some (.ref C))(hdb':(y==("__debug__" : Str))=false)
  (M:Mk X.K C0 f) (F:qx X.prog X.w X.K X.mg X.base (CXW X.prog X.w C) k f fd ps sp) (hr:pJ (k+1) X.A) (hb:Binds X.K fd ps ds) (hd:Vals dvs ds) (hg:Gl X x) (hm:X.mg x=some (.ref C0)) (ha:PA X (e::es) t) (hdb:(x==("__debug__" : Str))=false)
  (he:ao (e::es) X.env=(false,eval e X.env)::ao es X.env) (hpl:(aK pos (ao es X.env)).any (·.1)=false) (hsw:bu (.Call (.Name x p) (e::es) [] pos) none pos1.line X.env=pure false) (hs:∀v,PSs (X.caught v) (b0::suite) th):
  PS X (.Try [.Expr (.Call (.Name x p) (e::es) [] pos) pos1] [.ExceptHandler (some (.Name y np)) none (b0::suite) hp] [] [] pos2) (λD σ H=>B4 C0 sp dvs (λ_ _ H'=>th D σ H') t σ H λ_ H1=>D.nx σ H1):=by
 intro pins s σ H D I h;refine j6 ?_;let XE:aa->ae->Prop:=λe s₁=>af (model X.prog X.w) X.A (noteFrame e X.env) (λ_ s₂=>af (model X.prog X.w) X.A (setFlight e none) (λ_ s₃=>af (model X.prog X.w) X.A (handleBy e X.env [.ExceptHandler (some (.Name y np)) none (b0::suite) hp]) (SP X pins D) X.xe s₃) X.xe s₂) X.xe s₁;have hx:∀H2 s2 e s',Inv (X.wish XE) pins σ H2 s2->CXW X.prog X.w C X.stack H2 s2 (λ_ _ H'=>th D σ H') e s'->XE e s':=by
  intro H2 s2 ev s' J hc;obtain⟨a,H',rfl,fl,z⟩:=hc;obtain⟨B,a0,hf,hok,kb⟩:=fl.ex;have hfr:X.A.frames=some (X.env::X.outer):=by rw[<-hst];exact I.ok.frames
  have hf':iy B (X.env::X.outer) a (.ref C) a0 s'.heap:=by rw[<-hst];exact hf
  refine kh hfr hfm hf' λh4 hh4 up4=>wpAny_landsW hh4 λh5 hf5 up5=>?_;have u5:=un_step kb hf.1 hf5.1 hf.2.2.1 (up4.trans up5) fl.un;have J5:=(J.call' (s':={ s' with heap:=h5 }) (ch:=[]) fl.os u5 (hok.kept hf5.1) fl.bare λ_ z=>nomatch z).unwish;refine jy (jk (rH (X:=X.caught (.ref a)) (J5.caught _) hg' hm' ?_ hdb')) (by intro q;cases q);obtain⟨bm,N,nm,qn,bs,hd,sn,sub,ab,col,dd,k0,k1,k2,k3,k5,mN,hC,hN,hni,T⟩:=(q.obj I.mod.kin).obj;have hbm:bm.contains (.type "BaseException")=true:=T.hasType (b:=true) rfl;obtain⟨ob,hob,hobc⟩:=hf5.there;refine iR (J5.bk _ _ hC) hob hobc hbm (codeAny_handlers_suite ?_);refine lands_againW hf5 λh6 hf6 up6=>?_;have u6:=un_step kb hf.1 hf6.1 hf.2.2.1 ((up4.trans up5).trans up6) fl.un;have J6:=(J.call' (s':={ s' with heap:=h6 }) (ch:=[]) fl.os u6 (hok.kept hf6.1) fl.bare λ_ z=>nomatch z).unwish;exact bf (hs (.ref a) pins _ σ H' D (J6.caught _) z) (λfl s7 hq=>hq.uncaught I.ok) λ_ _ z=>z.elim
 have key:af (model X.prog X.w) X.A (eval (.Call (.Name x p) (e::es) [] pos) X.env) (EP (X.wish XE) pins σ λ_ H1=>D.nx σ H1) XE s:=by refine cu (rH I hg hm ?_ hdb);refine W.callWith_K (h₀:=X.base) I.ok.mod.kin M.kp (thn ((ha.lift hn0) pos pins s σ H _ (I.wish XE) h) λus s1 ⟨vs,H1,I1,r,q⟩=>⟨I1.kIn,?_⟩) he hpl;exact run_makeX (X:=X.wish XE) M F hr hb hd hx I1 r q
 have key2:af (model X.prog X.w) X.A (exec (.Expr (.Call (.Name x p) (e::es) [] pos) pos1) X.env) (SP X pins D) XE s:=ig (thn key λv s1 ⟨x,H1,I1,r1,q1⟩=>⟨σ,H1,I1.unwish,q1⟩) I.quiet hsw;refine fR (thn key2 λf s1 q=>?_);cases f with
 |next=>exact dE (dE q)
 |ret v=>exact q
 |brk=>exact q
 |cont=>exact q
end
end L2
namespace L4
open PySem PySem.Spec PyProof.Rows L2 L3
def zE(E:Ends)(Z:Hp->Prop):Ends:={ nx:=E.nx,rt:=E.rt,bk:=λ_ H=>Z H,ct:=E.ct }
def tFX(G:Bg)(Z:Hp->Prop)(f:FS):TS:=λE σ H=>tFS G f (zE E Z) σ H
def sNb(f:FS):FS:=λρ=>match f ρ with
 |some (.bk _)=>none
 |r=>r
def sRz(a:FA):FS:=λρ=>match a ρ with
 |some ([_],ρ')=>some (.bk ρ')
 |_=>none
def sXp(g:List D->Option Bool)(a:FA):FS:=λρ=>match a ρ with
 |some (ds,ρ')=>match g ds with
  |some true=>some (.nx ρ')
  |some false=>some (.bk ρ')
  |none=>none
 |none=>none
def fnX(np n:Nat)(f:FS):List D->Option Bool:=λds=>if ds.length=np then match f (stE n ds)with
 |some (.nx _)=>some true
 |some (.bk _)=>some false
 |_=>none
 else none
def fnXI(c np n:Nat)(f:FS):List D->Option (Option (List Str×List D)):=λds=>if ds.length=np then match f (stI c n ds)with
 |some (.bk _)=>some none
 |some (.nx _)=>match fnI c np n f ds with
  |some r=>some (some r)
  |none=>none
 |_=>none
 else none
def sTry(g:List D->Option (Option (List Str×List D)))(a:FA)(fh:FS):FS:=λρ=>match a ρ with
 |some (ds,ρ')=>match g ds with
  |some (some _)=>some (.nx ρ')
  |some none=>fh ρ'
  |none=>none
 |none=>none
def spX(G:Bg)(g:List D->Option Bool):Sp:=λvs H Q E=>∃H0 ds d,oh H0 H/\n8 G H0 ds vs/\g ds=some d/\
 (d=true->∀H0' H',oh H0 H0'->oh H0' H'->oh H H'->(∀b o,H0' b=some o->H0 b=some o\/H b=none)->Q .non H')/\(d=false->∀e H',oh H H'->E e none H')
def spXI(G:Bg)(c:Nat)(g:List D->Option (Option (List Str×List D))):Sp:=λvs H Q E=>∃(p dx:Addr) (us:List V) (H0:Hp) (ds:List D),vs=.ref p::us/\H p=some (.ins (G.ca c) dx [])/\H0 p=none/\oh H0 H/\n8 G H0 ds us/\
 ((∃ns es,g ds=some (some (ns,es))/\∀ys dx' H0' H',oh H0 H0'->oh H0' H'->(∀b o,H b=some o->b≠p->H' b=some o)->(∀b o,H0' b=some o->H0 b=some o\/H b=none)->H0' p=none->H' p=some (.ins (G.ca c) dx' (ns.zip ys))->ns.length=ys.length->n8 G H0' es ys->Q .non H')
  \/ (g ds=some none/\∀e H',(∀b o,H b=some o->b≠p->H' b=some o)->E e none H'))
variable{np:Nat}{ds:List D}{N:List Str}{vs:List V}{E:XK}
section
variable{X:Cx}{G:Bg}{Z:Hp->Prop}
theorem tFS_zE{f:FS}{Q:VK}{nx:St->Hp->Prop}{σ:St}{H:Hp}(h:tFS G f { nx:=nx,rt:=Q } σ H):tFX G Z f { nx:=nx,rt:=Q } σ H:=by
 obtain⟨F,ρ,H0,o,R,e,k,_⟩:=h;refine⟨F,ρ,H0,o,R,e,?_,λ_=>rfl⟩;cases o with
 |bk ρ'=>exact λσ' H0' H' s' R'=>(k σ' H0' H' s' R').elim
 |nx ρ'=>exact k
 |ct ρ'=>exact k
 |rt d ρ'=>exact k
 |rn d ρ'=>exact k
theorem pfx_nil:PSs X [] (tFX G Z o3):=PSs.weak D4 λE σ H h=>G2 (E:=zE E Z) h
theorem pfx_cons{st:Stmt}{rest:List Stmt}{f g:FS}(h1:PS X st (tFX G Z f))(h2:PSs X rest (tFX G Z g)):PSs X (st::rest) (tFX G Z (og f g)):=PSs.weak (u4 h1 h2) λE σ H h=>by
 obtain⟨F,ρ,H0,o,R,e,k,k2⟩:=h;unfold og at e;cases e1:f ρ with
 |none=>simp only[e1]at e;cases e
 |some o1=>
  cases o1 with
  |nx ρ1=>simp only[e1]at e;exact⟨F,ρ,H0,_,R,e1,λσ' H0' H' s R'=>⟨F,ρ1,H0',o,R',e,k.back s,λ_=>rfl⟩,λ_=>rfl⟩
  |bk ρ1=>simp only[e1]at e;cases e;exact⟨F,ρ,H0,_,R,e1,k,λ_=>rfl⟩
  |ct ρ1=>simp only[e1]at e;cases e;exact⟨F,ρ,H0,_,R,e1,k,λ_=>rfl⟩
  |rt d ρ1=>simp only[e1]at e;cases e;exact⟨F,ρ,H0,_,R,e1,k,λ_=>rfl⟩
  |rn d ρ1=>simp only[e1]at e;cases e;exact⟨F,ρ,H0,_,R,e1,k,λ_=>rfl⟩
theorem pfx_up{st:Stmt}{f:FS}(h:PS X st (tFS G f)):PS X st (tFX G Z (sNb f)):=PS.weak h λE σ H hh=>by
 obtain⟨F,ρ,H0,o,R,e,k,_⟩:=hh;unfold sNb at e;cases e1:f ρ with
 |none=>simp only[e1]at e;cases e
 |some o1=>
  cases o1 with
  |bk ρ1=>simp only[e1]at e;cases e
  |nx ρ1=>simp only[e1]at e;cases e;exact⟨F,ρ,H0,_,R,e1,k,λ_=>rfl⟩
  |ct ρ1=>simp only[e1]at e;cases e;exact⟨F,ρ,H0,_,R,e1,k,λ_=>rfl⟩
  |rt d ρ1=>simp only[e1]at e;cases e;exact⟨F,ρ,H0,_,R,e1,k,λ_=>rfl⟩
  |rn d ρ1=>simp only[e1]at e;cases e;exact⟨F,ρ,H0,_,R,e1,k,λ_=>rfl⟩
theorem pfx_if{c:Expr}{a b:List Stmt}{h:FT}{f g:FS}{pos:Pos}(hc:PT X c (tFT G h))(ha:PSs X a (tFX G Z f))(hb:PSs X b (tFX G Z g)):PS X (.If c a b pos) (tFX G Z (sIf h f g)):=PS.weak (Lq hc ha hb) λE σ H hh=>by
 obtain⟨F,ρ,H0,o,R,e,k,k2⟩:=hh;unfold sIf at e;rcases oB (f:=h) (ρ:=ρ)with e1|⟨d,ρ',e1⟩
 ·simp only[e1]at e;cases e
 ·refine⟨F,ρ,H0,d,ρ',R,e1,λH0' H' s R'=>?_⟩;cases d with
  |true=>simp only[e1]at e;exact Cd ⟨F,ρ',H0',o,R',e,k.back s,λ_=>rfl⟩
  |false=>simp only[e1]at e;exact Cb ⟨F,ρ',H0',o,R',e,k.back s,λ_=>rfl⟩
theorem pfx_raise{st:Stmt}{a:FA}(h:PS X st (λ_ σ H=>tFA G a σ H λvs H1=>vs.length<=av/\Z H1)):PS X st (tFX G Z (sRz a)):=PS.weak h λE σ H hh=>by
 obtain⟨F,ρ,H0,o,R,e,k,k2⟩:=hh;unfold sRz at e;split at e
 ·rename_i d ρ' e1;cases e;refine⟨F,ρ,H0,_,ρ',R,e1,λxs H0' H' s R' rs=>⟨?_,k σ H0' H' s R'⟩⟩;rw[<-n9 rs];show 1<=av;decide
 ·cases e
theorem pfx_call{st:Stmt}{g:List D->Option Bool}{a:FA}(h:PS X st (Gk (u9 (spX G g) [] (λ_ _ H'=>Z H') (tFA G a)))):PS X st (tFX G Z (sXp g a)):=PS.weak h λE σ H hh=>by
 obtain⟨F,ρ,H0,o,R,e,k,k2⟩:=hh;unfold sXp at e;rcases oB (f:=a) (ρ:=ρ)with e1|⟨ds,ρ',e1⟩<;>simp only[e1]at e
 ·cases e
 ·refine⟨F,ρ,H0,ds,ρ',R,e1,λxs H1 H1' s R' rs=>?_⟩;cases e2:g ds with
  |none=>simp only[e2]at e;cases e
  |some d=>
   refine⟨H1,ds,d,R'.sub,by rw[bE];exact rs,e2,λhd H2 H2' s1 s2 s3 fr=>?_,λhd ev H2' s3=>?_⟩
   ·subst hd;simp only[e2]at e;cases e;exact k σ H2 H2' (s.trans s1) (R'.grow s3 s1 s2 fr)
   ·subst hd;simp only[e2]at e;cases e;exact k σ H1 H2' s (R'.grow s3 (oh.refl _) (R'.sub.trans s3) λb o e=>.inl e)
theorem pfx_try{st:Stmt}{c:Nat}{g:List D->Option (Option (List Str×List D))}{a:FA}{fh:FS}(h:PS X st (λD σ H=>B4 (G.ca c) (spXI G c g) [] (λ_ _ H'=>tFS G fh D σ H') (tFA G a) σ H λ_ H1=>D.nx σ H1)):PS X st (tFS G (sTry g a fh)):=PS.weak h λE σ H hh=>by
 obtain⟨F,ρ,H0,o,R,e,k,k2⟩:=hh;unfold sTry at e;rcases oB (f:=a) (ρ:=ρ)with e1|⟨ds,ρ',e1⟩<;>simp only[e1]at e
 ·cases e
 ·refine⟨F,ρ,H0,ds,ρ',R,e1,λxs H1 H1' s R' rs x dx hx hdx ne=>?_⟩;have hx2:(upd H1' dx (.own x)) x=none:=by rw[oo (λz=>ne z.symm)];exact hx
  have sx:oh H1' (upd (upd H1' dx (.own x)) x (.ins (G.ca c) dx [])):=(oq hdx _).trans (oq hx2 _);refine⟨x,dx,_,H1,ds,rfl,oi,R'.h0none hx,R'.sub.trans sx,by rw[bE];exact rs,?_⟩;cases e2:g ds with
  |none=>simp only[e2]at e;cases e
  |some r=>
   cases r with
   |none=>simp only[e2]at e;refine .inr ⟨rfl,λev H2' t3=>?_⟩;have t4:oh H1' H2':=λb o e=>t3 b o (sx b o e) (pz e hx);exact⟨F,ρ',H1,o,R'.grow t4 (oh.refl _) (R'.sub.trans t4) (λb o e=>.inl e),e,k.back s,λ_=>rfl⟩
   |some q=>
    obtain⟨ns,es⟩:=q;simp only[e2]at e;cases e;refine .inl ⟨ns,es,rfl,λys dx' H2 H2' t1 t2 t3 fr h0 hp hl ry=>⟨rfl,?_⟩⟩;have t4:oh H1' H2':=λb o e=>t3 b o (sx b o e) (pz e hx);have fr1:∀b o,H2 b=some o->H1 b=some o\/H1' b=none:=λb o e=>by
     rcases fr b o e with q|q
     ·exact .inl q
     ·cases z:H1' b with
      |none=>exact .inr rfl
      |some u=>rw[sx b u z]at q;cases q
    exact k σ H2 H2' (s.trans t1) (R'.grow t4 t1 t2 fr1)
theorem fnX_some{n:Nat}{f:FS}{d:Bool}(h:fnX np n f ds=some d):ds.length=np/\((∃ρ,f (stE n ds)=some (.nx ρ)/\d=true)\/∃ρ,f (stE n ds)=some (.bk ρ)/\d=false):=by
 unfold fnX at h;split at h
 ·rename_i hl;refine⟨hl,?_⟩;split at h
  ·rename_i e;cases h;exact .inl ⟨_,e,rfl⟩
  ·rename_i e;cases h;exact .inr ⟨_,e,rfl⟩
  ·cases h
 ·cases h
theorem entry_X{f:FS}{H:Hp}{Q:VK}(hN:np<=N.length)(h:spX G (fnX np N.length f) vs H Q E):tFX G (λH'=>∀e,E e none H') f { nx:=λ_ H'=>Q .non H',rt:=Q } (L2.start N vs) H:=by
 obtain⟨H0,ds,d,s,r,e,k1,k2⟩:=h;obtain⟨hl,e'⟩:=fnX_some e;have R:=vT (N:=N) s r (by rw[<-n9 r,hl];exact hN);have fin:∀{σ':St} {ρ':List Sl} {H0' H':Hp},RelE G ⟨H0,H,[]⟩ σ' ρ' H0' H'->oh H H'/\oh H0' H'/\∀b o,H0' b=some o->H0 b=some o\/H b=none:=λR'=>⟨λb o e=>R'.keep b o e (by simp),R'.sub,R'.fr⟩;clear e;rcases e' with ⟨ρ,e,rfl⟩|⟨ρ,e,rfl⟩
 ·refine⟨_,_,H0,_,R,e,λσ' H0' H' s' R'=>?_,λ_=>rfl⟩;obtain⟨h1,h2,h3⟩:=fin R';exact k1 rfl H0' H' s' h2 h1 h3
 ·refine⟨_,_,H0,_,R,e,λσ' H0' H' s' R' ev=>?_,λ_=>rfl⟩;exact k2 rfl ev H' (fin R').1
theorem len_X{g:List D->Option Bool}(hg:∀ds d,g ds=some d->ds.length=np):∀vs H Q E,spX G g vs H Q E->vs.length=np:=λvs H Q E h=>by obtain⟨H0,ds,d,_,r,e,_⟩:=h;rw[<-n9 r];exact hg _ _ e
theorem relI{c:Nat}{p dx:Addr}{us:List V}{H0 H:Hp}(hN:us.length+1<=N.length)(hp:H p=some (.ins (G.ca c) dx []))(h0:H0 p=none)(s:oh H0 H)(r:n8 G H0 ds us):RelE G ⟨H0,H,[p]⟩ (L2.start N (.ref p::us)) (stI c N.length ds) H0 H:=by
 have gets:∀{i:Nat} {t:Sl},(stI c N.length ds)[i]?=some t->(i=0/\t=.ob c [] [])\/t=.un\/∃(j:Nat) (d:D),i=j+1/\ds[j]?=some d/\t=.im d:=λ{i t} e=>by
  cases i with
  |zero=>cases e;exact .inl ⟨rfl,rfl⟩
  |succ j=>
   have e':(stE (N.length - 1) ds)[j]?=some t:=e;rcases wY e' with rfl|⟨d,e1,rfl⟩
   ·exact .inr (.inl rfl)
   ·exact .inr (.inr ⟨j,d,rfl,e1,rfl⟩)
 exact {
  sub:=s
  g0:=oh.refl _
  keep:=λb o e _=>e
  fr:=λb o e=>.inl e
  am:=λa ha=>by
   have ea:a=p:=by simpa using ha
   subst ea;exact⟨_,hp⟩
  len:=by unfold L2.start stI stE;simp only[aE,ar,bI,aB];have:=n9 r;omega
  sl:=λi t e=>by
   rcases gets e with ⟨rfl,rfl⟩|rfl|⟨j,d,rfl,e1,rfl⟩
   ·exact⟨p,dx,[],rl rfl,hp,h0,by simp,rfl,oO⟩
   ·trivial
   ·obtain⟨v,e2,e3⟩:=rP r e1;exact⟨v,rl (by simpa using e2),e3⟩
  ap:=λi j t u a hij ei ej ht hu=>by
   rcases gets ei with ⟨rfl,rfl⟩|rfl|⟨_,_,_,_,rfl⟩
   ·rcases gets ej with ⟨rfl,rfl⟩|rfl|⟨_,_,_,_,rfl⟩
    ·exact ak rfl hij
    ·cases hu
    ·cases hu
   ·cases ht
   ·cases ht }
theorem fnXI_some{c n:Nat}{f:FS}{r:Option (List Str×List D)}(h:fnXI c np n f ds=some r):ds.length=np/\((∃ρ,f (stI c n ds)=some (.bk ρ)/\r=none)\/∃q,fnI c np n f ds=some q/\r=some q):=by
 unfold fnXI at h;split at h
 ·rename_i hl;refine⟨hl,?_⟩;split at h
  ·rename_i e;cases h;exact .inl ⟨_,e,rfl⟩
  ·split at h
   ·rename_i e;cases h;exact .inr ⟨_,e,rfl⟩
   ·cases h
  ·cases h
 ·cases h
theorem entry_XI{c:Nat}{f:FS}{H:Hp}{Q:VK}(hN:np+1<=N.length)(h:spXI G c (fnXI c np N.length f) vs H Q E):tFX G (λH'=>∀e,E e none H') f { nx:=λ_ H'=>Q .non H',rt:=Q } (L2.start N vs) H:=by
 obtain⟨p,dx,us,H0,ds,rfl,hp,h0,s,r,k⟩:=h;rcases k with ⟨ns,es,e,k⟩|⟨e,k⟩
 ·obtain⟨hl,e'⟩:=fnXI_some e;rcases e' with ⟨_,_,z⟩|⟨q,e1,z⟩
  ·cases z
  ·cases z;exact tFS_zE (BH (E:=E) hN ⟨p,dx,us,H0,ds,ns,es,rfl,hp,h0,s,r,e1,k⟩)
 ·obtain⟨hl,e'⟩:=fnXI_some e;rcases e' with ⟨ρ,e1,_⟩|⟨q,_,z⟩
  ·have R:=relI (N:=N) (by rw[<-n9 r,hl];exact hN) hp h0 s r;exact⟨_,_,H0,_,R,e1,λσ' H0' H' s' R' ev=>k ev H' λb o e n=>R'.keep b o e (by simpa using n),λ_=>rfl⟩
  ·cases z
theorem len_XI{c:Nat}{g:List D->Option (Option (List Str×List D))}(hg:∀ds q,g ds=some q->ds.length=np):∀vs H Q E,spXI G c g vs H Q E->vs.length=np+1:=λvs H Q E h=>by obtain⟨p,dx,us,H0,ds,rfl,_,_,_,r,k⟩:=h;rw[aB,<- n9 r];rcases k with ⟨_,_,e,_⟩|⟨e,_⟩<;>rw[hg _ _ e]
end
structure ZX(X:Cx)(B:Bz)(c:Nat)(st:Stmt)(f:FS):Prop where p:(∀e s,¬X.xe e s)->∀xe Z,Passes (CXW B.P B.w (B.G.ca c)) (X.wish xe) (λ_ _ H'=>Z H')->Mades (X.wish xe) (B.G.ca c) Z->PS (X.wish xe) st (tFX B.G Z f)
structure ZY(X:Cx)(B:Bz)(c:Nat)(st:List Stmt)(f:FS):Prop where p:(∀e s,¬X.xe e s)->∀xe Z,Passes (CXW B.P B.w (B.G.ca c)) (X.wish xe) (λ_ _ H'=>Z H')->Mades (X.wish xe) (B.G.ca c) Z->PSs (X.wish xe) st (tFX B.G Z f)
class Xn(B:Bz)(y:Str)(c:outParam Nat):Prop where p:XC B.G.K (B.G.ca c)/\B.mg y=some (.ref (B.G.ca c))
class Dx(B:Bz)(j:outParam Nat)(x:Str)(c:Nat)(g:List D->Option Bool):Prop where p:∃ps f fd,B.mg x=some (.ref f)/\W.keepIn B.G.K (.ref f)=true/\Binds B.G.K fd ps []/\qx B.P B.w B.G.K B.mg B.base (CXW B.P B.w (B.G.ca c)) j f fd ps (spX B.G g)
class Kx(B:Bz)(j:outParam Nat)(x:Str)(c0:outParam Nat)(c:Nat)(g:List D->Option (Option (List Str×List D))):Prop where p:∃ps f fd,Mk B.G.K (B.G.ca c0) f/\B.mg x=some (.ref (B.G.ca c0))/\Binds B.G.K fd ps []/\qx B.P B.w B.G.K B.mg B.base (CXW B.P B.w (B.G.ca c)) j f fd ps (spXI B.G c0 g)
class Bx(X:Cx):Prop where
 n:∀e s,¬X.xe e s
 st:X.stack=X.env::X.outer
 fm:X.env.frame=some X.env.locals
instance inBx {P:aq}{w:aj}{K:W.Frag}{mg:Str->Option aa}{base:Heap}{N:List Str}{qual:Str}{st:Stmt}{f:Addr}{cdv:aa}{A:au}{outer:List Env}{s:ae}{H:Hp}{E:XK}:Bx (vo P w K mg base N qual st f cdv A outer s H E):=⟨λ_ _ z=>z,rfl,rfl⟩
section
variable{X:Cx}{B:Bz}{k j c c0:Nat}{x y:Str}{e:Expr}{es:List Expr}{p p2 p3 pos pos2 pos3 hp:Pos}{a:FA}{st b0:Stmt}{sts sts' suite:List Stmt}{fs fs' fh:FS}{ft:FT}
theorem zr_xU(h:ZS X B st fs):ZX X B c st (sNb fs):=⟨λn xe Z _ _=>pfx_up (h.p.lift n)⟩
theorem zr_yI(h1:ZX X B c st fs)(h2:ZY X B c sts fs'):ZY X B c (st::sts) (og fs fs'):=⟨λn xe Z q r=>pfx_cons (h1.p n xe Z q r) (h2.p n xe Z q r)⟩
theorem zr_y1(h1:ZX X B c st fs):ZY X B c [st] fs:=⟨λn xe Z q r=>wQ (h1.p n xe Z q r)⟩
theorem zr_y0:ZY X B c [] o3:=⟨λn xe Z q r=>pfx_nil⟩
theorem zr_xI(h:ZT X B e ft)(h1:ZY X B c sts fs)(h2:ZY X B c sts' fs'):ZX X B c (.If e sts sts' pos) (sIf ft fs fs'):=⟨λn xe Z q r=>pfx_if (h.p.lift n) (h1.p n xe Z q r) (h2.p n xe Z q r)⟩
section
variable(hg:Gz X x)(hd:Dz x)(hs:Sz X e es)(hl:Lz X pos es)
include hg hd hs hl
theorem zr_xR [C:Cz X B k][Q:Xn B x c](ha:ZA X B (e::es) a):ZX X B c (.Raise (some (.Call (.Name x p) (e::es) [] pos)) none pos2) (sRz a):=
 ⟨λn xe Z q r=>pfx_raise (ps_raise (X:=X.wish xe) (by show XC X.K _;rw[C.K];exact Q.p.1) C.c (by show X.mg x=_;rw[C.mg];exact Q.p.2) r (ha.p.lift n) hg hd hs hl)⟩
theorem zr_xC{g:List D->Option Bool}[C:Cz X B k][Q:Dx B j x c g](ha:ZA X B (e::es) a)(hj:aP j k=true)(hw:bu (.Call (.Name x p) (e::es) [] pos) none pos2.line X.env=pure false):ZX X B c (.Expr (.Call (.Name x p) (e::es) [] pos) pos2) (sXp g a):=by refine⟨λn xe Z q r=>?_⟩;have Q':=Q.p;rw[<-C.P,<- C.w,<- C.K,<- C.mg,<- C.b]at Q';rw[<-C.P,<- C.w]at q;obtain⟨ps,f,fd,h1,h2,h3,h4⟩:=Q';exact pfx_call (Bp (yQ (X:=X.wish xe) (p:=p) (pos:=pos) h4 (C.r.mono (cm.mp hj)) hg h1 h2 h3 .nil q (ha.p.lift n) hd hs hl) hw)
theorem zr_tI{g:List D->Option (Option (List Str×List D))}[C:Cz X B k][Q:Xn B y c][R:Kx B j x c0 c g][b:Bx X](ha:ZA X B (e::es) a)(hh:∀v,ZB (X.caught v) B (b0::suite) fh)(hj:aP (j+1) k=true)(hg':Gz X y)(hd':Dz y)(hw:bu (.Call (.Name x p) (e::es) [] pos) none pos2.line X.env=pure false):
  ZS X B (.Try [.Expr (.Call (.Name x p) (e::es) [] pos) pos2] [.ExceptHandler (some (.Name y p2)) none (b0::suite) hp] [] [] pos3) (sTry g a fh):=by
 have R':=R.p;have Q':=Q.p;rw[<-C.P,<- C.w,<- C.K,<- C.mg,<- C.b]at R';rw[<-C.K,<- C.mg]at Q';obtain⟨ps,f,fd,h1,h2,h3,h4⟩:=R';exact⟨pfx_try (c:=c0) (ps_try (ds:=[]) b.st b.fm b.n Q'.1 hg' Q'.2 hd' h1 h4 (C.r.mono (cm.mp hj)) h3 .nil hg h2 ha.p hd hs hl hw λv=>(hh v).p)⟩
end
end
section
variable{B:Bz}[Y:Yb B]{x m qual:Str}{st s0:Stmt}{l:List Stmt}{k c c0 np n:Nat}{b:FS}{p:Str}{ps xs:List Str}{N:List Str}
abbrev Bdx(B:Bz)(N:List Str)(qual:Str)(st:Stmt)(l:List Stmt)(k c:Nat)(b:FS):Prop:=∀{f:Addr} {cdv:aa} {A:au} {outer:List Env} {s:ae} {H:Hp} {E:XK} [Cz (vo B.P B.w B.G.K B.mg B.base N qual st f cdv A outer s H E) B k],ZY (vo B.P B.w B.G.K B.mg B.base N qual st f cdv A outer s H E) B c l b
omit Y in
theorem Bdx.ok(h:Bdx B N qual st l k c b)(hl:oN st=l)(f:Addr)(cdv:aa)(A:au)(outer:List Env)(s:ae)(H:Hp)(E:XK)(hr:pJ k (A.deeper (envOfC qual (ot st) s.heap.objs.size f cdv))):
  PSs (cxW (B.G.ca c) B.P B.w B.G.K B.mg B.base N qual (ot st) f cdv A outer s H E) (oN st) (tFX B.G (λH'=>∀e,E e none H') b):=by
 subst hl;exact(@h f cdv A outer s H E ⟨rfl,rfl,rfl,rfl,rfl,rfl,hr⟩).p (λ_ _ z=>z) (cxW (B.G.ca c) B.P B.w B.G.K B.mg B.base N qual (ot st) f cdv A outer s H E).xe _ pass_body λpins σ H s a vs h' I hx z=>made_body I hx z
theorem gX4{g:List D->Option Bool}(hg:g=fnX np n b)(q:GD B.G.K x st)(hl:oN st=s0::l)(body:Bdx B (nmO st) x st (s0::l) k c b)(S:okO (nmO st) (psO st) st np n=true:=by kernel_rfl)(bd:Bds x x st (psO st):=by (repeat intro _);rfl):Dx B (k+1) x c g:=by obtain⟨f,fd,a,F⟩:=q;obtain⟨S1,S2,S3⟩:=okk S;refine⟨psO st,f,fd,Y.y.g a,F.kp,bd.ok F,?_⟩;subst hg S2 S3;obtain⟨oc,od,kV,doc,pm,an,cdv,ct,osl,rfl,lk,hcd⟩:=F.ex;exact AC lk hcd S1 (len_X λds d h=>(fnX_some h).1) λA outer s H vs Q E hr hsp=>⟨_,body.ok hl f cdv A outer s H E hr,entry_X (by have:=aS cj S1.pre;rw[aZ]at this;omega) hsp⟩
theorem gX5(N:List Str){g:List D->Option Bool}(hg:g=fnX np n b)(q:GD B.G.K x st)(hl:oN st=s0::l)(body:Bdx B N x st (s0::l) k c b)(S:okO N (psO st) st np n=true:=by kernel_rfl)(bd:Bds x x st (psO st):=by (repeat intro _);rfl):Dx B (k+1) x c g:=by obtain⟨f,fd,a,F⟩:=q;obtain⟨S1,S2,S3⟩:=okk S;refine⟨psO st,f,fd,Y.y.g a,F.kp,bd.ok F,?_⟩;subst hg S2 S3;obtain⟨oc,od,kV,doc,pm,an,cdv,ct,osl,rfl,lk,hcd⟩:=F.ex;exact AC lk hcd S1 (len_X λds d h=>(fnX_some h).1) λA outer s H vs Q E hr hsp=>⟨_,body.ok hl f cdv A outer s H E hr,entry_X (by have:=aS cj S1.pre;rw[aZ]at this;omega) hsp⟩
theorem gXI4{g:List D->Option (Option (List Str×List D))}(C:CF B.G.K (B.G.ca c0) xs)(a:W.nsIn B.G.K az x=some (some (.ref (B.G.ca c0))))(hg:g=fnXI c0 np n b)(q:GM B.G.K (B.G.ca c0) "__init__" qual st)(hl:oN st=s0::l)(hp:psO st=p::ps)(body:Bdx B (nmO st) qual st (s0::l) k c b)(S:okO (nmO st) (p::ps) st (np+1) n=true:=by kernel_rfl)(bd:Bds "__init__" qual st (p::ps):=by (repeat intro _);rfl):Kx B (k+1) x c0 c g:=by obtain⟨f,fd,i,i',F⟩:=q;obtain⟨S1,S2,S3⟩:=okk S;refine⟨p::ps,f,fd,⟨C.mks,i,i',C.kp⟩,Y.y.g a,bd.ok F,?_⟩;obtain rfl:ps.length=np:=fj S2;subst hg S3;obtain⟨oc,od,kV,doc,pm,an,cdv,ct,osl,rfl,lk,hcd⟩:=F.ex;exact AC lk hcd S1 (len_XI λds d h=>(fnXI_some h).1) λA outer s H vs Q E hr hsp=>⟨_,body.ok hl f cdv A outer s H E hr,entry_XI (by have:=aS cj S1.pre;rw[aZ,aB]at this;omega) hsp⟩
end
end L4
namespace L4
open PySem PySem.Spec PySem.Calls PyProof.Rows PySem.W L2 L3
theorem uqP_K{κ α:Type}[DecidableEq κ]:∀(l acc:List (κ×α)),(l.foldl ust acc).map aX=(l.map aX).foldl (λacc k=>if k∈acc then acc else acc++[k]) (acc.map aX)
 |[],_=>rfl
 |q::l,acc=>by rw[cb,uqP_K l,aT,cb];congr 1;unfold ust;split<;>simp
section
variable{X:Cx}{G:Bg}
def SrcU(K:W.Frag)(H:Hp)(a:Addr)(n:Nat):Prop:=NB K H a n\/
 ∃L:List (List Str×Addr),SqL K H a (L.map λq=>V.ref q.2)/\L.length<=40/\(∀q∈L,∃p r,q.1=[p,r]/\SqT K H q.2 [.str p,.str r])/\n=(uqP L).length
theorem uqP_le{κ α:Type}[DecidableEq κ]:∀(l acc:List (κ×α)),(l.foldl ust acc).length<=acc.length+l.length
 |[],_=>ay _
 |q::l,acc=>by
  have h:=uqP_le l (ust acc q);have h2:(ust acc q).length<=acc.length+1:=by unfold ust;split<;>simp
  rw[cb,aB];omega
theorem set_U2:NC X SrcU:=by
 intro pins σ H s A E Q a n I hh hu hq h;rcases hq with hq|⟨L,h1,h8,ht,rfl⟩
 ·exact QA I hh hu hq h
 ·have hl:(uqP L).length<=40:=bz (uqP_le L []) (by rw[bV];omega);refine Rv I hh hu (.inl h1) (by omega) ht λh2 k2 o es ep t x kk=>?_;refine h h2 k2 ⟨o,es,ep,t,x.at_,x.ex,x.d,?_,x.fits (ar _),x.sz.trans (ar _)⟩ kk;rw[x.sz,ar];unfold scanBound;omega
def pairsU(ds:List D):Option D:=match yi ds with
 |some ks=>if ds.length<=40 then some (.int (uqK ks).length)else none
 |none=>none
theorem pairs_U(hK:X.K=G.K):∀{ds d H1 H1' a xs},pairsU ds=some d->SqL X.K H1' a xs->n8 G H1 ds xs->oh H1 H1'->∃n:Nat,SrcU X.K H1' a n/\d=.int n:=λ{ds d H1 H1' a xs} e hq h2 s=>by
 unfold pairsU at e;cases e2:yi ds with
 |none=>simp only[e2]at e;cases e
 |some ks=>
  simp only[e2]at e;split at e
  ·rename_i hc;cases e;obtain⟨L,rfl,rfl,h3⟩:=EI h2 e2;have hl:=n9 h2;rw[ar]at hl;refine⟨_,.inr ⟨L,hq,by omega,λq hq=>?_,rfl⟩,?_⟩
   ·obtain⟨p,r,e,h4⟩:=h3 q hq;rw[<-hK]at h4;exact⟨p,r,e,SqT.mono s h4⟩
   ·have:=aS cj (uqP_K L []);rw[ar]at this;show D.int _=D.int _;rw[show (uqP L).length=_ from this];rfl
  ·cases e
end
section
variable{X:Cx}{B:Bz}{k:Nat}{e:Expr}{f:FE}{p p2 p3 pos:Pos}
theorem zr_l2I [C:Cz X B k][N:Nb B "len"][N':Nb B "set"](hs:S1 X e)(hg:Gz X "len")(hg':Gz X "set")(ha:ZE X B e f)(z:ao [Expr.Call (.Name "set" p2) [e] [] p3] X.env=[(false,eval (.Call (.Name "set" p2) [e] [] p3) X.env)]):ZE X B (.Call (.Name "len" p) [.Call (.Name "set" p2) [e] [] p3] [] pos) (c1 (vv pairsU) f):=⟨DN C.K .inl (pairs_U C.K) (F3 set_U2 C.r.units C.c hg (C.mg▸N.p) hg' (C.mg▸N'.p) ha.p z hs)⟩
end
section
variable{X:Cx}{G:Bg}
def rEqN(K:W.Frag)(r:R2):R2:=λx y H Q=>(∃a b xs,x=.ref a/\y=.ref b/\H a=some (.lst xs)/\H b=some (.lst [])/\xs≠[]/\Q (.bl false) H)\/r x y H Q
theorem op_eqN{r:R2}(hu:X.A.units+64<cLine)(h0:OpR X (aI .Eq) r):OpR X (aI .Eq) (rEqN X.K r):=by
 intro pins s σ H x y v u Q I rx ry h;rcases h with ⟨a,b,xs,rfl,rfl,ha,hb,hn,q⟩|h
 ·cases rx;cases ry;obtain⟨its,r1,p,_⟩:=I.list (.inl (.inl ha));obtain⟨its',r2,p',_⟩:=I.list (.inl (.inl hb));cases r2;refine iW p.isList p'.isList ?_ (by omega) (oQ I q rfl);cases r1 with
  |nil=>exact ak rfl hn
  |cons _ _=>simp
 ·exact h0 pins s σ H x y v u Q I rx ry h
def dEqN:D->D->Option D
 |.lst (_::_),.lst []=>some (.bl false)
 |x,y=>dEq false x y
theorem od_eqN{r:R2}(h0:OpD G r (dEq false)):OpD G (rEqN G.K r) dEqN:=λx y z H0 H v u Q e s rx ry k=>by
 unfold dEqN at e;split at e
 ·cases e;have rx:=Rep.mono s _ _ rx;have ry:=Rep.mono s _ _ ry;unfold Rep at rx ry;obtain⟨a,xs,rfl,h1,h2⟩:=rx;obtain⟨b,ys,rfl,h3,h4⟩:=ry;unfold n8 at h2 h4;subst h4;obtain⟨_,_,rfl,_⟩:=h2;exact .inl ⟨a,b,_,rfl,rfl,h1,h3,(by intro z;cases z),k _ λ_ _=>qh _⟩
 ·exact .inr (h0 x y z H0 H v u Q e s rx ry k)
instance inN9:CmC .Eq dEqN:=⟨λX G h u=>by
 obtain⟨r,o1,o2⟩:=in9.p X G h u;exact⟨rEqN G.K r,by rw[<-h];exact op_eqN u o1,od_eqN o2⟩⟩
end
end L4
namespace L2
open PySem PySem.Spec PyProof.Rows PySem.W PySem.Calls Builtin Builtin.ObjectAttr Builtin.Getset_descriptor
def ExcAt(x D:Addr)(h:Heap):Prop:=∃o,h.get? x=some o/\o.cls=.ref D
structure XF(K:Frag)(D:Addr):Prop where
 ga:findIn K (.ref D) "__getattribute__" = some (some (.builtin "BaseException.__getattribute__"))
 gt:findIn K (.ref D) "__getattr__" = some none
 ci:(clsIn K D).isSome=true
 ha:findIn K (.ref D) "__class__" = some (some (.builtin "object.__class__"))
 hn:specialIn K (.builtin "object.__class__") "__get__" = some (some (.builtin "getset_descriptor.__get__"))
 htk:takesIn K (.builtin "object.__class__")=some true
 hm:mroIn K D (.type "object")=some true
 hb:mroIn K D (.type "BaseException")=some true
section
variable{prog:aq}{w:aj}{A:au}{E:aa->ae->Prop}{s:ae}{K:Frag}{x D:Addr}{tp nv:aa}{tk:Tok}
theorem excAt_ty{M:cO}{h:Heap}(p:ExcAt x D h):eF M h (typeOf (.ref x)) (.ref D):=by obtain⟨o,h1,h2⟩:=p;exact h2▸(lr h1).andThen .now
theorem xc_get{R:bU->ae->Prop}(Zf:XF K D)(X:K.In s.heap)(I:ExcAt x D s.heap)(h:R (.ok (.ret (.ref D))) s):bB (model prog w) A (.call (.builtin "getset_descriptor.__get__") ⟨[.builtin "object.__class__", .ref x,tp],[]⟩) R s:=by
 obtain⟨hh,g,dr,t,os⟩:=s;have L0:=excAt_ty (M:=model prog w) I;have L1:=looks_mroIn (M:=model prog w) X Zf.hm;refine fI lj.plain KF.entry_gs (lj.check _ _ _ _ _ _ _ _ KF.type_class (KF.args_gs _ _ _) ?_);unfold eA.«getset_descriptor.__get__» descrGet;rw[dga_obj];refine ai (aw ?_);unfold descrGetter descrCheckInstance descrNameAndClass isInstance;simp only[KF.owner_class]
 repeat lk
 refine⟨jF _ (by decide +kernel),dF KF.entry_class ?_⟩;unfold eA.«object.__class__» shownTypeOf
 repeat lk
 exact h
theorem xc_find{M:cO}{h:Heap}(Zf:XF K D)(X:K.In h):eF M h (find (.ref x) (.ref D) "__class__") (.bind (.builtin "getset_descriptor.__get__") (.builtin "object.__class__")):=
 (gz X Zf.ha).andThen ((show eF M h (getOf (some (.builtin "object.__class__"))) (some (.builtin "getset_descriptor.__get__")) from looks_specialIn X Zf.hn).andThen
  ((show eF M h (dataDescriptor? (some (.builtin "object.__class__")) (some (.builtin "getset_descriptor.__get__"))) (some (.builtin "getset_descriptor.__get__", .builtin "object.__class__")) from(looks_takesIn X Zf.htk).andThen .now).andThen (Looks.tag .now)))
theorem xc_check{M:cO}{Q:Unit->ae->Prop}(Zf:XF K D)(X:K.In s.heap)(I:ExcAt x D s.heap)(hq:Q () s):af M A (checkBuiltinCall "BaseException.__getattribute__" ⟨[.ref x,nv],[]⟩) Q E s:=by
 obtain⟨hh,g,dr,t,os⟩:=s;have L0:=excAt_ty (M:=M) I;have L1:=looks_mroIn (M:=M) X Zf.hb;have hk:builtinKind "BaseException.__getattribute__" = some .slot:=by decide +kernel
 have hsplit:splitId "BaseException.__getattribute__" = some ("BaseException", "__getattribute__"):=by decide +kernel
 have ha:=F.args_bexc_ga (.ref x) nv;simp only[checkBuiltinCall,hk,hsplit];refine ai ?_;unfold isInstance
 repeat lk
 exact hq
theorem xc_entry{Q:Fin->ae->Prop}(Zf:XF K D)(X:K.In s.heap)(I:ExcAt x D s.heap)(hq:Q (.done (.ret (.ref D))) s):af (model prog w) A (eA.«object.__getattribute__» ⟨[.ref x,.str "__class__" tk],[]⟩) Q E s:=by obtain⟨hh,g,dr,t,os⟩:=s;have L0:=excAt_ty (M:=model prog w) I;have L1:=xc_find (M:=model prog w) (x:=x) Zf X;refine ai (aw (ai (aw (ai (L0.at (ai (L1.at ?_)))))));show af _ _ (holding [.builtin "object.__class__"] (call (.builtin "getset_descriptor.__get__") [.builtin "object.__class__", .ref x,.ref D])>>=ret) _ _ _;exact ai (bC (c9 (xc_get Zf X I (aw hq))))
theorem xc_call{R:bU->ae->Prop}(Zf:XF K D)(X:K.In s.heap)(I:ExcAt x D s.heap)(hq:R (.ok (.ret (.ref D))) s):bB (model prog w) A (.call (.builtin "BaseException.__getattribute__") ⟨[.ref x,.str "__class__" tk],[]⟩) R s:=
 fI js.ga.plain F.entry_bexc_ga (xc_check Zf X I (xc_entry Zf X I hq))
theorem xc_class{Q:Option aa->ae->Prop}(Zf:XF K D)(X:K.In s.heap)(I:ExcAt x D s.heap)(hq:Q (some (.ref D)) { s with toks:=s.toks+1 }):af (model prog w) A (getAttr? (.ref x) "__class__") Q E s:=by obtain⟨hh,g,dr,t,os⟩:=s;have L0:=excAt_ty (M:=model prog w) I;have L1:=gz (M:=model prog w) X Zf.ga;have L2:=gz (M:=model prog w) X Zf.gt;unfold getAttr? getAttrBy? getAttrBy;refine ai (wpAny_mkText (ai (kL (bC (ai (L0.at (ai (L1.at ?_))))))));show af _ _ (getAttrByItsOwn _ _ _ _ _ _) _ _ _;unfold getAttrByItsOwn;refine ai (L2.at (ai (kL (bC ?_))));show af _ _ (boundAndCalled _ _ _) _ _ _;unfold boundAndCalled;rw[js.ga.bind (.ref x)];refine ai (aw (c9 (xc_call (s:=⟨hh,g,dr,t+1,os⟩) Zf X I ?_)));exact aw (aw hq)
theorem kitx_exc(Zf:XF K D):KitX K (.ref x) (.ref D) (ExcAt x D) where
 ty:=λM h X I=>excAt_ty I
 it:=λM h X I=>by
  obtain⟨cd,hc⟩:=gv.mp Zf.ci;unfold clsIn at hc;split at hc
  ·rename_i ho;intro A' Q' E' s' k q;unfold isType loadHead;exact ai (km (k _ _ (X _ _ ho)) (aw q))
  ·cases hc
 ne:=λh tp dd its n sl X htp=>by
  obtain⟨cd,hc⟩:=gv.mp Zf.ci;refine gZ.mpr λq=>?_;cases Value.ref.inj (beq_iff_eq.mp q);unfold clsIn at hc;split at hc
  ·rename_i ho;cases (X _ _ ho).symm.trans htp
  ·cases hc
 ca:=λX I k=>xc_class Zf X I k
theorem call_isx{X:Cx}{pins:List (Addr×Obj)}{σ:St}{H:Hp}{c:aa}{b:Bool}{Q:aa->ae->Prop}(F:XF X.K D)(I:Inv X pins σ H s)(q:ExcAt x D s.heap)(e:kitOne X.K (.ref D) c=some b)(h:∀tk,Q (.bool b) { s with toks:=tk }):
  af (model X.prog X.w) A (call (.builtin "isinstance") [.ref x,c]) Q E s:=lu (kitx_exc F) I.kIn q e (λz=>nomatch z) h
end
end L2
namespace L2
open PySem PySem.Spec PyProof.Rows PySem.W
theorem ObjOk.there{P:aq}{w:aj}{H:Hp}{h:Heap}{a:Addr}:∀{o:HO},ObjOk P w H h a o->∃u,h.get? a=some u
 |.lst _,x=>by obtain⟨_,_,_,_,e⟩:=x;exact⟨_,e⟩
 |.tup _,x=>by obtain⟨_,_,_,o,e,_⟩:=x;exact⟨_,e⟩
 |.dK _,x=>by obtain⟨_,_,_,_,o,_,_,e,_⟩:=x;exact⟨_,e⟩
 |.dT _,x=>by obtain⟨_,_,_,_,o,_,_,e,_⟩:=x;exact⟨_,e⟩
 |.set _ _,x=>by obtain⟨o,_,_,_,e,_⟩:=x;exact⟨_,e⟩
 |.ins _ _ _,x=>by obtain⟨_,_,_,e,_⟩:=x;exact⟨_,e⟩
 |.own _,x=>x
 |.xd _,x=>by obtain⟨_,⟨_,_,_,e,_⟩,_⟩:=x;exact⟨_,e⟩
 |.rng _ _,x=>by obtain⟨_,_,_,e⟩:=x;exact⟨_,e⟩
 |.frz _ _,x=>⟨_,x.1⟩
 |.tbl _,x=>⟨_,x⟩
 |.met _ _,x=>⟨_,x⟩
 |.ext _,x=>x.2.1
abbrev Cx.caughtAs(X:Cx)(a:Addr)(ob:Obj):Cx:={ X with A:=X.A.mark (some (.ref a)),calm:=false,pn:=(a,ob)::X.pn,xe:=λ_ _=>False }
section
variable{X:Cx}{pins:List (Addr×Obj)}{σ:St}{H:Hp}{s:ae}{a:Addr}{ob:Obj}
theorem Inv.caughtAs(I:Inv X pins σ H s)(h1:s.heap.get? a=some ob)(h2:H a=none)(h3:a≠X.env.locals)(h4:a∉X.fs)(h5:∀v,ob.data≠.cell v):Inv (X.caughtAs a ob) pins σ H s:=
 ⟨⟨I.ok.mod,I.ok.kind,I.ok.glob,I.ok.blt,I.ok.above,I.ok.inj,I.ok.has,I.ok.cab,(λz=>by cases z),I.ok.frames,I.ok.stk,I.ok.exf,I.ok.bs,I.ok.bsz,I.ok.noex,I.ok.exfs,I.ok.funs,I.ok.frf⟩,I.os,I.bare,I.base,I.loc,I.cell,I.free,I.freeC,
  λp hp=>(aN.mp hp).elim (λz=>by subst z;exact⟨h1,h2,h3,h4,h5⟩) (λz=>I.pin p z),I.hok,I.len⟩
theorem Inv.uncaughtAs(ok:X.Ok)(I:Inv (X.caughtAs a ob) pins σ H s):Inv X pins σ H s:=⟨ok,I.os,I.bare,I.base,I.loc,I.cell,I.free,I.freeC,λp hp=>I.pin p (aM _ hp),I.hok,I.len⟩
theorem goes_ok{M:cO}{A:au}{E:aa->ae->Prop}{i:Nat}{n:Str}{pos:Pos}{Q:Unit->ae->Prop}(I:Inv X pins σ H s)(hN:X.N.Nodup)(hi:X.N[i]?=some n)(hk:X.env.scope.names.lookup n=some .local)
  (h:∀s',Inv X pins (σ.set i none) H s'->Q () s'):af M A (do bindName X.env n .none;unbindBehindTheSuite X.env n pos) Q E s:=by
 obtain⟨m,hn,hl⟩:=id I.loc;have hcls:(X.env.scope.kind==.class||(X.env.scope.kind==.module&&X.env.locals != X.env.globals))=false:=by rw[I.ok.kind];rfl
 refine wpAny_nameGoes_keeps hk hn hcls λh' v hn' hs=>?_;have lo:∀b o,X.s₀.heap.get? b=some o->b≠X.env.locals:=λb o e=>aG (bD (aA e) I.ok.above);refine h _ ⟨I.ok,I.os,I.bare,⟨λb o e n hb hx=>(hs.2 b (lo b o e)).trans (I.base.keep b o e n hb hx),λb o e n hb hx=>?_,I.base.free,λb o e hx=>?_,I.base.tups,I.base.frzs,I.base.tbls⟩,⟨_,hn',λj y v' e1 e2 e3=>?_⟩,λy c e=>?_,I.free,I.freeC,λp hp=>?_,λb ob e=>?_,by simpa using I.len⟩
 ·obtain⟨sl,e1⟩:=I.base.slot b o e n hb hx;exact⟨sl,(hs.2 b (lo b o e)).trans e1⟩
 ·obtain⟨o',e1⟩:=I.base.there b o e hx;exact⟨o',(hs.2 b (lo b o e)).trans e1⟩
 ·by_cases hj:j=i
  ·subst hj;rw[bq]at e2;split at e2
   ·split at e2<;>cases e2
   ·rename_i z;exact ak rfl z
  ·rw[cD (bP hj)]at e2;obtain⟨u',r',q⟩:=hl j y v' e1 e2 e3;refine⟨u',r',?_⟩;rcases q with ⟨k,e⟩|⟨k,c,e,z⟩
   ·have ny:y≠n:=λe=>hj (yY hN e1 (e▸hi));exact .inl ⟨k,by simp[ny,e]⟩
   ·exact .inr ⟨k,c,e,z.sameBut hs (I.cne y c e)⟩
 ·obtain⟨w',z⟩:=I.cell y c e;exact⟨w',z.sameBut hs (I.cne y c e)⟩
 ·obtain⟨e,n,ne,nf,d⟩:=I.pin p hp;exact⟨(hs.2 p.1 ne).trans e,n,ne,nf,d⟩
 ·refine(I.hok b ob e).stay (λc w' hc q=>(hs.2 c ?_).trans q) (λ_ q=>q) λ_ _ q=>q;rintro rfl;rcases hc with rfl|hc
  ·rw[I.free]at e;cases e
  ·rw[I.free]at hc;cases hc
end
section
variable{X:Cx}{k i:Nat}{f C:Addr}{fd:aW}{ps:List Str}{sp:Sp}{dvs:List V}{ds:List aa}{E:XK}{x y n:Str}{p np pos pos1 pos2 hp:Pos}{e:Expr}{es:List Expr}{t:TA}{b0:Stmt}{suite:List Stmt}{th:Addr->TS}
theorem ps_tryAs(hst:X.stack=X.env::X.outer)(hfm:X.env.frame=some X.env.locals)(hn0:∀e s,¬X.xe e s)(q:XC X.K C)(hg':Gl X y)(hm':X.mg y=some (.ref C))(hdb':(y==("__debug__" : Str))=false)
  (hN:X.N.Nodup) (hi:X.N[i]?=some n) (hl:X.env.scope.names.lookup n=some .local)
  (F:qx X.prog X.w X.K X.mg X.base (CXW X.prog X.w C) k f fd ps sp) (hr:pJ k X.A) (hb:Binds X.K fd ps ds) (hd:Vals dvs ds) (hg:Gl X x) (hm:X.mg x=some (.ref f)) (hk:W.keepIn X.K (.ref f)=true) (ha:PA X (e::es) t) (hdb:(x==("__debug__" : Str))=false)
  (he:ao (e::es) X.env=(false,eval e X.env)::ao es X.env) (hpl:(aK pos (ao es X.env)).any (·.1)=false) (hsw:bu (.Call (.Name x p) (e::es) [] pos) none pos1.line X.env=pure false) (hs:∀a ob,ob.cls=.ref C->PSs (X.caughtAs a ob) (b0::suite) (th a)):
  PS X (.Try [.Expr (.Call (.Name x p) (e::es) [] pos) pos1] [.ExceptHandler (some (.Name y np)) (some n) (b0::suite) hp] [] [] pos2) (λD σ H=>u9 sp dvs (λ_ _ H'=>∀a,th a { nx:=λσ' H''=>D.nx (σ'.set i none) H'',rt:=λ_ _=>False } (σ.set i (some (.ref a))) H') t σ H λ_ H1=>D.nx σ H1):=by
 intro pins s σ H D I h;refine j6 ?_;let XE:aa->ae->Prop:=λe s₁=>af (model X.prog X.w) X.A (noteFrame e X.env) (λ_ s₂=>af (model X.prog X.w) X.A (setFlight e none) (λ_ s₃=>af (model X.prog X.w) X.A (handleBy e X.env [.ExceptHandler (some (.Name y np)) (some n) (b0::suite) hp]) (SP X pins D) X.xe s₃) X.xe s₂) X.xe s₁;have key:af (model X.prog X.w) X.A (eval (.Call (.Name x p) (e::es) [] pos) X.env) (EP (X.wish XE) pins σ λ_ H1=>D.nx σ H1) XE s:=by
  refine cu (rH I hg hm ?_ hdb);refine W.callWith_K (h₀:=X.base) I.ok.mod.kin hk (thn ((ha.lift hn0) pos pins s σ H _ (I.wish XE) h) λus s1 ⟨vs,H1,I1,r,q1⟩=>⟨I1.kIn,?_⟩) he hpl;have r2:Vals (vs++dvs) (us++ds):=r.append hd;have hlen:(us++ds).length=ps.length:=by rw[<-r2.length];exact F.len _ _ _ _ q1
  refine c9 (cM (F.run X.A X.stack s1 H1 ⟨us,[]⟩ (us++ds) (vs++dvs) _ _ hr I1.unwish.env0 (hb s1 us I1.kIn hlen) r2 q1) λr s' hq=>?_);cases r with
  |ok fl=>
   cases fl with
   |ret u=>exact I1.after hq
   |next=>exact bA hq
   |brk=>exact bA hq
   |cont=>exact bA hq
  |error ev=>
   have J:=I1;obtain⟨a,H',rfl,fl,z⟩:=hq;obtain⟨B,a0,hf,hok,kb⟩:=fl.ex;have hfr:X.A.frames=some (X.env::X.outer):=by rw[<-hst];exact I.ok.frames
   have hf':iy B (X.env::X.outer) a (.ref C) a0 s'.heap:=by rw[<-hst];exact hf
   show XE _ _;refine kh hfr hfm hf' λh4 hh4 up4=>wpAny_landsW hh4 λh5 hf5 up5=>?_;have u5:=un_step kb hf.1 hf5.1 hf.2.2.1 (up4.trans up5) fl.un;have J5:=(J.call' (s':={ s' with heap:=h5 }) (ch:=[]) fl.os u5 (hok.kept hf5.1) fl.bare λ_ z=>nomatch z).unwish;refine jy (jk (rH (X:=X.caught (.ref a)) (J5.caught _) hg' hm' ?_ hdb')) (by intro q;cases q);obtain⟨bm,N,nm,qn,bs,hd,sn,sub,ab,col,dd,k0,k1,k2,k3,k5,mN,hC,hN',hni,T⟩:=(q.obj I.mod.kin).obj;have hbm:bm.contains (.type "BaseException")=true:=T.hasType (b:=true) rfl;obtain⟨ob,hob,hobc⟩:=hf5.there;refine iR (J5.bk _ _ hC) hob hobc hbm (codeAny_handlers_suite_as ?_);refine lands_againW hf5 λh6 hf6 up6=>?_;have u6:=un_step kb hf.1 hf6.1 hf.2.2.1 ((up4.trans up5).trans up6) fl.un;have J6:=(J.call' (s':={ s' with heap:=h6 }) (ch:=[]) fl.os u6 (hok.kept hf6.1) fl.bare λ_ z=>nomatch z).unwish;obtain⟨_,hBa,hff,oe,vs',T',oT,ts,hoe,⟨hcl,_⟩,hdt,_⟩:=id hf6;have hna:a∉frs (X.env::X.outer):=λhm=>by obtain⟨_,o,ho,hnf⟩:=hff.mem hm;rw[hoe]at ho;cases ho;exact hnf _ hdt
   have hHa:H' a=none:=by
    cases e:H' a with
    |none=>rfl
    |some o=>obtain⟨u,hu⟩:=(hok a o e).there;rw[hBa]at hu;cases hu
   have J6c:=J6.caughtAs hoe hHa (λz=>hna (cE.mpr ⟨X.env,aL,by rw[hfm,z]⟩)) (λz=>hna (by obtain⟨v,hv,ev⟩:=cE.mp z;exact cE.mpr ⟨v,aM _ hv,ev⟩)) (λv z=>by rw[hdt]at z;cases z);refine yZ (X:=X.caughtAs a oe) (v:=.ref a) J6c hN hi (.inl hl) rfl (λs7 J7=>?_) (.inr hl);refine bf (hs a oe hcl pins _ _ H' _ J7 (z a)) (λfl s8 hq=>?_) λ_ _ z=>z.elim;cases fl with
   |next=>obtain⟨σ',H2,J8,q8⟩:=hq;exact goes_ok (J8.uncaughtAs I.ok) hN hi hl λs9 J9=>⟨_,H2,J9,q8⟩
   |brk=>obtain⟨_,_,_,z⟩:=hq;exact z.elim
   |cont=>obtain⟨_,_,_,z⟩:=hq;exact z.elim
   |ret u=>obtain⟨_,_,_,_,_,z⟩:=hq;exact z.elim
 have key2:af (model X.prog X.w) X.A (exec (.Expr (.Call (.Name x p) (e::es) [] pos) pos1) X.env) (SP X pins D) XE s:=ig (thn key λv s1 ⟨x,H1,I1,r1,q1⟩=>⟨σ,H1,I1.unwish,q1⟩) I.quiet hsw;refine fR (thn key2 λf s1 q=>?_);cases f with
 |next=>exact dE (dE q)
 |ret v=>exact q
 |brk=>exact q
 |cont=>exact q
end
section
variable{X:Cx}
def rSlS:V->Option Int->Option Int->Hp->VK->Prop:=λx lo hi H Q=>∃t,x=.str t/\t.length<=av/\Q (.str (gn t lo hi)) H
theorem sl_S:SlR X rSlS:=by
 intro pins s σ H x v vl vu lo hi sl Q I rx hs pl pu h;obtain⟨t,rfl,hz,q⟩:=h;obtain⟨k,rfl⟩:=rx;refine⟨"str", _,F.slot_str_getitem.lookup,iF _ _ _,?_⟩;have fin:∀(l u:Option (Int×Tok)),s.heap.IsSlice sl l u none->Q (.str (gn t (l.map (·.1)) (u.map (·.1)))) H->af (model X.prog X.w) X.A (getItem (.str t k) (.ref sl)) (EP X pins σ Q) X.xe s:=λl u hs q=>wpAny_getItem_str_slice hs rfl (post_val_or_str ⟨bz (Txt.slice_le t (l.map (·.1)) (u.map (·.1))) hz,λt' k'=>⟨.str (gn t (l.map (·.1)) (u.map (·.1))),H,I.tok _,⟨t',rfl⟩,q⟩⟩)
 cases pl with
 |none=>cases pu with
  |none=>exact fin none none hs q
  |int j b=>exact fin none (some (j,b)) hs q
 |int i a=>cases pu with
  |none=>exact fin (some (i,a)) none hs q
  |int j b=>exact fin (some (i,a)) (some (j,b)) hs q
end
end L2
namespace L4
open PySem PySem.Spec PyProof.Rows L2 L3
section
variable{X:Cx}{G:Bg}
def cSlS(f:FE)(lo hi:FO):FE:=λρ=>match f ρ with
 |some (.str t,ρ1)=>if t.length<=1000 then match lo ρ1 with
  |some (l,ρ2)=>match hi ρ2 with
   |some (h,ρ3)=>some (.str (gn t l h),ρ3)
   |none=>none
  |none=>none
  else none
 |_=>none
theorem pf_sliceS{e:Expr}{f:FE}{lo hi:FO}(h:PE X e (tSl rSlS (tF G f) (tFO G lo) (tFO G hi))):PE X e (tF G (cSlS f lo hi)):=PE.weak h λσ H Q hh=>by
 obtain⟨F,ρ,H0,d,ρ',R,e,k⟩:=hh;unfold cSlS at e;split at e
 ·rename_i t ρ1 e1;split at e
  ·rename_i hz;rcases oB (f:=lo) (ρ:=ρ1)with e2|⟨l,ρ2,e2⟩<;>simp only[e2]at e
   ·cases e
   rcases oB (f:=hi) (ρ:=ρ2)with e3|⟨u,ρ3,e3⟩<;>simp only[e3]at e
   ·cases e
   cases e;refine⟨F,ρ,H0,_,ρ1,R,e1,λv H1 H1' s1 R1 r1=>⟨F,ρ1,H1,l,ρ2,R1,e2,λH2 H2' s2 R2=>⟨F,ρ2,H2,u,_,R2,e3,λH3 H3' s3 R3=>?_⟩⟩⟩;unfold Rep at r1;exact⟨t,r1,bz hz (by decide),k _ _ _ (s1.trans (s2.trans s3)) R3 (sV _)⟩
  ·cases e
 ·cases e
end
section
variable{X:Cx}{B:Bz}{k:Nat}{e:Expr}{f:FE}{p pos:Pos}
theorem zr_spS{lo hi:Option Expr}{fl fh:FO}(he:ZE X B e f)(hl:ZO X B lo fl)(hh:ZO X B hi fh):ZE X B (.Subscript e (.Slice lo hi none p) pos) (cSlS f fl fh):=⟨pf_sliceS (y9 sl_S he.p hl.p hh.p)⟩
end
def fnV(np n:Nat)(f:FS):List D->Option (Option D):=λds=>if ds.length=np then match f (stE n ds)with
 |some (.rt d _)=>some (some d)
 |some (.bk _)=>some none
 |_=>none
 else none
def dV(g:List D->Option (Option D)):List D->Option D:=λds=>match g ds with
 |some (some d)=>some d
 |_=>none
def sXm(c:Nat)(g:List D->Option (Option (List Str×List D)))(a:FA):FS:=λρ=>match a ρ with
 |some (ds,ρ')=>match g ds with
  |some (some (ns,es))=>some (.rt (.obj c ns es) ρ')
  |some none=>some (.bk ρ')
  |none=>none
 |none=>none
def sTryV(g:List D->Option (Option D))(a:FA)(i j:Nat)(bs:List D):FS:=λρ=>match a ρ with
 |some (ds,ρ')=>match g ds with
  |some (some _)=>some (.nx ρ')
  |some none=>match ρ'[i]? with
   |some .un=>some (.nx (ρ'.set j (.im (.lst bs))))
   |_=>none
  |none=>none
 |none=>none
def spV(G:Bg)(g:List D->Option (Option D)):Sp:=λvs H Q E=>∃H0 ds d,oh H0 H/\n8 G H0 ds vs/\g ds=some d/\
 (∀x,d=some x->∀v H0' H',oh H0 H0'->oh H0' H'->oh H H'->(∀b o,H0' b=some o->H0 b=some o\/H b=none)->Rep G H0' x v->Q v H')/\(d=none->∀e H',oh H H'->E e none H')
variable{np:Nat}
section
variable{X:Cx}{G:Bg}{Z:Hp->Prop}
theorem pfx_make{st:Stmt}{c:Nat}{g:List D->Option (Option (List Str×List D))}{a:FA}(h:PS X st (Mi (B4 (G.ca c) (spXI G c g) [] (λ_ _ H'=>Z H') (tFA G a)))):PS X st (tFX G Z (sXm c g a)):=PS.weak h λE σ H hh=>by
 obtain⟨F,ρ,H0,o,R,e,k,k2⟩:=hh;unfold sXm at e;rcases oB (f:=a) (ρ:=ρ)with e1|⟨ds,ρ',e1⟩<;>simp only[e1]at e
 ·cases e
 ·refine⟨F,ρ,H0,ds,ρ',R,e1,λxs H1 H1' s R' rs x dx hx hdx ne=>?_⟩;have hx2:(upd H1' dx (.own x)) x=none:=by rw[oo (λz=>ne z.symm)];exact hx
  have sx:oh H1' (upd (upd H1' dx (.own x)) x (.ins (G.ca c) dx [])):=(oq hdx _).trans (oq hx2 _);refine⟨x,dx,_,H1,ds,rfl,oi,R'.h0none hx,R'.sub.trans sx,by rw[bE];exact rs,?_⟩;cases e2:g ds with
  |none=>simp only[e2]at e;cases e
  |some r=>
   cases r with
   |none=>simp only[e2]at e;cases e;refine .inr ⟨rfl,λev H2' t3=>?_⟩;have t4:oh H1' H2':=λb o e=>t3 b o (sx b o e) (pz e hx);exact k σ H1 H2' s (R'.grow t4 (oh.refl _) (R'.sub.trans t4) (λb o e=>.inl e))
   |some q=>
    obtain⟨ns,es⟩:=q;simp only[e2]at e;cases e;refine .inl ⟨ns,es,rfl,λys dx' H2 H2' t1 t2 t3 fr h0 hp hl ry=>⟨rfl,?_⟩⟩;have t4:oh H1' H2':=λb o e=>t3 b o (sx b o e) (pz e hx);have fr1:∀b o,H2 b=some o->H1 b=some o\/H1' b=none:=λb o e=>by
     rcases fr b o e with q|q
     ·exact .inl q
     ·cases z:H1' b with
      |none=>exact .inr rfl
      |some u=>rw[sx b u z]at q;cases q
    have R2:=R'.grow t4 t1 t2 fr1;have hb:F.B x=none:=R'.bNone hx;have R3:=R2.freeze hp h0 hb (λi t ei to z=>R'.apart hx i t ei to z);refine k _ σ _ _ (s.trans (t1.trans (oq h0 _))) R3 ?_;unfold Rep;exact⟨x,dx',ys,rfl,oi,hl,n8.mono (oq h0 _) _ _ ry⟩
theorem fnV_some{n:Nat}{f:FS}{ds:List D}{r:Option D}(h:fnV np n f ds=some r):ds.length=np/\((∃d ρ,f (stE n ds)=some (.rt d ρ)/\r=some d)\/∃ρ,f (stE n ds)=some (.bk ρ)/\r=none):=by
 unfold fnV at h;split at h
 ·rename_i hl;refine⟨hl,?_⟩;split at h
  ·rename_i e;cases h;exact .inl ⟨_,_,e,rfl⟩
  ·rename_i e;cases h;exact .inr ⟨_,e,rfl⟩
  ·cases h
 ·cases h
theorem entry_V{N:List Str}{f:FS}{vs:List V}{H:Hp}{Q:VK}{E:XK}(hN:np<=N.length)(h:spV G (fnV np N.length f) vs H Q E):tFX G (λH'=>∀e,E e none H') f { nx:=λ_ H'=>Q .non H',rt:=Q } (L2.start N vs) H:=by
 obtain⟨H0,ds,d,s,r,e,k1,k2⟩:=h;obtain⟨hl,e'⟩:=fnV_some e;have R:=vT (N:=N) s r (by rw[<-n9 r,hl];exact hN);have fin:∀{σ':St} {ρ':List Sl} {H0' H':Hp},RelE G ⟨H0,H,[]⟩ σ' ρ' H0' H'->oh H H'/\oh H0' H'/\∀b o,H0' b=some o->H0 b=some o\/H b=none:=λR'=>⟨λb o e=>R'.keep b o e (by simp),R'.sub,R'.fr⟩;clear e;rcases e' with ⟨d',ρ,e,rfl⟩|⟨ρ,e,rfl⟩
 ·refine⟨_,_,H0,_,R,e,λv σ' H0' H' s' R' rv=>?_,λ_=>rfl⟩;obtain⟨h1,h2,h3⟩:=fin R';exact k1 _ rfl v H0' H' s' h2 h1 h3 rv
 ·refine⟨_,_,H0,_,R,e,λσ' H0' H' s' R' ev=>?_,λ_=>rfl⟩;exact k2 rfl ev H' (fin R').1
theorem len_V{g:List D->Option (Option D)}(hg:∀ds d,g ds=some d->ds.length=np):∀vs H Q E,spV G g vs H Q E->vs.length=np:=λvs H Q E h=>by obtain⟨H0,ds,d,_,r,e,_⟩:=h;rw[<-n9 r];exact hg _ _ e
theorem fn_calm{P:aq}{w:aj}{K:W.Frag}{mg:Str->Option aa}{base:Heap}{C:Addr}{k:Nat}{f:Addr}{fd:aW}{ps:List Str}{g:List D->Option (Option D)}(F:qx P w K mg base (CXW P w C) k f fd ps (spV G g)):qx P w K mg base CX0 k f fd ps (spF G (dV g)):=by
 have up:∀vs H Q E,spF G (dV g) vs H Q E->spV G g vs H Q λ_ _ _=>False:=λvs H Q E h=>by
  obtain⟨H0,ds,d,s,r,e,k⟩:=h;unfold dV at e;split at e
  ·rename_i e1;cases e;exact⟨H0,ds,_,s,r,e1,λx z=>by cases z;exact k,λz=>by cases z⟩
  ·cases e
 refine⟨λvs H Q E h=>F.len _ _ _ _ (up vs H Q E h),λA outer s H args us vs Q E hr he hb hv h=>cM (F.run A outer s H args us vs Q _ hr he hb hv (up vs H Q E h)) λr s' q=>?_⟩;cases r with
 |ok fl=>cases fl<;>exact q
 |error e=>obtain⟨_,_,_,_,z⟩:=q;exact z.elim
end
class Dv(B:Bz)(j:outParam Nat)(x:Str)(c:Nat)(g:List D->Option (Option D)):Prop where p:∃ps f fd,B.mg x=some (.ref f)/\W.keepIn B.G.K (.ref f)=true/\Binds B.G.K fd ps []/\qx B.P B.w B.G.K B.mg B.base (CXW B.P B.w (B.G.ca c)) j f fd ps (spV B.G g)
theorem Dv.df{B:Bz}{j c:Nat}{x:Str}{g:List D->Option (Option D)}(Q:Dv B j x c g):Df B j x (spF B.G (dV g)):=by obtain⟨ps,f,fd,h1,h2,h3,h4⟩:=Q.p;exact⟨ps,f,fd,h1,h2,h3,fn_calm h4⟩
section
variable{X:Cx}{B:Bz}{k j c c0:Nat}{x:Str}{e:Expr}{es:List Expr}{p pos pos2:Pos}{a:FA}
theorem zr_xM{g:List D->Option (Option (List Str×List D))}[C:Cz X B k][R:Kx B j x c0 c g](hg:Gz X x)(hd:Dz x)(hs:Sz X e es)(hl:Lz X pos es)(ha:ZA X B (e::es) a)(hj:aP (j+1) k=true):ZX X B c (.Return (some (.Call (.Name x p) (e::es) [] pos)) pos2) (sXm c0 g a):=by refine⟨λn xe Z q r=>?_⟩;have R':=R.p;rw[<-C.P,<- C.w,<- C.K,<- C.mg,<- C.b]at R';rw[<-C.P,<- C.w]at q;obtain⟨ps,f,fd,h1,h2,h3,h4⟩:=R';exact pfx_make (Bq (Eb (X:=X.wish xe) (p:=p) (pos:=pos) h1 h4 (C.r.mono (cm.mp hj)) hg h2 h3 .nil q (ha.p.lift n) hd hs hl))
end
section
variable{B:Bz}[Y:Yb B]{x:Str}{st s0:Stmt}{l:List Stmt}{k c np n:Nat}{b:FS}
theorem gV4{g:List D->Option (Option D)}(hg:g=fnV np n b)(q:GD B.G.K x st)(hl:oN st=s0::l)(body:Bdx B (nmO st) x st (s0::l) k c b)(S:okO (nmO st) (psO st) st np n=true:=by kernel_rfl)(bd:Bds x x st (psO st):=by (repeat intro _);rfl):Dv B (k+1) x c g:=by obtain⟨f,fd,a,F⟩:=q;obtain⟨S1,S2,S3⟩:=okk S;refine⟨psO st,f,fd,Y.y.g a,F.kp,bd.ok F,?_⟩;subst hg S2 S3;obtain⟨oc,od,kV,doc,pm,an,cdv,ct,osl,rfl,lk,hcd⟩:=F.ex;exact AC lk hcd S1 (len_V λds d h=>(fnV_some h).1) λA outer s H vs Q E hr hsp=>⟨_,body.ok hl f cdv A outer s H E hr,entry_V (by have:=aS cj S1.pre;rw[aZ]at this;omega) hsp⟩
end
end L4
namespace L2
open PySem PySem.Spec PyProof.Rows PySem.W
section
variable{X:Cx}{a C:Addr}{ob:Obj}{b b1 b2 b3 b4 b5 b6:Bool}{i j:Nat}{e1 e2 e3 e4 e5 e6:Expr}{o:Str}{q1 q2 q3 q4 q5 q6 q7 q8 q9 q10:Pos}
def tX(i:Nat)(a:Addr)(b:Bool):TE:=λσ H Q=>σ[i]?=some (some (.ref a))/\Q (.bl b) H
theorem callR_isx(F:XF X.K C)(hc:ob.cls=.ref C){cv:V}{c:aa}(hr:∀u,RelV cv u->u=c)(e:kitOne X.K (.ref C) c=some b):pM (X.caughtAs a ob) (.builtin "isinstance") (λxs H Q=>xs=[.ref a,cv]/\Q (.bl b) H):=λpins s σ H xs us Q I r h=>by
 obtain⟨rfl,q⟩:=h;cases r with
 |cons r1 r2=>cases r2 with
  |cons r2 r3=>cases r3;cases r1;obtain rfl:=hr _ r2;exact call_isx (X:=X.caughtAs a ob) F I ⟨ob,(I.pin (a,ob) aL).1,hc⟩ e λtk=>⟨.bl b,H,I.tok tk,rfl,q⟩
def tH(i j:Nat)(bs cs:List V)(a:Addr):TS:=λD σ H=>i≠j/\j<σ.length/\σ[i]?=some (some (.ref a))/\∀p,H p=none->∀p1,upd H p (.lst bs) p1=none->∀p2,upd (upd H p (.lst bs)) p1 (.lst cs) p2=none->
 D.nx (σ.set j (some (.ref p2))) (upd (upd (upd H p (.lst bs)) p1 (.lst cs)) p2 (.lst (bs++cs)))
theorem ps_suite(h1:PE X e1 (tX i a b1))(h2:PE X e2 (tX i a b2))(h3:PE X e3 (tX i a b3))(h4:PE X e4 (tX i a b4))(h5:PE X e5 (tX i a b5))(h6:PE X e6 (tX i a b6))
  (s1:∀es,ao (e1::es) X.env=(false,eval e1 X.env)::ao es X.env) (s2:∀es,ao (e2::es) X.env=(false,eval e2 X.env)::ao es X.env)
  (s3:∀es,ao (e3::es) X.env=(false,eval e3 X.env)::ao es X.env) (s4:∀es,ao (e4::es) X.env=(false,eval e4 X.env)::ao es X.env)
  (ho:X.N.Nodup/\X.N[j]?=some o/\L2.Loc X.env.scope o/\(X.fn o=true\/X.env.scope.names.lookup o=some .local)) (hv:PE X (.Name o q5) (um j))
  (w1:bu (.List [e1,e2,e3,e4] q2) (some (.Name o q1)) q3.line X.env=pure false) (w2:bu (.BinOp (.Name o q5) .Add (.List [.UnaryOp .Not e5 q6,.UnaryOp .Not e6 q7] q8) q9) (some (.Name o q4)) q10.line X.env=pure false):
  PSs X [.Assign [.Name o q1] (.List [e1,e2,e3,e4] q2) q3,.Assign [.Name o q4] (.BinOp (.Name o q5) .Add (.List [.UnaryOp .Not e5 q6,.UnaryOp .Not e6 q7] q8) q9) q10] (tH i j [.bl b1,.bl b2,.bl b3,.bl b4] [.bl !b5,.bl !b6] a):=by
 obtain⟨n1,n2,n3,n4⟩:=ho;have a4:PA X [e4] (u7 (tX i a b4) y8):=o5 h4 qK (s4 _);have t1:=De (pos:=q3) (pos':=q1) n1 n2 n3 (Bs (pos:=q2) (o5 h1 (o5 h2 (o5 h3 a4 (s3 _)) (s2 _)) (s1 _))) w1 n4;have t2:=De (pos:=q10) (pos':=q4) n1 n2 n3 (D7 (pos:=q9) GL hv (Bs (pos:=q8) (o5 (Dd (pos:=q6) h5) (o5 (Dd (pos:=q7) h6) qK rfl) rfl))) w2 n4;refine L4.PSs.weak (u4 t1 (wQ t2)) λD σ H zz=>?_;obtain⟨hij,hj,hi,k⟩:=zz;refine⟨hi,hi,hi,hi,(show 4<=av by decide),λp hp=>⟨_,dR hj,?_⟩⟩;have hi2:(σ.set j (some (V.ref p)))[i]?=some (some (V.ref a)):=by rw[cD (bP hij)];exact hi
 refine⟨hi2,b5,rfl,hi2,b6,rfl,(show 2<=av by decide),λp1 hp1=>⟨p,p1,[.bl b1,.bl b2,.bl b3,.bl b4],[.bl !b5,.bl !b6],rfl,rfl,?_,oi,(show 6<=av by decide),λp2 hp2=>?_⟩⟩
 ·rw[oo (λz=>by rw[<-z,oi]at hp1;cases hp1)];exact oi
 ·show D.nx ((σ.set j _).set j _) _;rw[kW];exact k p hp p1 hp1 p2 hp2
end
end L2
namespace L4
open PySem PySem.Spec PyProof.Rows L2 L3
class Xi(B:Bz)(c:Nat)(T:Str)(b:Bool):Prop where
 f:XF B.G.K (B.G.ca c)
 p:(∃d,B.mg T=some (.ref d)/\W.kitOne B.G.K (.ref (B.G.ca c)) (.ref d)=some b)\/∃t,B.mg T=none/\cf T=some (.type t)/\T≠"__name__" /\ W.kitOne B.G.K (.ref (B.G.ca c)) (.type t)=some b
section
variable{X:Cx}{G:Bg}{F:Fr}{σ:St}{ρ:List Sl}{H0 H:Hp}
theorem RelE.un(R:RelE G F σ ρ H0 H){i:Nat}(hi:ρ[i]?=some .un)(v:Option V):RelE G F (σ.set i v) ρ H0 H where
 sub:=R.sub
 g0:=R.g0
 keep:=R.keep
 fr:=R.fr
 am:=R.am
 len:=by rw[bZ];exact R.len
 sl:=λj s e=>by
  by_cases h:j=i
  ·subst h;rw[hi]at e;cases e;trivial
  ·rw[cD (bP h)];exact R.sl j s e
 ap:=λj k s t a n e1 e2 o1 o2 q1 q2=>by
  by_cases h:j=i
  ·subst h;rw[hi]at e1;cases e1;cases o1
  by_cases h':k=i
  ·subst h';rw[hi]at e2;cases e2;cases o2
  rw[cD (bP h)]at q1;rw[cD (bP h')]at q2;exact R.ap j k s t a n e1 e2 o1 o2 q1 q2
theorem pfs_tryV{st:Stmt}{g:List D->Option (Option D)}{a:FA}{i j:Nat}(hij:i≠j)(hj:j<X.N.length)(hi:i<X.N.length){b1 b2 b3 b4 b5 b6:Bool}
  (h:PS X st (λD σ H=>σ.length=X.N.length/\u9 (spV G g) [] (λ_ _ H'=>∀ad,tH i j [.bl b1,.bl b2,.bl b3,.bl b4] [.bl b5,.bl b6] ad { nx:=λσ' H''=>D.nx (σ'.set i none) H'',rt:=λ_ _=>False } (σ.set i (some (.ref ad))) H') (tFA G a) σ H λ_ H1=>D.nx σ H1)):
  PS X st (tFS G (sTryV g a i j [.bl b1,.bl b2,.bl b3,.bl b4,.bl b5,.bl b6])):=λpins s σ H D I hh=>h pins s σ H D I ⟨I.len,by
 obtain⟨F,ρ,H0,o,R,e,k,k2⟩:=hh;unfold sTryV at e;rcases oB (f:=a) (ρ:=ρ)with e1|⟨ds,ρ',e1⟩<;>simp only[e1]at e
 ·cases e
 ·refine⟨F,ρ,H0,ds,ρ',R,e1,λxs H1 H1' s R' rs=>?_⟩;cases e2:g ds with
  |none=>simp only[e2]at e;cases e
  |some d=>
   refine⟨H1,ds,d,R'.sub,by rw[bE];exact rs,e2,λx hd v H2 H2' s1 s2 s3 fr _=>?_,λhd ev H2' s3 ad=>⟨hij,by rw[bZ,I.len];exact hj,dR (by rw[I.len];exact hi),λp hp p1 hp1 p2 hp2=>?_⟩⟩
   ·subst hd;simp only[e2]at e;cases e;exact k σ H2 H2' (s.trans s1) (R'.grow s3 s1 s2 fr)
   ·subst hd;simp only[e2]at e;split at e
    ·rename_i hu;cases e;have R1:=((R'.grow s3 (oh.refl _) (R'.sub.trans s3) λb o e=>.inl e).newOwn hp (.lst [.bl b1,.bl b2,.bl b3,.bl b4])).newOwn hp1 (.lst [.bl b5,.bl b6]);have R2:=R1.newIm hp2 (.lst [.bl b1,.bl b2,.bl b3,.bl b4,.bl b5,.bl b6]);have rb:∀b,Rep G (upd H1 p2 (.lst [.bl b1,.bl b2,.bl b3,.bl b4,.bl b5,.bl b6])) (.bl b) (.bl b):=λb=>qh b;have R3:=R2.setIm j (d:=.lst [.bl b1,.bl b2,.bl b3,.bl b4,.bl b5,.bl b6]) (sU oi (oM (rb _) (oM (rb _) (oM (rb _) (oM (rb _) (oM (rb _) (oM (rb _) oO)))))));have R4:=R3.un (i:=i) (by rw[cD (bP hij)];exact hu) none;refine k _ (upd H1 p2 (.lst [.bl b1,.bl b2,.bl b3,.bl b4,.bl b5,.bl b6])) _ (s.trans (oq (R1.h0none hp2) _)) ?_;show RelE G F (((σ.set i _).set j _).set i none) _ _ _;rw[List.set_comm _ _ hij,kW];exact R4
    ·cases e⟩
end
section
variable{X:Cx}{B:Bz}{k c i:Nat}{n T:Str}{a:Addr}{ob:Obj}{b:Bool}{p1 p2 p3 p4:Pos}
theorem isxI [C:Cz X B k][N:Nb B "isinstance"][Q:Xi B c T b](hc:ob.cls=.ref (B.G.ca c))(gi:Gz X "isinstance")(hs:sees X i n=true)(g:Gz X T)(d:Dz T):
  PE (X.caughtAs a ob) (.Call (.Name "isinstance" p1) [.Name n p2,.Name T p3] [] p4) (tX i a b):=by
 have F:=Q.f;have Q':=Q.p;rw[<-C.K]at F Q';rw[<-C.mg]at Q';have hb:(X.caughtAs a ob).mg "isinstance" = none:=by show X.mg _=none;rw[C.mg];exact N.p
 rcases Q' with ⟨dd,q1,q2⟩|⟨t,q1,q2,q3,q4⟩
 ·refine PE.weak (rO (X:=X.caughtAs a ob) (callR_isx F hc (cv:=.ref dd) (λu r=>r) q2) gi hb eX (o5 (pvI (X:=X.caughtAs a ob) hs) (o5 (wO (X:=X.caughtAs a ob) (v:=.ref dd) g q1 rfl d) qK rfl) rfl) (by decide) (by decide) rfl rfl) λσ H Q hh=>?_;exact⟨_,hh.1,rfl,hh.2⟩
 ·refine PE.weak (rO (X:=X.caughtAs a ob) (callR_isx F hc (cv:=.ty t) (λu r=>r) q4) gi hb eX (o5 (pvI (X:=X.caughtAs a ob) hs) (o5 (D3 (X:=X.caughtAs a ob) (v:=.ty t) g q1 q2 rfl q3 d) qK rfl) rfl) (by decide) (by decide) rfl rfl) λσ H Q hh=>?_;exact⟨_,hh.1,rfl,hh.2⟩
end
section
variable{X:Cx}{B:Bz}{k j0 c i j:Nat}{x y n o T1 T2 T3 T4 T5 T6:Str}{e:Expr}{es:List Expr}{a:FA}{p p2 pos pos2 pos3 hp q1 q2 q3 q4 q5 q6 q7 q8 q9 q10 a1 a2 a3 a4 b1 b2 b3 b4 c1 c2 c3 c4 d1 d2 d3 d4 e1 e2 e3 e4 f1 f2 f3 f4:Pos}
theorem zr_tV{g:List D->Option (Option D)}[C:Cz X B k][Q:Xn B y c][R:Dv B j0 x c g][bx:Bx X][N:Nb B "isinstance"][I1:Xi B c T1 false][I2:Xi B c T2 false][I3:Xi B c T3 false][I4:Xi B c T4 false][I5:Xi B c T5 true][I6:Xi B c T6 true]
  (ha:ZA X B (e::es) a) (hg:Gz X x) (hd:Dz x) (hs:Sz X e es) (hl:Lz X pos es) (hj:aP j0 k=true) (hg':Gz X y) (hd':Dz y) (hw:bu (.Call (.Name x p) (e::es) [] pos) none pos2.line X.env=pure false)
  (hn:sets X i n=true) (hnl:X.env.scope.names.lookup n=some .local) (hns:sees X i n=true) (ho:sets X j o=true) (hos:sees X j o=true) (hij:eD i j=false) (gi:Gz X "isinstance")
  (g1:Gz X T1) (g2:Gz X T2) (g3:Gz X T3) (g4:Gz X T4) (g5:Gz X T5) (g6:Gz X T6) (z1:Dz T1) (z2:Dz T2) (z3:Dz T3) (z4:Dz T4) (z5:Dz T5) (z6:Dz T6)
  (w1:bu (.List [.Call (.Name "isinstance" a1) [.Name n a2,.Name T1 a3] [] a4,.Call (.Name "isinstance" b1) [.Name n b2,.Name T2 b3] [] b4,.Call (.Name "isinstance" c1) [.Name n c2,.Name T3 c3] [] c4,.Call (.Name "isinstance" d1) [.Name n d2,.Name T4 d3] [] d4] q2) (some (.Name o q1)) q3.line X.env=pure false)
  (w2:bu (.BinOp (.Name o q5) .Add (.List [.UnaryOp .Not (.Call (.Name "isinstance" e1) [.Name n e2,.Name T5 e3] [] e4) q6,.UnaryOp .Not (.Call (.Name "isinstance" f1) [.Name n f2,.Name T6 f3] [] f4) q7] q8) q9) (some (.Name o q4)) q10.line X.env=pure false):
  ZS X B (.Try [.Expr (.Call (.Name x p) (e::es) [] pos) pos2] [.ExceptHandler (some (.Name y p2)) (some n) [.Assign [.Name o q1] (.List [.Call (.Name "isinstance" a1) [.Name n a2,.Name T1 a3] [] a4,.Call (.Name "isinstance" b1) [.Name n b2,.Name T2 b3] [] b4,.Call (.Name "isinstance" c1) [.Name n c2,.Name T3 c3] [] c4,.Call (.Name "isinstance" d1) [.Name n d2,.Name T4 d3] [] d4] q2) q3,
   .Assign [.Name o q4] (.BinOp (.Name o q5) .Add (.List [.UnaryOp .Not (.Call (.Name "isinstance" e1) [.Name n e2,.Name T5 e3] [] e4) q6,.UnaryOp .Not (.Call (.Name "isinstance" f1) [.Name n f2,.Name T6 f3] [] f4) q7] q8) q9) q10] hp] [] [] pos3) (sTryV g a i j [.bl false,.bl false,.bl false,.bl false,.bl false,.bl false]):=by
 have R':=R.p;have Q':=Q.p;have hK:=C.K;rw[<-C.P,<- C.w,<- C.K,<- C.mg,<- C.b]at R';rw[<-C.K,<- C.mg]at Q';obtain⟨ps,f,fd,h1,h2,h3,h4⟩:=R';obtain⟨n1,n2,n3,n4⟩:=xc hn;obtain⟨m1,m2,m3,m4⟩:=xc ho;have hne:i≠j:=λz=>by subst z;rw[kM]at hij;cases hij
 refine⟨pfs_tryV hne (aV.mp m2).1 (aV.mp n2).1 (PS.weak (ps_tryAs (ds:=[]) bx.st bx.fm bx.n Q'.1 hg' Q'.2 hd' n1 n2 hnl h4 (C.r.mono (cm.mp hj)) h3 .nil hg h1 h2 ha.p hd hs hl hw λad ob hc=>
  ps_suite (X:=X.caughtAs ad ob) (b1:=false) (b2:=false) (b3:=false) (b4:=false) (b5:=true) (b6:=true) (isxI (c:=c) hc gi hns g1 z1) (isxI (c:=c) hc gi hns g2 z2) (isxI (c:=c) hc gi hns g3 z3) (isxI (c:=c) hc gi hns g4 z4) (isxI (c:=c) hc gi hns g5 z5) (isxI (c:=c) hc gi hns g6 z6) (λ_=>rfl) (λ_=>rfl) (λ_=>rfl) (λ_=>rfl) ⟨m1,m2,m3,m4⟩ (pvI (X:=X.caughtAs ad ob) hos) w1 w2) λD σ H hh=>hh.2)⟩
end
end L4
namespace K05x
open PySem L2 L3 L4
abbrev D:=L4.D
def top(i:Nat):Stmt:=PySem.Challenge.pw_tellworld_k05_worlds_at_their_bounds.main.body.getD i (.Pass ⟨0,0,0,0⟩)
def rA:Nat->Bool:=λc=>c==14
def vX:Nat->Bool:=λc=>c==13
def vz:Nat->Bool:=λc=>c==2
def AX:Nat->Bool:=λc=>c==9
def pP:Nat->Bool:=λc=>c==2
def r6:Nat->Bool:=λc=>c==14
def vA:Nat->Bool:=λc=>c==14
def pQ:Nat->Bool:=λc=>c==0||c==7
def vB:Nat->Bool:=λc=>c==1
def sY:Nat->Bool:=λc=>c==14
def oU:Nat->Bool:=λc=>c==0||c==1||c==2
def ES:Nat->Bool:=λc=>c==10
def AY:Nat->Bool:=λc=>c==10
def qo:Nat->Bool:=λc=>c==2
def vY:Nat->Bool:=λc=>c==3||c==11
def sZ:Nat->Bool:=λc=>c==13
def rD:Nat->Bool:=λc=>c==14
def uf:Nat->Bool:=λc=>c==14
def rE:Nat->Bool:=λc=>c==0||c==1
def rU:Nat->Bool:=λc=>c==3||c==4||c==5||c==6||c==7||c==11||c==12
def xT:Nat->Bool:=λc=>c==13
def vC:Nat->Bool:=λc=>c==13
def sI:Nat->Bool:=λc=>c==14
def xU:Nat->Bool:=λc=>c==6||c==12
def qp:Nat->Bool:=λc=>c==13
def tm:Nat->Bool:=λc=>c==14
def CT:Nat->Bool:=λc=>c==8
def qu:Nat->Bool:=λc=>c==0
def rJ:Nat->Bool:=λc=>c==14
abbrev QQ:Ty->Option Bool:=qO 16 3
abbrev IJ:Ty->Option Bool:=qO 16 10
abbrev LS:Ty->Option Bool:=qO 16 4
abbrev IK:Ty->Option Bool:=qO 16 7
abbrev LU:Ty->Option Bool:=qO 16 15
abbrev IL:Ty->Option Bool:=qO 16 1
abbrev CU:Ty->Option Bool:=qO 16 6
abbrev IM:Ty->Option Bool:=qO 16 11
abbrev LV:Ty->Option Bool:=qO 16 9
abbrev LW:Ty->Option Bool:=qO 16 12
abbrev DT:Ty->Option Bool:=qO 16 13
abbrev IP:Ty->Option Bool:=qO 16 5
abbrev ET:Ty->Option Bool:=qO 16 0
abbrev IQ:Ty->Option Bool:=qO 16 2
abbrev IR:Ty->Option Bool:=qO 16 8
def BW:L4.D:=(D.tup [(D.str "room"),(D.str "plain"),(D.str "fixed"),(D.str "box"),(D.str "lamp"),(D.str "you")])
def EU:L4.D:=(D.tup [(D.str "alone"),(D.str "one"),(D.str "two"),(D.str "way")])
def tu:L4.D:=(D.tup [(D.str "room"),(D.str "box"),(D.str "you")])
def tD:L4.D:=(D.tup [(D.str "box"),(D.str "lamp")])
def wg:L4.D:=(D.tup [(D.str "room"),(D.str "you")])
def vE:L4.D:=(D.int 8)
def vF:L4.D:=(D.int 12)
def zP:L4.D:=(D.tup [(D.str "it"),(D.str "other"),(D.str "here"),(D.str "the"),(D.str "a"),(D.str "undo"),(D.str "restart")])
def zQ:L4.D:=(D.tup [(D.str "the"),(D.str "a")])
def xg:L4.D:=(D.int 5)
def wm:L4.D:=(D.int 7)
def xh:L4.D:=(D.int 4)
def vG:L4.D:=(D.int 3)
def vH:L4.D:=(D.int 10)
def xi:L4.D:=(D.int 6)
def xj:L4.D:=(D.int 4)
def qb:L4.D:=(D.tup [(D.str "the"),(D.str "a"),(D.str "undo"),(D.str "restart")])
def xk:L4.D:=(D.int 5)
def xl:L4.D:=(D.int 4)
def yj:L4.D:=(D.int 4)
def xm:L4.D:=(D.int 60)
def tE:L4.D:=(D.int 3)
def xn:L4.D:=(D.int 20)
def sJ:FS:=(oJ (pj (c1 (pd (pN "str")) (cV 0)) (pj (rq uZ uZ (cC (.int 1)) (c1 uc (cV 0)) (cV 1)) (c1 rT (cL (oH 1 [] (iS (cV 0)) (gN 0) pE (rq Ht Ht (cS "a") (cV 0) (cS "z"))))))))
def qF:=fnD 2 2 sJ
def AZ:FS:=(oJ (pj (n6 qF (aCons (cV 0) (a1 (cC vE)))) (c2 (dIn true) (cV 0) (cC zP))))
def ug:=fnD 1 1 AZ
def A0:FS:=(oJ (pj (n6 qF (aCons (cV 0) (a1 (cC vF)))) (c2 (dIn true) (cV 0) (cC zQ))))
def px:=fnD 1 1 A0
def yk:FS:=(oJ (pj (c1 (pd (pN "str")) (cV 0)) (c2 (dIn false) (cV 0) (cV 1))))
def oR:=fnD 2 2 yk
def zR:FS:=(oJ (pj (c1 (pd (pN "int")) (cV 0)) (zj (c1 (pd (pN "bool")) (cV 0)))))
def uA:=fnD 1 1 zR
def uJ:FS:=(oJ (pj (c1 (pd (pN "list")) (cV 0)) (c2 uZ (c1 uc (cV 0)) (cV 1))))
def oZ:=fnD 2 2 uJ
def zS:FS:=(oJ (cIf (cT (c1 (pd (pN "list")) (cV 0))) (cL (vm (cV 0))) (cV 0)))
def wK:=fnD 1 1 zS
def uB:FS:=(og (oP 0 0 "name" (cV 1))
 (og (oP 0 0 "words" (cV 2))
 (og (oP 0 0 "kind" (cV 3))
 (oP 0 0 "start" (cV 4)))))
def o8:=fnI 0 4 5 uB
def ym:FS:=(og (oP 1 0 "name" (cV 1))
 (og (oP 1 0 "start" (cV 2))
 (oP 1 0 "most" (cV 3))))
def vI:=fnI 1 3 4 ym
def vJ:FS:=(og (oP 2 0 "name" (cV 1))
 (og (oP 2 0 "others" (cIf (cT (c2 zv (cV 2) (cC D.non))) (qZ o6) (cV 2)))
 (og (oP 2 0 "form" (cV 3))
 (oP 2 0 "joining" (cV 4)))))
def pD:=fnI 2 4 5 vJ
def A1:FS:=(og (oP 3 0 "term" (cV 1))
 (oP 3 0 "place" (cV 2)))
def qv:=fnI 3 2 3 A1
def zT:FS:=(oP 4 0 "term" (cV 1))
def wL:=fnI 4 1 2 zT
def wo:FS:=(og (oP 6 0 "term" (cV 1))
 (oP 6 0 "value" (cV 2)))
def o7:=fnI 6 2 3 wo
def yn:FS:=(og (oP 7 0 "term" (cV 1))
 (oP 7 0 "kind" (cV 2)))
def qr:=fnI 7 2 3 yn
def yp:FS:=(oP 8 0 "word" (cV 1))
def yq:=fnI 8 1 2 yp
def zU:FS:=(oP 9 0 "inner" (cV 1))
def qc:=fnI 9 1 2 zU
def yt:FS:=(og (oP 10 0 "one" (cV 1))
 (oP 10 0 "other" (cV 2)))
def yu:=fnI 10 2 3 yt
def yw:FS:=(og (oP 11 0 "term" (cV 1))
 (oP 11 0 "place" (cV 2)))
def pR:=fnI 11 2 3 yw
def zV:FS:=(og (oP 12 0 "term" (cV 1))
 (oP 12 0 "value" (cV 2)))
def pF:=fnI 12 2 3 zV
def vK:FS:=(og (oP 13 0 "verb" (cV 1))
 (og (oP 13 0 "tests" (n6 wK (a1 (cV 2))))
 (og (oP 13 0 "deeds" (n6 wK (a1 (cV 3))))
 (og (oP 13 0 "text" (cV 4))
 (oP 13 0 "refuses" (cV 5))))))
def p6:=fnI 13 5 6 vK
def uh:FS:=(oJ (c2 (dIn false) (c1 (ou pQ "kind") (cV 0)) (cC tu)))
def xV:=fnD 1 1 uh
def qP:Nat->Option (List D->Option D):=λc=>match c with
 |0=>some xV
 |_=>none
def ui:FS:=(oJ (c2 (dIn false) (c1 (ou pQ "kind") (cV 0)) (cC tD)))
def xW:=fnD 1 1 ui
def qQ:Nat->Option (List D->Option D):=λc=>match c with
 |0=>some xW
 |_=>none
def sL:FS:=(oJ (c2 (dIn true) (c1 (ou pQ "kind") (cV 0)) (cC wg)))
def sM:=fnD 1 1 sL
def rF:Nat->Option (List D->Option D):=λc=>match c with
 |0=>some sM
 |_=>none
def uK:FS:=(sIf (pC (cT (cV 0))) (sRz (a1 (cV 1))) o3)
def oa:=fnX 2 2 uK
def zW:FS:=(oJ (c1 uc (cL (oH 1 [1] (iL (cV 0)) (gN 0) (cT (c2 (dEq false) (c1 (ou pQ "kind") (cV 0)) (cV 1))) (cV 0)))))
def wM:=fnD 2 2 zW
def xp:FS:=(qy (oH 1 [] (iL (cV 0)) (gN 0) (cT (pV rF "is_plainly" (cV 0) o6)) (cV 0)))
def qw:=fnN 1 1 xp
def A2:FS:=(og (sIf (rk (pC (cT (c1 (pd IL) (cV 0)))) (rk (pC (cT (n6 uA (a1 (c1 (ou rE "start") (cV 0)))))) (pC (cT (n6 uA (a1 (c1 (ou vB "most") (cV 0)))))))) (oJ (cC (.bl false))) o3)
 (oJ (pj (rq uZ uZ (cC (.int 1)) (c1 (ou vB "most") (cV 0)) (cC vG)) (rq uZ uZ (cC (.int 0)) (c1 (ou rE "start") (cV 0)) (c1 (ou vB "most") (cV 0))))))
def A3:=fnD 1 1 A2
def vL:FS:=(og (sNb (oY 1 (pj (c1 (pd (pN "list")) (cV 0)) (c1 rT (cL (oH 1 [] (iL (cV 0)) (gN 0) pE (c1 (pd ET) (cV 0))))))))
 (og (sXp oa (aCons (cV 1) (a1 (cS "things are a list of things"))))
 (og (sXp oa (aCons (c1 rT (cL (oH 1 [] (iL (cV 0)) (gN 0) pE (n6 oR (aCons (c1 (ou pQ "kind") (cV 0)) (a1 (cC BW))))))) (a1 (cS "a thing is of no kind"))))
 (og (sXp oa (aCons (rq uZ uZ (cC (.int 1)) (n6 wM (aCons (cV 0) (a1 (cS "room")))) (cC xg)) (a1 (cS "a world has 1 to 5 rooms"))))
 (og (sXp oa (aCons (c2 (dEq false) (n6 wM (aCons (cV 0) (a1 (cS "you")))) (cC (.int 1))) (a1 (cS "a world has just one you"))))
 (sXp oa (aCons (c2 uZ (c1 uc (cL (pL qw (a1 (cV 0))))) (cC wm)) (a1 (cS "a world has at most 7 things beside rooms and you")))))))))
def qR:=fnX 1 2 vL
def wq:FS:=(og (sNb (oY 1 (pj (n6 oZ (aCons (cV 0) (a1 (cC xh)))) (c1 rT (cL (oH 1 [] (iL (cV 0)) (gN 0) pE (n6 A3 (a1 (cV 0)))))))))
 (sXp oa (aCons (cV 1) (a1 (cS "marks are a list of at most 4 marks, each from 0 to at most 3")))))
def rK:=fnX 1 2 wq
def xq:FS:=(oJ (c2 (dEq false) (c1 (vv pairsU) (cV 0)) (c1 uc (cV 0))))
def o9:=fnD 1 1 xq
def wt:FS:=(og (sNb (oY 2 (cL (p9 (cL (oH 1 [] (iL (cV 0)) (gN 0) pE (c1 (ou oU "name") (cV 0)))) (cL (oH 1 [] (iL (cV 1)) (gN 0) pE (c1 (ou oU "name") (cV 0))))))))
 (og (sXp oa (aCons (c1 rT (cL (oH 1 [] (iL (cV 2)) (gN 0) pE (n6 ug (a1 (cV 0)))))) (a1 (cS "a name is no name"))))
 (sXp oa (aCons (n6 o9 (a1 (cV 2))) (a1 (cS "two things or marks have one name"))))))
def tS:=fnX 2 3 wt
def xt:FS:=(qy (p9 (cL (oH 1 [] (iL (cV 0)) (gN 0) (cT (pV qQ "has_mark" (cV 0) o6)) (c1 (ou oU "name") (cV 0)))) (cL (oH 1 [] (iL (cV 1)) (gN 0) pE (c1 (ou oU "name") (cV 0))))))
def sj:=fnN 2 2 xt
def zX:FS:=(og (sIf (cT (c2 (dEq false) (c1 (ou pQ "kind") (cV 1)) (cS "room"))) (oJ (c2 zv (c1 (ou rE "start") (cV 1)) (cC D.non))) o3)
 (og (sIf (cT (c2 (dEq false) (c1 (ou pQ "kind") (cV 1)) (cS "you"))) (oJ (n6 oR (aCons (c1 (ou rE "start") (cV 1)) (a1 (cL (oH 1 [] (iL (cV 0)) (gN 0) (cT (c2 (dEq false) (c1 (ou pQ "kind") (cV 0)) (cS "room"))) (c1 (ou oU "name") (cV 0)))))))) o3)
 (oJ (n6 oR (aCons (c1 (ou rE "start") (cV 1)) (a1 (cL (oH 1 [] (iL (cV 0)) (gN 0) (cT (pV qP "can_hold" (cV 0) o6)) (c1 (ou oU "name") (cV 0))))))))))
def zY:=fnD 2 2 zX
def uL:FS:=(og (oY 2 (c2 AR (cV 0) (cV 1)))
 (og (tQ (iR1 (c1 uc (cV 0))) (gN 3) (og (sIf (cT (c2 zv (cV 2) (cC D.non))) (oJ (cC (.bl true))) o3)
 (oY 2 (c2 AR (cV 0) (cV 2)))))
 (oJ (c2 zv (cV 2) (cC D.non)))))
def uM:=fnD 2 4 uL
def vM:FS:=(og (sXp oa (aCons (c1 rT (cL (oH 1 [0] (iL (cV 0)) (gN 0) pE (n6 zY (aCons (cV 1) (a1 (cV 0))))))) (a1 (cS "a start is none"))))
 (og (sNb (AS 1))
 (og (sNb (tQ (iL (cV 0)) (gN 2) (vq 1 (c1 (ou oU "name") (cV 2)) (c1 (ou rE "start") (cV 2)))))
 (sXp oa (aCons (c1 rT (cL (oH 1 [1] (iD (cFz 1)) (gN 0) pE (n6 uM (aCons (cV 1) (a1 (cV 0))))))) (a1 (cS "a thing starts within itself")))))))
def sN:=fnX 1 3 vM
def yx:FS:=(og (sIf (rk (pC (cT (c1 (pd (pN "tuple")) (cV 0)))) (pC (cT (rq uZ uZ (cC (.int 1)) (c1 uc (cV 0)) (cC xj))))) (oJ (cC (.bl false))) o3)
 (oJ (pj (c1 rT (cL (oH 1 [] (iT (cV 0)) (gN 0) pE (n6 px (a1 (cV 0)))))) (n6 o9 (a1 (cV 0))))))
def yy:=fnD 1 1 yx
def A4:FS:=(oJ (c1 rT (cL (oH 1 [0] (iT (cV 1)) (gN 0) pE (c2 (dIn false) (cV 0) (cV 1))))))
def A5:=fnD 2 2 A4
def uN:FS:=(og (oY 2 (cL (oH 1 [1] (iL (cV 0)) (gN 0) (cT (c2 (dEq true) (c1 (ou oU "name") (cV 0)) (c1 (ou oU "name") (cV 1)))) (cV 0))))
 (oJ (zj (c1 zB (cL (oH 1 [1] (iL (cV 2)) (gN 0) pE (n6 A5 (aCons (c1 (ou qu "words") (cV 0)) (a1 (c1 (ou qu "words") (cV 1)))))))))))
def uO:=fnD 2 3 uN
def qH:FS:=(og (sXp oa (aCons (c1 rT (cL (oH 1 [] (iL (cV 0)) (gN 0) pE (n6 yy (a1 (c1 (ou qu "words") (cV 0))))))) (a1 (cS "a thing has 1 to 4 unlike words, as a tuple"))))
 (og (sNb (oY 1 (cL (pL qw (a1 (cV 0))))))
 (sXp oa (aCons (c1 rT (cL (oH 1 [1] (iL (cV 1)) (gN 0) pE (n6 uO (aCons (cV 1) (a1 (cV 0))))))) (a1 (cS "one thing has all words of another"))))))
def oW:=fnX 1 2 qH
def xu:FS:=(og (sNb (oY 2 (pj (c1 (pd (pN "list")) (cV 0)) (pj (c1 rT (cL (oH 1 [1] (iL (cV 0)) (gN 0) pE (n6 oR (aCons (cV 0) (a1 (cV 1))))))) (n6 o9 (a1 (cV 0)))))))
 (sXp oa (aCons (cV 2) (a1 (cS "dark is a list of rooms' names, each once")))))
def uC:=fnX 2 3 xu
def zZ:FS:=(og (sIf (rk (pC (cT (c1 (pd (pN "tuple")) (cV 0)))) (cT (c2 (dEq true) (c1 uc (cV 0)) (cC (.int 4))))) (oJ (cC (.bl false))) o3)
 (og (oY 3 (cOr (c2 zv (c2 dIx (cV 0) (cC (.int 3))) (cC D.non)) (n6 oR (aCons (c2 dIx (cV 0) (cC (.int 3))) (a1 (cV 2))))))
 (oJ (pj (n6 oR (aCons (c2 dIx (cV 0) (cC (.int 0))) (a1 (cV 1)))) (pj (n6 px (a1 (c2 dIx (cV 0) (cC (.int 1))))) (pj (n6 oR (aCons (c2 dIx (cV 0) (cC (.int 2))) (a1 (cV 1)))) (cV 3)))))))
def xw:=fnD 3 4 zZ
def sk:FS:=(og (sNb (oY 3 (pj (n6 oZ (aCons (cV 0) (a1 (cC vH)))) (c1 rT (cL (oH 1 [1,2] (iL (cV 0)) (gN 0) pE (n6 xw (aCons (cV 0) (aCons (cV 1) (a1 (cV 2)))))))))))
 (og (sXp oa (aCons (cV 3) (a1 (cS "ways are a list of at most 10 tuples (room, word, room, mark)"))))
 (sXp oa (aCons (n6 o9 (a1 (cL (oH 1 [] (iL (cV 0)) (gN 0) pE (qZ (aCons (c2 dIx (cV 0) (cC (.int 0))) (a1 (c2 dIx (cV 0) (cC (.int 1)))))))))) (a1 (cS "two ways lead from one room by one word"))))))
def qd:=fnX 3 4 sk
def A6:FS:=(og (sIf (rk (pC (cT (c1 (pd IQ) (cV 0)))) (rk (pC (cT (n6 ug (a1 (c1 (ou oU "name") (cV 0)))))) (pC (cT (c1 (pd (pN "tuple")) (c1 (ou qo "others") (cV 0))))))) (oJ (cC (.bl false))) o3)
 (og (sIf (rk (pC (cT (c1 rT (cL (oH 1 [] (iT (c1 (ou qo "others") (cV 0))) (gN 0) pE (n6 ug (a1 (cV 0)))))))) (pC (cT (n6 oR (aCons (c1 (ou vz "form") (cV 0)) (a1 (cC EU))))))) (oJ (cC (.bl false))) o3)
 (oJ (cIf (cT (c2 (dEq false) (c1 (ou vz "form") (cV 0)) (cS "two"))) (n6 px (a1 (c1 (ou pP "joining") (cV 0)))) (c2 zv (c1 (ou pP "joining") (cV 0)) (cC D.non))))))
def A7:=fnD 1 1 A6
def wu:FS:=(og (sNb (oY 1 (pj (n6 oZ (aCons (cV 0) (a1 (cC xi)))) (c1 rT (cL (oH 1 [] (iL (cV 0)) (gN 0) pE (n6 A7 (a1 (cV 0)))))))))
 (sXp oa (aCons (cV 1) (a1 (cS "verbs are a list of at most 6 verbs")))))
def rL:=fnX 1 2 wu
def yz:FS:=(oJ (zj (c1 zB (cL (oH 1 [1] (iL (cV 0)) (gN 0) pE (c2 (dIn false) (cV 0) (cV 1)))))))
def pq:=fnD 2 2 yz
def qe:FS:=(og (sNb (sX 3 (oI o6)))
 (og (sNb (tQ (iL (cL (pL qw (a1 (cV 0))))) (gN 4) (ra (vt 3 (c1 (ou qu "words") (cV 4))))))
 (og (sNb (sX 5 (oI o6)))
 (og (sNb (tQ (iL (cV 2)) (gN 6) (ra (vt 5 (ye (qZ (a1 (c1 (ou oU "name") (cV 6)))) (c1 (ou qo "others") (cV 6)))))))
 (og (sNb (oY 7 (cL (p9 (cL (oH 1 [] (iL (cV 2)) (gN 0) (cT (c2 ua (c1 (ou pP "joining") (cV 0)) (cC D.non))) (c1 (ou pP "joining") (cV 0)))) (cL (oH 1 [] (iL (cV 1)) (gN 0) pE (c2 dIx (cV 0) (cC (.int 1)))))))))
 (og (sXp oa (aCons (n6 o9 (a1 (cFz 5))) (a1 (cS "two verbs' names are alike"))))
 (og (sXp oa (aCons (n6 pq (aCons (cL (p9 (cFz 5) (cV 7))) (a1 (cFz 3)))) (a1 (cS "a verb's, way's or joining word is a word of a thing"))))
 (og (sXp oa (aCons (n6 pq (aCons (cL (p9 (cFz 5) (cV 7))) (a1 (cC qb)))) (a1 (cS "the, a, undo or restart is a word of the world"))))
 (sXp oa (aCons (n6 pq (aCons (cV 7) (a1 (cFz 5)))) (a1 (cS "a way's or joining word is a verb's name"))))))))))))
def pG:=fnX 3 8 qe
def tT:FS:=(og (sXp qR (a1 (cV 0)))
 (og (sXp rK (a1 (cV 1)))
 (og (sXp tS (aCons (cV 0) (a1 (cV 1))))
 (og (sXp sN (a1 (cV 0)))
 (og (sXp oW (a1 (cV 0)))
 (og (sNb (oY 6 (cL (oH 1 [] (iL (cV 0)) (gN 0) (cT (c2 (dEq false) (c1 (ou pQ "kind") (cV 0)) (cS "room"))) (c1 (ou oU "name") (cV 0))))))
 (og (sXp uC (aCons (cV 2) (a1 (cV 6))))
 (og (sXp qd (aCons (cV 3) (aCons (cV 6) (a1 (cL (pL sj (aCons (cV 0) (a1 (cV 1)))))))))
 (og (sXp rL (a1 (cV 4)))
 (sXp pG (aCons (cV 0) (aCons (cV 3) (a1 (cL (p9 (cV 4) (cV 5))))))))))))))))
def qg:=fnX 6 7 tT
def IS:FS:=(oJ (oA 13 (λds=>p6 (ds++[])) (aCons (cV 0) (aCons (cV 1) (aCons (cV 2) (aCons (cV 3) (a1 (cC (.bl false)))))))))
def tU:=fnD 4 4 IS
def A8:FS:=(oJ (oA 13 (λds=>p6 (ds++[])) (aCons (cV 0) (aCons (cV 1) (aCons (cL (oI o6)) (aCons (cV 2) (a1 (cC (.bl true)))))))))
def pb:=fnD 3 3 A8
def xy:FS:=(qy (oI (aCons (n6 pb (aCons (cS "take") (aCons (cL (oI (a1 (oA 7 (λds=>qr (ds++[])) (aCons (cS "it") (a1 (cS "fixed"))))))) (a1 (cS "That stays."))))) (aCons (n6 pb (aCons (cS "take") (aCons (cL (oI (a1 (oA 3 (λds=>qv (ds++[])) (aCons (cS "it") (a1 (cV 0))))))) (a1 (cS "You have that."))))) (aCons (n6 tU (aCons (cS "take") (aCons (cL (oI o6)) (aCons (cL (oI (a1 (oA 11 (λds=>pR (ds++[])) (aCons (cS "it") (a1 (cV 0))))))) (a1 (cS "Taken.")))))) (aCons (n6 tU (aCons (cS "drop") (aCons (cL (oI (a1 (oA 4 (λds=>wL (ds++[])) (a1 (cS "it")))))) (aCons (cL (oI (a1 (oA 11 (λds=>pR (ds++[])) (aCons (cS "it") (a1 (cS "here"))))))) (a1 (cS "Dropped.")))))) (a1 (n6 pb (aCons (cS "drop") (aCons (cL (oI o6)) (a1 (cS "You lack that."))))))))))))
def xA:=fnN 1 1 xy
def yA:FS:=(qy (oI (aCons (n6 pb (aCons (cS "put") (aCons (cL (oI (a1 (oA 9 (λds=>qc (ds++[])) (a1 (oA 4 (λds=>wL (ds++[])) (a1 (cS "it")))))))) (a1 (cS "You lack that."))))) (aCons (n6 pb (aCons (cS "put") (aCons (cL (oI (a1 (oA 9 (λds=>qc (ds++[])) (a1 (oA 7 (λds=>qr (ds++[])) (aCons (cS "other") (a1 (cS "box"))))))))) (a1 (cS "It holds nothing."))))) (aCons (n6 pb (aCons (cS "put") (aCons (cL (oI (a1 (oA 6 (λds=>o7 (ds++[])) (aCons (cS "other") (a1 (cC (.int 0)))))))) (a1 (cS "It is shut."))))) (a1 (n6 tU (aCons (cS "put") (aCons (cL (oI o6)) (aCons (cL (oI (a1 (oA 11 (λds=>pR (ds++[])) (aCons (cS "it") (a1 (cS "other"))))))) (a1 (cS "Done."))))))))))))
def yB:=fnN 0 0 yA
def yC:FS:=(qy (oI (aCons (n6 pb (aCons (cS "open") (aCons (cL (oI (a1 (oA 9 (λds=>qc (ds++[])) (a1 (oA 7 (λds=>qr (ds++[])) (aCons (cS "it") (a1 (cS "box"))))))))) (a1 (cS "It has no lid."))))) (aCons (n6 pb (aCons (cS "open") (aCons (cL (oI (a1 (oA 6 (λds=>o7 (ds++[])) (aCons (cS "it") (a1 (cC (.int 1)))))))) (a1 (cS "It is open."))))) (aCons (n6 tU (aCons (cS "open") (aCons (cL (oI o6)) (aCons (cL (oI (a1 (oA 12 (λds=>pF (ds++[])) (aCons (cS "it") (a1 (cC (.int 1)))))))) (a1 (cS "Opened.")))))) (aCons (n6 pb (aCons (cS "shut") (aCons (cL (oI (a1 (oA 9 (λds=>qc (ds++[])) (a1 (oA 7 (λds=>qr (ds++[])) (aCons (cS "it") (a1 (cS "box"))))))))) (a1 (cS "It has no lid."))))) (aCons (n6 pb (aCons (cS "shut") (aCons (cL (oI (a1 (oA 6 (λds=>o7 (ds++[])) (aCons (cS "it") (a1 (cC (.int 0)))))))) (a1 (cS "It is shut."))))) (a1 (n6 tU (aCons (cS "shut") (aCons (cL (oI o6)) (aCons (cL (oI (a1 (oA 12 (λds=>pF (ds++[])) (aCons (cS "it") (a1 (cC (.int 0)))))))) (a1 (cS "Shut."))))))))))))))
def yD:=fnN 0 0 yC
def wx:FS:=(qy (oI (aCons (n6 pb (aCons (cS "light") (aCons (cL (oI (a1 (oA 9 (λds=>qc (ds++[])) (a1 (oA 7 (λds=>qr (ds++[])) (aCons (cS "it") (a1 (cS "lamp"))))))))) (a1 (cS "It burns not."))))) (aCons (n6 pb (aCons (cS "light") (aCons (cL (oI (a1 (oA 6 (λds=>o7 (ds++[])) (aCons (cS "it") (a1 (cC (.int 1)))))))) (a1 (cS "It is lit."))))) (aCons (n6 tU (aCons (cS "light") (aCons (cL (oI o6)) (aCons (cL (oI (a1 (oA 12 (λds=>pF (ds++[])) (aCons (cS "it") (a1 (cC (.int 1)))))))) (a1 (cS "Lit.")))))) (aCons (n6 pb (aCons (cS "douse") (aCons (cL (oI (a1 (oA 9 (λds=>qc (ds++[])) (a1 (oA 7 (λds=>qr (ds++[])) (aCons (cS "it") (a1 (cS "lamp"))))))))) (a1 (cS "It burns not."))))) (aCons (n6 pb (aCons (cS "douse") (aCons (cL (oI (a1 (oA 6 (λds=>o7 (ds++[])) (aCons (cS "it") (a1 (cC (.int 0)))))))) (a1 (cS "It is out."))))) (a1 (n6 tU (aCons (cS "douse") (aCons (cL (oI o6)) (aCons (cL (oI (a1 (oA 12 (λds=>pF (ds++[])) (aCons (cS "it") (a1 (cC (.int 0)))))))) (a1 (cS "Doused."))))))))))))))
def wz:=fnN 0 0 wx
def yE:FS:=(og (sX 2 (oI (aCons (oA 3 (λds=>qv (ds++[])) (aCons (cV 0) (a1 (c2 dIx (cV 1) (cC (.int 0)))))) (a1 (oA 8 (λds=>yq (ds++[])) (a1 (c2 dIx (cV 1) (cC (.int 1)))))))))
 (og (sIf (cT (c2 ua (c2 dIx (cV 1) (cC (.int 3))) (cC D.non))) (ra (zm 2 (oA 9 (λds=>qc (ds++[])) (a1 (oA 6 (λds=>o7 (ds++[])) (aCons (c2 dIx (cV 1) (cC (.int 3))) (a1 (cC (.int 0))))))))) o3)
 (qy (Hh 2))))
def yF:=fnN 2 3 yE
def z7:FS:=(og (oY 2 (cL (oH 1 [0] (iL (cV 1)) (gN 0) pE (n6 tU (aCons (cS "go") (aCons (cL (pL yF (aCons (cV 1) (a1 (cV 0))))) (aCons (cL (oI (a1 (oA 11 (λds=>pR (ds++[])) (aCons (cV 1) (a1 (c2 dIx (cV 0) (cC (.int 2))))))))) (a1 (cS "You go.")))))))))
 (qy (p9 (cV 2) (cL (oI (a1 (n6 pb (aCons (cS "go") (aCons (cL (oI o6)) (a1 (cS "No way there.")))))))))))
def z8:=fnN 2 3 z7
def xB:FS:=(qy (oI (a1 (n6 tU (aCons (cS "wait") (aCons (cL (oI o6)) (aCons (cL (oI o6)) (a1 (cS "Time goes by.")))))))))
def xC:=fnN 0 0 xB
def vN:FS:=(qy (p9 (cL (p9 (cL (p9 (cL (p9 (cL (p9 (cL (pL xA (a1 (cV 0)))) (cL (pL yB o6)))) (cL (pL yD o6)))) (cL (pL wz o6)))) (cL (pL z8 (aCons (cV 0) (a1 (cV 1))))))) (cL (pL xC o6))))
def pX:=fnN 2 2 vN
def vO:FS:=(qy (p9 (cL (oH 1 [] (iT (qZ (aCons (cS "take") (aCons (cS "drop") (aCons (cS "open") (aCons (cS "shut") (aCons (cS "light") (a1 (cS "douse"))))))))) (gN 0) pE (oA 2 (λds=>pD (ds++[D.non,(D.str "one"),D.non])) (a1 (cV 0))))) (cL (oI (aCons (oA 2 (λds=>pD (ds++[])) (aCons (cS "put") (aCons (qZ o6) (aCons (cS "two") (a1 (cS "in")))))) (aCons (oA 2 (λds=>pD (ds++[D.non])) (aCons (cS "go") (aCons (qZ o6) (a1 (cS "way"))))) (a1 (oA 2 (λds=>pD (ds++[D.non])) (aCons (cS "wait") (aCons (qZ o6) (a1 (cS "alone"))))))))))))
def qS:=fnN 0 0 vO
def A9:FS:=(og (AS 1)
 (og (tQ (iL (cV 0)) (gN 2) (vq 1 (c1 (ou oU "name") (cV 2)) (cV 2)))
 (oJ (cFz 1))))
def xX:=fnD 1 3 A9
def uP:FS:=(og (AS 2)
 (og (tQ (iL (cV 0)) (gN 3) (sIf (cT (pV qQ "has_mark" (cV 3) o6)) (vq 2 (c1 (ou oU "name") (cV 3)) (cC (.int 1))) o3))
 (og (tQ (iL (cV 1)) (gN 4) (vq 2 (c1 (ou oU "name") (cV 4)) (c1 (ou vB "most") (cV 4))))
 (oJ (cFz 2)))))
def r9:=fnD 2 5 uP
def uQ:FS:=(og (AS 1)
 (og (tQ (iL (cV 0)) (gN 2) (tQ (iT (ye (qZ (a1 (c1 (ou oU "name") (cV 2)))) (c1 (ou qo "others") (cV 2)))) (gN 3) (vq 1 (cV 3) (cV 2))))
 (oJ (cFz 1))))
def sd:=fnD 1 4 uQ
def Ba:FS:=(DP (ou qp "verb"))
def xY:=fnD 1 3 Ba
def uR:FS:=(qy (oH 1 [1] (iL (c1 (ou r6 "kept_things") (cV 0))) (gN 0) (cT (c2 (dEq false) (c1 (ou pQ "kind") (cV 0)) (cV 1))) (c1 (ou oU "name") (cV 0))))
def yO:=fnD 2 2 uR
def rM:Nat->Option (List D->Option D):=λc=>match c with
 |14=>some yO
 |_=>none
def tG:FS:=(qy (p9 (c1 (ou vA "kept_verbs") (cV 0)) (c1 (ou uf "shared_verbs") (cV 0))))
def xD:=fnD 1 1 tG
def qA:Nat->Option (List D->Option D):=λc=>match c with
 |14=>some xD
 |_=>none
def vP:FS:=(oJ (pj (c1 (pd (pN "str")) (cV 0)) (c2 (dEq false) (cV 0) (cV 1))))
def qT:=fnD 2 2 vP
def Bb:FS:=(oJ (oA 13 (λds=>p6 (ds++[])) (aCons (c1 (ou qp "verb") (cV 0)) (aCons (c1 (ou xT "tests") (cV 0)) (aCons (c1 (ou vX "deeds") (cV 0)) (aCons (c1 (ou vC "text") (cV 0)) (a1 (c1 (ou sZ "refuses") (cV 0)))))))))
def vZ:=fnD 1 1 Bb
def uj:FS:=(oJ (c2 CS (c1 (ou sI "things_by_name") (cV 0)) (cV 1)))
def xZ:=fnD 2 2 uj
def sO:Nat->Option (List D->Option D):=λc=>match c with
 |14=>some xZ
 |_=>none
def uS:FS:=(oJ (c2 wd (c1 (ou sY "mosts_by_name") (cV 0)) (cV 1)))
def yP:=fnD 2 2 uS
def tV:Nat->Option (List D->Option D):=λc=>match c with
 |14=>some yP
 |_=>none
def uT:FS:=(oJ (c2 wd (c1 (ou tm "verbs_by_word") (cV 0)) (cV 1)))
def qB:=fnD 2 2 uT
def qz:Nat->Option (List D->Option D):=λc=>match c with
 |14=>some qB
 |_=>none
def yG:FS:=(oJ (c1 (ou rJ "your_name") (cV 0)))
def CV:=fnD 1 1 yG
def x6:Nat->Option (List D->Option D):=λc=>match c with
 |14=>some CV
 |_=>none
def uU:FS:=(og (sIf (cT (n6 qT (aCons (cV 1) (a1 (cS "it"))))) (oJ (c2 (dIn false) (cV 0) (qZ (aCons (cS "one") (a1 (cS "two")))))) o3)
 (oJ (pj (n6 qT (aCons (cV 1) (a1 (cS "other")))) (c2 (dEq false) (cV 0) (cS "two")))))
def qf:=fnD 2 2 uU
def Bc:FS:=(oJ (pj (c2 ua (cV 0) (cC D.non)) (n6 qT (aCons (cV 1) (a1 (cS "here"))))))
def x8:=fnD 2 2 Bc
def EV:FS:=(oJ (cIf (cT (c1 (pd (pN "str")) (cV 1))) (pV sO "thing_of" (cV 0) (a1 (cV 1))) (cC D.non)))
def uD:=fnD 2 2 EV
def xE:FS:=(oJ (pj (c2 ua (n6 uD (aCons (cV 0) (a1 (cV 1)))) (cC D.non)) (c2 (dEq false) (c1 (ou pQ "kind") (n6 uD (aCons (cV 0) (a1 (cV 1))))) (cV 2))))
def uE:=fnD 3 3 xE
def Bd:FS:=(oJ (cOr (n6 qf (aCons (cV 1) (a1 (cV 2)))) (cOr (n6 x8 (aCons (cV 1) (a1 (cV 2)))) (c2 ua (n6 uD (aCons (cV 0) (a1 (cV 2)))) (cC D.non)))))
def v3:=fnD 3 3 Bd
def z9:FS:=(og (sIf (rk (cT (n6 qf (aCons (cV 1) (a1 (cV 2))))) (cT (n6 x8 (aCons (cV 1) (a1 (cV 2)))))) (oJ (cC (.bl true))) o3)
 (oJ (pj (c2 ua (n6 uD (aCons (cV 0) (a1 (cV 2)))) (cC D.non)) (pV qP "can_hold" (n6 uD (aCons (cV 0) (a1 (cV 2)))) o6))))
def wN:=fnD 3 3 z9
def Aa:FS:=(og (sIf (cT (n6 qf (aCons (cV 1) (a1 (cV 2))))) (oJ (cC (.bl true))) o3)
 (oJ (pj (c2 ua (n6 uD (aCons (cV 0) (a1 (cV 2)))) (cC D.non)) (zj (n6 uE (aCons (cV 0) (aCons (cV 2) (a1 (cS "room")))))))))
def Ab:=fnD 3 3 Aa
def uV:FS:=(og (sIf (rk (pC (cT (n6 uA (a1 (cV 3))))) (cT (c2 Hr (cV 3) (cC (.int 0))))) (oJ (cC (.bl false))) o3)
 (og (sIf (cT (n6 qf (aCons (cV 1) (a1 (cV 2))))) (oJ (c2 uZ (cV 3) (cC tE))) o3)
 (og (oY 4 (cIf (cT (c1 (pd (pN "str")) (cV 2))) (pV tV "most_of" (cV 0) (a1 (cV 2))) (cC D.non)))
 (oJ (pj (c2 ua (cV 4) (cC D.non)) (c2 uZ (cV 3) (cV 4)))))))
def se:=fnD 4 5 uV
def Be:FS:=(og (sIf (rk (pC (cT (n6 Ab (aCons (cV 0) (aCons (cV 1) (a1 (c1 (ou rU "term") (cV 2)))))))) (pC (cT (n6 wN (aCons (cV 0) (aCons (cV 1) (a1 (c1 (ou vY "place") (cV 2))))))))) (oJ (cC (.bl false))) o3)
 (oJ (cOr (c2 (dEq true) (c1 (ou rU "term") (cV 2)) (pV x6 "you" (cV 0) o6)) (n6 uE (aCons (cV 0) (aCons (c1 (ou vY "place") (cV 2)) (a1 (cS "room"))))))))
def Bf:=fnD 3 3 Be
def Bh:FS:=(oJ (pj (c1 (pd (pN "str")) (cV 0)) (rq uZ uZ (cC (.int 1)) (c1 uc (cV 0)) (cC xm))))
def sv:=fnD 1 1 Bh
def vQ:FS:=(oJ (pj (n6 ug (a1 (cV 1))) (pj (c2 ua (pV qz "verb_of" (cV 0) (a1 (cV 1))) (cC D.non)) (c2 (dEq false) (c1 (ou oU "name") (pV qz "verb_of" (cV 0) (a1 (cV 1)))) (cV 1)))))
def pY:=fnD 2 2 vQ
def tI:FS:=(oJ (pj (c1 (pd (pN "bool")) (c1 (ou sZ "refuses") (cV 0))) (cOr (zj (c1 (ou sZ "refuses") (cV 0))) (c2 dEqN (c1 (ou vX "deeds") (cV 0)) (cL (oI o6))))))
def qU:=fnD 1 1 tI
def uW:FS:=(og (sIf (cT (c1 (pd QQ) (cV 2))) (oJ (pj (n6 v3 (aCons (cV 0) (aCons (cV 1) (a1 (c1 (ou rU "term") (cV 2)))))) (n6 wN (aCons (cV 0) (aCons (cV 1) (a1 (c1 (ou vY "place") (cV 2)))))))) o3)
 (og (sIf (cT (c1 (pd (tOr LS IP)) (cV 2))) (oJ (n6 v3 (aCons (cV 0) (aCons (cV 1) (a1 (c1 (ou rU "term") (cV 2))))))) o3)
 (og (sIf (cT (c1 (pd CU) (cV 2))) (oJ (n6 se (aCons (cV 0) (aCons (cV 1) (aCons (c1 (ou rU "term") (cV 2)) (a1 (c1 (ou xU "value") (cV 2)))))))) o3)
 (og (sIf (cT (c1 (pd IK) (cV 2))) (oJ (pj (n6 v3 (aCons (cV 0) (aCons (cV 1) (a1 (c1 (ou rU "term") (cV 2)))))) (n6 oR (aCons (c1 (ou pQ "kind") (cV 2)) (a1 (cC BW)))))) o3)
 (og (sIf (cT (c1 (pd IR) (cV 2))) (oJ (pj (c2 (dEq false) (cV 1) (cS "way")) (n6 px (a1 (c1 (ou CT "word") (cV 2)))))) o3)
 (oJ (c1 (pd LU) (cV 2))))))))
def uX:=fnD 3 3 uW
def sy(g:List D->Option D):FS:=(og (sIf (cT (c2 (dEq false) (cV 3) (cC (.int 0)))) (oJ (cC (.bl false))) o3)
 (og (sIf (cT (c1 (pd LV) (cV 2))) (oJ (n6 g (aCons (cV 0) (aCons (cV 1) (aCons (c1 (ou AX "inner") (cV 2)) (a1 (c2 rS (cV 3) (cC (.int 1))))))))) o3)
 (og (sIf (cT (c1 (pd IJ) (cV 2))) (oJ (pj (n6 g (aCons (cV 0) (aCons (cV 1) (aCons (c1 (ou ES "one") (cV 2)) (a1 (c2 rS (cV 3) (cC (.int 1)))))))) (n6 g (aCons (cV 0) (aCons (cV 1) (aCons (c1 (ou AY "other") (cV 2)) (a1 (c2 rS (cV 3) (cC (.int 1)))))))))) o3)
 (oJ (n6 uX (aCons (cV 0) (aCons (cV 1) (a1 (cV 2)))))))))
def ph:Nat->List D->Option D
 |0=>fnD 4 4 Qw
 |n+1=>fnD 4 4 (sy (ph n))
def Bi:FS:=(og (sIf (cT (c1 (pd LW) (cV 2))) (oJ (n6 se (aCons (cV 0) (aCons (cV 1) (aCons (c1 (ou rU "term") (cV 2)) (a1 (c1 (ou xU "value") (cV 2)))))))) o3)
 (oJ (pj (c1 (pd IM) (cV 2)) (n6 Bf (aCons (cV 0) (aCons (cV 1) (a1 (cV 2))))))))
def rG:=fnD 3 3 Bi
def yH:FS:=(oJ (pj (n6 oZ (aCons (cV 2) (a1 (cC xk)))) (c1 rT (cL (oH 1 [0,1] (iL (cV 2)) (gN 0) pE (n6 (ph 5) (aCons (cV 1) (aCons (cV 2) (aCons (cV 0) (a1 (cC yj)))))))))))
def tJ:=fnD 3 3 yH
def yI:FS:=(oJ (pj (n6 oZ (aCons (cV 2) (a1 (cC xl)))) (c1 rT (cL (oH 1 [0,1] (iL (cV 2)) (gN 0) pE (n6 rG (aCons (cV 1) (aCons (cV 2) (a1 (cV 0))))))))))
def tK:=fnD 3 3 yI
def v5:FS:=(og (sIf (rk (pC (cT (c1 (pd DT) (cV 1)))) (rk (pC (cT (n6 pY (aCons (cV 0) (a1 (c1 (ou qp "verb") (cV 1))))))) (pC (cT (n6 sv (a1 (c1 (ou vC "text") (cV 1)))))))) (oJ (cC (.bl false))) o3)
 (og (oY 2 (c1 (ou vz "form") (pV qz "verb_of" (cV 0) (a1 (c1 (ou qp "verb") (cV 1))))))
 (oJ (pj (n6 tJ (aCons (cV 0) (aCons (cV 2) (a1 (c1 (ou xT "tests") (cV 1)))))) (pj (n6 tK (aCons (cV 0) (aCons (cV 2) (a1 (c1 (ou vX "deeds") (cV 1)))))) (n6 qU (a1 (cV 1))))))))
def v7:=fnD 2 3 v5
def pS:FS:=(og (sXp qg (aCons (cV 1) (aCons (cV 2) (aCons (cV 3) (aCons (cV 4) (aCons (cV 5) (a1 (cL (pL qS o6)))))))))
 (og (sNb (oP 14 0 "kept_things" (cL (vm (cV 1)))))
 (og (sNb (oP 14 0 "kept_marks" (cL (vm (cV 2)))))
 (og (sNb (oP 14 0 "kept_dark" (cL (vm (cV 3)))))
 (og (sNb (oP 14 0 "kept_ways" (cL (vm (cV 4)))))
 (og (sNb (oP 14 0 "kept_verbs" (cL (vm (cV 5)))))
 (og (sNb (oP 14 0 "shared_verbs" (cL (pL qS o6))))
 (og (sNb (oP 14 0 "your_name" (uI 16 (c2 dIx (pV rM "of_kind" (cV 0) (a1 (cS "you"))) (cC (.int 0))))))
 (og (sNb (oP 14 0 "things_by_name" (n6 xX (a1 (cV 1)))))
 (og (sNb (oP 14 0 "mosts_by_name" (n6 r9 (aCons (cV 1) (a1 (cV 2))))))
 (og (sNb (oP 14 0 "verbs_by_word" (uI 16 (n6 sd (a1 (pV qA "all_verbs" (cV 0) o6))))))
 (og (sNb (oY 7 (uI 16 (pj (n6 oZ (aCons (cV 6) (a1 (cC xn)))) (c1 rT (cL (oH 1 [0] (iL (cV 6)) (gN 0) pE (n6 v7 (aCons (cV 1) (a1 (cV 0)))))))))))
 (og (sXp oa (aCons (cV 7) (a1 (cS "rules are a list of at most 20 rules, each as it may be"))))
 (og (sNb (oP 14 0 "kept_rules" (cL (vm (cV 6)))))
 (og (sNb (oP 14 0 "shared_rules" (uI 16 (cL (pL pX (aCons (c1 (ou rJ "your_name") (cV 0)) (a1 (cV 4))))))))
 (og (sNb (oP 14 0 "copied_rules" (cL (oH 1 [] (iL (cV 6)) (gN 0) pE (n6 vZ (a1 (cV 0)))))))
 (sNb (oP 14 0 "rules_by_verb" (uI 16 (n6 xY (a1 (cL (p9 (c1 (ou rA "copied_rules") (cV 0)) (c1 (ou rD "shared_rules") (cV 0)))))))))))))))))))))))))
def oV:=fnXI 14 6 8 pS
def wC:FS:=(qy (oH 1 [] (iL (c1 (ou r6 "kept_things") (cV 0))) (gN 0) pE (c1 (ou oU "name") (cV 0))))
def tW:=fnD 1 1 wC
def tL:Nat->Option (List D->Option D):=λc=>match c with
 |14=>some tW
 |_=>none
def vR:FS:=(og (sIf (cT (c2 Hr (cV 1) (c1 uc (cV 0)))) (oJ (c2 dIx (cV 0) (cV 1))) o3)
 (oJ (cC (.int 0))))
def sP:=fnD 2 2 vR
def sm:FS:=(og (sIf (vn (cT (c2 (dEq false) (c1 uc (cV 0)) (cC (.int 1))))) (og (oY 2 (u0 (c2 dIx (cV 0) (cC (.int 0)))))
 (og (rW 0 0 (c2 sE (cV 2) (c1 Nj (c2 MZ (cV 2) (c2 Ho (cC (.int 10)) (cC (.int 18)))))))
 (ra (Kk 0 (oI (aCons (c2 rh (cV 2) (cC (.int 2147483647))) (a1 (cC (.int 0))))))))) o3)
 (og (sIf (vn (cT (c2 Hs (c2 dIx (cV 0) (cC (.int 0))) (cC (.int 0))))) (og (oY 3 (u0 (c2 rh (c2 dIx (cV 0) (cC (.int 0))) (cV 1))))
 (og (rW 0 0 (u0 (c2 wb (c2 dIx (cV 0) (cC (.int 0))) (cV 1))))
 (oJ (cV 3)))) o3)
 (og (rW 0 2 (u0 (c2 pW (c2 dIx (cV 0) (cC (.int 2))) (cC (.int 1)))))
 (og (oY 4 (u0 (c2 rh (c2 sE (c2 pW (c2 pW (c2 dIx (cV 0) (cC (.int 1))) (c2 sE (cC (.int 7919)) (c2 dIx (cV 0) (cC (.int 2))))) (cC (.int 1))) (cC (.int 48271))) (cC (.int 2147483647)))))
 (og (oY 4 (c2 rh (c2 sE (cV 4) (c2 pW (c2 wb (cV 4) (cC (.int 1009))) (cC (.int 69621)))) (cC (.int 2147483647))))
 (oJ (c2 rh (c2 rh (c2 sE (cV 4) (c2 pW (c2 wb (cV 4) (cC (.int 2003))) (cC (.int 40692)))) (cC (.int 2147483399))) (cV 1))))))))
def pB:=fnM 1 5 sm
def wD:FS:=(og (oY 3 (cL (rY (cL (oI (aCons (cS "hall") (aCons (cS "x") (aCons (cS "cellar") (aCons (cS "loft") (aCons (cS "porch") (a1 (cS "attic"))))))))) oNo (oAt (cV 0)))))
 (og (sX 4 (oH 1 [] (iL (cV 3)) (gN 0) pE (oA 0 (λds=>o8 (ds++[D.non])) (aCons (cV 0) (aCons (qZ (a1 (cV 0))) (a1 (cS "room")))))))
 (og (tQ (iR1 (cV 1)) (gN 5) (og (oY 6 (c2 dIx (cS "bcdefghi") (cV 5)))
 (og (oY 7 (Ew (cL (oH 1 [6] (iS (cSlS (cS "klmnop") oNo (oAt (cV 2)))) (gN 0) pE (c2 qG (c2 qG (cS "longerword") (cV 1)) (cV 0))))))
 (og (oY 8 (c2 dIx (cL (oI (aCons (cS "plain") (aCons (cS "box") (aCons (cS "lamp") (a1 (cS "fixed"))))))) (c2 rh (cV 5) (cC (.int 4)))))
 (ra (zm 4 (oA 0 (λds=>o8 (ds++[])) (aCons (c2 qG (cS "thingaa") (cV 6)) (aCons (cV 7) (aCons (cV 8) (a1 (c2 dIx (cL (oI (aCons (cS "hall") (a1 (cS "me"))))) (c2 rh (cV 5) (cC (.int 2)))))))))))))))
 (qy (p9 (cFz 4) (cL (oI (a1 (oA 0 (λds=>o8 (ds++[])) (aCons (cS "me") (aCons (qZ (a1 (cS "me"))) (aCons (cS "you") (a1 (cS "hall"))))))))))))))
def rN:=fnD 3 9 wD
def yJ:FS:=(og (oY 1 (Av 15))
 (og (tQ (iR1 (c2 rS (cV 0) (cC (.int 1)))) (gN 2) (oY 1 (c2 dIx (cL (oI (aCons (oA 9 (λds=>qc (ds++[])) (a1 (cV 1))) (a1 (oA 10 (λds=>yu (ds++[])) (aCons (Av 15) (a1 (cV 1)))))))) (c2 rh (cV 2) (cC (.int 2))))))
 (oJ (cV 1))))
def qI:=fnD 1 3 yJ
def uF:FS:=(og (sX 5 (oI o6))
 (og (tQ (iR1 (cV 0)) (gN 6) (og (oY 7 (cL (rY (cL (oI (aCons (n6 qI (a1 (cV 3))) (aCons (oA 3 (λds=>qv (ds++[])) (aCons (cS "me") (a1 (cS "hall")))) (aCons (oA 6 (λds=>o7 (ds++[])) (aCons (cS "gate") (a1 (cC (.int 1))))) (aCons (Av 15) (aCons (Av 15) (a1 (oA 3 (λds=>qv (ds++[])) (aCons (cS "me") (a1 (cS "me")))))))))))) oNo (oAt (cV 1)))))
 (og (oY 8 (cL (rY (cL (oI (aCons (oA 11 (λds=>pR (ds++[])) (aCons (cS "me") (a1 (cS "hall")))) (aCons (oA 12 (λds=>pF (ds++[])) (aCons (cS "gate") (a1 (cC (.int 0))))) (aCons (oA 12 (λds=>pF (ds++[])) (aCons (cS "gate") (a1 (cC (.int 1))))) (aCons (oA 11 (λds=>pR (ds++[])) (aCons (cS "me") (a1 (cS "hall")))) (a1 (oA 12 (λds=>pF (ds++[])) (aCons (cS "gate") (a1 (cC (.int 1)))))))))))) oNo (oAt (cV 2)))))
 (ra (zm 5 (oA 13 (λds=>p6 (ds++[(D.bl false)])) (aCons (cS "wait") (aCons (cV 7) (aCons (cV 8) (a1 (c2 qG (c2 qG (cS "~") (c2 zC (cS " ") (c2 rS (cV 4) (cC (.int 2))))) (cS "~"))))))))))))
 (qy (Hh 5))))
def uG:=fnD 5 9 uF
def tN:FS:=(og (sNb (DC (cL (cSl (cV 0) none (some 6))) (gTL (pA (gN 1) (pA (gN 2) (pA (gN 3) (pA (gN 4) (pA (gN 5) (pA (gN 6) AL)))))) 6)))
 (og (sNb (DC (cL (cSl (cV 0) (some 6) none)) (gTL (pA (gN 7) (pA (gN 8) (pA (gN 9) (pA (gN 10) (pA (gN 11) AL))))) 5)))
 (og (sNb (oY 12 (cL (rY (cL (oI (aCons (cS "hall") (aCons (cS "x") (aCons (cS "cellar") (aCons (cS "loft") (a1 (cS "porch")))))))) oNo (oAt (cV 1))))))
 (og (sNb (oY 13 (cL (oI o6))))
 (og (sNb (tQ (iL (cL (oI (aCons (cS "north") (aCons (cS "up") (a1 (cS "outside"))))))) (gN 14) (oY 13 (cL (p9 (cV 13) (cL (oH 1 [14] (iL (cV 12)) (gN 0) pE (qZ (aCons (cV 0) (aCons (cV 1) (aCons (cS "hall") (a1 (cS "gate")))))))))))))
 (og (sNb (oY 15 (cL (oH 1 [] (iL (cL (rY (cL (oI (aCons (cS "gate") (aCons (cS "luck") (aCons (cS "tide") (aCons (cS "bell") (a1 (cS "well")))))))) oNo (oAt (cV 4))))) (gN 0) pE (oA 1 (λds=>vI (ds++[])) (aCons (cV 0) (aCons (cC (.int 3)) (a1 (cC (.int 3))))))))))
 (og (sNb (oY 16 (cL (oH 1 [] (iS (cSlS (cS "abcdefg") oNo (oAt (cV 6)))) (gN 0) pE (oA 2 (λds=>pD (ds++[(D.str "one"),D.non])) (aCons (c2 qG (cS "verb") (cV 0)) (a1 (qZ (aCons (c2 qG (cS "v") (cV 0)) (a1 (c2 qG (cS "w") (cV 0))))))))))))
 (og (sNb (oY 17 (n6 uG (aCons (cV 7) (aCons (cV 8) (aCons (cV 9) (aCons (cV 10) (a1 (cV 11)))))))))
 (sXm 14 oV (aCons (n6 rN (aCons (cV 1) (aCons (cV 2) (a1 (cV 3))))) (aCons (cV 15) (aCons (cL (rY (cV 12) oNo (oAt (c2 rS (cV 1) (cC (.int 1)))))) (aCons (cL (rY (cV 13) oNo (oAt (cV 5)))) (aCons (cV 16) (a1 (cV 17))))))))))))))))
def oG:=fnV 1 18 tN
def sQ:FS:=(og (oY 1 (cL (oI (a1 (cC (.bl true))))))
 (og (sTryV oG (a1 (cV 0)) 2 1 [.bl false,.bl false,.bl false,.bl false,.bl false,.bl false])
 (oJ (zj (c1 zB (cV 1))))))
def pZ:=fnD 1 3 sQ
def rj:FS:=(og (sTry oV (aCons (cV 0) (aCons (cL (oI o6)) (aCons (cL (oI o6)) (aCons (cL (oI o6)) (aCons (cL (oI o6)) (a1 (cL (oI o6)))))))) (oJ (cC (.bl true))))
 (oJ (cC (.bl false))))
def oF:=fnD 1 1 rj
def EW:FS:=(og (sX 1 (oI (a1 (n6 sP (aCons (cV 0) (a1 (cC (.int 0))))))))
 (og (oY 2 (cL (oI (aCons (cC (.int 5)) (aCons (cC (.int 7)) (aCons (cC (.int 4)) (aCons (cC (.int 4)) (aCons (cC (.int 10)) (aCons (cC (.int 6)) (aCons (cC (.int 20)) (aCons (cC (.int 5)) (aCons (cC (.int 4)) (aCons (cC (.int 4)) (a1 (cC (.int 60))))))))))))))))
 (og (oY 3 (cL (oI (aCons (cC (.int 1)) (aCons (cC (.int 0)) (aCons (cC (.int 1)) (aCons (cC (.int 1)) (aCons (cC (.int 0)) (aCons (cC (.int 0)) (aCons (cC (.int 0)) (aCons (cC (.int 0)) (aCons (cC (.int 0)) (aCons (cC (.int 1)) (a1 (cC (.int 2))))))))))))))))
 (og (sX 4 (oI o6))
 (og (tQ (iR1 (cC (.int 11))) (gN 5) (og (oY 6 (c2 pW (c2 dIx (cV 3) (cV 5)) (xO pB 1 (a1 (c2 pW (c2 rS (c2 dIx (cV 2) (cV 5)) (c2 dIx (cV 3) (cV 5))) (cC (.int 1)))))))
 (ra (zm 4 (c2 dIx (cL (oI (aCons (cV 6) (a1 (c2 dIx (cV 2) (cV 5)))))) (xO pB 1 (a1 (cC (.int 2)))))))))
 (og (rW 4 4 (c2 dMin2 (u0 (c2 dIx (cV 4) (cC (.int 4)))) (u0 (c2 sE (cC (.int 3)) (c2 dIx (cV 4) (cC (.int 0)))))))
 (og (sIf (vn (cT (c2 (dEq true) (c1 uc (pV tL "names" (n6 (dV oG) (a1 (cV 4))) o6)) (c2 pW (c2 pW (c2 dIx (cV 4) (cC (.int 0))) (c2 dIx (cV 4) (cC (.int 1)))) (cC (.int 1)))))) (oJ (cC (.bl false))) o3)
 (og (oY 7 (cL (p9 (cL (p9 (cL (p9 (cL (oI (aCons (cC (.int 5)) (a1 (c2 dMax2 (cC (.int 1)) (c2 dIx (cFz 4) (cC (.int 1)))))))) (cL (cSl (cV 4) (some 2) (some 6))))) (cL (oI (aCons (c2 dMax2 (cC (.int 1)) (c2 dIx (cV 4) (cC (.int 6)))) (a1 (c2 dMax2 (cC (.int 1)) (c2 dIx (cV 4) (cC (.int 7)))))))))) (cL (cSl (cV 4) (some 8) none)))))
 (og (tQ (iR1 (cC (.int 11))) (gN 5) (sIf (pC (cT (n6 pZ (a1 (cL (p9 (cL (p9 (cL (rY (cV 7) oNo (oAt (cV 5)))) (cL (oI (a1 (c2 pW (c2 dIx (cV 2) (cV 5)) (cC (.int 1)))))))) (cL (rY (cV 7) (oAt (c2 pW (cV 5) (cC (.int 1)))) oNo)))))))) (oJ (cC (.bl false))) o3))
 (og (oY 8 (oA 0 (λds=>o8 (ds++[D.non])) (aCons (cS "hall") (aCons (qZ (a1 (cS "hall"))) (a1 (cS "room"))))))
 (og (oY 9 (oA 0 (λds=>o8 (ds++[])) (aCons (cS "me") (aCons (qZ (a1 (cS "me"))) (aCons (cS "you") (a1 (cS "hall")))))))
 (og (sIf (rk (cT (n6 oF (a1 (cL (oI (aCons (cV 8) (a1 (cV 9)))))))) (rk (pC (cT (n6 oF (a1 (cL (oI (a1 (cV 8)))))))) (pC (cT (n6 oF (a1 (cL (oI (a1 (cV 9)))))))))) (oJ (cC (.bl false))) o3)
 (og (oY 10 (oA 0 (λds=>o8 (ds++[])) (aCons (cS "self") (aCons (qZ (a1 (cS "self"))) (aCons (cS "you") (a1 (cS "hall")))))))
 (oJ (pj (n6 oF (a1 (cL (oI (aCons (cV 8) (aCons (cV 9) (a1 (cV 10)))))))) (n6 oF (a1 (cL (oI o6)))))))))))))))))))
def LX:=fnD 1 11 EW
theorem Ac{b q r n:Int}{s2:Sl}(h0:0<b)(h1:b<1073741824):∃d es' ρ,(og (sIf (vn (cT (c2 Hs (c2 dIx (cV 0) (cC (.int 0))) (cC (.int 0))))) (og (oY 3 (u0 (c2 rh (c2 dIx (cV 0) (cC (.int 0))) (cV 1))))
 (og (rW 0 0 (u0 (c2 wb (c2 dIx (cV 0) (cC (.int 0))) (cV 1))))
 (oJ (cV 3)))) o3)
 (og (rW 0 2 (u0 (c2 pW (c2 dIx (cV 0) (cC (.int 2))) (cC (.int 1)))))
 (og (oY 4 (u0 (c2 rh (c2 sE (c2 pW (c2 pW (c2 dIx (cV 0) (cC (.int 1))) (c2 sE (cC (.int 7919)) (c2 dIx (cV 0) (cC (.int 2))))) (cC (.int 1))) (cC (.int 48271))) (cC (.int 2147483647)))))
 (og (oY 4 (c2 rh (c2 sE (cV 4) (c2 pW (c2 wb (cV 4) (cC (.int 1009))) (cC (.int 69621)))) (cC (.int 2147483647))))
 (oJ (c2 rh (c2 rh (c2 sE (cV 4) (c2 pW (c2 wb (cV 4) (cC (.int 2003))) (cC (.int 40692)))) (cC (.int 2147483399))) (cV 1)))))))
  [.pm [.int q,.int r,.int n],.im (.int b),s2,.un,.un]=some (.rt (.int d) ρ)/\yc ρ=some es'/\0<=d/\d<b/\Ar es':=by
 have hc:vn (cT (c2 Hs (c2 dIx (cV 0) (cC (.int 0))) (cC (.int 0)))) [.pm [.int q,.int r,.int n],.im (.int b),s2,.un,.un]=some (decide (0<q),[.pm [.int q,.int r,.int n],.im (.int b),s2,.un,.un]):=rfl;by_cases hq:0<q
 ·rw[bb hq]at hc;refine⟨q % b,[.int (q / b),.int r,.int n],[.pm [.int (q / b),.int r,.int n],.im (.int b),s2,.im (.int (q % b)),.un],?_,rfl,fU _ (by omega),fM _ h0,.inr ⟨_,_,_,rfl⟩⟩;rw[xS (d:=.int (q % b)) (ρ':=[.pm [.int (q / b),.int r,.int n],.im (.int b),s2,.im (.int (q % b)),.un])];rw[yS hc,om (sF (DG (pI rfl rfl (w6 h0)) rfl)),om (CB (k:=0) (DG (pI rfl rfl (div_pos h0 h1)) rfl) rfl rfl)];rfl
 ·rw[ba hq]at hc;rw[om (show _=some (Out.nx [.pm [.int q,.int r,.int n],.im (.int b),s2,.un,.un]) from by rw[vV hc];rfl)];rw[om (show _=some (Out.nx [.pm [.int q,.int r,.int (n+1)],.im (.int b),s2,.un,.un]) from rfl)];have h7:uw 7919=true:=by decide
  have h4:uw 48271=true:=by decide
  rw[om (sF (DG (d:=.int ((r+7919 * (n+1)+1) * 48271 % 2147483647)) (pI (pI (pI (pI rfl (pI rfl rfl (ud (.inl h7))) rfl) rfl rfl) rfl (ud (.inr h4))) rfl (w6 (by decide))) rfl))];generalize hg:(r+7919 * (n+1)+1) * 48271 % 2147483647=g;have g0:0<=g/\g<2147483647:=by rw[<-hg];exact⟨fU _ (by decide),fM _ (by decide)⟩
  rw[om (sF (d:=.int (g * (g / 1009+69621) % 2147483647)) (pI (pI rfl (pI (pI rfl rfl (div_pos (by decide) (by decide))) rfl rfl) (ud (.inl (CC g0.1 g0.2)))) rfl (w6 (by decide))))];generalize hh:g * (g / 1009+69621) % 2147483647=m;have m0:0<=m/\m<2147483647:=by rw[<-hh];exact⟨fU _ (by decide),fM _ (by decide)⟩
  rw[rX (d:=.int (m * (m / 2003+40692) % 2147483399 % b)) (pI (pI (pI rfl (pI (pI rfl rfl (div_pos (by decide) (by decide))) rfl rfl) (ud (.inl (CC m0.1 m0.2)))) rfl (w6 (by decide))) rfl (w6 h0))];exact⟨_,[.int q,.int r,.int (n+1)],_,rfl,rfl,fU _ (by omega),fM _ h0,.inr ⟨_,_,_,rfl⟩⟩
theorem IT{es:List L4.D}{b:Int}(h:Ar es)(h0:0<b)(h1:b<1073741824):∃d es',pB es [.int b]=some (.int d,es')/\0<=d/\d<b/\Ar es':=by
 rcases h with ⟨c,rfl⟩|⟨q,r,n,rfl⟩
 ·obtain⟨d,es',ρ,e,p,q1,q2,q3⟩:=Ac (q:=c * (if decide ((10:Int) ^ (18:Int).toNat<=c)=true then 1 else 0)) (r:=c % 2147483647) (n:=0) (s2:=.im (.int c)) h0 h1;refine⟨d,es',HM rfl ?_ p,q1,q2,q3⟩;unfold sm;rw[om (ρ':=[.pm [.int (c * (if decide ((10:Int) ^ (18:Int).toNat<=c)=true then 1 else 0)),.int (c % 2147483647),.int 0],.im (.int b),.im (.int c),.un,.un])]
  ·exact e
  ·show sIf _ _ _ [.pm [.int c],.im (.int b),.un,.un,.un]=_;rw[yS (ρ':=[.pm [.int c],.im (.int b),.un,.un,.un]) rfl,om (show _=some (Out.nx [.pm [.int c],.im (.int b),.im (.int c),.un,.un]) from rfl)];rw[om (CB (k:=0) (ds:=[.int c]) (pI rfl rfl (ud (.inr (by split<;>decide)))) rfl rfl)];rfl
 ·obtain⟨d,es',ρ,e,p,q1,q2,q3⟩:=Ac (q:=q) (r:=r) (n:=n) (s2:=.un) h0 h1;refine⟨d,es',HM rfl ?_ p,q1,q2,q3⟩;unfold sm;rw[om (ρ':=[.pm [.int q,.int r,.int n],.im (.int b),.un,.un,.un])]
  ·exact e
  ·show sIf _ _ _ [.pm [.int q,.int r,.int n],.im (.int b),.un,.un,.un]=_;rw[vV (ρ':=[.pm [.int q,.int r,.int n],.im (.int b),.un,.un,.un]) rfl];rfl
theorem dgx{es:List L4.D}{b:Int}{i:Nat}{a:FE}(st:List L4.D->List Sl)(hp:∀es,ql (st es) i=some es)(hq:∀es es',putAt (st es) i es'=st es')(ha:a (st es)=some (.int b,st es))(hs:Ar es)(h0:0<b)(h1:b<1073741824):∃d es',xO pB i (a1 a) (st es)=some (.int d,st es')/\0<=d/\d<b/\Ar es':=by obtain⟨d,es',e,q1,q2,q3⟩:=IT hs h0 h1;exact⟨d,es',by rw[<-hq es es'];exact Nt (hp es) (oE ha rfl) (hp es) e,q1,q2,q3⟩
theorem pk{es:List L4.D}{L:List L4.D}{i:Nat}{a e:FE}(st:List L4.D->List Sl)(hp:∀es,ql (st es) i=some es)(hq:∀es es',putAt (st es) i es'=st es')(he:e (st es)=some (.lst L,st es))(ha:a (st es)=some (.int L.length,st es))(hs:Ar es)(h0:L≠[])(h1:L.length<=1000):∃d∈L,∃es',c2 dIx e (xO pB i (a1 a)) (st es)=some (d,st es')/\Ar es':=by
 have hp0:0<L.length:=List.length_pos_iff.mpr h0;obtain⟨d,es',e1,q1,q2,q3⟩:=dgx st hp hq ha hs (by omega) (by omega);obtain⟨m,rfl⟩:=i4 q1;have hm:m<L.length:=by omega
 exact⟨L[m],fQ hm,es',pI he e1 (Ef (aQ hm)),q3⟩
section
variable{k:Nat}{cap:List Nat}{g:FG}{ft:FT}{fe e:FE}{s a:FA}{ρ ρ1 ρ2:List Sl}{α:Type}{f f2:FS}{np n:Nat}{ds:List L4.D}
theorem qV{m:L4.D}(h:e ρ=some (.bl true,ρ1)):sXp oa (aCons e (aCons (cC m) o6)) ρ=some (.nx ρ1):=by unfold sXp;rw[oE h (oE rfl rfl)];rfl
theorem Bj{m:L4.D}(h:e ρ=some (.bl false,ρ1)):sXp oa (aCons e (aCons (cC m) o6)) ρ=some (.bk ρ1):=by unfold sXp;rw[oE h (oE rfl rfl)];rfl
theorem Bk(h:f ρ=some (.bk ρ1)):og f f2 ρ=some (.bk ρ1):=by unfold og;rw[h]
theorem sf(h:f ρ=some (.nx ρ1)):sNb f ρ=some (.nx ρ1):=by unfold sNb;rw[h]
theorem Pc(h:ds.length=np)(e:f (stE n ds)=some (.nx ρ)):fnX np n f ds=some true:=by unfold fnX;rw[ag h,e]
theorem Gd(h:ds.length=np)(e:f (stE n ds)=some (.bk ρ)):fnX np n f ds=some false:=by unfold fnX;rw[ag h,e]
theorem QR{q:List L4.D->Option Bool}(h:a ρ=some (ds,ρ1))(e:q ds=some true):sXp q a ρ=some (.nx ρ1):=by unfold sXp;rw[h];simp only[e]
theorem QS{q:List L4.D->Option Bool}(h:a ρ=some (ds,ρ1))(e:q ds=some false):sXp q a ρ=some (.bk ρ1):=by unfold sXp;rw[h];simp only[e]
theorem CW(dd h:α->L4.D)(l:List α)(hs:s ρ=some (l.map dd,ρ1))(hl:l.length<=1000)(st:∀a∈l,∃ρ2 ρ3,g (dd a) (yN k cap ρ1)=some ρ2/\fe ρ2=some (h a,ρ3)/\rf cap (ρ3.drop k) ρ1=some ρ1):
  oH k cap s g pE fe ρ=some (l.map h,ρ1):=(Ex hs (by rw[ar];exact hl)).trans (KU dd h l st)
theorem IU(dd h:α->L4.D)(p:α->Bool)(l:List α)(hs:s ρ=some (l.map dd,ρ1))(hl:l.length<=1000)
  (st:∀a∈l,∃ρ2 ρ3,g (dd a) (yN k cap ρ1)=some ρ2/\ft ρ2=some (p a,ρ3)/\(p a=true->∃ρ4,fe ρ3=some (h a,ρ4)/\rf cap (ρ4.drop k) ρ1=some ρ1)/\(p a=false->rf cap (ρ3.drop k) ρ1=some ρ1)):
  oH k cap s g ft fe ρ=some ((l.filter p).map h,ρ1):=(Ex hs (by rw[ar];exact hl)).trans (zH dd p h l st)
theorem yW(dd:α->L4.D)(p:α->Bool)(l:List α)(hs:s ρ=some (l.map dd,ρ1))(hl:l.length<=1000)(st:∀a∈l,∃ρ2 ρ3,g (dd a) (yN k cap ρ1)=some ρ2/\fe ρ2=some (.bl (p a),ρ3)/\rf cap (ρ3.drop k) ρ1=some ρ1):
  c1 rT (cL (oH k cap s g pE fe)) ρ=some (.bl (l.all p),ρ1):=vp (ux (CW dd (λa=>.bl (p a)) l hs hl st)) (KY l p)
theorem Lc(dd:α->L4.D)(p:α->Bool)(l:List α)(hs:s ρ=some (l.map dd,ρ1))(hl:l.length<=1000)(st:∀a∈l,∃ρ2 ρ3,g (dd a) (yN k cap ρ1)=some ρ2/\fe ρ2=some (.bl (p a),ρ3)/\rf cap (ρ3.drop k) ρ1=some ρ1):
  c1 zB (cL (oH k cap s g pE fe)) ρ=some (.bl (l.any p),ρ1):=vp (ux (CW dd (λa=>.bl (p a)) l hs hl st)) (KZ l p)
end
theorem BX{α:Type}{l:List α}{p:α->Bool}{a:α}(h:a∈l)(e:p a=false):l.all p=false:=by rw[gZ];intro z;rw[aF.mp z a h]at e;cases e
theorem Ld{α:Type}{l:List α}{p:α->Bool}(h:∀a∈l,p a=true):l.all p=true:=aF.mpr h
def isT:Option L4.D->Bool
 |some (.bl b)=>b
 |_=>false
def isB:Option L4.D->Bool
 |some (.bl _)=>true
 |_=>false
theorem Pd{o:Option L4.D}(h:isB o=true):o=some (.bl (isT o)):=by
 unfold isB at h;split at h
 ·rfl
 ·cases h
inductive Kd where
 |room|you|plain|fixed|box|lamp
deriving DecidableEq
def Kd.s:Kd->Str
 |.room=>"room" |.you=>"you" |.plain=>"plain" |.fixed=>"fixed" |.box=>"box" |.lamp=>"lamp"
def Kd.pl:Kd->Bool
 |.room=>false|.you=>false|_=>true
def Kd.hd:Kd->Bool
 |.room=>true|.you=>true|.box=>true|_=>false
def Kd.mk:Kd->Bool
 |.box=>true|.lamp=>true|_=>false
structure Tk where
 n:L4.D
 w:L4.D
 k:Kd
 s:L4.D
def tkD(t:Tk):L4.D:=.obj 0 ["name", "words", "kind", "start"] [t.n,t.w,.str t.k.s,t.s]
abbrev LD(T:List Tk):L4.D:=.lst (T.map tkD)
theorem Le(t:Tk):ou qu "words" (tkD t)=some t.w:=rfl
theorem IV(t:Tk):sM [tkD t]=some (.bl t.k.pl):=by obtain⟨n,w,k,s⟩:=t;cases k<;>kernel_rfl
def cK(k:Kd)(T:List Tk):Nat:=(T.filter λt=>decide (t.k=k)).length
def plN(T:List Tk):List Tk:=T.filter λt=>t.k.pl
theorem Aw(T:List Tk)(hl:T.length<=1000):qw [LD T]=some ((plN T).map tkD):=by refine Nu (ρ:=[.im (LD T)]) rfl ?_;exact KB (IU tkD tkD (λt=>t.k.pl) T (ρ1:=[.im (LD T)]) rfl hl λt _=>⟨[.im (tkD t)],[.im (tkD t)],rfl,HJ (BQ (xs:=[t.n,t.w,.str t.k.s,t.s]) (ys:=[]) rfl rfl rfl rfl (IV t)),λ_=>⟨_,rfl,rfl⟩,λ_=>rfl⟩)
def kS(x:Str):Key:=Sum.inr x
theorem DU:∀(ks acc:List Key),acc.Nodup->(ks.foldl ddp acc).Nodup/\(ks.foldl ddp acc).length<=acc.length+ks.length/\((ks.foldl ddp acc).length=acc.length+ks.length->(acc++ks).Nodup)
 |[],acc,h=>⟨h,ay _,λ_=>by rw[bE];exact h⟩
 |k::ks,acc,h=>by
  rw[cb,aB];by_cases hn:acc.any (λz=>decide (z=k))=true
  ·rw[show ddp acc k=acc from ag hn];obtain⟨h1,h2,h3⟩:=DU ks acc h;exact⟨h1,by omega,λz=>by omega⟩
  ·rw[show ddp acc k=acc++[k] from ah hn];have hk:k∉acc:=λz=>hn (eQ.mpr ⟨k,z,bb rfl⟩);have h':(acc++[k]).Nodup:=dw.mpr ⟨h,by simp,λa ha b hb e=>by rw[bR]at hb;subst hb e;exact hk ha⟩;obtain⟨h1,h2,h3⟩:=DU ks (acc++[k]) h';rw[aE,bJ]at h2 h3;exact⟨h1,by omega,λz=>by have:=h3 (by omega);rw[cG]at this;exact this⟩
theorem Bl:∀l:List Str,we (l.map D.str)=some (l.map kS)
 |[]=>rfl
 |x::l=>by show (match v8 (.str x),we (l.map D.str)with|some k,some ks=>some (k::ks)|_,_=>none)=_;rw[Bl l];rfl
variable{l:List Str}
theorem QT(h:(l.map kS).Nodup):l.Nodup:=(jT.mp h).imp λhne z=>hne (aS kS z)
theorem Ge(h:¬l.Nodup)(hl:l.length<=1000):∃m:Nat,m<l.length/\qa (l.map D.str)=some (.int m):=by
 obtain⟨h1,h2,h3⟩:=DU (l.map kS) [] fW;rw[ar,bV,d8]at h2 h3;refine⟨(sG (l.map kS)).length,?_,?_⟩
 ·rcases jI h2 with z|z
  ·exact z
  ·exact ak (QT (h3 z)) h
 ·unfold qa;rw[Bl];simp only;rw[ag (by rw[ar];exact hl)]
theorem DV(hl:l.length<=1000):o9 [.lst (l.map D.str)]=some (.bl (decide l.Nodup)):=by
 refine qD (ρ:=[.im (.lst (l.map D.str))]) rfl ?_;have el:c1 uc (cV 0) [.im (.lst (l.map D.str))]=some (.int l.length,[.im (.lst (l.map D.str))]):=vp rfl (by show some (D.int _)=_;rw[ar]);by_cases h:l.Nodup
 ·refine rX (pI (x:=.int l.length) (y:=.int l.length) (vp rfl (EF (CN h hl))) el ?_);rw[yU];simp[h]
 ·obtain⟨m,h1,h2⟩:=Ge h hl;refine rX (pI (x:=.int m) (y:=.int l.length) (vp rfl (EF h2)) el ?_);rw[yU];simp[h];omega
structure Mk where
 n:Str
 st:Int
 mo:Int
def mkD(m:Mk):L4.D:=.obj 1 ["name", "start", "most"] [.str m.n,.int m.st,.int m.mo]
abbrev MD(M:List Mk):L4.D:=.lst (M.map mkD)
def nS:L4.D->Str
 |.str x=>x
 |_=>""
def Tk.m(t:Tk):Str:=nS t.n
def isIn(d:L4.D)(l:List Str):Bool:=match d with
 |.str x=>decide (x∈l)
 |_=>false
def sOk:L4.D->Bool
 |.str _=>true
 |.non=>true
 |.int _=>true
 |.bl _=>true
 |.tup _=>true
 |_=>false
def CY:L4.D->Bool
 |.non=>true
 |_=>false
theorem DW{d:L4.D}(h:sOk d=true)(l:List Str):oR [d,.lst (l.map D.str)]=some (.bl (isIn d l)):=by
 cases d with
 |str x=>refine qD (ρ:=[.im (.str x),.im (.lst (l.map D.str))]) rfl ?_;refine rX ((ue rfl).trans (pI rfl rfl ?_));rw[zI];rfl
 |non=>rfl
 |int i=>rfl
 |bl i=>rfl
 |tup i=>rfl
 |_=>cases h
def nK(T:List Tk):List Key:=T.map λt=>kS t.m
def vb(n f:Str)(j:L4.D):L4.D:=.obj 2 ["name", "others", "form", "joining"] [.str n,.tup [],.str f,j]
def v9:List L4.D:=[vb "take" "one" .non,vb "drop" "one" .non,vb "open" "one" .non,vb "shut" "one" .non,vb "light" "one" .non,vb "douse" "one" .non,vb "put" "two" (.str "in"),vb "go" "way" .non,vb "wait" "alone" .non]
theorem LY:qS []=some v9:=by kernel_rfl
structure Th where
 n:Str
 w:List Str
 k:Kd
 s:Option Str
def oS:Option Str->L4.D
 |none=>.non
 |some x=>.str x
def Th.tk(t:Th):Tk:=⟨.str t.n,.tup (t.w.map D.str),t.k,oS t.s⟩
def Th.nw(t:Th):Str×List Str:=(t.n,t.w)
variable{ds:List L4.D}
theorem DX(k:Nat)(h:k<=ds.length):cutD ds none (some (k:Int))=ds.take k:=by unfold cutD;rw[HT.GH,HT.JD,Nat.min_eq_left h,ky,Nat.sub_zero]
theorem QU(n:Nat):FM 0 n=(aJ n).map λk:Nat=>D.int (k:Nat):=by unfold FM;simp
variable{ρ ρ1:List Sl}
theorem IW{e:FE}{n:Nat}(h:e ρ=some (.int (n:Nat),ρ1))(hn:n<=100):iR1 e ρ=some ((aJ n).map λk:Nat=>D.int (k:Nat),ρ1):=by unfold iR1;rw[h];dsimp only;rw[ag (by omega),jP,QU]
theorem Pe{e:FE}{lo hi:FO}{ρ2 ρ3:List Sl}{l u:Option Int}(h1:e ρ=some (.lst ds,ρ1))(h2:lo ρ1=some (l,ρ2))(h3:hi ρ2=some (u,ρ3)):rY e lo hi ρ=some (cutD ds l u,ρ3):=by unfold rY;rw[h1];simp only[h2,h3]
structure Wy where
 r:Str
 w:Str
 g:Str
 m:Option Str
def wyD(w:Wy):L4.D:=.tup [.str w.r,.str w.w,.str w.g,oS w.m]
abbrev WD(W:List Wy):L4.D:=.lst (W.map wyD)
structure Vk where
 n:Str
 o:List Str
 f:Str
 j:Option Str
def vkD(v:Vk):L4.D:=.obj 2 ["name", "others", "form", "joining"] [.str v.n,.tup (v.o.map D.str),.str v.f,oS v.j]
theorem EX(l:List L4.D)(n:Nat):oZ [.lst l,.int n]=some (.bl (decide (l.length<=n))):=by
 refine qD (ρ:=[.im (.lst l),.im (.int n)]) rfl ?_;refine rX ((ue rfl).trans (pI (x:=.int l.length) (y:=.int n) (vp rfl rfl) rfl ?_));show some (D.bl (decide ((l.length:Int)<=n)))=_;by_cases h:l.length<=n
 ·rw[bb h,bb (by omega)]
 ·rw[ba h,ba (by omega)]
theorem Ad{e e':FE}(h:e ρ=some (.bl false,ρ1)):pj e e' ρ=some (.bl false,ρ1):=by unfold pj;rw[h]
theorem IY{κ:Type}[DecidableEq κ]:∀(ks acc:List κ),acc.Nodup->(ks.foldl (λacc k=>if k∈acc then acc else acc++[k]) acc).length<=acc.length+ks.length/\((ks.foldl (λacc k=>if k∈acc then acc else acc++[k]) acc).length=acc.length+ks.length ↔ (acc++ks).Nodup)
 |[],acc,h=>⟨ay _,by rw[bE];exact⟨λ_=>h,λ_=>rfl⟩⟩
 |k::ks,acc,h=>by
  rw[cb,aB];by_cases hk:k∈acc
  ·rw[ag hk];obtain⟨h1,h2⟩:=IY ks acc h;exact⟨by omega,λz=>by omega,λz=>ak rfl ((dw.mp z).2.2 k hk k aL)⟩
  ·rw[ah hk];have h':(acc++[k]).Nodup:=dw.mpr ⟨h,by simp,λa ha b hb e=>by rw[bR]at hb;subst hb e;exact hk ha⟩;obtain⟨h1,h2⟩:=IY ks (acc++[k]) h';rw[aE,bJ,cG]at h2;rw[aE,bJ]at h1;refine⟨by omega,?_⟩;rw[show acc.length+(ks.length+1)=acc.length+1+ks.length by omega];exact h2
def prD(w:Wy):L4.D:=.tup [.str w.r,.str w.w]
def pk2(w:Wy):List Str:=[w.r,w.w]
theorem CZ:∀W:List Wy,yi (W.map prD)=some (W.map pk2)
 |[]=>rfl
 |w::W=>by rw[aT,aT];show (match key2 (prD w),yi (W.map prD)with|some k,some ks=>some (k::ks)|_,_=>none)=_;rw[CZ W];rfl
theorem IZ{W:List Wy}(hl:W.length<=20):o9 [.lst (W.map prD)]=some (.bl (decide (W.map pk2).Nodup)):=by
 refine qD (ρ:=[.im (.lst (W.map prD))]) rfl ?_;have el:c1 uc (cV 0) [.im (.lst (W.map prD))]=some (.int W.length,[.im (.lst (W.map prD))]):=vp rfl (by show some (D.int _)=_;rw[ar]);obtain⟨h1,h2⟩:=IY (W.map pk2) [] fW;rw[bV,d8,ar,d6]at h2;rw[bV,d8,ar]at h1;have es:vv pairsU (.lst (W.map prD))=some (.int (uqK (W.map pk2)).length):=by
  cases W with
  |nil=>rfl
  |cons w W=>show (match qa (prD w::W.map prD)with|some r=>some r|none=>pairsU ((w::W).map prD))=_;rw[show qa (prD w::W.map prD)=none from rfl];show pairsU ((w::W).map prD)=_;unfold pairsU;rw[CZ];simp only;rw[ag (by rw[ar];omega)]
 refine rX (pI (x:=.int (uqK (W.map pk2)).length) (y:=.int W.length) (vp rfl es) el ?_);rw[yU];show some (D.bl (decide (((uqK (W.map pk2)).length:Int)=W.length)))=_;have h2':(uqK (W.map pk2)).length=W.length ↔ (W.map pk2).Nodup:=h2;by_cases h:(W.map pk2).Nodup
 ·rw[bb h,bb (by have:=h2'.mpr h;omega)]
 ·rw[ba h,ba λz=>h (h2'.mp (by omega))]
def wB(a b c m:L4.D)(R l:List Str):Bool:=isIn a R&&(isT (px [b])&&(isIn c R&&(CY m||isIn m l)))
theorem Gf{a b c m:L4.D}{R:List Str}(ha:sOk a=true)(hb:isB (px [b])=true)(hc:sOk c=true)(hm:sOk m=true):xw [.tup [a,b,c,m],.lst (R.map D.str),.lst (l.map D.str)]=some (.bl (wB a b c m R l)):=by
 let w:L4.D:=.tup [a,b,c,m];let ρ0:List Sl:=[.im w,.im (.lst (R.map D.str)),.im (.lst (l.map D.str)),.un];let x:Bool:=CY m||isIn m l;let ρ:List Sl:=[.im w,.im (.lst (R.map D.str)),.im (.lst (l.map D.str)),.im (.bl x)];refine qD (ρ:=ρ) rfl ?_;unfold zZ;refine(om (ρ':=ρ0) rfl).trans ?_;have ex:cOr (c2 zv (c2 dIx (cV 0) (cC (.int 3))) (cC D.non)) (n6 oR (aCons (c2 dIx (cV 0) (cC (.int 3))) (a1 (cV 2)))) ρ0=some (.bl x,ρ0):=by
  have en:zv m .non=some (.bl (CY m)):=by
   cases m with
   |_=>first|rfl|cases hm
  have e:c2 zv (c2 dIx (cV 0) (cC (.int 3))) (cC D.non) ρ0=some (.bl (CY m),ρ0):=pI (x:=m) (y:=.non) (pI (x:=w) (y:=.int 3) rfl rfl rfl) rfl en;have e2:n6 oR (aCons (c2 dIx (cV 0) (cC (.int 3))) (a1 (cV 2))) ρ0=some (.bl (isIn m l),ρ0):=oK (ds:=[m,.lst (l.map D.str)]) (oE (pI (x:=w) (y:=.int 3) rfl rfl rfl) (oE rfl rfl)) (DW hm l);unfold cOr;rw[e];cases hq:CY m with
  |true=>show some (D.bl true,ρ0)=some (D.bl (CY m||isIn m l),ρ0);rw[hq];rfl
  |false=>show n6 oR _ ρ0=some (D.bl (CY m||isIn m l),ρ0);rw[e2,hq];rfl
 refine(om (ρ':=ρ) ((sF ex).trans rfl)).trans (rX ?_);have i0:n6 oR (aCons (c2 dIx (cV 0) (cC (.int 0))) (a1 (cV 1))) ρ=some (.bl (isIn a R),ρ):=oK (ds:=[a,.lst (R.map D.str)]) rfl (DW ha R);have i1:n6 px (a1 (c2 dIx (cV 0) (cC (.int 1)))) ρ=some (.bl (isT (px [b])),ρ):=oK (ds:=[b]) rfl (Pd hb);have i2:n6 oR (aCons (c2 dIx (cV 0) (cC (.int 2))) (a1 (cV 1))) ρ=some (.bl (isIn c R),ρ):=oK (ds:=[c,.lst (R.map D.str)]) rfl (DW hc R);have i3:cV 3 ρ=some (.bl x,ρ):=rfl;unfold wB;show _=some (D.bl (isIn a R&&(isT (px [b])&&(isIn c R&&x))),ρ);generalize isIn a R=b0 at i0 ⊢;generalize isT (px [b])=b1 at i1 ⊢;generalize isIn c R=b2 at i2 ⊢;cases b0 with
 |false=>exact Ad i0
 |true=>
  refine(ue i0).trans ?_;cases b1 with
  |false=>exact Ad i1
  |true=>
   refine(ue i1).trans ?_;cases b2 with
   |false=>exact Ad i2
   |true=>exact(ue i2).trans i3
theorem Lf{W:List Wy}{R:List Str}(hl:W.length<=10)(h:∀w∈W,wB (.str w.r) (.str w.w) (.str w.g) (oS w.m) R l=true/\isB (px [.str w.w])=true):qd [.lst (W.map wyD),.lst (R.map D.str),.lst (l.map D.str)]=some (decide (W.map pk2).Nodup):=by
 let A:Sl:=.im (.lst (W.map wyD));let B:Sl:=.im (.lst (R.map D.str));let C:Sl:=.im (.lst (l.map D.str));let ρ:List Sl:=[A,B,C,.im (.bl true)];have so:∀o:Option Str,sOk (oS o)=true:=λo=>by cases o<;>rfl
 have e:oY 3 (pj (n6 oZ (aCons (cV 0) (a1 (cC vH)))) (c1 rT (cL (oH 1 [1,2] (iL (cV 0)) (gN 0) pE (n6 xw (aCons (cV 0) (aCons (cV 1) (a1 (cV 2))))))))) [A,B,C,.un]=some (.nx ρ):=
  (sF ((ue (oK (ds:=[.lst (W.map wyD),.int 10]) rfl ((EX _ 10).trans (by rw[ar,bb hl])))).trans ((yW wyD (λ_=>true) W (ρ1:=[A,B,C,.un]) rfl (by omega) λw hw=>⟨[.im (wyD w),B,C],[.im (wyD w),B,C],rfl,oK (ds:=[wyD w,.lst (R.map D.str),.lst (l.map D.str)]) rfl ((Gf rfl (h w hw).2 rfl (so w.m)).trans (by rw[(h w hw).1])),rfl⟩).trans (by rw[Ld λ_ _=>rfl])))).trans rfl
 have ep:n6 o9 (a1 (cL (oH 1 [] (iL (cV 0)) (gN 0) pE (qZ (aCons (c2 dIx (cV 0) (cC (.int 0))) (a1 (c2 dIx (cV 0) (cC (.int 1))))))))) ρ=some (.bl (decide (W.map pk2).Nodup),ρ):=
  oK (oE (ux (CW wyD prD W (ρ1:=ρ) rfl (by omega) λw _=>⟨[.im (wyD w)],[.im (wyD w)],rfl,rfl,rfl⟩)) rfl) (IZ (by omega))
 generalize decide (W.map pk2).Nodup=b at ep ⊢;cases b with
 |true=>refine Pc (ρ:=ρ) rfl ?_;unfold sk;exact(om (sf e)).trans ((om (qV (ρ1:=ρ) rfl)).trans (qV ep))
 |false=>refine Gd (ρ:=ρ) rfl ?_;unfold sk;exact(om (sf e)).trans ((om (qV (ρ1:=ρ) rfl)).trans (Bj ep))
theorem Lg{e:FE}{b:Bool}(h:e ρ=some (.bl b,ρ1)):zj e ρ=some (.bl !b,ρ1):=by unfold zj;rw[h]
def apB(l m:List Str):Bool:=!l.any λx=>decide (x∈m)
theorem Ae{m:List Str}{d:L4.D}(hd:d=.lst (m.map D.str)\/d=.tup (m.map D.str))(hl:l.length<=900):pq [.lst (l.map D.str),d]=some (.bl (apB l m)):=by
 let ρ:List Sl:=[.im (.lst (l.map D.str)),.im d];refine qD (ρ:=ρ) rfl ?_;have e:c1 zB (cL (oH 1 [1] (iL (cV 0)) (gN 0) pE (c2 (dIn false) (cV 0) (cV 1)))) ρ=some (.bl (l.any λx=>decide (x∈m)),ρ):=Lc D.str (λx=>decide (x∈m)) l rfl (by omega) λx hx=>⟨[.im (.str x),.im d],[.im (.str x),.im d],rfl,pI rfl rfl (by
  rcases hd with rfl|rfl
  ·rw[zI];rfl
  ·rw[Io];rfl),rfl⟩
 exact rX (Lg e)
def tw(t:Tk):List Str:=match t.w with
 |.tup ds=>ds.map nS
 |_=>[]
def Vk.ws(v:Vk):List Str:=v.n::v.o
def k9:List Vk:=[⟨"take", [],"one", none⟩,⟨"drop", [],"one", none⟩,⟨"open", [],"one", none⟩,⟨"shut", [],"one", none⟩,⟨"light", [],"one", none⟩,⟨"douse", [],"one", none⟩,⟨"put", [],"two", some "in"⟩,⟨"go", [],"way", none⟩,⟨"wait", [],"alone", none⟩]
theorem QV:v9=k9.map vkD:=rfl
def nwL:List Str:=["the", "a", "undo", "restart"]
theorem Ag{a b c s5 s6 s7:Sl}:∀(P:List Tk) (acc:List Str) (s:Sl),acc.length+4 * P.length<=900->(∀t∈P,t.w=.tup ((tw t).map D.str)/\(tw t).length<=4)->
  ∃s':Sl,forL (gN 4) (ra (vt 3 (c1 (ou qu "words") (cV 4)))) (P.map tkD) [a,b,c,.ls (acc.map D.str),s,s5,s6,s7]=some (.nx [a,b,c,.ls ((acc++P.flatMap tw).map D.str),s',s5,s6,s7])
 |[],acc,s,_,_=>⟨s,by simp;rfl⟩
 |t::P,acc,s,hl,hw=>by
  obtain⟨ew,h3⟩:=hw t aL;rw[aB]at hl;obtain⟨s',e⟩:=Ag P (acc++tw t) (.im (tkD t)) (by rw[aE];omega) (λu hu=>hw u (aM _ hu));refine⟨s',?_⟩;rw[aT];unfold forL;have e1:ra (vt 3 (c1 (ou qu "words") (cV 4))) [a,b,c,.ls (acc.map D.str),.im (tkD t),s5,s6,s7]=some (.nx [a,b,c,.ls ((acc++tw t).map D.str),.im (tkD t),s5,s6,s7]):=by refine(yT (d:=.non) (ρ':=[a,b,c,.ls ((acc++tw t).map D.str),.im (tkD t),s5,s6,s7]) ?_);unfold vt;rw[show c1 (ou qu "words") (cV 4) [a,b,c,.ls (acc.map D.str),.im (tkD t),s5,s6,s7]=some (.tup ((tw t).map D.str),[a,b,c,.ls (acc.map D.str),.im (tkD t),s5,s6,s7]) from vp rfl ((Le t).trans (aS some ew))];show (if (acc.map D.str).length+((tw t).map D.str).length<=1000 then some (D.non,[a,b,c,.ls (acc.map D.str++(tw t).map D.str),.im (tkD t),s5,s6,s7])else none)=_;rw[ag (by rw[ar,ar];omega),c5]
  rw[show gN 4 (tkD t) [a,b,c,.ls (acc.map D.str),s,s5,s6,s7]=some [a,b,c,.ls (acc.map D.str),.im (tkD t),s5,s6,s7] from rfl];simp only[e1];rw[e,hE,cG]
theorem EY{a b c s3 s4 s7:Sl}:∀(V:List Vk) (acc:List Str) (s:Sl),acc.length+3 * V.length<=900->(∀v∈V,v.o.length<=2)->
  ∃s',forL (gN 6) (ra (vt 5 (ye (qZ (a1 (c1 (ou oU "name") (cV 6)))) (c1 (ou qo "others") (cV 6))))) (V.map vkD) [a,b,c,s3,s4,.ls (acc.map D.str),s,s7]=some (.nx [a,b,c,s3,s4,.ls ((acc++V.flatMap Vk.ws).map D.str),s',s7])
 |[],acc,s,_,_=>⟨s,by simp;rfl⟩
 |v::V,acc,s,hl,hw=>by
  have h3:=hw v aL;rw[aB]at hl;have lw:v.ws.length<=3:=by unfold Vk.ws;rw[aB];omega
  obtain⟨s',e⟩:=EY (a:=a) (b:=b) (c:=c) (s3:=s3) (s4:=s4) (s7:=s7) V (acc++v.ws) (.im (vkD v)) (by rw[aE];omega) λu hu=>hw u (aM _ hu);refine⟨s',?_⟩;rw[aT];unfold forL;let ρ:List Sl:=[a,b,c,s3,s4,.ls (acc.map D.str),.im (vkD v),s7];have e0:ye (qZ (a1 (c1 (ou oU "name") (cV 6)))) (c1 (ou qo "others") (cV 6)) ρ=some (.tup (v.ws.map D.str),ρ):=by show (if ([]:List L4.D).length+(v.o.map D.str).length<=900 then some (D.tup (.str v.n::[]++v.o.map D.str),ρ)else none)=_;rw[ag (by rw[ar];simp only[bV];omega)];rfl
  have e1:ra (vt 5 (ye (qZ (a1 (c1 (ou oU "name") (cV 6)))) (c1 (ou qo "others") (cV 6)))) ρ=some (.nx [a,b,c,s3,s4,.ls ((acc++v.ws).map D.str),.im (vkD v),s7]):=by refine yT (d:=.non) ?_;unfold vt;rw[e0];show (if (acc.map D.str).length+(v.ws.map D.str).length<=1000 then some (D.non,[a,b,c,s3,s4,.ls (acc.map D.str++v.ws.map D.str),.im (vkD v),s7])else none)=_;rw[ag (by rw[ar,ar];omega),c5]
  rw[show gN 6 (vkD v) [a,b,c,s3,s4,.ls (acc.map D.str),s,s7]=some ρ from rfl];simp only[e1];rw[e,hE,cG]
def jsN(V:List Vk):List Str:=V.filterMap Vk.j
theorem QW(V:List Vk)(hl:V.length<=900)(h2:cV 2 ρ=some (.lst (V.map vkD),ρ)):oH 1 [] (iL (cV 2)) (gN 0) (cT (c2 ua (c1 (ou pP "joining") (cV 0)) (cC D.non))) (c1 (ou pP "joining") (cV 0)) ρ=some ((jsN V).map D.str,ρ):=by
 have hs:iL (cV 2) ρ=some (V.map vkD,ρ):=by unfold iL;rw[h2]
 refine(IU (k:=1) (cap:=[]) (g:=gN 0) (ft:=cT (c2 ua (c1 (ou pP "joining") (cV 0)) (cC D.non))) (fe:=c1 (ou pP "joining") (cV 0)) vkD (λv=>oS v.j) (λv=>v.j.isSome) V hs (by omega) λv _=>⟨[.im (vkD v)],[.im (vkD v)],rfl,?_,λ_=>⟨[.im (vkD v)],rfl,rfl⟩,λ_=>rfl⟩).trans ?_
 ·obtain⟨n,o,f,j⟩:=v;cases j<;>rfl
 ·congr 2;unfold jsN;clear hs h2 hl
  induction V with
  |nil=>rfl
  |cons v V ih=>
   obtain⟨n,o,f,j⟩:=v;cases j with
   |none=>rw[List.filter_cons_of_neg (by simp),List.filterMap_cons_none rfl];exact ih
   |some x=>rw[List.filter_cons_of_pos (by simp)];exact aS (D.str x::·) ih
def Rw(O U bt:List Str):Bool:=decide U.Nodup&&(apB (U++bt) O&&(apB (U++bt) nwL&&apB bt U))
theorem I0{T:List Tk}{W:List Wy}{V:List Vk}(hl:T.length<=20)(hw:∀t∈plN T,t.w=.tup ((tw t).map D.str)/\(tw t).length<=4)(hW:W.length<=20)(hV:V.length<=40)(ho:∀v∈V,v.o.length<=2):
  pG [LD T,.lst (W.map wyD),.lst (V.map vkD)]=some (Rw ((plN T).flatMap tw) (V.flatMap Vk.ws) (jsN V++W.map Wy.w)):=by
 let P:=plN T;have hP:P.length<=20:=bz (List.length_filter_le _ _) hl;let A:Sl:=.im (LD T);let B:Sl:=.im (.lst (W.map wyD));let C:Sl:=.im (.lst (V.map vkD));obtain⟨s',e1⟩:=Ag (a:=A) (b:=B) (c:=C) (s5:=.un) (s6:=.un) (s7:=.un) P [] .un (by simp;omega) hw;let O:=P.flatMap tw;let U:=V.flatMap Vk.ws;let m1:Sl:=.ls (O.map D.str);obtain⟨z,e2⟩:=EY (a:=A) (b:=B) (c:=C) (s3:=m1) (s4:=s') (s7:=.un) V [] .un (by simp;omega) ho;let bt:List Str:=jsN V++W.map Wy.w;let Z:Sl:=.im (.lst (bt.map D.str));have lU:U.length<=120:=by
  have:∀V:List Vk,(∀v∈V,v.o.length<=2)->(V.flatMap Vk.ws).length<=3 * V.length:=by
   intro V
   induction V with
   |nil=>exact λ_=>ay _
   |cons v V ih=>intro h;have h1:=h v aL;have h2:=ih λu hu=>h u (aM _ hu);rw[hE,aE,aB];show (v.n::v.o).length+_<=_;rw[aB];omega
  have:=this V ho;show (V.flatMap Vk.ws).length<=120;omega
 have lJ:(jsN V).length<=40:=bz (List.length_filterMap_le _ _) hV;have lB:bt.length<=60:=by show (jsN V++W.map Wy.w).length<=60;rw[aE,ar];omega
 have lUB:(U++bt).length<=900:=by rw[aE];omega
 let UL:L4.D:=.lst (U.map D.str);have hd:∀{o:Out},(og (sXp oa (aCons (n6 o9 (a1 (cFz 5))) (a1 (cS "two verbs' names are alike"))))
 (og (sXp oa (aCons (n6 pq (aCons (cL (p9 (cFz 5) (cV 7))) (a1 (cFz 3)))) (a1 (cS "a verb's, way's or joining word is a word of a thing"))))
 (og (sXp oa (aCons (n6 pq (aCons (cL (p9 (cFz 5) (cV 7))) (a1 (cC qb)))) (a1 (cS "the, a, undo or restart is a word of the world"))))
 (sXp oa (aCons (n6 pq (aCons (cV 7) (a1 (cFz 5)))) (a1 (cS "a way's or joining word is a verb's name"))))))) [A,B,C,m1,s',.ls (U.map D.str),z,Z]=some o->qe (stE 8 [LD T,.lst (W.map wyD),.lst (V.map vkD)])=some o:=λ{o} q=>by
  unfold qe;refine(om (ρ':=[A,B,C,.ls [],.un,.un,.un,.un]) rfl).trans ?_;refine(om (ρ':=[A,B,C,m1,s',.un,.un,.un]) (sf ((zz (ds:=P.map tkD) (ρ1:=[A,B,C,.ls [],.un,.un,.un,.un]) ?_).trans e1))).trans ?_
  ·unfold iL;rw[ux (oK (g:=qw) (ds:=[LD T]) (ρ1:=[A,B,C,.ls [],.un,.un,.un,.un]) rfl (Aw T (by omega)))]
  refine(om (ρ':=[A,B,C,m1,s',.ls [],.un,.un]) rfl).trans ?_;refine(om (ρ':=[A,B,C,m1,s',.ls (U.map D.str),z,.un]) (sf ((zz (ds:=V.map vkD) (ρ1:=[A,B,C,m1,s',.ls [],.un,.un]) rfl).trans e2))).trans ?_;refine(om (ρ':=[A,B,C,m1,s',.ls (U.map D.str),z,Z]) (sf ((sF (ux (BN (ux (QW V (by omega) rfl)) (ux (CW wyD (λw=>.str w.w) W (ρ1:=[A,B,C,m1,s',.ls (U.map D.str),z,.un]) rfl (by omega) λw _=>⟨[.im (wyD w)],[.im (wyD w)],rfl,rfl,rfl⟩)) (by rw[ar,ar];omega)))).trans ?_))).trans q;show some (Out.nx [A,B,C,m1,s',.ls (U.map D.str),z,.im (.lst ((jsN V).map D.str++W.map λw=>.str w.w))])=_;rw[show (jsN V).map D.str++(W.map λw=>D.str w.w)=bt.map D.str by show _=(jsN V++W.map Wy.w).map D.str;rw[c5,dN];rfl]
 have x1:n6 o9 (a1 (cFz 5)) [A,B,C,m1,s',.ls (U.map D.str),z,Z]=some (.bl (decide U.Nodup),[A,B,C,m1,s',.im UL,z,Z]):=oK (ds:=[UL]) rfl (DV (by omega));have ca:∀(q:Sl),cL (p9 (cFz 5) (cV 7)) [A,B,C,q,s',.im UL,z,Z]=some (.lst ((U++bt).map D.str),[A,B,C,q,s',.im UL,z,Z]):=λq=>(ux (BN (xs:=U.map D.str) (ys:=bt.map D.str) (ρ1:=[A,B,C,q,s',.im UL,z,Z]) rfl rfl (by rw[ar,ar];omega))).trans (by rw[<-c5]);let OI:Sl:=.im (.lst (O.map D.str));have x2:n6 pq (aCons (cL (p9 (cFz 5) (cV 7))) (a1 (cFz 3))) [A,B,C,m1,s',.im UL,z,Z]=some (.bl (apB (U++bt) O),[A,B,C,OI,s',.im UL,z,Z]):=oK (oE (ca m1) (oE rfl rfl)) (Ae (l:=U++bt) (m:=O) (.inl rfl) lUB);have x3:n6 pq (aCons (cL (p9 (cFz 5) (cV 7))) (a1 (cC qb))) [A,B,C,OI,s',.im UL,z,Z]=some (.bl (apB (U++bt) nwL),[A,B,C,OI,s',.im UL,z,Z]):=oK (oE (ca OI) (oE rfl rfl)) (Ae (l:=U++bt) (m:=nwL) (.inr rfl) lUB);have x4:n6 pq (aCons (cV 7) (a1 (cFz 5))) [A,B,C,OI,s',.im UL,z,Z]=some (.bl (apB bt U),[A,B,C,OI,s',.im UL,z,Z]):=oK (oE rfl (oE rfl rfl)) (Ae (l:=bt) (m:=U) (.inl rfl) (by omega));show _=some (decide U.Nodup&&(apB (U++bt) O&&(apB (U++bt) nwL&&apB bt U)));generalize decide U.Nodup=b1 at x1 ⊢;generalize apB (U++bt) O=b2 at x2 ⊢;generalize apB (U++bt) nwL=b3 at x3 ⊢;generalize apB bt U=b4 at x4 ⊢;cases b1 with
 |false=>exact Gd rfl (hd (Bk (Bj x1)))
 |true=>
  cases b2 with
  |false=>exact Gd rfl (hd ((om (qV x1)).trans (Bk (Bj x2))))
  |true=>
   cases b3 with
   |false=>exact Gd rfl (hd ((om (qV x1)).trans ((om (qV x2)).trans (Bk (Bj x3)))))
   |true=>
    cases b4 with
    |false=>exact Gd rfl (hd ((om (qV x1)).trans ((om (qV x2)).trans ((om (qV x3)).trans (Bj x4)))))
    |true=>exact Pc rfl (hd ((om (qV x1)).trans ((om (qV x2)).trans ((om (qV x3)).trans (qV x4)))))
end K05x
set_option maxRecDepth 1000000
namespace K05x
open PySem L2 L3 L4
def rmA:List Str:=["hall", "x", "cellar", "loft", "porch", "attic"]
def tnA:List Str:=["thingaab", "thingaac", "thingaad", "thingaae", "thingaaf", "thingaag", "thingaah", "thingaai"]
def sgA:List Str:=["b", "c", "d", "e", "f", "g", "h", "i"]
def kdA:List Kd:=[.plain,.box,.lamp,.fixed]
def meT:Tk:=⟨.str "me", .tup [.str "me"],.you,.str "hall"⟩
def rmT(x:Str):Tk:=⟨.str x,.tup [.str x],.room,.non⟩
def thT(ws:Nat->L4.D)(k:Nat):Tk:=⟨.str (tnA.getD k ""),ws k,kdA.getD (k % 4) .plain,.str (if k % 2=0 then "hall" else "me")⟩
def tkL(r t:Nat)(ws:Nat->L4.D):List Tk:=(rmA.take r).map rmT++((aJ t).map (thT ws)++[meT])
def wdS(w k:Nat):List Str:=((["k", "l", "m", "n", "o", "p"]:List Str).take w).map λo=>("longerword" : Str)++sgA.getD k "" ++ o
def wdD(w k:Nat):L4.D:=.tup ((wdS w k).map D.str)
def mkL(m:Nat):List Mk:=((["gate", "luck", "tide", "bell", "well"]:List Str).take m).map λx=>⟨x,3,3⟩
def rg(a n:Nat):List Nat:=(aJ n).map (· + a)
def x2(l m:List Nat):List (Nat×Nat):=l.flatMap λa=>m.map λb=>(a,b)
def x3(l m n:List Nat):List (Nat×Nat×Nat):=l.flatMap λa=>(x2 m n).map λb=>(a,b)
theorem oX{a n k:Nat}(h1:a<=k)(h2:k<a+n):k∈rg a n:=bc.mpr ⟨k - a,bj.mpr (by omega),by omega⟩
theorem pT{l m:List Nat}{a b:Nat}(h1:a∈l)(h2:b∈m):(a,b)∈x2 l m:=j7.mpr ⟨a,h1,bc.mpr ⟨b,h2,rfl⟩⟩
theorem tY{l m n:List Nat}{a b c:Nat}(h1:a∈l)(h2:b∈m)(h3:c∈n):(a,b,c)∈x3 l m n:=j7.mpr ⟨a,h1,bc.mpr ⟨(b,c),pT h2 h3,rfl⟩⟩
theorem tab{α β:Type}{f g:α->β}{l:List α}(h:l.map f=l.map g){a:α}(ha:a∈l):f a=g a:=List.map_inj_left.mp h a ha
abbrev nI(n:Nat):L4.D:=.int (n:Int)
theorem Ja:((x3 (rg 1 6) (rg 0 9) (rg 1 5)).map λp=>rN [nI p.1,nI p.2.1,nI p.2.2])=(x3 (rg 1 6) (rg 0 9) (rg 1 5)).map λp=>some (LD (tkL p.1 p.2.1 (wdD p.2.2))):=by kernel_rfl
section
variable(ws:Nat->L4.D)
theorem DY:((x2 (rg 1 6) (rg 0 9)).map λp=>qR [LD (tkL p.1 p.2 ws)])=(x2 (rg 1 6) (rg 0 9)).map λp=>some (aP p.1 5&&aP p.2 7):=by kernel_rfl
theorem Jb:((rg 1 5).map λm=>rK [MD (mkL m)])=(rg 1 5).map λm=>some (aP m 4):=by kernel_rfl
theorem Rx:((x2 (rg 1 5) (rg 0 8)).map λp=>sN [LD (tkL p.1 p.2 ws)])=(x2 (rg 1 5) (rg 0 8)).map λp=>some true:=by kernel_rfl
end
section
variable(ws:Nat->L4.D)
theorem Ry:((x3 (rg 1 5) (rg 0 8) (rg 1 4)).map λp=>tS [LD (tkL p.1 p.2.1 ws),MD (mkL p.2.2)])=(x3 (rg 1 5) (rg 0 8) (rg 1 4)).map λp=>some true:=by kernel_rfl
end
theorem Pf:((x3 (rg 1 5) (rg 0 8) (rg 1 4)).map λp=>oW [LD (tkL p.1 p.2.1 (wdD p.2.2))])=(x3 (rg 1 5) (rg 0 8) (rg 1 4)).map λp=>some true:=by kernel_rfl
theorem RA:((rg 1 7).map λt=>oW [LD (tkL 5 t (wdD 5))])=(rg 1 7).map λt=>some false:=by kernel_rfl
def rmS(r:Nat):List Str:=rmA.take r
def mnS(t m:Nat):List Str:=((["thingaac", "thingaad", "thingaag", "thingaah"]:List Str).take ([0,0,1,2,2,2,3,4].getD t 0))++((["gate", "luck", "tide", "bell", "well"]:List Str).take m)
def vkL(v:Nat):List Vk:=((["a", "b", "c", "d", "e", "f", "g"]:List Str).take v).map λx=>⟨("verb" : Str)++x,[("v" : Str)++x,("w" : Str)++x],"one", none⟩
def wyA(r:Nat):List Wy:=(["north", "up", "outside"]:List Str).flatMap λx=>((rmA.take 5).take r).map λn=>⟨n,x,"hall", some "gate"⟩
def wyL(r y:Nat):List Wy:=(wyA r).take y
section
variable(ws:Nat->L4.D)
theorem RD:((x3 (rg 1 5) (rg 0 8) (rg 1 4)).map λp=>sj [LD (tkL p.1 p.2.1 ws),MD (mkL p.2.2)])=(x3 (rg 1 5) (rg 0 8) (rg 1 4)).map λp=>some ((mnS p.2.1 p.2.2).map D.str):=by kernel_rfl
theorem RE:((rg 1 5).map λr=>uC [.lst ((rmS (r - 1)).map D.str),.lst ((rmS r).map D.str)])=(rg 1 5).map λr=>some true:=by kernel_rfl
theorem QX:((rg 0 8).map λv=>rL [.lst ((vkL v).map vkD)])=(rg 0 8).map λv=>some (aP v 6):=by kernel_rfl
end
theorem Pg:((x2 (rg 0 8) (rg 1 4)).map λp=>isIn (.str "gate") (mnS p.1 p.2))=(x2 (rg 0 8) (rg 1 4)).map λp=>true:=by kernel_rfl
theorem RF:((rg 1 5).all λr=>(wyA r).all λw=>isIn (.str w.r) (rmS r)&&(isT (px [.str w.w])&&(isB (px [.str w.w])&&(isIn (.str w.g) (rmS r)&&(match w.m with|some x=>decide (x="gate")|none=>false)))))=true:=by kernel_rfl
theorem RG:((rg 1 5).all λr=>decide ((wyA r).map pk2).Nodup&&decide ((wyA r).length=3 * r))=true:=by kernel_rfl
theorem Jc{r y t m:Nat}(hr:r∈rg 1 5)(hy:y<=10)(ht:t∈rg 0 8)(hm:m∈rg 1 4):qd [WD (wyL r y),.lst ((rmS r).map D.str),.lst ((mnS t m).map D.str)]=some true:=by
 have hg:=tab Pg (pT ht hm);have hn:=aF.mp RG r hr;rw[aC,bh,bh]at hn;refine(Lf (W:=wyL r y) (by unfold wyL;rw[aZ];omega) λw hw=>?_).trans ?_
 ·have q:=aF.mp (aF.mp RF r hr) w (fK hw);simp only[aC]at q;obtain⟨q1,q2,q3,q4,q5⟩:=q;refine⟨?_,q3⟩;unfold wB;rw[q1,q2,q4];split at q5
  ·rename_i x e;rw[e];obtain rfl:=cH q5;show (true&&(true&&(true&&(CY (.str "gate")||isIn (.str "gate") (mnS t m)))))=true;rw[hg];rfl
  ·cases q5
 ·rw[bb];unfold wyL;rw[fZ];exact hn.1.sublist (gU _ _)
theorem Ph(R l:L4.D):qd [WD (wyL 5 11),R,l]=some false:=by kernel_rfl
def plS(t w:Nat):List Str:=(aJ t).flatMap (wdS w)
theorem RH(ws:Nat->L4.D):((x2 (rg 1 5) (rg 0 8)).map λp=>(plN (tkL p.1 p.2 ws)).map Tk.w)=(x2 (rg 1 5) (rg 0 8)).map λp=>(aJ p.2).map ws:=by kernel_rfl
def U(v:Nat):List Str:=(vkL v++k9).flatMap Vk.ws
def btL:List Str:=["in", "north", "up", "outside"]
theorem O_t:((x3 (rg 1 5) (rg 0 8) (rg 1 4)).map λp=>(plN (tkL p.1 p.2.1 (wdD p.2.2))).flatMap tw)=(x3 (rg 1 5) (rg 0 8) (rg 1 4)).map λp=>plS p.2.1 p.2.2:=by kernel_rfl
theorem RI:((x2 (rg 0 8) (rg 1 4)).all λp=>(plS p.1 p.2).all λx=>decide (x∈plS 7 4))=true:=by kernel_rfl
theorem U_t:((rg 0 7).all λv=>decide (U v).Nodup&&((U v).all λx=>decide (x∈U 6)))=true:=by kernel_rfl
theorem j_t:((rg 0 7).map λv=>jsN (vkL v++k9))=(rg 0 7).map λv=>(["in"]:List Str):=by kernel_rfl
theorem b_t:((rg 1 5).all λr=>(wyA r).all λw=>decide (w.w∈btL))=true:=by kernel_rfl
theorem RJ:(apB (U 6++btL) (plS 7 4)&&(apB (U 6++btL) nwL&&apB btL (U 6)))=true:=by kernel_rfl
theorem DZ{l l' m m':List Str}(hl:∀x∈l,x∈l')(hm:∀x∈m,x∈m')(h:apB l' m'=true):apB l m=true:=by unfold apB at h ⊢;rw[dY,jN]at h ⊢;intro x hx z;exact h x (hl x hx) (bb (hm x (cH z)))
section
variable{r t w y v:Nat}(hr:r∈rg 1 5)(ht:t∈rg 0 8)(hw:w∈rg 1 4)(hy:y<=10)(hv:v∈rg 0 7)
include hr ht hw hy hv
theorem Pi:pG [LD (tkL r t (wdD w)),WD (wyL r y),.lst ((vkL v++k9).map vkD)]=some true:=by
 have l1:(tkL r t (wdD w)).length<=20:=by obtain⟨a,ha,rfl⟩:=bc.mp ht;have:=bj.mp ha;unfold tkL;simp only[aE,ar,cU,aZ,bJ];show min r 6+(a+0+1)<=20;omega
 have w4:w<=4:=by obtain⟨a,ha,rfl⟩:=bc.mp hw;have:=bj.mp ha;omega
 refine(I0 l1 (λu hu=>?_) (by unfold wyL;rw[aZ];omega) ?_ λu hu=>?_).trans ?_
 ·have q:u.w∈(plN (tkL r t (wdD w))).map Tk.w:=gH hu;rw[tab (RH (wdD w)) (pT hr ht)]at q;obtain⟨k,_,e⟩:=bc.mp q;have e2:tw u=wdS w k:=by unfold tw;rw[<-e];show ((wdS w k).map D.str).map nS=_;rw[dN];exact gj _
  rw[e2,<- e];refine⟨rfl,?_⟩;unfold wdS;rw[ar,aZ];omega
 ·rw[aE];unfold vkL;rw[ar,aZ];show min v 7+9<=40;omega
 ·rcases dD.mp hu with hu|hu
  ·obtain⟨x,_,rfl⟩:=bc.mp hu;exact ay 2
  ·exact cH (aF.mp (show (k9.all λv=>decide (v.o.length<=2))=true by rfl) u hu)
 ·rw[tab O_t (tY hr ht hw),tab j_t hv];have q1:=aF.mp U_t v hv;have q2:=aF.mp RI (t,w) (pT ht hw);have q3:=RJ;simp only[aC,bh]at q1 q3;obtain⟨u1,u2⟩:=q1;obtain⟨a1,a2,a3⟩:=q3;have us:∀x∈U v,x∈U 6:=λx hx=>cH (aF.mp u2 x hx);have os:∀x∈plS t w,x∈plS 7 4:=λx hx=>cH (aF.mp q2 x hx);have bs:∀x∈(["in"]:List Str)++(wyL r y).map Wy.w,x∈btL:=λx hx=>by
   rcases dD.mp hx with hx|hx
   ·rw[bR.mp hx];exact aL
   ·obtain⟨z,hz,rfl⟩:=bc.mp hx;exact cH (aF.mp (aF.mp b_t r hr) z (fK hz))
  have ub:∀x∈U v++((["in"]:List Str)++(wyL r y).map Wy.w),x∈U 6++btL:=λx hx=>by
   rcases dD.mp hx with hx|hx
   ·exact fH _ (us x hx)
   ·exact bQ _ (bs x hx)
  show some (decide (U v).Nodup&&(apB (U v++((["in"]:List Str)++(wyL r y).map Wy.w)) (plS t w)&&(apB (U v++((["in"]:List Str)++(wyL r y).map Wy.w)) nwL&&apB ((["in"]:List Str)++(wyL r y).map Wy.w) (U v))))=some true;rw[bb u1,DZ ub os a1,DZ ub (λ_ h=>h) a2,DZ bs us a3];rfl
end
def bo(b:Bool)(ρ:List Sl):Out:=if b then .nx ρ else .bk ρ
def RB(f:FS)(ρ:List Sl)(b:Bool):Prop:=∃ρ',f ρ=some (bo b ρ')
variable{ρ ρ1:List Sl}{ds:List L4.D}
theorem BY{q:List L4.D->Option Bool}{a:FA}{b:Bool}(h:a ρ=some (ds,ρ1))(e:q ds=some b):sXp q a ρ=some (bo b ρ1):=by
 cases b with
 |true=>exact QR h e
 |false=>exact QS h e
variable{f':FS}
theorem RB.seq{f:FS}{b b':Bool}(h:f ρ=some (bo b ρ1))(h':b=true->RB f' ρ1 b'):RB (og f f') ρ (b&&b'):=by
 cases b with
 |true=>obtain⟨ρ',e⟩:=h' rfl;exact⟨ρ',(om h).trans e⟩
 |false=>exact⟨ρ1,Bk h⟩
theorem RB.nx{f:FS}{b:Bool}(h:f ρ=some (.nx ρ1))(h':RB f' ρ1 b):RB (og f f') ρ b:=by obtain⟨ρ',e⟩:=h';exact⟨ρ',(om h).trans e⟩
theorem RK{np n:Nat}{f:FS}{b:Bool}(h:ds.length=np)(r:RB f (stE n ds) b):fnX np n f ds=some b:=by
 obtain⟨ρ',e⟩:=r;cases b with
 |true=>exact Pc h e
 |false=>exact Gd h e
theorem QY(ws:Nat->L4.D)(a b c d e f:Sl):((x2 (rg 1 5) (rg 0 8)).map λp=>oH 1 [] (iL (cV 0)) (gN 0) (cT (c2 (dEq false) (c1 (ou pQ "kind") (cV 0)) (cS "room"))) (c1 (ou oU "name") (cV 0)) [.im (LD (tkL p.1 p.2 ws)),a,b,c,d,e,f])=(x2 (rg 1 5) (rg 0 8)).map λp=>some ((rmS p.1).map D.str,[.im (LD (tkL p.1 p.2 ws)),a,b,c,d,e,f]):=by kernel_rfl
structure Sz where
 r:Nat
 t:Nat
 w:Nat
 m:Nat
 y:Nat
 v:Nat
def Sz.T(z:Sz):L4.D:=LD (tkL z.r z.t (wdD z.w))
def Sz.M(z:Sz):L4.D:=MD (mkL z.m)
def Sz.K(z:Sz):L4.D:=.lst ((rmS (z.r - 1)).map D.str)
def Sz.W(z:Sz):L4.D:=WD (wyL z.r z.y)
def Sz.V(z:Sz):L4.D:=.lst ((vkL z.v).map vkD)
def Sz.P(z:Sz):List L4.D:=[z.T,z.M,z.K,z.W,z.V,.lst v9]
theorem vb2(v:Nat):(.lst ((vkL v).map vkD++v9):L4.D)=.lst ((vkL v++k9).map vkD):=by rw[QV,<- c5]
theorem sR(z:Sz){b1 b2 b5 b7 b8 b9:Bool}(h1:qR [z.T]=some b1)(h2:b1=true->rK [z.M]=some b2)(h3:b2=true->z.r∈rg 1 5/\z.t∈rg 0 8/\z.m∈rg 1 4/\oW [z.T]=some b5)
  (h7:b5=true->qd [z.W,.lst ((rmS z.r).map D.str),.lst ((mnS z.t z.m).map D.str)]=some b7) (h8:b7=true->rL [z.V]=some b8) (h9:b8=true->pG [z.T,z.W,.lst ((vkL z.v++k9).map vkD)]=some b9):
  qg z.P=some (b1&&(b2&&(true&&(true&&(b5&&(true&&(b7&&(b8&&b9)))))))):=by
 let ρ0:List Sl:=stE 7 z.P;let ρ:List Sl:=[.im z.T,.im z.M,.im z.K,.im z.W,.im z.V,.im (.lst v9),.im (.lst ((rmS z.r).map D.str))];refine RK rfl ?_;unfold tT;refine RB.seq (ρ1:=ρ0) (BY (ds:=[z.T]) rfl h1) λe1=>?_;refine RB.seq (ρ1:=ρ0) (BY (ds:=[z.M]) rfl (h2 e1)) λe2=>?_;obtain⟨hr,ht,hm,h5⟩:=h3 e2;refine RB.seq (ρ1:=ρ0) (BY (ds:=[z.T,z.M]) rfl (tab (Ry _) (tY hr ht hm))) λ_=>?_;refine RB.seq (ρ1:=ρ0) (BY (ds:=[z.T]) rfl (tab (Rx _) (pT hr ht))) λ_=>?_;refine RB.seq (ρ1:=ρ0) (BY (ds:=[z.T]) rfl h5) λe5=>?_;refine RB.nx (ρ1:=ρ) (sf ((sF (ux (tab (QY (wdD z.w) _ _ _ _ _ _) (pT hr ht)))).trans rfl)) ?_;refine RB.seq (ρ1:=ρ) (BY (ds:=[z.K,.lst ((rmS z.r).map D.str)]) rfl (tab RE hr)) λ_=>?_;refine RB.seq (ρ1:=ρ) (BY (ds:=[z.W,.lst ((rmS z.r).map D.str),.lst ((mnS z.t z.m).map D.str)]) (oE rfl (oE rfl (oE (ux (oK (g:=sj) (ds:=[z.T,z.M]) rfl (tab (RD _) (tY hr ht hm)))) rfl))) (h7 e5)) λe7=>?_;refine RB.seq (ρ1:=ρ) (BY (ds:=[z.V]) rfl (h8 e7)) λe8=>?_;refine⟨ρ,BY (ds:=[z.T,z.W,.lst ((vkL z.v++k9).map vkD)]) (oE rfl (oE rfl (oE ((ux (BN (xs:=(vkL z.v).map vkD) (ys:=v9) (ρ1:=ρ) (ρ2:=ρ) rfl rfl ?_)).trans (by rw[vb2])) rfl))) (h9 e8)⟩;rw[ar];unfold vkL;rw[ar,aZ];show min z.v 7+9<=1000;omega
def wNs:List Str:=["kept_things", "kept_marks", "kept_dark", "kept_ways", "kept_verbs", "shared_verbs", "your_name", "things_by_name", "mosts_by_name", "verbs_by_word", "kept_rules", "shared_rules", "copied_rules", "rules_by_verb"]
def nD(r t:Nat)(ws:Nat->L4.D):L4.D:=.dic (nK (tkL r t ws)) ((tkL r t ws).map tkD)
def mD(t m:Nat):L4.D:=.dic ((mnS t m).map kS) (cJ ([0,0,1,2,2,2,3,4].getD t 0) (.int 1)++cJ m (.int 3))
def vwD(v:Nat):L4.D:=.dic ((U v).map kS) ((vkL v++k9).flatMap λv=>v.ws.map λ_=>vkD v)
def w10(a b c d e nd md vd:L4.D):L4.D:=.obj 14 (wNs.take 10) [a,b,c,d,e,.lst v9,.str "me", nd,md,vd]
section
variable(ws:Nat->L4.D)(a b c d e f g h nd md vd w:L4.D)(s1 s2 s3 s4 s5 s6 s7:Sl)
theorem RM:((x2 (rg 1 5) (rg 0 8)).map λp=>xX [LD (tkL p.1 p.2 ws)])=(x2 (rg 1 5) (rg 0 8)).map λp=>some (nD p.1 p.2 ws):=by kernel_rfl
theorem RN:((x3 (rg 1 5) (rg 0 8) (rg 1 4)).map λp=>r9 [LD (tkL p.1 p.2.1 ws),MD (mkL p.2.2)])=(x3 (rg 1 5) (rg 0 8) (rg 1 4)).map λp=>some (mD p.2.1 p.2.2):=by kernel_rfl
theorem RO:((x2 (rg 1 5) (rg 0 8)).map λp=>(c2 dIx (pV rM "of_kind" (cV 0) (a1 (cS "you"))) (cC (.int 0))) [.im (.obj 14 (wNs.take 6) [LD (tkL p.1 p.2 ws),a,b,c,d,e]),s1,s2,s3,s4,s5,s6,s7])=(x2 (rg 1 5) (rg 0 8)).map λp=>some (.str "me", [.im (.obj 14 (wNs.take 6) [LD (tkL p.1 p.2 ws),a,b,c,d,e]),s1,s2,s3,s4,s5,s6,s7]):=by kernel_rfl
theorem RP:((rg 0 7).map λv=>(n6 sd (a1 (pV qA "all_verbs" (cV 0) o6))) [.im (.obj 14 (wNs.take 9) [a,b,c,d,.lst ((vkL v).map vkD),.lst v9,e,f,g]),s1,s2,s3,s4,s5,s6,s7])=(rg 0 7).map λv=>some (vwD v,[.im (.obj 14 (wNs.take 9) [a,b,c,d,.lst ((vkL v).map vkD),.lst v9,e,f,g]),s1,s2,s3,s4,s5,s6,s7]):=by kernel_rfl
theorem RQ:((rg 0 7).all λv=>noC 16 14 (vwD v))=true:=by kernel_rfl
def EZ(p:Nat):L4.D:=(qI [nI p]).getD .non
def atO(a b:Str):L4.D:=.obj 3 ["term", "place"] [.str a,.str b]
def mkO(a:Str)(v:Int):L4.D:=.obj 6 ["term", "value"] [.str a,.int v]
def liO:L4.D:=.obj 15 [] []
def mvO(a b:Str):L4.D:=.obj 11 ["term", "place"] [.str a,.str b]
def puO(a:Str)(v:Int):L4.D:=.obj 12 ["term", "value"] [.str a,.int v]
def tsL(p:Nat):List L4.D:=[EZ p,atO "me" "hall", mkO "gate" 1,liO,liO,atO "me" "me"]
def dsL:List L4.D:=[mvO "me" "hall", puO "gate" 0,puO "gate" 1,mvO "me" "hall", puO "gate" 1]
def txS(s:Nat):Str:=(match (c2 qG (c2 qG (cS "~") (c2 zC (cS " ") (c2 rS (cC (nI s)) (cC (.int 2))))) (cS "~")) []with
 |some (.str x,_)=>x
 |_=>"")
def ruN:List Str:=["verb", "tests", "deeds", "text", "refuses"]
def ruO(ts ds:List L4.D)(x:Str):L4.D:=.obj 13 ruN [.str "wait", .lst ts,.lst ds,.str x,.bl false]
theorem RR:((rg 0 7).map λv=>(pY [w10 a b c d e nd md (vwD v),.str "wait"],qB [w10 a b c d e nd md (vwD v),.str "wait"]))=(rg 0 7).map λv=>(some (.bl true),some (vb "wait" "alone" .non)):=by kernel_rfl
theorem RS:((x2 (rg 1 5) (rg 0 8)).map λp=>(ph 5 [w10 a b c d e (nD p.1 p.2 ws) md vd,.str "alone", atO "me" "hall", .int 4],ph 5 [w10 a b c d e (nD p.1 p.2 ws) md vd,.str "alone", atO "me" "me", .int 4],rG [w10 a b c d e (nD p.1 p.2 ws) md vd,.str "alone", mvO "me" "hall"]))=(x2 (rg 1 5) (rg 0 8)).map λp=>(some (.bl true),some (.bl true),some (.bl true)):=by kernel_rfl
theorem RT:((x2 (rg 0 8) (rg 1 4)).map λp=>(ph 5 [w10 a b c d e nd (mD p.1 p.2) vd,.str "alone", mkO "gate" 1,.int 4],rG [w10 a b c d e nd (mD p.1 p.2) vd,.str "alone", puO "gate" 0],rG [w10 a b c d e nd (mD p.1 p.2) vd,.str "alone", puO "gate" 1]))=(x2 (rg 0 8) (rg 1 4)).map λp=>(some (.bl true),some (.bl true),some (.bl true)):=by kernel_rfl
theorem RU:((rg 1 5).map λp=>(ph 5 [w,.str "alone", EZ p,.int 4],qI [nI p]))=(rg 1 5).map λp=>(some (.bl (aP p 4)),some (EZ p)):=by kernel_rfl
theorem QZ:ph 5 [w,.str "alone", liO,.int 4]=some (.bl true):=by kernel_rfl
theorem RV:((rg 2 60).map λs=>sv [.str (txS s)])=(rg 2 60).map λs=>some (.bl (aP s 60)):=by kernel_rfl
theorem RW:((rg 2 60).map λs=>(c2 qG (c2 qG (cS "~") (c2 zC (cS " ") (c2 rS (cV 4) (cC (.int 2))))) (cS "~")) [.im a,.im b,.im c,.im d,.im (nI s),s1,s2,s3,s4])=(rg 2 60).map λs=>some (.str (txS s),[.im a,.im b,.im c,.im d,.im (nI s),s1,s2,s3,s4]):=by kernel_rfl
theorem Q0(ts ds:List L4.D)(x:Str):p6 [.str "wait", .lst ts,.lst ds,.str x,.bl false]=some (ruN,[.str "wait", .lst ts,.lst ds,.str x,.bl false]):=by kernel_rfl
theorem Q1(ts ds:List L4.D)(x:Str):vZ [ruO ts ds x]=some (ruO ts ds x):=by kernel_rfl
theorem Q2(ts ds:List L4.D)(x:Str):qU [ruO ts ds x]=some (.bl true):=by kernel_rfl
end
theorem Ah{e e':FE}{a b:Bool}(h:e ρ=some (.bl a,ρ))(h':e' ρ=some (.bl b,ρ)):pj e e' ρ=some (.bl (a&&b),ρ):=by
 unfold pj;rw[h];cases a with
 |true=>exact h'
 |false=>rfl
theorem Lh{c c':FT}{a b:Bool}(h:c ρ=some (a,ρ))(h':c' ρ=some (b,ρ)):rk c c' ρ=some (a||b,ρ):=by
 unfold rk;rw[h];cases a with
 |true=>rfl
 |false=>exact h'
theorem Q3{c:FT}{e:FS}{h:FS}(q:c ρ=some (false,ρ)):og (sIf c e o3) h ρ=h ρ:=om ((vV q).trans rfl)
def tP(p:Nat):List (L4.D×Bool):=[(EZ p,aP p 4),(atO "me" "hall", true),(mkO "gate" 1,true),(liO,true),(liO,true),(atO "me" "me", true)]
def dP:List (L4.D×Bool):=dsL.map λx=>(x,true)
def tB(q p:Nat):Bool:=decide (((tP p).take q).length<=5)&&((tP p).take q).all cn
def dB(d:Nat):Bool:=decide ((dP.take d).length<=4)&&(dP.take d).all cn
def rB(q d p s:Nat):Bool:=aP s 60&&(tB q p&&(dB d&&true))
def ru(q d p s:Nat):L4.D:=ruO ((tsL p).take q) (dsL.take d) (txS s)
section
variable{w:L4.D}
theorem Jd{L:List (L4.D×Bool)}(hl:L.length<=1000)(h:∀x∈L,ph 5 [w,.str "alone", x.1,.int 4]=some (.bl x.2)):tJ [w,.str "alone", .lst (L.map aX)]=some (.bl (decide (L.length<=5)&&L.all cn)):=by let τ:List Sl:=[.im w,.im (.str "alone"),.im (.lst (L.map aX))];refine qD (ρ:=τ) rfl (rX (Ah (oK (ρ1:=τ) (ds:=[.lst (L.map aX),.int (5:Nat)]) rfl ((EX _ 5).trans (by rw[ar]))) ?_));exact yW aX cn L (ρ1:=τ) rfl hl λx hx=>⟨[.im x.1,.im w,.im (.str "alone")],[.im x.1,.im w,.im (.str "alone")],rfl,oK (ds:=[w,.str "alone", x.1,.int 4]) rfl (h x hx),rfl⟩
theorem Je{L:List (L4.D×Bool)}(hl:L.length<=1000)(h:∀x∈L,rG [w,.str "alone", x.1]=some (.bl x.2)):tK [w,.str "alone", .lst (L.map aX)]=some (.bl (decide (L.length<=4)&&L.all cn)):=by let τ:List Sl:=[.im w,.im (.str "alone"),.im (.lst (L.map aX))];refine qD (ρ:=τ) rfl (rX (Ah (oK (ρ1:=τ) (ds:=[.lst (L.map aX),.int (4:Nat)]) rfl ((EX _ 4).trans (by rw[ar]))) ?_));exact yW aX cn L (ρ1:=τ) rfl hl λx hx=>⟨[.im x.1,.im w,.im (.str "alone")],[.im x.1,.im w,.im (.str "alone")],rfl,oK (ds:=[w,.str "alone", x.1]) rfl (h x hx),rfl⟩
end
variable{ns:List Str}
theorem Li{w:L4.D}{xs ts:List L4.D}{x:Str}{bs bt bd:Bool}(hw:w=.obj 14 ns xs)(hn:ns.contains "verb_of" = false)(v1:pY [w,.str "wait"]=some (.bl true))(v2:qB [w,.str "wait"]=some (vb "wait" "alone" .non))
  (hs:sv [.str x]=some (.bl bs)) (ht:tJ [w,.str "alone", .lst ts]=some (.bl bt)) (hd:tK [w,.str "alone", .lst ds]=some (.bl bd)):v7 [w,ruO ts ds x]=some (.bl (bs&&(bt&&(bd&&true)))):=by
 subst hw;let ρ:List Sl:=[.im (.obj 14 ns xs),.im (ruO ts ds x),.un];let σ:List Sl:=[.im (.obj 14 ns xs),.im (ruO ts ds x),.im (.str "alone")];have e1:=HJ (oK (g:=pY) (a:=aCons (cV 0) (a1 (c1 (ou qp "verb") (cV 1)))) (ρ:=ρ) (ρ1:=ρ) (ds:=[.obj 14 ns xs,.str "wait"]) rfl v1);have e2:=HJ (oK (g:=sv) (a:=a1 (c1 (ou vC "text") (cV 1))) (ρ:=ρ) (ρ1:=ρ) (ds:=[.str x]) rfl hs);have e3:rk (pC (cT (c1 (pd DT) (cV 1)))) (rk (pC (cT (n6 pY (aCons (cV 0) (a1 (c1 (ou qp "verb") (cV 1))))))) (pC (cT (n6 sv (a1 (c1 (ou vC "text") (cV 1))))))) ρ=some (!true||!bs,ρ):=Nr (ρ1:=ρ) rfl (Lh (BM e1) (BM e2));cases bs with
 |false=>refine qD (ρ:=ρ) rfl ?_;unfold v5;exact xS ((yS e3).trans rfl)
 |true=>refine qD (ρ:=σ) rfl ?_;unfold v5;refine(Q3 e3).trans ((om (ρ':=σ) ((sF (vp (BQ (hh:=qB) (ys:=[.str "wait"]) (ρ1:=ρ) (ρ2:=ρ) rfl rfl hn rfl v2) (show ou vz "form" (vb "wait" "alone" .non)=some (.str "alone") from rfl))).trans rfl)).trans (rX ?_));show _=some (D.bl (bt&&(bd&&true)),σ);exact Ah (oK (ρ1:=σ) (ds:=[.obj 14 ns xs,.str "alone", .lst ts]) rfl ht) (Ah (oK (ρ1:=σ) (ds:=[.obj 14 ns xs,.str "alone", .lst ds]) rfl hd) (oK (ρ1:=σ) (ds:=[ruO ts ds x]) rfl (Q2 ts ds x)))
section
variable{r t m v:Nat}(hr:r∈rg 1 5)(ht:t∈rg 0 8)(hm:m∈rg 1 4)(hv:v∈rg 0 7)(ws:Nat->L4.D)(a b c d e:L4.D)
include hr ht hm hv
theorem Lj{q de p s:Nat}(hp:p∈rg 1 5)(hs:s∈rg 2 60):v7 [w10 a b c d e (nD r t ws) (mD t m) (vwD v),ru q de p s]=some (.bl (rB q de p s)):=by
 let w:=w10 a b c d e (nD r t ws) (mD t m) (vwD v);have V:=tab (RR a b c d e (nD r t ws) (mD t m)) hv;have A:=tab (RS ws a b c d e (mD t m) (vwD v)) (pT hr ht);have B:=tab (RT a b c d e (nD r t ws) (vwD v)) (pT ht hm);have E:=tab (RU w) hp;simp only[Prod.mk.injEq]at V A B E;refine Li (w:=w) rfl rfl V.1 V.2 (tab RV hs) ?_ ?_
 ·have qq:∀x∈tP p,ph 5 [w,.str "alone", x.1,.int 4]=some (.bl x.2):=λx hx=>by
   unfold tP at hx;simp only[aN,eR,or_false]at hx;rcases hx with rfl|rfl|rfl|rfl|rfl|rfl
   ·exact E.1
   ·exact A.1
   ·exact B.1
   ·exact QZ w
   ·exact QZ w
   ·exact A.2.1
  have h:=Jd (w:=w) (L:=(tP p).take q) (by rw[aZ];show min q 6<=1000;omega) λx hx=>qq x (fK hx);rw[fZ]at h;exact h
 ·have q:∀x∈dP,rG [w,.str "alone", x.1]=some (.bl x.2):=λx hx=>by
   unfold dP dsL at hx;simp only[aT,f7,aN,eR,or_false]at hx;rcases hx with rfl|rfl|rfl|rfl|rfl
   ·exact A.2.2
   ·exact B.2.1
   ·exact B.2.2
   ·exact A.2.2
   ·exact B.2.2
  have h:=Je (w:=w) (L:=dP.take de) (by rw[aZ];show min de 5<=1000;omega) λx hx=>q x (fK hx);rw[fZ]at h;exact h
end
def rlB:FS:=(og (oY 7 (cL (rY (cL (oI (aCons (n6 qI (a1 (cV 3))) (aCons (oA 3 (λds=>qv (ds++[])) (aCons (cS "me") (a1 (cS "hall")))) (aCons (oA 6 (λds=>o7 (ds++[])) (aCons (cS "gate") (a1 (cC (.int 1))))) (aCons (Av 15) (aCons (Av 15) (a1 (oA 3 (λds=>qv (ds++[])) (aCons (cS "me") (a1 (cS "me")))))))))))) oNo (oAt (cV 1)))))
 (og (oY 8 (cL (rY (cL (oI (aCons (oA 11 (λds=>pR (ds++[])) (aCons (cS "me") (a1 (cS "hall")))) (aCons (oA 12 (λds=>pF (ds++[])) (aCons (cS "gate") (a1 (cC (.int 0))))) (aCons (oA 12 (λds=>pF (ds++[])) (aCons (cS "gate") (a1 (cC (.int 1))))) (aCons (oA 11 (λds=>pR (ds++[])) (aCons (cS "me") (a1 (cS "hall")))) (a1 (oA 12 (λds=>pF (ds++[])) (aCons (cS "gate") (a1 (cC (.int 1)))))))))))) oNo (oAt (cV 2)))))
 (ra (zm 5 (oA 13 (λds=>p6 (ds++[(D.bl false)])) (aCons (cS "wait") (aCons (cV 7) (aCons (cV 8) (a1 (c2 qG (c2 qG (cS "~") (c2 zC (cS " ") (c2 rS (cV 4) (cC (.int 2))))) (cS "~")))))))))))
theorem RX(a q d:L4.D)(s4 s5 s6 s7 s8:Sl)(i:Int):((rg 1 5).map λp=>(oY 7 (cL (rY (cL (oI (aCons (n6 qI (a1 (cV 3))) (aCons (oA 3 (λds=>qv (ds++[])) (aCons (cS "me") (a1 (cS "hall")))) (aCons (oA 6 (λds=>o7 (ds++[])) (aCons (cS "gate") (a1 (cC (.int 1))))) (aCons (Av 15) (aCons (Av 15) (a1 (oA 3 (λds=>qv (ds++[])) (aCons (cS "me") (a1 (cS "me")))))))))))) oNo (oAt (cV 1))))) [.im a,.im (.int i),.im d,.im (nI p),s4,s5,s6,s7,s8])=(rg 1 5).map λp=>some (.nx [.im a,.im (.int i),.im d,.im (nI p),s4,s5,s6,.im (.lst (cutD (tsL p) none (some i))),s8]):=by kernel_rfl
section
variable{n q d p s:Nat}(hq:q<=6)(hd:d<=5)(hp:p∈rg 1 5)(hs:s∈rg 2 60)
include hq hd hp hs
theorem Lk(acc:List L4.D)(ha:acc.length<1000)(s6 s7 s8:Sl):rlB [.im (nI n),.im (nI q),.im (nI d),.im (nI p),.im (nI s),.ls acc,s6,s7,s8]=some (.nx [.im (nI n),.im (nI q),.im (nI d),.im (nI p),.im (nI s),.ls (acc++[ru q d p s]),s6,.im (.lst ((tsL p).take q)),.im (.lst (dsL.take d))]):=by unfold rlB;refine(om (tab (RX (nI n) .non (nI d) (.im (nI s)) (.ls acc) s6 s7 s8 (q:Int)) hp)).trans ?_;rw[DX q (show q<=(tsL p).length from hq)];refine(om (ρ':=[.im (nI n),.im (nI q),.im (nI d),.im (nI p),.im (nI s),.ls acc,s6,.im (.lst ((tsL p).take q)),.im (.lst (cutD dsL none (some (d:Int))))]) (by kernel_rfl)).trans ?_;rw[DX d (show d<=dsL.length from hd)];let σ:List Sl:=[.im (nI n),.im (nI q),.im (nI d),.im (nI p),.im (nI s),.ls acc,s6,.im (.lst ((tsL p).take q)),.im (.lst (dsL.take d))];refine(yT (HL (ρ1:=σ) (es:=acc) (es0:=acc) rfl (K0 (ds:=[.str "wait", .lst ((tsL p).take q),.lst (dsL.take d),.str (txS s)]) (oE rfl (oE rfl (oE rfl (oE (tab (RW (nI n) (nI q) (nI d) (nI p) (.ls acc) s6 (.im (.lst ((tsL p).take q))) (.im (.lst (dsL.take d)))) hs) rfl)))) (Q0 _ _ _)) rfl ha)).trans ?_;rfl
theorem E1:∀(l acc:List L4.D) (s6 s7 s8:Sl),acc.length+l.length<1000->∃t6 t7 t8,forL (gN 6) rlB l [.im (nI n),.im (nI q),.im (nI d),.im (nI p),.im (nI s),.ls acc,s6,s7,s8]=some (.nx [.im (nI n),.im (nI q),.im (nI d),.im (nI p),.im (nI s),.ls (acc++cJ l.length (ru q d p s)),t6,t7,t8])
 |[],acc,s6,s7,s8,_=>⟨s6,s7,s8,by rw[bV,List.replicate_zero,bE];rfl⟩
 |x::l,acc,s6,s7,s8,h=>by rw[aB]at h;obtain⟨t6,t7,t8,e⟩:=E1 l (acc++[ru q d p s]) (.im x) (.im (.lst ((tsL p).take q))) (.im (.lst (dsL.take d))) (by rw[aE,bJ];omega);refine⟨t6,t7,t8,?_⟩;unfold forL;rw[show gN 6 x [.im (nI n),.im (nI q),.im (nI d),.im (nI p),.im (nI s),.ls acc,s6,s7,s8]=some [.im (nI n),.im (nI q),.im (nI d),.im (nI p),.im (nI s),.ls acc,.im x,s7,s8] from rfl];simp only[Lk hq hd hp hs acc (by omega) (.im x) s7 s8];rw[e,cG,aB,List.replicate_succ];rfl
theorem Jf(hn:n<=30):uG [nI n,nI q,nI d,nI p,nI s]=some (.lst (cJ n (ru q d p s))):=by obtain⟨t6,t7,t8,e⟩:=E1 (n:=n) hq hd hp hs ((aJ n).map λk:Nat=>nI k) [] .un .un .un (by simp only[bV,ar,cU];omega);rw[d6,ar,cU]at e;refine NJ (ρ:=[.im (nI n),.im (nI q),.im (nI d),.im (nI p),.im (nI s),.un,t6,t7,t8]) rfl ?_;unfold uF;refine(om (ρ':=[.im (nI n),.im (nI q),.im (nI d),.im (nI p),.im (nI s),.ls [],.un,.un,.un]) rfl).trans ?_;refine(om ((zz (IW (ρ1:=[.im (nI n),.im (nI q),.im (nI d),.im (nI p),.im (nI s),.ls [],.un,.un,.un]) (n:=n) rfl (by omega))).trans e)).trans ?_;rfl
end
theorem Ai{d:L4.D}(hd:noC 16 14 d=true):∀ds:List L4.D,sH 16 14 ds=true->sH 16 14 (ds++[d])=true
 |[],_=>by rw[d6];unfold sH;rw[hd];rfl
 |x::ds,h=>by rw[List.cons_append];unfold sH at h ⊢;rw[aC]at h ⊢;exact⟨h.1,Ai hd ds h.2⟩
theorem Aj:∀ds:List L4.D,(∀d∈ds,noC 16 14 d=true)->sH 16 14 ds=true
 |[],_=>by unfold sH;rfl
 |x::ds,h=>by unfold sH;rw[aC];exact⟨h x aL,Aj ds λd hd=>h d (aM _ hd)⟩
theorem Jg{d:L4.D}{k:Key}{P Q:List L4.D->Prop}(h1:∀ds,P ds->Q ds)(h2:∀ds,P ds->Q (ds++[d])):∀(ks:List Key) (dss:List (List L4.D)),(∀ds∈dss,P ds)->∀x∈d9 (λk' ds=>if k'=k then ds++[d]else ds) ks dss,Q x
 |[],_,_,x,hx=>by cases hx
 |_::_,[],_,x,hx=>by cases hx
 |k0::ks,ds::dss,h,x,hx=>by
  rw[fE]at hx;rcases aN.mp hx with rfl|hx
  ·have:=h ds aL;split
   ·exact h2 _ this
   ·exact h1 _ this
  ·exact Jg h1 h2 ks dss (λds hd=>h ds (aM _ hd)) x hx
def gK(d:L4.D):Bool:=(match ou qp "verb" d with
 |some x=>(v8 x).isSome
 |none=>false)&&noC 16 14 d
theorem Jh:∀(L:List L4.D) (ks:List Key) (dss:List (List L4.D)),(∀d∈L,gK d=true)->ks.length=dss.length->ks.length+L.length<1000->(∀ds∈dss,ds.length+L.length<1000/\sH 16 14 ds=true)->
  ∃ks' dss',vx (ou qp "verb") L ks dss=some (ks',dss')/\∀ds∈dss',sH 16 14 ds=true
 |[],ks,dss,_,_,_,h=>⟨ks,dss,rfl,λds hd=>(h ds hd).2⟩
 |d::L,ks,dss,hg,hl,hk,h=>by
  rw[aB]at hk;have hL:∀ds∈dss,ds.length+L.length+1<1000/\sH 16 14 ds=true:=λds hd=>⟨by have:=(h ds hd).1;rw[aB]at this;omega,(h ds hd).2⟩;have gd:=hg d aL;unfold gK at gd;rw[aC]at gd;obtain⟨gd,nd⟩:=gd;obtain⟨x,k,e1,e2⟩:∃x k,ou qp "verb" d=some x/\v8 x=some k:=by
   split at gd
   ·rename_i x e;exact⟨x,_,e,(kj gd).symm⟩
   ·cases gd
  have st:(vw ks dss k d).1.length=(vw ks dss k d).2.length/\(vw ks dss k d).1.length+L.length<1000/\∀ds∈(vw ks dss k d).2,ds.length+L.length<1000/\sH 16 14 ds=true:=by
   unfold vw;by_cases c:As ks k=true
   ·rw[ag c];exact⟨by simp only[gE];omega,by simp only;omega,Jg (P:=λds=>ds.length+L.length+1<1000/\sH 16 14 ds=true) (λds h=>⟨by omega,h.2⟩) (λds h=>⟨by rw[aE,bJ];omega,Ai nd ds h.2⟩) ks dss hL⟩
   ·rw[ah c];refine⟨by simp[hl],by simp only[aE,bJ];omega,λds hd=>?_⟩;rcases dD.mp hd with hd|hd
    ·exact⟨by have:=(hL ds hd).1;omega,(hL ds hd).2⟩
    ·rw[bR.mp hd];exact⟨by simp only[bJ];omega,Ai nd [] (by unfold sH;rfl)⟩
  obtain⟨s1,s2,s3⟩:=st;obtain⟨ks',dss',q1,q3⟩:=Jh L (vw ks dss k d).1 (vw ks dss k d).2 (λx hx=>hg x (aM _ hx)) s1 s2 s3;refine⟨ks',dss',?_,q3⟩;unfold vx;simp only[e1,e2];rw[ag]
  ·exact q1
  ·rw[aC];exact⟨bb (by omega),aF.mpr λds hd=>bb (by have:=(hL ds hd).1;omega)⟩
theorem Da{e:FE}{d:L4.D}{r:List Sl}{r':List Sl}(h1:e (.im (.obj 14 ns ds)::r.map rZ)=some (d,r'))(h2:noC 16 14 d=true):uI 16 e (.ob 14 ns ds::r)=some (d,.ob 14 ns ds::r):=by unfold uI;simp only[h1,h2];rfl
theorem yK{nm:Str}{e:FE}{d:L4.D}{r:List Sl}(h1:e (.ob 14 ns ds::r)=some (d,.ob 14 ns ds::r))(h2:ns.contains nm=false)(h3:ds.length=ns.length)(h4:ns.length<900):oP 14 0 nm e (.ob 14 ns ds::r)=some (.nx (.ob 14 (ns++[nm]) (ds++[d])::r)):=by unfold oP;rw[h1];simp only[iY,h2,h3,h4,if_true,dq,if_false];rfl
def shL(r y:Nat):List L4.D:=(pX [.str "me", WD (wyL r y)]).getD []
theorem RY:((x2 (rg 1 5) (rg 0 11)).all λp=>(pX [.str "me", WD (wyL p.1 p.2)]).isSome&&((shL p.1 p.2).all gK&&aP (shL p.1 p.2).length 60))=true:=by kernel_rfl
theorem RZ(x:Str):((x3 (rg 0 7) (rg 0 6) (rg 1 5)).all λa=>gK (ruO ((tsL a.2.2).take a.1) (dsL.take a.2.1) x))=true:=by kernel_rfl
structure Rz where
 n:Nat
 q:Nat
 d:Nat
 p:Nat
 s:Nat
def Rz.u(z:Rz):L4.D:=ru z.q z.d z.p z.s
def Rz.R(z:Rz):List L4.D:=cJ z.n z.u
def Rz.ok(z:Rz):Bool:=decide (z.n<=20)&&z.R.all λ_=>rB z.q z.d z.p z.s
def wA(z:Sz)(x:Rz)(c:L4.D):List L4.D:=[z.T,z.M,z.K,z.W,z.V,.lst v9,.str "me", nD z.r z.t (wdD z.w),mD z.t z.m,vwD z.v,.lst x.R,.lst (shL z.r z.y),.lst x.R,c]
def wS(z:Sz)(x:Rz)(c:L4.D)(q:Sl)(k:Nat):List Sl:=[.ob 14 (wNs.take k) ((wA z x c).take k),.im z.T,.im z.M,.im z.K,.im z.W,.im z.V,.im (.lst x.R),q]
abbrev Sz.w10(z:Sz):L4.D:=K05x.w10 z.T z.M z.K z.W z.V (nD z.r z.t (wdD z.w)) (mD z.t z.m) (vwD z.v)
theorem E2(x:Rz):x.R.length=x.n:=bI
variable{z:Sz}
theorem uk(R:L4.D)(h:qg z.P=some false):oV [z.T,z.M,z.K,z.W,z.V,R]=some none:=by
 unfold oV fnXI;rw[ag (show [z.T,z.M,z.K,z.W,z.V,R].length=6 from rfl)];have e:pS (stI 14 8 [z.T,z.M,z.K,z.W,z.V,R])=some (.bk (stI 14 8 [z.T,z.M,z.K,z.W,z.V,R])):=by unfold pS;exact Bk (QS (ds:=z.P) (oE rfl (oE rfl (oE rfl (oE rfl (oE rfl (oE (ux (oK (ds:=[]) rfl LY)) rfl)))))) h)
 rw[e]
section
variable{z:Sz}{x:Rz}(hr:z.r∈rg 1 5)(ht:z.t∈rg 0 8)(hm:z.m∈rg 1 4)(hv:z.v∈rg 0 7)(hy:z.y∈rg 0 11)(hP:qg z.P=some true)(hn:x.n<=100)(hq:x.q∈rg 0 7)(hd:x.d∈rg 0 6)(hp:x.p∈rg 1 5)(hs:x.s∈rg 2 60)
include hr ht hm hv hP hn hp hs
theorem Ji(c:L4.D){o:Out}(h:(og (sXp oa (aCons (cV 7) (a1 (cS "rules are a list of at most 20 rules, each as it may be"))))
 (og (sNb (oP 14 0 "kept_rules" (cL (vm (cV 6)))))
 (og (sNb (oP 14 0 "shared_rules" (uI 16 (cL (pL pX (aCons (c1 (ou rJ "your_name") (cV 0)) (a1 (cV 4))))))))
 (og (sNb (oP 14 0 "copied_rules" (cL (oH 1 [] (iL (cV 6)) (gN 0) pE (n6 vZ (a1 (cV 0)))))))
 (sNb (oP 14 0 "rules_by_verb" (uI 16 (n6 xY (a1 (cL (p9 (c1 (ou rA "copied_rules") (cV 0)) (c1 (ou rD "shared_rules") (cV 0))))))))))))) (wS z x c (.im (.bl x.ok)) 10)=some o):pS (stI 14 8 [z.T,z.M,z.K,z.W,z.V,.lst x.R])=some o:=by
 let S:=wS z x c;show pS (S .un 0)=some o;unfold pS;refine(om (ρ':=S .un 0) (QR (ds:=z.P) (oE rfl (oE rfl (oE rfl (oE rfl (oE rfl (oE (ux (oK (ds:=[]) rfl LY)) rfl)))))) hP)).trans ?_;refine(om (ρ':=S .un 1) (by kernel_rfl)).trans ((om (ρ':=S .un 2) (by kernel_rfl)).trans ((om (ρ':=S .un 3) (by kernel_rfl)).trans ((om (ρ':=S .un 4) (by kernel_rfl)).trans ((om (ρ':=S .un 5) (by kernel_rfl)).trans ((om (ρ':=S .un 6) (by kernel_rfl)).trans ?_)))));refine(om (ρ':=S .un 7) (sf (yK (ns:=wNs.take 6) (ds:=(wA z x c).take 6) (r:=(S .un 6).tail) (Da (d:=.str "me") (r':=(.im (.obj 14 (wNs.take 6) ((wA z x c).take 6)))::((S .un 6).tail).map rZ) (tab (RO (wdD z.w) z.M z.K z.W z.V (.lst v9) (.im z.T) (.im z.M) (.im z.K) (.im z.W) (.im z.V) (.im (.lst x.R)) .un) (pT hr ht)) rfl) rfl rfl (by decide)))).trans ?_;refine(om (ρ':=S .un 8) (sf (yK (r:=(S .un 7).tail) (oK (ds:=[z.T]) rfl (tab (RM (wdD z.w)) (pT hr ht))) rfl rfl (by decide)))).trans ?_;refine(om (ρ':=S .un 9) (sf (yK (r:=(S .un 8).tail) (oK (ds:=[z.T,z.M]) rfl (tab (RN (wdD z.w)) (tY hr ht hm))) rfl rfl (by decide)))).trans ?_;refine(om (ρ':=S .un 10) (sf (yK (ns:=wNs.take 9) (ds:=(wA z x c).take 9) (r:=(S .un 9).tail) (Da (d:=vwD z.v) (r':=(.im (.obj 14 (wNs.take 9) ((wA z x c).take 9)))::((S .un 9).tail).map rZ) (tab (RP z.T z.M z.K z.W (.str "me") (nD z.r z.t (wdD z.w)) (mD z.t z.m) (.im z.T) (.im z.M) (.im z.K) (.im z.W) (.im z.V) (.im (.lst x.R)) .un) hv) (aF.mp RQ z.v hv)) rfl rfl (by decide)))).trans ?_;refine(om (ρ':=S (.im (.bl x.ok)) 10) (sf ((sF (ρ':=S .un 10) (Da (d:=.bl x.ok) (r:=(S .un 10).tail) (r':=.im z.w10::((S .un 10).tail).map rZ) ?_ rfl)).trans rfl))).trans h;let ρ:List Sl:=.im z.w10::((S .un 10).tail).map rZ;refine Ah (ρ:=ρ) (oK (ρ1:=ρ) (ds:=[.lst x.R,.int (20:Nat)]) rfl ((EX _ 20).trans (by rw[E2]))) ?_;exact yW id (λ_=>rB x.q x.d x.p x.s) x.R (ρ1:=ρ) (by rw[gj];rfl) (by rw[E2];omega) λa ha=>⟨[.im a,.im z.w10],[.im a,.im z.w10],rfl,oK (ds:=[z.w10,a]) rfl (by rw[gw ha];exact Lj hr ht hm hv _ _ _ _ _ _ hp hs),rfl⟩
theorem Jj(h:x.ok=false):oV [z.T,z.M,z.K,z.W,z.V,.lst x.R]=some none:=by unfold oV fnXI;rw[ag (show [z.T,z.M,z.K,z.W,z.V,D.lst x.R].length=6 from rfl)];rw[Ji hr ht hm hv hP hn hp hs .non (Bk (Bj (e:=cV 7) (ρ1:=wS z x .non (.im (.bl x.ok)) 10) (by rw[h];rfl)))]
include hq hd hy in
theorem Q4(h:x.ok=true):∃ds,oV [z.T,z.M,z.K,z.W,z.V,.lst x.R]=some (some (wNs,z.T::ds)):=by
 have sh:=aF.mp RY (z.r,z.y) (pT hr hy);simp only[aC]at sh;obtain⟨sh0,sh1,sh2⟩:=sh;have ls:=dU sh2;have es:pX [.str "me", z.W]=some (shL z.r z.y):=by
  unfold shL;exact(kj sh0).symm.trans (by
   show some (Option.get _ sh0)=some (Option.getD _ _);rw[Option.get_eq_getD])
 have gu:gK x.u=true:=aF.mp (RZ (txS x.s)) (x.q,x.d,x.p) (tY hq hd hp);have all:∀d∈x.R++shL z.r z.y,gK d=true:=λd hd=>by
  rcases dD.mp hd with hd|hd
  ·rw[gw hd];exact gu
  ·exact aF.mp sh1 d hd
 have lA:(x.R++shL z.r z.y).length<=170:=by rw[aE,E2];omega
 obtain⟨ks,dss,g1,g3⟩:=Jh (x.R++shL z.r z.y) [] [] all rfl (by simp only[bV];omega) λds h=>(by cases h);let c:L4.D:=.dic ks (dss.map .lst);let B:Sl:=.im (.bl true);have nc:noC 16 14 c=true:=by show sH 16 14 (dss.map .lst)=true;exact Aj _ λd hd=>by obtain⟨ds,h,rfl⟩:=bc.mp hd;exact g3 ds h
 let S:=wS z x c;have nS:sH 16 14 (shL z.r z.y)=true:=Aj _ λd hd=>by have:=aF.mp sh1 d hd;unfold gK at this;rw[aC]at this;exact this.2
 have e:pS (stI 14 8 [z.T,z.M,z.K,z.W,z.V,.lst x.R])=some (.nx (S B 14)):=by
  refine Ji hr ht hm hv hP hn hp hs c ?_;rw[h];refine(om (ρ':=S B 10) (qV rfl)).trans ?_;refine(om (ρ':=S B 11) (sf (yK (ns:=wNs.take 10) (ds:=(wA z x c).take 10) (r:=(S B 10).tail) (ux rfl) rfl rfl (by decide)))).trans ?_;refine(om (ρ':=S B 12) (sf (yK (ns:=wNs.take 11) (ds:=(wA z x c).take 11) (r:=(S B 11).tail) (Da (d:=.lst (shL z.r z.y)) (r':=(.im (.obj 14 (wNs.take 11) ((wA z x c).take 11)))::((S B 11).tail).map rZ) (ux (oK (ds:=[.str "me", z.W]) rfl es)) nS) rfl rfl (by decide)))).trans ?_;refine(om (ρ':=S B 13) (sf (yK (ns:=wNs.take 12) (ds:=(wA z x c).take 12) (r:=(S B 12).tail) ((ux (CW id id x.R (ρ1:=S B 12) (by rw[gj];rfl) (by rw[E2];omega) λa ha=>⟨[.im a],[.im a],rfl,oK (ds:=[a]) rfl (by rw[gw ha];exact Q1 _ _ _),rfl⟩)).trans (by rw[gj];rfl)) rfl rfl (by decide)))).trans ?_;refine sf (yK (ns:=wNs.take 13) (ds:=(wA z x c).take 13) (r:=(S B 13).tail) (Da (oK (ds:=[.lst (x.R++shL z.r z.y)]) (oE (ux (BN (xs:=x.R) (ys:=shL z.r z.y) rfl rfl (by rw[aE]at lA;omega))) rfl) (r:=c) ?_) nc) rfl rfl (by decide));refine qD (ρ:=[.im (.lst (x.R++shL z.r z.y)),.un,.un]) rfl ?_;show (match vx (ou qp "verb") (x.R++shL z.r z.y) [] []with
   |some (ks,dss)=>some (Out.rt (.dic ks (dss.map .lst)) [.im (.lst (x.R++shL z.r z.y)),.un,.un])
   |none=>none)=_
  rw[g1]
 refine⟨(wA z x c).tail,?_⟩;unfold oV fnXI;rw[ag (show [z.T,z.M,z.K,z.W,z.V,D.lst x.R].length=6 from rfl),e];dsimp only;unfold fnI;rw[ag (show [z.T,z.M,z.K,z.W,z.V,D.lst x.R].length=6 from rfl),e];rfl
end
theorem R0(ws:Nat->L4.D)(ns:List Str)(rest:List L4.D):((x2 (rg 1 5) (rg 0 8)).map λp=>(tW [.obj 14 ("kept_things" ::ns) (LD (tkL p.1 p.2 ws)::rest)]).bind uc)=(x2 (rg 1 5) (rg 0 8)).map λp=>some (nI (p.1+p.2+1)):=by kernel_rfl
section
variable(L:L4.D)(a b c d e f g h i j k:L4.D)(s1 s2 s3 s4 s5 s6:Sl)
abbrev mS(L a b c d e f g h i j k:L4.D)(s1 s2 s3 s4 s5 s6:Sl):List Sl:=[.im L,.im a,.im b,.im c,.im d,.im e,.im f,.im g,.im h,.im i,.im j,.im k,s1,s2,s3,s4,s5,s6]
def nmD(r:Nat):L4.D:=.lst (((rmA.take 5).take r).map D.str)
def awD(r:Nat):L4.D:=.lst ((wyA r).map wyD)
theorem R7:((rg 1 6).map λr=>sNb (oY 12 (cL (rY (cL (oI (aCons (cS "hall") (aCons (cS "x") (aCons (cS "cellar") (aCons (cS "loft") (a1 (cS "porch")))))))) oNo (oAt (cV 1))))) (mS L (nI r) b c d e f g h i j k s1 s2 s3 s4 s5 s6))=(rg 1 6).map λr=>some (.nx (mS L (nI r) b c d e f g h i j k (.im (nmD r)) s2 s3 s4 s5 s6)):=by kernel_rfl
theorem R8:((rg 1 6).map λr=>sNb (tQ (iL (cL (oI (aCons (cS "north") (aCons (cS "up") (a1 (cS "outside"))))))) (gN 14) (oY 13 (cL (p9 (cV 13) (cL (oH 1 [14] (iL (cV 12)) (gN 0) pE (qZ (aCons (cV 0) (aCons (cV 1) (aCons (cS "hall") (a1 (cS "gate")))))))))))) (mS L a b c d e f g h i j k (.im (nmD r)) (.im (.lst [])) s3 s4 s5 s6))=(rg 1 6).map λr=>some (.nx (mS L a b c d e f g h i j k (.im (nmD r)) (.im (awD r)) (.im (.str "outside")) s4 s5 s6)):=by kernel_rfl
theorem R9:((rg 1 5).map λm=>sNb (oY 15 (cL (oH 1 [] (iL (cL (rY (cL (oI (aCons (cS "gate") (aCons (cS "luck") (aCons (cS "tide") (aCons (cS "bell") (a1 (cS "well")))))))) oNo (oAt (cV 4))))) (gN 0) pE (oA 1 (λds=>vI (ds++[])) (aCons (cV 0) (aCons (cC (.int 3)) (a1 (cC (.int 3))))))))) (mS L a b c (nI m) e f g h i j k s1 s2 s3 s4 s5 s6))=(rg 1 5).map λm=>some (.nx (mS L a b c (nI m) e f g h i j k s1 s2 s3 (.im (MD (mkL m))) s5 s6)):=by kernel_rfl
theorem Sa:((rg 0 8).map λv=>sNb (oY 16 (cL (oH 1 [] (iS (cSlS (cS "abcdefg") oNo (oAt (cV 6)))) (gN 0) pE (oA 2 (λds=>pD (ds++[(D.str "one"),D.non])) (aCons (c2 qG (cS "verb") (cV 0)) (a1 (qZ (aCons (c2 qG (cS "v") (cV 0)) (a1 (c2 qG (cS "w") (cV 0)))))))))))  (mS L a b c d e (nI v) g h i j k s1 s2 s3 s4 s5 s6))=(rg 0 8).map λv=>some (.nx (mS L a b c d e (nI v) g h i j k s1 s2 s3 s4 (.im (.lst ((vkL v).map vkD))) s6)):=by kernel_rfl
theorem Sb:((rg 1 6).map λr=>(cL (rY (cV 12) oNo (oAt (c2 rS (cV 1) (cC (.int 1)))))) (mS L (nI r) b c d e f g h i j k (.im (nmD r)) s2 s3 s4 s5 s6))=(rg 1 6).map λr=>some (.lst ((rmS (r - 1)).map D.str),mS L (nI r) b c d e f g h i j k (.im (nmD r)) s2 s3 s4 s5 s6):=by kernel_rfl
end
theorem Sd:((rg 1 6).map λr=>(wyA r).length)=(rg 1 6).map λr=>if r=6 then 15 else 3 * r:=by kernel_rfl
def mkA:FA:=(aCons (n6 rN (aCons (cV 1) (aCons (cV 2) (a1 (cV 3))))) (aCons (cV 15) (aCons (cL (rY (cV 12) oNo (oAt (c2 rS (cV 1) (cC (.int 1)))))) (aCons (cL (rY (cV 13) oNo (oAt (cV 5)))) (aCons (cV 16) (a1 (cV 17)))))))
def szL(z:Sz)(x:Rz):List L4.D:=[nI z.r,nI z.t,nI z.w,nI z.m,nI z.y,nI z.v,nI x.n,nI x.q,nI x.d,nI x.p,nI x.s]
abbrev mZ(z:Sz)(x:Rz)(s1 s2 s3 s4 s5 s6:Sl):List Sl:=mS (.lst (szL z x)) (nI z.r) (nI z.t) (nI z.w) (nI z.m) (nI z.y) (nI z.v) (nI x.n) (nI x.q) (nI x.d) (nI x.p) (nI x.s) s1 s2 s3 s4 s5 s6
theorem Pj(z:Sz)(x:Rz):∃ρ1,sNb (DC (cL (cSl (cV 0) none (some 6))) (gTL (pA (gN 1) (pA (gN 2) (pA (gN 3) (pA (gN 4) (pA (gN 5) (pA (gN 6) AL)))))) 6)) (stE 18 [.lst (szL z x)])=some (.nx ρ1)/\sNb (DC (cL (cSl (cV 0) (some 6) none)) (gTL (pA (gN 7) (pA (gN 8) (pA (gN 9) (pA (gN 10) (pA (gN 11) AL))))) 5)) ρ1=some (.nx (mZ z x .un .un .un .un .un .un)):=⟨[.im (.lst (szL z x)),.im (nI z.r),.im (nI z.t),.im (nI z.w),.im (nI z.m),.im (nI z.y),.im (nI z.v),.un,.un,.un,.un,.un,.un,.un,.un,.un,.un,.un],by kernel_rfl,by kernel_rfl⟩
section
variable{z:Sz}{x:Rz}(hr:z.r∈rg 1 6)(ht:z.t∈rg 0 9)(hw:z.w∈rg 1 5)(hm:z.m∈rg 1 5)(hv:z.v∈rg 0 8)(hy:z.y<=(wyA z.r).length)(hn:x.n<=30)(hq:x.q<=6)(hd:x.d<=5)(hp:x.p∈rg 1 5)(hs:x.s∈rg 2 60)
include hr ht hw hm hv hy hn hq hd hp hs
theorem E3:∃ρ,tN (stE 18 [.lst (szL z x)])=sXm 14 oV mkA ρ/\mkA ρ=some ([z.T,z.M,z.K,z.W,z.V,.lst x.R],ρ):=by
 obtain⟨ρ1,e1,e2⟩:=Pj z x;let ρ:List Sl:=mZ z x (.im (nmD z.r)) (.im (awD z.r)) (.im (.str "outside")) (.im z.M) (.im z.V) (.im (.lst x.R));refine⟨ρ,?_,?_⟩
 rotate_left
 ·unfold mkA;refine oE (ρ1:=ρ) (oK (ρ1:=ρ) (ds:=[nI z.r,nI z.t,nI z.w]) rfl (tab Ja (tY hr ht hw))) (oE (ρ1:=ρ) (e:=cV 15) rfl (oE (ρ1:=ρ) (tab (Sb _ _ _ _ _ _ _ _ _ _ _ _ _ _ _ _) hr) (oE (ρ1:=ρ) (e:=cL (rY (cV 13) oNo (oAt (cV 5)))) ?_ (oE (ρ1:=ρ) (e:=cV 16) rfl (oE (ρ1:=ρ) (e:=cV 17) rfl rfl)))));refine(ux (Pe (ds:=(wyA z.r).map wyD) (ρ1:=ρ) (ρ2:=ρ) (ρ3:=ρ) (l:=none) (u:=some (z.y:Int)) rfl rfl rfl)).trans ?_;rw[DX z.y (by rw[ar];exact hy),<- fZ];rfl
 unfold tN;refine(om e1).trans ((om e2).trans ?_);refine(om (tab (R7 _ _ _ _ _ _ _ _ _ _ _ _ _ _ _ _ _) hr)).trans ?_;refine(om (ρ':=mZ z x (.im (nmD z.r)) (.im (.lst [])) .un .un .un .un) rfl).trans ?_;refine(om (tab (R8 _ _ _ _ _ _ _ _ _ _ _ _ _ _ _ _) hr)).trans ?_;refine(om (tab (R9 _ _ _ _ _ _ _ _ _ _ _ _ _ _ _ _ _) hm)).trans ?_;refine(om (tab (Sa _ _ _ _ _ _ _ _ _ _ _ _ _ _ _ _ _) hv)).trans ?_;exact(om (ρ':=ρ) (sf ((sF (oK (ds:=[nI x.n,nI x.q,nI x.d,nI x.p,nI x.s]) rfl (Jf hq hd hp hs hn))).trans rfl)))
theorem qW(h:oV [z.T,z.M,z.K,z.W,z.V,.lst x.R]=some none):oG [.lst (szL z x)]=some none:=by
 obtain⟨ρ,e1,e2⟩:=E3 hr ht hw hm hv hy hn hq hd hp hs;have e:sXm 14 oV mkA ρ=some (.bk ρ):=by unfold sXm;rw[e2];simp only[h]
 unfold oG fnV;rw[ag (show [D.lst (szL z x)].length=1 from rfl),e1,e]
theorem Jk{es:List L4.D}(h:oV [z.T,z.M,z.K,z.W,z.V,.lst x.R]=some (some (ns,es))):oG [.lst (szL z x)]=some (some (.obj 14 ns es)):=by
 obtain⟨ρ,e1,e2⟩:=E3 hr ht hw hm hv hy hn hq hd hp hs;have e:sXm 14 oV mkA ρ=some (.rt (.obj 14 ns es) ρ):=by unfold sXm;rw[e2];simp only[h]
 unfold oG fnV;rw[ag (show [D.lst (szL z x)].length=1 from rfl),e1,e]
end
theorem refused{l:L4.D}(h:oG [l]=some none):pZ [l]=some (.bl true):=by
 let ρ:List Sl:=[.im l,.im (.lst [.bl true]),.un];have e:sTryV oG (a1 (cV 0)) 2 1 [.bl false,.bl false,.bl false,.bl false,.bl false,.bl false] ρ=some (.nx [.im l,.im (.lst [.bl false,.bl false,.bl false,.bl false,.bl false,.bl false]),.un]):=by unfold sTryV;rw[show a1 (cV 0) ρ=some ([l],ρ) from rfl];simp only[h];rfl
 refine qD (ρ:=[.im l,.im (.lst [.bl false,.bl false,.bl false,.bl false,.bl false,.bl false]),.un]) rfl ?_;unfold sQ;exact(om (ρ':=ρ) rfl).trans ((om e).trans rfl)
structure D1(z:Sz):Prop where
 r:z.r∈rg 1 5
 t:z.t∈rg 0 8
 w:z.w∈rg 1 4
 m:z.m∈rg 1 4
 y:z.y∈rg 0 11
 v:z.v∈rg 0 7
 l:z.y<=3 * z.r
structure D2(x:Rz):Prop where
 n:x.n<=20
 q:x.q<=5
 d:x.d<=4
 p:x.p∈rg 1 4
 s:x.s∈rg 2 59
theorem pH{a n k:Nat}(h:k∈rg a n):a<=k/\k<a+n:=by obtain⟨i,hi,rfl⟩:=bc.mp h;have:=bj.mp hi;omega
theorem oj{a n k b m:Nat}(h:k∈rg a n)(h1:b<=a:=by decide)(h2:a+n<=b+m:=by decide):k∈rg b m:=by have:=pH h;exact oX (by omega) (by omega)
theorem wF{r:Nat}(h:r∈rg 1 5):(wyA r).length=3 * r:=by rw[tab Sd (oj h)];have:=pH h;rw[ah (by omega)]
theorem Se:((x2 (rg 0 6) (rg 1 4)).all λp=>tB p.1 p.2)=true:=by kernel_rfl
theorem Q5:((rg 1 5).map λq=>tB q 5)=(rg 1 5).map λq=>false:=by kernel_rfl
theorem Sf:((rg 0 5).all λd=>dB d)=true:=by kernel_rfl
variable{x:Rz}
theorem Q6(h:D2 x):x.ok=true:=by
 have e:rB x.q x.d x.p x.s=true:=by unfold rB;have q1:=aF.mp Se (x.q,x.p) (pT (oX (aR _) (by have:=h.q;omega)) h.p);have q2:=aF.mp Sf x.d (oX (aR _) (by have:=h.d;omega));have q3:aP x.s 60=true:=bG (by have:=pH h.s;omega);rw[q3,show tB x.q x.p=true from q1,q2];rfl
 unfold Rz.ok;rw[bb h.n,e];exact aF.mpr λ_ _=>rfl
theorem sA(h:D1 z):qg z.P=some true:=by
 have b:=pH h.y;exact sR z (b1:=true) (b2:=true) (b5:=true) (b7:=true) (b8:=true) (b9:=true) ((tab (DY (wdD z.w)) (pT (oj h.r) (oj h.t))).trans (by rw[bG (by have:=pH h.r;omega),bG (by have:=pH h.t;omega)];rfl))
  (λ_=>(tab Jb (oj h.m)).trans (by rw[bG (by have:=pH h.m;omega)])) (λ_=>⟨h.r,h.t,h.m,tab Pf (tY h.r h.t h.w)⟩) (λ_=>Jc h.r (by omega) h.t h.m)
  (λ_=>(tab QX (oj h.v)).trans (by rw[bG (by have:=pH h.v;omega)])) λ_=>Pi h.r h.t h.w (by omega) h.v
theorem Gg(h:D1 z)(k:D2 x):∃ds,oG [.lst (szL z x)]=some (some (.obj 14 wNs (z.T::ds))):=by have b:=k.q;have b':=k.d;have b2:=k.n;obtain⟨ds,e⟩:=Q4 (x:=x) h.r h.t h.m h.v h.y (sA h) (by omega) (oX (aR _) (by omega)) (oX (aR _) (by omega)) (oj k.p) (oj k.s) (Q6 k);exact⟨ds,Jk (oj h.r) (oj h.t) (oj h.w) (oj h.m) (oj h.v) (by rw[wF h.r];exact h.l) (by omega) (by omega) (by omega) (oj k.p) (oj k.s) e⟩
section
variable{z:Sz}{x:Rz}(h:D1 z)(k:D2 x)(h5:z.r=5)(h1:1<=z.t)(n1:1<=x.n)(q1:1<=x.q)
include h k h5 h1 n1 q1
theorem Sg:oG [.lst (szL { z with r:=6 } x)]=some none:=by have b:=pH h.y;have b1:=k.q;have b':=k.d;have b2:=k.n;refine qW (z:={ z with r:=6 }) (x:=x) (oX (by show 1<=6;decide) (by show 6<1+6;decide)) (oj h.t) (oj h.w) (oj h.m) (oj h.v) (by show z.y<=15;omega) (show x.n<=30 by omega) (show x.q<=6 by omega) (show x.d<=5 by omega) (oj k.p) (oj k.s) (uk _ ?_);exact sR { z with r:=6 } (b1:=false) (b2:=false) (b5:=false) (b7:=false) (b8:=false) (b9:=false) (tab (DY (wdD z.w)) (a:=(6,z.t)) (pT (oX (by decide) (by decide)) (oj h.t))) (λe=>by cases e) (λe=>by cases e) (λe=>by cases e) (λe=>by cases e) (λe=>by cases e)
theorem Sh:oG [.lst (szL { z with t:=8 } x)]=some none:=by have b:=pH h.y;have b1:=k.q;have b':=k.d;have b2:=k.n;refine qW (z:={ z with t:=8 }) (x:=x) (oj h.r) (oX (by show 0<=8;decide) (by show 8<0+9;decide)) (oj h.w) (oj h.m) (oj h.v) (by show z.y<=(wyA z.r).length;rw[wF h.r];exact h.l) (show x.n<=30 by omega) (show x.q<=6 by omega) (show x.d<=5 by omega) (oj k.p) (oj k.s) (uk _ ?_);exact sR { z with t:=8 } (b1:=false) (b2:=false) (b5:=false) (b7:=false) (b8:=false) (b9:=false) ((tab (DY (wdD z.w)) (a:=(z.r,8)) (pT (oj h.r) (oX (by decide) (by decide)))).trans (by show some (aP z.r 5&&false)=some false;rw[cc])) (λe=>by cases e) (λe=>by cases e) (λe=>by cases e) (λe=>by cases e) (λe=>by cases e)
theorem Si:oG [.lst (szL { z with w:=5 } x)]=some none:=by have b:=pH h.y;have b1:=k.q;have b':=k.d;have b2:=k.n;refine qW (z:={ z with w:=5 }) (x:=x) (oj h.r) (oj h.t) (oX (by show 1<=5;decide) (by show 5<1+5;decide)) (oj h.m) (oj h.v) (by show z.y<=(wyA z.r).length;rw[wF h.r];exact h.l) (show x.n<=30 by omega) (show x.q<=6 by omega) (show x.d<=5 by omega) (oj k.p) (oj k.s) (uk _ ?_);exact sR { z with w:=5 } (b1:=true) (b2:=true) (b5:=false) (b7:=false) (b8:=false) (b9:=false) ((tab (DY (wdD 5)) (pT (oj h.r) (oj h.t))).trans (by rw[bG (by have:=pH h.r;omega),bG (by have:=pH h.t;omega)];rfl)) (λ_=>(tab Jb (oj h.m)).trans (by rw[bG (by have:=pH h.m;omega)])) (λ_=>⟨h.r,h.t,h.m,by show oW [LD (tkL z.r z.t (wdD 5))]=some false;rw[h5];exact tab RA (oX h1 (by have:=pH h.t;omega))⟩) (λe=>by cases e) (λe=>by cases e) (λe=>by cases e)
theorem Sj:oG [.lst (szL { z with m:=5 } x)]=some none:=by have b:=pH h.y;have b1:=k.q;have b':=k.d;have b2:=k.n;refine qW (z:={ z with m:=5 }) (x:=x) (oj h.r) (oj h.t) (oj h.w) (oX (by show 1<=5;decide) (by show 5<1+5;decide)) (oj h.v) (by show z.y<=(wyA z.r).length;rw[wF h.r];exact h.l) (show x.n<=30 by omega) (show x.q<=6 by omega) (show x.d<=5 by omega) (oj k.p) (oj k.s) (uk _ ?_);exact sR { z with m:=5 } (b1:=true) (b2:=false) (b5:=false) (b7:=false) (b8:=false) (b9:=false) ((tab (DY (wdD z.w)) (pT (oj h.r) (oj h.t))).trans (by rw[bG (by have:=pH h.r;omega),bG (by have:=pH h.t;omega)];rfl)) (λ_=>tab Jb (a:=5) (oX (by decide) (by decide))) (λe=>by cases e) (λe=>by cases e) (λe=>by cases e) (λe=>by cases e)
theorem Sk:oG [.lst (szL { z with y:=11 } x)]=some none:=by have b:=pH h.y;have b1:=k.q;have b':=k.d;have b2:=k.n;refine qW (z:={ z with y:=11 }) (x:=x) (oj h.r) (oj h.t) (oj h.w) (oj h.m) (oj h.v) (by show 11<=(wyA z.r).length;rw[h5];show 11<=15;decide) (show x.n<=30 by omega) (show x.q<=6 by omega) (show x.d<=5 by omega) (oj k.p) (oj k.s) (uk _ ?_);exact sR { z with y:=11 } (b1:=true) (b2:=true) (b5:=true) (b7:=false) (b8:=false) (b9:=false) ((tab (DY (wdD z.w)) (pT (oj h.r) (oj h.t))).trans (by rw[bG (by have:=pH h.r;omega),bG (by have:=pH h.t;omega)];rfl)) (λ_=>(tab Jb (oj h.m)).trans (by rw[bG (by have:=pH h.m;omega)])) (λ_=>⟨h.r,h.t,h.m,tab Pf (tY h.r h.t h.w)⟩) (λ_=>by show qd [WD (wyL z.r 11),_,_]=some false;rw[h5];exact Ph _ _) (λe=>by cases e) (λe=>by cases e)
theorem Sm:oG [.lst (szL { z with v:=7 } x)]=some none:=by have b:=pH h.y;have b1:=k.q;have b':=k.d;have b2:=k.n;refine qW (z:={ z with v:=7 }) (x:=x) (oj h.r) (oj h.t) (oj h.w) (oj h.m) (oX (by show 0<=7;decide) (by show 7<0+8;decide)) (by show z.y<=(wyA z.r).length;rw[wF h.r];exact h.l) (show x.n<=30 by omega) (show x.q<=6 by omega) (show x.d<=5 by omega) (oj k.p) (oj k.s) (uk _ ?_);exact sR { z with v:=7 } (b1:=true) (b2:=true) (b5:=true) (b7:=true) (b8:=false) (b9:=false) ((tab (DY (wdD z.w)) (pT (oj h.r) (oj h.t))).trans (by rw[bG (by have:=pH h.r;omega),bG (by have:=pH h.t;omega)];rfl)) (λ_=>(tab Jb (oj h.m)).trans (by rw[bG (by have:=pH h.m;omega)])) (λ_=>⟨h.r,h.t,h.m,tab Pf (tY h.r h.t h.w)⟩) (λ_=>Jc h.r (show z.y<=10 by omega) h.t h.m) (λ_=>tab QX (a:=7) (oX (by decide) (by decide))) (λe=>by cases e)
theorem Sn:oG [.lst (szL z { x with n:=21 })]=some none:=by have b:=pH h.y;have b1:=k.q;have b':=k.d;have b2:=k.n;refine qW (z:=z) (x:={ x with n:=21 }) (oj h.r) (oj h.t) (oj h.w) (oj h.m) (oj h.v) (by show z.y<=(wyA z.r).length;rw[wF h.r];exact h.l) (by show 21<=30;decide) (show x.q<=6 by omega) (show x.d<=5 by omega) (oj k.p) (oj k.s) (Jj h.r h.t h.m h.v (sA h) (by show 21<=100;decide) (oj k.p) (oj k.s) ?_);rfl
theorem So:oG [.lst (szL z { x with q:=6 })]=some none:=by have b:=pH h.y;have b1:=k.q;have b':=k.d;have b2:=k.n;refine qW (z:=z) (x:={ x with q:=6 }) (oj h.r) (oj h.t) (oj h.w) (oj h.m) (oj h.v) (by show z.y<=(wyA z.r).length;rw[wF h.r];exact h.l) (show x.n<=30 by omega) (by show 6<=6;decide) (show x.d<=5 by omega) (oj k.p) (oj k.s) (Jj h.r h.t h.m h.v (sA h) (show x.n<=100 by omega) (oj k.p) (oj k.s) ?_);unfold Rz.ok;rw[show ({ x with q:=6 }:Rz).R.all (λ_=>rB 6 x.d x.p x.s)=false from BX (a:=({ x with q:=6 }:Rz).u) (fN.mpr ⟨by show x.n≠0;omega,rfl⟩) ?_,cc];show (aP x.s 60&&(tB 6 x.p&&_))=false;rw[show tB 6 x.p=false from rfl,fV,cc]
theorem Sq:oG [.lst (szL z { x with d:=5 })]=some none:=by have b:=pH h.y;have b1:=k.q;have b':=k.d;have b2:=k.n;refine qW (z:=z) (x:={ x with d:=5 }) (oj h.r) (oj h.t) (oj h.w) (oj h.m) (oj h.v) (by show z.y<=(wyA z.r).length;rw[wF h.r];exact h.l) (show x.n<=30 by omega) (show x.q<=6 by omega) (by show 5<=5;decide) (oj k.p) (oj k.s) (Jj h.r h.t h.m h.v (sA h) (show x.n<=100 by omega) (oj k.p) (oj k.s) ?_);unfold Rz.ok;rw[show ({ x with d:=5 }:Rz).R.all (λ_=>rB x.q 5 x.p x.s)=false from BX (a:=({ x with d:=5 }:Rz).u) (fN.mpr ⟨by show x.n≠0;omega,rfl⟩) ?_,cc];show (aP x.s 60&&(tB x.q x.p&&(dB 5&&true)))=false;rw[show dB 5=false from rfl,fV,cc,cc]
theorem Sr:oG [.lst (szL z { x with p:=5 })]=some none:=by have b:=pH h.y;have b1:=k.q;have b':=k.d;have b2:=k.n;refine qW (z:=z) (x:={ x with p:=5 }) (oj h.r) (oj h.t) (oj h.w) (oj h.m) (oj h.v) (by show z.y<=(wyA z.r).length;rw[wF h.r];exact h.l) (show x.n<=30 by omega) (show x.q<=6 by omega) (show x.d<=5 by omega) (oX (by show 1<=5;decide) (by show 5<1+5;decide)) (oj k.s) (Jj h.r h.t h.m h.v (sA h) (show x.n<=100 by omega) (oX (by show 1<=5;decide) (by show 5<1+5;decide)) (oj k.s) ?_);unfold Rz.ok;rw[show ({ x with p:=5 }:Rz).R.all (λ_=>rB x.q x.d 5 x.s)=false from BX (a:=({ x with p:=5 }:Rz).u) (fN.mpr ⟨by show x.n≠0;omega,rfl⟩) ?_,cc];show (aP x.s 60&&(tB x.q 5&&_))=false;rw[show tB x.q 5=false from tab Q5 (oX q1 (by omega)),fV,cc]
theorem Ss:oG [.lst (szL z { x with s:=61 })]=some none:=by have b:=pH h.y;have b1:=k.q;have b':=k.d;have b2:=k.n;refine qW (z:=z) (x:={ x with s:=61 }) (oj h.r) (oj h.t) (oj h.w) (oj h.m) (oj h.v) (by show z.y<=(wyA z.r).length;rw[wF h.r];exact h.l) (show x.n<=30 by omega) (show x.q<=6 by omega) (show x.d<=5 by omega) (oj k.p) (oX (by show 2<=61;decide) (by show 61<2+60;decide)) (Jj h.r h.t h.m h.v (sA h) (show x.n<=100 by omega) (oj k.p) (oX (by show 2<=61;decide) (by show 61<2+60;decide)) ?_);unfold Rz.ok;rw[show ({ x with s:=61 }:Rz).R.all (λ_=>rB x.q x.d x.p 61)=false from BX (a:=({ x with s:=61 }:Rz).u) (fN.mpr ⟨by show x.n≠0;omega,rfl⟩) ?_,cc];show (aP 61 60&&_)=false;rfl
end
theorem Ll(ns:List Int)(k:Nat):∃c,sP [.fzl (ns.map D.int),.int k]=some (.int c):=by
 let ρ:List Sl:=[.im (.fzl (ns.map D.int)),.im (.int k)];have ev:cT (c2 Hr (cV 1) (c1 uc (cV 0))) ρ=some (decide ((k:Int)<((ns.map D.int).length:Nat)),ρ):=rfl;rw[ar]at ev;by_cases h:k<ns.length
 ·rw[bb (by omega)]at ev;refine⟨ns[k],qD (ρ:=ρ) rfl (xS ((yS ev).trans (rX (pI (x:=.fzl (ns.map D.int)) (y:=.int k) rfl rfl ?_))))⟩;exact Ef (by rw[aU,aQ h];rfl)
 ·rw[ba (by omega)]at ev;exact⟨0,qD (ρ:=ρ) rfl ((om ((vV ev).trans rfl)).trans rfl)⟩
def moL:List Nat:=[5,7,4,4,10,6,20,5,4,4,60]
def leL:List Nat:=[1,0,1,1,0,0,0,0,0,1,2]
def mo(k:Nat):Nat:=moL.getD k 0
def le(k:Nat):Nat:=leL.getD k 0
def drB:FS:=(og (oY 6 (c2 pW (c2 dIx (cV 3) (cV 5)) (xO pB 1 (a1 (c2 pW (c2 rS (c2 dIx (cV 2) (cV 5)) (c2 dIx (cV 3) (cV 5))) (cC (.int 1)))))))
 (ra (zm 4 (c2 dIx (cL (oI (aCons (cV 6) (a1 (c2 dIx (cV 2) (cV 5)))))) (xO pB 1 (a1 (cC (.int 2))))))))
abbrev moD:L4.D:=.lst (moL.map nI)
abbrev leD:L4.D:=.lst (leL.map nI)
abbrev dS(S:Sl)(es acc:List L4.D)(s5 s6:Sl):List Sl:=[S,.ls es,.im moD,.im leD,.ls acc,s5,s6,.un,.un,.un,.un]
section
variable(S:Sl)(es acc:List L4.D)(s6:Sl)
theorem Q7:((rg 0 11).map λk=>(c2 pW (c2 rS (c2 dIx (cV 2) (cV 5)) (c2 dIx (cV 3) (cV 5))) (cC (.int 1))) (dS S es acc (.im (nI k)) s6))=(rg 0 11).map λk=>some (.int ((mo k:Int) - (le k:Int)+1),dS S es acc (.im (nI k)) s6):=by kernel_rfl
theorem Pk:((rg 0 11).map λk=>(c2 dIx (cV 3) (cV 5)) (dS S es acc (.im (nI k)) s6))=(rg 0 11).map λk=>some (nI (le k),dS S es acc (.im (nI k)) s6):=by kernel_rfl
theorem Pl:((rg 0 11).map λk=>(c2 dIx (cV 2) (cV 5)) (dS S es acc (.im (nI k)) s6))=(rg 0 11).map λk=>some (nI (mo k),dS S es acc (.im (nI k)) s6):=by kernel_rfl
theorem Pm:((rg 0 11).all λk=>aP (le k) (mo k)&&aP (mo k) 100)=true:=by kernel_rfl
end
theorem Lm(S:Sl){es acc:List L4.D}{k:Nat}(hk:k∈rg 0 11)(h:Ar es)(ha:acc.length<1000)(s6:Sl):∃x es' t6,le k<=x/\x<=mo k/\Ar es'/\drB (dS S es acc (.im (nI k)) s6)=some (.nx (dS S es' (acc++[nI x]) (.im (nI k)) t6)):=by
 have bd:=aF.mp Pm k hk;rw[aC]at bd;have bd1:=dU bd.1;have bd2:=dU bd.2;obtain⟨d,es1,x1,p0,p1,h1⟩:=dgx (i:=1) (λes=>dS S es acc (.im (nI k)) s6) (λ_=>rfl) (λ_ _=>rfl) (tab (Q7 S es acc s6) hk) h (by omega) (by omega);obtain⟨m,rfl⟩:=i4 p0;let X:L4.D:=.int ((le k:Int)+(m:Int));have e1:oY 6 (c2 pW (c2 dIx (cV 3) (cV 5)) (xO pB 1 (a1 (c2 pW (c2 rS (c2 dIx (cV 2) (cV 5)) (c2 dIx (cV 3) (cV 5))) (cC (.int 1)))))) (dS S es acc (.im (nI k)) s6)=some (.nx (dS S es1 acc (.im (nI k)) (.im X))):=(sF (pI (tab (Pk S es acc s6) hk) x1 rfl)).trans rfl;obtain⟨d,hd,es2,x2,h2⟩:=pk (i:=1) (L:=[X,nI (mo k)]) (a:=cC (.int 2)) (e:=cL (oI (aCons (cV 6) (a1 (c2 dIx (cV 2) (cV 5)))))) (λes=>dS S es acc (.im (nI k)) (.im X)) (λ_=>rfl) (λ_ _=>rfl)
  (ux (HK (oE rfl (oE (tab (Pl S es1 acc (.im X)) hk) rfl)) (dU rfl))) rfl h1 (by intro z;cases z) (dU rfl)
 have fin:∀y:Nat,d=nI y->drB (dS S es acc (.im (nI k)) s6)=some (.nx (dS S es2 (acc++[nI y]) (.im (nI k)) (.im X))):=λy ey=>by subst ey;unfold drB;exact(om e1).trans ((yT (HL (ρ1:=dS S es2 acc (.im (nI k)) (.im X)) (es:=acc) (es0:=acc) rfl x2 rfl ha)).trans rfl)
 simp only[aN,eR,or_false]at hd;rcases hd with e|e
 ·exact⟨le k+m,es2,_,by omega,by omega,h2,fin _ (e.trans (by show D.int _=D.int _;rw[Int.natCast_add]))⟩
 ·exact⟨mo k,es2,_,bd1,ay _,h2,fin _ e⟩
def InL:List Nat->List Nat->Prop
 |[],[]=>True
 |k::l,x::xs=>(le k<=x/\x<=mo k)/\InL l xs
 |_,_=>False
variable{xs:List Nat}
theorem qX{k:Nat}{l:List Nat}(h:InL (k::l) xs):∃x ys,xs=x::ys/\le k<=x/\x<=mo k/\InL l ys:=by
 cases xs with
 |nil=>exact h.elim
 |cons x ys=>exact⟨x,ys,rfl,h.1.1,h.1.2,h.2⟩
theorem Pn(h:InL [] xs):xs=[]:=by
 cases xs with
 |nil=>rfl
 |cons x ys=>exact h.elim
theorem E4(S:Sl):∀(l:List Nat) (es acc:List L4.D) (s5 s6:Sl),(∀k∈l,k∈rg 0 11)->Ar es->acc.length+l.length<1000->∃xs es' t5 t6,InL l xs/\forL (gN 5) drB (l.map nI) (dS S es acc s5 s6)=some (.nx (dS S es' (acc++xs.map nI) t5 t6))
 |[],es,acc,s5,s6,_,h,_=>⟨[],es,s5,s6,trivial,by rw[f7,bE];rfl⟩
 |k::l,es,acc,s5,s6,hl,h,ha=>by rw[aB]at ha;obtain⟨x,es1,t6,b1,b2,h1,e1⟩:=Lm S (acc:=acc) (hl k aL) h (by omega) s6;obtain⟨xs,es2,u5,u6,hx,e2⟩:=E4 S l es1 (acc++[nI x]) (.im (nI k)) t6 (λk hk=>hl k (aM _ hk)) h1 (by rw[aE,bJ];omega);refine⟨x::xs,es2,u5,u6,⟨⟨b1,b2⟩,hx⟩,?_⟩;rw[aT];unfold forL;rw[show gN 5 (nI k) (dS S es acc s5 s6)=some (dS S es acc (.im (nI k)) s6) from rfl];simp only[e1];rw[e2,cG];rfl
section
variable(S S1 S2 S3 S4 s5 s6 s7:Sl)(r t w m y v n q d p s:L4.D)
theorem Su:((x2 (rg 1 5) (rg 0 11)).map λa=>rW 4 4 (c2 dMin2 (u0 (c2 dIx (cV 4) (cC (.int 4)))) (u0 (c2 sE (cC (.int 3)) (c2 dIx (cV 4) (cC (.int 0)))))) [S,S1,S2,S3,.ls [nI a.1,t,w,m,nI a.2,v,n,q,d,p,s],s5,s6,.un,.un,.un,.un])=(x2 (rg 1 5) (rg 0 11)).map λa=>some (.nx [S,S1,S2,S3,.ls [nI a.1,t,w,m,nI (min a.2 (3 * a.1)),v,n,q,d,p,s],s5,s6,.un,.un,.un,.un]):=by kernel_rfl
theorem Sv:((x3 (rg 0 8) (rg 0 21) (rg 0 6)).map λa=>oY 7 (cL (p9 (cL (p9 (cL (p9 (cL (oI (aCons (cC (.int 5)) (a1 (c2 dMax2 (cC (.int 1)) (c2 dIx (cFz 4) (cC (.int 1)))))))) (cL (cSl (cV 4) (some 2) (some 6))))) (cL (oI (aCons (c2 dMax2 (cC (.int 1)) (c2 dIx (cV 4) (cC (.int 6)))) (a1 (c2 dMax2 (cC (.int 1)) (c2 dIx (cV 4) (cC (.int 7)))))))))) (cL (cSl (cV 4) (some 8) none)))) [S,S1,S2,S3,.ls [r,nI a.1,w,m,y,v,nI a.2.1,nI a.2.2,d,p,s],s5,s6,.un,.un,.un,.un])
  = (x3 (rg 0 8) (rg 0 21) (rg 0 6)).map λa=>some (.nx [S,S1,S2,S3,.im (.lst [r,nI a.1,w,m,y,v,nI a.2.1,nI a.2.2,d,p,s]),s5,s6,.im (.lst [nI 5,nI (max 1 a.1),w,m,y,v,nI (max 1 a.2.1),nI (max 1 a.2.2),d,p,s]),.un,.un,.un]):=by kernel_rfl
def rfA:FA:=a1 (cL (p9 (cL (p9 (cL (rY (cV 7) oNo (oAt (cV 5)))) (cL (oI (a1 (c2 pW (c2 dIx (cV 2) (cV 5)) (cC (.int 1)))))))) (cL (rY (cV 7) (oAt (c2 pW (cV 5) (cC (.int 1)))) oNo))))
abbrev eS(S S1 S3 S4 s5 s6:Sl)(F:List L4.D):List Sl:=[S,S1,.im moD,S3,S4,s5,s6,.im (.lst F),.un,.un,.un]
theorem Sw:((rg 0 11).map λk=>rfA (eS S S1 S3 S4 (.im (nI k)) s6 [r,t,w,m,y,v,n,q,d,p,s]))=(rg 0 11).map λk=>some ([.lst ([r,t,w,m,y,v,n,q,d,p,s].set k (nI (mo k+1)))],eS S S1 S3 S4 (.im (nI k)) s6 [r,t,w,m,y,v,n,q,d,p,s]):=by kernel_rfl
def slD:L4.D:=tkD ⟨.str "self", .tup [.str "self"],.you,.str "hall"⟩
def Q8:FS:=(og (oY 8 (oA 0 (λds=>o8 (ds++[D.non])) (aCons (cS "hall") (aCons (qZ (a1 (cS "hall"))) (a1 (cS "room"))))))
 (og (oY 9 (oA 0 (λds=>o8 (ds++[])) (aCons (cS "me") (aCons (qZ (a1 (cS "me"))) (aCons (cS "you") (a1 (cS "hall")))))))
 (og (sIf (rk (cT (n6 oF (a1 (cL (oI (aCons (cV 8) (a1 (cV 9)))))))) (rk (pC (cT (n6 oF (a1 (cL (oI (a1 (cV 8)))))))) (pC (cT (n6 oF (a1 (cL (oI (a1 (cV 9)))))))))) (oJ (cC (.bl false))) o3)
 (og (oY 10 (oA 0 (λds=>o8 (ds++[])) (aCons (cS "self") (aCons (qZ (a1 (cS "self"))) (aCons (cS "you") (a1 (cS "hall")))))))
 (oJ (pj (n6 oF (a1 (cL (oI (aCons (cV 8) (aCons (cV 9) (a1 (cV 10)))))))) (n6 oF (a1 (cL (oI o6))))))))))
theorem Ln:Q8 [S,S1,S2,S3,S4,s5,s6,s7,.un,.un,.un]=some (.rt (.bl true) [S,S1,S2,S3,S4,s5,s6,s7,.im (tkD (rmT "hall")),.im (tkD meT),.im slD]):=by kernel_rfl
end
def rfB:FS:=sIf (pC (cT (n6 pZ rfA))) (oJ (cC (.bl false))) o3
theorem E5(S S1 S3 S4 s6:Sl)(F:List L4.D):∀(l:List Nat) (s5:Sl),(∀k∈l,∃ds,rfA (eS S S1 S3 S4 (.im (nI k)) s6 F)=some (ds,eS S S1 S3 S4 (.im (nI k)) s6 F)/\pZ ds=some (.bl true))->∃t5,forL (gN 5) rfB (l.map nI) (eS S S1 S3 S4 s5 s6 F)=some (.nx (eS S S1 S3 S4 t5 s6 F))
 |[],s5,_=>⟨s5,rfl⟩
 |k::l,s5,h=>by obtain⟨t5,e⟩:=E5 S S1 S3 S4 s6 F l (.im (nI k)) λk hk=>h k (aM _ hk);obtain⟨ds,e1,e2⟩:=h k aL;refine⟨t5,?_⟩;rw[aT];unfold forL;rw[show gN 5 (nI k) (eS S S1 S3 S4 s5 s6 F)=some (eS S S1 S3 S4 (.im (nI k)) s6 F) from rfl];have e3:rfB (eS S S1 S3 S4 (.im (nI k)) s6 F)=some (.nx (eS S S1 S3 S4 (.im (nI k)) s6 F)):=(vV (BM (HJ (oK e1 e2)))).trans rfl;simp only[e3];exact e
theorem Lo(h:D1 z)(k:D2 x)(h5:z.r=5)(h1:1<=z.t)(n1:1<=x.n)(q1:1<=x.q):∀j∈rg 0 11,pZ [.lst ((szL z x).set j (nI (mo j+1)))]=some (.bl true):=λj hj=>by
 have e:rg 0 11=[0,1,2,3,4,5,6,7,8,9,10]:=rfl;rw[e]at hj;simp only[aN,eR,or_false]at hj;rcases hj with rfl|rfl|rfl|rfl|rfl|rfl|rfl|rfl|rfl|rfl|rfl
 ·exact refused (Sg h k h5 h1 n1 q1)
 ·exact refused (Sh h k h5 h1 n1 q1)
 ·exact refused (Si h k h5 h1 n1 q1)
 ·exact refused (Sj h k h5 h1 n1 q1)
 ·exact refused (Sk h k h5 h1 n1 q1)
 ·exact refused (Sm h k h5 h1 n1 q1)
 ·exact refused (Sn h k h5 h1 n1 q1)
 ·exact refused (So h k h5 h1 n1 q1)
 ·exact refused (Sq h k h5 h1 n1 q1)
 ·exact refused (Sr h k h5 h1 n1 q1)
 ·exact refused (Ss h k h5 h1 n1 q1)
def ifA:FT:=cT (c2 (dEq true) (c1 uc (pV tL "names" (n6 (dV oG) (a1 (cV 4))) o6)) (c2 pW (c2 pW (c2 dIx (cV 4) (cC (.int 0))) (c2 dIx (cV 4) (cC (.int 1)))) (cC (.int 1))))
theorem Q9(h:D1 z)(k:D2 x)(S S1 S2 S3 s5 s6:Sl)(h0:∀s∈[S,S1,S2,S3,s5,s6],True):vn ifA [S,S1,S2,S3,.ls (szL z x),s5,s6,.un,.un,.un,.un]=some (false,[S,S1,S2,S3,.ls (szL z x),s5,s6,.un,.un,.un,.un]):=by
 obtain⟨ds,e1⟩:=Gg h k;let ρ:List Sl:=[S.bor,S1.bor,S2.bor,S3.bor,.im (.lst (szL z x)),s5.bor,s6.bor,.un,.un,.un,.un];have dv:dV oG [.lst (szL z x)]=some (.obj 14 wNs (z.T::ds)):=by unfold dV;rw[e1]
 have nm:=tab (R0 (wdD z.w) wNs.tail ds) (pT h.r h.t);obtain⟨l,n1,n2⟩:=iZ.mp nm;refine KC (ρ1:=ρ) (HJ (pI (x:=nI (z.r+z.t+1)) (y:=.int ((z.r:Int)+(z.t:Int)+1)) (ρ1:=ρ) (vp (BQ (hh:=tW) (xs:=z.T::ds) (ys:=[]) (ρ1:=ρ) (ρ2:=ρ) (oK (ds:=[.lst (szL z x)]) rfl dv) rfl rfl rfl n1) n2) rfl ((yU true _ _).trans ?_)));rw[bb (by omega)];rfl
theorem Po(ns:List Int)(hl:ns.length<=63):LX [.fzl (ns.map D.int)]=some (.bl true):=by
 obtain⟨c0,e0⟩:=Ll ns 0;let S:Sl:=.im (.fzl (ns.map D.int));obtain⟨xs,es,t5,t6,hx,e1⟩:=E4 S (aJ 11) [.int c0] [] .un .un (λk hk=>oX (aR _) (by have:=bj.mp hk;omega)) (.inl ⟨c0,rfl⟩) (by decide);rw[d6]at e1;rw[show aJ 11=[0,1,2,3,4,5,6,7,8,9,10] from rfl]at hx;obtain⟨r,_,rfl,r1,r2,hx⟩:=qX hx;obtain⟨t,_,rfl,t1,t2,hx⟩:=qX hx;obtain⟨w,_,rfl,w1,w2,hx⟩:=qX hx;obtain⟨m,_,rfl,m1,m2,hx⟩:=qX hx;obtain⟨y,_,rfl,y1,y2,hx⟩:=qX hx;obtain⟨v,_,rfl,v1,v2,hx⟩:=qX hx;obtain⟨n,_,rfl,n1,n2,hx⟩:=qX hx;obtain⟨q,_,rfl,q1,q2,hx⟩:=qX hx;obtain⟨d,_,rfl,d1,d2,hx⟩:=qX hx;obtain⟨p,_,rfl,p1,p2,hx⟩:=qX hx;obtain⟨s,_,rfl,s1,s2,hx⟩:=qX hx;cases Pn hx;replace r1:1<=r:=r1;replace r2:r<=5:=r2;replace t2:t<=7:=t2;replace w1:1<=w:=w1;replace w2:w<=4:=w2;replace m1:1<=m:=m1;replace m2:m<=4:=m2;replace y2:y<=10:=y2;replace v2:v<=6:=v2;replace n2:n<=20:=n2;replace q2:q<=5:=q2;replace d2:d<=4:=d2;replace p1:1<=p:=p1;replace p2:p<=4:=p2;replace s1:2<=s:=s1;replace s2:s<=60:=s2;have hr:r∈rg 1 5:=oX r1 (by omega);have ht:t∈rg 0 8:=oX (aR _) (by omega);let Y:Nat:=min y (3 * r);have z:D1 ⟨r,t,w,m,Y,v⟩:=⟨hr,ht,oX w1 (by show w<5;omega),oX m1 (by show m<5;omega),oX (aR _) (by show min y (3 * r)<11;omega),oX (aR _) (by show v<7;omega),by show min y (3 * r)<=3 * r;omega⟩;have x:D2 ⟨n,q,d,p,s⟩:=⟨n2,q2,d2,oX p1 (by show p<5;omega),oX s1 (by show s<61;omega)⟩;have z5:D1 ⟨5,max 1 t,w,m,Y,v⟩:=⟨oX (show 1<=5 by decide) (show 5<1+5 by decide),oX (aR _) (by show max 1 t<8;omega),z.w,z.m,z.y,z.v,by show min y (3 * r)<=3 * 5;omega⟩;have x5:D2 ⟨max 1 n,max 1 q,d,p,s⟩:=⟨by show max 1 n<=20;omega,by show max 1 q<=5;omega,d2,x.p,x.s⟩;let A:Sl:=.ls es;let M:Sl:=.im moD;let E:Sl:=.im leD;let F:List L4.D:=szL ⟨5,max 1 t,w,m,Y,v⟩ ⟨max 1 n,max 1 q,d,p,s⟩;let Z:Sl:=.im (.lst (szL ⟨r,t,w,m,Y,v⟩ ⟨n,q,d,p,s⟩));obtain⟨u5,e2⟩:=E5 S A E Z t6 F (aJ 11) t5 λk hk=>by have hk':k∈rg 0 11:=oX (aR _) (by have:=bj.mp hk;omega);exact⟨_,tab (Sw S A E Z t6 _ _ _ _ _ _ _ _ _ _ _) hk',Lo z5 x5 rfl (by show 1<=max 1 t;omega) (by show 1<=max 1 n;omega) (by show 1<=max 1 q;omega) k hk'⟩
 refine qD (ρ:=[S,A,M,E,Z,u5,t6,.im (.lst F),.im (tkD (rmT "hall")),.im (tkD meT),.im slD]) rfl ?_;unfold EW;refine(om (ρ':=[S,.ls [.int c0],.un,.un,.un,.un,.un,.un,.un,.un,.un]) ((KA (HK (oE (oK (ds:=[.fzl (ns.map D.int),.int (0:Nat)]) rfl e0) rfl) (dU rfl))).trans rfl)).trans ?_;refine(om (ρ':=[S,.ls [.int c0],M,.un,.un,.un,.un,.un,.un,.un,.un]) (by kernel_rfl)).trans ?_;refine(om (ρ':=[S,.ls [.int c0],M,E,.un,.un,.un,.un,.un,.un,.un]) (by kernel_rfl)).trans ?_;refine(om (ρ':=dS S [.int c0] [] .un .un) rfl).trans ?_;refine(om ((zz (IW (ρ1:=dS S [.int c0] [] .un .un) (n:=11) rfl (by decide))).trans e1)).trans ?_;refine(om (tab (Su S A M E t5 t6 _ _ _ _ _ _ _ _ _) (pT hr (oX (aR y) (by omega))))).trans ?_;refine(om (ρ':=[S,A,M,E,.ls (szL ⟨r,t,w,m,Y,v⟩ ⟨n,q,d,p,s⟩),t5,t6,.un,.un,.un,.un]) ((vV (Q9 z x S A M E t5 t6 λ_ _=>trivial)).trans rfl)).trans ?_;refine(om (tab (Sv S A M E t5 t6 _ _ _ _ _ _ _ _) (tY ht (oX (aR n) (by omega)) (oX (aR q) (by omega))))).trans ?_;refine(om ((zz (IW (ρ1:=eS S A E Z t5 t6 F) (n:=11) rfl (by decide))).trans e2)).trans ?_;exact Ln S A M E Z u5 t6 (.im (.lst F))
end K05x
namespace K05x
open PySem L2 L3 L4
open PySem.W (nsIn)
structure Fx(K:W.Frag)(C0 C1 C2 C3 C4 C5 C6 C7 C8 C9 C10 C11 C12 C13 C14 C15 C16 C17 C18 C19 C20 C21:Addr):Prop where
 a0:nsIn K az "Thing" = some (some (.ref C0))
 a1:nsIn K az "Mark" = some (some (.ref C1))
 a2:nsIn K az "Verb" = some (some (.ref C2))
 a3:nsIn K az "At" = some (some (.ref C3))
 a4:nsIn K az "Has" = some (some (.ref C4))
 a5:nsIn K az "Seen" = some (some (.ref C5))
 a6:nsIn K az "Marked" = some (some (.ref C6))
 a7:nsIn K az "Kind" = some (some (.ref C7))
 a8:nsIn K az "Word" = some (some (.ref C8))
 a9:nsIn K az "Not" = some (some (.ref C9))
 a10:nsIn K az "Both" = some (some (.ref C10))
 a11:nsIn K az "Move" = some (some (.ref C11))
 a12:nsIn K az "Put" = some (some (.ref C12))
 a13:nsIn K az "Rule" = some (some (.ref C13))
 a14:nsIn K az "World" = some (some (.ref C14))
 a15:nsIn K az "Lit" = some (some (.ref C15))
 k0:CF K C0 ["kind", "name", "start", "words"]
 k1:CF K C1 ["most", "name", "start"]
 k2:CF K C2 ["form", "joining", "name", "others"]
 k3:CF K C3 ["place", "term"]
 k4:CF K C4 ["term"]
 k5:CF K C5 ["term"]
 k6:CF K C6 ["term", "value"]
 k7:CF K C7 ["kind", "term"]
 k8:CF K C8 ["word"]
 k9:CF K C9 ["inner"]
 k10:CF K C10 ["one", "other"]
 k11:CF K C11 ["place", "term"]
 k12:CF K C12 ["term", "value"]
 k13:CF K C13 ["deeds", "refuses", "tests", "text", "verb"]
 k14:CF K C14 ["copied_rules", "kept_things", "kept_verbs", "mosts_by_name", "shared_rules", "shared_verbs", "things_by_name", "verbs_by_word", "your_name", "kept_dark", "kept_marks", "kept_rules", "kept_ways", "rules_by_verb"]
 k15:CF K C15 []
 ax:nsIn K az "NoWorld" = some (some (.ref C16))
 xx:XC K C16
 xf:XF K C16
 y0:nsIn K az "NoCommand" = some (some (.ref C17))
 z0:W.kitOne K (.ref C16) (.ref C17)=some false
 y1:nsIn K az "NoText" = some (some (.ref C18))
 z1:W.kitOne K (.ref C16) (.ref C18)=some false
 y2:nsIn K az "NoWish" = some (some (.ref C19))
 z2:W.kitOne K (.ref C16) (.ref C19)=some false
 y3:nsIn K az "TellError" = some (some (.ref C20))
 z3:W.kitOne K (.ref C16) (.ref C20)=some true
 y4:nsIn K az "Unlike" = some (some (.ref C21))
 z4:W.kitOne K (.ref C16) (.ref C21)=some false
 v0:W.kitOne K (.ref C16) (.type "ValueError")=some true
 i_At:pO K [C0,C1,C2,C3,C4,C5,C6,C7,C8,C9,C10,C11,C12,C13,C14,C15] C3 3=true
 i_Both:pO K [C0,C1,C2,C3,C4,C5,C6,C7,C8,C9,C10,C11,C12,C13,C14,C15] C10 10=true
 i_Has:pO K [C0,C1,C2,C3,C4,C5,C6,C7,C8,C9,C10,C11,C12,C13,C14,C15] C4 4=true
 i_Kind:pO K [C0,C1,C2,C3,C4,C5,C6,C7,C8,C9,C10,C11,C12,C13,C14,C15] C7 7=true
 i_Lit:pO K [C0,C1,C2,C3,C4,C5,C6,C7,C8,C9,C10,C11,C12,C13,C14,C15] C15 15=true
 i_Mark:pO K [C0,C1,C2,C3,C4,C5,C6,C7,C8,C9,C10,C11,C12,C13,C14,C15] C1 1=true
 i_Marked:pO K [C0,C1,C2,C3,C4,C5,C6,C7,C8,C9,C10,C11,C12,C13,C14,C15] C6 6=true
 i_Move:pO K [C0,C1,C2,C3,C4,C5,C6,C7,C8,C9,C10,C11,C12,C13,C14,C15] C11 11=true
 i_Not:pO K [C0,C1,C2,C3,C4,C5,C6,C7,C8,C9,C10,C11,C12,C13,C14,C15] C9 9=true
 i_Put:pO K [C0,C1,C2,C3,C4,C5,C6,C7,C8,C9,C10,C11,C12,C13,C14,C15] C12 12=true
 i_Rule:pO K [C0,C1,C2,C3,C4,C5,C6,C7,C8,C9,C10,C11,C12,C13,C14,C15] C13 13=true
 i_Seen:pO K [C0,C1,C2,C3,C4,C5,C6,C7,C8,C9,C10,C11,C12,C13,C14,C15] C5 5=true
 i_Thing:pO K [C0,C1,C2,C3,C4,C5,C6,C7,C8,C9,C10,C11,C12,C13,C14,C15] C0 0=true
 i_Verb:pO K [C0,C1,C2,C3,C4,C5,C6,C7,C8,C9,C10,C11,C12,C13,C14,C15] C2 2=true
 i_Word:pO K [C0,C1,C2,C3,C4,C5,C6,C7,C8,C9,C10,C11,C12,C13,C14,C15] C8 8=true
 n_Lit:W.findIn K (.ref C15) "__init__" = some (some (.builtin "object.__init__"))
 nd:decide ([C0,C1,C2,C3,C4,C5,C6,C7,C8,C9,C10,C11,C12,C13,C14,C15]:List Addr).Nodup=true
 e:((["ValueError", "all", "any", "bool", "int", "isinstance", "len", "list", "max", "min", "range", "set", "str", "tuple"]:List Str).all λx=>match nsIn K az x with|some none=>true|_=>false)=true
 g0:GS K "FORMS" ["alone", "one", "two", "way"]
 g1:GS K "KINDS" ["room", "plain", "fixed", "box", "lamp", "you"]
 g2:GS K "KINDS_APART" ["room", "you"]
 g3:GS K "KINDS_THAT_HOLD" ["room", "box", "you"]
 g4:GS K "KINDS_WITH_MARK" ["box", "lamp"]
 g5:GC K "MOST_BESIDE" 7
 g6:GC K "MOST_BY_COMMAND" 3
 g7:GC K "MOST_DEEDS" 4
 g8:GC K "MOST_DEEP" 4
 g9:GC K "MOST_IN_NAME" 8
 g10:GC K "MOST_IN_WORD" 12
 g11:GC K "MOST_MARKS" 4
 g12:GC K "MOST_OF_MARK" 3
 g13:GC K "MOST_ROOMS" 5
 g14:GC K "MOST_RULES" 20
 g15:GC K "MOST_SIGNS" 60
 g16:GC K "MOST_TESTS" 5
 g17:GC K "MOST_VERBS" 6
 g18:GC K "MOST_WAYS" 10
 g19:GC K "MOST_WORDS" 4
 g20:GS K "NO_NAMES" ["it", "other", "here", "the", "a", "undo", "restart"]
 g21:GS K "NO_WORDS" ["the", "a"]
 g22:GS K "NO_WORDS_OF_ROWS" ["the", "a", "undo", "restart"]
 q23:GD K "is_small_letters" (top 22)
 q24:GD K "is_name" (top 23)
 q25:GD K "is_word" (top 24)
 q26:GD K "is_one_of" (top 26)
 q27:GD K "is_whole" (top 27)
 q28:GD K "is_list_up_to" (top 28)
 q29:GD K "own_list" (top 100)
 q30:GJ K C0 "Thing.__init__" (inClass (top 14) 0) [V.non]
 q31:GM K C1 "__init__" "Mark.__init__" (inClass (top 15) 0)
 q32:GJ K C2 "Verb.__init__" (inClass (top 16) 0) [V.non,(V.str "one"),V.non]
 q33:GM K C3 "__init__" "At.__init__" (inClass (top 77) 0)
 q34:GM K C4 "__init__" "Has.__init__" (inClass (top 78) 0)
 q35:GM K C6 "__init__" "Marked.__init__" (inClass (top 80) 0)
 q36:GM K C7 "__init__" "Kind.__init__" (inClass (top 81) 0)
 q37:GM K C8 "__init__" "Word.__init__" (inClass (top 82) 0)
 q38:GM K C9 "__init__" "Not.__init__" (inClass (top 84) 0)
 q39:GM K C10 "__init__" "Both.__init__" (inClass (top 85) 0)
 q40:GM K C11 "__init__" "Move.__init__" (inClass (top 91) 0)
 q41:GM K C12 "__init__" "Put.__init__" (inClass (top 92) 0)
 q42:GJ K C13 "Rule.__init__" (inClass (top 99) 0) [(V.bl false)]
 q43:GM K C0 "can_hold" "Thing.can_hold" (inClass (top 14) 1)
 q44:GM K C0 "has_mark" "Thing.has_mark" (inClass (top 14) 2)
 q45:GM K C0 "is_plainly" "Thing.is_plainly" (inClass (top 14) 3)
 q46:GD K "refuse_unless" (top 38)
 q47:GD K "count_of" (top 41)
 q48:GD K "plain_ones" (top 42)
 q49:GD K "is_mark" (top 44)
 q50:GD K "check_things" (top 40)
 q51:GD K "check_marks" (top 43)
 q52:GD K "are_unlike" (top 46)
 q53:GD K "check_names" (top 45)
 q54:GD K "mark_names" (top 47)
 q55:GD K "is_start" (top 49)
 q56:GD K "comes_to_room" (top 50)
 q57:GD K "check_starts" (top 48)
 q58:GD K "are_words" (top 52)
 q59:GD K "has_all" (top 54)
 q60:GD K "is_told_apart" (top 53)
 q61:GD K "check_words_of_things" (top 51)
 q62:GD K "check_dark" (top 55)
 q63:GD K "is_way" (top 57)
 q64:GD K "check_ways" (top 56)
 q65:GD K "is_verb" (top 59)
 q66:GD K "check_verbs" (top 58)
 q67:GD K "are_apart" (top 61)
 q68:GD K "check_vocabulary" (top 60)
 q69:GD K "check_parts" (top 39)
 q70:GD K "does" (top 123)
 q71:GD K "refuses" (top 124)
 q72:GD K "hand_rules" (top 125)
 q73:GD K "put_rules" (top 126)
 q74:GD K "lid_rules" (top 127)
 q75:GD K "flame_rules" (top 128)
 q76:GD K "way_tests" (top 130)
 q77:GD K "go_rules" (top 129)
 q78:GD K "wait_rules" (top 131)
 q79:GD K "common_rules" (top 122)
 q80:GD K "common_verbs" (top 121)
 q81:GD K "by_name" (top 135)
 q82:GD K "mosts_by_name" (top 136)
 q83:GD K "verbs_by_word" (top 137)
 q84:GD K "by_verb" (top 138)
 q85:GM K C14 "of_kind" "World.of_kind" (inClass (top 134) 3)
 q86:GM K C14 "all_verbs" "World.all_verbs" (inClass (top 134) 13)
 q87:GD K "is_same_text" (top 25)
 q88:GD K "copy_of" (top 101)
 q89:GM K C14 "thing_of" "World.thing_of" (inClass (top 134) 2)
 q90:GM K C14 "most_of" "World.most_of" (inClass (top 134) 6)
 q91:GM K C14 "verb_of" "World.verb_of" (inClass (top 134) 14)
 q92:GM K C14 "you" "World.you" (inClass (top 134) 4)
 q93:GD K "is_by_command" (top 112)
 q94:GD K "is_here" (top 113)
 q95:GD K "named" (top 114)
 q96:GD K "is_of_kind" (top 115)
 q97:GD K "is_term" (top 116)
 q98:GD K "is_place" (top 117)
 q99:GD K "is_moved" (top 118)
 q100:GD K "is_mark_value" (top 119)
 q101:GD K "is_move" (top 111)
 q102:GD K "is_said" (top 104)
 q103:GD K "is_verb_name" (top 103)
 q104:GD K "does_or_refuses" (top 105)
 q105:GD K "is_plain_test" (top 109)
 q106:GD K "is_test" (top 108)
 q107:GD K "is_deed" (top 110)
 q108:GD K "are_tests" (top 106)
 q109:GD K "are_deeds" (top 107)
 q110:GD K "is_rule" (top 102)
 q111:GM K C14 "__init__" "World.__init__" (inClass (top 134) 0)
 q112:GM K C14 "names" "World.names" (inClass (top 134) 1)
 q113:GD K "_law_cell_at" (top 140)
 q114:GD K "_law_digit" (top 141)
 q115:GD K "_law_things" (top 142)
 q116:GD K "_law_deep" (top 143)
 q117:GD K "_law_rules" (top 144)
 q118:GD K "_law_made" (top 145)
 q119:GD K "_law_refused" (top 146)
 q120:GD K "_law_things_refused" (top 147)
 q121:GD K "law" (top 148)
class Yx(B:Bz):Prop where
 y:Yw B.P B.w B.mg B.base B.G
 f:Fx B.G.K (B.G.ca 0) (B.G.ca 1) (B.G.ca 2) (B.G.ca 3) (B.G.ca 4) (B.G.ca 5) (B.G.ca 6) (B.G.ca 7) (B.G.ca 8) (B.G.ca 9) (B.G.ca 10) (B.G.ca 11) (B.G.ca 12) (B.G.ca 13) (B.G.ca 14) (B.G.ca 15) (B.G.ca 16) (B.G.ca 17) (B.G.ca 18) (B.G.ca 19) (B.G.ca 20) (B.G.ca 21)
section
variable{B:Bz}[Y:Yx B]
instance:Yb B:=⟨Y.y⟩
instance:Nb B "ValueError" := ⟨Y.y.n Y.f.e 0 rfl⟩
instance:Nb B "all" := ⟨Y.y.n Y.f.e 1 rfl⟩
instance:Nb B "any" := ⟨Y.y.n Y.f.e 2 rfl⟩
instance:Nb B "bool" := ⟨Y.y.n Y.f.e 3 rfl⟩
instance:Nb B "int" := ⟨Y.y.n Y.f.e 4 rfl⟩
instance:Nb B "isinstance" := ⟨Y.y.n Y.f.e 5 rfl⟩
instance:Nb B "len" := ⟨Y.y.n Y.f.e 6 rfl⟩
instance:Nb B "list" := ⟨Y.y.n Y.f.e 7 rfl⟩
instance:Nb B "max" := ⟨Y.y.n Y.f.e 8 rfl⟩
instance:Nb B "min" := ⟨Y.y.n Y.f.e 9 rfl⟩
instance:Nb B "range" := ⟨Y.y.n Y.f.e 10 rfl⟩
instance:Nb B "set" := ⟨Y.y.n Y.f.e 11 rfl⟩
instance:Nb B "str" := ⟨Y.y.n Y.f.e 12 rfl⟩
instance:Nb B "tuple" := ⟨Y.y.n Y.f.e 13 rfl⟩
instance:Co B "FORMS" EU:=⟨Y.y.cs Y.f.g0⟩
instance:Co B "KINDS" BW:=⟨Y.y.cs Y.f.g1⟩
instance:Co B "KINDS_APART" wg:=⟨Y.y.cs Y.f.g2⟩
instance:Co B "KINDS_THAT_HOLD" tu:=⟨Y.y.cs Y.f.g3⟩
instance:Co B "KINDS_WITH_MARK" tD:=⟨Y.y.cs Y.f.g4⟩
instance:Co B "MOST_BESIDE" wm:=⟨Y.y.ci Y.f.g5⟩
instance:Co B "MOST_BY_COMMAND" tE:=⟨Y.y.ci Y.f.g6⟩
instance:Co B "MOST_DEEDS" xl:=⟨Y.y.ci Y.f.g7⟩
instance:Co B "MOST_DEEP" yj:=⟨Y.y.ci Y.f.g8⟩
instance:Co B "MOST_IN_NAME" vE:=⟨Y.y.ci Y.f.g9⟩
instance:Co B "MOST_IN_WORD" vF:=⟨Y.y.ci Y.f.g10⟩
instance:Co B "MOST_MARKS" xh:=⟨Y.y.ci Y.f.g11⟩
instance:Co B "MOST_OF_MARK" vG:=⟨Y.y.ci Y.f.g12⟩
instance:Co B "MOST_ROOMS" xg:=⟨Y.y.ci Y.f.g13⟩
instance:Co B "MOST_RULES" xn:=⟨Y.y.ci Y.f.g14⟩
instance:Co B "MOST_SIGNS" xm:=⟨Y.y.ci Y.f.g15⟩
instance:Co B "MOST_TESTS" xk:=⟨Y.y.ci Y.f.g16⟩
instance:Co B "MOST_VERBS" xi:=⟨Y.y.ci Y.f.g17⟩
instance:Co B "MOST_WAYS" vH:=⟨Y.y.ci Y.f.g18⟩
instance:Co B "MOST_WORDS" xj:=⟨Y.y.ci Y.f.g19⟩
instance:Co B "NO_NAMES" zP:=⟨Y.y.cs Y.f.g20⟩
instance:Co B "NO_WORDS" zQ:=⟨Y.y.cs Y.f.g21⟩
instance:Co B "NO_WORDS_OF_ROWS" qb:=⟨Y.y.cs Y.f.g22⟩
instance:Ff B rA "copied_rules" := ⟨qJ (Y.f.k14.at 0 rfl)⟩
instance:Ff B vX "deeds" := ⟨qJ (Y.f.k13.at 0 rfl)⟩
instance:Ff B vz "form" := ⟨qJ (Y.f.k2.at 0 rfl)⟩
instance:Ff B AX "inner" := ⟨qJ (Y.f.k9.at 0 rfl)⟩
instance:Ff B pP "joining" := ⟨qJ (Y.f.k2.at 1 rfl)⟩
instance:Ff B r6 "kept_things" := ⟨qJ (Y.f.k14.at 1 rfl)⟩
instance:Ff B vA "kept_verbs" := ⟨qJ (Y.f.k14.at 2 rfl)⟩
instance:Ff B pQ "kind" := ⟨orQ (qJ (Y.f.k0.at 0 rfl)) (Y.f.k7.at 0 rfl)⟩
instance:Ff B vB "most" := ⟨qJ (Y.f.k1.at 0 rfl)⟩
instance:Ff B sY "mosts_by_name" := ⟨qJ (Y.f.k14.at 3 rfl)⟩
instance:Ff B oU "name" := ⟨orQ (orQ (qJ (Y.f.k0.at 1 rfl)) (Y.f.k1.at 1 rfl)) (Y.f.k2.at 2 rfl)⟩
instance:Ff B ES "one" := ⟨qJ (Y.f.k10.at 0 rfl)⟩
instance:Ff B AY "other" := ⟨qJ (Y.f.k10.at 1 rfl)⟩
instance:Ff B qo "others" := ⟨qJ (Y.f.k2.at 3 rfl)⟩
instance:Ff B vY "place" := ⟨orQ (qJ (Y.f.k3.at 0 rfl)) (Y.f.k11.at 0 rfl)⟩
instance:Ff B sZ "refuses" := ⟨qJ (Y.f.k13.at 1 rfl)⟩
instance:Ff B rD "shared_rules" := ⟨qJ (Y.f.k14.at 4 rfl)⟩
instance:Ff B uf "shared_verbs" := ⟨qJ (Y.f.k14.at 5 rfl)⟩
instance:Ff B rE "start" := ⟨orQ (qJ (Y.f.k0.at 2 rfl)) (Y.f.k1.at 2 rfl)⟩
instance:Ff B rU "term" := ⟨orQ (orQ (orQ (orQ (orQ (orQ (qJ (Y.f.k3.at 1 rfl)) (Y.f.k4.at 0 rfl)) (Y.f.k5.at 0 rfl)) (Y.f.k6.at 0 rfl)) (Y.f.k7.at 1 rfl)) (Y.f.k11.at 1 rfl)) (Y.f.k12.at 0 rfl)⟩
instance:Ff B xT "tests" := ⟨qJ (Y.f.k13.at 2 rfl)⟩
instance:Ff B vC "text" := ⟨qJ (Y.f.k13.at 3 rfl)⟩
instance:Ff B sI "things_by_name" := ⟨qJ (Y.f.k14.at 6 rfl)⟩
instance:Ff B xU "value" := ⟨orQ (qJ (Y.f.k6.at 1 rfl)) (Y.f.k12.at 1 rfl)⟩
instance:Ff B qp "verb" := ⟨qJ (Y.f.k13.at 4 rfl)⟩
instance:Ff B tm "verbs_by_word" := ⟨qJ (Y.f.k14.at 7 rfl)⟩
instance:Ff B CT "word" := ⟨qJ (Y.f.k8.at 0 rfl)⟩
instance:Ff B qu "words" := ⟨qJ (Y.f.k0.at 3 rfl)⟩
instance:Ff B rJ "your_name" := ⟨qJ (Y.f.k14.at 8 rfl)⟩
instance:Af B 0 ["kind", "name", "start", "words"]:=⟨Y.f.k0⟩
instance:Af B 1 ["most", "name", "start"]:=⟨Y.f.k1⟩
instance:Af B 2 ["form", "joining", "name", "others"]:=⟨Y.f.k2⟩
instance:Af B 3 ["place", "term"]:=⟨Y.f.k3⟩
instance:Af B 4 ["term"]:=⟨Y.f.k4⟩
instance:Af B 6 ["term", "value"]:=⟨Y.f.k6⟩
instance:Af B 7 ["kind", "term"]:=⟨Y.f.k7⟩
instance:Af B 8 ["word"]:=⟨Y.f.k8⟩
instance:Af B 9 ["inner"]:=⟨Y.f.k9⟩
instance:Af B 10 ["one", "other"]:=⟨Y.f.k10⟩
instance:Af B 11 ["place", "term"]:=⟨Y.f.k11⟩
instance:Af B 12 ["term", "value"]:=⟨Y.f.k12⟩
instance:Af B 13 ["deeds", "refuses", "tests", "text", "verb"]:=⟨Y.f.k13⟩
instance:Af B 14 ["copied_rules", "kept_things", "kept_verbs", "mosts_by_name", "shared_rules", "shared_verbs", "things_by_name", "verbs_by_word", "your_name", "kept_dark", "kept_marks", "kept_rules", "kept_ways", "rules_by_verb"]:=⟨Y.f.k14⟩
instance:Ic B "At" QQ:=⟨3,pf Y.f.i_At rfl (vy 16 _) (uz.at ⟨Y.f.k0.ci,Y.f.k1.ci,Y.f.k2.ci,Y.f.k3.ci,Y.f.k4.ci,Y.f.k5.ci,Y.f.k6.ci,Y.f.k7.ci,Y.f.k8.ci,Y.f.k9.ci,Y.f.k10.ci,Y.f.k11.ci,Y.f.k12.ci,Y.f.k13.ci,Y.f.k14.ci,Y.f.k15.ci,trivial⟩),Y.y.g Y.f.a3⟩
instance:Ic B "Both" IJ:=⟨10,pf Y.f.i_Both rfl (vy 16 _) (uz.at ⟨Y.f.k0.ci,Y.f.k1.ci,Y.f.k2.ci,Y.f.k3.ci,Y.f.k4.ci,Y.f.k5.ci,Y.f.k6.ci,Y.f.k7.ci,Y.f.k8.ci,Y.f.k9.ci,Y.f.k10.ci,Y.f.k11.ci,Y.f.k12.ci,Y.f.k13.ci,Y.f.k14.ci,Y.f.k15.ci,trivial⟩),Y.y.g Y.f.a10⟩
instance:Ic B "Has" LS:=⟨4,pf Y.f.i_Has rfl (vy 16 _) (uz.at ⟨Y.f.k0.ci,Y.f.k1.ci,Y.f.k2.ci,Y.f.k3.ci,Y.f.k4.ci,Y.f.k5.ci,Y.f.k6.ci,Y.f.k7.ci,Y.f.k8.ci,Y.f.k9.ci,Y.f.k10.ci,Y.f.k11.ci,Y.f.k12.ci,Y.f.k13.ci,Y.f.k14.ci,Y.f.k15.ci,trivial⟩),Y.y.g Y.f.a4⟩
instance:Ic B "Kind" IK:=⟨7,pf Y.f.i_Kind rfl (vy 16 _) (uz.at ⟨Y.f.k0.ci,Y.f.k1.ci,Y.f.k2.ci,Y.f.k3.ci,Y.f.k4.ci,Y.f.k5.ci,Y.f.k6.ci,Y.f.k7.ci,Y.f.k8.ci,Y.f.k9.ci,Y.f.k10.ci,Y.f.k11.ci,Y.f.k12.ci,Y.f.k13.ci,Y.f.k14.ci,Y.f.k15.ci,trivial⟩),Y.y.g Y.f.a7⟩
instance:Ic B "Lit" LU:=⟨15,pf Y.f.i_Lit rfl (vy 16 _) (uz.at ⟨Y.f.k0.ci,Y.f.k1.ci,Y.f.k2.ci,Y.f.k3.ci,Y.f.k4.ci,Y.f.k5.ci,Y.f.k6.ci,Y.f.k7.ci,Y.f.k8.ci,Y.f.k9.ci,Y.f.k10.ci,Y.f.k11.ci,Y.f.k12.ci,Y.f.k13.ci,Y.f.k14.ci,Y.f.k15.ci,trivial⟩),Y.y.g Y.f.a15⟩
instance:Ic B "Mark" IL:=⟨1,pf Y.f.i_Mark rfl (vy 16 _) (uz.at ⟨Y.f.k0.ci,Y.f.k1.ci,Y.f.k2.ci,Y.f.k3.ci,Y.f.k4.ci,Y.f.k5.ci,Y.f.k6.ci,Y.f.k7.ci,Y.f.k8.ci,Y.f.k9.ci,Y.f.k10.ci,Y.f.k11.ci,Y.f.k12.ci,Y.f.k13.ci,Y.f.k14.ci,Y.f.k15.ci,trivial⟩),Y.y.g Y.f.a1⟩
instance:Ic B "Marked" CU:=⟨6,pf Y.f.i_Marked rfl (vy 16 _) (uz.at ⟨Y.f.k0.ci,Y.f.k1.ci,Y.f.k2.ci,Y.f.k3.ci,Y.f.k4.ci,Y.f.k5.ci,Y.f.k6.ci,Y.f.k7.ci,Y.f.k8.ci,Y.f.k9.ci,Y.f.k10.ci,Y.f.k11.ci,Y.f.k12.ci,Y.f.k13.ci,Y.f.k14.ci,Y.f.k15.ci,trivial⟩),Y.y.g Y.f.a6⟩
instance:Ic B "Move" IM:=⟨11,pf Y.f.i_Move rfl (vy 16 _) (uz.at ⟨Y.f.k0.ci,Y.f.k1.ci,Y.f.k2.ci,Y.f.k3.ci,Y.f.k4.ci,Y.f.k5.ci,Y.f.k6.ci,Y.f.k7.ci,Y.f.k8.ci,Y.f.k9.ci,Y.f.k10.ci,Y.f.k11.ci,Y.f.k12.ci,Y.f.k13.ci,Y.f.k14.ci,Y.f.k15.ci,trivial⟩),Y.y.g Y.f.a11⟩
instance:Ic B "Not" LV:=⟨9,pf Y.f.i_Not rfl (vy 16 _) (uz.at ⟨Y.f.k0.ci,Y.f.k1.ci,Y.f.k2.ci,Y.f.k3.ci,Y.f.k4.ci,Y.f.k5.ci,Y.f.k6.ci,Y.f.k7.ci,Y.f.k8.ci,Y.f.k9.ci,Y.f.k10.ci,Y.f.k11.ci,Y.f.k12.ci,Y.f.k13.ci,Y.f.k14.ci,Y.f.k15.ci,trivial⟩),Y.y.g Y.f.a9⟩
instance:Ic B "Put" LW:=⟨12,pf Y.f.i_Put rfl (vy 16 _) (uz.at ⟨Y.f.k0.ci,Y.f.k1.ci,Y.f.k2.ci,Y.f.k3.ci,Y.f.k4.ci,Y.f.k5.ci,Y.f.k6.ci,Y.f.k7.ci,Y.f.k8.ci,Y.f.k9.ci,Y.f.k10.ci,Y.f.k11.ci,Y.f.k12.ci,Y.f.k13.ci,Y.f.k14.ci,Y.f.k15.ci,trivial⟩),Y.y.g Y.f.a12⟩
instance:Ic B "Rule" DT:=⟨13,pf Y.f.i_Rule rfl (vy 16 _) (uz.at ⟨Y.f.k0.ci,Y.f.k1.ci,Y.f.k2.ci,Y.f.k3.ci,Y.f.k4.ci,Y.f.k5.ci,Y.f.k6.ci,Y.f.k7.ci,Y.f.k8.ci,Y.f.k9.ci,Y.f.k10.ci,Y.f.k11.ci,Y.f.k12.ci,Y.f.k13.ci,Y.f.k14.ci,Y.f.k15.ci,trivial⟩),Y.y.g Y.f.a13⟩
instance:Ic B "Seen" IP:=⟨5,pf Y.f.i_Seen rfl (vy 16 _) (uz.at ⟨Y.f.k0.ci,Y.f.k1.ci,Y.f.k2.ci,Y.f.k3.ci,Y.f.k4.ci,Y.f.k5.ci,Y.f.k6.ci,Y.f.k7.ci,Y.f.k8.ci,Y.f.k9.ci,Y.f.k10.ci,Y.f.k11.ci,Y.f.k12.ci,Y.f.k13.ci,Y.f.k14.ci,Y.f.k15.ci,trivial⟩),Y.y.g Y.f.a5⟩
instance:Ic B "Thing" ET:=⟨0,pf Y.f.i_Thing rfl (vy 16 _) (uz.at ⟨Y.f.k0.ci,Y.f.k1.ci,Y.f.k2.ci,Y.f.k3.ci,Y.f.k4.ci,Y.f.k5.ci,Y.f.k6.ci,Y.f.k7.ci,Y.f.k8.ci,Y.f.k9.ci,Y.f.k10.ci,Y.f.k11.ci,Y.f.k12.ci,Y.f.k13.ci,Y.f.k14.ci,Y.f.k15.ci,trivial⟩),Y.y.g Y.f.a0⟩
instance:Ic B "Verb" IQ:=⟨2,pf Y.f.i_Verb rfl (vy 16 _) (uz.at ⟨Y.f.k0.ci,Y.f.k1.ci,Y.f.k2.ci,Y.f.k3.ci,Y.f.k4.ci,Y.f.k5.ci,Y.f.k6.ci,Y.f.k7.ci,Y.f.k8.ci,Y.f.k9.ci,Y.f.k10.ci,Y.f.k11.ci,Y.f.k12.ci,Y.f.k13.ci,Y.f.k14.ci,Y.f.k15.ci,trivial⟩),Y.y.g Y.f.a2⟩
instance:Ic B "Word" IR:=⟨8,pf Y.f.i_Word rfl (vy 16 _) (uz.at ⟨Y.f.k0.ci,Y.f.k1.ci,Y.f.k2.ci,Y.f.k3.ci,Y.f.k4.ci,Y.f.k5.ci,Y.f.k6.ci,Y.f.k7.ci,Y.f.k8.ci,Y.f.k9.ci,Y.f.k10.ci,Y.f.k11.ci,Y.f.k12.ci,Y.f.k13.ci,Y.f.k14.ci,Y.f.k15.ci,trivial⟩),Y.y.g Y.f.a8⟩
instance:Xn B "NoWorld" 16:=⟨Y.f.xx,Y.y.g Y.f.ax⟩
instance:Xi B 16 "NoCommand" false:=⟨Y.f.xf,.inl ⟨_,Y.y.g Y.f.y0,Y.f.z0⟩⟩
instance:Xi B 16 "NoText" false:=⟨Y.f.xf,.inl ⟨_,Y.y.g Y.f.y1,Y.f.z1⟩⟩
instance:Xi B 16 "NoWish" false:=⟨Y.f.xf,.inl ⟨_,Y.y.g Y.f.y2,Y.f.z2⟩⟩
instance:Xi B 16 "TellError" true:=⟨Y.f.xf,.inl ⟨_,Y.y.g Y.f.y3,Y.f.z3⟩⟩
instance:Xi B 16 "Unlike" false:=⟨Y.f.xf,.inl ⟨_,Y.y.g Y.f.y4,Y.f.z4⟩⟩
instance:Xi B 16 "ValueError" true:=⟨Y.f.xf,.inr ⟨_,Nb.p (B:=B),by kernel_rfl,by decide,Y.f.v0⟩⟩
instance:K0f B "Lit" 15:=⟨⟨Y.f.k15.mks,Y.f.n_Lit,Y.f.k15.kp⟩,Y.y.g Y.f.a15⟩
instance:Ij B 16:=⟨Rr Y.f.nd⟩
local macro_rules|`(tactic|trivial)=>do let x:=("zr_l2I zr_tV zr_xM zr_spS zr_xC zr_xI zr_xR zr_xU zr_yI zr_y1 zr_y0 zr_tI QO QE QD QF QG CP QK N1 OB QH NZ OG OA NL NM OC OE Ox N4 Os N7 OH NS NT NU NV NP OF QL OJ NQ N3 OL ON OD OX N2 N0 NY NK zr_i2I Ob Od QI OP NX NW QM QN Oh NN NO Oi NR OV OW OM OO OQ QJ N5 N6 OR OS Oj N8 N9 Ol Om On Oq OT OU K3 K2 zr_gtuL Ot Ou Ov Oa Oe zr_xeI Of Pb Og OK O2 zr_mxI zr_mnI zr_xsI OY OZ K1".splitOn " ").toArray.map fun s=>Lean.mkIdent (.mkSimple s);`(tactic|repeat' first|(with_reducible apply eqI);(first|rfl|kernel_rfl)|((with_reducible first|apply Oy|apply Oz);rotate_left 7;rfl)|(with_reducible first $[|apply $x]*)|(with_reducible intro _)|exact kl)
instance:Df B 1 "is_small_letters" (spF B.G qF):=gF4 rfl Y.f.q23 rfl (by unfold sJ;trivial)
instance:Df B 2 "is_name" (spF B.G ug):=gF4 rfl Y.f.q24 rfl (by unfold AZ;trivial)
instance:Df B 2 "is_word" (spF B.G px):=gF4 rfl Y.f.q25 rfl (by unfold A0;trivial)
instance:Df B 1 "is_one_of" (spF B.G oR):=gF4 rfl Y.f.q26 rfl (by unfold yk;trivial)
instance:Df B 1 "is_whole" (spF B.G uA):=gF4 rfl Y.f.q27 rfl (by unfold zR;trivial)
instance:Df B 1 "is_list_up_to" (spF B.G oZ):=gF4 rfl Y.f.q28 rfl (by unfold uJ;trivial)
instance:Df B 1 "own_list" (spF B.G wK):=gF4 rfl Y.f.q29 rfl (by unfold zS;trivial)
theorem wG:Bdz B (nmO (inClass (top 14) 0)) "Thing.__init__" (inClass (top 14) 0) (oN (inClass (top 14) 0)) 0 uB:=by
 unfold uB;refine CP ?_ ?_
 all_goals trivial
instance:Kf B 1 "Thing" 0 o8 [D.non]:=gJ4 (dds:=[D.non]) Y.f.k0 Y.f.a0 rfl Y.f.q30 rfl rfl wG 0
instance:Kf B 1 "Thing" 0 o8 []:=gJ4 (dds:=[D.non]) Y.f.k0 Y.f.a0 rfl Y.f.q30 rfl rfl wG 1
instance:Kf B 1 "Mark" 1 vI []:=gI4 Y.f.k1 Y.f.a1 rfl Y.f.q31 rfl rfl (by unfold ym;trivial)
theorem sq:Bdz B (nmO (inClass (top 16) 0)) "Verb.__init__" (inClass (top 16) 0) (oN (inClass (top 16) 0)) 0 vJ:=by
 unfold vJ;refine CP ?_ ?_
 all_goals trivial
instance:Kf B 1 "Verb" 2 pD [D.non,(D.str "one"),D.non]:=gJ4 (dds:=[D.non,(D.str "one"),D.non]) Y.f.k2 Y.f.a2 rfl Y.f.q32 rfl rfl sq 0
instance:Kf B 1 "Verb" 2 pD [(D.str "one"),D.non]:=gJ4 (dds:=[D.non,(D.str "one"),D.non]) Y.f.k2 Y.f.a2 rfl Y.f.q32 rfl rfl sq 1
instance:Kf B 1 "Verb" 2 pD [D.non]:=gJ4 (dds:=[D.non,(D.str "one"),D.non]) Y.f.k2 Y.f.a2 rfl Y.f.q32 rfl rfl sq 2
instance:Kf B 1 "Verb" 2 pD []:=gJ4 (dds:=[D.non,(D.str "one"),D.non]) Y.f.k2 Y.f.a2 rfl Y.f.q32 rfl rfl sq 3
instance:Kf B 1 "At" 3 qv []:=gI4 Y.f.k3 Y.f.a3 rfl Y.f.q33 rfl rfl (by unfold A1;trivial)
instance:Kf B 1 "Has" 4 wL []:=gI4 Y.f.k4 Y.f.a4 rfl Y.f.q34 rfl rfl (by unfold zT;trivial)
instance:Kf B 1 "Marked" 6 o7 []:=gI4 Y.f.k6 Y.f.a6 rfl Y.f.q35 rfl rfl (by unfold wo;trivial)
instance:Kf B 1 "Kind" 7 qr []:=gI4 Y.f.k7 Y.f.a7 rfl Y.f.q36 rfl rfl (by unfold yn;trivial)
instance:Kf B 1 "Word" 8 yq []:=gI4 Y.f.k8 Y.f.a8 rfl Y.f.q37 rfl rfl (by unfold yp;trivial)
instance:Kf B 1 "Not" 9 qc []:=gI4 Y.f.k9 Y.f.a9 rfl Y.f.q38 rfl rfl (by unfold zU;trivial)
instance:Kf B 1 "Both" 10 yu []:=gI4 Y.f.k10 Y.f.a10 rfl Y.f.q39 rfl rfl (by unfold yt;trivial)
instance:Kf B 1 "Move" 11 pR []:=gI4 Y.f.k11 Y.f.a11 rfl Y.f.q40 rfl rfl (by unfold yw;trivial)
instance:Kf B 1 "Put" 12 pF []:=gI4 Y.f.k12 Y.f.a12 rfl Y.f.q41 rfl rfl (by unfold zV;trivial)
theorem xF:Bdz B (nmO (inClass (top 99) 0)) "Rule.__init__" (inClass (top 99) 0) (oN (inClass (top 99) 0)) 1 vK:=by
 unfold vK;refine CP ?_ ?_
 all_goals trivial
instance:Kf B 2 "Rule" 13 p6 [(D.bl false)]:=gJ4 (dds:=[(D.bl false)]) Y.f.k13 Y.f.a13 rfl Y.f.q42 rfl rfl xF 0
instance:Kf B 2 "Rule" 13 p6 []:=gJ4 (dds:=[(D.bl false)]) Y.f.k13 Y.f.a13 rfl Y.f.q42 rfl rfl xF 1
instance:Mf B 9 "can_hold" qP:=⟨λc h e=>by
 unfold qP at e;split at e
 ·cases e;exact hF4 (k:=8) Y.f.k0 rfl Y.f.q43 rfl (by unfold uh;trivial)
 ·cases e⟩
instance:Mf B 9 "has_mark" qQ:=⟨λc h e=>by
 unfold qQ at e;split at e
 ·cases e;exact hF4 (k:=8) Y.f.k0 rfl Y.f.q44 rfl (by unfold ui;trivial)
 ·cases e⟩
instance:Mf B 9 "is_plainly" rF:=⟨λc h e=>by
 unfold rF at e;split at e
 ·cases e;exact hF4 (k:=8) Y.f.k0 rfl Y.f.q45 rfl (by unfold sL;trivial)
 ·cases e⟩
instance:Dx B 1 "refuse_unless" 16 oa:=gX4 rfl Y.f.q46 rfl (by unfold uK;trivial)
instance:Df B 1 "count_of" (spF B.G wM):=gF4 rfl Y.f.q47 rfl (by unfold zW;trivial)
instance:Df B 10 "plain_ones" (spN B.G qw):=gN4 rfl Y.f.q48 rfl (by unfold xp;trivial)
instance:Df B 2 "is_mark" (spF B.G A3):=gF4 rfl Y.f.q49 rfl (by unfold A2;trivial)
instance:Dx B 11 "check_things" 16 qR:=gX4 rfl Y.f.q50 rfl (by unfold vL;trivial)
instance:Dx B 3 "check_marks" 16 rK:=gX4 rfl Y.f.q51 rfl (by unfold wq;trivial)
instance:Df B 1 "are_unlike" (spF B.G o9):=gF4 rfl Y.f.q52 rfl (by unfold xq;trivial)
instance:Dx B 3 "check_names" 16 tS:=gX4 rfl Y.f.q53 rfl (by unfold wt;trivial)
instance:Df B 10 "mark_names" (spN B.G sj):=gN4 rfl Y.f.q54 rfl (by unfold xt;trivial)
instance:Df B 10 "is_start" (spF B.G zY):=gF4 rfl Y.f.q55 rfl (by unfold zX;trivial)
instance:Df B 1 "comes_to_room" (spF B.G uM):=gF4 rfl Y.f.q56 rfl (by unfold uL;trivial)
instance:Dx B 11 "check_starts" 16 sN:=gX5 ["things", "starts", "thing"] rfl Y.f.q57 rfl (by unfold vM;trivial)
instance:Df B 3 "are_words" (spF B.G yy):=gF4 rfl Y.f.q58 rfl (by unfold yx;trivial)
instance:Df B 1 "has_all" (spF B.G A5):=gF4 rfl Y.f.q59 rfl (by unfold A4;trivial)
instance:Df B 2 "is_told_apart" (spF B.G uO):=gF4 rfl Y.f.q60 rfl (by unfold uN;trivial)
instance:Dx B 11 "check_words_of_things" 16 oW:=gX4 rfl Y.f.q61 rfl (by unfold qH;trivial)
instance:Dx B 2 "check_dark" 16 uC:=gX4 rfl Y.f.q62 rfl (by unfold xu;trivial)
instance:Df B 3 "is_way" (spF B.G xw):=gF4 rfl Y.f.q63 rfl (by unfold zZ;trivial)
instance:Dx B 4 "check_ways" 16 qd:=gX4 rfl Y.f.q64 rfl (by unfold sk;trivial)
instance:Df B 3 "is_verb" (spF B.G A7):=gF4 rfl Y.f.q65 rfl (by unfold A6;trivial)
instance:Dx B 4 "check_verbs" 16 rL:=gX4 rfl Y.f.q66 rfl (by unfold wu;trivial)
instance:Df B 1 "are_apart" (spF B.G pq):=gF4 rfl Y.f.q67 rfl (by unfold yz;trivial)
instance:Dx B 11 "check_vocabulary" 16 pG:=gX4 rfl Y.f.q68 rfl (by unfold qe;trivial)
instance:Dx B 12 "check_parts" 16 qg:=gX4 rfl Y.f.q69 rfl (by unfold tT;trivial)
instance:Df B 4 "does" (spF B.G tU):=gF4 rfl Y.f.q70 rfl (by unfold IS;trivial)
instance:Df B 4 "refuses" (spF B.G pb):=gF4 rfl Y.f.q71 rfl (by unfold A8;trivial)
instance:Df B 5 "hand_rules" (spN B.G xA):=gN4 rfl Y.f.q72 rfl (by unfold xy;trivial)
instance:Df B 5 "put_rules" (spN B.G yB):=gN4 rfl Y.f.q73 rfl (by unfold yA;trivial)
instance:Df B 5 "lid_rules" (spN B.G yD):=gN4 rfl Y.f.q74 rfl (by unfold yC;trivial)
instance:Df B 5 "flame_rules" (spN B.G wz):=gN4 rfl Y.f.q75 rfl (by unfold wx;trivial)
instance:Df B 3 "way_tests" (spN B.G yF):=gN4 rfl Y.f.q76 rfl (by unfold yE;trivial)
instance:Df B 5 "go_rules" (spN B.G z8):=gN4 rfl Y.f.q77 rfl (by unfold z7;trivial)
instance:Df B 5 "wait_rules" (spN B.G xC):=gN4 rfl Y.f.q78 rfl (by unfold xB;trivial)
instance:Df B 6 "common_rules" (spN B.G pX):=gN4 rfl Y.f.q79 rfl (by unfold vN;trivial)
instance:Df B 3 "common_verbs" (spN B.G qS):=gN4 rfl Y.f.q80 rfl (by unfold vO;trivial)
instance:Df B 1 "by_name" (spF B.G xX):=gF4 rfl Y.f.q81 rfl (by unfold A9;trivial)
instance:Df B 10 "mosts_by_name" (spF B.G r9):=gF4 rfl Y.f.q82 rfl (by unfold uP;trivial)
instance:Df B 1 "verbs_by_word" (spF B.G sd):=gF4 rfl Y.f.q83 rfl (by unfold uQ;trivial)
instance:Df B 1 "by_verb" (spF B.G xY):=gF4 rfl Y.f.q84 rfl (by unfold Ba;refine⟨F5 (stW (by kernel_rfl) Ca rfl) (Gs kl rfl (Ct (Cg B.G.K (DA (pvI (by kernel_rfl))))) (pgI (by kernel_rfl)) (wQ (Bp (GY B.G.K fO gQ jG xJ (Ie (pvI (by kernel_rfl)) (He (DA (pvI (by kernel_rfl))) (Ff.p (B:=B))) (Bs qK) ⟨rfl,rfl,rfl,rfl⟩) (o5 (pvI (by kernel_rfl)) qK))))) (Bq (PE.ghost (pvI (by kernel_rfl))))⟩)
instance:Mf B 9 "of_kind" rM:=⟨λc h e=>by
 unfold rM at e;split at e
 ·cases e;exact hF4 (k:=8) Y.f.k14 rfl Y.f.q85 rfl (by unfold uR;trivial)
 ·cases e⟩
instance:Mf B 9 "all_verbs" qA:=⟨λc h e=>by
 unfold qA at e;split at e
 ·cases e;exact hF4 (k:=8) Y.f.k14 rfl Y.f.q86 rfl (by unfold tG;trivial)
 ·cases e⟩
instance:Df B 1 "is_same_text" (spF B.G qT):=gF4 rfl Y.f.q87 rfl (by unfold vP;trivial)
instance:Df B 4 "copy_of" (spF B.G vZ):=gF4 rfl Y.f.q88 rfl (by unfold Bb;trivial)
instance:Mf B 9 "thing_of" sO:=⟨λc h e=>by
 unfold sO at e;split at e
 ·cases e;exact hF4 (k:=8) Y.f.k14 rfl Y.f.q89 rfl (by unfold uj;trivial)
 ·cases e⟩
instance:Mf B 9 "most_of" tV:=⟨λc h e=>by
 unfold tV at e;split at e
 ·cases e;exact hF4 (k:=8) Y.f.k14 rfl Y.f.q90 rfl (by unfold uS;trivial)
 ·cases e⟩
instance:Mf B 9 "verb_of" qz:=⟨λc h e=>by
 unfold qz at e;split at e
 ·cases e;exact hF4 (k:=8) Y.f.k14 rfl Y.f.q91 rfl (by unfold uT;trivial)
 ·cases e⟩
instance:Mf B 9 "you" x6:=⟨λc h e=>by
 unfold x6 at e;split at e
 ·cases e;exact hF4 (k:=8) Y.f.k14 rfl Y.f.q92 rfl (by unfold yG;trivial)
 ·cases e⟩
instance:Df B 2 "is_by_command" (spF B.G qf):=gF4 rfl Y.f.q93 rfl (by unfold uU;trivial)
instance:Df B 2 "is_here" (spF B.G x8):=gF4 rfl Y.f.q94 rfl (by unfold Bc;trivial)
instance:Df B 10 "named" (spF B.G uD):=gF4 rfl Y.f.q95 rfl (by unfold EV;trivial)
instance:Df B 11 "is_of_kind" (spF B.G uE):=gF4 rfl Y.f.q96 rfl (by unfold xE;trivial)
instance:Df B 11 "is_term" (spF B.G v3):=gF4 rfl Y.f.q97 rfl (by unfold Bd;trivial)
instance:Df B 11 "is_place" (spF B.G wN):=gF4 rfl Y.f.q98 rfl (by unfold z9;trivial)
instance:Df B 12 "is_moved" (spF B.G Ab):=gF4 rfl Y.f.q99 rfl (by unfold Aa;trivial)
instance:Df B 10 "is_mark_value" (spF B.G se):=gF4 rfl Y.f.q100 rfl (by unfold uV;trivial)
instance:Df B 13 "is_move" (spF B.G Bf):=gF4 rfl Y.f.q101 rfl (by unfold Be;trivial)
instance:Df B 1 "is_said" (spF B.G sv):=gF4 rfl Y.f.q102 rfl (by unfold Bh;trivial)
instance:Df B 10 "is_verb_name" (spF B.G pY):=gF4 rfl Y.f.q103 rfl (by unfold vQ;trivial)
instance:Df B 1 "does_or_refuses" (spF B.G qU):=gF4 rfl Y.f.q104 rfl (by unfold tI;trivial)
instance:Df B 12 "is_plain_test" (spF B.G uX):=gF4 rfl Y.f.q105 rfl (by unfold uW;trivial)
instance:Df B 1 "is_test" (spF B.G (ph 0)):=gF4 (k:=0) rfl Y.f.q106 rfl (by trivial)
instance:Df B 13 "is_test" (spF B.G (ph 1)):=gF4 (k:=12) rfl Y.f.q106 rfl (by unfold sy;trivial)
instance:Df B 14 "is_test" (spF B.G (ph 2)):=gF4 (k:=13) rfl Y.f.q106 rfl (by unfold sy;trivial)
instance:Df B 15 "is_test" (spF B.G (ph 3)):=gF4 (k:=14) rfl Y.f.q106 rfl (by unfold sy;trivial)
instance:Df B 16 "is_test" (spF B.G (ph 4)):=gF4 (k:=15) rfl Y.f.q106 rfl (by unfold sy;trivial)
instance:Df B 17 "is_test" (spF B.G (ph 5)):=gF4 (k:=16) rfl Y.f.q106 rfl (by unfold sy;trivial)
instance:Df B 14 "is_deed" (spF B.G rG):=gF4 rfl Y.f.q107 rfl (by unfold Bi;trivial)
instance:Df B 19 "are_tests" (spF B.G tJ):=gF4 rfl Y.f.q108 rfl (by unfold yH;trivial)
instance:Df B 15 "are_deeds" (spF B.G tK):=gF4 rfl Y.f.q109 rfl (by unfold yI;trivial)
instance:Df B 20 "is_rule" (spF B.G v7):=gF4 rfl Y.f.q110 rfl (by unfold v5;trivial)
instance:Kx B 21 "World" 14 16 oV:=gXI4 Y.f.k14 Y.f.a14 rfl Y.f.q111 rfl rfl (by unfold pS;trivial)
instance:Mf B 9 "names" tL:=⟨λc h e=>by
 unfold tL at e;split at e
 ·cases e;exact hF4 (k:=8) Y.f.k14 rfl Y.f.q112 rfl (by unfold wC;trivial)
 ·cases e⟩
instance:Df B 1 "_law_cell_at" (spF B.G sP):=gF4 rfl Y.f.q113 rfl (by unfold vR;trivial)
instance:Df B 1 "_law_digit" (spM B.G pB):=gM4 rfl Y.f.q114 rfl rfl (by unfold sm;trivial)
instance:Df B 3 "_law_things" (spF B.G rN):=gF4 rfl Y.f.q115 rfl (by unfold wD;trivial)
instance:Df B 3 "_law_deep" (spF B.G qI):=gF4 rfl Y.f.q116 rfl (by unfold yJ;trivial)
instance:Df B 4 "_law_rules" (spF B.G uG):=gF4 rfl Y.f.q117 rfl (by unfold uF;trivial)
instance:Dv B 23 "_law_made" 16 oG:=gV4 rfl Y.f.q118 rfl (by unfold tN;trivial)
instance:Df B 23 "_law_made" (spF B.G (dV oG)):=Dv.df (c:=16) inferInstance
instance:Df B 24 "_law_refused" (spF B.G pZ):=gF4 rfl Y.f.q119 rfl (by unfold sQ;trivial)
instance:Df B 23 "_law_things_refused" (spF B.G oF):=gF4 rfl Y.f.q120 rfl (by unfold rj;trivial)
theorem Jl:Bdz B (nmO (top 148)) "law" (top 148) (oN (top 148)) 24 EW:=by
 unfold EW;refine CP ?_ ?_
 all_goals trivial
end
end K05x
namespace K05x
open PySem L2 L3 L4
def E6(K:W.Frag):Sp:=λvs H Q _=>∃(a:Addr) (ns:List Int),vs=[.ref a]/\SqL K H a (ns.map V.int)/\ns.length<=63/\∀H',Q (.bl true) H'
theorem Bm{G:Bg}{H:Hp}:∀ns:List Int,n8 G H (ns.map D.int) (ns.map V.int)
 |[]=>oO
 |n::ns=>oM (p8 n) (Bm ns)
theorem Lp{G:Bg}:∀vs H Q E,E6 G.K vs H Q E->spF G LX vs H Q E:=λvs H Q E h=>by obtain⟨a,ns,rfl,hs,hl,k⟩:=h;refine⟨H,[.fzl (ns.map D.int)],.bl true,oh.refl _,oM (by unfold L4.Rep;exact⟨a,_,rfl,hs,Bm ns⟩) oO,Po ns hl,λv H0' H' _ _ _ _ r=>?_⟩;unfold L4.Rep at r;subst r;exact k H'
section
variable{K:W.Frag}{x m q:Str}{st:Stmt}{f C:Addr}{oc:aa}{od:Option Addr}{kV doc pm:aa}{an:Option Addr}{cdv ct:aa}{osl:Array (Option aa)}
theorem Jm(lk:K.lookup f=some ⟨oc,od,.func (W.fnOf x q (qL st) (oN st) (ot st) .none kV doc pm an cdv ct),osl⟩)(hc:W.codeIn K cdv q=true)(kp:W.keepIn K (.ref f)=true):∃fd,Fun K x q st f fd:=⟨_,⟨_,_,_,_,_,_,_,_,_,rfl,lk,hc⟩,kp⟩
theorem gd_mk(h:W.nsIn K az x=some (some (.ref f)))(lk:K.lookup f=some ⟨oc,od,.func (W.fnOf x x (qL st) (oN st) (ot st) .none kV doc pm an cdv ct),osl⟩)(hc:W.codeIn K cdv x=true)(kp:W.keepIn K (.ref f)=true):GD K x st:=⟨f,(Jm lk hc kp).imp λ_ F=>⟨h,F⟩⟩
theorem gm_mk(h:W.findIn K (.ref C) m=some (some (.ref f)))(hf:W.isFn K (.ref f)=true)(lk:K.lookup f=some ⟨oc,od,.func (W.fnOf m q (qL st) (oN st) (ot st) .none kV doc pm an cdv ct),osl⟩)(hc:W.codeIn K cdv q=true)(kp:W.keepIn K (.ref f)=true):GM K C m q st:=⟨f,(Jm lk hc kp).imp λ_ F=>⟨h,hf,F⟩⟩
end
theorem all_mk{l:W.OpenLaw}{w:aj}{K:W.Frag}{h:Heap}{mg:Str->Option aa}{fa:Addr}(X:K.In h)(Gn:h.Ns az mg)(hfa:mg "law" = some (.ref fa)){C0 C1 C2 C3 C4 C5 C6 C7 C8 C9 C10 C11 C12 C13 C14 C15 C16 C17 C18 C19 C20 C21:Addr}(F:Fx K C0 C1 C2 C3 C4 C5 C6 C7 C8 C9 C10 C11 C12 C13 C14 C15 C16 C17 C18 C19 C20 C21):
  ∃fd:aW,(∀(s:ae) (v:aa),eE s fd ⟨[v],[]⟩ [("_law_script", v)])/\∀base:Heap,K.In base->base.Ns az mg->qx l.prog w K mg base CX0 25 fa fd ["_law_script"] (E6 K):=by
 have gen:∃B:Bg,B.K=K/\B.ca 0=C0/\B.ca 1=C1/\B.ca 2=C2/\B.ca 3=C3/\B.ca 4=C4/\B.ca 5=C5/\B.ca 6=C6/\B.ca 7=C7/\B.ca 8=C8/\B.ca 9=C9/\B.ca 10=C10/\B.ca 11=C11/\B.ca 12=C12/\B.ca 13=C13/\B.ca 14=C14/\B.ca 15=C15/\B.ca 16=C16/\B.ca 17=C17/\B.ca 18=C18/\B.ca 19=C19/\B.ca 20=C20/\B.ca 21=C21:=⟨⟨K,λc=>[C0,C1,C2,C3,C4,C5,C6,C7,C8,C9,C10,C11,C12,C13,C14,C15,C16,C17,C18,C19,C20,C21].getD c 0⟩,rfl,rfl,rfl,rfl,rfl,rfl,rfl,rfl,rfl,rfl,rfl,rfl,rfl,rfl,rfl,rfl,rfl,rfl,rfl,rfl,rfl,rfl,rfl⟩;obtain⟨B,rfl,rfl,rfl,rfl,rfl,rfl,rfl,rfl,rfl,rfl,rfl,rfl,rfl,rfl,rfl,rfl,rfl,rfl,rfl,rfl,rfl,rfl,rfl⟩:=gen;have Z:∀base,Yx ⟨l.prog,w,mg,base,B⟩:=λbase=>⟨⟨h,X,Gn⟩,F⟩;obtain⟨f,fd,a,FF⟩:=F.q121;have e:=hfa.symm.trans (W.mg_of X Gn a);cases e;obtain⟨oc,od,kV,doc,pm,an,cdv,ct,osl,rfl,lk,hcd⟩:=FF.ex;exact⟨_,λs v=>.of_eq rfl,λbase _ _=>(HD rfl rfl rfl FF (okk (N:=nmO (top 148)) (ps:=["_law_script"]) (np:=1) (n:=11) (by kernel_rfl)).1 ((@Jl _ (Z base)).ok rfl _)).imp (Lp (G:=B))⟩
theorem walk{l:W.OpenLaw}{q:aq}{loose:List Str}{XP:(Str->Option aa)->Heap->Prop}{YP:aj->Heap->Prop}{d:DefRec}{K:fw->W.Frag}(hn:l.most=some 63)(hdf:d.params.defaults=[])
  (hY:∀(w:aj) (h:Heap),YP w h->(K w.params).In h)
  (F:∀(w:aj) (mg:Str->Option aa) (fa:Addr) (h:Heap),(K w.params).In h->h.Ns az mg->mg d.name=some (.ref fa)->
   ∃fd:aW,(∀(s:ae) (u:aa),eE s fd ⟨[u],[]⟩ [("_law_script", u)])/\∀base:Heap,(K w.params).In base->base.Ns az mg->qx l.prog w (K w.params) mg base CX0 25 fa fd ["_law_script"] (E6 (K w.params))):
  W.WalkO q loose XP YP l.row.toRowW d [] (λf vs=>iI f vs):=
 L2.JL (n:=63) (k:=25) (x:="_law_script") (CX:=λ_=>CX0) (sp:=λw=>E6 (K w.params)) hn (by decide) hdf ⟨rfl,by decide,by decide⟩ hY F (λ_ _ a ns hl _ hS=>⟨a,ns,rfl,hS,hl,λ_=>rfl⟩) λ_ _ _ _ _ z=>z
end K05x
set_option maxHeartbeats 0
open PySem PySem.W PyProof.Rows
theorem PySem.Challenge.cw_tellworld_k05_worlds_at_their_bounds_holds : PySem.Challenge.rw_tellworld_k05_worlds_at_their_bounds.Holds := by
 refine hd ?_
 k_fill
 refine K05x.walk (l:=PySem.Challenge.rw_tellworld_k05_worlds_at_their_bounds) rfl rfl (λw h Y=>Y) ?F
 case F=>
  intro w mg fa h KX G hmg;refine' K05x.all_mk KX G hmg ?Q
  case Q=>
   constructor
   all_goals as_aux_lemma=>first
   |k_is
   |kernel_rfl
   |(show W.excIn _ _ _ _=true;first|k_exc|k_is|kernel_rfl)
   |exact⟨by first|k_is|kernel_rfl,by first|k_is|kernel_rfl,by first|k_is|kernel_rfl,by first|k_is|kernel_rfl,by first|k_is|kernel_rfl,by first|k_is|kernel_rfl,by first|k_is|kernel_rfl,by first|k_is|kernel_rfl⟩
   |exact⟨⟨⟨by k_is,by k_is,by k_is,by k_is⟩,by k_is,by k_is,by k_is,by k_is⟩,by k_is,by k_is,by kernel_rfl⟩
   |exact⟨_,by k_is⟩
   |exact K05x.gd_mk (by k_is) (by k_is) (by k_is) (by k_is)
   |exact K05x.gm_mk (by k_is) (by k_is) (by k_is) (by k_is) (by k_is)
   |exact⟨_,_,_,_,by k_is,by k_is,by rfl,by rfl,by simp,by repeat' first|exact .nil|exact .cons rfl .nil|refine .cons rfl ?_⟩
   |exact⟨_,_,_,_,[_],_,by k_is,by k_is,⟨⟨_,_,_,_,_,_,_,_,_,rfl,by k_is,by k_is⟩,by k_is⟩,by k_is,by rfl,.cons (by first|rfl|exact⟨_,rfl⟩) .nil⟩
   |exact⟨_,_,_,_,[_,_,_],_,by k_is,by k_is,⟨⟨_,_,_,_,_,_,_,_,_,rfl,by k_is,by k_is⟩,by k_is⟩,by k_is,by rfl,.cons (by first|rfl|exact⟨_,rfl⟩) (.cons (by first|rfl|exact⟨_,rfl⟩) (.cons (by first|rfl|exact⟨_,rfl⟩) .nil))⟩
end
