import PyProof.Rows.All
import Open.Pieces
import OpenK.KLine
import PySem.Challenge.RW_tellworld_k11_first_stands
import Wide.All
import OpenK.AllK
import Wide.FinOn
import PyProof.EqAt
import PyProof.EqKinds
import PyProof.TupleCall
import PyProof.StrWalks
import PyProof.ConsumeWalk
import PyProof.NeKinds
import PyProof.Rows.SetFrom
import KE.KIsAll
import PyProof.WalksMore
import PyProof.TupleKey
import PyProof.DictWalks
import PyProof.Rows.ZipGen
import KE.KDictLaws
import PyProof.DictItems
import KE.KSortTup
import PyProof.TupleOfSeq
import PyProof.Rows.SortStr
import PyProof.Rows.StrInSeq3
import PyProof.TupleIter
import KE.KDictOf
import PyProof.CollectWalk
import PyProof.Rows.SeqMore
set_option genSizeOf false
local macro_rules (kind:=Lean.Parser.Command.declaration)|s=>do
 if s.getPos?.isNone||s[1][1][0].getId.getRoot== `PySem then Lean.Macro.throwUnsupported
 let s:=s.rewriteBottomUp (·.setInfo .none)
 if s[1].getKind∈[``Lean.Parser.Command.definition,``Lean.Parser.Command.abbrev,``Lean.Parser.Command.instance]&&s[0][4].isNone then
  return s.setArg 0 (s[0].setArg 4 (Lean.mkNullNode #[Lean.Syntax.node .none ``Lean.Parser.Command.noncomputable #[Lean.mkAtom "noncomputable"]]))
 return s
set_option compiler.extract_closed false
noncomputable section
open List renaming length_map->ah,getElem?_eq_getElem->aH,length_cons->aD,map_cons->av,length_append->aI,mem_map->ay,map_map->aC,mem_cons->aJ,mem_cons_self->aT,size_toArray->aQ,getElem?_eq_some_iff->bt,mem_cons_of_mem->aZ,getElem?_map->aW,map_append->aU,getD_eq_getElem?_getD->bF,all_eq_true->aY,mem_append_right->bA,length_singleton->bB,mem_singleton->bj,getElem?_set->bo,nil_append->ba,append_assoc->bp,length_take->bq,mem_append_left->bJ,mem_of_getElem?->bK,length_replicate->bO,not_mem_nil->bw,append_nil->br,nodup_append->bG,mem_filter->bC,mem_map_of_mem->bS,range->aX,getElem?_append_right->cJ,getElem?_append_left->cK,mem_range->bL,mem_append->bT,nodup_cons->bU,filter_cons->bZ,length->bH,zip_cons_cons->cM,length_drop->cv,zipWith_cons_cons->dm,map_nil->bV,getElem?_drop->cZ,find?_cons->cO,getElem_mem->c5,lookup_cons->c6,getElem?_replicate->eI,length_nil->c7,length_set->c8,zipWith->cD,lookup->cj,getElem?_eq_none->eK,length_filter_le->eL,drop_eq_getElem_cons->fR,length_zip->dB,length_range->dU,getElem_of_mem->eO,map_congr_left->eP,any_eq_true->dW,getElem?_set_self->fU,any_cons->dF,getElem?_zipWith->fV,mem_iff_getElem->fX,getElem_map->fi,all_cons->eh,mem_filterMap->f6,replicate->fq,take_sublist->gf,take_append_drop->ie,getElem_inj->gq,map_drop->fz,zip_map'->fA,map_take->fC,getElem?_set_ne->ig,map_id->eC,of_mem_zip->gA,countP_eq_length_filter->jo,filterMap_cons->il,length_zipWith->ip,filter_eq_self->iq,nodup_nil->gH,getElem?_zip_eq_some->ju,pairwise_iff_getElem->jw,getElem?_cons_succ->jA,drop_eq_nil_of_le->jC,take_of_length_le->jD,length_pos_of_mem->jF,forIn_cons->iA,contains_iff_mem->jL,mem_of_mem_drop->jO,getElem?_range->jQ,contains_cons->jW,ext_getElem?->j6,any_eq_false->j7,zipIdx_cons->kH,ext_getElem->kJ,zip_append->kQ,foldl_cons->kR,zipIdx_nil->kY,forIn_nil->lC,drop_nil->lO,all_map->l4,rec->mw,map->mx
open PySem.Heap renaming get?_push_of_some->aB,get?_push_size->aS,lt_size->aF,size_push->cf,SameBut->dG,get?_update_other->ic,get?_update_self->jK
open PySem renaming wpAny_bind->ag,Value->aa,Shared->ae,wpAny_pure->aw,starEach->ar,wpAny->af,mainGlobals->aK,Program->au,sizeLine->aE,Around->az,World->aq,compareOp->aM,Spec->ou,sizeLine_eq->bh,wpAny_mono->bx,assignEach->bz,wpAny_truthy_bool->cq,FuncData->bb,backTo->aV,wpAny_Call_Name_kw->dr,attributeBase->cy,wpAny_holding->cz,wpAny_seqItems->cP,wpAny_field->b0,bootBuiltins->cB,IsPair->bc,wpAny_passesOwn->dA,codeAny_builtin->dD,wpAny_pyIter_list->dR,keywordEach->cE,sysModules->ck,mem_of_lookup->eM,wpAny_call_entry->dX,wpAny_callSpecial?_slot->fT,wpAny_setField_rec->eQ,letOwnedTupleGo->dY,binaryOp->bX,behindInMarks->dE,swapsWith->cn,foldedSetIterable->eS,ofAClassStatement->eW,wpAny_setState_of->eX,carriedByValue->ee,codeAny->bR,tupleKind_room_in1->f9,codeAny_mono->eA,NameKind->cG,call_meetsIn->eB,wpAny_forIn_list->gv,wpAny_pyIter_zip->gw,wpAny_execs_nil->gz,Builtin->cH,wpAny_pyIter_tuple->ir,IsZip->bI,ZipApart->dg,wpAny_letOwnedTupleGo_zip->jv,wpAny_Call_method->iy,wpAny_newObj_type->iz,Paired->dJ,plainId_quiet->gK,wpAny_Call_method0_late->jz,Keyword->dh,Scope->bY,wpAny_loadPart'->jG,wpAny_isTrue_Compare1->jI,wpAny_eqIsQuiet_tuple->jJ,wpAny_updateSeq_pair->jN,evalArgs_none->jP,wpAny_onRaise->iH,Result->di,PlainAttrs->gX,call_meets->gY,wpAny_pyHash_tuple->jZ,Within->iJ,GenState->fH,BindsTo->eF,slot_list_getitem->j9,wpAny_execs_cons->ku,PassesOwn->hE,noFill_tuple_add->ky,wpAny_specialOf->kM,codeAny_of_tree->kU,wpAny_Name->ja,Operator->hG,wpAny_call->jc,call->jf,SetTable->hU,isSubtype_type->ll,boot_len->lq,wpAny_newTuple->lu,wpAny_setField->ly,wpAny_rule->jh,intBits_le_64->lF,seq_tuple_add->lH,evalPart_none->lI,call_list_seq->lJ,wpAny_standAt->lK,wpAny_newList->lN,wpAny_attempt->lP,CmpOp->dN,Params->fO,Fin->mq
open Nat renaming le_refl->aA,ne_of_lt->aO,lt_of_lt_of_le->bD,le_trans->bM,zero_le->bN,lt_irrefl->cg,lt_succ_of_lt->dt,le_add_right->dv,min_self->c9,ble_eq->cR,lt_succ_self->fg,min_eq_left->fo,le_of_lt->fD,ne_of_gt->fE,lt_of_le_of_lt->iw,ble->cW,le_succ->gU,beq->dM,add_right_comm->jS,beq_refl->iI,sub_self->iP,lt_trichotomy->kq,le_of_not_lt->kC,not_lt_zero->lg,le_of_eq->lW,pow_succ->lY,mod_lt->ml
open Bool renaming false_ne_true->aP,and_eq_true->aR,eq_iff_iff->cN,false_eq_true->dQ,not_eq_true'->eY,eq_false_iff->gm,or_eq_false_iff->ik,or_eq_true->kP,and_self->lS,rec->jj
open PySem.W renaming Frag->ak,kia_one->bQ,emptyDict->cQ,findIn->cb,kitOne->cc,keepIn->cF,instObj->de,fnOf->cX,codeIn->eD,OpenLaw->eE,plainGet_of->iE,plainGet->gV,callWith_K->iN,kat_cons->fJ,cellsFrom_some->kx,methodObj->iR,hasDictIn->iU,kitx_list->iV,kitx_dict->iW,methodCall_KW->kO,kas_ask->fN,lookIn->hJ,kas_sort->hX,nsIn->eG,callWith_K0->lG,takerIn->ji,kitx_tuple->lX,kat_yes->hZ,mg_of->ia,plainOver->l7,specialIn->l8,isFn->ib
open Prod renaming fst->aG,snd->fK,ext->jk
open Option.some renaming inj->bE,injEq->og
open Int renaming eq_ofNat_of_zero_le->cp,toNat_natCast->dS,emod_lt_of_pos->j5,emod_nonneg->lh,le_refl->mf
open PyProof.Rows.F renaming plain_set_update_loop->cY,entry_set_update_loop->eJ
open PySem.Builtin.SmallTypes renaming nextOf->dj,ownedTupleIsFree->fP,ownedTupleHandOut->jl
open PySem.SetTable.probe renaming go->cu
open PySem.Calls renaming callWith_builtin->dO,spliced_cons->dq,spliced_nil->eU,evalArgs_plain->fW,Name_function_global->jr
open PySem.Around renaming under_plainId->dP,in1_units->gx,under->iK
open PySem.SetTable renaming insertAt->du,below->fw,has->fF,Probe->gE,fresh->gG,bits->gO,runEnd->iB,fill->iF,put->iO,gaveWay->kF,tooFull->kG,slot->lL
open False renaming elim->bW
open PySem.F renaming slot_tuple_iterator_next->fQ,called_set->dc,slot_dict_get->dZ,plainAttrs_list->eZ,plainAttrs_dict->gj,entry_dict_get->gu,slot_dict_itemiterator_iter->jm,args_tuple_iterator_next_1->jn,slot_zip_next->gB,entry_tuple_iterator_next->jq,slot_list_append->iu,slot_dict_setdefault->jE,sub_list_frozenset->jM,args_tuple_add_2->jV,slot_list_extend->jX,type_list_append->j4,entry_tuple_add->j8,slot_list_clear->kj,args_dict_get_2->kl,args_dict_get_3->km,slot_dict_items->ko,args_zip_next_1->kr,slot_tuple_add->kz,entry_zip_next->kI,slot_list_pop->kK,type_dict_get->kN,plain_set_new->kW,sub_list_set->lp
open Option renaming map_some->dw,getD_none->kB,getD_some->kE
open PySem.Builtin.List renaming listTooLong->fS
open PySem.SetTable.below renaming go->eV
open Array renaming length_toList->fY,perm_iff_toList_perm->jt,getElem?_toList->jH,forIn_toList->jY,toList->lU,map->mr
open PySem.Heap.SameBut renaming update->fZ
open PySem.SeqAt.EqAt renaming same->fj,str_str->f7,of_refs->ix,int_str->jT,str_int->jU,tuple_none->m7,tuple_bool->m8,tuple_list->m9,list_tuple->ng,none_tuple->nh,bool_tuple->ni,none_bool->nu,bool_none->ny,bool_bool->nz,tuple_int->nD,tuple_str->nE,list_none->nF,list_bool->nG,none_list->nH,bool_list->nI,int_tuple->nJ,str_tuple->nL,none_int->nM,none_str->nN,bool_int->nO,bool_str->nP,int_none->nQ,int_bool->nR,str_none->nS,str_bool->nU,list_int->nV,list_str->nW,int_list->nX,str_list->nY,int_int->n8
open List.Sublist renaming refl->gn,map->oo
open PySem.Obj renaming mapSeq->dH,data_mapFields->j3,putSet->jg
open PyProof.Rows renaming AllBare->cS,subscriptTail_builtinR->jB,lt_str->jR,listUpdate_at->iG,IsTup->cI,SortKind->fI,seqEpoch_at->iY,get?_update_seq->kX,boot_isinstance->kZ,IntsAre->fL,Subscript_->je
open Ne renaming symm->cU
open PySem.AutoSeq1 renaming sub_tuple_tuple->jx,wpAny_loadPart'->jy
open Nat.succ renaming inj->gQ
open PySem.Str renaming ofString->gR,length->mh
open Sum.inr renaming inj->gS
open LawfulBEq renaming eq_of_beq->fG
open PySem.Paired renaming length->iC,snoc->ma
open PySem.SeqAt renaming EqAt->gW
open PySem.Walks renaming list->gZ
open PySem.Code renaming isFrame->iM,frames->l9
open PySem.Builtin.Tuple renaming tupleCompareSizes->my
open Prod.mk renaming inj->iQ
open PySem.Moved renaming trans->iX
open PySem.Builtin.Frozenset renaming updateFrom->mB,newClass->mD
open PySem.PassesOwn renaming never->lj
open PySem.Txt renaming mul->fM
open PySem.SeqAt.RcNeAt renaming lists_lengths->mC,tuples->nZ,lists->n9
open List.Perm renaming refl->lr
open PySem.EqNone renaming eq_none_none->mE,eq_none_bool->mF,eq_bool_none->mG,ne_none_none->mJ,ne_none_bool->mK,ne_bool_none->mL,eq_none_int->mO,eq_none_str->mP,eq_int_none->mQ,eq_str_none->mS,ne_none_int->mU,ne_none_str->mV,ne_int_none->mW,ne_str_none->mY
open PySem.EqMixed renaming eq_bool_str->mH,eq_str_bool->mI,ne_bool_str->mM,ne_str_bool->mN,eq_int_str->mR,eq_str_int->mT,ne_int_str->mX,ne_str_int->mZ
open PySem.Value renaming isStrOf->lE,isInt->l6
open PySem.SeqAt.RcAt renaming lists_lengths->m5,tuples->oh,lists->oj
open PySem.Pv renaming boot_tuple->lQ,boot_list->l5
open PySem.Builtin.Range renaming rangeSize->m6
open PySem.W.KatTups renaming cons->lZ,nil->md
open PySem.Shared renaming heap->me
open PySem.Heap.IsSliceOf renaming new->n4
open PySem.W.WShape renaming has->mj
open PySem.Within renaming cons->oa
open List.Pairwise renaming map->oi
open PyProof.Rows.IsTup renaming new->mm
open PySem.Heap.IsList renaming push->om
open PySem.Heap.DictOf renaming new->oq
def ai:=@if_neg
def aj:=@if_pos
def aN:=@decide_eq_false
def ao:=@absurd
def bu:=@decide_eq_true_eq
def bg:=@decide_eq_true
def aL:=@congrArg
def bP:=@of_decide_eq_true
set_option Elab.async false
set_option linter.all false
namespace L5
open PySem PySem.W
noncomputable def pick(l:List Obj):Nat->List Addr->List Obj:=
 @mw Obj (λ_=>Nat->List Addr->List Obj) (λ_ _=>[])
  (λo _ ih i as=>@mw Addr (λ_=>List Obj) [] (λa r _=>@jj (λ_=>List Obj) (ih (Nat.succ i) as) (o::ih (Nat.succ i) r) (dM a i)) as) l
theorem Jn(i:Nat)(as:List Addr):pick [] i as=[]:=rfl
theorem Mb(o:Obj)(l:List Obj)(i:Nat)(r:List Addr):pick (o::l) i (i::r)=o::pick l (i+1) r:=by show @jj (λ_=>List Obj) _ _ (dM i i)=_;rw[iI];rfl
theorem Mc(o:Obj)(l:List Obj)(i a:Nat)(r:List Addr)(h:a≠i):pick (o::l) i (a::r)=pick l (i+1) (a::r):=by
 show @jj (λ_=>List Obj) _ _ (dM a i)=_;have:dM a i=false:=by
  cases q:dM a i with
  |false=>rfl
  |true=>exact ao (Nat.eq_of_beq_eq_true q) h
 rw[this];rfl
theorem CT:∀(l:List Obj) (i:Nat) (as:List Addr),(pick l i as).length=as.length->∀j (hj:j<as.length),∃b,as[j]=i+b/\l[b]?=(pick l i as)[j]?
 |[],i,as,h,j,hj=>by rw[Jn]at h;simp at h;omega
 |o::l,i,[],h,j,hj=>by simp at hj
 |o::l,i,a::r,h,j,hj=>by
  by_cases q:a=i
  ·subst q;rw[Mb]at h ⊢;cases j with
   |zero=>exact⟨0,rfl,rfl⟩
   |succ j=>obtain⟨b,e1,e2⟩:=CT l (a+1) r (by simpa using h) j (by simpa using hj);exact⟨b+1,by rw[List.getElem_cons_succ,e1];exact jS a 1 b,by simpa using e2⟩
  ·rw[Mc _ _ _ _ _ q]at h ⊢;obtain⟨b,e1,e2⟩:=CT l (i+1) (a::r) h j hj;exact⟨b+1,by rw[e1];exact jS i 1 b,by simpa using e2⟩
def live(o:Obj):Bool:=match o with|⟨_,_,.freed,_⟩=>false|_=>true
theorem Md{h:Heap}{as:List Addr}{K:Frag}(e:as=K.map (·.1))(x:(pick h.objs.toList 0 as,K.all λp=>live p.2)=(K.map (·.2),true)):K.In h:=by
 obtain⟨x1,x2⟩:=iQ x;refine Frag.in_of e (j6 λj=>?_);rw[aW,aW];by_cases hj:j<as.length
 ·have hl:(pick h.objs.toList 0 as).length=as.length:=by rw[x1,e,ah,ah]
  obtain⟨b,e1,e2⟩:=CT _ _ _ hl j hj;have hk:j<K.length:=by rw[e,ah]at hj;exact hj
  rw[aH hj,aH hk,dw,dw,e1,Nat.zero_add];have e3:h.objs[b]?=some (K[j].2):=by rw[<-jH,e2,x1,aW,aH hk];rfl
  have lv:live K[j].2=true:=aY.mp x2 _ (c5 hk);refine aL some ?_;unfold Heap.get?;rw[e3];revert lv;cases K[j].2 with
  |mk c d data sl=>cases data<;>intro lv<;>first|rfl|cases lv
 ·rw[eK (by omega),eK (by rw[e,ah]at hj;omega)];rfl
noncomputable def S0(K:fO->Frag) (as:List Addr) (e:∀P,as=(K P).map (·.1)):Hook:=
 ⟨List Obj×Bool,λs=>(pick s.heap.objs.toList 0 as,true),λw=>((K w.params).map (·.2),(K w.params).all λp=>live p.2),InK K,λw s x=>Md (e w.params) (by
  obtain⟨x1,x2⟩:=iQ x;rw[x1,<- x2]),InK.keeps⟩
end L5
section
open PySem PySem.W PyProof.Rows
local macro_rules|`(tactic|o_head ($f:ident $k $as $e))=>`(tactic|o_head ((L5.S0 $k $as (fun _=>by kernel_rfl)):W.Hook))
local macro_rules|`(command|#where)=>do
 let mut r:=#[]
 for n in [43:1609] do
  let x:=Lean.mkIdent (.mkSimple s!"tw{((Lean.Name.mkSimple "hd").str s!"o_{n}").hash}")
  r:=r.push ((<-`(command|noncomputable def $x:ident:=0)).raw.rewriteBottomUp (·.setInfo .none))
 return Lean.mkNullNode r
noncomputable section
namespace PySem.W.Fast
def tw11852996868844841506:=0
def tw6861777633991150784:=0
def tw16998767113842130368:=0
def tw1484588488312774368:=0
def tw5407970635648715744:=0
def tw7266279999226197377:=0
def tw8217608775432466977:=0
def tw14125251287930296257:=0
def tw4297738956197642882:=0
def tw9583418258255874565:=0
def tw15795137049058576456:=0
def tw10374632558016547081:=0
def tw10095648818634518890:=0
def tw15222733579145042411:=0
def tw938635154573522699:=0
def tw14865148556353764299:=0
def tw18081126092374225324:=0
def tw1029674379273309804:=0
def tw10214798723161860908:=0
def tw8726500145642417389:=0
def tw7774113678449685934:=0
def tw10600413367226739535:=0
def tw1746271305761443856:=0
def tw10094546317475930288:=0
def tw861502493610598483:=0
def tw13278636317747329909:=0
def tw9863125073875416535:=0
def tw17719832897103726199:=0
def tw5163991568007387736:=0
def tw15469561042530557560:=0
def tw13591048310350326776:=0
def tw13625530754347173179:=0
def tw10485705919909964347:=0
def tw2380683370380831900:=0
def tw4529759306923343198:=0
def tw3904847129793340159:=0
def tw16209890516817295168:=0
def tw13788375583471885543:=0
def tw8777094748757883476:=0
def tw15006928546322691367:=0
def tw7539202537362837887:=0
def tw4797792239088547083:=0
def tw15022549315589499887:=0
def tw13347621489011750686:=0
def tw8997383693586321770:=0
def tw102665633916901851:=0
def tw9068750051323048436:=0
def tw15574524504482813658:=0
def tw16209886269506037329:=0
def tw6408665033692976793:=0
#where
end PySem.W.Fast
end
set_option maxRecDepth 100000 in
set_option maxHeartbeats 0 in
open_top hd for PySem.Challenge.rw_tellworld_k11_first_stands
end
set_option maxRecDepth 100000
namespace L2
open PySem PySem.Spec PyProof.Rows
abbrev Key:=Sum Int Str
def BW:Key->aa->Bool
 |.inl k,v=>l6 k v
 |.inr x,v=>lE x v
def UN(w:aq):Key->Int
 |.inl k=>hashInt k
 |.inr x=>hashStr w x
theorem pN:∀{k:Key} {v:aa},BW k v=true->(∃i t,k=Sum.inl i/\v=Value.int i t)\/(∃x t,k=Sum.inr x/\v=Value.str x t)
 |.inl i,v,h=>by obtain⟨t,e⟩:=Value.isInt_shape (k:=i) (v:=v) h;exact .inl ⟨i,t,rfl,e⟩
 |.inr x,v,h=>by obtain⟨t,e⟩:=Value.isStrOf_shape (x:=x) (v:=v) h;exact .inr ⟨x,t,rfl,e⟩
theorem HE(i:Int)(t:Tok):BW (.inl i) (.int i t)=true:=by simp[BW,l6]
theorem HF(x:Str)(t:Tok):BW (.inr x) (.str x t)=true:=by simp[BW,lE]
theorem O3(a b:Int):decide ((Sum.inl a:Key)=Sum.inl b)=(a==b):=by
 by_cases e:a=b
 ·subst e;simp
 ·have h:¬(Sum.inl a:Key)=Sum.inl b:=λq=>e (Sum.inl.inj q);rw[aN h];exact(beq_eq_false_iff_ne.mpr e).symm
theorem O4(a b:Str):decide ((Sum.inr a:Key)=Sum.inr b)=decide (a=b):=by
 by_cases e:a=b
 ·subst e;simp
 ·have h:¬(Sum.inr a:Key)=Sum.inr b:=λq=>e (gS q);rw[aN h,aN e]
theorem O5(a:Int)(b:Str):decide ((Sum.inl a:Key)=Sum.inr b)=false:=aN (λq=>nomatch q)
theorem O6(a:Str)(b:Int):decide ((Sum.inr a:Key)=Sum.inl b)=false:=aN (λq=>nomatch q)
def oZ(prog:au)(w:aq):PySem.KeyKind prog w Key where
 is:=BW
 hash:=UN w
 inj:=λv a b ha hb=>by
  rcases pN ha with ⟨i,t,rfl,rfl⟩|⟨x,t,rfl,rfl⟩
  ·rcases pN hb with ⟨j,u,rfl,e⟩|⟨y,u,rfl,e⟩
   ·injection e with e1 _;rw[e1]
   ·exact nomatch e
  ·rcases pN hb with ⟨j,u,rfl,e⟩|⟨y,u,rfl,e⟩
   ·exact nomatch e
   ·injection e with e1 _;rw[e1]
 byValue:=λk v h=>by rcases pN h with ⟨i,t,rfl,rfl⟩|⟨x,t,rfl,rfl⟩<;>rfl
 pyHash:=λhv h=>by
  rcases pN hv with ⟨i,t,rfl,rfl⟩|⟨x,t,rfl,rfl⟩
  ·exact wpAny_pyHash_int h
  ·exact wpAny_pyHash_str h
 eqBool:=λhu hv h=>by
  rcases pN hu with ⟨i,t,rfl,rfl⟩|⟨x,t,rfl,rfl⟩
  ·rcases pN hv with ⟨j,u,rfl,rfl⟩|⟨y,u,rfl,rfl⟩
   ·rw[O3]at h;exact wpAny_eqBool_int h
   ·rw[O5]at h;exact jT i t y u _ _ _ _ h
  ·rcases pN hv with ⟨j,u,rfl,rfl⟩|⟨y,u,rfl,rfl⟩
   ·rw[O6]at h;exact jU x t j u _ _ _ _ h
   ·rw[O4]at h;exact wpAny_eqBool_str h
 «strs»:=λk x t v h=>by
  rcases pN h with ⟨i,u,rfl,e⟩|⟨y,u,rfl,e⟩
  ·exact nomatch e
  ·injection e with e1 _;subst e1;cases v<;>rfl
theorem DQ(prog:au)(w:aq)(i:Int)(t:Tok):(oZ prog w).is (.inl i) (.int i t)=true:=HE i t
theorem DR(prog:au)(w:aq)(x:Str)(t:Tok):(oZ prog w).is (.inr x) (.str x t)=true:=HF x t
inductive V where
 |non|bl (b:Bool)|int (i:Int)|str (x:Str)|byt (b:Array UInt8)|flt (b:UInt64)|ref (a:Addr)|ty (n:String)
 deriving DecidableEq
def RelV:V->aa->Prop
 |.non,u=>u=Value.none
 |.bl b,u=>u=Value.bool b
 |.int i,u=>∃t,u=Value.int i t
 |.str x,u=>∃t,u=Value.str x t
 |.byt b,u=>∃t,u=Value.bytes b t
 |.flt b,u=>∃t,u=Value.float b t
 |.ref a,u=>u=Value.ref a
 |.ty n,u=>u=Value.type n
abbrev Vals:List V->List aa->Prop:=dJ RelV
variable{us:List aa}
theorem Vals.length{xs:List V}(r:Vals xs us):xs.length=us.length:=iC r
theorem Vals.get:∀{xs:List V} {us:List aa} {i:Nat} {x:V},Vals xs us->xs[i]?=some x->∃u,us[i]?=some u/\RelV x u
 |_,_,_,_,.nil,e=>by simp at e
 |_,_,0,_,.cons r _,e=>by simp at e;subst e;exact⟨_,rfl,r⟩
 |_,_,i+1,x,.cons _ t,e=>by obtain⟨u,h1,h2⟩:=Vals.get (i:=i) (x:=x) t (by simpa using e);exact⟨u,by simpa using h1,h2⟩
variable{u:aa}
theorem Vals.set{x:V}(r:RelV x u):∀{xs:List V} {us:List aa} (i:Nat),Vals xs us->Vals (xs.set i x) (us.set i u)
 |_,_,_,.nil=>.nil
 |_,_,0,.cons _ t=>.cons r t
 |_,_,i+1,.cons q t=>.cons q (Vals.set r i t)
theorem Vals.append:∀{xs ys:List V} {us ws:List aa},Vals xs us->Vals ys ws->Vals (xs++ys) (us++ws)
 |_,_,_,_,.nil,s=>s
 |_,_,_,_,.cons r t,s=>.cons r (Vals.append t s)
theorem Vals.take:∀{xs:List V} {us:List aa} (n:Nat),Vals xs us->Vals (xs.take n) (us.take n)
 |_,_,0,_=>.nil
 |_,_,_+1,.nil=>.nil
 |_,_,n+1,.cons r t=>.cons r (Vals.take n t)
theorem Vals.drop:∀{xs:List V} {us:List aa} (n:Nat),Vals xs us->Vals (xs.drop n) (us.drop n)
 |_,_,0,r=>r
 |_,_,_+1,.nil=>.nil
 |_,_,n+1,.cons _ t=>Vals.drop n t
def vT:Option V->Option aa->Prop
 |some v,some u=>RelV v u
 |none,none=>True
 |_,_=>False
def KV{κ:Type}:List (κ×V)->List (κ×aa)->Prop:=dJ λ(p:κ×V) (q:κ×aa)=>p.1=q.1/\RelV p.2 q.2
def kV:Key->V
 |.inl i=>.int i
 |.inr x=>.str x
inductive HO where
 |lst (xs:List V)
 |tup (xs:List V)
 |dK (kvs:List (Key×V))|dT (kvs:List (List Key×V))
 |set (S:Int->Bool) (n:Nat)
 |ins (C dx:Addr) (fs:List (Str×V))
 |own (x:Addr)
 |xd (fs:List (Str×V))
 |met (f x:Addr)
 |rng (lo hi:Int)
 |frz (o:Obj) (u:HO)
 |tbl (ps:Array aa)
 |ext (φ:Heap->Prop)
abbrev Hp:=Addr->Option HO
def upd(H:Hp)(a:Addr)(o:HO):Hp:=λb=>if b=a then some o else H b
variable{a:Addr}
theorem oH{H:Hp}{o:HO}:upd H a o a=some o:=by unfold upd;rw[aj rfl]
variable{b:Addr}
theorem oF{H:Hp}{o:HO}(h:b≠a):upd H a o b=H b:=by unfold upd;rw[ai h]
theorem S3{H:Hp}{o u:HO}(h:H a=some o)(h':H b=some u)(d:o≠u):a≠b:=by intro e;subst e;rw[h]at h';exact d (bE h')
theorem qO{H:Hp}{o:HO}(h:H a=some o)(h':H b=none):a≠b:=by intro e;subst e;rw[h]at h';cases h'
section
variable(P:au)(w:aq)
def ObjOk(H:Hp)(h:Heap)(a:Addr):HO->Prop
 |.lst xs=>xs.length<=aE/\∃(its:List aa) (n:Nat),Vals xs its/\h.get? a=some { cls:=.type "list", data:=.seq its.toArray n }
 |.tup xs=>xs.length<=aE/\∃its:List aa,Vals xs its/\cI h a its.toArray
 |.dK kvs=>kvs.length<=aE/\(a==ck)=false/\∃vs,KV kvs vs/\h.DictOf (oZ P w) a vs
 |.dT kvs=>kvs.length<=aE/\(a==ck)=false/\∃xs:List (List Key×Addr×aa),
   dJ (λ(p:List Key×V) (q:List Key×Addr×aa)=>p.1=q.1/\H q.2.1=some (.tup (p.1.map kV))/\RelV p.2 q.2.2) kvs xs/\
   ∃o es ep,h.get? a=some o/\o.ExactDict/\o.data=.dict es ep/\es.toList=xs.map (entryOfKey (tupleKind (oZ P w)))/\(xs.map (·.1)).Nodup
 |.set S n=>h.SetOf (intKind P w) a S n
 |.ins C dx fs=>H dx=some (.own a)/\fs.length<=1000/\dx≠a/\h.get? a=some (de C dx)/\
   ∃mA,h.Ns1 dx mA/\(∀f,vT (fs.lookup f) (mA f))/\iJ mA (fs.map (·.1))
 |.own _=>∃o,h.get? a=some o
 |.xd fs=>∃mA,h.Ns1 a mA/\∀f,vT (fs.lookup f) (mA f)
 |.rng lo hi=>∃t u v,h.get? a=some { cls:=.type "range", data:=.fields #[.int lo t,.int hi u,.int 1 v] }
 |.frz o u=>h.get? a=some o/\ObjOk H h a u
 |.tbl ps=>h.get? a=some { cls:=.none,data:=.fields ps }
 |.met f x=>h.get? a=some (iR (.ref f) (.ref x))
 |.ext φ=>φ h/\(∃o,h.get? a=some o)/\∀h1 h2:Heap,φ h1->(∀o,h1.get? a=some o->h2.get? a=some o)->φ h2
def HOk(H:Hp)(h:Heap):Prop:=∀a o,H a=some o->ObjOk P w H h a o
end
section
variable{P:au}{w:aq}{H H':Hp}{h h':Heap}{a:Addr}{o:HO}
theorem ObjOk.lt(x:ObjOk P w H h a o):a<h.objs.size:=by
 cases o with
 |lst xs=>obtain⟨_,_,_,_,e⟩:=x;exact aF e
 |tup xs=>obtain⟨_,_,_,p⟩:=x;exact p.lt
 |dK kvs=>obtain⟨_,_,_,_,o,_,_,e,_⟩:=x;exact aF e
 |dT kvs=>obtain⟨_,_,_,_,o,_,_,e,_⟩:=x;exact aF e
 |set S n=>obtain⟨o,_,_,_,e,_⟩:=x;exact aF e
 |ins C dx fs=>obtain⟨_,_,_,e,_⟩:=x;exact aF e
 |own y=>obtain⟨_,e⟩:=x;exact aF e
 |xd fs=>obtain⟨_,⟨_,_,_,e,_⟩,_⟩:=x;exact aF e
 |rng lo hi=>obtain⟨_,_,_,e⟩:=x;exact aF e
 |frz ob u=>obtain⟨e,_⟩:=x;exact aF e
 |tbl ps=>exact aF (show h.get? a=some _ from x)
 |met f y=>exact aF (show h.get? a=some _ from x)
 |ext φ=>obtain⟨_,⟨_,e⟩,_⟩:=x;exact aF e
theorem Paired.mapP{α β:Type}{F G:α->β->Prop}:∀{l₁:List α} {l₂:List β},dJ F l₁ l₂->(∀a b,F a b->G a b)->dJ G l₁ l₂
 |_,_,.nil,_=>.nil
 |_,_,.cons r t,f=>.cons (f _ _ r) (Paired.mapP t f)
theorem ObjOk.stay(x:ObjOk P w H h a o)(k:∀b u,(b=a\/H b=some (.own a))->h.get? b=some u->h'.get? b=some u)
  (ho:∀b,H b=some (.own a)->H' b=some (.own a)) (ht:∀b xs,H b=some (.tup xs)->H' b=some (.tup xs)):ObjOk P w H' h' a o:=by
 induction o with
 |lst xs=>obtain⟨z,its,n,r,e⟩:=x;exact⟨z,its,n,r,k _ _ (.inl rfl) e⟩
 |tup xs=>obtain⟨z,its,r,ob,e,c⟩:=x;exact⟨z,its,r,ob,k _ _ (.inl rfl) e,c⟩
 |dK kvs=>obtain⟨z,y,vs,r,ob,es,ep,e,c⟩:=x;exact⟨z,y,vs,r,ob,es,ep,k _ _ (.inl rfl) e,c⟩
 |dT kvs=>obtain⟨z,y,xs,r,ob,es,ep,e,c⟩:=x;exact⟨z,y,xs,Paired.mapP r λp q z=>⟨z.1,ht _ _ z.2.1,z.2.2⟩,ob,es,ep,k _ _ (.inl rfl) e,c⟩
 |set S n=>obtain⟨ob,es,ep,t,e,c⟩:=x;exact⟨ob,es,ep,t,k _ _ (.inl rfl) e,c⟩
 |ins C dx fs=>obtain⟨d,z,ne,e,mA,⟨od,es,ep,e2,c⟩,r⟩:=x;exact⟨ho _ d,z,ne,k _ _ (.inl rfl) e,mA,⟨od,es,ep,k _ _ (.inr d) e2,c⟩,r⟩
 |own y=>obtain⟨ob,e⟩:=x;exact⟨ob,k _ _ (.inl rfl) e⟩
 |xd fs=>obtain⟨mA,⟨od,es,ep,e,c⟩,r⟩:=x;exact⟨mA,⟨od,es,ep,k _ _ (.inl rfl) e,c⟩,r⟩
 |rng lo hi=>obtain⟨t,u,v,e⟩:=x;exact⟨t,u,v,k _ _ (.inl rfl) e⟩
 |frz ob u ih=>obtain⟨e,q⟩:=x;exact⟨k _ _ (.inl rfl) e,ih q⟩
 |tbl ps=>have e:h.get? a=some { cls:=.none,data:=.fields ps }:=x;show h'.get? a=some { cls:=.none,data:=.fields ps };exact k a _ (.inl rfl) e
 |met f y=>have e:h.get? a=some (iR (.ref f) (.ref y)):=x;show h'.get? a=some (iR (.ref f) (.ref y));exact k a _ (.inl rfl) e
 |ext φ=>obtain⟨p,⟨o,e⟩,st⟩:=x;exact⟨st _ _ p λo q=>k _ _ (.inl rfl) q,⟨o,k _ _ (.inl rfl) e⟩,st⟩
theorem HOk.lt(x:HOk P w H h)(e:H a=some o):a<h.objs.size:=(x a o e).lt
theorem HOk.fresh(x:HOk P w H h)(e:h.objs.size<=a):H a=none:=by
 cases q:H a with
 |none=>rfl
 |some u=>exact ao (bD (x.lt q) e) (cg _)
theorem HOk.kept(x:HOk P w H h)(k:∀b u,h.get? b=some u->h'.get? b=some u):HOk P w H h':=λa o e=>
 (x a o e).stay (λb u _ q=>k b u q) (λ_ q=>q) λ_ _ q=>q
theorem HOk.laid(x:HOk P w H h)(k:∀b u,h.get? b=some u->h'.get? b=some u)(hp:h.objs.size<=a)(new:ObjOk P w (upd H a o) h' a o):HOk P w (upd H a o) h':=λb u e=>by
 have hn:=x.fresh hp;by_cases hb:b=a
 ·subst hb;rw[oH]at e;cases e;exact new
 ·rw[oF hb]at e;exact(x b u e).stay (λc v _ q=>k c v q) (λc q=>by rw[oF (qO q hn)];exact q) λc xs q=>by rw[oF (qO q hn)];exact q
end
def Rd(H:Hp)(a:Addr)(u:HO):Prop:=H a=some u\/∃o,H a=some (.frz o u)
theorem Rd.ok{P:au}{w:aq}{H:Hp}{h:Heap}{u:HO}(r:Rd H a u)(x:HOk P w H h):ObjOk P w H h a u:=by
 rcases r with r|⟨o,r⟩
 ·exact x a u r
 ·obtain⟨_,q⟩:=x a _ r;exact q
def Mut:Option HO->Prop
 |some (.lst _)=>True
 |some (.dK _)=>True
 |some (.dT _)=>True
 |some (.set _ _)=>True
 |some (.ins _ _ _)=>True
 |some (.ext _)=>True
 |_=>False
section
variable{P:au}{w:aq}{H:Hp}{h h':Heap}{x e:Addr}{o':HO}
theorem HOk.write(ok:HOk P w H h)(mu:Mut (H x))(he:e=x\/H e=some (.own x))(k:∀b u,b≠e->h.get? b=some u->h'.get? b=some u)(heo:∃u,h'.get? e=some u)
  (new:ObjOk P w (upd H x o') h' x o'):HOk P w (upd H x o') h':=λb u q=>by
 have nown:∀c y,H c=some (.own y)->c≠x:=λc y r z=>by subst z;rw[r]at mu;exact mu
 have ntup:∀c xs,H c=some (.tup xs)->c≠x:=λc xs r z=>by subst z;rw[r]at mu;exact mu
 by_cases hb:b=x
 ·subst hb;rw[oH]at q;cases q;exact new
 ·rw[oF hb]at q;by_cases hbe:b=e
  ·have q':H b=some (.own x):=by
    rcases he with z|z
    ·exact ao (hbe.trans z) hb
    ·rw[hbe];exact z
   rw[q]at q';cases q';obtain⟨v,hv⟩:=heo;exact⟨v,by rw[hbe];exact hv⟩
  ·refine(ok b u q).stay (λc v hc r=>k c v ?_ r) (λc r=>by rw[oF (nown c b r)];exact r) λc xs r=>by rw[oF (ntup c xs r)];exact r
   rcases hc with rfl|hc
   ·exact hbe
   ·rintro rfl;rcases he with z|z
    ·exact nown c b hc z
    ·rw[hc]at z;cases z;exact hb rfl
end
structure Un(fs ex:List Addr)(H H':Hp)(h h':Heap):Prop where
 keep:∀b o,h.get? b=some o->H b=none->b∉fs->b∉ex->h'.get? b=some o
 slot:∀b o,h.get? b=some o->H b=none->b∈fs->b∉ex->∃sl,h'.get? b=some { o with slots:=sl }
 free:∀b o,h.get? b=some o->H b=none->b∉ex->H' b=none
 there:∀b o,h.get? b=some o->b∉ex->∃o',h'.get? b=some o'
 tups:∀b xs,H b=some (.tup xs)->H' b=some (.tup xs)
 frzs:∀b o u,H b=some (.frz o u)->H' b=some (.frz o u)
 tbls:∀b ps,H b=some (.tbl ps)->∃more,H' b=some (.tbl (ps++more))
section
variable{fs fs' ex ex':List Addr}{H H1 H2:Hp}{h h1 h2 h':Heap}{a x e:Addr}{o:HO}
theorem Un.any(u:Un fs ex H H1 h h1){ob:Obj}(q:h.get? b=some ob)(n:H b=none)(hx:b∉ex):∃sl,h1.get? b=some { ob with slots:=sl }:=by
 by_cases hb:b∈fs
 ·exact u.slot b ob q n hb hx
 ·exact⟨ob.slots,u.keep b ob q n hb hx⟩
theorem Un.kept(k:∀b u,h.get? b=some u->h'.get? b=some u):Un fs ex H H h h':=
 ⟨λb ob q _ _ _=>k b ob q,λb ob q _ _ _=>⟨ob.slots,k b ob q⟩,λ_ _ _ n _=>n,λb ob q _=>⟨ob,k b ob q⟩,λ_ _ q=>q,λ_ _ _ q=>q,λ_ ps q=>⟨#[],by rw[q];simp⟩⟩
theorem Un.refl:Un fs ex H H h h:=Un.kept λ_ _ q=>q
theorem Un.laid(k:∀b u,h.get? b=some u->h'.get? b=some u)(hp:h.objs.size<=a)(hn:H a=none):Un fs ex H (upd H a o) h h' where
 keep:=λb u q _ _ _=>k b u q
 slot:=λb u q _ _ _=>⟨u.slots,k b u q⟩
 free:=λb u q n _=>by rw[oF (aO (bD (aF q) hp))];exact n
 there:=λb u q _=>⟨u,k b u q⟩
 tups:=λb xs q=>by rw[oF (qO q hn)];exact q
 frzs:=λb u xs q=>by rw[oF (qO q hn)];exact q
 tbls:=λb ps q=>⟨#[],by rw[oF (qO q hn),q];simp⟩
theorem Un.write(mu:Mut (H x))(he:e=x\/H e=some (.own x))(k:∀b u,b≠e->h.get? b=some u->h'.get? b=some u)(heo:∃u,h'.get? e=some u):Un fs ex H (upd H x o) h h':=by
 have hx:∀b,H b=none->b≠x:=λb n z=>by subst z;rw[n]at mu;exact mu
 have hb:∀b,H b=none->b≠e:=λb n z=>by
  subst z;rcases he with r|r
  ·exact hx b n r
  ·rw[n]at r;cases r
 have hm:∀b u,H b=some u->¬Mut (some u)->b≠x:=λb u q nm z=>by subst z;rw[q]at mu;exact nm mu
 refine⟨λb u q n _ _=>k b u (hb b n) q,λb u q n _ _=>⟨u.slots,k b u (hb b n) q⟩,λb u q n _=>by rw[oF (hx b n)];exact n,λb u q _=>?_,
  λb xs q=>by rw[oF (hm b _ q λz=>z)];exact q,λb u xs q=>by rw[oF (hm b _ q λz=>z)];exact q,λb ps q=>⟨#[],by rw[oF (hm b _ q λz=>z),q];simp⟩⟩
 by_cases hbe:b=e
 ·subst hbe;exact heo
 ·exact⟨u,k b u hbe q⟩
end
def trk(h:Heap)(H:Hp):List Addr:=(aX h.objs.size).filter λa=>(H a).isSome
def CU(h:Heap)(H:Hp):Heap:=W.hideAll h (trk h H)
theorem HG(h:Heap)(H:Hp):(CU h H).objs.size=h.objs.size:=W.hideAll_size _ _
theorem Jo{h:Heap}{H:Hp}{o:Obj}(e:h.get? b=some o)(n:H b=none):(CU h H).get? b=some o:=
 W.hideAll_get _ e λhm=>by have q:(H b).isSome=true:=(bC.mp hm).2;rw[n]at q;simp at q
theorem Me{h:Heap}{H:Hp}{o:Obj}(e:(CU h H).get? b=some o):h.get? b=some o/\H b=none:=by
 have e':h.get? b=some o:=W.of_hideAll (trk h H) e;refine⟨e',?_⟩;cases q:H b with
 |none=>rfl
 |some x=>have hm:b∈trk h H:=bC.mpr ⟨bL.mpr (aF e'),by simp[q]⟩;have z:(CU h H).get? b=none:=W.hideAll_none (trk h H) hm;rw[z]at e;cases e
def Mg(g h:Heap)(L:Addr):List (Addr×Obj):=(aX h.objs.size).filterMap λa=>if a=L\/(g.get? a).isSome=true then none else (h.get? a).map λo=>(a,o)
def rest(g h:Heap)(L d:Addr):List (Addr×Obj):=(Mg g h L).filter λp=>decide (p.1≠d)
structure Mod(K:ak)(mg:Str->Option aa)(base:Heap):Prop where
 kin:K.In base
 glob:base.Ns aK mg
 blt:∃mb,base.Ns builtinsNs mb/\∀x:Str,x≠"__name__" -> mb x=cB x
 nolimit:base.NoLimit
structure Cx where
 prog:au
 w:aq
 K:ak
 mg:Str->Option aa
 base:Heap
 A:az
 N:List Str
 s₀:ae
 H₀:Hp
 env:Env
 outer:List Env
 stack:List Env
 ex:List Addr
 fn:Str->Bool
 calm:Bool
 pn:List (Addr×Obj)
 xe:aa->ae->Prop
def frs(l:List Env):List Addr:=l.filterMap (·.frame)
abbrev Cx.fs(X:Cx):List Addr:=frs X.outer
def Vis(sc:bY)(x:Str):Prop:=sc.names.lookup x=some .local\/sc.names.lookup x=some .cell\/sc.names.lookup x=some .free
def Loc(sc:bY)(x:Str):Prop:=sc.names.lookup x=some .local\/sc.names.lookup x=some .cell
def Look(env:Env)(h:Heap)(m:Str->Option aa)(x:Str)(u:aa):Prop:=
 (env.kindOf x=some .local/\m x=some u)\/((env.kindOf x=some .cell\/env.kindOf x=some .free)/\∃c,env.cells.lookup x=some c/\h.IsCell c (some u))
structure Cx.Ok(X:Cx):Prop where
 mod:Mod X.K X.mg X.base
 kind:X.env.scope.kind=.function
 glob:X.env.globals=aK
 blt:X.env.builtins=builtinsNs
 above:X.s₀.heap.objs.size<=X.env.locals
 inj:∀x y c,X.env.cells.lookup x=some c->X.env.cells.lookup y=some c->x=y
 has:∀x,(X.env.kindOf x=some .cell\/X.env.kindOf x=some .free)->∃c,X.env.cells.lookup x=some c
 cab:∀x c,X.fn x=true->X.env.cells.lookup x=some c->X.s₀.heap.objs.size<=c
 hd:X.calm=true->X.A.handled=none
 frames:X.A.frames=some X.stack
 stk:X.stack=X.outer\/(X.stack=X.env::X.outer/\X.env.frame=some X.env.locals)
 exf:∀b∈X.ex,b≠X.env.locals/\∀x c,X.env.cells.lookup x=some c->c≠b
 bs:∀b o,X.base.get? b=some o->X.s₀.heap.get? b=some o/\X.H₀ b=none
 bsz:X.base.objs.size<=X.s₀.heap.objs.size
 noex:∀b o,X.base.get? b=some o->b∉X.ex
 exfs:∀b∈X.ex,b∉X.fs
 funs:X.s₀.heap.FunFrames X.base X.outer
 frf:∀b∈X.fs,X.H₀ b=none
structure Inv(X:Cx)(pins:List (Addr×Obj))(σ:List (Option V))(H:Hp)(s:ae):Prop where
 ok:X.Ok
 os:s.os=X.s₀.os
 bare:cS s.gens
 base:Un X.fs X.ex X.H₀ H X.s₀.heap s.heap
 loc:∃m,s.heap.Ns X.env.locals m/\∀(i:Nat) (x:Str) (v:V),X.N[i]?=some x->σ[i]?=some (some v)->Vis X.env.scope x->∃u,RelV v u/\Look X.env s.heap m x u
 cell:∀x c,X.env.cells.lookup x=some c->∃v,s.heap.IsCell c v
 free:H X.env.locals=none
 freeC:∀x c,X.env.cells.lookup x=some c->H c=none
 pin:∀p∈X.pn++pins,s.heap.get? p.1=some p.2/\H p.1=none/\p.1≠X.env.locals/\p.1∉X.fs/\∀v,p.2.data≠.cell v
 hok:HOk X.prog X.w H s.heap
 len:σ.length=X.N.length
variable{g':Array fH}{t' i j:Nat}{d':Drawn}{ch:List Addr}{it:Addr}{N:List Str}{M:Model}{E:aa->ae->Prop}{s':ae}
section
variable{X:Cx}{pins:List (Addr×Obj)}{σ:List (Option V)}{H H':Hp}{s:ae}{h':Heap}
theorem Cx.Ok.nofr(ok:X.Ok){o:Obj}(e:X.base.get? b=some o):b∉X.fs:=λhb=>by have:=(ok.funs.mem hb).1;rw[e]at this;cases this
theorem Inv.bs(I:Inv X pins σ H s):∀b o,X.base.get? b=some o->s.heap.get? b=some o/\H b=none:=λb o e=>
 ⟨I.base.keep b o (I.ok.bs b o e).1 (I.ok.bs b o e).2 (I.ok.nofr e) (I.ok.noex b o e),I.base.free b o (I.ok.bs b o e).1 (I.ok.bs b o e).2 (I.ok.noex b o e)⟩
theorem Inv.bk(I:Inv X pins σ H s):∀b o,X.base.get? b=some o->s.heap.get? b=some o:=λb o e=>(I.bs b o e).1
theorem Inv.mod(I:Inv X pins σ H s):Mod X.K X.mg X.base:=I.ok.mod
theorem Inv.kIn(I:Inv X pins σ H s):X.K.In s.heap:=I.ok.mod.kin.keeps I.bk
theorem Inv.fr(I:Inv X pins σ H s):∃m,Fr X.base X.env.locals s.heap m:=
 let ⟨m,hn,_⟩:=I.loc
 ⟨m,hn,I.bk,bM I.ok.bsz I.ok.above⟩
theorem Inv.lt(I:Inv X pins σ H s):X.env.locals<s.heap.objs.size:=let ⟨_,hn,_⟩:=I.loc;hn.lt
theorem Inv.sz(I:Inv X pins σ H s):X.s₀.heap.objs.size<=s.heap.objs.size:=bM I.ok.above (fD I.lt)
theorem Inv.nofs(I:Inv X pins σ H s)(h:s.heap.objs.size<=a):a∉X.fs:=λhb=>by obtain⟨_,o,ho,_⟩:=I.ok.funs.mem hb;exact ao (bD (aF ho) (bM I.sz h)) (cg _)
theorem Inv.cne(I:Inv X pins σ H s):∀x c,X.env.cells.lookup x=some c->c≠X.env.locals:=λx c e z=>by obtain⟨v,o,ho,hd⟩:=I.cell x c e;obtain⟨m,⟨o',es,ep,ho',hd',_⟩,_⟩:=I.loc;rw[z,ho']at ho;cases ho;rw[hd']at hd;cases hd
theorem Inv.funs(I:Inv X pins σ H s):s.heap.FunFrames X.base X.outer:=by
 have all:∀(l:List Env),(∀b∈frs l,b∈X.fs)->X.s₀.heap.FunFrames X.base l->s.heap.FunFrames X.base l:=by
  intro l
  induction l with
  |nil=>intro _ _;trivial
  |cons env r ih=>intro hs hl;obtain⟨hk,⟨L,o,hf,hn,ho,hd⟩,hr⟩:=hl;have hL:L∈X.fs:=hs L (by unfold frs;rw[il,hf];exact aT);obtain⟨sl,e⟩:=I.base.slot L o ho (I.ok.frf L hL) hL λz=>I.ok.exfs L z hL;exact⟨hk,⟨L,_,hf,hn,e,hd⟩,ih (λb hb=>hs b (by unfold frs;rw[il,hf];exact aZ _ hb)) hr⟩
 exact all X.outer (λ_ hb=>hb) I.ok.funs
theorem Inv.stack(I:Inv X pins σ H s):s.heap.FunFrames X.base X.stack:=by
 rcases I.ok.stk with e|⟨e,hf⟩
 ·rw[e];exact I.funs
 ·rw[e];obtain⟨m,hn,_⟩:=I.loc;refine .cons (by rw[I.ok.kind];decide) hf hn ?_ I.funs;exact Heap.get?_none_of_le (bM I.ok.bsz I.ok.above)
theorem Inv.stkSub(I:Inv X pins σ H s):∀b∈frs X.stack,b∈X.env.locals::X.fs:=λb hb=>by
 rcases I.ok.stk with e|⟨e,hf⟩
 ·rw[e]at hb;exact aZ _ hb
 ·rw[e]at hb;unfold frs at hb;rw[il,hf]at hb;exact hb
theorem Inv.stkFree(I:Inv X pins σ H s):∀b∈frs X.stack,H b=none:=λb hb=>by
 rcases aJ.mp (I.stkSub b hb)with e|hb
 ·rw[e];exact I.free
 ·obtain⟨_,o,ho,_⟩:=I.ok.funs.mem hb;exact I.base.free b o ho (I.ok.frf b hb) λz=>I.ok.exfs b z hb
theorem Inv.step(I:Inv X pins σ H s)
  (hch:∀b∈ch,(b∈X.ex\/X.s₀.heap.objs.size<=b)/\b≠X.env.locals/\(∀x c,X.env.cells.lookup x=some c->c≠b)/\∀p∈X.pn++pins,p.1≠b)
  (keep:∀b o,b≠X.env.locals->b∉X.fs->b∉ch->s.heap.get? b=some o->H b=none->h'.get? b=some o)
  (slot:∀b o,b≠X.env.locals->b∈X.fs->b∉ch->s.heap.get? b=some o->H b=none->∃sl,h'.get? b=some { o with slots:=sl }) (free:∀b o,b∉ch->s.heap.get? b=some o->H b=none->H' b=none)
  (there:∀b o,b∉ch->s.heap.get? b=some o->∃o',h'.get? b=some o')
  (tups:∀b xs,H b=some (.tup xs)->H' b=some (.tup xs)) (frzs:∀b o u,H b=some (.frz o u)->H' b=some (.frz o u)) (tbls:∀b ps,H b=some (.tbl ps)->∃more,H' b=some (.tbl (ps++more)))
  (ns:∀m,s.heap.Ns X.env.locals m->h'.Ns X.env.locals m) (hok:HOk X.prog X.w H' h') (hg:cS g'):
  Inv X pins σ H' { s with heap:=h',gens:=g',drawn:=d',toks:=t' }:=by
 have neL:∀b o,X.s₀.heap.get? b=some o->b≠X.env.locals:=λb o e=>aO (bD (aF e) I.ok.above);have neC:∀b o,X.s₀.heap.get? b=some o->b∉X.ex->b∉ch:=λb o e hx hb=>by
  rcases(hch b hb).1 with z|z
  ·exact hx z
  ·exact ao (bD (aF e) z) (cg _)
 have cellK:∀x c,X.env.cells.lookup x=some c->∀v,s.heap.IsCell c v->h'.IsCell c v:=λx c e v ⟨o,ho,hd⟩=>by
  have nch:c∉ch:=λz=>(hch c z).2.2.1 x c e rfl;by_cases hc:c∈X.fs
  ·obtain⟨sl,q⟩:=slot c o (I.cne x c e) hc nch ho (I.freeC x c e);exact⟨_,q,hd⟩
  ·exact⟨o,keep c o (I.cne x c e) hc nch ho (I.freeC x c e),hd⟩
 refine⟨I.ok,I.os,hg,⟨λb o e n hb hx=>?_,λb o e n hb hx=>?_,λb o e n hx=>?_,λb o e hx=>?_,λb xs e=>tups b xs (I.base.tups b xs e),λb o xs e=>frzs b o xs (I.base.frzs b o xs e),λb ps e=>?_⟩,?_,λx c e=>?_,?_,λx c e=>?_,λp hp=>?_,hok,I.len⟩
 ·exact keep b o (neL b o e) hb (neC b o e hx) (I.base.keep b o e n hb hx) (I.base.free b o e n hx)
 ·obtain⟨sl,e1⟩:=I.base.slot b o e n hb hx;obtain⟨sl',e2⟩:=slot b _ (neL b o e) hb (neC b o e hx) e1 (I.base.free b o e n hx);exact⟨sl',e2⟩
 ·obtain⟨o',e1⟩:=I.base.there b o e hx;exact free b o' (neC b o e hx) e1 (I.base.free b o e n hx)
 ·obtain⟨o',e1⟩:=I.base.there b o e hx;exact there b o' (neC b o e hx) e1
 ·obtain⟨m1,e1⟩:=I.base.tbls b ps e;obtain⟨m2,e2⟩:=tbls b _ e1;exact⟨m1++m2,by rw[e2,Array.append_assoc]⟩
 ·obtain⟨m,hn,hl⟩:=I.loc;refine⟨m,ns m hn,λi x v e1 e2 e3=>?_⟩;obtain⟨u,r,l⟩:=hl i x v e1 e2 e3;refine⟨u,r,?_⟩;rcases l with l|⟨k,c,e,z⟩
  ·exact .inl l
  ·exact .inr ⟨k,c,e,cellK x c e _ z⟩
 ·obtain⟨v,z⟩:=I.cell x c e;exact⟨v,cellK x c e v z⟩
 ·obtain⟨m,⟨o,_,_,ho,_⟩,_⟩:=I.loc;exact free _ o (λz=>(hch _ z).2.1 rfl) ho I.free
 ·obtain⟨v,o,ho,hd⟩:=I.cell x c e;exact free c o (λz=>(hch c z).2.2.1 x c e rfl) ho (I.freeC x c e)
 ·obtain⟨e,n,ne,nf,d⟩:=I.pin p hp;have nch:p.1∉ch:=λz=>(hch p.1 z).2.2.2 p hp rfl;exact⟨keep p.1 p.2 ne nf nch e n,free p.1 p.2 nch e n,ne,nf,d⟩
theorem Inv.un(I:Inv X pins σ H s)(u:Un X.fs [] H H' s.heap h')(hok:HOk X.prog X.w H' h'):Inv X pins σ H' { s with heap:=h',toks:=t' }:=by
 obtain⟨m,⟨o,es,ep,ho,r⟩,_⟩:=id I.loc;obtain⟨sl,hL⟩:=u.any ho I.free (by simp);exact I.step (g':=s.gens) (d':=s.drawn) (ch:=[]) (λ_ z=>nomatch z) (λb o _ hb _ e n=>u.keep b o e n hb (by simp)) (λb o _ hb _ e n=>u.slot b o e n hb (by simp)) (λb o _ e n=>u.free b o e n (by simp)) (λb o _ e=>u.there b o e (by simp)) u.tups u.frzs u.tbls (λm' hm=>by
  obtain⟨o',es',ep',ho',r'⟩:=hm;rw[ho]at ho';cases ho';exact⟨_,es',ep',hL,r'⟩) hok I.bare
theorem Inv.call(I:Inv X pins σ H s)(u:Un (frs X.stack) ch H H' s.heap h')(hok:HOk X.prog X.w H' h')(hg:cS g')
  (hch:∀b∈ch,(b∈X.ex\/X.s₀.heap.objs.size<=b)/\b≠X.env.locals/\(∀x c,X.env.cells.lookup x=some c->c≠b)/\∀p∈X.pn++pins,p.1≠b):
  Inv X pins σ H' { s with heap:=h',gens:=g',drawn:=d',toks:=t' }:=by
 obtain⟨m,⟨o,es,ep,ho,r⟩,_⟩:=id I.loc;obtain⟨sl,hL⟩:=u.any ho I.free λz=>(hch _ z).2.1 rfl;exact I.step (ch:=ch) hch (λb o hL hb hc e n=>u.keep b o e n (λz=>(aJ.mp (I.stkSub b z)).elim hL hb) hc) (λb o _ _ hc e n=>u.any e n hc) (λb o hc e n=>u.free b o e n hc) (λb o hc e=>u.there b o e hc) u.tups u.frzs u.tbls (λm' hm=>by
  obtain⟨o',es',ep',ho',r'⟩:=hm;rw[ho]at ho';cases ho';exact⟨_,es',ep',hL,r'⟩) hok hg
theorem Inv.turned(I:Inv X pins σ H s)(k:∀b o,b≠it->s.heap.get? b=some o->h'.get? b=some o)(hn:H it=none)(hL:it≠X.env.locals)
  (h1:it∈X.ex\/X.s₀.heap.objs.size<=it) (h2:∀x c,X.env.cells.lookup x=some c->c≠it) (h3:∀p∈X.pn++pins,p.1≠it):Inv X pins σ H { s with heap:=h',toks:=t' }:=by
 have nit:∀b u,H b=some u->b≠it:=λb u e z=>by rw[z,hn]at e;cases e
 refine I.step (g':=s.gens) (d':=s.drawn) (ch:=[it]) (λb hb=>?_) (λb o _ _ hc e _=>k b o (λz=>hc (by simp[z])) e) (λb o _ _ hc e _=>⟨o.slots,k b o (λz=>hc (by simp[z])) e⟩) (λ_ _ _ _ n=>n)
  (λb o hc e=>⟨o,k b o (λz=>hc (by simp[z])) e⟩) (λ_ _ e=>e) (λ_ _ _ e=>e) (λb ps e=>⟨#[],by rw[e];simp⟩) (λm hm=>?_) (λb u e=>?_) I.bare
 ·have e:b=it:=by simpa using hb
  subst e;exact⟨h1,hL,h2,h3⟩
 ·obtain⟨o,es,ep,ho,r⟩:=hm;exact⟨o,es,ep,k _ o (cU hL) ho,r⟩
 ·refine(I.hok b u e).stay (λc v hc q=>k c v ?_ q) (λ_ q=>q) λ_ _ q=>q;rcases hc with z|z
  ·rw[z];exact nit b u e
  ·exact nit c _ z
theorem Inv.tok(I:Inv X pins σ H s)(t:Nat):Inv X pins σ H { s with toks:=t }:=I.un (h':=s.heap) (t':=t) Un.refl I.hok
theorem Inv.kept(I:Inv X pins σ H s)(k:∀b u,s.heap.get? b=some u->h'.get? b=some u):Inv X pins σ H { s with heap:=h',toks:=t' }:=I.un (Un.kept k) (I.hok.kept k)
theorem Inv.laid{o:HO}(I:Inv X pins σ H s)(k:∀b u,s.heap.get? b=some u->h'.get? b=some u)(hp:s.heap.objs.size<=a)(new:ObjOk X.prog X.w (upd H a o) h' a o):
  Inv X pins σ (upd H a o) { s with heap:=h',toks:=t' }:=I.un (Un.laid k hp (I.hok.fresh hp)) (I.hok.laid k hp new)
theorem Inv.write{x e:Addr}{o:HO}(I:Inv X pins σ H s)(mu:Mut (H x))(he:e=x\/H e=some (.own x))(k:∀b u,b≠e->s.heap.get? b=some u->h'.get? b=some u)(heo:∃u,h'.get? e=some u)
  (new:ObjOk X.prog X.w (upd H x o) h' x o):Inv X pins σ (upd H x o) { s with heap:=h',toks:=t' }:=I.un (Un.write mu he k heo) (I.hok.write mu he k heo new)
theorem Inv.weak{σ':List (Option V)}(I:Inv X pins σ H s)(hl:σ'.length=σ.length)(w:∀(i:Nat) v,σ'[i]?=some (some v)->σ[i]?=some (some v)):Inv X pins σ' H s:=
 ⟨I.ok,I.os,I.bare,I.base,let ⟨m,hn,hl'⟩:=I.loc;⟨m,hn,λi x v e1 e2 e3=>hl' i x v e1 (w i v e2) e3⟩,I.cell,I.free,I.freeC,I.pin,I.hok,hl.trans I.len⟩
theorem Inv.pins_of{pins':List (Addr×Obj)}(I:Inv X pins σ H s)(h:∀p∈pins',s.heap.get? p.1=some p.2/\H p.1=none/\p.1≠X.env.locals/\p.1∉X.fs/\∀v,p.2.data≠.cell v):Inv X pins' σ H s:=
 ⟨I.ok,I.os,I.bare,I.base,I.loc,I.cell,I.free,I.freeC,λp hp=>(bT.mp hp).elim (λz=>I.pin p (bJ _ z)) (h p),I.hok,I.len⟩
theorem DS(hN:N.Nodup){x:Str}(a:N[i]?=some x)(b:N[j]?=some x):i=j:=by obtain⟨h1,e1⟩:=bt.mp a;obtain⟨h2,e2⟩:=bt.mp b;exact(gq hN).mp (e1.trans e2.symm)
theorem HH{A:az}{x:Str}{v:V}{Q:Unit->ae->Prop}(I:Inv X pins σ H s)(hN:X.N.Nodup)(hi:X.N[i]?=some x)(hx:Loc X.env.scope x)(r:RelV v u)
  (h:∀s',Inv X pins (σ.set i (some v)) H s'->(∃a,dG a s.heap s'.heap/\(a=X.env.locals\/X.env.cells.lookup x=some a))->Q () s') (hf:X.fn x=true\/X.env.scope.names.lookup x=some .local:=by first|exact .inl rfl|exact .inr rfl|assumption):af M A (storeName X.env x u) Q E s:=by
 obtain⟨m,hn,hl⟩:=id I.loc;have hcls:(X.env.scope.kind==.class||(X.env.scope.kind==.module&&X.env.locals != X.env.globals))=false:=by rw[I.ok.kind];rfl
 have hiσ:i<σ.length:=by rw[I.len];exact(bt.mp hi).1
 have cne:=I.cne;have tracked:∀{a:Addr} {h':Heap},(∃o,s.heap.get? a=some o/\H a=none)->dG a s.heap h'->HOk X.prog X.w H h':=λ{a h'} ha hs b ob e=>by
  obtain⟨_,_,hfree⟩:=ha;refine(I.hok b ob e).stay (λc w' hc q=>(hs.2 c ?_).trans q) (λ_ q=>q) λ_ _ q=>q;rintro rfl;rcases hc with rfl|hc
  ·rw[hfree]at e;cases e
  ·rw[hfree]at hc;cases hc
 rcases hx with hk|hk
 ·refine wpAny_storeName_local hk hn (λh' hn' hs=>?_) hcls;obtain⟨oL,_,_,hoL,_⟩:=id hn;refine h _ ⟨I.ok,I.os,I.bare,⟨λb o e n hb hx=>?_,λb o e n hb hx=>?_,I.base.free,λb o e hx=>?_,I.base.tups,I.base.frzs,I.base.tbls⟩,⟨_,hn',λj y v' e1 e2 e3=>?_⟩,λy c e=>?_,I.free,I.freeC,λp hp=>?_,tracked ⟨oL,hoL,I.free⟩ hs,by simpa using I.len⟩ ⟨_,hs,.inl rfl⟩
  ·exact(hs.2 b (aO (bD (aF e) I.ok.above))).trans (I.base.keep b o e n hb hx)
  ·obtain⟨sl,e1⟩:=I.base.slot b o e n hb hx;exact⟨sl,(hs.2 b (aO (bD (aF e) I.ok.above))).trans e1⟩
  ·obtain⟨o',e1⟩:=I.base.there b o e hx;exact⟨o',(hs.2 b (aO (bD (aF e) I.ok.above))).trans e1⟩
  ·by_cases hj:j=i
   ·subst hj;rw[hi]at e1;cases e1;rw[fU hiσ]at e2;cases e2;exact⟨u,r,.inl ⟨hk,by simp⟩⟩
   ·rw[ig (cU hj)]at e2;obtain⟨u',r',q⟩:=hl j y v' e1 e2 e3;refine⟨u',r',?_⟩;rcases q with ⟨k,e⟩|⟨k,c,e,z⟩
    ·refine .inl ⟨k,?_⟩;have:y≠x:=λe=>hj (DS hN e1 (e▸hi));simp[this,e]
    ·exact .inr ⟨k,c,e,z.sameBut hs (cne y c e)⟩
  ·obtain⟨w',z⟩:=I.cell y c e;exact⟨w',z.sameBut hs (cne y c e)⟩
  ·obtain⟨e,n,ne,nf,d⟩:=I.pin p hp;exact⟨(hs.2 p.1 ne).trans e,n,ne,nf,d⟩
 ·have hfn:X.fn x=true:=by
   rcases hf with z|z
   ·exact z
   ·rw[z]at hk;cases hk
  obtain⟨c,hc⟩:=I.ok.has x (.inl hk);obtain⟨w',z⟩:=I.cell x c hc;refine wpAny_storeName_cell I.ok.kind hk hc z (λh' hc' hs=>?_);obtain⟨oc,hoc,hocd⟩:=id z;refine h { s with heap:=h' } ⟨I.ok,I.os,I.bare,⟨λb o e n hb hx=>?_,λb o e n hb hx=>?_,I.base.free,λb o e hx=>?_,I.base.tups,I.base.frzs,I.base.tbls⟩,⟨m,hn.sameBut hs (cU (cne x c hc)),λj y v' e1 e2 e3=>?_⟩,λy c' e=>?_,I.free,I.freeC,λp hp=>?_,tracked ⟨oc,hoc,I.freeC x c hc⟩ hs,by simpa using I.len⟩ ⟨c,hs,.inr hc⟩
  ·exact(hs.2 b (aO (bD (aF e) (I.ok.cab x c hfn hc)))).trans (I.base.keep b o e n hb hx)
  ·obtain⟨sl,e1⟩:=I.base.slot b o e n hb hx;exact⟨sl,(hs.2 b (aO (bD (aF e) (I.ok.cab x c hfn hc)))).trans e1⟩
  ·obtain⟨o',e1⟩:=I.base.there b o e hx;exact⟨o',(hs.2 b (aO (bD (aF e) (I.ok.cab x c hfn hc)))).trans e1⟩
  ·by_cases hj:j=i
   ·subst hj;rw[hi]at e1;cases e1;rw[fU hiσ]at e2;cases e2;exact⟨u,r,.inr ⟨.inl hk,c,hc,hc'⟩⟩
   ·rw[ig (cU hj)]at e2;obtain⟨u',r',q⟩:=hl j y v' e1 e2 e3;refine⟨u',r',?_⟩;rcases q with q|⟨k,c',e,z'⟩
    ·exact .inl q
    ·refine .inr ⟨k,c',e,z'.sameBut hs ?_⟩;rintro rfl;exact hj (DS hN e1 (I.ok.inj _ _ _ e hc▸hi))
  ·by_cases hcc:c'=c
   ·subst hcc;exact⟨_,hc'⟩
   ·obtain⟨w2,z2⟩:=I.cell y c' e;exact⟨w2,z2.sameBut hs hcc⟩
  ·obtain⟨e,n,ne,nf,d⟩:=I.pin p hp;refine⟨(hs.2 p.1 ?_).trans e,n,ne,nf,d⟩;intro q;rw[q,hoc]at e;have q':oc=p.2:=bE e;exact d w' (by rw[<-q'];exact hocd)
theorem DT{A:az}{x:Str}{v:V}{Q:Unit->ae->Prop}(I:Inv X pins σ H s)(hN:X.N.Nodup)(hi:X.N[i]?=some x)(hx:Loc X.env.scope x)(r:RelV v u)
  (h:∀s',Inv X pins (σ.set i (some v)) H s'->Q () s') (hf:X.fn x=true\/X.env.scope.names.lookup x=some .local:=by first|exact .inl rfl|exact .inr rfl|assumption):af M A (storeName X.env x u) Q E s:=
 HH I hN hi hx r (λs' I' _=>h s' I') hf
theorem Inv.call'(I:Inv X pins σ H s)(ho:s'.os=s.os)(u:Un (frs X.stack) ch H H' s.heap s'.heap)(hok:HOk X.prog X.w H' s'.heap)(hg:cS s'.gens)
  (hch:∀b∈ch,(b∈X.ex\/X.s₀.heap.objs.size<=b)/\b≠X.env.locals/\(∀x c,X.env.cells.lookup x=some c->c≠b)/\∀p∈X.pn++pins,p.1≠b):Inv X pins σ H' s':=by
 obtain⟨h',g',d',t',o'⟩:=s';have e:o'=s.os:=ho;subst e;exact I.call (g':=g') (t':=t') (d':=d') u hok hg hch
end
abbrev XK:=aa->Option Addr->Hp->Prop
abbrev St:=List (Option V)
abbrev VK:=V->Hp->Prop
abbrev TE:=St->Hp->VK->Prop
abbrev TT:=St->Hp->(Bool->Hp->Prop)->Prop
abbrev TA:=St->Hp->(List V->Hp->Prop)->Prop
structure Ends where
 nx:St->Hp->Prop
 rt:VK
 bk:St->Hp->Prop:=λ_ _=>False
 ct:St->Hp->Prop:=λ_ _=>False
abbrev TS:=Ends->St->Hp->Prop
def EP(X:Cx)(pins:List (Addr×Obj))(σ:St)(Q:VK)(u:aa)(s':ae):Prop:=∃v H',Inv X pins σ H' s'/\RelV v u/\Q v H'
def TP(X:Cx)(pins:List (Addr×Obj))(σ:St)(Q:Bool->Hp->Prop)(b:Bool)(s':ae):Prop:=∃H',Inv X pins σ H' s'/\Q b H'
def AP(X:Cx)(pins:List (Addr×Obj))(σ:St)(Q:List V->Hp->Prop)(us:List aa)(s':ae):Prop:=∃vs H',Inv X pins σ H' s'/\Vals vs us/\Q vs H'
def SP(X:Cx)(pins:List (Addr×Obj))(D:Ends)(f:Flow)(s':ae):Prop:=
 match f with
 |.next=>∃σ' H',Inv X pins σ' H' s'/\D.nx σ' H'
 |.brk=>∃σ' H',Inv X pins σ' H' s'/\D.bk σ' H'
 |.cont=>∃σ' H',Inv X pins σ' H' s'/\D.ct σ' H'
 |.ret u=>∃v σ' H',Inv X pins σ' H' s'/\RelV v u/\D.rt v H'
def PE(X:Cx)(e:Expr)(t:TE):Prop:=
 ∀(pins:List (Addr×Obj)) (s:ae) (σ:St) (H:Hp) (Q:VK),Inv X pins σ H s->t σ H Q->af (model X.prog X.w) X.A (eval e X.env) (EP X pins σ Q) X.xe s
def PT(X:Cx)(e:Expr)(t:TT):Prop:=
 ∀(pins:List (Addr×Obj)) (s:ae) (σ:St) (H:Hp) (Q:Bool->Hp->Prop),Inv X pins σ H s->t σ H Q->af (model X.prog X.w) X.A (isTrue e X.env (eval e X.env)) (TP X pins σ Q) X.xe s
def PW(X:Cx)(e:Expr)(t:TT):Prop:=
 ∀(whole:Sem aa) (pins:List (Addr×Obj)) (s:ae) (σ:St) (H:Hp) (Q:Bool->Hp->Prop),Inv X pins σ H s->t σ H Q->af (model X.prog X.w) X.A (isTrue e X.env whole) (TP X pins σ Q) X.xe s
variable{X:Cx}{e:Expr}
theorem PW.pt{t:TT}(h:PW X e t):PT X e t:=h _
def PA(X:Cx)(es:List Expr)(t:TA):Prop:=
 ∀(pos:Pos) (pins:List (Addr×Obj)) (s:ae) (σ:St) (H:Hp) (Q:List V->Hp->Prop),Inv X pins σ H s->t σ H Q->af (model X.prog X.w) X.A (spliced (aV pos (ar es X.env))) (AP X pins σ Q) X.xe s
def PS(X:Cx)(st:Stmt)(t:TS):Prop:=
 ∀(pins:List (Addr×Obj)) (s:ae) (σ:St) (H:Hp) (D:Ends),Inv X pins σ H s->t D σ H->af (model X.prog X.w) X.A (exec st X.env) (SP X pins D) X.xe s
def PSs(X:Cx)(st:List Stmt)(t:TS):Prop:=
 ∀(pins:List (Addr×Obj)) (s:ae) (σ:St) (H:Hp) (D:Ends),Inv X pins σ H s->t D σ H->af (model X.prog X.w) X.A (execs st X.env) (SP X pins D) X.xe s
theorem thn{α:Type}{t:Sem α}{Q Q':α->ae->Prop}{A:az}{s:ae}(h:af M A t Q E s)(hQ:∀a s,Q a s->Q' a s):af M A t Q' E s:=bx h hQ λ_ _ x=>x
variable{pins:List (Addr×Obj)}{σ:St}{R:V->V->Hp->Prop}{pos:Pos}{Q:aa->ae->Prop}{op:dN}{t:TE}{c:Expr}
section
variable{X:Cx}
theorem bin{a b:Expr}{ta tb:TE}(ha:PE X a ta)(hb:PE X b tb){s:ae}{H:Hp}(I:Inv X pins σ H s)(h:ta σ H λx H1=>tb σ H1 λy H2=>R x y H2)
  {α:Type} {Q:α->ae->Prop} {f:aa->aa->Sem α}
  (hf:∀v u s2 x y H2,Inv X pins σ H2 s2->RelV x v->RelV y u->R x y H2->af (model X.prog X.w) X.A (f v u) Q X.xe s2):
  af (model X.prog X.w) X.A (eval a X.env) (λv s₁=>af (model X.prog X.w) X.A (eval b X.env) (λu s₂=>af (model X.prog X.w) X.A (f v u) Q X.xe s₂) X.xe s₁) X.xe s:=by
 refine thn (ha pins s σ H _ I h) λv s1 zz=>?_;obtain⟨x,H1,I1,r1,q1⟩:=zz;refine thn (hb pins s1 σ H1 _ I1 q1) λu s2 zz=>?_;obtain⟨y,H2,I2,r2,q2⟩:=zz;exact hf v u s2 x y H2 I2 r1 r2 q2
def ua(i:Nat):TE:=λσ H Q=>∃v,σ[i]?=some (some v)/\Q v H
def tC(v:V):TE:=λ_ H Q=>Q v H
theorem O7{x:Str}(hN:X.N[i]?=some x)(hv:Vis X.env.scope x)(hd:(x==("__debug__" : Str))=false:=by decide)(hcd:(x==("__classdict__" : Str))=false:=by decide):PE X (.Name x pos) (ua i):=by
 intro pins s σ H Q I h;obtain⟨v,e,h⟩:=h;obtain⟨m,hn,hl⟩:=I.loc;obtain⟨u,r,l⟩:=hl i x v hN e hv;have fin:EP X pins σ Q u s:=⟨v,H,I,r,h⟩;rcases l with ⟨hk,hm⟩|⟨hk,c,hc,hcell⟩
 ·exact ja (wpAny_loadName_local I.ok.kind hk hn hm fin) hd
 ·rcases hk with hk|hk
  ·exact ja (wpAny_loadName_cell I.ok.kind hk hc hcell fin) hd
  ·exact ja (wpAny_loadName_free I.ok.kind hk hc hcell fin hcd) hd
theorem E9{i j pos}:PE X (.Constant (.int i) j pos) (tC (.int i)):=λ_ _ _ H _ I h=>wpAny_Constant_int ⟨.int i,H,I.tok _,⟨_,rfl⟩,h⟩
theorem S4{b j pos}:PE X (.Constant (.bool b) j pos) (tC (.bl b)):=λ_ _ _ H _ I h=>Constant_bool ⟨.bl b,H,I,rfl,h⟩
theorem O8{j pos}:PE X (.Constant .none j pos) (tC .non):=λ_ _ _ H _ I h=>Constant_none ⟨.non,H,I,rfl,h⟩
theorem Jp{x j pos}:PE X (.Constant (.str x) j pos) (tC (.str x)):=λ_ _ _ H _ I h=>Calls.Constant_str ⟨.str x,H,I.tok _,⟨_,rfl⟩,h⟩
def Gl(X:Cx)(x:Str):Prop:=X.env.kindOf x=some .globalImplicit
theorem zW{s:ae}{H:Hp}{x:Str}(I:Inv X pins σ H s)(hg:Gl X x)(hm:X.mg x=some u)(h:Q u s)
  (hd:(x==("__debug__" : Str))=false:=by decide):af (model X.prog X.w) X.A (eval (.Name x pos) X.env) Q E s:=
 jr I.ok.kind hg (Calls.loadGlobal_global (by rw[I.ok.glob];exact I.mod.glob.keeps I.bk) hm h) hd
theorem vY{s:ae}{H:Hp}{x:Str}(I:Inv X pins σ H s)(hg:Gl X x)(hm:X.mg x=none)(hv:cB x=some u)(h:Q u s)
  (hn:x≠"__name__" := by decide) (hd:(x==("__debug__" : Str))=false:=by decide):af (model X.prog X.w) X.A (eval (.Name x pos) X.env) Q E s:=by
 obtain⟨mb,h1,h2⟩:=I.mod.blt;exact jr I.ok.kind hg (Calls.loadGlobal_builtin (by rw[I.ok.glob];exact I.mod.glob.keeps I.bk) hm (by rw[I.ok.blt];exact h1.keeps I.bk) ((h2 x hn).trans hv) h) hd
theorem Gj{x:Str}{v:V}(hg:Gl X x)(hm:X.mg x=some u)(r:RelV v u)(hd:(x==("__debug__" : Str))=false:=by decide):PE X (.Name x pos) (tC v):=
 λ_ _ _ H _ I h=>zW I hg hm ⟨v,H,I,r,h⟩ hd
theorem Mh{x:Str}{v:V}(hg:Gl X x)(hm:X.mg x=none)(hv:cB x=some u)(r:RelV v u)(hn:x≠"__name__" := by decide)(hd:(x==("__debug__" : Str))=false:=by decide):PE X (.Name x pos) (tC v):=
 λ_ _ _ H _ I h=>vY I hg hm hv ⟨v,H,I,r,h⟩ hn hd
variable{a b:Expr}{ta tb:TE}{pos:Pos}
def PC(X:Cx)(op:dN)(a b:Expr)(t:TE):Prop:=
 ∀(pins:List (Addr×Obj)) (s:ae) (σ:St) (H:Hp) (Q:VK),Inv X pins σ H s->t σ H Q->
  af (model X.prog X.w) X.A (eval a X.env) (λv s₁=>af (model X.prog X.w) X.A (eval b X.env) (λu s₂=>af (model X.prog X.w) X.A (aM op v u) (EP X pins σ Q) X.xe s₂) X.xe s₁) X.xe s
def tB(t:TE):TT:=λσ H Q=>t σ H λx H1=>∃c,x=.bl c/\Q c H1
theorem UO(h:PC X op a b t)(h1:dE op b=false:=by first|exact nobehind _ (by decide) (by decide)|rfl):PT X (.Compare a [op] [b] pos) (tB t):=by intro pins s σ H Q I hw;refine jI (thn (h pins s σ H _ I hw) λv s1 h1=>thn h1 λu s2 h2=>thn h2 λc s3 zz=>?_) h1;obtain⟨x,H1,I1,r1,q1⟩:=zz;obtain⟨d,rfl,q⟩:=q1;cases r1;exact cq ⟨H1,I1,q⟩
theorem O9(h:PE X e t)(he:∀whole,isTrue e X.env whole=(do let v<-whole;standAt e.pos;holding [v] (truthy v)):=by intro _;rfl):PT X e (tB t):=by intro pins s σ H Q I hw;refine isTrue_plain (thn (h pins s σ H _ I hw) λv s1 zz=>?_) (he _);obtain⟨x,H1,I1,r1,q1⟩:=zz;obtain⟨d,rfl,q⟩:=q1;cases r1;exact cq ⟨H1,I1,q⟩
variable{tA tB':TT}{rest:List Expr}
def S5(t u:TT):TT:=λσ H Q=>t σ H λc H1=>if c=true then u σ H1 Q else Q false H1
def tOr(t u:TT):TT:=λσ H Q=>t σ H λc H1=>if c=true then Q true H1 else u σ H1 Q
def UP(t:TT):TT:=λσ H Q=>t σ H λc H1=>Q (!c) H1
theorem Mi(ha:PT X a tA):PW X (.BoolOp .And [a] pos) tA:=by
 intro wh pins s σ H Q I h;refine isTrue_and (thn (ha pins s σ H Q I h) λc s1 e=>?_);cases c with
 |true=>exact isTrue_and_nil e
 |false=>exact e
theorem Pa(ha:PT X a tA):PW X (.BoolOp .Or [a] pos) tA:=by
 intro wh pins s σ H Q I h;refine isTrue_or (thn (ha pins s σ H Q I h) λc s1 e=>?_);cases c with
 |false=>exact isTrue_or_nil e
 |true=>exact e
theorem Pb(ha:PT X a tA)(hb:PW X (.BoolOp .And (b::rest) pos) tB'):PW X (.BoolOp .And (a::b::rest) pos) (S5 tA tB'):=by
 intro wh pins s σ H Q I h;refine isTrue_and (thn (ha pins s σ H _ I h) λc s1 zz=>?_);obtain⟨H1,I1,q1⟩:=zz;cases c with
 |true=>exact hb wh pins s1 σ H1 Q I1 q1
 |false=>exact⟨H1,I1,q1⟩
theorem S6(ha:PT X a tA)(hb:PW X (.BoolOp .Or (b::rest) pos) tB'):PW X (.BoolOp .Or (a::b::rest) pos) (tOr tA tB'):=by
 intro wh pins s σ H Q I h;refine isTrue_or (thn (ha pins s σ H _ I h) λc s1 zz=>?_);obtain⟨H1,I1,q1⟩:=zz;cases c with
 |true=>exact⟨H1,I1,q1⟩
 |false=>exact hb wh pins s1 σ H1 Q I1 q1
theorem Pc(ha:PT X a tA):PT X (.UnaryOp .Not a pos) (UP tA):=by intro pins s σ H Q I h;exact isTrue_not (ha pins s σ H (λc H1=>Q (!c) H1) I h)
def S7(ta tb:TE):TE:=λσ H Q=>ta σ H λx H1=>∃c,x=.bl c/\if c=true then tb σ H1 Q else Q (.bl false) H1
def S8(ta:TE):TE:=λσ H Q=>ta σ H λx H1=>∃c,x=.bl c/\Q (.bl (!c)) H1
theorem Pd{op}(h:PE X a t):PE X (.BoolOp op [a] pos) t:=λpins s σ H Q I hw=>BoolOp_one (h pins s σ H Q I hw)
theorem Pe(ha:PE X a ta)(hb:PE X (.BoolOp .And (b::rest) pos) tb):PE X (.BoolOp .And (a::b::rest) pos) (S7 ta tb):=by
 intro pins s σ H Q I h;refine BoolOp_and (thn (ha pins s σ H _ I h) λv s1 zz=>?_);obtain⟨x,H1,I1,r1,q1⟩:=zz;obtain⟨c,rfl,q1⟩:=q1;cases r1;refine cq ?_;cases c with
 |true=>exact hb pins s1 σ H1 Q I1 q1
 |false=>exact⟨.bl false,H1,I1,rfl,q1⟩
theorem Pf(ha:PE X a ta):PE X (.UnaryOp .Not a pos) (S8 ta):=by intro pins s σ H Q I h;refine UnaryOp_ (thn (ha pins s σ H _ I h) λv s1 zz=>?_);obtain⟨x,H1,I1,r1,q1⟩:=zz;obtain⟨c,rfl,q1⟩:=q1;cases r1;exact not_of (cq ⟨.bl (!c),H1,I1,rfl,q1⟩)
def tIf(t:TT)(ta tb:TE):TE:=λσ H Q=>t σ H λc H1=>if c=true then ta σ H1 Q else tb σ H1 Q
theorem Jq(hc:PT X c tA)(ha:PE X a ta)(hb:PE X b tb):PE X (.IfExp c a b pos) (tIf tA ta tb):=by
 intro pins s σ H Q I h;refine wpAny_IfExp (thn (hc pins s σ H _ I h) λd s1 zz=>?_);obtain⟨H1,I1,q1⟩:=zz;cases d with
 |true=>exact ha pins s1 σ H1 Q I1 q1
 |false=>exact hb pins s1 σ H1 Q I1 q1
end
def SqL(K:ak)(H:Hp)(a:Addr)(xs:List V):Prop:=
 Rd H a (.lst xs)\/
  ∃(o:Obj) (its:Array aa) (n:Nat),K.lookup a=some o/\o.cls=.type "list" /\ o.dict=none/\o.data=.seq its n/\its.size<=aE/\Vals xs its.toList
def SqT(K:ak)(H:Hp)(a:Addr)(xs:List V):Prop:=
 Rd H a (.tup xs)\/
  ∃(o:Obj) (its:Array aa) (n:Nat),K.lookup a=some o/\o.cls=.type "tuple" /\ o.data=.seq its n/\its.size<=aE/\Vals xs its.toList
def UQ:aa->Option V
 |.none=>some .non
 |.bool b=>some (.bl b)
 |.int i _=>some (.int i)
 |.str x _=>some (.str x)
 |.bytes b _=>some (.byt b)
 |.float b _=>some (.flt b)
 |.ref a=>some (.ref a)
 |.type n=>some (.ty n)
 |_=>none
theorem RelV.abs{x:V}(r:RelV x u):UQ u=some x:=by
 cases x with
 |non=>cases r;rfl
 |bl _=>cases r;rfl
 |int _=>obtain⟨t,rfl⟩:=r;rfl
 |str _=>obtain⟨t,rfl⟩:=r;rfl
 |byt _=>obtain⟨t,rfl⟩:=r;rfl
 |flt _=>obtain⟨t,rfl⟩:=r;rfl
 |ref _=>cases r;rfl
 |ty _=>cases r;rfl
variable{y:V}
theorem RelV.inj{x:V}(r:RelV x u)(q:RelV y u):x=y:=bE (r.abs.symm.trans q.abs)
theorem Vals.inj:∀{xs ys:List V} {us:List aa},Vals xs us->Vals ys us->xs=ys
 |_,_,_,.nil,.nil=>rfl
 |_,_,_,.cons r t,.cons r' t'=>by rw[r.inj r',Vals.inj t t']
section
variable{X:Cx}{pins:List (Addr×Obj)}{σ:St}{H:Hp}{s:ae}{a:Addr}{xs ys:List V}
theorem SqL.of{K:ak}(h:H a=some (.lst xs)):SqL K H a xs:=.inl (.inl h)
theorem SqT.of{K:ak}(h:H a=some (.tup xs)):SqT K H a xs:=.inl (.inl h)
theorem Inv.list(I:Inv X pins σ H s)(h:SqL X.K H a xs):∃its:List aa,Vals xs its/\PlainL s.heap a its.toArray/\xs.length<=aE:=by
 rcases h with h|⟨o,its,n,hk,hc,hd,hs,hz,r⟩
 ·obtain⟨z,its,n,r,e⟩:=h.ok I.hok;exact⟨its,r,⟨_,n,e,rfl,rfl,rfl⟩,z⟩
 ·refine⟨its.toList,r,⟨o,n,I.kIn a o hk,hc,hd,by simpa using hs⟩,?_⟩;have e:=r.length;simp only[fY]at e;omega
theorem Inv.tuple(I:Inv X pins σ H s)(h:SqT X.K H a xs):∃its:List aa,Vals xs its/\cI s.heap a its.toArray/\xs.length<=aE:=by
 rcases h with h|⟨o,its,n,hk,hc,hs,hz,r⟩
 ·obtain⟨z,its,r,p⟩:=h.ok I.hok;exact⟨its,r,p,z⟩
 ·refine⟨its.toList,r,⟨o,I.kIn a o hk,hc,n,by simpa using hs⟩,?_⟩;have e:=r.length;simp only[fY]at e;omega
theorem Inv.list_inj(I:Inv X pins σ H s)(h:SqL X.K H a xs)(h':SqL X.K H a ys):xs=ys:=by
 obtain⟨its,r,⟨o,n,e,_,_,d⟩,_⟩:=I.list h;obtain⟨its',r',⟨o',n',e',_,_,d'⟩,_⟩:=I.list h';rw[e]at e';cases e';rw[d]at d';injection d' with d1 _;have:its=its':=by simpa using aL lU d1
 subst this;exact r.inj r'
theorem Inv.tuple_inj(I:Inv X pins σ H s)(h:SqT X.K H a xs)(h':SqT X.K H a ys):xs=ys:=by
 obtain⟨its,r,⟨o,e,_,n,d⟩,_⟩:=I.tuple h;obtain⟨its',r',⟨o',e',_,n',d'⟩,_⟩:=I.tuple h';rw[e]at e';cases e';rw[d]at d';injection d' with d1 _;have:its=its':=by simpa using aL lU d1
 subst this;exact r.inj r'
end
abbrev Cx.wish(X:Cx)(E:aa->ae->Prop):Cx:={ X with xe:=E }
abbrev Cx.nox(X:Cx):Cx:=X.wish λ_ _=>False
theorem Cx.Ok.wish(ok:X.Ok)(E:aa->ae->Prop):(X.wish E).Ok:=
 ⟨ok.mod,ok.kind,ok.glob,ok.blt,ok.above,ok.inj,ok.has,ok.cab,ok.hd,ok.frames,ok.stk,ok.exf,ok.bs,ok.bsz,ok.noex,ok.exfs,ok.funs,ok.frf⟩
theorem Cx.Ok.unwish(ok:(X.wish E).Ok):X.Ok:=
 ⟨ok.mod,ok.kind,ok.glob,ok.blt,ok.above,ok.inj,ok.has,ok.cab,ok.hd,ok.frames,ok.stk,ok.exf,ok.bs,ok.bsz,ok.noex,ok.exfs,ok.funs,ok.frf⟩
section
variable{X:Cx}{pins:List (Addr×Obj)}{σ:St}{H:Hp}{s:ae}{E:aa->ae->Prop}
theorem Inv.wish(I:Inv X pins σ H s)(E:aa->ae->Prop):Inv (X.wish E) pins σ H s:=⟨I.ok.wish E,I.os,I.bare,I.base,I.loc,I.cell,I.free,I.freeC,I.pin,I.hok,I.len⟩
theorem Inv.unwish(I:Inv (X.wish E) pins σ H s):Inv X pins σ H s:=⟨I.ok.unwish,I.os,I.bare,I.base,I.loc,I.cell,I.free,I.freeC,I.pin,I.hok,I.len⟩
theorem SP.unwish{D:Ends}{f:Flow}(h:SP (X.wish E) pins D f s'):SP X pins D f s':=by
 cases f with
 |next=>obtain⟨σ',H',I,q⟩:=h;exact⟨σ',H',I.unwish,q⟩
 |brk=>obtain⟨σ',H',I,q⟩:=h;exact⟨σ',H',I.unwish,q⟩
 |cont=>obtain⟨σ',H',I,q⟩:=h;exact⟨σ',H',I.unwish,q⟩
 |ret u=>obtain⟨v,σ',H',I,r,q⟩:=h;exact⟨v,σ',H',I.unwish,r,q⟩
theorem PSs.nox{st:List Stmt}{t:TS}(h:PSs X.nox st t):PSs X st t:=λpins s σ H D I hw=>
 bx (h pins s σ H D (I.wish _) hw) (λ_ _ q=>q.unwish) λ_ _ z=>bW z
end
variable{tc:TT}
section
variable{X:Cx}{st:Stmt}{rest:List Stmt}{t u:TS}{e:Expr}{te:TE}{pos:Pos}
def S9:TS:=λD σ H=>D.nx σ H
def UR(t u:TS):TS:=λD σ H=>t { D with nx:=u D } σ H
theorem Mj:PSs X [] S9:=λ_ _ σ H _ I h=>gz ⟨σ,H,I,h⟩
theorem xW(h1:PS X st t)(h2:PSs X rest u):PSs X (st::rest) (UR t u):=by
 intro pins s σ H D I h;refine ku (thn (h1 pins s σ H { D with nx:=u D } I h) λf s1 q=>?_);cases f with
 |next=>obtain⟨σ',H',I',q⟩:=q;exact h2 pins s1 σ' H' D I' q
 |ret v=>exact q
 |brk=>exact q
 |cont=>exact q
theorem zX(h1:PS X st t):PSs X [st] t:=by
 intro pins s σ H D I h;refine ku (thn (h1 pins s σ H D I h) λf s1 q=>?_);cases f with
 |next=>exact gz q
 |ret v=>exact q
 |brk=>exact q
 |cont=>exact q
theorem Inv.quiet{H:Hp}{s:ae}(I:Inv X pins σ H s):interactive X.env=false:=by simp[interactive,I.ok.kind]
def OJ(te:TE):TS:=λD σ H=>te σ H λ_ H1=>D.nx σ H1
theorem Gk(he:PE X e te)(hs:cn e none pos.line X.env=pure false:=by rfl):PS X (.Expr e pos) (OJ te):=by intro pins s σ H D I h;exact wpAny_Expr_any (thn (he pins s σ H _ I h) λv s1 ⟨x,H1,I1,r1,q1⟩=>⟨σ,H1,I1,q1⟩) I.quiet hs
def Ta(te:TE):TS:=λD σ H=>te σ H D.rt
theorem CV(he:PE X e te):PS X (.Return (some e) pos) (Ta te):=by intro pins s σ H D I h;exact wpAny_Return_some (thn (he pins s σ H _ I h) λv s1 ⟨x,H1,I1,r1,q1⟩=>⟨x,σ,H1,I1,r1,q1⟩)
def US(c:TT)(t u:TS):TS:=λD σ H=>c σ H λb H1=>if b=true then t D σ H1 else u D σ H1
theorem Tb{a b:List Stmt}(hc:PT X c tc)(ha:PSs X a t)(hb:PSs X b u):PS X (.If c a b pos) (US tc t u):=by
 intro pins s σ H D I h;refine wpAny_If (thn (hc pins s σ H _ I h) λd s1 zz=>?_);obtain⟨H1,I1,q1⟩:=zz;cases d with
 |true=>exact ha pins s1 σ H1 D I1 q1
 |false=>exact hb pins s1 σ H1 D I1 q1
end
abbrev TG:=V->St->Hp->(St->Hp->Prop)->Prop
abbrev TGs:=List V->St->Hp->(St->Hp->Prop)->Prop
def PG(X:Cx)(target:Expr)(t:TG):Prop:=
 ∀(pins:List (Addr×Obj)) (s:ae) (σ:St) (H:Hp) (v:V) (u:aa) (Q:St->Hp->Prop),Inv X pins σ H s->RelV v u->t v σ H Q->
  af (model X.prog X.w) X.A (assign target X.env u) (λ_ s'=>∃σ' H',Inv X pins σ' H' s'/\Q σ' H') X.xe s
def PGs(X:Cx)(ts:List Expr)(t:TGs):Prop:=
 ∀(pins:List (Addr×Obj)) (s:ae) (σ:St) (H:Hp) (vs:List V) (us:List aa) (Q:St->Hp->Prop),Inv X pins σ H s->Vals vs us->t vs σ H Q->
  af (model X.prog X.w) X.A (assignInOrder ((bz ts X.env).map (·.2)) us) (λ_ s'=>∃σ' H',Inv X pins σ' H' s'/\Q σ' H') X.xe s
variable{es:List Expr}{tg:Expr}{te:TE}
section
variable{X:Cx}{pos:Pos}
def sZ(i:Nat):TG:=λv σ H Q=>Q (σ.set i (some v)) H
theorem Gm{x:Str}(hN:X.N.Nodup)(hi:X.N[i]?=some x)(hx:Loc X.env.scope x)(hf:X.fn x=true\/X.env.scope.names.lookup x=some .local:=by first|exact .inl rfl|exact .inr rfl|assumption):PG X (.Name x pos) (sZ i):=by intro pins s σ H v u Q I r h;exact wpAny_assign_Name (DT I hN hi hx r (λs' I'=>⟨_,H,I',h⟩) hf)
def Pg:TGs:=λvs σ H Q=>vs=[]/\Q σ H
def Gp(t:TG)(u:TGs):TGs:=λvs σ H Q=>∃v r,vs=v::r/\t v σ H λσ' H'=>u r σ' H' Q
theorem Gq:PGs X [] Pg:=by intro pins s σ H vs us Q I r h;obtain⟨e,h⟩:=h;subst e;cases r;exact assignInOrder_nil ⟨σ,H,I,h⟩
theorem Aj{t:TG}{u:TGs}(h1:PG X e t)(h2:PGs X es u)
  (hs:(bz (e::es) X.env).map (·.2)=assign e X.env::(bz es X.env).map (·.2):=by rfl):PGs X (e::es) (Gp t u):=by
 intro pins s σ H vs us Q I r h;obtain⟨v,vr,e1,h⟩:=h;subst e1;cases r with
 |cons r rr=>rw[hs];refine assignInOrder_cons (thn (h1 pins s σ H _ _ _ I r h) λ_ s1 zz=>?_);obtain⟨σ1,H1,I1,q1⟩:=zz;exact h2 pins s1 σ1 H1 _ _ Q I1 rr q1
def Ml(K:ak)(n:Nat)(t:TGs):TG:=λv σ H Q=>∃a xs,v=.ref a/\SqT K H a xs/\xs.length=n/\t xs σ H Q
theorem Ph{k:Nat}{t:TGs}{n:Nat}(hc:X.calm=true)(h:PGs X es t)
  (hn:(bz es X.env).length=n:=by rfl) (hst:(bz es X.env).findIdx? (·.1)=none:=by rfl):PG X (.Tuple es k pos) (Ml X.K n t):=by
 intro pins s σ H v u Q I r hw;obtain⟨a,xs,e1,hq,hl,hw⟩:=hw;subst e1;cases r;obtain⟨its,rv,ht,hz⟩:=I.tuple hq;refine assign_Tuple_tuple (I.ok.hd hc) ht (by simp[hn,<- hl,rv.length]) hst λh' hx=>?_;have I1:Inv X pins σ H { s with heap:=h' }:=I.kept (t':=s.toks) λb o e=>hx b o (aO (aF e)) e;exact h pins _ σ H xs _ Q I1 (by simpa using rv) hw
def xX(te:TE)(g:TG):TS:=λD σ H=>te σ H λx H1=>g x σ H1 D.nx
theorem Pi{g:TG}(he:PE X e te)(hg:PG X tg g)(hs:swapsWithSole [tg] e pos.line X.env=pure false:=by rfl)(hw:swappedStores [tg] e X.env=pure none:=by rfl)
  (h1:(bz [tg] X.env).map (·.2)=[assign tg X.env]:=by rfl):PS X (.Assign [tg] e pos) (xX te g):=by
 intro pins s σ H D I h;refine wpAny_Assign_stores (thn (he pins s σ H _ I h) λv s1 zz=>?_) hs hw;obtain⟨x,H1,I1,r1,q1⟩:=zz;rw[h1];exact thn (hg pins s1 σ H1 x v _ I1 r1 q1) λ_ s2 q=>q
theorem Pj{x:Str}{pos':Pos}(hN:X.N.Nodup)(hi:X.N[i]?=some x)(hx:Loc X.env.scope x)(he:PE X e te)(hs:cn e (some (.Name x pos')) pos.line X.env=pure false:=by rfl)(hf:X.fn x=true\/X.env.scope.names.lookup x=some .local:=by first|exact .inl rfl|exact .inr rfl|assumption):
  PS X (.Assign [.Name x pos'] e pos) (xX te (sZ i)):=by
 intro pins s σ H D I h;refine wpAny_Assign_Name (thn (he pins s σ H _ I h) λv s1 zz=>?_) hs;obtain⟨y,H1,I1,r1,q1⟩:=zz;exact DT I1 hN hi hx r1 (λs2 I2=>⟨_,H1,I2,q1⟩) hf
end
variable{body:List Stmt}{tb:TS}
section
variable{X:Cx}{pos:Pos}
def Jr(c:TT)(tb:TS):TS:=λD σ H=>∃W:Nat->St->Hp->Prop,(∃m,W m σ H)/\∀m σ H,W m σ H->
 c σ H λb H1=>if b=true then ∃N:St->Hp->Prop,(∀σ' H',N σ' H'->∃m',m'<m/\W m' σ' H')/\tb { D with nx:=N,ct:=N,bk:=D.nx } σ H1 else D.nx σ H1
theorem Js(hp:hE (model X.prog X.w) X.A X.env X.xe)(hc:PT X c tc)(hb:PSs X body tb):PS X (.While c body [] pos) (Jr tc tb):=by
 intro pins s σ H D I h;obtain⟨W,⟨m0,w0⟩,turn⟩:=h;refine wpAny_While (codeAny_whileLoop (λn s'=>∃σ' H',Inv X pins σ' H' s'/\W n σ' H') ?_ m0 ⟨σ,H,I,w0⟩);rintro n s1 ⟨σ1,H1,I1,w1⟩;refine dA hp (thn (hc pins s1 σ1 H1 _ I1 (turn n σ1 H1 w1)) λb s2 zz=>?_);obtain⟨H2,I2,q2⟩:=zz;cases b with
 |true=>
  obtain⟨N,hN,q2⟩:=q2;rw[aj rfl];refine dA hp (thn (hb pins s2 σ1 H2 _ I2 q2) λf s3 q3=>?_);cases f with
  |next=>obtain⟨σ3,H3,I3,n3⟩:=q3;obtain⟨m',hm,w3⟩:=hN σ3 H3 n3;exact⟨m',hm,σ3,H3,I3,w3⟩
  |cont=>obtain⟨σ3,H3,I3,n3⟩:=q3;obtain⟨m',hm,w3⟩:=hN σ3 H3 n3;exact⟨m',hm,σ3,H3,I3,w3⟩
  |brk=>exact q3
  |ret v=>exact q3
 |false=>rw[ai aP];exact gz ⟨σ1,H2,I2,q2⟩
end
structure It where
 go:Nat->Hp->Prop
 yld:Nat->Hp->V->Hp->Prop
 stop:Nat->Hp->Prop
def BE(X:Cx)(pins:List (Addr×Obj))(H:Hp)(b:Addr):Prop:=
 H b=none/\b≠X.env.locals/\b∉X.fs/\(b∈X.ex\/X.s₀.heap.objs.size<=b)/\(∀x c,X.env.cells.lookup x=some c->c≠b)/\∀p∈X.pn++pins,p.1≠b
theorem Inv.fpOk{H H':Hp}{s:ae}(I:Inv X pins σ H s)(hb:s.heap.objs.size<=b)(hn:H' b=none):BE X pins H' b:=by
 refine⟨hn,fE (bD I.lt hb),I.nofs hb,.inr (bM I.sz hb),λx c e z=>?_,λp hp z=>?_⟩
 ·obtain⟨v,q⟩:=I.cell x c e;exact ao (bD q.lt (by rw[z];exact hb)) (cg _)
 ·exact ao (bD (aF (I.pin p hp).1) (by rw[z];exact hb)) (cg _)
structure Turn(P:au)(w:aq)(K:ak)(tg:Expr)(J:It)(fp:List Addr)(it:Addr)(tn:Nat->Heap->Prop):Prop where
 mem:it∈fp
 obj:∀i h,tn i h->∀b∈fp,∃o,h.get? b=some o/\∀v,o.data≠.cell v
 keep:∀i h h',tn i h->(∀b∈fp,∀o,h.get? b=some o->h'.get? b=some o)->tn i h'
 item:∀(X:Cx),X.prog=P->X.w=w->X.K=K->X.calm=true->∀(i:Nat) (pins:List (Addr×Obj)) (s:ae) (σ:St) (H:Hp) (E:aa->ae->Prop),Inv X pins σ H s->(∀b∈fp,BE X pins H b)->tn i s.heap->J.go i H->
  af (model P w) X.A (pyNext (.ref it)) (λr s1=>∃u,r=some u/\
   af (model P w) X.A (dY tg (.ref it) u) (λ_ s2=>∃x H',Inv X pins σ H' s2/\RelV x u/\J.yld i H x H'/\tn (i+1) s2.heap/\∀b∈fp,H' b=none) E s1) E s
 done:∀(X:Cx),X.prog=P->X.w=w->X.K=K->X.calm=true->∀(i:Nat) (pins:List (Addr×Obj)) (s:ae) (σ:St) (H:Hp) (E:aa->ae->Prop),Inv X pins σ H s->(∀b∈fp,BE X pins H b)->tn i s.heap->J.stop i H->
  af (model P w) X.A (pyNext (.ref it)) (λr s1=>r=none/\Inv X pins σ H s1) E s
 self:∀(A:az) (i:Nat) (s:ae) (Q:aa->ae->Prop) (E:aa->ae->Prop),tn i s.heap->Q (.ref it) s->af (model P w) A (pyIter (.ref it)) Q E s
abbrev TI:=St->Hp->(It->Hp->Prop)->Prop
def PIE(X:Cx)(pins:List (Addr×Obj))(σ:St)(tg:Expr)(R:It->Hp->Prop)(itv:aa)(s2:ae):Prop:=
 ∃(it:Addr) (fp:List Addr) (tn:Nat->Heap->Prop) (J:It) (H':Hp),itv=.ref it/\Inv X pins σ H' s2/\Turn X.prog X.w X.K tg J fp it tn/\tn 0 s2.heap/\(∀b∈fp,BE X pins H' b)/\R J H'
def PI(X:Cx)(tg iter:Expr)(wi:TI):Prop:=
 ∀(pins:List (Addr×Obj)) (s:ae) (σ:St) (H:Hp) (R:It->Hp->Prop),Inv X pins σ H s->wi σ H R->
  af (model X.prog X.w) X.A (eval iter X.env) (λv s1=>af (model X.prog X.w) X.A (pyIter v) (PIE X pins σ tg R) X.xe s1) X.xe s
theorem Gr{A:az}{s:ae}{o:Obj}{n:String}{vs:Array aa}{Q:Unit->ae->Prop}(ho:s.heap.get? it=some o)(hc:o.cls=.type n)(hd:o.data=.fields vs)
  (hn:["enumerate", "zip", "dict_itemiterator", "dict_reverseitemiterator", "odict_iterator", "itertools.zip_longest", "itertools.pairwise"].contains n=false) (hQ:Q () s):af M A (dY tg (.ref it) u) Q E s:=by
 unfold dY;cases tg<;>first
  |exact aw hQ
  |(cases u<;>first
    |exact aw hQ
    |(refine ag (wpAny_load ho ?_)
      rw[hc,hd];show af M A (if (["enumerate", "zip", "dict_itemiterator", "dict_reverseitemiterator", "odict_iterator", "itertools.zip_longest", "itertools.pairwise"].contains n&&vs[0]?==some (rawInt _))=true then _ else _) Q E s;rw[ai (by intro h;rw[hn,Bool.false_and]at h;cases h)];exact aw hQ))
def Itl(K:ak)(a:Addr):It:=
 ⟨λi H=>∃xs x,SqL K H a xs/\xs[i]?=some x,λi H x H'=>H'=H/\∀xs,SqL K H a xs->xs[i]?=some x,λi H=>∃xs,SqL K H a xs/\xs.length<=i⟩
def Itt(K:ak)(a:Addr):It:=
 ⟨λi H=>∃xs x,SqT K H a xs/\xs[i]?=some x,λi H x H'=>H'=H/\∀xs,SqT K H a xs->xs[i]?=some x,λi H=>∃xs,SqT K H a xs/\xs.length<=i⟩
def Itr(lo:Int)(n:Nat):It:=⟨λi _=>i<n,λi H x H'=>H'=H/\x=.int (lo+i),λi _=>n<=i⟩
theorem HI{P:au}{w:aq}{K:ak}(a it:Addr):Turn P w K tg (Itl K a) [it] it (λi h=>h.IsListIter it a i) where
 mem:=by simp
 obj:=λi h st b hb=>by
  have e:b=it:=by simpa using hb
  subst e;obtain⟨o,e,c,d⟩:=st;exact⟨o,e,λv z=>by rw[d]at z;cases z⟩
 keep:=λi h h' st k=>st.at λo e=>k it (by simp) o e
 item:=by intro X hP hw hK hc i pins s σ H E I hf st hg;subst hP hw hK;obtain⟨xs,x,hq,hx⟩:=hg;obtain⟨its,rv,p,hz⟩:=I.list hq;obtain⟨u,hu,ru⟩:=rv.get hx;obtain⟨f0,f1,f2,f3,f4,f5⟩:=hf it (by simp);refine wpAny_pyNext_list_item st p.isList (x:=u) (by simpa using hu) λh' st' sb=>?_;have I1:Inv X pins σ H { s with heap:=h' }:=I.turned (t':=s.toks) (λb o hb e=>(sb.2 b hb).trans e) f0 f1 f3 f4 f5;obtain⟨o,e,c,d⟩:=id st';exact⟨u,rfl,Gr (s:={ s with heap:=h' }) e c d (by decide) ⟨x,H,I1,ru,⟨rfl,λys hy=>by rw[I.list_inj hy hq];exact hx⟩,st',λb hb=>(hf b hb).1⟩⟩
 done:=by intro X hP hw hK hc i pins s σ H E I hf st hg;subst hP hw hK;obtain⟨xs,hq,hx⟩:=hg;obtain⟨its,rv,p,hz⟩:=I.list hq;obtain⟨f0,f1,f2,f3,f4,f5⟩:=hf it (by simp);have hl:=rv.length;exact wpAny_pyNext_list_end (I.ok.hd hc) st p.isList (by simp;omega) λh' eb=>⟨rfl,I.turned (t':=s.toks) (λb o hb e=>eb b o hb e) f0 f1 f3 f4 f5⟩
 self:=λ_ _ _ _ _ st h=>wpAny_pyIter_listiter st h
theorem Fb{P:au}{w:aq}{K:ak}(a it:Addr):Turn P w K tg (Itt K a) [it] it (λi h=>h.IsTupleIter it a i) where
 mem:=by simp
 obj:=λi h st b hb=>by
  have e:b=it:=by simpa using hb
  subst e;obtain⟨o,e,c,d⟩:=st;exact⟨o,e,λv z=>by rw[d]at z;cases z⟩
 keep:=λi h h' st k=>st.at λo e=>k it (by simp) o e
 item:=by intro X hP hw hK hc i pins s σ H E I hf st hg;subst hP hw hK;obtain⟨xs,x,hq,hx⟩:=hg;obtain⟨its,rv,p,hz⟩:=I.tuple hq;obtain⟨u,hu,ru⟩:=rv.get hx;obtain⟨f0,f1,f2,f3,f4,f5⟩:=hf it (by simp);refine wpAny_pyNext_tuple_item st (show s.heap.IsTuple a its.toArray from p) (x:=u) (by simpa using hu) λh' st' sb=>?_;have I1:Inv X pins σ H { s with heap:=h' }:=I.turned (t':=s.toks) (λb o hb e=>(sb.2 b hb).trans e) f0 f1 f3 f4 f5;obtain⟨o,e,c,d⟩:=id st';exact⟨u,rfl,Gr (s:={ s with heap:=h' }) e c d (by decide) ⟨x,H,I1,ru,⟨rfl,λys hy=>by rw[I.tuple_inj hy hq];exact hx⟩,st',λb hb=>(hf b hb).1⟩⟩
 done:=by intro X hP hw hK hc i pins s σ H E I hf st hg;subst hP hw hK;obtain⟨xs,hq,hx⟩:=hg;obtain⟨its,rv,p,hz⟩:=I.tuple hq;obtain⟨f0,f1,f2,f3,f4,f5⟩:=hf it (by simp);have hl:=rv.length;exact wpAny_pyNext_tuple_end (I.ok.hd hc) st (show s.heap.IsTuple a its.toArray from p) (by simp;omega) λh' eb=>⟨rfl,I.turned (t':=s.toks) (λb o hb e=>eb b o hb e) f0 f1 f3 f4 f5⟩
 self:=λ_ _ _ _ _ st h=>wpAny_pyIter_tupleiter st h
theorem Fc{P:au}{w:aq}{K:ak}(it:Addr)(lo:Int)(n:Nat):Turn P w K tg (Itr lo n) [it] it (λi h=>IsRangeIter h it (lo+(i:Nat) * 1) ((n:Int) - (i:Nat)) 1) where
 mem:=by simp
 obj:=λi h st b hb=>by
  have e:b=it:=by simpa using hb
  subst e;exact⟨_,st,λv z=>by
   have z':Data.fields _=Data.cell v:=z;cases z'⟩
 keep:=λi h h' st k=>k it (by simp) _ st
 item:=by intro X hP hw hK hc i pins s σ H E I hf st hg;subst hP hw hK;obtain⟨f0,f1,f2,f3,f4,f5⟩:=hf it (by simp);have W:=Walks.range (prog:=X.prog) (w:=X.w) (I.ok.hd hc) it lo 1 n;refine W.item i s _ _ hg st λv h' tk hv st' kk=>?_;obtain⟨t,rfl⟩:=hv;have I1:Inv X pins σ H { s with heap:=h',toks:=tk }:=I.turned (λb o hb e=>kk b o (by simpa using hb) e) f0 f1 f3 f4 f5;refine⟨_,rfl,Gr (s:={ s with heap:=h',toks:=tk }) (n:="range_iterator") st' rfl rfl (by decide) ⟨.int (lo+i),H,I1,⟨t,?_⟩,⟨rfl,rfl⟩,st',λb hb=>(hf b hb).1⟩⟩;rw[Int.mul_one]
 done:=by intro X hP hw hK hc i pins s σ H E I hf st hg;subst hP hw hK;obtain⟨f0,f1,f2,f3,f4,f5⟩:=hf it (by simp);exact wpAny_pyNext_range_end (I.ok.hd hc) st (by have:n<=i:=hg;omega) λh' eb=>⟨rfl,I.turned (t':=s.toks) (λb o hb e=>eb b o hb e) f0 f1 f3 f4 f5⟩
 self:=λ_ _ _ _ _ st h=>wpAny_pyIter_rangeiter st h
variable{tl:TE}
section
variable{X:Cx}{tg:Expr}
def Jt(K:ak)(tl:TE):TI:=λσ H R=>tl σ H λx H1=>∃a,x=.ref a/\(∃xs,SqL K H1 a xs)/\R (Itl K a) H1
def Pk(K:ak)(tl:TE):TI:=λσ H R=>tl σ H λx H1=>∃a,x=.ref a/\(∃xs,SqT K H1 a xs)/\R (Itt K a) H1
theorem Mm{l:Expr}(hl:PE X l tl):PI X tg l (Jt X.K tl):=by
 intro pins s σ H R I h;refine thn (hl pins s σ H _ I h) λv s1 zz=>?_;obtain⟨x,H1,I1,r1,q1⟩:=zz;obtain⟨a,e,⟨xs,hq⟩,q⟩:=q1;subst e;cases r1;obtain⟨its,rv,p,hz⟩:=I1.list hq;refine dR p.isList ?_;refine⟨s1.heap.objs.size,[s1.heap.objs.size],_,_,H1,rfl,I1.kept (t':=s1.toks) λb o e=>aB _ e,HI a _,⟨_,aS _ rfl,rfl,rfl⟩,λb hb=>?_,q⟩;have e:b=s1.heap.objs.size:=by simpa using hb
 subst e;exact I1.fpOk (aA _) (I1.hok.fresh (aA _))
theorem Pl{l:Expr}(hl:PE X l tl):PI X tg l (Pk X.K tl):=by
 intro pins s σ H R I h;refine thn (hl pins s σ H _ I h) λv s1 zz=>?_;obtain⟨x,H1,I1,r1,q1⟩:=zz;obtain⟨a,e,⟨xs,hq⟩,q⟩:=q1;subst e;cases r1;obtain⟨its,rv,p,hz⟩:=I1.tuple hq;refine ir (show s1.heap.IsTuple a its.toArray from p) ?_;refine⟨s1.heap.objs.size,[s1.heap.objs.size],_,_,H1,rfl,I1.kept (t':=s1.toks) λb o e=>aB _ e,Fb a _,⟨_,aS _ rfl,rfl,rfl⟩,λb hb=>?_,q⟩;have e:b=s1.heap.objs.size:=by simpa using hb
 subst e;exact I1.fpOk (aA _) (I1.hok.fresh (aA _))
theorem Ju{H:Hp}{s:ae}{R:It->Hp->Prop}{lo hi:Int}{t u v:Tok}{tk:Nat}(I:Inv X pins σ H s)(h1:-(2 ^ 62)<=lo)(h2:lo<2 ^ 62)(h3:-(2 ^ 62)<=hi)(h4:hi<2 ^ 62)
  (q:R (Itr lo (hi - lo).toNat) H):af (model X.prog X.w) X.A (pyIter (.ref s.heap.objs.size)) (PIE X pins σ tg R) E { s with heap:=s.heap.push { cls:=.type "range", data:=.fields #[.int lo t,.int hi u,.int 1 v] },toks:=tk }:=by
 refine wpAny_pyIter_range (IsRange.new ..) (small_one h1 h2 h3 h4) ?_;have I1:Inv X pins σ H { s with heap:=s.heap.push { cls:=.type "range", data:=.fields #[.int lo t,.int hi u,.int 1 v] },toks:=tk }:=I.kept λb o e=>aB _ e;refine⟨(s.heap.push { cls:=.type "range", data:=.fields #[.int lo t,.int hi u,.int 1 v] }).objs.size,[(s.heap.push { cls:=.type "range", data:=.fields #[.int lo t,.int hi u,.int 1 v] }).objs.size],_,_,H,rfl,
  I1.kept (t':=tk) λb o e=>aB _ e,Fc _ lo (hi - lo).toNat,?_,λb hb=>?_,q⟩
 ·have e1:lo+((0:Nat):Int) * 1=lo:=by simp
  have e2:(((hi - lo).toNat:Nat):Int) - ((0:Nat):Int)=m6 lo hi 1:=by rw[rangeSize_one];split<;>omega
  show IsRangeIter _ _ (lo+((0:Nat):Int) * 1) ((((hi - lo).toNat:Nat):Int) - ((0:Nat):Int)) 1;rw[e1,e2];exact aS _ rfl
 ·have e:b=(s.heap.push { cls:=.type "range", data:=.fields #[.int lo t,.int hi u,.int 1 v] }).objs.size:=by simpa using hb
  subst e;exact I1.fpOk (aA _) (I1.hok.fresh (aA _))
def OK(ta:TA):TI:=λσ H R=>ta σ H λvs H1=>∃j:Int,vs=[.int j]/\-(2 ^ 62)<=j/\j<2 ^ 62/\R (Itr 0 j.toNat) H1
theorem HJ{a:Expr}{ta:TA}{p:Pos}(hg:Gl X "range")(hm:X.mg "range" = none)(ha:PA X [a] ta)(hs:ar [a] X.env=[(false,eval a X.env)]:=by rfl):PI X tg (.Call (.Name "range" p) [a] [] pos) (OK ta):=by
 intro pins s σ H R I h;refine Call_ (vY I hg hm boot_range (callWith_type1 (thn (ha pos pins s σ H _ I h) λus s1 zz=>?_) hs rfl));obtain⟨vs,H1,I1,r1,q1⟩:=zz;obtain⟨j,e,q1,q2,q⟩:=q1;subst e;cases r1 with
 |cons r rr=>cases rr;obtain⟨t,rfl⟩:=r;exact call_range_1 (Ju I1 (by omega) (by omega) q1 q2 (by simpa using q))
def Pm(wi:TI)(g:TG)(tb:TS):TS:=λD σ H=>wi σ H λJ H1=>∃W:Nat->Nat->St->Hp->Prop,(∃m,W 0 m σ H1)/\∀i m σ H,W i m σ H->
 (J.stop i H/\D.nx σ H)\/(J.go i H/\∃N:St->Hp->Prop,(∀σ' H',N σ' H'->∃m',m'<m/\W (i+1) m' σ' H')/\∀x H',J.yld i H x H'->g x σ H' λσ2 H2=>tb { D with nx:=N,ct:=N,bk:=D.nx } σ2 H2)
def Ak(fp:List Addr)(h:Heap):List (Addr×Obj):=fp.filterMap λb=>(h.get? b).map λo=>(b,o)
theorem tE{fp:List Addr}{h:Heap}{o:Obj}(hb:b∈fp)(e:h.get? b=some o):(b,o)∈Ak fp h:=f6.mpr ⟨b,hb,by rw[e];rfl⟩
theorem HK{fp:List Addr}{h:Heap}{p:Addr×Obj}(hp:p∈Ak fp h):p.1∈fp/\h.get? p.1=some p.2:=by
 obtain⟨b,hb,e⟩:=f6.mp hp;cases q:h.get? b with
 |none=>rw[q]at e;cases e
 |some o=>rw[q]at e;have e':(b,o)=p:=bE e;subst e';exact⟨hb,q⟩
theorem Inv.pinned{H:Hp}{s:ae}{fp:List Addr}(I:Inv X pins σ H s)(hf:∀b∈fp,BE X pins H b)(ho:∀b∈fp,∃o,s.heap.get? b=some o/\∀v,o.data≠.cell v):Inv X (pins++Ak fp s.heap) σ H s:=
 I.pins_of λp hp=>(bT.mp hp).elim (λz=>I.pin p (bA _ z)) λz=>by obtain⟨hb,e⟩:=HK z;obtain⟨f0,f1,f2,_⟩:=hf p.1 hb;obtain⟨o,e',d⟩:=ho p.1 hb;rw[e]at e';cases e';exact⟨e,f0,f1,f2,d⟩
theorem Inv.unpinned{pl:List (Addr×Obj)}{H:Hp}{s:ae}(I:Inv X (pins++pl) σ H s):Inv X pins σ H s:=I.pins_of λp hp=>I.pin p (bA _ (bJ _ hp))
theorem Jv{iter:Expr}{wi:TI}{g:TG}(hp:hE (model X.prog X.w) X.A X.env X.xe)(hc:X.calm=true)(hi:PI X tg iter wi)(hg:PG X tg g)(hb:PSs X body tb)
  (hs:∀x,eS iter X.env x=pure x:=by intro _;rfl):PS X (.For tg iter body [] pos) (Pm wi g tb):=by
 intro pins s σ H D I h;refine wpAny_For (thn (hi pins s σ H _ I h) λv s1 h1=>thn h1 λitv s2 h2=>?_) hs;obtain⟨it,fp,tn,J,H2,e,I2,T,st2,f2,W,⟨m0,w0⟩,turn⟩:=h2;subst e;have stat:∀{H':Hp},(∀b∈fp,H' b=none)->∀b∈fp,BE X pins H' b:=λhn b hb=>⟨hn b hb,(f2 b hb).2⟩;refine codeAny_forLoop_any (λn s'=>∃i σ' H',Inv X pins σ' H' s'/\tn i s'.heap/\(∀b∈fp,H' b=none)/\W i n σ' H') ?_ m0 ⟨0,σ,H2,I2,st2,λb hb=>(f2 b hb).1,w0⟩;rintro n s3 ⟨i,σ3,H3,I3,st3,fr3,w3⟩;rcases turn i n σ3 H3 w3 with ⟨stop,qn⟩|⟨go,N,hN,step⟩
 ·refine dA hp (thn (T.done X rfl rfl rfl hc i pins s3 σ3 H3 X.xe I3 (stat fr3) st3 stop) λr s4 zz=>?_);obtain⟨hr,I4⟩:=zz;subst hr;exact gz ⟨σ3,H3,I4,qn⟩
 ·refine dA hp (thn (T.item X rfl rfl rfl hc i pins s3 σ3 H3 X.xe I3 (stat fr3) st3 go) λr s4 zz=>?_);obtain⟨u,hr,h4⟩:=zz;subst hr;refine dA hp (thn h4 λ_ s5 zz=>?_);obtain⟨x,H5,I5,r5,y5,st5,fr5⟩:=zz;have I5':=I5.pinned (stat fr5) (T.obj _ _ st5);refine dA hp (thn (hg _ s5 σ3 H5 x u _ I5' r5 (step x H5 y5)) λ_ s6 zz=>?_);obtain⟨σ6,H6,I6,q6⟩:=zz;refine dA hp (thn (hb _ s6 σ6 H6 _ I6 q6) λf s7 q7=>?_);have again:∀{σ7:St} {H7:Hp},Inv X (pins++Ak fp s5.heap) σ7 H7 s7->N σ7 H7->∃m,m<n/\∃i σ' H',Inv X pins σ' H' s7/\tn i s7.heap/\(∀b∈fp,H' b=none)/\W i m σ' H':=λ{σ7 H7} I7 n7=>by obtain⟨m',hm,w7⟩:=hN σ7 H7 n7;refine⟨m',hm,i+1,σ7,H7,I7.unpinned,T.keep _ _ _ st5 λb hb o e=>(I7.pin (b,o) (bA _ (bA _ (tE hb e)))).1,λb hb=>?_,w7⟩;obtain⟨o,e,d⟩:=T.obj _ _ st5 b hb;exact(I7.pin (b,o) (bA _ (bA _ (tE hb e)))).2.1
  cases f with
  |next=>obtain⟨σ7,H7,I7,n7⟩:=q7;exact again I7 n7
  |cont=>obtain⟨σ7,H7,I7,n7⟩:=q7;exact again I7 n7
  |brk=>obtain⟨σ7,H7,I7,q7⟩:=q7;exact⟨σ7,H7,I7.unpinned,q7⟩
  |ret v=>obtain⟨x7,σ7,H7,I7,r7,q7⟩:=q7;exact⟨x7,σ7,H7,I7.unpinned,r7,q7⟩
end
abbrev R2:=V->V->Hp->VK->Prop
def OpR(X:Cx)(f:aa->aa->Sem aa)(r:R2):Prop:=
 ∀(pins:List (Addr×Obj)) (s:ae) (σ:St) (H:Hp) (x y:V) (v u:aa) (Q:VK),Inv X pins σ H s->RelV x v->RelV y u->r x y H Q->
  af (model X.prog X.w) X.A (f v u) (EP X pins σ Q) X.xe s
def qb(X:Cx)(f:aa)(r:List V->Hp->VK->Prop):Prop:=
 ∀(pins:List (Addr×Obj)) (s:ae) (σ:St) (H:Hp) (xs:List V) (us:List aa) (Q:VK),Inv X pins σ H s->Vals xs us->r xs H Q->
  af (model X.prog X.w) X.A (call f us) (EP X pins σ Q) X.xe s
def tOp(r:R2)(ta tb:TE):TE:=λσ H Q=>ta σ H λx H1=>tb σ H1 λy H2=>r x y H2 Q
def rI(C:Int->Int->Prop)(g:Int->Int->V):R2:=λx y H Q=>∃i j,x=.int i/\y=.int j/\C i j/\Q (g i j) H
def rI0(g:Int->Int->V):R2:=λx y H Q=>∃i j,x=.int i/\y=.int j/\Q (g i j) H
variable{f:aa->aa->Sem aa}{r:R2}
section
variable{X:Cx}{a b c:Expr}{ta tb tc:TE}{pos:Pos}
theorem Pn(ha:PE X a ta)(hb:PE X b tb){s:ae}{H:Hp}(I:Inv X pins σ H s)
  (h:ta σ H λx H1=>tb σ H1 λy H2=>R x y H2)
  (hf:∀v u s2 x y H2,Inv X pins σ H2 s2->RelV x v->RelV y u->R x y H2->af (model X.prog X.w) X.A (f v u) Q X.xe s2):
  af (model X.prog X.w) X.A (eval a X.env) (λv s₁=>af (model X.prog X.w) X.A (eval b X.env) (λu s₂=>af (model X.prog X.w) X.A (f v u) Q X.xe s₂) X.xe s₁) X.xe s:=by
 refine thn (ha pins s σ H _ I h) λv s1 zz=>?_;obtain⟨x,H1,I1,r1,q1⟩:=zz;refine thn (hb pins s1 σ H1 _ I1 q1) λu s2 zz=>?_;obtain⟨y,H2,I2,r2,q2⟩:=zz;exact hf v u s2 x y H2 I2 r1 r2 q2
theorem Jw{op:hG}(ho:OpR X (bX op) r)(ha:PE X a ta)(hb:PE X b tb):PE X (.BinOp a op b pos) (tOp r ta tb):=by intro pins s σ H Q I h;exact wpAny_BinOp (Pn ha hb I h λv u s2 x y H2 I2 rx ry q=>ho pins s2 σ H2 x y v u Q I2 rx ry q)
theorem opI{C:Int->Int->Prop}{g:Int->Int->Int}
  (rule:∀(i j:Int) (t u:Tok) (s:ae) (Q:aa->ae->Prop) (E:aa->ae->Prop),C i j->Q (.int (g i j) s.toks) { s with toks:=s.toks+1 }->af (model X.prog X.w) X.A (f (.int i t) (.int j u)) Q E s):
  OpR X f (rI C λi j=>.int (g i j)):=by
 intro pins s σ H x y v u Q I rx ry h;obtain⟨i,j,rfl,rfl,hc,q⟩:=h;obtain⟨t,rfl⟩:=rx;obtain⟨t',rfl⟩:=ry;exact rule i j t t' s _ _ hc ⟨.int (g i j),H,I.tok _,⟨_,rfl⟩,q⟩
theorem Tc{g:Int->Int->Int}
  (rule:∀(i j:Int) (t u:Tok) (s:ae) (Q:aa->ae->Prop) (E:aa->ae->Prop),Q (.int (g i j) s.toks) { s with toks:=s.toks+1 }->af (model X.prog X.w) X.A (f (.int i t) (.int j u)) Q E s):
  OpR X f (rI0 λi j=>.int (g i j)):=by
 intro pins s σ H x y v u Q I rx ry h;obtain⟨i,j,rfl,rfl,q⟩:=h;obtain⟨t,rfl⟩:=rx;obtain⟨t',rfl⟩:=ry;exact rule i j t t' s _ _ ⟨.int (g i j),H,I.tok _,⟨_,rfl⟩,q⟩
theorem Mn{g:Int->Int->Bool}
  (rule:∀(i j:Int) (t u:Tok) (s:ae) (Q:aa->ae->Prop) (E:aa->ae->Prop),Q (.bool (g i j)) s->af (model X.prog X.w) X.A (f (.int i t) (.int j u)) Q E s):
  OpR X f (rI0 λi j=>.bl (g i j)):=by
 intro pins s σ H x y v u Q I rx ry h;obtain⟨i,j,rfl,rfl,q⟩:=h;obtain⟨t,rfl⟩:=rx;obtain⟨t',rfl⟩:=ry;exact rule i j t t' s _ _ ⟨.bl (g i j),H,I,rfl,q⟩
def Po(i j:Int):Prop:=0<j/\j<1073741824
def Td(i j:Int):Prop:=0<=j/\j<=1000000/\i.natAbs<2 ^ 64
def Mo(i j:Int):Prop:=(-(2 ^ 64)<i/\i<2 ^ 64)\/(-(2 ^ 64)<j/\j<2 ^ 64)
theorem Mo.ok{i j:Int}(h:Mo i j):IntMulOk i j:=by
 rcases h with ⟨h1,h2⟩|⟨h1,h2⟩
 ·exact .of_left (lF h1 h2)
 ·exact .of_right (lF h1 h2)
theorem Pp:OpR X (bX .Add) (rI0 λi j=>.int (i+j)):=Tc λ_ _ _ _ _ _ _ q=>add_int q
theorem Pq:OpR X (bX .Sub) (rI0 λi j=>.int (i - j)):=Tc λ_ _ _ _ _ _ _ q=>sub_int q
theorem Pr:OpR X (bX .Mult) (rI Mo λi j=>.int (i * j)):=opI λ_ _ _ _ _ _ _ hc q=>mul_int q hc.ok
theorem Mp:OpR X (bX .FloorDiv) (rI Po λi j=>.int (i / j)):=opI λi j _ _ _ _ _ hc q=>by have h1:(0:Int)<j:=hc.1;have h2:j<1073741824:=hc.2;exact floordiv_int (by omega) (by rw[Int.fdiv_eq_ediv_of_nonneg i (by omega)];exact q) (.inl (PyProof.noPylong_small (by omega)))
theorem Pt:OpR X (bX .Mod) (rI (λ_ j=>0<j) λi j=>.int (i % j)):=opI λi j _ _ _ _ _ hc q=>by have h1:(0:Int)<j:=hc;exact mod_int' (by omega) (by rw[Int.fmod_eq_emod_of_nonneg i (by omega)];exact q)
theorem Pu:OpR X (bX .Pow) (rI Td λi j=>.int (i ^ j.toNat)):=opI λ_ _ _ _ _ _ _ hc q=>pow_int_small hc.1 hc.2.1 hc.2.2 q
end
def Jx:V->V->Bool
 |.non,.non=>true|.non,.int _=>true|.int _,.non=>true|.non,.bl _=>true|.bl _,.non=>true|.non,.str _=>true|.str _,.non=>true
 |.int _,.int _=>true|.bl _,.bl _=>true|.str _,.str _=>true|.byt _,.byt _=>true
 |.int _,.str _=>true|.str _,.int _=>true|.bl _,.str _=>true|.str _,.bl _=>true
 |_,_=>false
def rEq:R2:=λx y H Q=>Jx x y=true/\Q (.bl (decide (x=y))) H
def rNe:R2:=λx y H Q=>Jx x y=true/\Q (.bl (!decide (x=y))) H
theorem Gs{i j:Int}:decide (V.int i=V.int j)=(i==j):=by rw[cN];simp
theorem Jy{i j:Bool}:decide (V.bl i=V.bl j)=(i==j):=by rw[cN];simp
theorem Gu{i j:Str}:decide (V.str i=V.str j)=(i==j):=by rw[cN];simp
theorem Gv{i j:Array UInt8}:decide (V.byt i=V.byt j)=(i.toList==j.toList):=by rw[cN];cases i;cases j;simp
variable{op':dN}{r':R2}
section
variable{X:Cx}{a b c:Expr}{ta tb tc:TE}{pos:Pos}
theorem pe{H:Hp}{s:ae}{Q:VK}{k k':Bool}(I:Inv X pins σ H s)(q:Q (.bl k) H)(e:k=k'):EP X pins σ Q (.bool k') s:=by subst e;exact⟨.bl k,H,I,rfl,q⟩
theorem Te:OpR X (aM .Eq) rEq:=by
 intro pins s σ H x y v u Q I rx ry h;obtain⟨hs,q⟩:=h;cases x with
 |non=>
  cases rx;cases y with
  |non=>cases ry;exact mE (pe I q (by simp))
  |bl j=>cases ry;exact mF (pe I q (by simp))
  |int j=>obtain⟨t',rfl⟩:=ry;exact mO (pe I q (by simp))
  |str j=>obtain⟨t',rfl⟩:=ry;exact mP (pe I q (by simp))
  |_=>exact ao (show false=true from hs) aP
 |bl i=>
  cases rx;cases y with
  |non=>cases ry;exact mG (pe I q (by simp))
  |bl j=>cases ry;exact eq_bool (pe I q Jy)
  |str j=>obtain⟨t',rfl⟩:=ry;exact mH (pe I q (by simp))
  |_=>exact ao (show false=true from hs) aP
 |int i=>
  obtain⟨t,rfl⟩:=rx;cases y with
  |non=>cases ry;exact mQ (pe I q (by simp))
  |int j=>obtain⟨t',rfl⟩:=ry;exact eq_int (pe I q Gs)
  |str j=>obtain⟨t',rfl⟩:=ry;exact mR (pe I q (by simp))
  |_=>exact ao (show false=true from hs) aP
 |str i=>
  obtain⟨t,rfl⟩:=rx;cases y with
  |non=>cases ry;exact mS (pe I q (by simp))
  |bl j=>cases ry;exact mI (pe I q (by simp))
  |int j=>obtain⟨t',rfl⟩:=ry;exact mT (pe I q (by simp))
  |str j=>obtain⟨t',rfl⟩:=ry;exact eq_str (pe I q Gu)
  |_=>exact ao (show false=true from hs) aP
 |byt i=>
  obtain⟨t,rfl⟩:=rx;cases y with
  |byt j=>obtain⟨t',rfl⟩:=ry;exact W.eq_bytes (pe I q Gv)
  |_=>exact ao (show false=true from hs) aP
 |_=>cases y<;>exact ao (show false=true from hs) aP
theorem Tf:OpR X (aM .NotEq) rNe:=by
 intro pins s σ H x y v u Q I rx ry h;obtain⟨hs,q⟩:=h;cases x with
 |non=>
  cases rx;cases y with
  |non=>cases ry;exact mJ (pe I q (by simp))
  |bl j=>cases ry;exact mK (pe I q (by simp))
  |int j=>obtain⟨t',rfl⟩:=ry;exact mU (pe I q (by simp))
  |str j=>obtain⟨t',rfl⟩:=ry;exact mV (pe I q (by simp))
  |_=>exact ao (show false=true from hs) aP
 |bl i=>
  cases rx;cases y with
  |non=>cases ry;exact mL (pe I q (by simp))
  |bl j=>cases ry;exact ne_bool (pe I q (aL not Jy))
  |str j=>obtain⟨t',rfl⟩:=ry;exact mM (pe I q (by simp))
  |_=>exact ao (show false=true from hs) aP
 |int i=>
  obtain⟨t,rfl⟩:=rx;cases y with
  |non=>cases ry;exact mW (pe I q (by simp))
  |int j=>obtain⟨t',rfl⟩:=ry;exact ne_int (pe I q (aL not Gs))
  |str j=>obtain⟨t',rfl⟩:=ry;exact mX (pe I q (by simp))
  |_=>exact ao (show false=true from hs) aP
 |str i=>
  obtain⟨t,rfl⟩:=rx;cases y with
  |non=>cases ry;exact mY (pe I q (by simp))
  |bl j=>cases ry;exact mN (pe I q (by simp))
  |int j=>obtain⟨t',rfl⟩:=ry;exact mZ (pe I q (by simp))
  |str j=>obtain⟨t',rfl⟩:=ry;exact ne_str (pe I q (aL not Gu))
  |_=>exact ao (show false=true from hs) aP
 |byt i=>
  obtain⟨t,rfl⟩:=rx;cases y with
  |byt j=>obtain⟨t',rfl⟩:=ry;exact W.ne_bytes (pe I q (aL not Gv))
  |_=>exact ao (show false=true from hs) aP
 |_=>cases y<;>exact ao (show false=true from hs) aP
theorem Tg:OpR X (aM .Lt) (rI0 λi j=>.bl (decide (i<j))):=Mn λ_ _ _ _ _ _ _ q=>lt_int q
theorem Ti:OpR X (aM .LtE) (rI0 λi j=>.bl (decide (i<=j))):=Mn λ_ _ _ _ _ _ _ q=>le_int q
theorem Tj:OpR X (aM .Gt) (rI0 λi j=>.bl (decide (j<i))):=Mn λ_ _ _ _ _ _ _ q=>gt_int q
theorem Tn:OpR X (aM .GtE) (rI0 λi j=>.bl (decide (j<=i))):=Mn λ_ _ _ _ _ _ _ q=>ge_int q
theorem Pw:OpR X (aM .Is) (λx y H Q=>y=.non/\Q (.bl (decide (x=.non))) H):=by
 intro pins s σ H x y v u Q I rx ry h;obtain⟨rfl,q⟩:=h;cases ry;refine is_none_gen (pe I q ?_);cases x<;>first
  |(cases rx;rfl)
  |(obtain⟨t,rfl⟩:=rx;rfl)
theorem Mq:OpR X (aM .IsNot) (λx y H Q=>y=.non/\Q (.bl (!decide (x=.non))) H):=by
 intro pins s σ H x y v u Q I rx ry h;obtain⟨rfl,q⟩:=h;cases ry;refine isnot_none_gen (pe I q ?_);cases x<;>first
  |(cases rx;rfl)
  |(obtain⟨t,rfl⟩:=rx;rfl)
theorem Mr(ho:OpR X (aM op) r)(ha:PE X a ta)(hb:PE X b tb)(hm:dE op b=false):PE X (.Compare a [op] [b] pos) (tOp r ta tb):=by intro pins s σ H Q I h;exact wpAny_Compare1 (Pn ha hb I h λv u s2 x y H2 I2 rx ry q=>ho pins s2 σ H2 x y v u Q I2 rx ry q) hm
def Jz(t:TE):TT:=λσ H Q=>t σ H λx H'=>∃k,x=.bl k/\Q k H'
theorem Ms(ho:OpR X (aM op) r)(ha:PE X a ta)(hb:PE X b tb)(hm:dE op b=false):PT X (.Compare a [op] [b] pos) (Jz (tOp r ta tb)):=by
 intro pins s σ H Q I h;refine jI (thn (ha pins s σ H _ I h) λv s1 ⟨x,H1,I1,r1,q1⟩=>thn (hb pins s1 σ H1 _ I1 q1) λu s2 ⟨y,H2,I2,r2,q2⟩=>
  thn (ho pins s2 σ H2 x y v u _ I2 r1 r2 q2) λc s3 ⟨z,H3,I3,r3,k,e,q3⟩=>?_) hm
 subst e;cases r3;exact cq ⟨H3,I3,q3⟩
def Fd(r r':R2)(ta tb tc:TE):TE:=λσ H Q=>ta σ H λx H1=>tb σ H1 λy H2=>r x y H2 λz H3=>∃k,z=.bl k/\
 (if k=true then tc σ H3 λw' H4=>r' y w' H4 Q else Q (.bl false) H3)
theorem JA(ho:OpR X (aM op) r)(ho':OpR X (aM op') r')(ha:PE X a ta)(hb:PE X b tb)(hc:PE X c tc)
  (hm:lastMarks [op,op'] [b,c]=false:=by with_unfolding_all rfl):PE X (.Compare a [op,op'] [b,c] pos) (Fd r r' ta tb tc):=by
 intro pins s σ H Q I h;refine Compare_chain (thn (ha pins s σ H _ I h) λv s1 ⟨x,H1,I1,r1,q1⟩=>chain_link (thn (hb pins s1 σ H1 _ I1 q1) λu s2 ⟨y,H2,I2,r2,q2⟩=>
  thn (ho pins s2 σ H2 x y v u _ I2 r1 r2 q2) λd s3 ⟨z,H3,I3,r3,k,e,q3⟩=>?_)) hm
 subst e;cases r3;refine cq ?_;cases k with
 |false=>exact ite_ff ⟨.bl false,H3,I3,rfl,q3⟩
 |true=>exact ite_tt (chain_last (thn (hc pins s3 σ H3 _ I3 q3) λw' s4 ⟨z',H4,I4,r4,q4⟩=>ho' pins s4 σ H4 y z' u w' Q I4 r2 r4 q4))
theorem JB(ho:OpR X (aM op) r)(ho':OpR X (aM op') r')(ha:PE X a ta)(hb:PE X b tb)(hc:PE X c tc)
  (hm:lastMarks [op,op'] [b,c]=false:=by with_unfolding_all rfl):PT X (.Compare a [op,op'] [b,c] pos) (Jz (Fd r r' ta tb tc)):=by
 intro pins s σ H Q I h;refine isTrue_chain (thn (ha pins s σ H _ I h) λv s1 ⟨x,H1,I1,r1,q1⟩=>test_link (thn (hb pins s1 σ H1 _ I1 q1) λu s2 ⟨y,H2,I2,r2,q2⟩=>
  thn (ho pins s2 σ H2 x y v u _ I2 r1 r2 q2) λd s3 ⟨z,H3,I3,r3,k,e,q3⟩=>?_)) hm
 subst e;cases r3;refine cq ?_;cases k with
 |false=>obtain⟨k',e',q'⟩:=q3;cases e';exact ite_ff ⟨H3,I3,q'⟩
 |true=>refine ite_tt (test_last (thn (hc pins s3 σ H3 _ I3 q3) λw' s4 ⟨z',H4,I4,r4,q4⟩=>thn (ho' pins s4 σ H4 y z' u w' _ I4 r2 r4 q4) λd' s5 ⟨z2,H5,I5,r5,k2,e2,q5⟩=>?_));subst e2;cases r5;exact cq ⟨H5,I5,q5⟩
theorem Al:(aE:Nat)<2 ^ 63:=by rw[bh];decide
theorem vals1{x:V}(r:Vals [x] us):∃u,us=[u]/\RelV x u:=by
 cases r with
 |cons r1 r2=>cases r2;exact⟨_,rfl,r1⟩
theorem vals2{x:V}(r:Vals [x,y] us):∃u w',us=[u,w']/\RelV x u/\RelV y w':=by
 cases r with
 |cons r1 r2=>
  cases r2 with
  |cons r3 r4=>cases r4;exact⟨_,_,rfl,r1,r3⟩
end
structure Fe(h:Heap)(x dx C:Addr)(mA:Str->Option aa):Prop where
 obj:h.get? x=some (de C dx)
 ns:h.Ns1 dx mA
 ne:dx≠x
variable{dx:Addr}{mA:Str->Option aa}
theorem HL{h:Heap}(n:h.Ns1 dx mA):∃od,h.get? dx=some od/\∀name,hJ name od=some (mA name):=by
 obtain⟨o,es,ep,ho,hd,hk,_,hm⟩:=n;refine⟨o,ho,λname=>?_⟩;have e:=hm name;unfold nsFind findBy at e;rw[<-Array.find?_toList]at e;unfold hJ;rw[hd];dsimp only;split
 ·rename_i y q;rw[q]at e;exact aL some e
 ·rename_i q;rw[q]at e;have a:es.toList.any (·.refKey)=false:=by rw[j7];intro y hy;obtain⟨z,t,hkey⟩:=hk y (Array.mem_toList_iff.mp hy);simp[DictEntry.refKey,hkey]
  have a':¬es.toList.any (·.refKey)=true:=by rw[a];exact aP
  rw[ai a'];exact aL some e
variable{C:Addr}
theorem Fe.look{h:Heap}{x:Addr}(I:Fe h x dx C mA):∃od,W.InstAt h x (de C dx) C (some od)/\∀name,hJ name od=some (mA name):=
 let ⟨od,ho,hl⟩:=HL I.ns
 ⟨od,⟨I.obj,rfl,rfl,ho⟩,hl⟩
variable{kw:List (Str×aa)}
section
variable{prog:au}{w:aq}{A:az}{E:aa->ae->Prop}{s:ae}{K:ak}{x dx C f:Addr}{mA:Str->Option aa}{name:Str}{v:aa}
theorem get_map{expr:Bool}(X:K.In s.heap)(I:Fe s.heap x dx C mA)(hg:gV K C name=true)(hh:iU K C=true)
  (ha:cb K (.ref C) name=some none) (hv:mA name=some v) (hv':W.handedIn v=true) (h:Q v { s with toks:=s.toks+1 }):
  af (model prog w) A (getAttr (.ref x) name expr) Q E s:=by
 obtain⟨od,J,hl⟩:=I.look;exact W.get_value X J (iE hg).1 (W.findObj_own hh ha rfl (by rw[hl,hv])) hv' h
theorem JC{pl:Sem Bool}{Q:aa×List aa->ae->Prop}(X:K.In s.heap)(I:Fe s.heap x dx C mA)(hg:gV K C name=true)
  (hf:cb K (.ref C) name=some (some (.ref f))) (ht:ib K (.ref f)=true) (hv:mA name=none) (h:Q (.ref f,[.ref x]) s):
  af (model prog w) A (getMethod (.ref x) name pl) Q E s:=by
 obtain⟨od,J,hl⟩:=I.look;exact W.method_fn X J (iE hg).1 (iE hg).2 hf (beq_iff_eq.mp ht) (by show (hJ name od).map (·.isSome)=some false;rw[hl,hv];rfl) h
theorem Mt{ns:List Str}{Q:Unit->ae->Prop}(X:K.In s.heap)(I:Fe s.heap x dx C mA)
  (hs:cb K (.ref C) "__setattr__" = some (some (.builtin "object.__setattr__"))) (hp:l7 K C=true) (ht:ji K C name=some none) (hh:iU K C=true)
  (hw:iJ mA ns) (hsz:ns.length<=aE)
  (h:∀h',Fe h' x dx C (λy=>if y=name then some v else mA y)->dG dx s.heap h'->Q () { s with heap:=h',toks:=s.toks+2 }):
  af (model prog w) A (setAttr (.ref x) name v) Q E s:=by
 obtain⟨od,J,hl⟩:=I.look;refine W.set_plain X J hs (W.osa_open (s:={ s with toks:=s.toks+1 }) (r:=none) X J hp ht λb=>?_);obtain⟨cd,hc,hd'⟩:=W.any_some hh;have hx:s.heap.get? x=some ⟨.ref C,some dx,.plain,#[]⟩:=I.obj;refine ag (aw (ag (ag (wpAny_loadPart hx (ag (W.Looks.here (s:={ s with toks:=s.toks+1 }) (W.looks_clsIn X hc) ?_))))));rw[hd'];refine aw (a:=some dx) (ag (aw (ag ?_)));refine wpAny_nsSet1 (s:={ s with toks:=s.toks+1 }) I.ns λh' hn2 hs2=>?_;obtain⟨oD,esD,epD,hoD,hdD,hcD⟩:=hn2.count (oa name v hw);refine ag (wpAny_lookBehind hoD (by rw[hdD];exact pastItsLine_dict (bM hcD (by rw[aD];omega))) ?_);exact aw (h _ ⟨(hs2.2 _ (cU I.ne)).trans I.obj,hn2,I.ne⟩ hs2)
theorem JD{R:di->ae->Prop}{vs:List aa}(X:K.In s.heap)(hm:W.makesIn K C=true)
  (hi:cb K (.ref C) "__init__" = some (some (.ref f))) (hf:W.typeIn K (.ref f)=some (.type "function"))
  (h:bR (model prog w) (A.under (.builtin "type.__call__" ⟨.ref C::vs,kw⟩)) (.call (.ref f) ⟨.ref (s.heap.objs.size+1)::vs,kw⟩) (W.InitBack (s.heap.objs.size+1) R)
   { s with heap:=(s.heap.push cQ).push (de C s.heap.objs.size) }):
  bR (model prog w) A (.call (.ref C) ⟨vs,kw⟩) R s:=by
 obtain⟨hh,g,d,t,os⟩:=s;exact W.make_core (W.makes_of X hm) (W.looks_findIn X hi) (λself=>W.bind_fn X self hf) (.inl rfl) h
end
def uL(f:Str)(v:V):List (Str×V)->List (Str×V)
 |[]=>[(f,v)]
 |(g,x)::r=>if g=f then (g,v)::r else (g,x)::uL f v r
theorem zi(f g:Str)(v:V):∀fs:List (Str×V),(uL f v fs).lookup g=if g=f then some v else fs.lookup g
 |[]=>by
  show cj g [(f,v)]=_;by_cases h:g=f
  ·have hb:(g==f)=true:=beq_iff_eq.mpr h;simp only[cj,hb,aj h]
  ·have hb:(g==f)=false:=beq_eq_false_iff_ne.mpr h;simp only[cj,hb,ai h]
 |(k,x)::r=>by
  have ih:=zi f g v r;rw[show uL f v ((k,x)::r)=(if k=f then (k,v)::r else (k,x)::uL f v r) from rfl];by_cases hk:k=f
  ·rw[aj hk];by_cases h:g=k
   ·have hb:(g==k)=true:=beq_iff_eq.mpr h;simp only[cj,hb,aj (h.trans hk)]
   ·have hb:(g==k)=false:=beq_eq_false_iff_ne.mpr h;simp only[cj,hb,ai (λe:g=f=>h (e.trans hk.symm))]
  ·rw[ai hk];by_cases h:g=k
   ·have hb:(g==k)=true:=beq_iff_eq.mpr h;simp only[cj,hb,ai (λe:g=f=>hk (h.symm.trans e))]
   ·have hb:(g==k)=false:=beq_eq_false_iff_ne.mpr h;simp only[cj,hb];exact ih
theorem yL(f:Str)(v:V):∀fs:List (Str×V),f∈(uL f v fs).map (·.1)/\∀g,g∈fs.map (·.1)->g∈(uL f v fs).map (·.1)
 |[]=>⟨by simp[uL],λg h=>by simp at h⟩
 |(k,x)::r=>by
  obtain⟨i1,i2⟩:=yL f v r;rw[show uL f v ((k,x)::r)=(if k=f then (k,v)::r else (k,x)::uL f v r) from rfl];by_cases hk:k=f
  ·rw[aj hk];subst hk;exact⟨by simp,λg h=>by simpa using h⟩
  ·rw[ai hk];refine⟨?_,λg h=>?_⟩
   ·rw[av];exact aZ _ i1
   ·rw[av]at h ⊢;rcases aJ.mp h with e|e
    ·exact aJ.mpr (.inl e)
    ·exact aZ _ (i2 g e)
theorem zj(f:Str)(v:V):∀fs:List (Str×V),(uL f v fs).length<=fs.length+1
 |[]=>by simp[uL]
 |(k,x)::r=>by
  have ih:=zj f v r;rw[show uL f v ((k,x)::r)=(if k=f then (k,v)::r else (k,x)::uL f v r) from rfl];by_cases hk:k=f
  ·rw[aj hk,aD,aD];omega
  ·rw[ai hk,aD,aD];omega
theorem vT.some_of{v:V}{o:Option aa}(r:vT (some v) o):∃u,o=some u/\RelV v u:=by
 cases o with
 |none=>exact(show False from r).elim
 |some u=>exact⟨u,rfl,r⟩
theorem vT.none_of{o:Option aa}(r:vT none o):o=none:=by
 cases o with
 |none=>rfl
 |some u=>exact(show False from r).elim
theorem HM{v:V}(r:RelV v u):W.handedIn u=true:=by
 cases v with
 |non=>cases (show u=Value.none from r);rfl
 |bl b=>cases (show u=Value.bool b from r);rfl
 |int i=>obtain⟨t,e⟩:=(show ∃t,u=Value.int i t from r);cases e;rfl
 |str x=>obtain⟨t,e⟩:=(show ∃t,u=Value.str x t from r);cases e;rfl
 |byt b=>obtain⟨t,e⟩:=(show ∃t,u=Value.bytes b t from r);cases e;rfl
 |flt b=>obtain⟨t,e⟩:=(show ∃t,u=Value.float b t from r);cases e;rfl
 |ref a=>cases (show u=Value.ref a from r);rfl
 |ty n=>cases (show u=Value.type n from r);rfl
section
variable{P:au}{w:aq}{H H':Hp}{h h':Heap}{a C dx:Addr}{fs fs':List (Str×V)}
theorem zY(hok:HOk P w H h)(e:H a=some (.ins C dx fs)):∃mA,Fe h a dx C mA/\(∀f,vT (fs.lookup f) (mA f))/\iJ mA (fs.map (·.1))/\fs.length<=1000/\H dx=some (.own a):=by obtain⟨d,z,ne,ob,mA,n,r,q⟩:=(show ObjOk P w H h a (.ins C dx fs) from hok a _ e);exact⟨mA,⟨ob,n,ne⟩,r,q,z,d⟩
end
structure Cls(K:ak)(C:Addr):Prop where
 pg:gV K C Str.empty=true
 hd:iU K C=true
 po:l7 K C=true
 sa:cb K (.ref C) "__setattr__" = some (some (.builtin "object.__setattr__"))
theorem Cls.get{K:ak}(c:Cls K C)(f:Str):gV K C f=true:=c.pg
def tG(K:ak)(C:Addr)(f:Str):Prop:=cb K (.ref C) f=some none
theorem tG.taker{K:ak}{f:Str}(n:tG K C f):ji K C f=some none:=by unfold ji;rw[show cb K (.ref C) f=some none from n];rfl
structure Meth(K:ak)(C:Addr)(m:Str)(f:Addr):Prop where
 at_:cb K (.ref C) m=some (some (.ref f))
 fn:ib K (.ref f)=true
 kp:cF K (.ref f)=true
section
variable{X:Cx}{pins:List (Addr×Obj)}{σ:St}{H:Hp}{s:ae}{a C dx:Addr}{fs:List (Str×V)}{f:Str}{v:V}{A:az}{E:aa->ae->Prop}
theorem Fg{b:Bool}(I:Inv X pins σ H s)(e:H a=some (.ins C dx fs))(c:Cls X.K C)(n:tG X.K C f)(l:fs.lookup f=some v)
  (h:∀u s',Inv X pins σ H s'->RelV v u->Q u s'):af (model X.prog X.w) A (getAttr (.ref a) f b) Q E s:=by
 obtain⟨mA,O,r,_,_,_⟩:=zY I.hok e;obtain⟨u,hu,ru⟩:=vT.some_of (v:=v) (o:=mA f) (by rw[<-l];exact r f);exact get_map I.kIn O (c.get f) c.hd n hu (HM ru) (h u _ (I.tok _) ru)
theorem Am{m:Str}{g:Addr}{pl:Sem Bool}{Q:aa×List aa->ae->Prop}(I:Inv X pins σ H s)(e:H a=some (.ins C dx fs))(c:Cls X.K C)(k:Meth X.K C m g)(l:fs.lookup m=none)
  (h:Q (.ref g,[.ref a]) s):af (model X.prog X.w) A (getMethod (.ref a) m pl) Q E s:=by
 obtain⟨mA,O,r,_,_,_⟩:=zY I.hok e;have hn:mA m=none:=vT.none_of (by rw[<-l];exact r m);exact JC I.kIn O (c.get m) k.at_ k.fn hn h
theorem Fh{Q:Unit->ae->Prop}(I:Inv X pins σ H s)(e:H a=some (.ins C dx fs))(c:Cls X.K C)(n:tG X.K C f)(hl:fs.length<1000)(ry:RelV y u)
  (h:∀s',Inv X pins σ (upd H a (.ins C dx (uL f y fs))) s'->Q () s'):af (model X.prog X.w) A (setAttr (.ref a) f u) Q E s:=by
 obtain⟨mA,O,r,wi,_,ho⟩:=zY I.hok e;have hz:(fs.map (·.1)).length<=aE:=by rw[ah,bh];omega
 refine Mt I.kIn O c.sa c.po n.taker c.hd wi hz λh' O' sb=>h _ ?_;have hd:∃o,h'.get? dx=some o:=let ⟨o,_,_,e',_⟩:=O'.ns;⟨o,e'⟩;refine I.write (x:=a) (e:=dx) (by rw[e];exact True.intro) (.inr ho) (λb q hb z=>(sb.2 b hb).trans z) hd ?_;refine⟨by rw[oF O.ne];exact ho,?_,O.ne,O'.obj,_,O'.ns,λg=>?_,λg hg=>?_⟩
 ·have:=zj f y fs;omega
 ·show vT ((uL f y fs).lookup g) (if g=f then some u else mA g);rw[zi];by_cases q:g=f
  ·rw[aj q,aj q];exact ry
  ·rw[ai q,ai q];exact r g
 ·by_cases q:g=f
  ·rw[q];exact(yL f y fs).1
  ·refine(yL f y fs).2 g (wi g λz=>hg ?_);show (if g=f then some u else mA g)=none;rw[ai q];exact z
theorem Inv.made(I:Inv X pins σ H s):Inv X pins σ (upd (upd H s.heap.objs.size (.own (s.heap.objs.size+1))) (s.heap.objs.size+1) (.ins C s.heap.objs.size []))
  { s with heap:=(s.heap.push cQ).push (de C s.heap.objs.size) }:=by
 have e1:(s.heap.push cQ).get? s.heap.objs.size=some cQ:=aS s.heap rfl;have e2:((s.heap.push cQ).push (de C s.heap.objs.size)).get? (s.heap.objs.size+1)=some (de C s.heap.objs.size):=by
  have:=aS (s.heap.push cQ) (o:=de C s.heap.objs.size) rfl
  rwa [cf]at this
 have e3:(s.heap.push cQ).Ns s.heap.objs.size (λ_=>none):=⟨cQ,#[],_,e1,rfl,(λe he=>ao he (by simp)),λ_=>rfl⟩;have I1:=I.laid (a:=s.heap.objs.size) (o:=.own (s.heap.objs.size+1)) (h':=s.heap.push cQ) (t':=s.toks) (λb u q=>aB _ q) (aA _) ⟨_,e1⟩;refine I1.laid (a:=s.heap.objs.size+1) (o:=.ins C s.heap.objs.size []) (t':=s.toks) (λb u q=>aB _ q) (lW (cf _ _)) ?_;have ne:s.heap.objs.size≠s.heap.objs.size+1:=aO (fg _);refine⟨by rw[oF ne,oH],bN _,ne,e2,λ_=>none,(Heap.Ns1.of_empty e3).at λo q=>aB _ q,λ_=>True.intro,λy hy=>ao rfl hy⟩
theorem Mu{prog:au}{w:aq}{env:Env}{f:Str}{s:ae}(hb:cy e f env (eval e env)=eval e env)
  (h:af (model prog w) A (eval e env) (λo s₁=>af (model prog w) A (getAttr o f true) Q E s₁) E s):af (model prog w) A (eval (.Attribute e f pos) env) Q E s:=
 Attribute_any_ h (by rw[arm_eval_Attribute,hb])
end
def UT(K:ak)(ta:TE)(f:Str):TE:=λσ H Q=>ta σ H λx H1=>∃a C dx fs v,x=.ref a/\H1 a=some (.ins C dx fs)/\Cls K C/\tG K C f/\fs.lookup f=some v/\Q v H1
def To(K:ak)(ta tv:TE)(f:Str):TS:=λD σ H=>tv σ H λy H1=>ta σ H1 λx H2=>∃a C dx fs,x=.ref a/\H2 a=some (.ins C dx fs)/\Cls K C/\tG K C f/\fs.length<1000/\
 D.nx σ (upd H2 a (.ins C dx (uL f y fs)))
section
variable{X:Cx}{o e value:Expr}{f:Str}{pos pos' tpos:Pos}{ta tv:TE}
theorem Px(he:PE X e ta)(hb:cy e f X.env (eval e X.env)=eval e X.env):PE X (.Attribute e f pos) (UT X.K ta f):=by intro pins s σ H Q I h;refine Mu hb (thn (he pins s σ H _ I h) λu s1 zz=>?_);obtain⟨x,H1,I1,rx,a,C,dx,fs,v,ex,ea,c,n,l,q⟩:=zz;subst ex;obtain rfl:u=Value.ref a:=rx;exact Fg I1 ea c n l λu' s2 I2 ru=>⟨v,H1,I2,ru,q⟩
theorem Py(ha:PE X o ta)(hv:PE X value tv)(hs:cn value (some (.Attribute o f pos')) pos.line X.env=pure false):PS X (.Assign [.Attribute o f pos'] value pos) (To X.K ta tv f):=by intro pins s σ H D I h;refine plainObj_wpAny_Assign_Attribute (thn (hv pins s σ H _ I h) λu s1 ⟨y,H1,I1,ry,q⟩=>thn (ha pins s1 σ H1 _ I1 q) λov s2 zz=>?_) hs;obtain⟨x,H2,I2,rx,a,C,dx,fs,ex,ea,c,n,l,q2⟩:=zz;subst ex;obtain rfl:ov=Value.ref a:=rx;exact Fh I2 ea c n l ry λs3 I3=>⟨σ,_,I3,q2⟩
end
section
variable{X:Cx}{pins:List (Addr×Obj)}{σ:St}{H:Hp}{s:ae}{A:az}{E:aa->ae->Prop}{Q:aa->ae->Prop}{c:aa}{b:Bool}
inductive zS(K:ak) (H:Hp):V->aa->Prop where
 |non:zS K H .non (.type "NoneType")
 |bl (x:Bool):zS K H (.bl x) (.type "bool")
 |int (i:Int):zS K H (.int i) (.type "int")
 |str (x:Str):zS K H (.str x) (.type "str")
 |flt (x:UInt64):zS K H (.flt x) (.type "float")
 |lst {a:Addr} {xs:List V} (e:H a=some (.lst xs)):zS K H (.ref a) (.type "list")
 |frz {a:Addr} {o:Obj} {xs:List V} (e:H a=some (.frz o (.lst xs))):zS K H (.ref a) (.type "list")
 |tup {a:Addr} {xs:List V} (e:H a=some (.tup xs)):zS K H (.ref a) (.type "tuple")
 |dK {a:Addr} {kvs:List (Key×V)} (e:H a=some (.dK kvs)):zS K H (.ref a) (.type "dict")
 |dT {a:Addr} {kvs:List (List Key×V)} (e:H a=some (.dT kvs)):zS K H (.ref a) (.type "dict")
 |ins {a C dx:Addr} {fs:List (Str×V)} (e:H a=some (.ins C dx fs)) (cl:Cls K C) (ha:cb K (.ref C) "__class__" = some (some (.builtin "object.__class__")))
   (hn:l8 K (.builtin "object.__class__") "__get__" = some (some (.builtin "getset_descriptor.__get__"))) (htk:W.takesIn K (.builtin "object.__class__")=some true)
   (hm:W.mroIn K C (.type "object")=some true):zS K H (.ref a) (.ref C)
theorem tu{x:V}{t:aa}(I:Inv X pins σ H s)(rx:RelV x u)(ty:zS X.K H x t)(e:cc X.K t c=some b)(h:∀tk,Q (.bool b) { s with toks:=tk }):
  af (model X.prog X.w) A (call (.builtin "isinstance") [u,c]) Q E s:=by
 cases ty with
 |non=>cases (show u=Value.none from rx);exact bQ W.kitx_none I.kIn True.intro e (λz=>nomatch z) h
 |bl y=>cases (show u=Value.bool y from rx);exact bQ W.kitx_bool I.kIn True.intro e (λz=>nomatch z) h
 |int i=>obtain⟨t,q⟩:=(show ∃t,u=Value.int i t from rx);cases q;exact bQ W.kitx_int I.kIn True.intro e (λz=>nomatch z) h
 |str y=>obtain⟨t,q⟩:=(show ∃t,u=Value.str y t from rx);cases q;exact bQ W.kitx_str I.kIn True.intro e (λz=>nomatch z) h
 |flt y=>obtain⟨t,q⟩:=(show ∃t,u=Value.float y t from rx);cases q;exact bQ W.kitx_float I.kIn True.intro e (λz=>nomatch z) h
 |@lst a xs ea=>cases (show u=Value.ref a from rx);obtain⟨_,_,n,_,h1⟩:=(show ObjOk X.prog X.w H s.heap a (.lst xs) from I.hok a _ ea);exact bQ iV I.kIn ⟨_,h1,rfl⟩ e (λz=>nomatch z) h
 |@frz a ob xs ea=>cases (show u=Value.ref a from rx);obtain⟨_,_,_,n,_,h1⟩:=(show ObjOk X.prog X.w H s.heap a (.frz ob (.lst xs)) from I.hok a _ ea);exact bQ iV I.kIn ⟨_,h1,rfl⟩ e (λz=>nomatch z) h
 |@tup a xs ea=>cases (show u=Value.ref a from rx);obtain⟨_,_,_,p⟩:=(show ObjOk X.prog X.w H s.heap a (.tup xs) from I.hok a _ ea);obtain⟨o,h1,h2,_⟩:=p;exact bQ lX I.kIn ⟨o,h1,h2⟩ e (λz=>nomatch z) h
 |@dK a kvs ea=>cases (show u=Value.ref a from rx);obtain⟨_,_,vs,_,p⟩:=(show ObjOk X.prog X.w H s.heap a (.dK kvs) from I.hok a _ ea);obtain⟨o,es,ep,h1,h2,_⟩:=p;exact bQ iW I.kIn ⟨o,h1,h2.1⟩ e (λz=>nomatch z) h
 |@dT a kvs ea=>cases (show u=Value.ref a from rx);obtain⟨_,_,xs,_,o,es,ep,h1,h2,_⟩:=(show ObjOk X.prog X.w H s.heap a (.dT kvs) from I.hok a _ ea);exact bQ iW I.kIn ⟨o,h1,h2.1⟩ e (λz=>nomatch z) h
 |@ins a C dx fs ea cl ha hn htk hm=>cases (show u=Value.ref a from rx);obtain⟨mA,O,_⟩:=zY I.hok ea;obtain⟨od,J,_⟩:=O.look;exact bQ (W.kitx_own (cl.get _) cl.hd ha hn htk hm) I.kIn J e (λz=>nomatch z) h
end
structure pW(k:Nat)(A:az):Prop where
 hd:A.handled=none
 dp:A.depth+3 * k+5<recursionLimit
 un:A.units+16 * k+200<cLine
theorem pW.mono{k:Nat}{A:az}(r:pW k A)(h:j<=k):pW j A:=⟨r.hd,by have:=r.dp;omega,by have:=r.un;omega⟩
theorem pW.deeper{k:Nat}{A:az}(r:pW (k+1) A)(env:Env):pW k (A.deeper env):=
 ⟨r.hd,by have:=r.dp;show A.depth+1+3 * k+5<_;omega,by have:=r.un;show A.units+3+16 * k+200<_;omega⟩
theorem Fi{A:az}:(A.under (.builtin "type.__call__" ⟨.ref C::us,kw⟩)).depth=A.depth+1:=by
 first|rfl|simp[iK,Code.weight,Code.isCreation,Code.isGuard,Code.isCaller,l9,iM,guardIds]
theorem Fj{A:az}:(A.under (.builtin "type.__call__" ⟨.ref C::us,kw⟩)).units=A.units+1:=by
 first|rfl|simp[iK,Code.cUnits,l9,iM]
theorem pW.make{k:Nat}{A:az}(r:pW (k+1) A)(C:Addr)(us:List aa)(kw:List (Str×aa)):pW k (A.under (.builtin "type.__call__" ⟨.ref C::us,kw⟩)):=
 ⟨r.hd,by have:=r.dp;rw[Fi];omega,by have:=r.un;rw[Fj];omega⟩
theorem pW.depth{k:Nat}{A:az}(r:pW k A):A.depth<recursionLimit:=by have:=r.dp;omega
theorem pW.units{k:Nat}{A:az}(r:pW k A):A.units+64<cLine:=by have:=r.un;omega
def DU:TA:=λ_ H Q=>Q [] H
def An(ta:TE)(tr:TA):TA:=λσ H Q=>ta σ H λx H1=>tr σ H1 λxs H2=>Q (x::xs) H2
section
variable{X:Cx}{e:Expr}{es:List Expr}{te:TE}{t:TA}{pos:Pos}
theorem uy:PA X [] DU:=λ_ _ _ _ H Q I h=>eU ⟨[],H,I,.nil,h⟩
theorem qK(ha:PE X e te)(hr:PA X es t)(hs:ar (e::es) X.env=(false,eval e X.env)::ar es X.env:=by rfl):PA X (e::es) (An te t):=by intro pos pins s σ H Q I h;rw[hs];show af _ _ (spliced ((false,eval e X.env)::aV pos (ar es X.env))) _ _ s;refine dq (thn (ha pins s σ H _ I h) λu s1 zz=>?_);obtain⟨x,H1,I1,r1,q1⟩:=zz;exact thn (hr pos pins s1 σ H1 _ I1 q1) λus s2 ⟨xs,H2,I2,r2,q2⟩=>⟨x::xs,H2,I2,.cons r1 r2,q2⟩
def UU(t:TA):TE:=λσ H Q=>t σ H λxs H1=>xs.length<=aE/\∀p,H1 p=none->Q (.ref p) (upd H1 p (.tup xs))
def Tp(t:TA):TE:=λσ H Q=>t σ H λxs H1=>xs.length<=aE/\∀p,H1 p=none->Q (.ref p) (upd H1 p (.lst xs))
theorem JE{x1}(h:PA X es t):PE X (.Tuple es x1 pos) (UU t):=by intro pins s σ H Q I hq;refine wpAny_Tuple_spliced (thn (h pos pins s σ H _ I hq) λus s1 ⟨xs,H1,I1,r,z,q⟩=>⟨by rw[<-r.length];exact z,?_⟩);have hf:H1 s1.heap.objs.size=none:=I1.hok.fresh (aA _);refine⟨.ref s1.heap.objs.size,upd H1 s1.heap.objs.size (.tup xs),I1.laid (t':=s1.toks) (λb u e=>aB _ e) (aA _) ?_,rfl,q _ hf⟩;exact⟨z,us,r,⟨_,aS _ rfl,rfl,_,rfl⟩⟩
theorem JF(h:PA X es t):PE X (.List es pos) (Tp t):=by intro pins s σ H Q I hq;refine wpAny_List_spliced (thn (h pos pins s σ H _ I hq) λus s1 ⟨xs,H1,I1,r,z,q⟩=>⟨by rw[<-r.length];exact z,?_⟩);have hf:H1 s1.heap.objs.size=none:=I1.hok.fresh (aA _);refine⟨.ref s1.heap.objs.size,upd H1 s1.heap.objs.size (.lst xs),I1.laid (t':=s1.toks) (λb u e=>aB _ e) (aA _) ?_,rfl,q _ hf⟩;exact⟨z,us,0,r,aS _ rfl⟩
end
abbrev Sp:=List V->Hp->VK->XK->Prop
abbrev CXT:=List Env->Hp->ae->XK->aa->ae->Prop
structure Fk(P:au)(w:aq)(K:ak)(mg:Str->Option aa)(base:Heap)(A:az)(outer:List Env)(s:ae)(H:Hp):Prop where
 frames:A.frames=some outer
 mod:Mod K mg base
 bs:∀b o,base.get? b=some o->s.heap.get? b=some o/\H b=none
 bsz:base.objs.size<=s.heap.objs.size
 funs:s.heap.FunFrames base outer
 frf:∀b∈frs outer,H b=none
 hok:HOk P w H s.heap
 bare:cS s.gens
def CE(outer:List Env)(P:au)(w:aq)(H:Hp)(s:ae)(Q:VK)(u:aa)(s':ae):Prop:=
 ∃v H',s'.os=s.os/\cS s'.gens/\Un (frs outer) [] H H' s.heap s'.heap/\HOk P w H' s'.heap/\RelV v u/\Q v H'
def CR(CX:CXT)(outer:List Env)(P:au)(w:aq)(H:Hp)(s:ae)(Q:VK)(E:XK)(r:di)(s':ae):Prop:=
 match r with
 |.ok (.ret u)=>CE outer P w H s Q u s'
 |.ok _=>False
 |.error e=>CX outer H s E e s'
structure se(P:au)(w:aq)(K:ak)(mg:Str->Option aa)(base:Heap)(CX:CXT)(k:Nat)(f:Addr)(fd:bb)(ps:List Str)(sp:Sp):Prop where
 len:∀vs H Q E,sp vs H Q E->vs.length=ps.length
 run:∀(A:az) (outer:List Env) (s:ae) (H:Hp) (args:Args) (us:List aa) (vs:List V) (Q:VK) (E:XK),pW k A->Fk P w K mg base A outer s H->eF s fd args (ps.zip us)->Vals vs us->sp vs H Q E->
  bR (model P w) A (.call (.ref f) args) (CR CX outer P w H s Q E) s
variable{mg:Str->Option aa}{base:Heap}{CX:CXT}{fd:bb}{ps:List Str}{sp:Sp}
theorem se.imp{P:au}{w:aq}{K:ak}{k:Nat}{f:Addr}{sp':Sp}(F:se P w K mg base CX k f fd ps sp)
  (h:∀vs H Q E,sp' vs H Q E->sp vs H Q E):se P w K mg base CX k f fd ps sp':=
 ⟨λvs H Q E q=>F.len vs H Q E (h _ _ _ _ q),λA outer s H args us vs Q E hr he hb hv hs=>F.run A outer s H args us vs Q E hr he hb hv (h _ _ _ _ hs)⟩
variable{outer:List Env}
theorem Fk.make{P:au}{w:aq}{K:ak}{A:az}{s:ae}{H:Hp}(e:Fk P w K mg base A outer s H)(C:Addr)(us:List aa)(kw:List (Str×aa)):
  Fk P w K mg base (A.under (.builtin "type.__call__" ⟨.ref C::us,kw⟩)) outer s H:=⟨by first|exact e.frames|(simpa [iK,Code.envs,iM,pushEnvs]using e.frames),e.mod,e.bs,e.bsz,e.funs,e.frf,e.hok,e.bare⟩
section
variable{X:Cx}{pins:List (Addr×Obj)}{σ:St}{H:Hp}{s s':ae}
theorem Inv.env0(I:Inv X pins σ H s):Fk X.prog X.w X.K X.mg X.base X.A X.stack s H:=
 ⟨I.ok.frames,I.ok.mod,I.bs,bM I.ok.bsz I.sz,I.stack,I.stkFree,I.hok,I.bare⟩
theorem Inv.after{Q:VK}(I:Inv X pins σ H s)(h:CE X.stack X.prog X.w H s Q u s'):EP X pins σ Q u s':=by obtain⟨v,H',os,bare,un,hok,r,q⟩:=h;obtain⟨hh,g,d,t,os'⟩:=s';obtain rfl:os'=s.os:=os;exact⟨v,H',I.call (h':=hh) (g':=g) (d':=d) (t':=t) (ch:=[]) un hok bare (λb z=>ao z (by simp)),r,q⟩
end
def xc(sp:Sp)(dvs:List V)(E:XK)(t:TA):TE:=λσ H Q=>t σ H λvs H1=>sp (vs++dvs) H1 Q E
def OL(C:Addr)(sp:Sp)(dvs:List V)(E:XK)(t:TA):TE:=λσ H Q=>t σ H λvs H1=>∀x dx,H1 x=none->H1 dx=none->dx≠x->
 sp (.ref x::(vs++dvs)) (upd (upd H1 dx (.own x)) x (.ins C dx [])) (λv H2=>v=.non/\Q (.ref x) H2) E
def Binds(K:ak)(fd:bb)(ps:List Str)(ds:List aa):Prop:=
 ∀(s:ae) (us:List aa),K.In s.heap->(us++ds).length=ps.length->eF s fd ⟨us,[]⟩ (ps.zip (us++ds))
theorem Binds.all{K:ak}(h:∀us:List aa,us.length=ps.length->bindArgs fd ⟨us,[]⟩=pure (ps.zip us)):Binds K fd ps []:=λs us _ hl=>by rw[br]at hl ⊢;exact .of_eq (h us hl)
def Passes(CX:CXT)(X:Cx)(E:XK):Prop:=∀(pins:List (Addr×Obj)) (σ:St) (H:Hp) (s:ae) (e:aa) (s':ae),Inv X pins σ H s->CX X.stack H s E e s'->X.xe e s'
variable{vs:List V}
section
variable{X:Cx}{CX:CXT}{k:Nat}{f C:Addr}{fd:bb}{ps:List Str}{sp:Sp}{dvs:List V}{ds:List aa}{E:XK}{x m:Str}{p pos apos:Pos}{e o:Expr}{es:List Expr}{ta:TE}{t:TA}
theorem CW{H:Hp}{s:ae}{Q:VK}(F:se X.prog X.w X.K X.mg X.base CX k f fd ps sp)(hr:pW k X.A)(hb:Binds X.K fd ps ds)(hd:Vals dvs ds)(hx:Passes CX X E)
  (I:Inv X pins σ H s) (r:Vals vs us) (h:sp (vs++dvs) H Q E):af (model X.prog X.w) X.A (call (.ref f) us) (EP X pins σ Q) X.xe s:=by
 have r2:Vals (vs++dvs) (us++ds):=r.append hd;have hl:(us++ds).length=ps.length:=by rw[<-r2.length];exact F.len _ _ _ _ h
 refine jc (eA (F.run X.A X.stack s H ⟨us,[]⟩ (us++ds) (vs++dvs) Q E hr I.env0 (hb s us I.kIn hl) r2 h) λr s' hq=>?_);cases r with
 |error e=>exact hx pins σ H s e s' I hq
 |ok fl=>
  cases fl with
  |ret u=>exact I.after hq
  |next=>exact bW hq
  |brk=>exact bW hq
  |cont=>exact bW hq
theorem xY(F:se X.prog X.w X.K X.mg X.base CX k f fd ps sp)(hr:pW k X.A)(hg:Gl X x)(hm:X.mg x=some (.ref f))(hk:cF X.K (.ref f)=true)(hb:Binds X.K fd ps ds)(hd:Vals dvs ds)(hx:Passes CX X E)
  (ha:PA X (e::es) t) (hdb:(x==("__debug__" : Str))=false:=by decide) (he:ar (e::es) X.env=(false,eval e X.env)::ar es X.env:=by rfl) (hpl:(aV pos (ar es X.env)).any (·.1)=false:=by rfl):
  PE X (.Call (.Name x p) (e::es) [] pos) (xc sp dvs E t):=by
 intro pins s σ H Q I h;refine dr (zW I hg hm ?_ hdb);refine iN (h₀:=X.base) I.ok.mod.kin hk (thn (ha pos pins s σ H _ I h) λus s1 ⟨vs,H1,I1,r,q⟩=>⟨I1.kIn,?_⟩) he hpl;exact CW F hr hb hd hx I1 r q
theorem JG(F:se X.prog X.w X.K X.mg X.base CX k f fd ps sp)(hr:pW k X.A)(hg:Gl X x)(hm:X.mg x=some (.ref f))(hk:cF X.K (.ref f)=true)(hb:Binds X.K fd ps ds)(hd:Vals dvs ds)(hx:Passes CX X E)
  (hdb:(x==("__debug__" : Str))=false:=by decide):PE X (.Call (.Name x p) [] [] pos) (xc sp dvs E DU):=by
 intro pins s σ H Q I h;refine dr (zW I hg hm ?_ hdb);exact lG I.kIn hk (CW (us:=[]) F hr hb hd hx I .nil h)
structure Mk(K:ak)(C f:Addr):Prop where
 makes:W.makesIn K C=true
 init:cb K (.ref C) "__init__" = some (some (.ref f))
 fn:ib K (.ref f)=true
 kp:cF K (.ref C)=true
theorem JH{H:Hp}{s:ae}{Q:VK}(M:Mk X.K C f)(F:se X.prog X.w X.K X.mg X.base CX k f fd ps sp)(hr:pW (k+1) X.A)(hb:Binds X.K fd ps ds)(hd:Vals dvs ds)
  (hx:Passes CX X E) (I:Inv X pins σ H s) (r:Vals vs us)
  (h:∀x dx,H x=none->H dx=none->dx≠x->sp (.ref x::(vs++dvs)) (upd (upd H dx (.own x)) x (.ins C dx [])) (λv H2=>v=.non/\Q (.ref x) H2) E):
  af (model X.prog X.w) X.A (call (.ref C) us) (EP X pins σ Q) X.xe s:=by
 have hq:=h (s.heap.objs.size+1) s.heap.objs.size (I.hok.fresh (gU _)) (I.hok.fresh (aA _)) (aO (fg _));have I2:=Inv.made (C:=C) I;have r2:Vals (V.ref (s.heap.objs.size+1)::(vs++dvs)) (Value.ref (s.heap.objs.size+1)::(us++ds)):=.cons rfl (r.append hd);have hl:(Value.ref (s.heap.objs.size+1)::us++ds).length=ps.length:=by have e:=r2.length;rw[F.len _ _ _ _ hq]at e;exact e.symm
 refine jc (JD (f:=f) I.kIn M.makes M.init (beq_iff_eq.mp M.fn) (eA (F.run _ X.stack _ _ ⟨Value.ref (s.heap.objs.size+1)::us,[]⟩ (Value.ref (s.heap.objs.size+1)::(us++ds)) _ _ E (hr.make C us [])
  (I2.env0.make C us []) (hb _ (Value.ref (s.heap.objs.size+1)::us) I2.kIn hl) r2 hq) λr s' hq'=>?_))
 cases r with
 |error e=>exact hx pins σ _ _ e s' I2 hq'
 |ok fl=>
  cases fl with
  |ret u=>obtain⟨v,H',I3,rv,ev,q3⟩:=I2.after hq';subst ev;exact⟨rv,⟨V.ref (s.heap.objs.size+1),H',I3,rfl,q3⟩⟩
  |next=>exact bW hq'
  |brk=>exact bW hq'
  |cont=>exact bW hq'
theorem Mv(M:Mk X.K C f)(F:se X.prog X.w X.K X.mg X.base CX k f fd ps sp)(hr:pW (k+1) X.A)(hg:Gl X x)(hm:X.mg x=some (.ref C))(hb:Binds X.K fd ps ds)(hd:Vals dvs ds)(hx:Passes CX X E)
  (ha:PA X (e::es) t) (hdb:(x==("__debug__" : Str))=false:=by decide) (he:ar (e::es) X.env=(false,eval e X.env)::ar es X.env:=by rfl) (hpl:(aV pos (ar es X.env)).any (·.1)=false:=by rfl):
  PE X (.Call (.Name x p) (e::es) [] pos) (OL C sp dvs E t):=by
 intro pins s σ H Q I h;refine dr (zW I hg hm ?_ hdb);refine iN (h₀:=X.base) I.ok.mod.kin M.kp (thn (ha pos pins s σ H _ I h) λus s1 ⟨vs,H1,I1,r,q⟩=>⟨I1.kIn,?_⟩) he hpl;exact JH M F hr hb hd hx I1 r q
end
structure pS(N P:List Str)(sc:bY):Prop where
 kind:sc.kind=.function
 co:sc.isCoroutine=false
 gen:sc.isGenerator=false
 nd:N.Nodup
 pre:N.take P.length=P
 par:∀x∈P,sc.names.lookup x=some .local\/sc.names.lookup x=some .cell
 nofree:∀y∈sc.names,y.2≠.free
theorem BX{kindOf:Str->Option cG}{x:Str}:∀{binds:List (Str×aa)} {m:Str->Option aa},(∀v,(x,v)∉binds)->bindL kindOf binds m x=m x
 |[],_,_=>rfl
 |(n,v)::r,m,h=>by
  unfold bindL;rw[BX λw hw=>h w (aZ _ hw)];split
  ·have:x≠n:=by rintro rfl;exact h v aT
   simp[this]
  ·rfl
theorem BY{kindOf:Str->Option cG}{x:Str}:∀{binds:List (Str×aa)} {m:Str->Option aa},(∀v,(x,v)∉binds)->bindC kindOf binds m x=m x
 |[],_,_=>rfl
 |(n,v)::r,m,h=>by
  unfold bindC;rw[BY λw hw=>h w (aZ _ hw)];split
  ·rfl
  ·have:x≠n:=by rintro rfl;exact h v aT
   simp[this]
theorem BZ{kindOf:Str->Option cG}{x:Str}{v:aa}:∀{P:List Str} {vs:List aa} {i:Nat} {m:Str->Option aa},P.Nodup->P[i]?=some x->vs[i]?=some v->kindOf x=some .local->
  bindL kindOf (P.zip vs) m x=some v
 |[],_,_,_,_,h,_,_=>by simp at h
 |_::_,[],_,_,_,_,h,_=>by simp at h
 |p::P,w::vs,0,m,nd,h1,h2,hk=>by simp at h1 h2;subst h1;subst h2;show bindL kindOf ((p,w)::P.zip vs) m p=_;unfold bindL;rw[BX λv hv=>(bU.mp nd).1 (gA hv).1,aj hk];simp
 |p::P,w::vs,i+1,m,nd,h1,h2,hk=>by show bindL kindOf ((p,w)::P.zip vs) m x=_;unfold bindL;exact BZ (i:=i) (bU.mp nd).2 (by simpa using h1) (by simpa using h2) hk
theorem B2{kindOf:Str->Option cG}{x:Str}{v:aa}:∀{P:List Str} {vs:List aa} {i:Nat} {m:Str->Option aa},P.Nodup->P[i]?=some x->vs[i]?=some v->kindOf x≠some .local->
  bindC kindOf (P.zip vs) m x=some v
 |[],_,_,_,_,h,_,_=>by simp at h
 |_::_,[],_,_,_,_,h,_=>by simp at h
 |p::P,w::vs,0,m,nd,h1,h2,hk=>by simp at h1 h2;subst h1;subst h2;show bindC kindOf ((p,w)::P.zip vs) m p=_;unfold bindC;rw[BY λv hv=>(bU.mp nd).1 (gA hv).1,ai hk];simp
 |p::P,w::vs,i+1,m,nd,h1,h2,hk=>by show bindC kindOf ((p,w)::P.zip vs) m x=_;unfold bindC;exact B2 (i:=i) (bU.mp nd).2 (by simpa using h1) (by simpa using h2) hk
def start(N:List Str)(vs:List V):St:=vs.map some++fq (N.length - vs.length) none
def DV(CX:CXT)(P:au)(w:aq)(K:ak)(mg:Str->Option aa)(base:Heap)(N:List Str)(qual:Str)(scope:bY)(f:Addr)(cd:aa)(A:az)(outer:List Env)(s:ae)(H:Hp)(E:XK):Cx where
 prog:=P
 w:=w
 K:=K
 mg:=mg
 base:=base
 A:=A.deeper (envOfC qual scope s.heap.objs.size f cd)
 N:=N
 s₀:=s
 H₀:=H
 env:=envOfC qual scope s.heap.objs.size f cd
 outer:=outer
 stack:=envOfC qual scope s.heap.objs.size f cd::outer
 ex:=[]
 calm:=true
 fn:=λ_=>true
 pn:=[]
 xe:=λe s'=>af (model P w) (A.deeper (envOfC qual scope s.heap.objs.size f cd)) (leaving (envOfC qual scope s.heap.objs.size f cd) e) (λ_ s''=>CX outer H s E e s'') (λe' s''=>CX outer H s E e' s'') s'
theorem DW{sc:bY}{n:Nat}{x:Str}(h:sc.names.lookup x=some .cell):∃c,(cellsFrom n sc.names []).lookup x=some c:=by have q:=kx sc.names n [] (.inl h);exact Option.isSome_iff_exists.mp q
variable{qual:Str}{scope:bY}
theorem HN{P:au}{w:aq}{K:ak}{f:Addr}{cd:aa}{A:az}{s s1:ae}{H:Hp}{E:XK}
  (S:pS N ps scope) (hd:A.handled=none) (e0:Fk P w K mg base A outer s H) (hl:vs.length=ps.length) (r:Vals vs us)
  (x:InCallC s s.heap.objs.size (bindL (envOfC qual scope s.heap.objs.size f cd).kindOf (ps.zip us) λ_=>none) (cellsFrom (s.heap.objs.size+1) scope.names []) (bindC (envOfC qual scope s.heap.objs.size f cd).kindOf (ps.zip us) λ_=>none) s1):
  Inv (DV CX P w K mg base N qual scope f cd A outer s H E) [] (start N vs) H s1:=by
 have hpl:ps.length<=N.length:=by have:=aL bH S.pre;rw[bq]at this;omega
 obtain⟨h1,tk,rfl,hk⟩:=x.done;have noA:∀b:Addr,b∉(DV CX P w K mg base N qual scope f cd A outer s H E).ex:=λb z=>ao (show b∈([]:List Addr) from z) (by simp);refine⟨⟨e0.mod,S.kind,rfl,rfl,aA _,λy z c h1 h2=>?_,λy hy=>?_,λy c _ h=>?_,λ_=>hd,Around.frames_deeper e0.frames,.inr ⟨rfl,rfl⟩,λb z=>ao z (noA b),e0.bs,e0.bsz,λb _ _=>noA b,λb z=>ao z (noA b),e0.funs,e0.frf⟩,
  rfl,e0.bare,Un.kept hk,⟨_,x.toInCall.ns,λi y v h1 h2 h3=>?_⟩,λy c h=>⟨_,x.cell y c h⟩,e0.hok.fresh (aA _),λy c h=>?_,λp hp=>ao (show p∈([]:List (Addr×Obj)) from hp) (by simp),e0.hok.kept hk,?_⟩
 ·exact name_of_addr x.apart (eM h1) (eM h2)
 ·have hy:scope.names.lookup y=some .cell\/scope.names.lookup y=some .free:=hy;rcases hy with hy|hy
  ·exact DW hy
  ·exact ao rfl (S.nofree _ (eM hy))
 ·exact fD (x.above y c (eM h))
 ·have hi:i<vs.length:=by
   unfold start at h2;by_cases hi:i<vs.length
   ·exact hi
   ·rw[cJ (by simpa using hi)]at h2;rw[eI]at h2;split at h2<;>cases h2
  have ha:vs[i]?=some v:=by
   unfold start at h2;rw[cK (by simpa using hi),aW]at h2;cases e:vs[i]? with
   |none=>rw[e]at h2;cases h2
   |some a=>rw[e]at h2;cases h2;rfl
  obtain⟨u,hu,rv⟩:=r.get ha;have hp:ps[i]?=some y:=by rw[<-S.pre,List.getElem?_take_of_lt (by omega)];exact h1
  have ndP:ps.Nodup:=by rw[<-S.pre];exact S.nd.sublist (gf _ _)
  refine⟨u,rv,?_⟩;rcases S.par y (bK hp)with k|k
  ·exact .inl ⟨k,BZ ndP hp hu k⟩
  ·obtain⟨c,e⟩:=DW (n:=s.heap.objs.size+1) k;refine .inr ⟨.inl k,c,e,?_⟩;have q:=x.cell y c e;rw[B2 ndP hp hu (by show scope.names.lookup y≠_;rw[k];decide)]at q;exact q
 ·exact e0.hok.fresh (fD (x.above y c (eM h)))
 ·unfold start;show _=N.length;rw[aI,ah,bO];omega
theorem OM{P:au}{w:aq}{K:ak}{k:Nat}{f:Addr}{name:Str}{params:Arguments}{dV kV doc pm cdv ct oc:aa}{an od:Option Addr}
  {osl:Array (Option aa)} (lk:K.lookup f=some ⟨oc,od,.func (cX name qual params body scope dV kV doc pm an cdv ct),osl⟩) (hcd:eD K cdv qual=true) (S:pS N ps scope)
  (len:∀vs H Q E,sp vs H Q E->vs.length=ps.length)
  (hbody:∀(A:az) (outer:List Env) (s:ae) (H:Hp) (vs:List V) (Q:VK) (E:XK),pW k (A.deeper (envOfC qual scope s.heap.objs.size f cdv))->sp vs H Q E->
   ∃t,PSs (DV CX P w K mg base N qual scope f cdv A outer s H E) body t/\t { nx:=λ_ H'=>Q .non H',rt:=Q } (start N vs) H):
  se P w K mg base CX (k+1) f (cX name qual params body scope dV kV doc pm an cdv ct) ps sp:=by
 refine⟨len,λA outer s H args us vs Q E hr e0 hb r hsp=>?_⟩;have hl:=len _ _ _ _ hsp;have KX:K.In s.heap:=e0.mod.kin.keeps λb o e=>(e0.bs b o e).1;have lim:s.heap.NoLimit:=e0.mod.nolimit.keeps λb o e=>(e0.bs b o e).1;have hkind:∀y∈ps.zip us,scope.names.lookup y.1=some .local\/(scope.names.lookup y.1=some .cell/\((cellsFrom (s.heap.objs.size+1) scope.names []).lookup y.1).isSome=true):=λ⟨n,v⟩ hy=>by
  rcases S.par n (gA hy).1 with q|q
  ·exact .inl q
  ·exact .inr ⟨q,kx _ _ _ (.inl q)⟩
 refine codeAny_call_function hr.depth (KX _ _ lk) rfl S.co S.gen rfl (W.codeRec_of KX hcd) (hb _ _ _ _ ?_);refine wpAny_newFunctionEnv_cells S.kind hkind λenv he s1 x=>?_;subst he;refine⟨lim.keeps x.toInCall.keep,codeAny_func ?_⟩;obtain⟨t,ht,hq⟩:=hbody A outer s H vs Q E (hr.deeper _) hsp;have I:Inv (DV CX P w K mg base N qual scope f cdv A outer s H E) [] (start N vs) H s1:=HN S hr.hd e0 hl r x;refine bx (ht [] s1 (start N vs) H _ I hq) (λfl s' hs=>?_) λe s' hs=>hs;have fin:∀{σ':St} {H':Hp} {v:V} {u:aa},Inv (DV CX P w K mg base N qual scope f cdv A outer s H E) [] σ' H' s'->RelV v u->Q v H'->CE outer P w H s Q u s':=
  λ{σ' H' v u} J rv q=>⟨v,H',J.os,J.bare,J.base,J.hok,rv,q⟩
 cases fl with
 |ret u=>obtain⟨v,σ',H',J,rv,q⟩:=hs;exact fin J rv q
 |next=>obtain⟨σ',H',J,q⟩:=hs;exact fin (v:=V.non) (u:=Value.none) J rfl q
 |brk=>obtain⟨_,_,_,q⟩:=hs;exact bW q
 |cont=>obtain⟨_,_,_,q⟩:=hs;exact bW q
section
variable{X:Cx}{x:Str}{p pos:Pos}{e:Expr}{es:List Expr}{t:TA}{id T:String}{r:List V->Hp->VK->Prop}
def tCB(r:List V->Hp->VK->Prop)(t:TA):TE:=λσ H Q=>t σ H λvs H1=>r vs H1 Q
theorem Ao(hc:qb X (.builtin id) r)(hg:Gl X x)(hm:X.mg x=none)(hv:cB x=some (.builtin id))(ha:PA X (e::es) t)(hn:x≠"__name__" := by decide)(hdb:(x==("__debug__" : Str))=false:=by decide)
  (he:ar (e::es) X.env=(false,eval e X.env)::ar es X.env:=by rfl) (hpl:(aV pos (ar es X.env)).any (·.1)=false:=by rfl):PE X (.Call (.Name x p) (e::es) [] pos) (tCB r t):=by
 intro pins s σ H Q I h;refine dr (vY I hg hm hv ?_ hn hdb);exact callWith_builtin1 (thn (ha pos pins s σ H _ I h) λus s1 ⟨vs,H1,I1,r1,q1⟩=>hc pins s1 σ H1 vs us Q I1 r1 q1) he hpl
theorem HP(hc:qb X (.type T) r)(hg:Gl X x)(hm:X.mg x=none)(hv:cB x=some (.type T))(ha:PA X (e::es) t)(hn:x≠"__name__" := by decide)(hdb:(x==("__debug__" : Str))=false:=by decide)
  (he:ar (e::es) X.env=(false,eval e X.env)::ar es X.env:=by rfl) (hpl:(aV pos (ar es X.env)).any (·.1)=false:=by rfl):PE X (.Call (.Name x p) (e::es) [] pos) (tCB r t):=by
 intro pins s σ H Q I h;refine dr (vY I hg hm hv ?_ hn hdb);exact callWith_type1 (thn (ha pos pins s σ H _ I h) λus s1 ⟨vs,H1,I1,r1,q1⟩=>hc pins s1 σ H1 vs us Q I1 r1 q1) he hpl
end
end L2
namespace HT
open PySem PyProof.Rows
section
variable{prog:au}{w:aq}{A:az}{E:aa->ae->Prop}{s:ae}
theorem Mw{t b:Addr}{vs ws:List aa}{Q:aa->ae->Prop}(ht:cI s.heap t vs.toArray)(hb:cI s.heap b ws.toArray)(hv:vs≠[])
  (h1:ws=[]->Q (.ref t) s) (h2:ws≠[]->Q (.ref s.heap.objs.size) { s with heap:=s.heap.push { cls:=.type "tuple", data:=.seq (vs++ws).toArray } })
  (hsz:vs.length+ws.length<=aE):af (model prog w) A (bX .Add (.ref t) (.ref b)) Q E s:=by
 obtain⟨⟨cls,dd,data,sl⟩,ho,hc,n,hd⟩:=id ht;obtain⟨⟨cls2,dd2,data2,sl2⟩,ho2,hc2,n2,hd2⟩:=id hb;simp only at hc hd hc2 hd2;subst hc hd hc2 hd2;have e:vs.toArray++ws.toArray=(vs++ws).toArray:=by simp
 by_cases hw:ws=[]
 ·exact concat_meets ⟨_,ho,rfl⟩ ⟨_,ho2,rfl⟩ ky lH kz j8 (jV _ _)
   (tuple_addW1 t b vs.toArray ws.toArray n n2 dd dd2 sl sl2 (by simpa using hv) (by simp[hw])) ⟨ho,ho2,h1 hw⟩
 ·refine concat_meets ⟨_,ho,rfl⟩ ⟨_,ho2,rfl⟩ ky lH kz j8 (jV _ _)
   (tuple_addW2 t b vs.toArray ws.toArray n n2 dd dd2 sl sl2 (by simpa using hv) (by simpa using hw) (by rw[aQ,aQ];exact hsz)) ⟨ho,ho2,?_⟩
  rw[e];exact h2 hw
def sIx(n d:Nat):Option Int->Nat
 |none=>d
 |some v=>if v<0 then (v+(n:Int)).toNat else min v.toNat n
theorem DX(n d:Nat):sIx n d none=d:=rfl
theorem zZ(n d k:Nat):sIx n d (some (k:Int))=min k n:=by show (if (k:Int)<0 then ((k:Int)+(n:Int)).toNat else min (k:Int).toNat n)=min k n;rw[ai (by omega),dS]
end
end HT
namespace L2
open PySem PySem.Spec PyProof.Rows
abbrev TO:=St->Hp->(Option Int->Hp->Prop)->Prop
def PO(X:Cx)(e:Option Expr)(t:TO):Prop:=
 ∀(pins:List (Addr×Obj)) (s:ae) (σ:St) (H:Hp) (Q:Option Int->Hp->Prop),Inv X pins σ H s->t σ H Q->
  af (model X.prog X.w) X.A (evalPart e X.env) (λu s'=>∃o H',Inv X pins σ H' s'/\IsPart u o/\Q o H') X.xe s
def Mx:TO:=λ_ H Q=>Q none H
def Tq(t:TE):TO:=λσ H Q=>t σ H λx H1=>∃i,x=.int i/\Q (some i) H1
section
variable{X:Cx}{e:Expr}{te:TE}{lo hi:Option Expr}{tl th:TO}{pos p2:Pos}
theorem My:PO X none Mx:=by intro pins s σ H Q I h;rw[lI];exact aw ⟨none,H,I,.none,h⟩
theorem Gw(h:PE X e te):PO X (some e) (Tq te):=by intro pins s σ H Q I hw;rw[evalPart_some];refine thn (h pins s σ H _ I hw) λu s1 zz=>?_;obtain⟨x,H1,I1,r1,q1⟩:=zz;obtain⟨i,rfl,q⟩:=q1;obtain⟨t,rfl⟩:=r1;exact⟨some i,H1,I1,.int i t,q⟩
def SlR(X:Cx)(r:V->Option Int->Option Int->Hp->VK->Prop):Prop:=
 ∀(pins:List (Addr×Obj)) (s:ae) (σ:St) (H:Hp) (x:V) (v vl vu:aa) (lo hi:Option Int) (sl:Addr) (Q:VK),Inv X pins σ H s->RelV x v->s.heap.IsSliceOf sl vl vu .none->IsPart vl lo->IsPart vu hi->r x lo hi H Q->
  ∃T id,typeLookup (.type T) "__getitem__" = pure (some (.builtin id))/\s.TypeIs v T/\af (model X.prog X.w) X.A (getItem v (.ref sl)) (EP X pins σ Q) X.xe s
def tSl(r:V->Option Int->Option Int->Hp->VK->Prop)(te:TE)(tl th:TO):TE:=λσ H Q=>te σ H λx H1=>tl σ H1 λl H2=>th σ H2 λu H3=>r x l u H3 Q
theorem DY{r:V->Option Int->Option Int->Hp->VK->Prop}(hr:SlR X r)(he:PE X e te)(hl:PO X lo tl)(hu:PO X hi th):PE X (.Subscript e (.Slice lo hi none p2) pos) (tSl r te tl th):=by intro pins s σ H Q I h;refine je (thn (he pins s σ H _ I h) λv s1 zz=>?_);obtain⟨x,H1,I1,r1,q1⟩:=zz;refine wpAny_Slice (thn (hl pins s1 σ H1 _ I1 q1) λvl s2 ⟨l,H2,I2,pl,q2⟩=>thn (hu pins s2 σ H2 _ I2 q2) λvu s3 zz=>?_);obtain⟨u,H3,I3,pu,q3⟩:=zz;rw[lI];refine aw ?_;have I4:Inv X pins σ H3 { s3 with heap:=s3.heap.push { cls:=.type "slice", data:=.fields #[vl,vu,.none] } }:=I3.kept (t':=s3.toks) λb ob q=>aB _ q;obtain⟨T,id,hT,ht,hg⟩:=hr pins { s3 with heap:=s3.heap.push { cls:=.type "slice", data:=.fields #[vl,vu,.none] } } σ H3 x v vl vu l u s3.heap.objs.size Q I4 r1 (n4 ..) pl pu q3;show af (model X.prog X.w) X.A (subscriptTail e (.Slice lo hi none p2) v (.ref s3.heap.objs.size)) (EP X pins σ Q) X.xe { s3 with heap:=s3.heap.push { cls:=.type "slice", data:=.fields #[vl,vu,.none] } };exact tail_any (ops:=[.ref s3.heap.objs.size,v]) ht hT hg (by with_unfolding_all rfl)
def HQ(xs:List V)(lo hi:Option Int):List V:=(xs.drop (HT.sIx xs.length 0 lo)).take (HT.sIx xs.length xs.length hi - HT.sIx xs.length 0 lo)
theorem DZ(xs:List V)(lo hi:Option Int):(HQ xs lo hi).length<=xs.length:=by unfold HQ;rw[bq,cv];omega
def Tr(K:ak):R2:=λx y H Q=>∃a b xs ys,x=.ref a/\y=.ref b/\SqT K H a xs/\SqT K H b ys/\xs≠[]/\xs.length+ys.length<=aE/\
 (ys=[]->Q (.ref a) H)/\(ys≠[]->∀p,H p=none->Q (.ref p) (upd H p (.tup (xs++ys))))
theorem Vals.nil_iff{xs:List V}{us:List aa}(r:Vals xs us):us=[] ↔ xs=[]:=by
 cases r with
 |nil=>simp
 |cons _ _=>simp
theorem Mz:OpR X (bX .Add) (Tr X.K):=by intro pins s σ H x y v u Q I rx ry h;obtain⟨a,b,xs,ys,rfl,rfl,ha,hb,hx,hz,q1,q2⟩:=h;cases rx;cases ry;obtain⟨its,r1,p1,_⟩:=I.tuple ha;obtain⟨its2,r2,p2,_⟩:=I.tuple hb;refine HT.Mw p1 p2 (λz=>hx (r1.nil_iff.mp z)) (λz=>⟨.ref a,H,I,rfl,q1 (r2.nil_iff.mp z)⟩) (λz=>?_) (by rw[<-r1.length,<- r2.length];exact hz);refine⟨.ref s.heap.objs.size,_,I.laid (t':=s.toks) (o:=.tup (xs++ys)) (λb ob q=>aB _ q) (aA _) ?_,rfl,q2 (λw=>z (r2.nil_iff.mpr w)) _ (I.hok.fresh (aA _))⟩;exact⟨by rw[aI];exact hz,_,r1.append r2,mm _ _⟩
end
def ixN(n:Nat)(i:Int):Option Nat:=if 0<=i then (if i<n then some i.toNat else none)else if -(n:Int)<=i then some (i+n).toNat else none
def atI{α:Type}(xs:List α)(i:Int):Option α:=(ixN xs.length i).bind λj=>xs[j]?
variable{j:Nat}
theorem MA{n:Nat}{i:Int}(h:ixN n i=some j):seqIndex? i n=some j/\j<n/\-(n:Int)<=i/\i<n:=by
 unfold ixN at h;by_cases h0:0<=i
 ·rw[aj h0]at h;by_cases h1:i<n
  ·rw[aj h1]at h;have e:i.toNat=j:=bE h;exact⟨by rw[seqIndex_of h0 h1,e],by omega,by omega,h1⟩
  ·rw[ai h1]at h;cases h
 ·rw[ai h0]at h;by_cases h1:-(n:Int)<=i
  ·rw[aj h1]at h;have e:(i+n).toNat=j:=bE h;exact⟨by rw[seqIndex_neg (by omega) h1,e],by omega,h1,by omega⟩
  ·rw[ai h1]at h;cases h
theorem CY{α:Type}{xs:List α}{i:Int}{v:α}(h:atI xs i=some v):∃j,seqIndex? i xs.length=some j/\xs[j]?=some v/\j<xs.length/\-(xs.length:Int)<=i/\i<xs.length:=by
 unfold atI at h;cases e:ixN xs.length i with
 |none=>rw[e]at h;cases h
 |some j=>rw[e]at h;obtain⟨h1,h2,h3,h4⟩:=MA e;exact⟨j,h1,h,h2,h3,h4⟩
theorem Gx{α:Type}{xs:List α}{v:α}(h:xs[j]?=some v):atI xs (j:Int)=some v:=by
 have hj:j<xs.length:=(bt.mp h).1;have e:ixN xs.length (j:Int)=some j:=by unfold ixN;rw[aj (by omega),aj (by omega)];simp
 unfold atI;rw[e];exact h
def Gy(b:Expr):Prop:=∀o i,subscripted b false o i=operate [o,i] (getItem o i)
def IxR(X:Cx)(r:R2):Prop:=
 ∀(value slice:Expr) (pins:List (Addr×Obj)) (s:ae) (σ:St) (H:Hp) (x y:V) (v u:aa) (Q:VK),Inv X pins σ H s->RelV x v->RelV y u->r x y H Q->
  subscripted slice false v u=operate [v,u] (getItem v u)->af (model X.prog X.w) X.A (subscriptTail value slice v u) (EP X pins σ Q) X.xe s
def MtR(X:Cx)(id:String)(r:V->List V->Hp->VK->Prop):Prop:=
 ∀(pins:List (Addr×Obj)) (s:ae) (σ:St) (H:Hp) (x:V) (xs:List V) (v:aa) (us:List aa) (Q:VK),Inv X pins σ H s->RelV x v->Vals xs us->r x xs H Q->
  af (model X.prog X.w) X.A (call (.builtin id) (v::us)) (EP X pins σ Q) X.xe s
variable{r:R2}{y:V}{u:aa}{pins:List (Addr×Obj)}{σ:St}{T:String}
section
variable{X:Cx}{a b:Expr}{ta tb:TE}{pos:Pos}
theorem IxR.or{r':R2}(h:IxR X r)(h':IxR X r'):IxR X (λx y H Q=>r x y H Q\/r' x y H Q):=by
 intro value slice pins s σ H x y v u Q I rx ry q hs;rcases q with q|q
 ·exact h value slice pins s σ H x y v u Q I rx ry q hs
 ·exact h' value slice pins s σ H x y v u Q I rx ry q hs
theorem ON(hr:IxR X r)(ha:PE X a ta)(hb:PE X b tb)(hs:Gy b):PE X (.Subscript a b pos) (tOp r ta tb):=by intro pins s σ H Q I h;exact je (Pn ha hb I h λv u s2 x y H2 I2 rx ry q=>hr a b pins s2 σ H2 x y v u Q I2 rx ry q (hs _ _))
def MB(K:ak):R2:=λx y H Q=>∃p xs i v,x=.ref p/\y=.int i/\SqL K H p xs/\atI xs i=some v/\Q v H
def Ts(K:ak):R2:=λx y H Q=>∃p xs i v,x=.ref p/\y=.int i/\SqT K H p xs/\atI xs i=some v/\Q v H
def Tt:R2:=λx y H Q=>∃z i c,x=.str z/\y=.int i/\z.length<=aE/\atI z.cps.toList i=some c/\Q (.str ⟨#[c]⟩) H
theorem GA:IxR X (MB X.K):=by
 intro value slice pins s σ H x y v u Q I rx ry h hs;obtain⟨p,xs,i,z,rfl,rfl,hq,he,q⟩:=h;cases rx;obtain⟨t,rfl⟩:=ry;obtain⟨its,r,pl,hz⟩:=I.list hq;obtain⟨j,h1,h2,h3,h4,h5⟩:=CY he;obtain⟨w,ew,rw'⟩:=r.get h2;have hl:=r.length;have hn:=Al;have fin:EP X pins σ Q w s:=⟨z,H,I,rw',q⟩;by_cases h0:0<=i
 ·have hj:i.toNat=j:=by rw[seqIndex_of h0 h5]at h1;exact bE h1
  exact item_listR pl.isList h0 (by omega) (by rw[hj];simpa using ew) fin hs
 ·have hj:(i+(its.toArray.size:Int)).toNat=j:=by rw[seqIndex_neg (by omega) h4]at h1;rw[aQ,<- hl];exact bE h1
  exact jB (x:=w) pl.isList.typeIs j9.lookup
   (wpAny_getItem_list_neg (Q:=λr s'=>r=w/\EP X pins σ Q r s') pl.isList (by omega) (by rw[aQ]<;>omega) (by omega) (by rw[hj];simpa using ew) ⟨rfl,fin⟩) hs
theorem Pz:IxR X (Ts X.K):=by
 intro value slice pins s σ H x y v u Q I rx ry h hs;obtain⟨p,xs,i,z,rfl,rfl,hq,he,q⟩:=h;cases rx;obtain⟨t,rfl⟩:=ry;obtain⟨its,r,pl,hz⟩:=I.tuple hq;obtain⟨j,h1,h2,h3,h4,h5⟩:=CY he;obtain⟨w,ew,rw'⟩:=r.get h2;have hl:=r.length;have hn:=Al;have fin:EP X pins σ Q w s:=⟨z,H,I,rw',q⟩;exact jB (x:=w) pl.typeIs slot_tuple_getitem.lookup
  (getItem_tuple (j:=j) (Q:=λr s'=>r=w/\EP X pins σ Q r s') pl (by omega) (by omega) (by rw[aQ,<- hl];exact h1) (by simpa using ew) ⟨rfl,fin⟩) hs
theorem PB:IxR X Tt:=by
 intro value slice pins s σ H x y v u Q I rx ry h hs;obtain⟨z,i,c,rfl,rfl,hz,he,q⟩:=h;obtain⟨t,rfl⟩:=rx;obtain⟨t',rfl⟩:=ry;obtain⟨j,h1,h2,h3,h4,h5⟩:=CY he;have hl:z.cps.toList.length=z.length:=by simp[mh]
 rw[hl]at h1 h4 h5;have hn:=Al;exact tail_any (typeIs_str s z t) slot_str_getitem.lookup (getItem_str (c:=c) (by
  have e1:decide (i < -(2 ^ 63:Int))=false:=aN (by omega);have e2:decide (i >= 2 ^ 63)=false:=aN (by omega);rw[e1,e2,Bool.or_false]) (by rw[h1];simpa using h2) ⟨.str ⟨#[c]⟩,H,I.tok _,⟨_,rfl⟩,q⟩) hs
def rIx(K:ak):R2:=λx y H Q=>MB K x y H Q\/Ts K x y H Q\/Tt x y H Q
theorem PD:IxR X (rIx X.K):=GA.or (Pz.or PB)
theorem CZ(lo hi:Option Int)(n:Nat):(sliceBounds lo hi none n).1=((HT.sIx n 0 lo:Nat):Int)/\(sliceBounds lo hi none n).2.1=((HT.sIx n n hi:Nat):Int)/\(sliceBounds lo hi none n).2.2=1:=by
 refine⟨?_,?_,rfl⟩
 ·cases lo with
  |none=>simp[sliceBounds,HT.sIx]
  |some i=>
   simp only[sliceBounds,HT.sIx,kB,show (1:Int) > 0 by decide,if_true];by_cases h:i<0
   ·simp only[h,if_true]<;>omega
   ·simp only[h,if_false]<;>omega
 ·cases hi with
  |none=>simp[sliceBounds,HT.sIx]
  |some i=>
   simp only[sliceBounds,HT.sIx,kB,show (1:Int) > 0 by decide,if_true];by_cases h:i<0
   ·simp only[h,if_true]<;>omega
   ·simp only[h,if_false]<;>omega
theorem BF(its:List aa)(lo hi:Option Int):slicePick its.toArray lo hi none=((its.drop (HT.sIx its.length 0 lo)).take (HT.sIx its.length its.length hi - HT.sIx its.length 0 lo)).toArray:=by obtain⟨h1,h2,h3⟩:=CZ lo hi its.toArray.size;unfold slicePick;rw[h1,h2,h3];simp only[sliceRange_one,pick_run,aQ]<;>rfl
def HR(K:ak):V->Option Int->Option Int->Hp->VK->Prop:=λx lo hi H Q=>∃a xs,x=.ref a/\SqL K H a xs/\∀p,H p=none->Q (.ref p) (upd H p (.lst (HQ xs lo hi)))
theorem MC:SlR X (HR X.K):=by intro pins s σ H x v vl vu lo hi sl Q I rx hs pl pu h;obtain⟨a,xs,rfl,hx,q⟩:=h;cases rx;obtain⟨its,r,ht,hz⟩:=I.list hx;have hlen:=r.length;refine⟨"list", _,j9.lookup,ht.isList.typeIs,?_⟩;refine wpAny_getItem_list_slice ht.isList hs pl pu .none (by simp) ?_ (by rw[aQ]<;>omega);rw[BF,<- hlen];refine⟨.ref s.heap.objs.size,_,I.laid (t':=s.toks) (o:=.lst (HQ xs lo hi)) (λb ob q=>aB _ q) (aA _) ?_,rfl,q _ (I.hok.fresh (aA _))⟩;exact⟨bM (DZ xs lo hi) hz,_,0,(r.drop (HT.sIx xs.length 0 lo)).take (HT.sIx xs.length xs.length hi - HT.sIx xs.length 0 lo),aS _ rfl⟩
def xf:V->Bool
 |.non=>true
 |.bl _=>true
 |.int _=>true
 |.str _=>true
 |_=>false
def eqV:V->V->Bool
 |.non,.non=>true
 |.bl a,.bl b=>a==b
 |.bl a,.int b=>(if a then 1 else 0)==b
 |.int a,.bl b=>a==(if b then 1 else 0)
 |.int a,.int b=>a==b
 |.str a,.str b=>a==b
 |_,_=>false
theorem Ap{A:az}{s:ae}{x:V}{v:aa}(ry:RelV y u)(rx:RelV x v)(fy:xf y=true)(fx:xf x=true):gW A s u v (eqV y x):=by
 cases y with
 |non=>
  cases ry;cases x with
  |non=>cases rx;exact fj _
  |bl b=>cases rx;exact nu b
  |int b=>obtain⟨t,rfl⟩:=rx;exact nM b t
  |str b=>obtain⟨t,rfl⟩:=rx;exact nN b t
  |_=>exact ao (show false=true from fx) aP
 |bl a=>
  cases ry;cases x with
  |non=>cases rx;exact ny a
  |bl b=>cases rx;exact nz a b
  |int b=>obtain⟨t,rfl⟩:=rx;exact nO a b t
  |str b=>obtain⟨t,rfl⟩:=rx;exact nP a b t
  |_=>exact ao (show false=true from fx) aP
 |int a=>
  obtain⟨t',rfl⟩:=ry;cases x with
  |non=>cases rx;exact nQ a t'
  |bl b=>cases rx;exact nR a t' b
  |int b=>obtain⟨t,rfl⟩:=rx;exact n8 a t' b t
  |str b=>obtain⟨t,rfl⟩:=rx;exact jT a t' b t
  |_=>exact ao (show false=true from fx) aP
 |str a=>
  obtain⟨t',rfl⟩:=ry;cases x with
  |non=>cases rx;exact nS a t'
  |bl b=>cases rx;exact nU a t' b
  |int b=>obtain⟨t,rfl⟩:=rx;exact jU a t' b t
  |str b=>obtain⟨t,rfl⟩:=rx;exact f7 a t' b t
  |_=>exact ao (show false=true from fx) aP
 |_=>exact ao (show false=true from fy) aP
def eqU(x:V)(u:aa):Bool:=match u with
 |.none=>eqV .non x
 |.bool b=>eqV (.bl b) x
 |.int i _=>eqV (.int i) x
 |.str z _=>eqV (.str z) x
 |_=>false
theorem JI{x:V}(r:RelV y u)(f:xf y=true):eqU x u=eqV y x:=by
 cases y with
 |non=>cases r;rfl
 |bl b=>cases r;rfl
 |int i=>obtain⟨t,rfl⟩:=r;rfl
 |str z=>obtain⟨t,rfl⟩:=r;rfl
 |_=>exact ao (show false=true from f) aP
theorem xZ{x:V}:∀{xs:List V} {us:List aa},Vals xs us->xs.all xf=true->us.any (eqU x)=xs.any λy=>eqV y x
 |_,_,.nil,_=>rfl
 |y::xs,u::us,.cons r t,f=>by rw[eh,aR]at f;rw[dF,dF,JI r f.1,xZ t f.2]
theorem vZ{A:az}{s:ae}{x:V}{v:aa}(rx:RelV x v)(fx:xf x=true):∀{xs:List V} {us:List aa},Vals xs us->xs.all xf=true->∀u∈us,gW A s u v (eqU x u)
 |_,_,.nil,_=>λu hu=>by cases hu
 |y::xs,u::us,.cons r t,f=>λu' hu=>by
  rw[eh,aR]at f;rcases aJ.mp hu with rfl|hu
  ·rw[JI r f.1];exact Ap r rx f.1 fx
  ·exact vZ rx fx t f.2 u' hu
def inV(x:V)(xs:List V):Bool:=xs.any λy=>eqV y x
def rIn(K:ak)(neg:Bool):R2:=λx y H Q=>∃p xs,y=.ref p/\(SqL K H p xs\/SqT K H p xs)/\xf x=true/\xs.all xf=true/\Q (.bl (if neg then !inV x xs else inV x xs)) H
theorem HS:OpR X (aM .In) (rIn X.K false):=by
 intro pins s σ H x y v u Q I rx ry h;obtain⟨p,xs,rfl,hq,fx,fs,q⟩:=h;cases ry;rcases hq with hq|hq
 ·obtain⟨its,r,pl,hz⟩:=I.list hq;refine SeqAt.in_listAt (eqU x) pl.isList (λw hw=>vZ rx fx r fs w (by simpa using hw)) ⟨.bl _,H,I,rfl,?_⟩;rw[show its.toArray.any (eqU x)=its.any (eqU x) by simp,xZ r fs];exact q
 ·obtain⟨its,r,pl,hz⟩:=I.tuple hq;refine SeqAt.in_tupleAt (eqU x) pl (λw hw=>vZ rx fx r fs w (by simpa using hw)) ⟨.bl _,H,I,rfl,?_⟩;rw[show its.toArray.any (eqU x)=its.any (eqU x) by simp,xZ r fs];exact q
theorem Da:OpR X (aM .NotIn) (rIn X.K true):=by
 intro pins s σ H x y v u Q I rx ry h;obtain⟨p,xs,rfl,hq,fx,fs,q⟩:=h;cases ry;rcases hq with hq|hq
 ·obtain⟨its,r,pl,hz⟩:=I.list hq;refine SeqAt.notIn_listAt (eqU x) pl.isList (λw hw=>vZ rx fx r fs w (by simpa using hw)) ⟨.bl _,H,I,rfl,?_⟩;rw[show its.toArray.any (eqU x)=its.any (eqU x) by simp,xZ r fs];exact q
 ·obtain⟨its,r,pl,hz⟩:=I.tuple hq;refine SeqAt.notIn_tupleAt (eqU x) pl (λw hw=>vZ rx fx r fs w (by simpa using hw)) ⟨.bl _,H,I,rfl,?_⟩;rw[show its.toArray.any (eqU x)=its.any (eqU x) by simp,xZ r fs];exact q
theorem Dc:qb X (.builtin "len") (λxs H Q=>∃p ys,xs=[.ref p]/\(SqL X.K H p ys\/SqT X.K H p ys)/\Q (.int ys.length) H):=by
 intro pins s σ H xs us Q I r h;obtain⟨p,ys,rfl,hq,q⟩:=h;obtain⟨u,rfl,rx⟩:=vals1 r;cases rx;have hn:=Al;rcases hq with hq|hq
 ·obtain⟨its,r',pl,hz⟩:=I.list hq;have hlen:=r'.length;exact Calls.call_len_list pl.isList (by simp only[aQ]<;>omega) ⟨.int ys.length,H,I.tok _,⟨s.toks+1,by rw[aQ,hlen]⟩,q⟩
 ·obtain⟨its,r',pl,hz⟩:=I.tuple hq;have hlen:=r'.length;exact len_tuple pl (by simp only[aQ]<;>omega) ⟨.int ys.length,H,I.tok _,⟨s.toks+1,by rw[aQ,hlen]⟩,q⟩
theorem Dd:qb X (.builtin "len") (λxs H Q=>∃z,xs=[.str z]/\z.length<=aE/\Q (.int z.length) H):=by intro pins s σ H xs us Q I r h;obtain⟨z,rfl,hz,q⟩:=h;obtain⟨u,rfl,t,rfl⟩:=vals1 r;have hn:=Al;exact len_str (by omega) ⟨.int z.length,H,I.tok _,⟨_,rfl⟩,q⟩
theorem De:qb X (.type "list") (λxs H Q=>∃p ys,xs=[.ref p]/\(SqL X.K H p ys\/SqT X.K H p ys)/\∀l,H l=none->Q (.ref l) (upd H l (.lst ys))):=by
 intro pins s σ H xs us Q I r h;obtain⟨p,ys,rfl,hq,q⟩:=h;obtain⟨u,rfl,rx⟩:=vals1 r;cases rx;have fin:∀(its:List aa),Vals ys its->ys.length<=aE->∀(h':Heap) (c':Nat),(∀b o',s.heap.get? b=some o'->h'.get? b=some o')->
   h'.get? s.heap.objs.size=some { cls:=.type "list", dict:=none,data:=.seq its.toArray c',slots:=#[] }->EP X pins σ Q (.ref s.heap.objs.size) { s with heap:=h' }:=λits r' hz h' c' kp e=>
  ⟨.ref s.heap.objs.size,_,I.laid (t':=s.toks) kp (aA _) (show ObjOk X.prog X.w _ h' _ (.lst ys) from⟨hz,its,c',r',e⟩),rfl,q _ (I.hok.fresh (aA _))⟩
 rcases hq with hq|hq
 ·obtain⟨its,r',pl,hz⟩:=I.list hq;have hlen:=r'.length;obtain⟨o,ho,hc,n,hd⟩:=pl.isList;exact lJ p (.inl rfl) ho hc hd (λh' c' kp e=>fin its r' hz h' c' kp e) (by simp only[aQ]<;>omega)
 ·obtain⟨its,r',pl,hz⟩:=I.tuple hq;have hlen:=r'.length;obtain⟨o,ho,hc,n,hd⟩:=pl;exact lJ p (.inr rfl) ho hc hd (λh' c' kp e=>fin its r' hz h' c' kp e) (by simp only[aQ]<;>omega)
theorem BG:qb X (.type "tuple") (λxs H Q=>∃p ys,xs=[.ref p]/\((SqL X.K H p ys/\∀l,H l=none->Q (.ref l) (upd H l (.tup ys)))\/(SqT X.K H p ys/\Q (.ref p) H))):=by
 intro pins s σ H xs us Q I r h;obtain⟨p,ys,rfl,h⟩:=h;obtain⟨u,rfl,rx⟩:=vals1 r;cases rx;rcases h with ⟨hq,q⟩|⟨hq,q⟩
 ·obtain⟨its,r',pl,hz⟩:=I.list hq;have hlen:=r'.length;refine call_tuple_list pl.isList (λh' kp=>?_) (by simp only[aQ]<;>omega);have I1:Inv X pins σ H { s with heap:=h' }:=I.kept (t':=s.toks) kp;have I2:Inv X pins σ (upd H h'.objs.size (.tup ys)) { s with heap:=h'.push { cls:=.type "tuple", data:=.seq its.toArray } }:=
   I1.laid (t':=s.toks) (λb o e=>aB _ e) (aA _) (show ObjOk X.prog X.w _ _ _ (.tup ys) from⟨hz,its,r',mm _ _⟩)
  exact⟨.ref h'.objs.size,_,I2,rfl,q _ (I1.hok.fresh (aA _))⟩
 ·obtain⟨its,r',pl,hz⟩:=I.tuple hq;exact call_tuple_same pl ⟨.ref p,H,I,rfl,q⟩
def tyV(K:ak)(T:String)(x:V)(H:Hp):Prop:=match x with
 |.str _=>T="str"
 |.int _=>T="int"
 |.ref p=>(T="list" /\ ∃xs,SqL K H p xs)\/(T="tuple" /\ ∃o,K.lookup p=some o/\o.cls=.type "tuple" /\ o.dict=none)\/
   (T="dict" /\ ((∃kvs,H p=some (.dK kvs))\/∃kvs,H p=some (.dT kvs)))\/(T="set" /\ ∃S n,H p=some (.set S n))
 |_=>False
theorem JJ{H:Hp}{s:ae}{x:V}{v:aa}(I:Inv X pins σ H s)(r:RelV x v)(ty:tyV X.K T x H):
  s.TypeIs v T/\∀a,v=.ref a->∃ob,s.heap.get? a=some ob/\ob.dict=none:=by
 cases x with
 |str z=>obtain⟨t,rfl⟩:=r;cases (show T="str" from ty);exact⟨typeIs_str s z t,λ_ e=>nomatch e⟩
 |int i=>obtain⟨t,rfl⟩:=r;cases (show T="int" from ty);exact⟨typeIs_int s i t,λ_ e=>nomatch e⟩
 |ref p=>
  cases r;rcases ty with ⟨rfl,xs,hq⟩|⟨rfl,o,hk,hc,hd⟩|⟨rfl,hk⟩|⟨rfl,S,n,hk⟩
  ·obtain⟨its,_,pl,_⟩:=I.list hq;refine⟨pl.isList.typeIs,λa e=>?_⟩;cases e;obtain⟨o,n,e,c,hd,_⟩:=pl;exact⟨o,e,hd⟩
  ·refine⟨⟨o,I.kIn p o hk,hc⟩,λa e=>?_⟩;cases e;exact⟨o,I.kIn _ o hk,hd⟩
  ·have z:∃o,s.heap.get? p=some o/\o.ExactDict:=by
    rcases hk with ⟨kvs,hk⟩|⟨kvs,hk⟩
    ·obtain⟨_,_,_,_,o,_,_,e,ex,_⟩:=I.hok p _ hk;exact⟨o,e,ex⟩
    ·obtain⟨_,_,_,_,o,_,_,e,ex,_⟩:=I.hok p _ hk;exact⟨o,e,ex⟩
   obtain⟨o,e,ex⟩:=z;refine⟨⟨o,e,ex.1⟩,λa e2=>?_⟩;cases e2;exact⟨o,e,ex.2.1⟩
  ·obtain⟨o,_,_,_,e,ex,_⟩:=I.hok p _ hk;refine⟨⟨o,e,ex.1⟩,λa e2=>?_⟩;cases e2;exact⟨o,e,ex.2.1⟩
 |_=>exact bW ty
def Tu(K:ak)(T:String)(r:V->List V->Hp->VK->Prop)(to:TE):TE:=λσ H Q=>to σ H λx H1=>tyV K T x H1/\r x [] H1 Q
def tBM(K:ak)(T:String)(r:V->List V->Hp->VK->Prop)(to:TE)(t:TA):TE:=λσ H Q=>to σ H λx H1=>tyV K T x H1/\t σ H1 λxs H2=>r x xs H2 Q
variable{o e:Expr}{es:List Expr}{to:TE}{t:TA}{name:Str}{apos cpos:Pos}{T id:String}{r:V->List V->Hp->VK->Prop}
theorem PF(pa:gX T)(slot:Slot T name id)(hty:typeOf (.builtin id)=pure (.type "method_descriptor"))(hm:MtR X id r)(ho:PE X o to)
  (hbase:cy o name X.env (eval o X.env)=eval o X.env:=by rfl) (hline:(apos.endLine==cpos.line)=true:=by rfl):PE X (.Call (.Attribute o name apos) [] [] cpos) (Tu X.K T r to):=by
 intro pins s σ H Q I h;refine jz hbase hline (thn (ho pins s σ H _ I h) λv s1 zz=>?_);obtain⟨x,H1,I1,r1,ty,q1⟩:=zz;obtain⟨h1,h2⟩:=JJ I1 r1 ty;exact⟨T,id,pa,slot,hty,h1,h2,dO rfl (jP (hm pins s1 σ H1 x [] v [] Q I1 r1 .nil q1))⟩
theorem Tv(pa:gX T)(slot:Slot T name id)(hty:typeOf (.builtin id)=pure (.type "method_descriptor"))(hm:MtR X id r)(ho:PE X o to)(ha:PA X (e::es) t)
  (hbase:cy o name X.env (eval o X.env)=eval o X.env:=by rfl)
  (hfew:((aV cpos (ar (e::es) X.env)).all (λx=>!x.1)&&(backToKw cpos (cE [] X.env)).all (λx=>x.1.isSome)
   && decide ((e::es).length+([]:List dh).length+(if ([]:List dh).isEmpty then 0 else 1)<30))=true:=by rfl)
  (hline:(apos.endLine==cpos.line)=true:=by rfl) (hs:ar (e::es) X.env=(false,eval e X.env)::ar es X.env:=by rfl) (hplain:(aV cpos (ar es X.env)).any (·.1)=false:=by rfl):
  PE X (.Call (.Attribute o name apos) (e::es) [] cpos) (tBM X.K T r to t):=by
 intro pins s σ H Q I h;refine wpAny_Call_method_late hbase hfew hline rfl (thn (ho pins s σ H _ I h) λv s1 zz=>?_);obtain⟨x,H1,I1,r1,ty,q1⟩:=zz;obtain⟨h1,h2⟩:=JJ I1 r1 ty;refine⟨T,id,pa,slot,hty,h1,h2,?_⟩;have hA:=ha cpos pins s1 σ H1 _ I1 q1;rw[hs]at hA ⊢;refine dO (by show (false||(aV cpos (ar es X.env)).any (·.1))=false;rw[hplain]<;>rfl) (fW ?_)
 exact thn hA λus s2 ⟨vs,H2,I2,r2,q2⟩=>hm pins s2 σ H2 x vs v us Q I2 r1 r2 q2
end
def MtM(X:Cx)(id:String)(r:V->List V->Hp->VK->Prop):Prop:=
 ∀(pins:List (Addr×Obj)) (s:ae) (σ:St) (H:Hp) (x:V) (xs:List V) (v:aa) (us:List aa) (Q:VK),Inv X pins σ H s->RelV x v->Vals xs us->r x xs H Q->
  af (model X.prog X.w) X.A (call (.builtin id) (v::us)) (EP X pins σ Q) X.xe s
theorem Vals.one:∀{x:V} {us:List aa},Vals [x] us->∃u,us=[u]/\RelV x u
 |_,_,.cons r .nil=>⟨_,rfl,r⟩
theorem Vals.zero:∀{us:List aa},Vals [] us->us=[]
 |_,.nil=>rfl
theorem Vals.eraseIdx:∀{xs:List V} {us:List aa} (i:Nat),Vals xs us->Vals (xs.eraseIdx i) (us.eraseIdx i)
 |_,_,_,.nil=>.nil
 |_,_,0,.cons _ t=>t
 |_,_,i+1,.cons r t=>.cons r (Vals.eraseIdx i t)
theorem B3{α:Type}:∀(l:List α) (i:Nat),(l.eraseIdx i).length<=l.length
 |[],_=>aA _
 |_::_,0=>gU _
 |_::r,i+1=>Nat.succ_le_succ (B3 r i)
variable{its:List aa}{t':Nat}
section
variable{X:Cx}{pins:List (Addr×Obj)}{σ:St}{H:Hp}{s:ae}{l b:Addr}{xs ys zs:List V}
theorem Inv.lset{its':List aa}{n:Nat}{f:Array aa->Array aa}(I:Inv X pins σ H s)(hH:H l=some (.lst xs))
  (e:s.heap.get? l=some { cls:=.type "list", data:=.seq its.toArray n }) (hf:f its.toArray=its'.toArray) (hv:Vals ys its') (hz:ys.length<=aE):
  Inv X pins σ (upd H l (.lst ys)) { s with heap:=s.heap.update l (dH f),toks:=t' }:=by
 have q:=PySem.IsL.update e f;rw[hf]at q;refine I.write (x:=l) (e:=l) (by rw[hH];exact trivial) (.inl rfl) (λb' u hb hu=>(ic s.heap (dH f) (cU hb)).trans hu) ⟨_,q⟩ ?_;exact⟨hz,its',_,hv,q⟩
theorem Inv.lnew(I:Inv X pins σ H s)(hv:Vals ys its)(hz:ys.length<=aE):
  Inv X pins σ (upd H s.heap.objs.size (.lst ys)) { s with heap:=s.heap.push { cls:=.type "list", data:=.seq its.toArray },toks:=t' }:=
 I.laid (λ_ _ q=>aB _ q) (aA _) ⟨hz,its,0,hv,aS _ rfl⟩
theorem Inv.fresh(I:Inv X pins σ H s):H s.heap.objs.size=none:=I.hok.fresh (aA _)
theorem Inv.lstM(I:Inv X pins σ H s)(hH:H l=some (.lst xs)):xs.length<=aE/\∃(its:List aa) (n:Nat),Vals xs its/\xs.length=its.length/\s.heap.get? l=some { cls:=.type "list", data:=.seq its.toArray n }:=by obtain⟨z,its,n,r,e⟩:=I.hok l _ hH;exact⟨z,its,n,r,r.length,e⟩
theorem JK{n:Nat}(h:n<=aE):fS n=false:=by unfold fS;exact aN (by omega)
end
section
variable{X:Cx}
def Dg:V->List V->Hp->VK->Prop:=λx vs H Q=>∃l xs y,x=.ref l/\vs=[y]/\H l=some (.lst xs)/\xs.length<aE/\Q .non (upd H l (.lst (xs++[y])))
theorem yM:MtM X "list.append" Dg:=by intro pins s σ H x vs v us Q I rx rv h;obtain⟨l,xs,y,rfl,rfl,hH,hz,q⟩:=h;cases rx;obtain⟨u,rfl,ru⟩:=rv.one;obtain⟨z,its,n,r,hl,e⟩:=I.lstM hH;refine gY iu ⟨_,e,rfl⟩ F.entry_list_append (F.args_list_append_2 _ _) (PySem.list_append l its.toArray n u (by rw[aQ];omega)) ⟨e,?_⟩;refine⟨.non,_,I.lset (its':=its++[u]) hH e (by simp) (r.append (.cons ru .nil)) ?_,rfl,q⟩;rw[aI,bB];omega
def JL:V->List V->Hp->VK->Prop:=λx vs H Q=>∃l xs i k y,x=.ref l/\vs=[.int i]/\H l=some (.lst xs)/\-(2 ^ 63)<=i/\i<2 ^ 63/\seqIndex? i xs.length=some k/\xs[k]?=some y/\Q y (upd H l (.lst (xs.eraseIdx k)))
theorem JM:MtM X "list.pop" JL:=by
 intro pins s σ H x vs v us Q I rx rv h;obtain⟨l,xs,i,k,y,rfl,rfl,hH,h1,h2,hk,hy,q⟩:=h;cases rx;obtain⟨u,rfl,ru⟩:=rv.one;obtain⟨t,rfl⟩:=ru;obtain⟨z,its,n,r,hl,e⟩:=I.lstM hH;obtain⟨w,hw,rw'⟩:=r.get hy;refine gY kK ⟨_,e,rfl⟩ F.entry_list_pop (F.args_list_pop_2 _ _)
  (MeetsSeq.list_pop_at l its.toArray n i t k w (fitsIndex_both h1 h2) (by rw[aQ,<- hl];exact hk) (by rw[<-jH];exact hw) (by rw[aQ];omega)) ⟨e,?_⟩
 refine⟨y,_,I.lset (its':=its.eraseIdx k) hH e ?_ (r.eraseIdx k) ?_,rw',q⟩
 ·show its.toArray.eraseIdxIfInBounds k=(its.eraseIdx k).toArray;rw[List.eraseIdxIfInBounds_toArray]
 ·have:=B3 xs k;omega
def JN:V->List V->Hp->VK->Prop:=λx vs H Q=>∃l xs,x=.ref l/\vs=[]/\H l=some (.lst xs)/\Q .non (upd H l (.lst []))
theorem JO:MtM X "list.clear" JN:=by intro pins s σ H x vs v us Q I rx rv h;obtain⟨l,xs,rfl,rfl,hH,q⟩:=h;cases rx;have hus:=rv.zero;subst hus;obtain⟨z,its,n,r,hl,e⟩:=I.lstM hH;refine gY kj ⟨_,e,rfl⟩ F.entry_list_clear (F.args_list_clear_1 _) (AutoSeq1.list_clear_list_0 l its.toArray n (by rw[aQ];omega)) ⟨e,?_⟩;exact⟨.non,_,I.lset (its':=[]) (ys:=[]) hH e rfl .nil (bN _),rfl,q⟩
def UV:R2:=λx y H Q=>∃l b xs zs,x=.ref l/\y=.ref b/\H l=some (.lst xs)/\H b=some (.lst zs)/\xs.length+zs.length<=aE/\∀p,H p=none->Q (.ref p) (upd H p (.lst (xs++zs)))
theorem PH:OpR X (bX .Add) UV:=by
 intro pins s σ H x y v u Q I rx ry h;obtain⟨l,b,xs,zs,rfl,rfl,hH,hB,hz,q⟩:=h;cases rx;cases ry;obtain⟨z,its,n,r,hl,e⟩:=I.lstM hH;obtain⟨z2,its2,n2,r2,hl2,e2⟩:=I.lstM hB;refine PySem.P.add_list e e2 ?_ (by rw[aQ,aQ];omega);have ea:its.toArray++its2.toArray=(its++its2).toArray:=by simp
 rw[ea];exact⟨.ref _,_,I.lnew (t':=s.toks) (r.append r2) (by rw[aI];omega),rfl,q _ I.fresh⟩
end
section
variable{prog:au}{w:aq}{A:az}{E:aa->ae->Prop}{s:ae}
set_option maxRecDepth 100000 in
end
section
variable{κ:Type}[DecidableEq κ]
def rY(kvs:List (κ×V))(k:κ):Option V:=(kvs.find? λkv=>decide (kv.1=k)).map (·.2)
def putK(kvs:List (κ×V))(k:κ)(v:V):List (κ×V):=
 if (kvs.any λkv=>decide (kv.1=k))=true then kvs.map (λkv=>if kv.1=k then (kv.1,v)else kv)else kvs++[(k,v)]
theorem x3{p:κ×V}{r:List (κ×V)}{k:κ}(e:p.1=k):rY (p::r) k=some p.2:=by simp[rY,cO,e]
theorem x4{p:κ×V}{r:List (κ×V)}{k:κ}(e:¬p.1=k):rY (p::r) k=rY r k:=by simp[rY,cO,e]
theorem Aq(k:κ):∀kvs:List (κ×V),(kvs.any λkv=>decide (kv.1=k))=(rY kvs k).isSome
 |[]=>rfl
 |p::r=>by
  rw[dF];by_cases e:p.1=k
  ·simp only[x3 e,bg e,Bool.true_or,Option.isSome_some]
  ·rw[x4 e,aN e,Bool.false_or];exact Aq k r
theorem uc(kvs:List (κ×V))(k:κ)(v:V):(putK kvs k v).length<=kvs.length+1:=by
 unfold putK;split
 ·rw[ah];omega
 ·rw[aI,aD,c7];omega
theorem JP{kvs:List (κ×V)}{k:κ}(v:V)(h:rY kvs k=none):putK kvs k v=kvs++[(k,v)]:=by unfold putK;rw[Aq,h];exact ai (by decide)
theorem vT.isSome_eq{o:Option V}{u:Option aa}(r:vT o u):o.isSome=u.isSome:=by
 cases o with
 |none=>cases u with
  |none=>rfl
  |some _=>exact(show False from r).elim
 |some _=>cases u with
  |none=>exact(show False from r).elim
  |some _=>rfl
theorem vT.getD{o:Option V}{u:Option aa}{d:V}{d':aa}(r:vT o u)(rd:RelV d d'):RelV (o.getD d) (u.getD d'):=by
 cases o with
 |none=>cases u with
  |none=>exact rd
  |some _=>exact(show False from r).elim
 |some _=>cases u with
  |none=>exact(show False from r).elim
  |some _=>exact r
theorem KV.val{kvs:List (κ×V)}{vs:List (κ×aa)}(r:KV kvs vs)(k:κ):vT (rY kvs k) (valueAt vs k):=by
 unfold KV at r
 induction r with
 |nil=>exact True.intro
 |@cons p q ps qs h t ih=>
  obtain⟨h1,h2⟩:=h;by_cases e:p.1=k
  ·have e':q.1=k:=h1.symm.trans e;have b:valueAt (q::qs) k=some q.2:=by simp[valueAt,cO,e']
   rw[x3 e,b];exact h2
  ·have e':¬q.1=k:=λz=>e (h1.trans z);have b:valueAt (q::qs) k=valueAt qs k:=by simp[valueAt,cO,e']
   rw[x4 e,b];exact ih
theorem KV.any{kvs:List (κ×V)}{vs:List (κ×aa)}(r:KV kvs vs)(k:κ):(kvs.any λkv=>decide (kv.1=k))=vs.any λkv=>decide (kv.1=k):=by
 unfold KV at r
 induction r with
 |nil=>rfl
 |cons h t ih=>rw[dF,dF,ih,h.1]
theorem KV.repl{kvs:List (κ×V)}{vs:List (κ×aa)}(r:KV kvs vs)(k:κ)(ry:RelV y u):
  KV (kvs.map λkv=>if kv.1=k then (kv.1,y)else kv) (vs.map λkv=>if kv.1=k then (kv.1,u)else kv):=by
 unfold KV at r ⊢
 induction r with
 |nil=>exact .nil
 |@cons p q ps qs h t ih=>
  rw[av,av];refine .cons ?_ ih;obtain⟨h1,h2⟩:=h;by_cases e:p.1=k
  ·rw[aj e,aj (h1.symm.trans e)];exact⟨h1,ry⟩
  ·rw[ai e,ai (λz=>e (h1.trans z))];exact⟨h1,h2⟩
theorem KV.put{kvs:List (κ×V)}{vs:List (κ×aa)}(r:KV kvs vs)(k:κ)(ry:RelV y u):KV (putK kvs k y) (stored vs k u):=by
 unfold putK stored;rw[r.any k];by_cases e:(vs.any λkv=>decide (kv.1=k))=true
 ·rw[aj e,aj e];exact r.repl k ry
 ·rw[ai e,ai e];exact ma r ⟨rfl,ry⟩
theorem KV.length{kvs:List (κ×V)}{vs:List (κ×aa)}(r:KV kvs vs):kvs.length=vs.length:=iC r
end
theorem ya{P:au}{w:aq}{k:Key}(r:RelV (kV k) u):(oZ P w).is k u=true:=by
 cases k with
 |inl i=>obtain⟨t,e⟩:=(show ∃t,u=Value.int i t from r);subst e;exact DQ P w i t
 |inr x=>obtain⟨t,e⟩:=(show ∃t,u=Value.str x t from r);subst e;exact DR P w x t
theorem B4{P:au}{w:aq}:∀{ks:List Key} {us:List aa},Vals (ks.map kV) us->ItemsAre (oZ P w) ks us
 |[],_,r=>by rw[bV]at r;cases r;exact .nil
 |k::ks,_,r=>by
  rw[av]at r;cases r with
  |cons h t=>exact .cons (ya h) (B4 t)
abbrev KT(H:Hp):List (List Key×V)->List (List Key×Addr×aa)->Prop:=dJ λp q=>p.1=q.1/\H q.2.1=some (.tup (p.1.map kV))/\RelV p.2 q.2.2
variable{kvs:List (List Key×V)}{xs:List (List Key×Addr×aa)}
theorem KT.val{H:Hp}(r:KT H kvs xs)(k:List Key):vT (rY kvs k) ((atKey xs k).map (·.2)):=by
 induction r with
 |nil=>exact True.intro
 |@cons p q ps qs h t ih=>
  obtain⟨h1,_,h2⟩:=h;by_cases e:p.1=k
  ·have e':q.1=k:=h1.symm.trans e;have b:atKey (q::qs) k=some q.2:=by simp[atKey,cO,e']
   rw[x3 e,b];exact h2
  ·have e':¬q.1=k:=λz=>e (h1.trans z);have b:atKey (q::qs) k=atKey qs k:=by simp[atKey,cO,e']
   rw[x4 e,b];exact ih
theorem KT.repl{H:Hp}(r:KT H kvs xs)(k:List Key)(ry:RelV y u):
  KT H (kvs.map λkv=>if kv.1=k then (kv.1,y)else kv) (xs.map (putAt k u)):=by
 induction r with
 |nil=>exact .nil
 |@cons p q ps qs h t ih=>
  rw[av,av];refine .cons ?_ ih;obtain⟨h1,h2,h3⟩:=h;unfold putAt;by_cases e:p.1=k
  ·rw[aj e,aj (h1.symm.trans e)];exact⟨h1,h2,ry⟩
  ·rw[ai e,ai (λz=>e (h1.trans z))];exact⟨h1,h2,h3⟩
theorem KT.put{H:Hp}(r:KT H kvs xs)(k:List Key){b:Addr}(hb:H b=some (.tup (k.map kV)))(ry:RelV y u):
  KT H (putK kvs k y) (storedH xs k b u):=by
 have e:(kvs.any λkv=>decide (kv.1=k))=(atKey xs k).isSome:=by rw[Aq,(r.val k).isSome_eq,Option.isSome_map]
 unfold putK storedH;rw[e];by_cases q:(atKey xs k).isSome=true
 ·rw[aj q,aj q];exact r.repl k ry
 ·rw[ai q,ai q];exact ma r ⟨rfl,hb,ry⟩
variable{H':Hp}
theorem KT.keeps{H:Hp}(r:KT H kvs xs)(ht:∀b ys,H b=some (.tup ys)->H' b=some (.tup ys)):KT H' kvs xs:=
 Paired.mapP r λ_ _ z=>⟨z.1,ht _ _ z.2.1,z.2.2⟩
section
variable{P:au}{w:aq}{H:Hp}{h:Heap}{a:Addr}
theorem OO{u:HO}(ok:HOk P w H h)(e:Rd H a u):ObjOk P w H h a u:=e.ok ok
theorem Ar{kvs:List (Key×V)}(ok:HOk P w H h)(e:Rd H a (.dK kvs)):kvs.length<=aE/\(a==ck)=false/\∃vs,KV kvs vs/\h.DictOf (oZ P w) a vs:=
 show ObjOk P w H h a (.dK kvs) from OO ok e
theorem JQ{kvs:List (Key×V)}(ok:HOk P w H h)(e:H a=some (.dK kvs)):kvs.length<=aE/\(a==ck)=false/\∃vs,KV kvs vs/\h.DictOf (oZ P w) a vs:=Ar ok (.inl e)
theorem As{ks:List Key}(ok:HOk P w H h)(e:H a=some (.tup (ks.map kV))):(tupleKind (oZ P w)).is h ks a:=by obtain⟨_,its,r,o,h1,h2,n,h3⟩:=(show ObjOk P w H h a (.tup (ks.map kV)) from ok a _ e);exact⟨o,its.toArray,n,h1,h2,h3,by simpa using B4 r⟩
theorem B5(ok:HOk P w H h)(e:Rd H a (.dT kvs)):kvs.length<=aE/\(a==ck)=false/\
  ∃xs,KT H kvs xs/\h.DictOfH (tupleKind (oZ P w)) a xs:=by
 obtain⟨z,y,xs,r,o,es,ep,h1,h2,h3,h4,h5⟩:=(show ObjOk P w H h a (.dT kvs) from OO ok e);refine⟨z,y,xs,r,o,es,ep,h1,h2,h3,h4,λx hx=>?_,h5⟩;have all:∀{l:List (List Key×V)} {m:List (List Key×Addr×aa)},KT H l m->∀x∈m,(tupleKind (oZ P w)).is h x.1 x.2.1:=by
  intro l m q
  induction q with
  |nil=>intro x hx;exact nomatch hx
  |@cons p q ps qs hq t ih=>
   intro x hx;rcases aJ.mp hx with e|hx
   ·subst e;exact As ok (by rw[<-hq.1];exact hq.2.1)
   ·exact ih x hx
 exact all r x hx
theorem Tw(ok:HOk P w H h)(e:H a=some (.dT kvs)):kvs.length<=aE/\(a==ck)=false/\
  ∃xs,KT H kvs xs/\h.DictOfH (tupleKind (oZ P w)) a xs:=B5 ok (.inl e)
end
def DGet(H:Hp)(a:Addr)(y:V)(r:Option V):Prop:=
 (∃kvs k,Rd H a (.dK kvs)/\y=kV k/\r=rY kvs k)\/∃kvs k b,Rd H a (.dT kvs)/\y=.ref b/\H b=some (.tup (k.map kV))/\r=rY kvs k
def JR(H:Hp)(a:Addr)(y v:V)(H':Hp):Prop:=
 (∃kvs k,H a=some (.dK kvs)/\y=kV k/\kvs.length<aE/\H'=upd H a (.dK (putK kvs k v)))\/
 ∃kvs k b,H a=some (.dT kvs)/\y=.ref b/\H b=some (.tup (k.map kV))/\kvs.length<aE/\H'=upd H a (.dT (putK kvs k v))
theorem JR.k{H:Hp}{a:Addr}{kvs:List (Key×V)}{k:Key}{v:V}(e:H a=some (.dK kvs))(hl:kvs.length<aE):JR H a (kV k) v (upd H a (.dK (putK kvs k v))):=.inl ⟨kvs,k,e,rfl,hl,rfl⟩
variable{Q:aa->ae->Prop}{h':Heap}
section
variable{X:Cx}{pins:List (Addr×Obj)}{σ:St}{H:Hp}{s:ae}{a:Addr}{y v:V}{u r:aa}{o:Option V}{A:az}{E:aa->ae->Prop}
theorem Inv.big(I:Inv X pins σ H s):ck<s.heap.objs.size:=by have h:aK<s.heap.objs.size:=(I.mod.glob.keeps I.bk).lt;exact Nat.lt_trans (by decide) h
theorem HU(hu:A.units+1<cLine)(I:Inv X pins σ H s)(g:DGet H a y (some v))(ry:RelV y u)(h:∀w' s',Inv X pins σ H s'->RelV v w'->Q w' s'):
  af (model X.prog X.w) A (getItem (.ref a) u) Q E s:=by
 rcases g with ⟨kvs,k,e,ey,l⟩|⟨kvs,k,b,e,ey,eb,l⟩
 ·subst ey;obtain⟨z,hd,vs,rel,dd⟩:=Ar I.hok e;obtain⟨w',hw,rw'⟩:=vT.some_of (v:=v) (o:=valueAt vs k) (by rw[l];exact rel.val k);exact wpAny_getItem_of (ya ry) dd.mapOf hw (h w' _ (I.tok _) rw')
 ·subst ey;cases (show u=Value.ref b from ry);obtain⟨z,hd,xs,rel,dd⟩:=B5 I.hok e;obtain⟨w',hw,rw'⟩:=vT.some_of (v:=v) (o:=(atKey xs k).map (·.2)) (by rw[l];exact rel.val k)
  obtain⟨p,hp,hp2⟩:=Option.map_eq_some_iff.mp hw;refine wpAny_getItem_heap (f9 hu) (As I.hok eb) dd hp ?_;rw[hp2];exact h w' _ (I.tok _) rw'
theorem z7{ob:HO}(I:Inv X pins σ H s)(mu:Mut (H a))(hs:dG a s.heap h')(he:∃q,h'.get? a=some q)(new:ObjOk X.prog X.w (upd H a ob) h' a ob):
  Inv X pins σ (upd H a ob) { s with heap:=h',toks:=t' }:=
 I.write (x:=a) (e:=a) mu (.inl rfl) (λb q hb z=>(hs.2 b hb).trans z) he new
theorem Fl{P:au}{w:aq}{kvs:List (Key×V)}{vs:List (Key×aa)}(z:kvs.length<=aE)(hd:(a==ck)=false)(rel:KV kvs vs)(dd:h'.DictOf (oZ P w) a vs):
  ObjOk P w H' h' a (.dK kvs):=⟨z,hd,vs,rel,dd⟩
theorem HV{Q:Unit->ae->Prop}(hu:A.units+1<cLine)(I:Inv X pins σ H s)(g:JR H a y v H')(ry:RelV y u)(rv:RelV v r)(h:∀s',Inv X pins σ H' s'->Q () s'):
  af (model X.prog X.w) A (setItem (.ref a) u r) Q E s:=by
 rcases g with ⟨kvs,k,e,ey,l,eH⟩|⟨kvs,k,b,e,ey,eb,l,eH⟩
 ·subst ey eH;obtain⟨z,hd,vs,rel,dd⟩:=JQ I.hok e;have hz:vs.length<=aE:=by rw[<-rel.length];exact z
  have hl:(putK kvs k v).length<=aE:=by have:=uc kvs k v;omega
  refine wpAny_setItem_pairs (hsz:=hz) (ya ry) dd λh' dd' hs=>h _ ?_;have he:∃q,h'.get? a=some q:=let ⟨q,_,_,hq,_⟩:=dd';⟨q,hq⟩;exact z7 I (by rw[e];exact True.intro) hs he (Fl hl hd (rel.put k rv) dd')
 ·subst ey eH;cases (show u=Value.ref b from ry);obtain⟨z,hd,xs,rel,dd⟩:=Tw I.hok e;have hz:xs.length<=aE:=by rw[<-iC rel];exact z
  have hl:(putK kvs k v).length<=aE:=by have:=uc kvs k v;omega
  refine wpAny_setItem_heap (hsz:=hz) (f9 hu) (As I.hok eb) dd λh' dd' hs=>h _ ?_;obtain⟨q,es,ep,hq,h2,h3,h4,_,h5⟩:=dd';refine z7 I (by rw[e];exact True.intro) hs ⟨q,hq⟩ ⟨hl,hd,_,(rel.put k eb rv).keeps λc ys ec=>?_,q,es,ep,hq,h2,h3,h4,h5⟩;rw[oF (S3 ec e (λz=>nomatch z))];exact ec
end
section
variable{X:Cx}{pins:List (Addr×Obj)}{σ:St}{H:Hp}{s:ae}{a:Addr}{kvs:List (Key×V)}{k:Key}{u:aa}{A:az}{E:aa->ae->Prop}
theorem Tx(I:Inv X pins σ H s)(e:Rd H a (.dK kvs))(h:∀t s',Inv X pins σ H s'->Q (.int kvs.length t) s'):af (model X.prog X.w) A (call (.builtin "len") [.ref a]) Q E s:=by obtain⟨z,hd,vs,rel,dd⟩:=Ar I.hok e;refine call_len_dict hd dd (by rw[<-rel.length];rw[bh]at z;omega) ?_;rw[<-rel.length];exact h _ _ (I.tok _)
end
def PJ(i:Expr):Prop:=∀ov iv,subscripted i false ov iv=operate [ov,iv] (getItem ov iv)
variable{pos:Pos}
theorem ME{prog:au}{w:aq}{A:az}{E:aa->ae->Prop}{s:ae}{env:Env}{value slice:Expr}{id:String}
  (hl:typeLookup (.type T) "__getitem__" = pure (some (.builtin id))) (hs:PJ slice)
  (h:af (model prog w) A (eval value env) (λo s₁=>af (model prog w) A (eval slice env) (λi s₂=>s₂.TypeIs o T/\af (model prog w) A (getItem o i) Q E s₂) E s₁) E s):
  af (model prog w) A (eval (.Subscript value slice pos) env) Q E s:=by
 refine je (bx h (λo s₁ h₁=>bx h₁ (λi s₂ h₂=>?_) λ_ _ x=>x) λ_ _ x=>x);obtain⟨hT,h₂⟩:=h₂;unfold subscriptTail;refine ag ?_;rw[getitemInPython_of_ne hT.not_modules];refine ag (kM hT hl ?_);have fin:af (model prog w) A (subscripted slice false o i) (λr s₃=>af (model prog w) A (letTemporaryGo value o r>>=λ_=>pure r) Q E s₃) E s₂:=by rw[hs o i];exact wpAny_operating (bx h₂ (λr s₃ h₃=>ag (wpAny_letTemporaryGo (aw h₃))) λ_ _ x=>x)
 first
  |exact aw (ag fin)
  |exact ag (aw (ag fin))
  |exact ag fin
variable{X:Cx}{a:Addr}
theorem D1{H:Hp}{s:ae}{o:Option V}(I:Inv X pins σ H s)(g:DGet H a y o):s.TypeIs (.ref a) "dict" := by
 rcases g with ⟨kvs,k,e,_,_⟩|⟨kvs,k,b,e,_,_,_⟩
 ·obtain⟨_,_,vs,_,dd⟩:=Ar I.hok e;exact dd.typeIs
 ·obtain⟨_,_,xs,_,dd⟩:=B5 I.hok e;exact dd.typeIs
def TB(td ty:TE):TE:=λσ H Q=>td σ H λx H1=>ty σ H1 λy H2=>∃a v,x=.ref a/\DGet H2 a y (some v)/\Q v H2
def OP(td ty tv:TE):TS:=λD σ H=>tv σ H λv H1=>td σ H1 λx H2=>ty σ H2 λy H3=>∃a H4,x=.ref a/\JR H3 a y v H4/\D.nx σ H4
section
variable{X:Cx}{o i e value:Expr}{pos pos' tpos:Pos}{td ty tv:TE}
theorem MF(hu:X.A.units+1<cLine)(ho:PE X o td)(hi:PE X i ty)(hs:PJ i):PE X (.Subscript o i pos) (TB td ty):=by intro pins s σ H Q I h;refine ME F.slot_dict_getitem.lookup hs (thn (ho pins s σ H _ I h) λu s1 ⟨x,H1,I1,rx,q1⟩=>thn (hi pins s1 σ H1 _ I1 q1) λiv s2 zz=>?_);obtain⟨y,H2,I2,ry,a,v,ex,g,q2⟩:=zz;subst ex;obtain rfl:u=Value.ref a:=rx;exact⟨D1 I2 g,HU hu I2 g ry λw' s3 I3 rw'=>⟨v,H2,I3,rw',q2⟩⟩
theorem MG(hu:X.A.units+1<cLine)(ho:PE X o td)(hi:PE X i ty)(hv:PE X value tv)(hs:cn value (some (.Subscript o i pos')) pos.line X.env=pure false):
  PS X (.Assign [.Subscript o i pos'] value pos) (OP td ty tv):=by
 intro pins s σ H D I h;refine wpAny_Assign_Subscript (thn (hv pins s σ H _ I h) λr s1 ⟨v,H1,I1,rv,q1⟩=>thn (ho pins s1 σ H1 _ I1 q1) λu s2 ⟨x,H2,I2,rx,q2⟩=>thn (hi pins s2 σ H2 _ I2 q2) λiv s3 zz=>?_) hs;obtain⟨y,H3,I3,ry,a,H4,ex,g,q3⟩:=zz;subst ex;obtain rfl:u=Value.ref a:=rx;exact HV hu I3 g ry rv λs4 I4=>⟨σ,H4,I4,q3⟩
end
theorem D2{P:au}{w:aq}{H:Hp}(h:Heap)(hb:ck<h.objs.size):ObjOk P w H (h.push { cls:=.type "dict", data:=.dict #[] }) h.objs.size (.dK []):=
 ⟨bN _,beq_eq_false_iff_ne.mpr (cU (aO hb)),[],.nil,oq h⟩
def Fm:TE:=λ_ H Q=>∀p,H p=none->Q (.ref p) (upd H p (.dK []))
section
variable{X:Cx}{pos:Pos}
theorem D3:PE X (.Dict [] [] pos) Fm:=λpins s σ H Q I h=>
 wpAny_Dict_empty ⟨.ref s.heap.objs.size,_,I.laid (a:=s.heap.objs.size) (o:=.dK []) (t':=s.toks) (λ_ _ q=>aB _ q) (aA _) (D2 s.heap I.big),rfl,h _ (I.hok.fresh (aA _))⟩
end
def Dh:List (TE×TE)->St->Hp->(List (V×V)->Hp->Prop)->Prop
 |[],_,H,Q=>Q [] H
 |(tk,tv)::r,σ,H,Q=>tk σ H λx H1=>tv σ H1 λy H2=>Dh r σ H2 λps H3=>Q ((x,y)::ps) H3
abbrev VV:List (V×V)->List (aa×aa)->Prop:=dJ λp q=>RelV p.1 q.1/\RelV p.2 q.2
def PPs(X:Cx)(pos:Pos)(keys:List (Option Expr))(values:List Expr)(trs:List (TE×TE)):Prop:=
 ∀(pins:List (Addr×Obj)) (s:ae) (σ:St) (H:Hp) (Q:List (V×V)->Hp->Prop),Inv X pins σ H s->Dh trs σ H Q->
  af (model X.prog X.w) X.A (evalPairs (pairTrees keys values X.env pos)) (λvs s'=>∃ps H',Inv X pins σ H' s'/\VV ps vs/\Q ps H') X.xe s
theorem MH:PPs X pos [] [] []:=λpins s σ H Q I h=>pairTrees_nil_walk ⟨[],H,I,.nil,h⟩
variable{trs:List (TE×TE)}
theorem JS{k v:Expr}{ks:List (Option Expr)}{vs:List Expr}{tk tv:TE}(hk:PE X k tk)(hv:PE X v tv)(hr:PPs X pos ks vs trs):
  PPs X pos (some k::ks) (v::vs) ((tk,tv)::trs):=λpins s σ H Q I h=>
 pairTrees_cons_walk (thn (hk pins s σ H _ I h) λu s1 ⟨x,H1,I1,rx,q1⟩=>thn (hv pins s1 σ H1 _ I1 q1) λw2 s2 ⟨y,H2,I2,ry,q2⟩=>
  thn (hr pins s2 σ H2 _ I2 q2) λws s3 ⟨ps,H3,I3,rel,q3⟩=>⟨(x,y)::ps,H3,I3,.cons ⟨rx,ry⟩ rel,q3⟩)
def xC(kvs more:List (Key×V)):List (Key×V):=more.foldl (λacc kv=>putK acc kv.1 kv.2) kvs
theorem KV.merge:∀{more:List (Key×V)} {rs:List (Key×aa)} {kvs:List (Key×V)} {vs:List (Key×aa)},KV more rs->KV kvs vs->KV (xC kvs more) (merged vs rs):=by
 intro more rs kvs vs r;unfold KV at r
 induction r generalizing kvs vs with
 |nil=>intro q;exact q
 |@cons p q ps qs h t ih=>
  intro r0;have e:KV (putK kvs p.1 p.2) (stored vs q.1 q.2):=by have:=r0.put p.1 h.2;rw[<-h.1];exact this
  exact ih e
theorem xg:∀(more kvs:List (Key×V)),(xC kvs more).length<=kvs.length+more.length
 |[],kvs=>by show kvs.length<=kvs.length+0;omega
 |p::r,kvs=>by have h1:=xg r (putK kvs p.1 p.2);have h2:=uc kvs p.1 p.2;show (xC (putK kvs p.1 p.2) r).length<=_;rw[aD];omega
theorem Au{P:au}{w:aq}:∀{kvs:List (Key×V)} {ws:List (aa×aa)},VV (kvs.map λkv=>(kV kv.1,kv.2)) ws->∃rs,Carries (oZ P w) ws rs/\KV kvs rs
 |[],_,r=>by rw[bV]at r;cases r;exact⟨[],True.intro,.nil⟩
 |p::kvs,_,r=>by
  rw[av]at r;cases r with
  |@cons a b as bs h t=>obtain⟨rs,c,q⟩:=Au (P:=P) (w:=w) t;obtain⟨b1,b2⟩:=b;exact⟨(p.1,b2)::rs,⟨ya h.1,rfl,c⟩,.cons ⟨rfl,h.2⟩ q⟩
def OQ(trs:List (TE×TE)):TE:=λσ H Q=>∀p,H p=none->Dh trs σ (upd H p (.dK [])) λps H2=>H2 p=some (.dK [])/\∃kvs:List (Key×V),ps=kvs.map (λkv=>(kV kv.1,kv.2))/\kvs.length<=15/\Q (.ref p) (upd H2 p (.dK (xC [] kvs)))
theorem MI{keys:List (Option Expr)}{values:List Expr}(h:PPs X pos keys values trs)(hall:keys.all (·.isSome)=true)(hl:keys.length=values.length)(h0:keys≠[])
  (h15:keys.length<=15):PE X (.Dict keys values pos) (OQ trs):=by
 intro pins s σ H Q I q;have hn:=I.hok.fresh (aA s.heap.objs.size);have I1:=I.laid (a:=s.heap.objs.size) (o:=.dK []) (h':=s.heap.push { cls:=.type "dict", data:=.dict #[] }) (t':=s.toks) (λ_ _ q=>aB _ q) (aA _) (D2 s.heap I.big);refine wpAny_Dict_walk (knd:=oZ X.prog X.w) hall hl h0 h15 (thn (h pins _ σ _ _ I1 (q _ hn)) λws s2 zz=>?_);obtain⟨ps,H2,I2,rel,e,kvs,ep,lk,q2⟩:=zz;subst ep;obtain⟨rs,c,rk⟩:=Au (P:=X.prog) (w:=X.w) rel;obtain⟨z,hd,vs0,r0,dd⟩:=JQ I2.hok e;cases r0;refine⟨rs,c,dd,λh' dd' hs=>⟨.ref s.heap.objs.size,_,?_,rfl,q2⟩⟩;have hz:(xC [] kvs).length<=aE:=by have h1:=xg kvs [];rw[c7]at h1;rw[bh];omega
 have he:∃q,h'.get? s.heap.objs.size=some q:=let ⟨q,_,_,hq,_⟩:=dd';⟨q,hq⟩;exact z7 I2 (by rw[e];exact True.intro) hs he (Fl hz hd (rk.merge .nil) dd')
structure M1(X:Cx)(o:Expr)(m:Str)(apos:Pos)(e:Expr)(cpos:Pos):Prop where
 base:cy o m X.env (eval o X.env)=eval o X.env
 few:((aV cpos (ar [e] X.env)).all (λx=>!x.1)&&(backToKw cpos (cE [] X.env)).all (λx=>x.1.isSome)
  && decide (([e]:List Expr).length+([]:List dh).length+(if ([]:List dh).isEmpty then 0 else 1)<30))=true
 line:(apos.endLine==cpos.line)=true
 trees:aV cpos (ar [e] X.env)=[(false,eval e X.env)]
structure M2(X:Cx)(o:Expr)(m:Str)(apos:Pos)(e f:Expr)(cpos:Pos):Prop where
 base:cy o m X.env (eval o X.env)=eval o X.env
 few:((aV cpos (ar [e,f] X.env)).all (λx=>!x.1)&&(backToKw cpos (cE [] X.env)).all (λx=>x.1.isSome)
  && decide (([e,f]:List Expr).length+([]:List dh).length+(if ([]:List dh).isEmpty then 0 else 1)<30))=true
 line:(apos.endLine==cpos.line)=true
 trees:aV cpos (ar [e,f] X.env)=[(false,eval e X.env),(false,eval f X.env)]
def IsD(H:Hp)(a:Addr):Prop:=(∃kvs,Rd H a (.dK kvs))\/∃kvs,Rd H a (.dT kvs)
theorem Di{H:Hp}{s:ae}(I:Inv X pins σ H s)(d:IsD H a):
  s.TypeIs (.ref a) "dict" /\ (∀b,Value.ref a=.ref b->∃ob,s.heap.get? b=some ob/\ob.dict=none)/\(a==ck)=false:=by
 rcases d with ⟨kvs,e⟩|⟨kvs,e⟩
 ·obtain⟨_,hd,vs,_,dd⟩:=Ar I.hok e;refine⟨dd.typeIs,λb q=>?_,hd⟩;cases q;obtain⟨ob,_,_,h1,h2,_⟩:=dd;exact⟨ob,h1,h2.2.1⟩
 ·obtain⟨_,hd,xs,_,dd⟩:=B5 I.hok e;refine⟨dd.typeIs,λb q=>?_,hd⟩;cases q;obtain⟨ob,_,_,h1,h2,_⟩:=dd;exact⟨ob,h1,h2.2.1⟩
section
variable{X:Cx}{pins:List (Addr×Obj)}{σ:St}{H:Hp}{s:ae}{a:Addr}{y d:V}{u r:aa}{o:Option V}{A:az}{E:aa->ae->Prop}
theorem PK(hu:A.units+1<cLine)(I:Inv X pins σ H s)(g:DGet H a y o)(ry:RelV y u)(h:∀w' s',Inv X pins σ H s'->RelV (o.getD .non) w'->Q w' s'):
  af (model X.prog X.w) A (call (.builtin "dict.get") [.ref a,u]) Q E s:=by
 rcases g with ⟨kvs,k,e,ey,l⟩|⟨kvs,k,b,e,ey,eb,l⟩
 ·subst ey;obtain⟨z,hd,vs,rel,dd⟩:=Ar I.hok e;refine eB dZ dd.typeIs gu (kl _ _) (meets_dict_get (oZ X.prog X.w) a (ya ry) hd) ⟨_,dd.mapOf,h _ _ (I.tok _) ?_⟩;rw[l];exact(rel.val k).getD rfl
 ·subst ey;cases (show u=Value.ref b from ry);obtain⟨z,hd,xs,rel,dd⟩:=B5 I.hok e;refine eB dZ dd.typeIs gu (kl _ _) (meetsH_dict_get (tupleKind (oZ X.prog X.w)) a b hd) ⟨f9 hu,k,xs,As I.hok eb,dd,h _ _ (I.tok _) ?_⟩;rw[l];exact(rel.val k).getD rfl
theorem PL(hu:A.units+1<cLine)(I:Inv X pins σ H s)(g:DGet H a y o)(ry:RelV y u)(rd:RelV d r)(h:∀w' s',Inv X pins σ H s'->RelV (o.getD d) w'->Q w' s'):
  af (model X.prog X.w) A (call (.builtin "dict.get") [.ref a,u,r]) Q E s:=by
 rcases g with ⟨kvs,k,e,ey,l⟩|⟨kvs,k,b,e,ey,eb,l⟩
 ·subst ey;obtain⟨z,hd,vs,rel,dd⟩:=Ar I.hok e;refine eB dZ dd.typeIs gu (km _ _ _) (meets_dict_get_default (oZ X.prog X.w) a (ya ry) hd r) ⟨_,dd.mapOf,h _ _ (I.tok _) ?_⟩;rw[l];exact(rel.val k).getD rd
 ·subst ey;cases (show u=Value.ref b from ry);obtain⟨z,hd,xs,rel,dd⟩:=B5 I.hok e;refine eB dZ dd.typeIs gu (km _ _ _) (meetsH_dict_get_default (tupleKind (oZ X.prog X.w)) a b hd r) ⟨f9 hu,k,xs,As I.hok eb,dd,h _ _ (I.tok _) ?_⟩;rw[l];exact(rel.val k).getD rd
end
def PM(td ty:TE):TE:=λσ H Q=>td σ H λx H1=>∃a,x=.ref a/\IsD H1 a/\ty σ H1 λy H2=>∃o,DGet H2 a y o/\Q (o.getD .non) H2
def PN(td ty tx:TE):TE:=λσ H Q=>td σ H λx H1=>∃a,x=.ref a/\IsD H1 a/\ty σ H1 λy H2=>tx σ H2 λz H3=>∃o,DGet H3 a y o/\Q (o.getD z) H3
section
variable{X:Cx}{o e f:Expr}{apos cpos:Pos}{td ty tx:TE}
theorem JT(hu:X.A.units+1<cLine)(ho:PE X o td)(he:PE X e ty)(m:M1 X o "get" apos e cpos):PE X (.Call (.Attribute o "get" apos) [e] [] cpos) (PM td ty):=by intro pins s σ H Q I h;refine iy m.base m.few m.line gj dZ kN (thn (ho pins s σ H _ I h) λu s1 zz=>?_);obtain⟨x,H1,I1,rx,a,ex,d,q1⟩:=zz;subst ex;obtain rfl:u=Value.ref a:=rx;obtain⟨t1,t2,_⟩:=Di I1 d;refine⟨t1,t2,?_⟩;rw[m.trees];refine dO rfl (fW (dq (thn (he pins s1 σ H1 _ I1 q1) λiv s2 ⟨y,H2,I2,ry,ov,g,q2⟩=>eU ?_)));exact PK hu I2 g ry λw' s3 I3 rw'=>⟨_,H2,I3,rw',q2⟩
theorem JU(hu:X.A.units+1<cLine)(ho:PE X o td)(he:PE X e ty)(hf:PE X f tx)(m:M2 X o "get" apos e f cpos):PE X (.Call (.Attribute o "get" apos) [e,f] [] cpos) (PN td ty tx):=by
 intro pins s σ H Q I h;refine iy m.base m.few m.line gj dZ kN (thn (ho pins s σ H _ I h) λu s1 zz=>?_);obtain⟨x,H1,I1,rx,a,ex,d,q1⟩:=zz;subst ex;obtain rfl:u=Value.ref a:=rx;obtain⟨t1,t2,_⟩:=Di I1 d;refine⟨t1,t2,?_⟩;rw[m.trees];refine dO rfl (fW (dq (thn (he pins s1 σ H1 _ I1 q1) λiv s2 ⟨y,H2,I2,ry,q2⟩=>
  dq (thn (hf pins s2 σ H2 _ I2 q2) λfv s3 ⟨z,H3,I3,rz,ov,g,q3⟩=>eU ?_))))
 exact PL hu I3 g ry rz λw' s4 I4 rw'=>⟨_,H3,I4,rw',q3⟩
end
end L2
namespace Att
open PySem PySem.W PySem.Calls PyProof.Rows
theorem zT{P:fO}{h:Heap}:∀(ns:List Int) (vs:List aa),WellAll P h vs (ns.map WData.int)->fL vs ns:=by
 intro ns
 induction ns with
 |nil=>intro vs w;rw[bV]at w;cases w;exact .nil
 |cons n ns ih=>
  intro vs w;rw[av]at w;cases w with
  |cons a b=>cases a;exact .cons _ _ (ih _ b)
theorem HW{l:eE}{n:Nat}(hn:l.most=some n){P:fO}{h:Heap}{args:List WData}{vals:List aa}
  (hpre:l.row.toRowW.claim.pre args=true) (hwl:WellAll P h vals args):
  ∃a vs ns,vals=[Value.ref a]/\args=[WData.list (ns.map WData.int)]/\h.get? a=some { cls:=.type "list", data:=.seq vs.toArray }/\fL vs ns/\ns.length<=n:=by
 have hsh:WShape.hasAll [] args [.list .int]=true:=(pre_splitW hpre).1;have hc:l.pre.holds [] { args:=args }=true:=(pre_splitW hpre).2;obtain⟨d,r,rfl,h1,h2⟩:=hasAllW_cons hsh;obtain rfl:=hasAllW_nil h2;obtain⟨xs,rfl,h3⟩:=hasW_list h1;obtain⟨ns,rfl⟩:=items_int h3;have hlen:ns.length<=n:=by
  unfold OpenLaw.pre at hc;have h4:(WTm.not (.lt (.lit (.int (n:Int))) (.len (.arg 0)))).holds [] { args:=[.list (ns.map .int)] }=true:=by have h4:=(holds_andW hc).1;rw[hn]at h4;exact h4
  have h5:=condW_of h4 (w_not (w_lt w_lit (w_len_list (w_arg rfl))));rw[ah]at h5;refine kC λq=>?_;have q':(n:Int)<((ns.length:Nat):Int):=by omega
  first
   |(rw[bg q']at h5;exact ao h5 (by decide))
   |(simp at h5;omega)
 cases hwl with
 |cons w1 w2=>
  cases w2;cases w1 with
  |list ho hall=>exact⟨_,_,ns,rfl,rfl,ho,zT ns _ hall,hlen⟩
theorem HX(l:eE)(args:List WData):l.row.toRowW.claim.post args (.bool true) args=true:=
 postW_of (r:=l.row.toRowW) (X:=(true==true))
  (show mj [] (.bool true) .bool=true by first|rfl|decide|simp[mj,WShape.arms,WShape.armsAll])
  (show (WTm.eq .res (.lit (.bool true))).value [] { args:=args,res:=some (.bool true),after:=args }=some (.bool (true==true)) from w_eq_bool (w_res rfl) w_lit) rfl
theorem attach_call{l:eE}{n:Nat}{q:au}{loose:List Str}{XP:(Str->Option aa)->Heap->Prop}{YP:aq->Heap->Prop}{d:DefRec}
  (hn:l.most=some n) (hdf:d.params.defaults=[])
  (call:∀(w:aq) (s₀ s₁:ae) (mg mb:Str->Option aa) (fa:Addr) (o:Obj) (pm cd doc:aa) (a:Addr) (vs:List aa) (ns:List Int),
   Ground q loose [] XP w s₀ mg mb s₁.heap->YP w s₁.heap->
   s₁.heap.get? fa=some o->o.data=.func (docDef d.name d.params d.body d.scope pm cd doc)->s₁.heap.CodeRec cd d.name->mg d.name=some (.ref fa)->
   s₁.heap.get? a=some { cls:=.type "list", data:=.seq vs.toArray }->fL vs ns->ns.length<=n->s₁.gens=#[]->
   bR (model l.prog w) callerA (.call (.ref fa) ⟨[.ref a],[]⟩) (λr s'=>r=.ok (.ret (.bool true))/\OldK s₁.heap s'.heap/\s'.os=s₁.os/\cS s'.gens) s₁):
  WalkO q loose XP YP l.row.toRowW d [] (λf vs=>jf f vs):=by
 intro w s₀ s₁ mg mb G Y fa o pm cd doc dV kV ho hd hcd hD hmg hg args vals as hpre hlay hrd hwl hlo;obtain rfl:dV=.none:=Dflts.none hD hdf;obtain rfl:kV=.none:=Dflts.noKw hD;obtain⟨a,vs,ns,rfl,rfl,hobj,hints,hlen⟩:=HW hn hpre hwl;refine enter_call (eA (call w s₀ s₁ mg mb fa o pm cd doc a vs ns G Y ho (fd_plain hd) hcd hmg hobj hints hlen hg) λr s' hq=>?_);obtain⟨rfl,h2,h3,h4⟩:=hq;exact⟨.inl ⟨.bool true,.bool true,[],rfl,λ_=>rfl,.bool true,HX l _,λ_=>⟨List.Pairwise.nil,λ_ hm=>(nomatch hm)⟩⟩,h2,h3,h4⟩
end Att
namespace L2
open PySem PySem.Spec PyProof.Rows
theorem B6:∀{vs:List aa} {ns:List Int},fL vs ns->Vals (ns.map V.int) vs
 |_,_,.nil=>.nil
 |_,_,.cons n t h=>.cons ⟨t,rfl⟩ (B6 h)
def PQ(H:Hp):Prop:=∀b,H b=none\/∃o xs,H b=some (.frz o (.lst xs))
variable{a:Addr}{fd:bb}{sp:Sp}
theorem JV{P:au}{w:aq}{K:ak}{mg mb:Str->Option aa}{CX:CXT}{k:Nat}{fa:Addr}{x:Str}{s₁:ae}{vs:List aa}{ns:List Int}
  (KX:K.In s₁.heap) (hns:s₁.heap.Ns aK mg) (hb:s₁.heap.Ns builtinsNs mb) (hbb:∀x:Str,x≠"__name__" -> mb x=cB x) (hlim:s₁.heap.NoLimit) (hg:s₁.gens=#[])
  (ha:s₁.heap.get? a=some { cls:=.type "list", data:=.seq vs.toArray }) (hi:fL vs ns) (hl:ns.length<=aE) (hr:pW k callerA)
  (F:∀base:Heap,K.In base->base.Ns aK mg->se P w K mg base CX k fa fd [x] sp) (hbind:∀(s:ae) (u:aa),eF s fd ⟨[u],[]⟩ [(x,u)])
  (hsp:∀H:Hp,PQ H->SqL K H a (ns.map V.int)->sp [.ref a] H (λv _=>v=.bl true) λ_ _ _=>False)
  (hCX:∀H e s',CX [] H s₁ (λ_ _ _=>False) e s'->False):
  bR (model P w) callerA (.call (.ref fa) ⟨[.ref a],[]⟩) (λr s'=>r=.ok (.ret (.bool true))/\OldK s₁.heap s'.heap/\s'.os=s₁.os/\cS s'.gens) s₁:=by
 have rv:=B6 hi;have lenV:=hi.length;have core:∀H:Hp,PQ H->SqL K H a (ns.map V.int)->HOk P w H s₁.heap->(∀b,H b≠none->b=a)->(H a≠none->K.lookup a=none)->
   bR (model P w) callerA (.call (.ref fa) ⟨[.ref a],[]⟩) (λr s'=>r=.ok (.ret (.bool true))/\OldK s₁.heap s'.heap/\s'.os=s₁.os/\cS s'.gens) s₁:=by
  intro H hO hS hok hA hK;have base_of:∀{b:Addr} {o:Obj},s₁.heap.get? b=some o->H b=none->(CU s₁.heap H).get? b=some o:=λe n=>Jo e n;have noA:∀{b:Addr} {o:Obj} {es:Array DictEntry} {ep:Nat},s₁.heap.get? b=some o->o.data=.dict es ep->H b=none:=λ{b o es ep} e d=>by
   cases q:H b with
   |none=>rfl
   |some u=>have e':b=a:=hA b (by rw[q];simp);subst e';rw[ha]at e;cases e;have d':Data.seq vs.toArray _=Data.dict es ep:=d;cases d'
  have nsK:∀{b:Addr} {m:Str->Option aa},s₁.heap.Ns b m->(CU s₁.heap H).Ns b m:=λ{b m} ⟨o,es,ep,e,d,r⟩=>⟨o,es,ep,base_of e (noA e d),d,r⟩;have hKb:K.In (CU s₁.heap H):=λb o e=>base_of (KX b o e) (by
   cases q:H b with
   |none=>rfl
   |some u=>
    have e':b=a:=hA b (by rw[q];simp);subst e';rw[hK (by rw[q];simp)]at e;cases e)
  have hM:Mod K mg (CU s₁.heap H):=⟨hKb,nsK hns,⟨mb,nsK hb,hbb⟩,let ⟨mc,h1,h2⟩:=hlim;⟨mc,nsK h1,h2⟩⟩;have e0:Fk P w K mg (CU s₁.heap H) callerA [] s₁ H:=⟨rfl,hM,λb o e=>Me e,lW (HG _ _),trivial,λb hb=>ao (show b∈([]:List Addr) from hb) (by simp),hok,.of_eq hg⟩;refine eA ((F _ hKb (nsK hns)).run callerA [] s₁ H ⟨[.ref a],[]⟩ [.ref a] [.ref a] _ _ hr e0 (hbind s₁ (.ref a)) (.cons rfl .nil) (hsp H hO hS)) λr s' h=>?_;cases r with
  |error e=>exact(hCX H e s' h).elim
  |ok fl=>
   cases fl with
   |next=>exact bW h
   |brk=>exact bW h
   |cont=>exact bW h
   |ret u=>
    obtain⟨v,H',os,bare,un,hok',r',q⟩:=h;have q':v=.bl true:=q;subst q';obtain rfl:u=Value.bool true:=r';refine⟨rfl,OldK.of_keep λb o e=>?_,os,bare⟩;cases q:H b with
    |none=>exact un.keep b o e q (by intro z;exact ao (show b∈([]:List Addr) from z) (by simp)) (by simp)
    |some u=>
     rcases hO b with z|⟨ob,xs,z⟩
     ·rw[q]at z;cases z
     ·have z2:=un.frzs b ob _ z;obtain⟨e1,_⟩:=hok b _ z;obtain⟨e2,_⟩:=hok' b _ z2;rw[e]at e1;cases e1;exact e2
 cases hk:K.lookup a with
 |some o=>have e:=KX a o hk;rw[ha]at e;cases e;refine core (λ_=>none) (λ_=>.inl rfl) (.inr ⟨_,vs.toArray,_,hk,rfl,rfl,rfl,by rw[aQ,lenV];exact hl,by simpa using rv⟩) (λb u z=>by have z':(none:Option HO)=some u:=z;cases z') (λb z=>ao rfl z) λz=>ao rfl z
 |none=>
  refine core (λb=>if b=a then some (.frz { cls:=.type "list", data:=.seq vs.toArray } (.lst (ns.map V.int)))else none) (λb=>?_) (.inl (.inr ⟨{ cls:=.type "list", data:=.seq vs.toArray },aj rfl⟩)) (λb u z=>?_) (λb z=>?_) λ_=>hk
  ·by_cases hb:b=a
   ·exact .inr ⟨_,_,aj hb⟩
   ·exact .inl (ai hb)
  ·by_cases hb:b=a
   ·have z':=(aj hb).symm.trans z;cases z';subst hb;exact⟨ha,by rw[ah];exact hl,vs,_,rv,ha⟩
   ·have z':=(ai hb).symm.trans z;cases z'
  ·by_cases hb:b=a
   ·exact hb
   ·exact ao (ai hb) z
theorem MJ{l:eE}{n k:Nat}{q:au}{loose:List Str}{XP:(Str->Option aa)->Heap->Prop}{YP:aq->Heap->Prop}{d:DefRec}{K:fO->ak}{CX:aq->CXT}{sp:aq->Sp}{x:Str}
  (hn:l.most=some n) (hn2:n<=aE) (hdf:d.params.defaults=[]) (hr:pW k callerA)
  (hY:∀(w:aq) (h:Heap),YP w h->(K w.params).In h)
  (F:∀(w:aq) (mg:Str->Option aa) (fa:Addr) (h:Heap),(K w.params).In h->h.Ns aK mg->mg d.name=some (.ref fa)->
   ∃fd:bb,(∀(s:ae) (u:aa),eF s fd ⟨[u],[]⟩ [(x,u)])/\
    ∀base:Heap,(K w.params).In base->base.Ns aK mg->se l.prog w (K w.params) mg base (CX w) k fa fd [x] (sp w))
  (hsp:∀(w:aq) (H:Hp) (a:Addr) (ns:List Int),ns.length<=n->PQ H->SqL (K w.params) H a (ns.map V.int)->sp w [.ref a] H (λv _=>v=.bl true) λ_ _ _=>False)
  (hCX:∀(w:aq) (H:Hp) (s:ae) (e:aa) (s':ae),CX w [] H s (λ_ _ _=>False) e s'->False):
  W.WalkO q loose XP YP l.row.toRowW d [] (λf vs=>jf f vs):=by
 refine Att.attach_call hn hdf λw s₀ s₁ mg mb fa o pm cd doc a vs ns G Y ho hd hcd hmg hobj hints hlen hg=>?_;have KX:=hY w _ Y;obtain⟨fd,hb,hF⟩:=F w mg fa _ KX G.T.g hmg;exact JV KX G.T.g G.T.b G.T.builtins G.T.nolimit hg hobj hints (bM hlen hn2) hr hF hb (λH hO hS=>hsp w H a ns hlen hO hS) λH e s'=>hCX w H s₁ e s'
def inClass(s:Stmt)(j:Nat):Stmt:=match s with
 |.ClassDef _ _ _ body _ _ _ _ _ _ _=>body.getD j (.Pass ⟨0,0,0,0⟩)
 |_=>.Pass ⟨0,0,0,0⟩
def rN(s:Stmt):Arguments:=match s with
 |.FunctionDef _ a _ _ _ _ _ _ _ _=>a
 |_=>{ posonlyargs:=[],args:=[],vararg:=none,kwonlyargs:=[],kw_defaults:=[],kwarg:=none,defaults:=[] }
def o9(s:Stmt):List Stmt:=match s with
 |.FunctionDef _ _ b _ _ _ _ _ _ _=>b
 |_=>[]
def oO(s:Stmt):bY:=match s with
 |.FunctionDef _ _ _ _ _ _ sc _ _ _=>sc
 |_=>{ kind:=.function,names:=[],isGenerator:=false,isCoroutine:=false }
abbrev CX0:CXT:=λ_ _ _ _ _ _=>False
abbrev E0:XK:=λ_ _ _=>False
theorem zk{X:Cx}:Passes CX0 X E0:=λ_ _ _ _ _ _ _ h=>h.elim
structure Fun(K:ak)(x qual:Str)(st:Stmt)(f:Addr)(fd:bb):Prop where
 ex:∃(oc:aa) (od:Option Addr) (kV doc pm:aa) (an:Option Addr) (cdv ct:aa) (osl:Array (Option aa)),
  fd=cX x qual (rN st) (o9 st) (oO st) .none kV doc pm an cdv ct/\K.lookup f=some ⟨oc,od,.func fd,osl⟩/\eD K cdv qual=true
 kp:cF K (.ref f)=true
variable{qual:Str}{st:Stmt}{ps:List Str}
section
variable{P:au}{w:aq}{K:ak}{mg:Str->Option aa}{base:Heap}
theorem Fun.ok{x:Str}{f:Addr}{N:List Str}{k:Nat}(F:Fun K x qual st f fd)(S:pS N ps (oO st))(len:∀vs H Q E,sp vs H Q E->vs.length=ps.length)
  (hbody:∀(cdv:aa) (A:az) (outer:List Env) (s:ae) (H:Hp) (vs:List V) (Q:VK) (E:XK),pW k (A.deeper (envOfC qual (oO st) s.heap.objs.size f cdv))->sp vs H Q E->
   ∃t,PSs (DV CX0 P w K mg base N qual (oO st) f cdv A outer s H E).nox (o9 st) t/\t { nx:=λ_ H'=>Q .non H',rt:=Q } (start N vs) H):se P w K mg base CX0 (k+1) f fd ps sp:=by
 obtain⟨oc,od,kV,doc,pm,an,cdv,ct,osl,rfl,lk,hcd⟩:=F.ex;refine OM lk hcd S len λA outer s H vs Q E hr hsp=>?_;obtain⟨t,h,q⟩:=hbody cdv A outer s H vs Q E hr hsp;exact⟨t,h.nox,q⟩
theorem Fun.binds{x:Str}{f:Addr}(F:Fun K x qual st f fd)
  (h:∀(kV doc pm:aa) (an:Option Addr) (cdv ct:aa) (us:List aa),us.length=ps.length->bindArgs (cX x qual (rN st) (o9 st) (oO st) .none kV doc pm an cdv ct) ⟨us,[]⟩=pure (ps.zip us)):Binds K fd ps []:=by
 obtain⟨oc,od,kV,doc,pm,an,cdv,ct,osl,rfl,lk,hcd⟩:=F.ex;exact .all (h kV doc pm an cdv ct)
end
theorem GB{A:az}{k:Nat}(hr:pW k A):A.units+1<cLine:=iw (Nat.add_le_add_left (by decide:1<=64) _) hr.units
theorem wI{n:Nat}(h:n<=1000):n<aE:=iw h (by decide)
section
variable{X:Cx}
theorem pv(i:Nat){x:Str}{pos:Pos}(hN:X.N[i]?=some x:=by rfl)(hv:Vis X.env.scope x:=by first|exact Or.inl rfl|exact Or.inr (Or.inl rfl)|exact Or.inr (Or.inr rfl))(hd:(x==("__debug__" : Str))=false:=by decide)
  (hcd:(x==("__classdict__" : Str))=false:=by decide):PE X (.Name x pos) (ua i):=O7 hN hv hd hcd
end
variable{B:Prop}
theorem D4{A:Prop}(h:B):if false=true then A else B:=by rw[ai aP];exact h
theorem D5{A:Prop}(h:A):if true=true then A else B:=by rw[aj rfl];exact h
def oM(H H':Hp):Prop:=∀b o,H b=some o->H' b=some o
theorem oM.refl(H:Hp):oM H H:=λ_ _ h=>h
theorem oM.trans{H H1 H2:Hp}(a:oM H H1)(b:oM H1 H2):oM H H2:=λc o h=>b c o (a c o h)
theorem oM.seq{K:ak}{H H':Hp}{xs:List V}(e:oM H H')(h:SqL K H a xs):SqL K H' a xs:=by
 rcases h with (h|⟨o,h⟩)|h
 ·exact .inl (.inl (e _ _ h))
 ·exact .inl (.inr ⟨o,e _ _ h⟩)
 ·exact .inr h
end L2
set_option maxHeartbeats 4000000
namespace L3
open PySem PySem.Spec PyProof.Rows L2
abbrev St:=L2.St
theorem Av{α β:Type}{f:α->β->Sem (ForInStep β)}{g:β->α->β}:∀(l:List α) (b:β),(∀x∈l,∀c,f x c=pure (ForInStep.yield (g c x)))->(forIn l b f:Sem β)=pure (l.foldl g b)
 |[],b,_=>by simp
 |x::r,b,h=>by rw[iA,h x aT b];show (forIn r (g b x) f:Sem β)=_;rw[Av r (g b x) λy hy c=>h y (aZ _ hy) c];rfl
def vL(cells:List (Str×Addr))(cs:List (Str×Addr))(x:Str×cG):List (Str×Addr):=if (x.2==NameKind.free)=true then (x.1,(cells.lookup x.1).getD 0)::cs else cs
def sP(cells:List (Str×Addr))(names:List (Str×cG)):List (Str×Addr):=names.foldl (vL cells) []
variable{scope:bY}{env:Env}
theorem BH(h:∀x∈scope.names,x.2=.free->∃c,env.cells.lookup x.1=some c):
  closureFor scope env=pure (sP env.cells scope.names):=by
 simp only[closureFor];rw[Av (g:=vL env.cells) scope.names [] λx hx c=>by
  obtain⟨n,k⟩:=x;by_cases hk:k=.free
  ·subst hk;obtain⟨a,e⟩:=h _ hx rfl;have e':env.cells.lookup n=some a:=e;simp only[vL,cellOf,e',beq_self_eq_true,if_true,kE];rfl
  ·have hb:(k==NameKind.free)=false:=by simpa using hk
   simp only[vL,hb,dQ,if_false]]
 rfl
theorem D6{cells:List (Str×Addr)}:∀(names:List (Str×cG)) (acc:List (Str×Addr)),(∀x∈names,x.2=.free->∃c,cells.lookup x.1=some c)->(∀x c,acc.lookup x=some c->cells.lookup x=some c)->
  ∀x c,(names.foldl (vL cells) acc).lookup x=some c->cells.lookup x=some c
 |[],acc,_,ha,x,c,e=>ha x c e
 |y::r,acc,h,ha,x,c,e=>by
  refine D6 r (vL cells acc y) (λz hz=>h z (aZ _ hz)) (λz d ez=>?_) x c e;obtain⟨n,k⟩:=y;unfold vL at ez;split at ez
  ·rename_i hk;obtain⟨a,ea⟩:=h (n,k) aT (by simpa using hk);have ea':cells.lookup n=some a:=ea;rw[c6]at ez;cases hb:z==n with
   |true=>rw[hb]at ez;have ez':some ((cells.lookup n).getD 0)=some d:=ez;rw[ea']at ez';rw[fG hb,ea'];exact ez'
   |false=>rw[hb]at ez;exact ha z d ez
  ·exact ha z d ez
theorem B7{cells:List (Str×Addr)}:∀(names:List (Str×cG)) (acc:List (Str×Addr)) (x:Str),(∃c,acc.lookup x=some c)->∃c,(names.foldl (vL cells) acc).lookup x=some c
 |[],_,_,h=>h
 |y::r,acc,x,h=>by
  refine B7 r (vL cells acc y) x ?_;unfold vL;split
  ·rw[c6];cases x==y.1 with
   |true=>exact⟨_,rfl⟩
   |false=>exact h
  ·exact h
theorem Aw{cells:List (Str×Addr)}:∀(names:List (Str×cG)) (acc:List (Str×Addr)) (x:Str),(x,NameKind.free)∈names->∃c,(names.foldl (vL cells) acc).lookup x=some c
 |[],_,_,h=>by cases h
 |y::r,acc,x,h=>by
  rcases aJ.mp h with e|h
  ·subst e;refine B7 r _ x ?_;unfold vL;rw[aj (by simp),c6];simp
  ·exact Aw r _ x h
theorem u9{env:Env}(x:Str):∀(names:List (Str×cG)),
  (names.map λ(n,k)=>if (k==NameKind.free&&env.scope.kind==.function&&env.kindOf n==some .cell)then (n,NameKind.cell)else (n,k)).lookup x=
   (names.lookup x).map λk=>if (k==NameKind.free&&env.scope.kind==.function&&env.kindOf x==some .cell)=true then NameKind.cell else k
 |[]=>rfl
 |(n,k)::r=>by
  have ih:=u9 (env:=env) x r;rw[av,c6 (k:=n)];show cj x ((if (k==NameKind.free&&env.scope.kind==.function&&env.kindOf n==some .cell)=true then (n,NameKind.cell)else (n,k))::_)=_;cases hx:x==n with
  |true=>
   have e:=fG hx;subst e;split
   ·rename_i hc;simp only[c6,hx,dw,hc,if_true]
   ·rename_i hc;simp only[c6,hx,dw];rw[ai hc]
  |false=>
   rw[<-ih];split
   ·simp only[c6,hx]
   ·simp only[c6,hx]
theorem Fn{x:Str}(hcell:∀y∈scope.names,y.2≠.cell)(h:(relabel scope env).names.lookup x=some .cell\/(relabel scope env).names.lookup x=some .free):(x,NameKind.free)∈scope.names:=by
 have e:=u9 (env:=env) x scope.names;have h':(scope.names.lookup x).map (λk=>if (k==NameKind.free&&env.scope.kind==.function&&env.kindOf x==some .cell)=true then NameKind.cell else k)=some .cell\/
   (scope.names.lookup x).map (λk=>if (k==NameKind.free&&env.scope.kind==.function&&env.kindOf x==some .cell)=true then NameKind.cell else k)=some .free:=by
  rw[<-e];exact h
 cases q:scope.names.lookup x with
 |none=>rw[q]at h';rcases h' with z|z<;>cases z
 |some k=>
  rw[q]at h';have hm:=mem_of_lookup q;have hc:=hcell _ hm;cases k with
  |free=>exact hm
  |cell=>exact ao rfl hc
  |_=>rcases h' with z|z<;>cases z
theorem BI{x:Str}(h:scope.names.lookup x=some .free):(relabel scope env).names.lookup x=some .cell\/(relabel scope env).names.lookup x=some .free:=by
 have e:=u9 (env:=env) x scope.names;have e':(relabel scope env).names.lookup x=(scope.names.lookup x).map λk=>if (k==NameKind.free&&env.scope.kind==.function&&env.kindOf x==some .cell)=true then NameKind.cell else k:=e
 rw[e',h,dw];split
 ·exact .inl rfl
 ·exact .inr rfl
def pX(X:Cx)(N':List Str)(scope:bY)(cl:List (Str×Addr))(C:Addr)(fp:List Addr)(s:ae)(H:Hp):Cx:=
 { X with N:=N',s₀:=s,H₀:=H,env:=compEnvC scope cl C X.env,outer:=X.stack,ex:=fp,fn:=λ_=>false,pn:=[],xe:=λ_ _=>False }
def PIf(X:Cx)(ifs:List Expr)(t:TT):Prop:=
 ∀(pins:List (Addr×Obj)) (s:ae) (σ:St) (H:Hp) (Q:Bool->Hp->Prop),Inv X pins σ H s->t σ H Q->
  af (model X.prog X.w) X.A (forIn ifs true λc r=>if r=true then do let ok<-isTrue c X.env (eval c X.env);pure (ForInStep.yield ok)else pure (ForInStep.yield r)) (TP X pins σ Q) X.xe s
def UW:TT:=λ_ H Q=>Q true H
variable{X:Cx}
theorem MK:PIf X [] UW:=λ_ _ _ H _ I h=>wpAny_tests_nil ⟨H,I,h⟩
theorem MM{c:Expr}{t:TT}(h:PT X c t):PIf X [c] t:=λpins s σ H Q I hq=>wpAny_tests_one (h pins s σ H Q I hq)
variable{elt iter:Expr}{ifs:List Expr}{pos:Pos}
section
variable{prog:au}{w:aq}{A:az}{R:di->ae->Prop}{s:ae}
theorem Dj{target:Expr}{it acc:aa}(J:Nat->ae->Prop)
  (turn:∀n s,J n s->af (model prog w) A (pyNext it) (λr s₁=>match r with
   |none=>R (.ok .next) s₁
   |some v=>af (model prog w) A (dY target it v) (λ_ s₁'=>af (model prog w) A (assign target env v) (λ_ s₂=>
     af (model prog w) A (forIn ifs true λc r=>if r=true then do let ok<-isTrue c env (eval c env);pure (ForInStep.yield ok)else pure (ForInStep.yield r)) (λok s₃=>
      if ok=true then af (model prog w) A (eval elt env) (λx s₄=>
       af (model prog w) A (call (.builtin "list.append") [acc,x]) (λ_ s₅=>∃m,m<n/\J m s₅) (notedBy (model prog w) A env λe s'=>R (.error e) s') s₄) (notedBy (model prog w) A env λe s'=>R (.error e) s') s₃
      else ∃m,m<n/\J m s₃) (notedBy (model prog w) A env λe s'=>R (.error e) s') s₂) (notedBy (model prog w) A env λe s'=>R (.error e) s') s₁')
      (notedBy (model prog w) A env λe s'=>R (.error e) s') s₁) (notedBy (model prog w) A env λe s'=>R (.error e) s') s)
  (n:Nat) (h:J n s):
  bR (model prog w) A (.compLoop (.ListComp elt [⟨target,iter,ifs,0⟩] scope pos) 0 it acc env) R s:=by
 refine codeAny_loop rfl J (λn s hI=>?_) n h;show af _ A ((compTurn (.ListComp elt [⟨target,iter,ifs,0⟩] scope pos) 0 it acc env).onRaise (λx=>do noteFrame x env;theTreesLotGoes x)) _ _ s;refine wpAny_noted ?_;rw[compTurn_list];refine ag (lK (ag (bx (turn n s hI) (λr s₁ h₁=>?_) λ_ _ h'=>h')));cases r with
 |none=>exact aw h₁
 |some v=>
  refine ag (bx h₁ (λ_ s₁' h₁'=>?_) λ_ _ h'=>h');refine ag (bx h₁' (λ_ s₂ h₂=>ag (bx h₂ (λok s₃ h₃=>?_) λ_ _ h'=>h')) λ_ _ h'=>h');cases ok with
  |false=>exact aw ⟨rfl,h₃⟩
  |true=>exact ag (ag (bx h₃ (λx s₄ h₄=>ag (bx h₄ (λ_ s₅ h₅=>aw (aw ⟨rfl,h₅⟩)) λ_ _ h'=>h')) λ_ _ h'=>h'))
end
def rO(k:Nat)(cap:List Nat)(σ:St):St:=fq k none++cap.map λj=>(σ[j]?).join
variable{σ:St}{i:Nat}
theorem B8{k:Nat}{cap:List Nat}{v:V}(h:(rO k cap σ)[i]?=some (some v)):k<=i:=by
 by_cases hi:k<=i
 ·exact hi
 ·unfold rO at h;rw[cK (by rw[bO];omega),eI]at h;split at h<;>cases h
variable{N N':List Str}
theorem HY{k:Nat}{cap:List Nat}{v:V}{x:Str}(hcap:(N'.drop k).map some=cap.map λj=>N[j]?)(hx:N'[i]?=some x)(h:(rO k cap σ)[i]?=some (some v)):
  ∃j:Nat,N[j]?=some x/\σ[j]?=some (some v)/\x∈N'.drop k:=by
 have hi:=B8 h;unfold rO at h;rw[cJ (by rw[bO];exact hi),bO,aW]at h;have hd:(N'.drop k)[i - k]?=some x:=by rw[cZ,show k+(i - k)=i by omega];exact hx
 have e:=aL (λl=>l[i - k]?) hcap;simp only[aW,hd,dw]at e;cases q:cap[i - k]? with
 |none=>rw[q]at h;cases h
 |some j=>
  rw[q]at h e;simp only[dw,og]at h e;refine⟨j,e.symm,?_,bK hd⟩;cases z:σ[j]? with
  |none=>rw[z]at h;cases h
  |some o=>rw[z]at h;have h':o=some v:=h;rw[h']
def zm(wi:TI)(g:TG)(tt:TT)(te:TE)(k:Nat)(cap:List Nat):TE:=λσ H Q=>wi σ H λJ H1=>∀p,H1 p=none->
 ∃W:Nat->Nat->List V->Hp->Prop,(∃m,W 0 m [] (upd H1 p (.lst [])))/\∀i m acc H2,W i m acc H2->
  (J.stop i H2/\Q (.ref p) H2)\/
   (J.go i H2/\∀x H3,J.yld i H2 x H3->g x (rO k cap σ) H3 λσ4 H4=>σ4.drop k=(rO k cap σ).drop k/\tt σ4 H4 λb H5=>
    if b=true then te σ4 H5 λy H6=>∃acc',H6 p=some (.lst acc')/\acc'.length<aE/\∃m',m'<m/\W (i+1) m' (acc'++[y]) (upd H6 p (.lst (acc'++[y])))
    else ∃m',m'<m/\W (i+1) m' acc H5)
variable{tg:Expr}{wi:TI}{tt:TT}{te:TE}
theorem B9{pins:List (Addr×Obj)}{s:ae}{H:Hp}{use:Option (aa->Sem Unit)}{P:aa->ae->Prop}{Q:V->Hp->Prop}{k:Nat}{cap:List Nat}{g:TG}
  (hc:X.calm=true) (hi:PI X tg iter wi)
  (body:∀(cl:List (Str×Addr)) (C:Addr) (fp:List Addr) (s:ae) (H:Hp),PG (pX X N' scope cl C fp s H) tg g/\PIf (pX X N' scope cl C fp s H) ifs tt/\PE (pX X N' scope cl C fp s H) elt te)
  (hkind:scope.kind=.function) (hcell:(scope.names.all λy=>y.2 != .cell)=true)
  (hloc:(scope.names.all λy=>y.2 != .local||scope.names.lookup y.1==some .local)=true)
  (hfree:(scope.names.all λy=>y.2 != .free||(X.env.kindOf y.1==some .cell||X.env.kindOf y.1==some .free))=true)
  (hlen:N'.length=k+cap.length) (hcap:(N'.drop k).map some=cap.map λj=>X.N[j]?)
  (hcf:((N'.drop k).all λx=>scope.names.lookup x==some .free)=true)
  (hs:∀x,eS iter X.env x=pure x)
  (I:Inv X pins σ H s) (h:zm wi g tt te k cap σ H Q)
  (fin:∀a C m u s4 H3,s4.heap.Ns C m->Inv X pins σ H3 s4->BE X pins H3 C->Q (.ref a) H3->compPost (model X.prog X.w) X.A X.xe use P (.ref a) C (.ok u) s4):
  af (model X.prog X.w) X.A (comprehension (.ListComp elt [⟨tg,iter,ifs,0⟩] scope pos) scope X.env (firstIterPos [⟨tg,iter,ifs,0⟩] pos) (newList []) false (eval iter X.env) use) P X.xe s:=by
 have hcell':∀y∈scope.names,y.2≠.cell:=λy hy e=>by have z:=aY.mp hcell y hy;rw[e]at z;exact ao z (by decide)
 have hloc':∀y∈scope.names,y.2=.local->scope.names.lookup y.1=some .local:=λy hy e=>by have z:=aY.mp hloc y hy;rw[e]at z;simpa using z
 have hfree':∀y∈scope.names,y.2=.free->X.env.kindOf y.1=some .cell\/X.env.kindOf y.1=some .free:=λy hy e=>by have z:=aY.mp hfree y hy;rw[e]at z;simpa using z
 have hcl:∀y∈scope.names,y.2=.free->∃c,X.env.cells.lookup y.1=some c:=λy hy e=>I.ok.has y.1 (hfree' y hy e);refine wpAny_comprehension_free rfl hs (BH hcl) hkind hloc' (thn (hi pins s σ H _ I h) λxv s₁ h₁=>thn h₁ λit s₂ h₂=>?_);obtain⟨ita,fp,tn,J,H2,e,I2,T,st2,f2,R2⟩:=h₂;subst e;obtain⟨W,⟨m0,w0⟩,turn⟩:=R2 s₂.heap.objs.size (I2.hok.fresh (aA _));refine iz (wpAny_newFunctionEnv hcell' (by intro y hy;simp at hy) (λh₁ hns₁ hsb₁=>?_) hkind);dsimp only at hns₁ hsb₁ ⊢;generalize hp:s₂.heap.push { cls:=.type "list", dict:=none,data:=.seq ([]:List aa).toArray }=hpL at hns₁ hsb₁ ⊢;have hsz:hpL.objs.size=s₂.heap.objs.size+1:=by rw[<-hp,cf]
 have I3:Inv X pins σ (upd H2 s₂.heap.objs.size (.lst [])) { s₂ with heap:=hpL }:=by rw[<-hp];exact I2.laid (t':=s₂.toks) (λb u e=>aB _ e) (aA _) ⟨bN _,[],0,.nil,aS _ rfl⟩
 have old:∀b o,hpL.get? b=some o->h₁.get? b=some o:=λb o e=>hsb₁.extBut b o (aO (aF e)) (aB _ e);have older:∀b o,s₂.heap.get? b=some o->hpL.get? b=some o:=λb o e=>by rw[<-hp];exact aB _ e
 have hfpS:∀b∈fp,b<s₂.heap.objs.size:=λb hb=>let ⟨o,e,_⟩:=T.obj _ _ st2 b hb;aF e;have sub:∀x c,(sP X.env.cells scope.names).lookup x=some c->X.env.cells.lookup x=some c:=D6 scope.names [] hcl (λx c e=>by cases e);have ok':(pX X N' scope (sP X.env.cells scope.names) hpL.objs.size fp { s₂ with heap:=hpL } (upd H2 s₂.heap.objs.size (.lst []))).Ok:={
  mod:=I3.ok.mod
  kind:=hkind
  glob:=I3.ok.glob
  blt:=I3.ok.blt
  above:=aA _
  inj:=λx y c h1 h2=>I3.ok.inj x y c (sub x c h1) (sub y c h2)
  has:=λx hx=>Aw scope.names [] x (Fn hcell' hx)
  cab:=λx c hf _=>ao (show false=true from hf) aP
  hd:=I3.ok.hd
  frames:=I3.ok.frames
  stk:=.inl rfl
  exf:=λb hb=>⟨(by
   show b≠hpL.objs.size;rw[hsz];exact aO (dt (hfpS b hb))),λx c e=>(f2 b hb).2.2.2.2.1 x c (sub x c e)⟩
  bs:=I3.bs
  bsz:=bM I3.ok.bsz I3.sz
  noex:=λb o e hb=>by
   rcases(f2 b hb).2.2.2.1 with z|z
   ·exact I3.ok.noex b o e z
   ·exact ao (bD (aF e) (bM I3.ok.bsz z)) (cg _)
  exfs:=λb hb z=>(aJ.mp (I3.stkSub b z)).elim (f2 b hb).2.1 (f2 b hb).2.2.1
  funs:=I3.stack
  frf:=I3.stkFree }
 have IX:Inv (pX X N' scope (sP X.env.cells scope.names) hpL.objs.size fp { s₂ with heap:=hpL } (upd H2 s₂.heap.objs.size (.lst []))) [] (rO k cap σ) (upd H2 s₂.heap.objs.size (.lst []))
   { s₂ with heap:=h₁,toks:=s₂.toks+([]:List (Str×aa)).length }:={
  ok:=ok'
  os:=rfl
  bare:=I3.bare
  base:=Un.kept old
  loc:=⟨_,hns₁,λi x v e1 e2 _=>by
   obtain⟨j,hj,hσ,hm⟩:=HY hcap e1 e2;have hx:scope.names.lookup x=some .free:=by simpa using aY.mp hcf x hm
   have hk:=hfree' (x,.free) (mem_of_lookup hx) rfl;obtain⟨m,hn,hl⟩:=I3.loc;obtain⟨u,r,lk⟩:=hl j x v hj hσ (hk.elim (λz=>.inr (.inl z)) λz=>.inr (.inr z));refine⟨u,r,.inr ⟨BI hx,?_⟩⟩;rcases lk with ⟨z,_⟩|⟨_,c,e,o,ho,hd⟩
   ·rcases hk with y|y
    ·rw[y]at z;cases z
    ·rw[y]at z;cases z
   ·obtain⟨c',e'⟩:=Aw (cells:=X.env.cells) scope.names [] x (mem_of_lookup hx);have ec:=sub x c' e';rw[e]at ec;have ec':c=c':=bE ec;subst ec';exact⟨c,e',o,old _ _ ho,hd⟩⟩
  cell:=λx c e=>by obtain⟨v,o,ho,hd⟩:=I3.cell x c (sub x c e);exact⟨v,o,old _ _ ho,hd⟩
  free:=I3.hok.fresh (aA _)
  freeC:=λx c e=>I3.freeC x c (sub x c e)
  pin:=λp hp=>ao (show p∈([]:List (Addr×Obj)) from hp) (by simp)
  hok:=I3.hok.kept old
  len:=by
   show (rO k cap σ).length=N'.length;rw[hlen];unfold rO;rw[aI,bO,ah] }
 have stat:∀{H':Hp},(∀b∈fp,H' b=none)->∀b∈fp,BE (pX X N' scope (sP X.env.cells scope.names) hpL.objs.size fp { s₂ with heap:=hpL } (upd H2 s₂.heap.objs.size (.lst []))) [] H' b:=λhn b hb=>⟨hn b hb,(ok'.exf b hb).1,ok'.exfs b hb,.inl hb,(ok'.exf b hb).2,λp hp=>ao (show p∈([]:List (Addr×Obj)) from hp) (by simp)⟩
 have st4:tn 0 h₁:=T.keep _ _ _ st2 λb _ o e=>old b o (older b o e);have loop:bR (model X.prog X.w) X.A (.compLoop (.ListComp elt [⟨tg,iter,ifs,0⟩] scope pos) 0 (.ref ita) (.ref s₂.heap.objs.size) (compEnvC scope (sP X.env.cells scope.names) hpL.objs.size X.env))
   (compPost (model X.prog X.w) X.A X.xe use P (.ref s₂.heap.objs.size) hpL.objs.size) { s₂ with heap:=h₁,toks:=s₂.toks+([]:List (Str×aa)).length }:=by
  refine Dj (λn s'=>∃i acc H',Inv (pX X N' scope (sP X.env.cells scope.names) hpL.objs.size fp { s₂ with heap:=hpL } (upd H2 s₂.heap.objs.size (.lst []))) [] (rO k cap σ) H' s'/\tn i s'.heap/\(∀b∈fp,H' b=none)/\W i n acc H')
   ?_ m0 ⟨0,[],_,IX,st4,λb hb=>?_,w0⟩
  ·rintro n s3 ⟨i,acc,H3,I4,st3,fr3,w3⟩;rcases turn i n acc H3 w3 with ⟨stop,qn⟩|⟨go,step⟩
   ·refine thn (T.done (pX X N' scope (sP X.env.cells scope.names) hpL.objs.size fp { s₂ with heap:=hpL } (upd H2 s₂.heap.objs.size (.lst []))) rfl rfl rfl hc i [] s3 _ H3 _ I4 (stat fr3) st3 stop) λr s4 zz=>?_;obtain⟨hr,I5⟩:=zz;subst hr;obtain⟨m,hn,_⟩:=id I5.loc;have U:=I5.base;refine fin _ _ m _ _ _ hn (I3.call' (s':=s4) (ch:=fp) I5.os ⟨λb o e n hb hx=>U.keep b o e n hb hx,λb o e n hb hx=>U.slot b o e n hb hx,U.free,λb o e hx=>U.there b o e hx,U.tups,U.frzs,U.tbls⟩ I5.hok I5.bare
     λb hb=>⟨(f2 b hb).2.2.2.1,(f2 b hb).2.1,(f2 b hb).2.2.2.2.1,(f2 b hb).2.2.2.2.2⟩) (I3.fpOk (aA _) I5.free) qn
   ·refine thn (T.item (pX X N' scope (sP X.env.cells scope.names) hpL.objs.size fp { s₂ with heap:=hpL } (upd H2 s₂.heap.objs.size (.lst []))) rfl rfl rfl hc i [] s3 _ H3 _ I4 (stat fr3) st3 go) λr s4 zz=>?_;obtain⟨u,hr,h4⟩:=zz;subst hr;refine thn h4 λ_ s5 zz=>?_;obtain⟨x,H5,I5,r5,y5,st5,fr5⟩:=zz;have I5':=I5.pinned (stat fr5) (T.obj _ _ st5);have again:∀{H8:Hp} {s8:ae} {σ8:St} {acc8:List V} {m':Nat},Inv (pX X N' scope (sP X.env.cells scope.names) hpL.objs.size fp { s₂ with heap:=hpL } (upd H2 s₂.heap.objs.size (.lst []))) ([]++Ak fp s5.heap) σ8 H8 s8->σ8.drop k=(rO k cap σ).drop k->m'<n->W (i+1) m' acc8 H8->
      ∃m,m<n/\∃i acc H',Inv (pX X N' scope (sP X.env.cells scope.names) hpL.objs.size fp { s₂ with heap:=hpL } (upd H2 s₂.heap.objs.size (.lst []))) [] (rO k cap σ) H' s8/\tn i s8.heap/\(∀b∈fp,H' b=none)/\W i m acc H':=λ{H8 s8 σ8 acc8 m'} I8 hd8 hm8 w8=>by
     refine⟨m',hm8,i+1,acc8,H8,I8.unpinned.weak (IX.len.trans I8.len.symm) (λj v e=>?_),T.keep _ _ _ st5 λb hb o e=>(I8.pin (b,o) (bA _ (bA _ (tE hb e)))).1,λb hb=>?_,w8⟩
     ·have hj:=B8 e;have q:(σ8.drop k)[j - k]?=((rO k cap σ).drop k)[j - k]?:=by rw[hd8]
      rw[cZ,cZ,show k+(j - k)=j by omega]at q;rw[q];exact e
     ·obtain⟨o,e,d⟩:=T.obj _ _ st5 b hb;exact(I8.pin (b,o) (bA _ (bA _ (tE hb e)))).2.1
    refine bx ((body _ _ _ _ _).1 _ s5 _ H5 x u _ I5' r5 (step x H5 y5)) (λ_ s6 h6=>?_) λ_ _ f=>f.elim;obtain⟨σ6,H6,I6,hd6,q6⟩:=h6;refine bx ((body _ _ _ _ _).2.1 _ s6 σ6 H6 _ I6 q6) (λb s7 h7=>?_) λ_ _ f=>f.elim;obtain⟨H7,I7,q7⟩:=h7;cases b with
    |false=>rw[ai aP]at q7;rw[ai aP];obtain⟨m',hm',w7⟩:=q7;exact again I7 hd6 hm' w7
    |true=>rw[aj rfl]at q7;rw[aj rfl];refine bx ((body _ _ _ _ _).2.2 _ s7 σ6 H7 _ I7 q7) (λyv s8 h8=>?_) λ_ _ f=>f.elim;obtain⟨y,H8,I8,r8,acc',hp8,hl8,m',hm',w8⟩:=h8;refine bx (yM (X:=pX X N' scope (sP X.env.cells scope.names) hpL.objs.size fp { s₂ with heap:=hpL } (upd H2 s₂.heap.objs.size (.lst []))) _ s8 σ6 H8 (.ref s₂.heap.objs.size) [y] (.ref s₂.heap.objs.size) [yv] (λ_ Hx=>Hx=upd H8 s₂.heap.objs.size (.lst (acc'++[y]))) I8 rfl (.cons r8 .nil) ⟨_,acc',y,rfl,rfl,hp8,hl8,rfl⟩) (λ_ s9 h9=>?_) λ_ _ f=>f.elim;obtain⟨_,H9,I9,_,e9⟩:=h9;subst e9;exact again I9 hd6 hm' w8
  ·have z:b≠s₂.heap.objs.size:=aO (hfpS b hb);rw[oF z];exact(f2 b hb).1
 exact codeAny_compStart_list loop (T.self _ 0 _ _ _ st4 loop)
theorem MN{k:Nat}{cap:List Nat}{g:TG}
  (hc:X.calm=true) (hi:PI X tg iter wi)
  (body:∀(cl:List (Str×Addr)) (C:Addr) (fp:List Addr) (s:ae) (H:Hp),PG (pX X N' scope cl C fp s H) tg g/\PIf (pX X N' scope cl C fp s H) ifs tt/\PE (pX X N' scope cl C fp s H) elt te)
  (hkind:scope.kind=.function:=by rfl) (hcell:(scope.names.all λy=>y.2 != .cell)=true:=by rfl)
  (hloc:(scope.names.all λy=>y.2 != .local||scope.names.lookup y.1==some .local)=true:=by rfl)
  (hfree:(scope.names.all λy=>y.2 != .free||(X.env.kindOf y.1==some .cell||X.env.kindOf y.1==some .free))=true:=by rfl)
  (hlen:N'.length=k+cap.length:=by rfl) (hcap:(N'.drop k).map some=cap.map λj=>X.N[j]?:=by rfl)
  (hcf:((N'.drop k).all λx=>scope.names.lookup x==some .free)=true:=by rfl)
  (hs:∀x,eS iter X.env x=pure x:=by intro _;rfl):
  PE X (.ListComp elt [⟨tg,iter,ifs,0⟩] scope pos) (zm wi g tt te k cap):=by
 intro pins s σ H Q I h;exact B9 hc hi body hkind hcell hloc hfree hlen hcap hcf hs I h λa C m u s4 H3 hn back fpC qn=>⟨m,hn,λh' hs'=>⟨.ref a,H3,back.turned (t':=s4.toks) (λb o hb e=>(hs'.2 b hb).trans e) fpC.1 fpC.2.1 fpC.2.2.2.1 fpC.2.2.2.2.1 fpC.2.2.2.2.2,rfl,qn⟩⟩
def Its(x:Str):It:=⟨λi _=>i<x.cps.size,λi H v H'=>H'=H/\∃c,x.cps[i]?=some c/\v=.str ⟨#[c]⟩,λi _=>i=x.cps.size⟩
theorem PR{M:Model}{A:az}{E:aa->ae->Prop}{s:ae}{it:Addr}{c:Str}{t:Tok}{Q:Unit->ae->Prop}(hQ:Q () s):af M A (dY tg (.ref it) (.str c t)) Q E s:=by unfold dY;cases tg<;>exact aw hQ
theorem D7{P:au}{w:aq}{K:ak}(it:Addr)(ty:String)(x:Str)(t:Tok)
  (hW:∀A:az,A.handled=none->Walks P w A it [it] [it] x.cps.size (SignAt x) (λi h=>h.IsStrIter it ty x t i))
  (hS:∀(A:az) (i:Nat) (s:ae) (Q:aa->ae->Prop) (E:aa->ae->Prop),s.heap.IsStrIter it ty x t i->Q (.ref it) s->af (model P w) A (pyIter (.ref it)) Q E s):
  Turn P w K tg (Its x) [it] it (λi h=>h.IsStrIter it ty x t i) where
 mem:=by simp
 obj:=λi h st b hb=>by
  have e:b=it:=by simpa using hb
  subst e;obtain⟨o,e,c,d⟩:=st;exact⟨o,e,λv z=>by rw[d]at z;cases z⟩
 keep:=λi h h' st k=>by obtain⟨o,e,r⟩:=st;exact⟨o,k it (by simp) o e,r⟩
 item:=by intro X hP hw hK hc i pins s σ H E I hf st hg;subst hP hw hK;obtain⟨f0,f1,f2,f3,f4,f5⟩:=hf it (by simp);refine(hW _ (I.ok.hd hc)).item i s _ _ hg st λv h' tk hv st' kk=>?_;obtain⟨c,t',hc',rfl⟩:=hv;have I1:Inv X pins σ H { s with heap:=h',toks:=tk }:=I.turned (λb o hb e=>kk b o (by simpa using hb) e) f0 f1 f3 f4 f5;exact⟨_,rfl,PR ⟨.str ⟨#[c]⟩,H,I1,⟨t',rfl⟩,⟨rfl,c,hc',rfl⟩,st',λb hb=>(hf b hb).1⟩⟩
 done:=by intro X hP hw hK hc i pins s σ H E I hf st hg;subst hP hw hK;obtain⟨f0,f1,f2,f3,f4,f5⟩:=hf it (by simp);have hg':i=x.cps.size:=hg;subst hg';exact(hW _ (I.ok.hd hc)).done s _ _ st λh' tk kk=>⟨rfl,I.turned (λb o hb e=>kk b o (by simpa using hb) e) f0 f1 f3 f4 f5⟩
 self:=hS
variable{tl:TE}
section
variable{X:Cx}{tg:Expr}
def TC(tl:TE):TI:=λσ H R=>tl σ H λv H1=>∃x,v=.str x/\R (Its x) H1
theorem PU{l:Expr}(hl:PE X l tl):PI X tg l (TC tl):=by
 intro pins s σ H R I h;refine thn (hl pins s σ H _ I h) λv s1 zz=>?_;obtain⟨x,H1,I1,r1,q1⟩:=zz;obtain⟨z,e,q⟩:=q1;subst e;obtain⟨t,rfl⟩:=r1;have fp:∀b∈[s1.heap.objs.size],BE X pins H1 b:=λb hb=>by
  have e:b=s1.heap.objs.size:=by simpa using hb
  subst e;exact I1.fpOk (aA _) (I1.hok.fresh (aA _))
 cases ha:z.cps.all (· < 128)
 ·refine wpAny_pyIter_wide ha ⟨s1.heap.objs.size,[s1.heap.objs.size],_,_,H1,rfl,I1.kept (t':=s1.toks) λb o e=>aB _ e,D7 _ "str_iterator" z t (λA hA=>Walks.strWide hA _ z t) (λA i s Q E st hQ=>wpAny_pyIter_striter_wide st hQ),⟨_,aS _ rfl,rfl,rfl⟩,fp,q⟩
 ·refine wpAny_pyIter_ascii ha ⟨s1.heap.objs.size,[s1.heap.objs.size],_,_,H1,rfl,I1.kept (t':=s1.toks) λb o e=>aB _ e,D7 _ "str_ascii_iterator" z t (λA hA=>Walks.strAscii hA _ z t) (λA i s Q E st hQ=>wpAny_pyIter_striter_ascii st hQ),⟨_,aS _ rfl,rfl,rfl⟩,fp,q⟩
end
section
variable{X:Cx}
theorem HZ:OpR X (aM .LtE) (λx y H Q=>∃i j,x=.str i/\y=.str j/\Q (.bl (!decide (j.cps.toList<i.cps.toList))) H):=by intro pins s σ H x y v u Q I rx ry h;obtain⟨i,j,rfl,rfl,q⟩:=h;obtain⟨t,rfl⟩:=rx;obtain⟨t',rfl⟩:=ry;exact PySem.P.le_str (pe I q rfl)
theorem D8:OpR X (aM .IsNot) (λx y H Q=>∃i j,x=.bl i/\y=.bl j/\Q (.bl (i != j)) H):=by intro pins s σ H x y v u Q I rx ry h;obtain⟨i,j,rfl,rfl,q⟩:=h;cases rx;cases ry;exact isnot_bool (pe I q rfl)
theorem JW(hc:X.calm=true):qb X (.builtin "all") (λxs H Q=>∃(p:Addr) (bs:List Bool),xs=[.ref p]/\SqL X.K H p (bs.map V.bl)/\Q (.bl (bs.all id)) H):=by
 intro pins s σ H xs us Q I r h;obtain⟨p,bs,rfl,hq,q⟩:=h;obtain⟨u,rfl,ru⟩:=vals1 r;cases ru;obtain⟨its,rv,pl,hz⟩:=I.list hq;have hlt:p<s.heap.objs.size:=by obtain⟨o,ho,_⟩:=pl.isList;exact aF ho
 have hl:bs.length=its.length:=by have:=rv.length;rw[ah]at this;exact this
 refine call_all_walk (dR pl.isList ⟨s.heap.objs.size,_,_,_,_,_,λi=>(bs[i]?).getD true,rfl,gZ (show X.A.in1.handled=none from I.ok.hd hc) _ p (aO hlt) its.toArray,⟨⟨_,aS _ rfl,rfl,rfl⟩,?_⟩,?_,λh' tk hk=>?_⟩)
 ·exact pl.isList.at λo e=>aB _ e
 ·intro i v s' Q' E' hv hQ';have hv':its[i]?=some v:=by simpa using hv
  have hi:i<its.length:=(bt.mp hv').1;have hb:(bs.map V.bl)[i]?=some (.bl (bs[i]'(by omega))):=by simp[show i<bs.length by omega]
  obtain⟨u,hu,ru⟩:=rv.get hb;rw[hv']at hu;cases hu;cases ru;refine cq ?_;have e:(bs[i]?).getD true=bs[i]'(by omega):=by simp[show i<bs.length by omega]
  rw[<-e];exact hQ'
 ·refine⟨.bl (bs.all id),H,?_,?_,q⟩
  ·exact I.kept (t':=tk) λb o e=>hk b o (by simp;exact aO (aF e)) (aB _ e)
  ·show Value.bool _=Value.bool _;congr 1;rw[aQ,<- hl];rw[cN];simp only[aY,bL,id];constructor
   ·intro hh b hb;obtain⟨i,hi,rfl⟩:=fX.mp hb;have:=hh i hi;simpa [hi]using this
   ·intro hh i hi;simp only[aH hi,kE];exact hh _ (c5 hi)
end
inductive Dq where
 |non|bl (b:Bool)|int (i:Int)|str (x:Str)|tup (ds:List Dq)|lst (ds:List Dq)
mutual
def Rep(K:ak)(H:Hp):Dq->V->Prop
 |.non,v=>v=.non
 |.bl b,v=>v=.bl b
 |.int i,v=>v=.int i
 |.str x,v=>v=.str x
 |.tup ds,v=>∃a xs,v=.ref a/\SqT K H a xs/\Reps K H ds xs
 |.lst ds,v=>∃a xs,v=.ref a/\SqL K H a xs/\Reps K H ds xs
def Reps(K:ak)(H:Hp):List Dq->List V->Prop
 |[],xs=>xs=[]
 |d::ds,xs=>∃v r,xs=v::r/\Rep K H d v/\Reps K H ds r
end
mutual
def eqD:Dq->Dq->Bool
 |.non,.non=>true
 |.bl a,.bl b=>a==b
 |.bl a,.int b=>(if a then 1 else 0)==b
 |.int a,.bl b=>a==(if b then 1 else 0)
 |.int a,.int b=>a==b
 |.str a,.str b=>a==b
 |.tup a,.tup b=>sQ a b
 |.lst a,.lst b=>sQ a b
 |_,_=>false
def sQ:List Dq->List Dq->Bool
 |[],[]=>true
 |a::r,b::q=>eqD a b&&sQ r q
 |_,_=>false
end
mutual
def dpt:Dq->Nat
 |.tup ds=>pT ds+1
 |.lst ds=>pT ds+1
 |_=>0
def pT:List Dq->Nat
 |[]=>0
 |d::r=>max (dpt d) (pT r)
end
mutual
theorem D9:∀d:Dq,eqD d d=true
 |.non=>by unfold eqD;rfl
 |.bl b=>by unfold eqD;simp
 |.int i=>by unfold eqD;simp
 |.str x=>by unfold eqD;simp
 |.tup ds=>by unfold eqD;exact yN ds
 |.lst ds=>by unfold eqD;exact yN ds
theorem yN:∀ds:List Dq,sQ ds ds=true
 |[]=>by unfold sQ;rfl
 |d::r=>by unfold sQ;rw[D9 d,yN r];rfl
end
theorem oG{K:ak}{H:Hp}:∀{ds:List Dq} {xs:List V},Reps K H ds xs->ds.length=xs.length
 |[],xs,h=>by unfold Reps at h;subst h;rfl
 |d::ds,xs,h=>by unfold Reps at h;obtain⟨v,r,rfl,_,h2⟩:=h;rw[aD,aD,oG h2]
def eAt(ds ds':List Dq)(j:Nat):Bool:=match ds[j]?,ds'[j]? with
 |some a,some b=>eqD a b
 |_,_=>true
theorem Ax:∀(ds ds':List Dq),sQ ds ds'=true ↔ ds.length=ds'.length/\∀j,j<ds.length->eAt ds ds' j=true
 |[],[]=>by simp[sQ]
 |[],b::q=>by simp[sQ]
 |a::r,[]=>by simp[sQ]
 |a::r,b::q=>by
  have ih:=Ax r q;unfold sQ;rw[aR,ih,aD,aD];constructor
  ·rintro⟨h1,h2,h3⟩;refine⟨by omega,λj hj=>?_⟩;cases j with
   |zero=>exact h1
   |succ j=>exact h3 j (by omega)
  ·rintro⟨h1,h2⟩;exact⟨h2 0 (by omega),by omega,λj hj=>h2 (j+1) (by omega)⟩
variable{ds ds':List Dq}
theorem va{n m:Nat}(hn:ds.length=n)(hm:ds'.length=m):((aX (min n m)).all (eAt ds ds')&&n==m)=sQ ds ds':=by
 rw[cN,Ax,aR,aY];subst hn hm;constructor
 ·rintro⟨h1,h2⟩;have e:ds.length=ds'.length:=by simpa using h2
  exact⟨e,λj hj=>h1 j (bL.mpr (by omega))⟩
 ·rintro⟨e,h⟩;exact⟨λj hj=>h j (by have:=bL.mp hj;omega),by simpa using e⟩
theorem v5{n:Nat}(hn:ds.length=n)(hm:ds'.length=n):(aX n).all (eAt ds ds')=sQ ds ds':=by rw[<-va hn hm];simp
theorem Ay(h:ds.length≠ds'.length):sQ ds ds'=false:=by
 cases e:sQ ds ds' with
 |false=>rfl
 |true=>exact ao ((Ax ds ds').mp e).1 h
section
variable{X:Cx}{pins:List (Addr×Obj)}{σ:St}{H:Hp}{s:ae}
theorem OR(I:Inv X pins σ H s){a:Addr}{xs ys:List V}(h:SqL X.K H a xs)(h':SqT X.K H a ys):False:=by obtain⟨its,_,p,_⟩:=I.list h;obtain⟨its',_,p',_⟩:=I.tuple h';exact SeqAt.ne_of_list_tuple p.isList (show s.heap.IsTuple a its'.toArray from p') rfl
mutual
theorem AA(I:Inv X pins σ H s):∀(d d':Dq) (v:V),Rep X.K H d v->Rep X.K H d' v->eqD d d'=true
 |.non,d',v,h,h'=>by unfold Rep at h;subst h;cases d'<;>unfold Rep at h'<;>first|rfl|(exact nomatch h')|(obtain⟨_,_,e,_⟩:=h';exact nomatch e)
 |.bl b,d',v,h,h'=>by unfold Rep at h;subst h;cases d'<;>unfold Rep at h'<;>first|(obtain⟨_,_,e,_⟩:=h';cases e)|(cases h'<;>simp[eqD])
 |.int b,d',v,h,h'=>by unfold Rep at h;subst h;cases d'<;>unfold Rep at h'<;>first|(obtain⟨_,_,e,_⟩:=h';cases e)|(cases h'<;>simp[eqD])
 |.str b,d',v,h,h'=>by unfold Rep at h;subst h;cases d'<;>unfold Rep at h'<;>first|(obtain⟨_,_,e,_⟩:=h';cases e)|(cases h'<;>simp[eqD])
 |.tup ds,d',v,h,h'=>by
  unfold Rep at h;obtain⟨a,xs,rfl,hq,hr⟩:=h;cases d' with
  |tup ds'=>unfold Rep at h';obtain⟨a',xs',e,hq',hr'⟩:=h';cases e;have ex:=I.tuple_inj hq hq';subst ex;unfold eqD;exact yO I ds ds' xs hr hr'
  |lst ds'=>unfold Rep at h';obtain⟨a',xs',e,hq',hr'⟩:=h';cases e;exact(OR I hq' hq).elim
  |_=>unfold Rep at h';exact nomatch h'
 |.lst ds,d',v,h,h'=>by
  unfold Rep at h;obtain⟨a,xs,rfl,hq,hr⟩:=h;cases d' with
  |lst ds'=>unfold Rep at h';obtain⟨a',xs',e,hq',hr'⟩:=h';cases e;have ex:=I.list_inj hq hq';subst ex;unfold eqD;exact yO I ds ds' xs hr hr'
  |tup ds'=>unfold Rep at h';obtain⟨a',xs',e,hq',hr'⟩:=h';cases e;exact(OR I hq hq').elim
  |_=>unfold Rep at h';exact nomatch h'
theorem yO(I:Inv X pins σ H s):∀(ds ds':List Dq) (xs:List V),Reps X.K H ds xs->Reps X.K H ds' xs->sQ ds ds'=true
 |[],ds',xs,h,h'=>by
  unfold Reps at h;subst h;cases ds' with
  |nil=>rfl
  |cons d r=>unfold Reps at h';obtain⟨_,_,e,_⟩:=h';exact nomatch e
 |d::ds,ds',xs,h,h'=>by
  unfold Reps at h;obtain⟨v,r,rfl,h1,h2⟩:=h;cases ds' with
  |nil=>unfold Reps at h';exact nomatch h'
  |cons d' r'=>unfold Reps at h';obtain⟨v',q,e,h1',h2'⟩:=h';cases e;unfold sQ;rw[AA I d d' v h1 h1',yO I ds r' r h2 h2'];rfl
end
mutual
theorem JX(I:Inv X pins σ H s):∀(d d':Dq) (x y:V) (u v:aa) (A:az),Rep X.K H d x->Rep X.K H d' y->RelV x u->RelV y v->A.units+dpt d+dpt d'<cLine->gW A s u v (eqD d d')
 |.tup ds,d',x,y,u,v,A,hx,hy,ru,rv,hu=>by
  unfold Rep at hx;obtain⟨a,xs,rfl,hq,hr⟩:=hx;cases ru;obtain⟨its,rx,p,_⟩:=I.tuple hq;have p:s.heap.IsTuple a its.toArray:=p;cases d' with
  |non=>unfold Rep at hy;subst hy;cases rv;exact m7 p (by omega)
  |bl b=>unfold Rep at hy;subst hy;cases rv;exact m8 b p (by omega)
  |int b=>unfold Rep at hy;subst hy;obtain⟨t,rfl⟩:=rv;exact nD b t p (by omega)
  |str b=>unfold Rep at hy;subst hy;obtain⟨t,rfl⟩:=rv;exact nE b t p (by omega)
  |lst ds'=>unfold Rep at hy;obtain⟨b,ys,rfl,hq',hr'⟩:=hy;cases rv;obtain⟨its',ry,p',_⟩:=I.list hq';exact m9 p p'.isList (by omega)
  |tup ds'=>
   have hy0:=hy;unfold Rep at hy;obtain⟨b,ys,rfl,hq',hr'⟩:=hy;cases rv;obtain⟨its',ry,p',_⟩:=I.tuple hq';have p':s.heap.IsTuple b its'.toArray:=p';by_cases hab:a=b
   ·subst hab;have e:eqD (.tup ds) (.tup ds')=true:=AA I _ _ (.ref a) (by unfold Rep;exact⟨a,xs,rfl,hq,hr⟩) hy0;rw[e];exact fj _
   ·have hd:dpt (.tup ds)=pT ds+1:=by rw[dpt]
    have hd':dpt (.tup ds')=pT ds'+1:=by rw[dpt]
    have q:=oh (A:=A) (e:=eAt ds ds') p p' (by omega) λj h1 h2=>by have z:=vc I ds ds' xs ys its its' A.in1 hr hr' rx ry (by show A.units+1+pT ds+pT ds'<cLine;omega) j (by simpa using h1) (by simpa using h2);simpa using z
    rw[va (by rw[oG hr,rx.length];simp) (by rw[oG hr',ry.length];simp)]at q;exact ix hab (by unfold eqD;exact q)
 |.lst ds,d',x,y,u,v,A,hx,hy,ru,rv,hu=>by
  unfold Rep at hx;obtain⟨a,xs,rfl,hq,hr⟩:=hx;cases ru;obtain⟨its,rx,p,_⟩:=I.list hq;have p:=p.isList;cases d' with
  |non=>unfold Rep at hy;subst hy;cases rv;exact nF p (by omega)
  |bl b=>unfold Rep at hy;subst hy;cases rv;exact nG b p (by omega)
  |int b=>unfold Rep at hy;subst hy;obtain⟨t,rfl⟩:=rv;exact nV b t p (by omega)
  |str b=>unfold Rep at hy;subst hy;obtain⟨t,rfl⟩:=rv;exact nW b t p (by omega)
  |tup ds'=>unfold Rep at hy;obtain⟨b,ys,rfl,hq',hr'⟩:=hy;cases rv;obtain⟨its',ry,p',_⟩:=I.tuple hq';exact ng p (show s.heap.IsTuple b its'.toArray from p') (by omega)
  |lst ds'=>
   have hy0:=hy;unfold Rep at hy;obtain⟨b,ys,rfl,hq',hr'⟩:=hy;cases rv;obtain⟨its',ry,p',_⟩:=I.list hq';have p':=p'.isList;by_cases hab:a=b
   ·subst hab;have e:eqD (.lst ds) (.lst ds')=true:=AA I _ _ (.ref a) (by unfold Rep;exact⟨a,xs,rfl,hq,hr⟩) hy0;rw[e];exact fj _
   ·have hd:dpt (.lst ds)=pT ds+1:=by rw[dpt]
    have hd':dpt (.lst ds')=pT ds'+1:=by rw[dpt]
    by_cases hl:its.length=its'.length
    ·have q:=oj (A:=A) (e:=eAt ds ds') p p' (by simpa using hl) (by omega) λj h1 h2=>by have z:=vc I ds ds' xs ys its its' A.in1 hr hr' rx ry (by show A.units+1+pT ds+pT ds'<cLine;omega) j (by simpa using h1) (by simpa using h2);simpa using z
     rw[v5 (by rw[oG hr,rx.length];simp) (by rw[oG hr',ry.length,<- hl];simp)]at q;exact ix hab (by unfold eqD;exact q)
    ·have e:eqD (.lst ds) (.lst ds')=false:=by unfold eqD;exact Ay (by rw[oG hr,oG hr',rx.length,ry.length];exact hl)
     rw[e];exact ix hab (m5 p p' (by simpa using hl) (by omega))
 |.non,d',x,y,u,v,A,hx,hy,ru,rv,hu=>by
  unfold Rep at hx;subst hx;cases d' with
  |tup ds'=>unfold Rep at hy;obtain⟨b,ys,rfl,hq',hr'⟩:=hy;cases rv;cases ru;obtain⟨its',ry,p',_⟩:=I.tuple hq';exact nh (show s.heap.IsTuple b its'.toArray from p') (by omega)
  |lst ds'=>unfold Rep at hy;obtain⟨b,ys,rfl,hq',hr'⟩:=hy;cases rv;cases ru;obtain⟨its',ry,p',_⟩:=I.list hq';exact nH p'.isList (by omega)
  |_=>unfold Rep at hy;subst hy;exact Ap ru rv rfl rfl
 |.bl c,d',x,y,u,v,A,hx,hy,ru,rv,hu=>by
  unfold Rep at hx;subst hx;cases d' with
  |tup ds'=>unfold Rep at hy;obtain⟨b,ys,rfl,hq',hr'⟩:=hy;cases rv;cases ru;obtain⟨its',ry,p',_⟩:=I.tuple hq';exact ni c (show s.heap.IsTuple b its'.toArray from p') (by omega)
  |lst ds'=>unfold Rep at hy;obtain⟨b,ys,rfl,hq',hr'⟩:=hy;cases rv;cases ru;obtain⟨its',ry,p',_⟩:=I.list hq';exact nI c p'.isList (by omega)
  |_=>unfold Rep at hy;subst hy;exact Ap ru rv rfl rfl
 |.int c,d',x,y,u,v,A,hx,hy,ru,rv,hu=>by
  unfold Rep at hx;subst hx;cases d' with
  |tup ds'=>unfold Rep at hy;obtain⟨b,ys,rfl,hq',hr'⟩:=hy;cases rv;obtain⟨t,rfl⟩:=ru;obtain⟨its',ry,p',_⟩:=I.tuple hq';exact nJ c t (show s.heap.IsTuple b its'.toArray from p') (by omega)
  |lst ds'=>unfold Rep at hy;obtain⟨b,ys,rfl,hq',hr'⟩:=hy;cases rv;obtain⟨t,rfl⟩:=ru;obtain⟨its',ry,p',_⟩:=I.list hq';exact nX c t p'.isList (by omega)
  |_=>unfold Rep at hy;subst hy;exact Ap ru rv rfl rfl
 |.str c,d',x,y,u,v,A,hx,hy,ru,rv,hu=>by
  unfold Rep at hx;subst hx;cases d' with
  |tup ds'=>unfold Rep at hy;obtain⟨b,ys,rfl,hq',hr'⟩:=hy;cases rv;obtain⟨t,rfl⟩:=ru;obtain⟨its',ry,p',_⟩:=I.tuple hq';exact nL c t (show s.heap.IsTuple b its'.toArray from p') (by omega)
  |lst ds'=>unfold Rep at hy;obtain⟨b,ys,rfl,hq',hr'⟩:=hy;cases rv;obtain⟨t,rfl⟩:=ru;obtain⟨its',ry,p',_⟩:=I.list hq';exact nY c t p'.isList (by omega)
  |_=>unfold Rep at hy;subst hy;exact Ap ru rv rfl rfl
theorem vc(I:Inv X pins σ H s):∀(ds ds':List Dq) (xs ys:List V) (us vs:List aa) (A:az),Reps X.K H ds xs->Reps X.K H ds' ys->Vals xs us->Vals ys vs->A.units+pT ds+pT ds'<cLine->
  ∀(j:Nat) (h1:j<us.length) (h2:j<vs.length),gW A s us[j] vs[j] (eAt ds ds' j)
 |[],ds',xs,ys,us,vs,A,hx,hy,ru,rv,hu,j,h1,h2=>by
  have:=oG hx;have:=ru.length;simp only[c7]at *
  omega
 |d::ds,[],xs,ys,us,vs,A,hx,hy,ru,rv,hu,j,h1,h2=>by
  have:=oG hy;have:=rv.length;simp only[c7]at *
  omega
 |d::ds,d'::ds',xs,ys,us,vs,A,hx,hy,ru,rv,hu,j,h1,h2=>by
  unfold Reps at hx hy;obtain⟨x,xr,rfl,hx1,hx2⟩:=hx;obtain⟨y,yr,rfl,hy1,hy2⟩:=hy;have e1:pT (d::ds)=max (dpt d) (pT ds):=by rw[pT]
  have e2:pT (d'::ds')=max (dpt d') (pT ds'):=by rw[pT]
  cases ru with
  |cons r1 r2=>
   cases rv with
   |cons q1 q2=>
    cases j with
    |zero=>exact JX I d d' x y _ _ A hx1 hy1 r1 q1 (by omega)
    |succ j=>exact vc I ds ds' xr yr _ _ A hx2 hy2 r2 q2 (by omega) j (by simpa using h1) (by simpa using h2)
end
def GE:Dq->Dq->Bool
 |.tup _,.tup _=>true
 |.lst _,.lst _=>true
 |_,_=>false
def Fo(K:ak)(neg:Bool):R2:=λx y H Q=>∃d d',Rep K H d x/\Rep K H d' y/\GE d d'=true/\dpt d<=20/\dpt d'<=20/\Q (.bl (if neg then !eqD d d' else eqD d d')) H
theorem PV(hu:X.A.units+64<cLine):OpR X (aM .Eq) (Fo X.K false):=by
 intro pins s σ H x y u v Q I ru rv h;obtain⟨d,d',hx,hy,hd,h1,h2,q⟩:=h;cases d with
 |tup ds=>
  cases d' with
  |tup ds'=>
   have hd1:dpt (.tup ds)=pT ds+1:=by rw[dpt]
   have hd2:dpt (.tup ds')=pT ds'+1:=by rw[dpt]
   unfold Rep at hx hy;obtain⟨a,xs,rfl,hq,hr⟩:=hx;obtain⟨b,ys,rfl,hq',hr'⟩:=hy;cases ru;cases rv;obtain⟨its,rx,p,_⟩:=I.tuple hq;obtain⟨its',ry,p',_⟩:=I.tuple hq';refine SeqAt.eq_tupleAt (e:=eAt ds ds') (show s.heap.IsTuple a its.toArray from p) (show s.heap.IsTuple b its'.toArray from p') (by omega) (λj h1 h2=>?_) ?_
   ·have z:=vc I ds ds' xs ys its its' X.A.in1 hr hr' rx ry (by show X.A.units+1+pT ds+pT ds'<cLine;omega) j (by simpa using h1) (by simpa using h2);simpa using z
   ·rw[va (by rw[oG hr,rx.length];simp) (by rw[oG hr',ry.length];simp)];unfold eqD at q;exact pe I q rfl
  |_=>exact nomatch hd
 |lst ds=>
  cases d' with
  |lst ds'=>
   have hd1:dpt (.lst ds)=pT ds+1:=by rw[dpt]
   have hd2:dpt (.lst ds')=pT ds'+1:=by rw[dpt]
   unfold Rep at hx hy;obtain⟨a,xs,rfl,hq,hr⟩:=hx;obtain⟨b,ys,rfl,hq',hr'⟩:=hy;cases ru;cases rv;obtain⟨its,rx,p,_⟩:=I.list hq;obtain⟨its',ry,p',_⟩:=I.list hq';by_cases hl:its.length=its'.length
   ·refine SeqAt.eq_listAt (e:=eAt ds ds') p.isList p'.isList (by simpa using hl) (by omega) (λj h1 h2=>?_) ?_
    ·have z:=vc I ds ds' xs ys its its' X.A.in1 hr hr' rx ry (by show X.A.units+1+pT ds+pT ds'<cLine;omega) j (by simpa using h1) (by simpa using h2);simpa using z
    ·rw[v5 (by rw[oG hr,rx.length];simp) (by rw[oG hr',ry.length,<- hl];simp)];unfold eqD at q;exact pe I q rfl
   ·refine SeqAt.eq_list_lengthsAt p.isList p'.isList (by simpa using hl) (by omega) ?_;have e:sQ ds ds'=false:=Ay (by rw[oG hr,oG hr',rx.length,ry.length];exact hl);unfold eqD at q;rw[e]at q;exact pe I q rfl
  |_=>exact nomatch hd
 |_=>exact nomatch hd
theorem PX(hu:X.A.units+64<cLine):OpR X (aM .NotEq) (Fo X.K true):=by
 intro pins s σ H x y u v Q I ru rv h;obtain⟨d,d',hx,hy,hd,h1,h2,q⟩:=h;cases d with
 |tup ds=>
  cases d' with
  |tup ds'=>
   have hd1:dpt (.tup ds)=pT ds+1:=by rw[dpt]
   have hd2:dpt (.tup ds')=pT ds'+1:=by rw[dpt]
   unfold Rep at hx hy;obtain⟨a,xs,rfl,hq,hr⟩:=hx;obtain⟨b,ys,rfl,hq',hr'⟩:=hy;cases ru;cases rv;obtain⟨its,rx,p,_⟩:=I.tuple hq;obtain⟨its',ry,p',_⟩:=I.tuple hq';have w:=nZ (A:=X.A) (e:=eAt ds ds') (show s.heap.IsTuple a its.toArray from p) (show s.heap.IsTuple b its'.toArray from p') (by omega) (λj h1 h2=>by
    have z:=vc I ds ds' xs ys its its' X.A.in1 hr hr' rx ry (by show X.A.units+1+pT ds+pT ds'<cLine;omega) j (by simpa using h1) (by simpa using h2);simpa using z)
   rw[va (by rw[oG hr,rx.length];simp) (by rw[oG hr',ry.length];simp)]at w;unfold eqD at q;exact w X.prog X.w X.xe _ (pe I q rfl)
  |_=>exact nomatch hd
 |lst ds=>
  cases d' with
  |lst ds'=>
   have hd1:dpt (.lst ds)=pT ds+1:=by rw[dpt]
   have hd2:dpt (.lst ds')=pT ds'+1:=by rw[dpt]
   unfold Rep at hx hy;obtain⟨a,xs,rfl,hq,hr⟩:=hx;obtain⟨b,ys,rfl,hq',hr'⟩:=hy;cases ru;cases rv;obtain⟨its,rx,p,_⟩:=I.list hq;obtain⟨its',ry,p',_⟩:=I.list hq';by_cases hl:its.length=its'.length
   ·have w:=n9 (A:=X.A) (e:=eAt ds ds') p.isList p'.isList (by simpa using hl) (by omega) (λj h1 h2=>by
     have z:=vc I ds ds' xs ys its its' X.A.in1 hr hr' rx ry (by show X.A.units+1+pT ds+pT ds'<cLine;omega) j (by simpa using h1) (by simpa using h2);simpa using z)
    rw[v5 (by rw[oG hr,rx.length];simp) (by rw[oG hr',ry.length,<- hl];simp)]at w;unfold eqD at q;exact w X.prog X.w X.xe _ (pe I q rfl)
   ·have e:sQ ds ds'=false:=Ay (by rw[oG hr,oG hr',rx.length,ry.length];exact hl);unfold eqD at q;rw[e]at q;exact mC p.isList p'.isList (by simpa using hl) (by omega) X.prog X.w X.xe _ (pe I q rfl)
  |_=>exact nomatch hd
 |_=>exact nomatch hd
end
theorem Ca{K:ak}{H:Hp}:∀l:List Str,Reps K H (l.map Dq.str) (l.map V.str)
 |[]=>by rw[bV,bV];unfold Reps;rfl
 |x::r=>by rw[av,av];unfold Reps;exact⟨_,_,rfl,(by unfold Rep;rfl),Ca r⟩
theorem Cb:∀l:List Str,pT (l.map Dq.str)=0
 |[]=>by rw[bV,pT]
 |x::r=>by rw[av];unfold pT;rw[Cb r];unfold dpt;rfl
inductive StrsAre:List Expr->List V->Prop
 |nil:StrsAre [] []
 |cons {x:Str} {j:Nat} {pos:Pos} {es:List Expr} {vs:List V} (h:StrsAre es vs):StrsAre (.Constant (.str x) j pos::es) (.str x::vs)
theorem sf{n:Nat}(h:n<=1000):n<=aE:=fD (wI h)
theorem oM.new{p:Addr}{H H1:Hp}(x:oM H H1)(hp:H1 p=none)(o:HO):oM H (upd H1 p o):=λb u e=>by have z:=x b u e;rw[oF (qO z hp)];exact z
structure Ia(K:ak)(x qual:Str)(st:Stmt)(f:Addr)(fd:bb)(T:Addr):Prop where
 ex:∃(oc:aa) (od:Option Addr) (kV doc pm:aa) (an:Option Addr) (cdv ct:aa) (osl:Array (Option aa)),
  fd=cX x qual (rN st) (o9 st) (oO st) (.ref T) kV doc pm an cdv ct/\K.lookup f=some ⟨oc,od,.func fd,osl⟩/\eD K cdv qual=true
 kp:cF K (.ref f)=true
variable{qual:Str}{st:Stmt}{f T:Addr}{fd:bb}{ps:List Str}
section
variable{P:au}{w:aq}{K:ak}{mg:Str->Option aa}{base:Heap}
theorem Ia.ok{x:Str}{k:Nat}{sp:Sp}(F:Ia K x qual st f fd T)(S:pS N ps (oO st))(len:∀vs H Q E,sp vs H Q E->vs.length=ps.length)
  (hbody:∀(cdv:aa) (A:az) (outer:List Env) (s:ae) (H:Hp) (vs:List V) (Q:VK) (E:XK),pW k (A.deeper (envOfC qual (oO st) s.heap.objs.size f cdv))->sp vs H Q E->
   ∃t,PSs (DV CX0 P w K mg base N qual (oO st) f cdv A outer s H E).nox (o9 st) t/\t { nx:=λ_ H'=>Q .non H',rt:=Q } (L2.start N vs) H):se P w K mg base CX0 (k+1) f fd ps sp:=by
 obtain⟨oc,od,kV,doc,pm,an,cdv,ct,osl,rfl,lk,hcd⟩:=F.ex;refine OM lk hcd S len λA outer s H vs Q E hr hsp=>?_;obtain⟨t,h,q⟩:=hbody cdv A outer s H vs Q E hr hsp;exact⟨t,h.nox,q⟩
end
theorem Ia.binds{K:ak}{x:Str}{ds:List aa}{o:Obj}{items:Array aa}{n:Nat}(F:Ia K x qual st f fd T)(ho:K.lookup T=some o)(hs:o.data=.seq items n)
  (h:∀(kV doc pm:aa) (an:Option Addr) (cdv ct:aa) (us:List aa),us.length=ps.length - ds.length->∃k,bindArgs (cX x qual (rN st) (o9 st) (oO st) (.ref T) kV doc pm an cdv ct) ⟨us,[]⟩=seqItems? (.ref T)>>=k/\k (some items)=pure (ps.zip (us++ds))):Binds K fd ps ds:=by
 obtain⟨oc,od,kV,doc,pm,an,cdv,ct,osl,rfl,lk,hcd⟩:=F.ex;intro s us KX hl;obtain⟨k,h1,h2⟩:=h kV doc pm an cdv ct us (by rw[aI]at hl;omega);exact BindsTo.of_defaults (k:=k) rfl (KX _ _ ho) hs h1 h2
section
variable{X:Cx}
theorem Fp:OpR X (bX .Mult) (λx y H Q=>∃z n,x=.str z/\y=.int n/\MulOk z n/\Q (.str (fM z n)) H):=by intro pins s σ H x y v u Q I rx ry h;obtain⟨z,n,rfl,rfl,hm,q⟩:=h;obtain⟨t,rfl⟩:=rx;obtain⟨t',rfl⟩:=ry;exact SB.mul hm λt2 k=>⟨.str _,H,I.tok _,⟨t2,rfl⟩,q⟩
end
section
variable{X:Cx}(K:ak)
theorem JY(hK:X.K=K:=by rfl):IxR X (MB K):=by subst hK;exact GA
theorem Ea{l:Expr}(hl:PE X l tl)(hK:X.K=K:=by rfl):PI X tg l (Jt K tl):=by subst hK;exact Mm hl
theorem MO{l:Expr}(hl:PE X l tl)(hK:X.K=K:=by rfl):PI X tg l (Pk K tl):=by subst hK;exact Pl hl
theorem GF{es:List Expr}{k:Nat}{t:TGs}{n:Nat}(hc:X.calm=true)(h:PGs X es t)(hn:(bz es X.env).length=n:=by rfl)(hst:(bz es X.env).findIdx? (·.1)=none:=by rfl)(hK:X.K=K:=by rfl):PG X (.Tuple es k pos) (Ml K n t):=by subst hK;exact Ph hc h hn hst
variable{o e:Expr}{es:List Expr}{to:TE}{t:TA}{name:Str}{apos cpos:Pos}{T id:String}{r:V->List V->Hp->VK->Prop}
theorem JZ(pa:gX T)(slot:Slot T name id)(hty:typeOf (.builtin id)=pure (.type "method_descriptor"))(hm:MtR X id r)(ho:PE X o to)(ha:PA X (e::es) t)
  (hbase:cy o name X.env (eval o X.env)=eval o X.env:=by rfl)
  (hfew:((aV cpos (ar (e::es) X.env)).all (λx=>!x.1)&&(backToKw cpos (cE [] X.env)).all (λx=>x.1.isSome)
   && decide ((e::es).length+([]:List dh).length+(if ([]:List dh).isEmpty then 0 else 1)<30))=true:=by rfl)
  (hline:(apos.endLine==cpos.line)=true:=by rfl) (hs:ar (e::es) X.env=(false,eval e X.env)::ar es X.env:=by rfl) (hplain:(aV cpos (ar es X.env)).any (·.1)=false:=by rfl) (hK:X.K=K:=by rfl):
  PE X (.Call (.Attribute o name apos) (e::es) [] cpos) (tBM K T r to t):=by subst hK;exact Tv pa slot hty hm ho ha hbase hfew hline hs hplain
end
end L3
namespace L2
open PySem PySem.Spec PyProof.Rows
variable{a:Addr}
section
variable{X:Cx}{pins:List (Addr×Obj)}{σ:St}{H:Hp}{s:ae}
theorem qD{H:Hp}{c:Addr}{u v:HO}(e:H a=some u)(q:H c=some v)(d:u≠v)(n:HO):upd H a n c=some v:=by rw[oF (λz=>by subst z;rw[e]at q;exact d (bE q))];exact q
theorem Inv.freeze{kvs:List (Key×V)}(I:Inv X pins σ H s)(e:H a=some (.dK kvs)):∃o,Inv X pins σ (upd H a (.frz o (.dK kvs))) s:=by
 obtain⟨z,y,vs,r,ob,es,ep,e1,c⟩:=(show ObjOk X.prog X.w H s.heap a (.dK kvs) from I.hok a _ e);refine⟨ob,?_⟩;have I':=I.step (H':=upd H a (.frz ob (.dK kvs))) (h':=s.heap) (g':=s.gens) (d':=s.drawn) (t':=s.toks) (ch:=[]) (λ_ z=>nomatch z) (λb o _ _ _ q _=>q) (λb o _ _ _ q _=>⟨o.slots,q⟩)
  (λb o _ _ n=>by rw[oF (λz=>by subst z;rw[e]at n;cases n)];exact n) (λb o _ q=>⟨o,q⟩) (λb xs q=>qD e q (λz=>nomatch z) _) (λb o u q=>qD e q (λz=>nomatch z) _)
  (λb ps q=>⟨#[],by rw[qD e q (λz=>nomatch z) _];simp⟩) (λm q=>q) ?_ I.bare
 ·obtain⟨h,g,d,t,os⟩:=s;exact I'
 ·intro b u q;have st:∀{b:Addr} {u:HO},ObjOk X.prog X.w H s.heap b u->ObjOk X.prog X.w (upd H a (.frz ob (.dK kvs))) s.heap b u:=λ{b u} x=>x.stay (λ_ _ _ q=>q) (λc q=>qD e q (λz=>nomatch z) _) λc xs q=>qD e q (λz=>nomatch z) _
  by_cases hb:b=a
  ·subst hb;rw[oH]at q;cases q;exact⟨e1,st (I.hok b _ e)⟩
  ·rw[oF hb]at q;exact st (I.hok b u q)
theorem PE.ghost{e:Expr}{t:TE}(h:PE X e t):PE X e (λσ H Q=>t σ H λx H1=>Q x H1\/∃a kvs,H1 a=some (.dK kvs)/\∀o,Q x (upd H1 a (.frz o (.dK kvs)))):=λpins s σ H Q I hq=>
 thn (h pins s σ H _ I hq) λu s1 ⟨x,H1,I1,r1,q1⟩=>by
  rcases q1 with q|⟨a,kvs,e,q⟩
  ·exact⟨x,H1,I1,r1,q⟩
  ·obtain⟨o,I2⟩:=I1.freeze e;exact⟨x,_,I2,r1,q o⟩
end
end L2
namespace L4
open PySem PySem.Spec PyProof.Rows L2 L3
abbrev St:=L2.St
inductive D where
 |non|bl (b:Bool)|int (i:Int)|str (x:Str)
 |tup (ds:List D)|lst (ds:List D)
 |fzl (ds:List D)
 |obj (c:Nat) (ns:List Str) (ds:List D)
 |dic (ks:List Key) (ds:List D)
structure Bg where
 K:ak
 ca:Nat->Addr
mutual
def Rep(G:Bg)(H:Hp):D->V->Prop
 |.non,v=>v=.non
 |.bl b,v=>v=.bl b
 |.int i,v=>v=.int i
 |.str x,v=>v=.str x
 |.tup ds,v=>∃a xs,v=.ref a/\SqT G.K H a xs/\Reps G H ds xs
 |.lst ds,v=>∃a xs,v=.ref a/\H a=some (.lst xs)/\Reps G H ds xs
 |.fzl ds,v=>∃a xs,v=.ref a/\SqL G.K H a xs/\Reps G H ds xs
 |.obj c ns ds,v=>∃a dx xs,v=.ref a/\H a=some (.ins (G.ca c) dx (ns.zip xs))/\ns.length=xs.length/\Reps G H ds xs
 |.dic ks ds,v=>∃a o xs,v=.ref a/\H a=some (.frz o (.dK (ks.zip xs)))/\ks.length=xs.length/\Reps G H ds xs
def Reps(G:Bg)(H:Hp):List D->List V->Prop
 |[],xs=>xs=[]
 |d::ds,xs=>∃v r,xs=v::r/\Rep G H d v/\Reps G H ds r
end
variable{H':Hp}{a:Addr}{xs:List V}
theorem SqT.mono{K:ak}{H:Hp}(e:oM H H')(h:SqT K H a xs):SqT K H' a xs:=by
 rcases h with (h|⟨o,h⟩)|h
 ·exact .inl (.inl (e _ _ h))
 ·exact .inl (.inr ⟨o,e _ _ h⟩)
 ·exact .inr h
mutual
theorem Rep.mono{G:Bg}{H H':Hp}(e:oM H H'):∀(d:D) (v:V),Rep G H d v->Rep G H' d v
 |.non,v,h=>by unfold Rep at h ⊢;exact h
 |.bl b,v,h=>by unfold Rep at h ⊢;exact h
 |.int i,v,h=>by unfold Rep at h ⊢;exact h
 |.str x,v,h=>by unfold Rep at h ⊢;exact h
 |.tup ds,v,h=>by unfold Rep at h ⊢;obtain⟨a,xs,rfl,h1,h2⟩:=h;exact⟨a,xs,rfl,SqT.mono e h1,Reps.mono e ds xs h2⟩
 |.lst ds,v,h=>by unfold Rep at h ⊢;obtain⟨a,xs,rfl,h1,h2⟩:=h;exact⟨a,xs,rfl,e _ _ h1,Reps.mono e ds xs h2⟩
 |.fzl ds,v,h=>by unfold Rep at h ⊢;obtain⟨a,xs,rfl,h1,h2⟩:=h;exact⟨a,xs,rfl,e.seq h1,Reps.mono e ds xs h2⟩
 |.obj c ns ds,v,h=>by unfold Rep at h ⊢;obtain⟨a,dx,xs,rfl,h1,h2,h3⟩:=h;exact⟨a,dx,xs,rfl,e _ _ h1,h2,Reps.mono e ds xs h3⟩
 |.dic ks ds,v,h=>by unfold Rep at h ⊢;obtain⟨a,o,xs,rfl,h1,h2,h3⟩:=h;exact⟨a,o,xs,rfl,e _ _ h1,h2,Reps.mono e ds xs h3⟩
theorem Reps.mono{G:Bg}{H H':Hp}(e:oM H H'):∀(ds:List D) (xs:List V),Reps G H ds xs->Reps G H' ds xs
 |[],xs,h=>by unfold Reps at h ⊢;exact h
 |d::ds,xs,h=>by unfold Reps at h ⊢;obtain⟨v,r,rfl,h1,h2⟩:=h;exact⟨v,r,rfl,Rep.mono e d v h1,Reps.mono e ds r h2⟩
end
variable{d:D}{ds:List D}
section
variable{G:Bg}{H:Hp}
theorem o7:Reps G H [] []:=by unfold Reps;rfl
theorem o6{v:V}(h:Rep G H d v)(r:Reps G H ds xs):Reps G H (d::ds) (v::xs):=by unfold Reps;exact⟨v,xs,rfl,h,r⟩
theorem oG:∀{ds:List D} {xs:List V},Reps G H ds xs->ds.length=xs.length
 |[],xs,h=>by unfold Reps at h;subst h;rfl
 |d::ds,xs,h=>by unfold Reps at h;obtain⟨v,r,rfl,_,h2⟩:=h;rw[aD,aD,oG h2]
theorem qu:∀{ds es:List D} {xs ys:List V},Reps G H ds xs->Reps G H es ys->Reps G H (ds++es) (xs++ys)
 |[],es,xs,ys,h,h'=>by unfold Reps at h;subst h;exact h'
 |d::ds,es,xs,ys,h,h'=>by unfold Reps at h;obtain⟨v,r,rfl,h1,h2⟩:=h;exact o6 h1 (qu h2 h')
theorem p5:∀{ds:List D} {xs:List V} {i:Nat} {d:D},Reps G H ds xs->ds[i]?=some d->∃v,xs[i]?=some v/\Rep G H d v
 |[],xs,i,d,h,e=>by simp at e
 |d'::ds,xs,i,d,h,e=>by
  unfold Reps at h;obtain⟨v,r,rfl,h1,h2⟩:=h;cases i with
  |zero=>simp at e;subst e;exact⟨v,rfl,h1⟩
  |succ i=>simpa using p5 (i:=i) (d:=d) h2 (by simpa using e)
theorem Cc:∀{ds:List D} {xs:List V} (n:Nat),Reps G H ds xs->Reps G H (ds.drop n) (xs.drop n)
 |ds,xs,0,h=>h
 |[],xs,n+1,h=>by unfold Reps at h;subst h;exact o7
 |d::ds,xs,n+1,h=>by unfold Reps at h;obtain⟨v,r,rfl,h1,h2⟩:=h;exact Cc n h2
theorem Cd:∀{ds:List D} {xs:List V} (n:Nat),Reps G H ds xs->Reps G H (ds.take n) (xs.take n)
 |ds,xs,0,h=>o7
 |[],xs,n+1,h=>by unfold Reps at h;subst h;exact o7
 |d::ds,xs,n+1,h=>by unfold Reps at h;obtain⟨v,r,rfl,h1,h2⟩:=h;exact o6 h1 (Cd n h2)
theorem vd(h:SqT G.K H a xs)(r:Reps G H ds xs):Rep G H (.tup ds) (.ref a):=by unfold Rep;exact⟨a,xs,rfl,h,r⟩
theorem ud(h:H a=some (.lst xs))(r:Reps G H ds xs):Rep G H (.lst ds) (.ref a):=by unfold Rep;exact⟨a,xs,rfl,h,r⟩
theorem rf(i:Int):Rep G H (.int i) (.int i):=by unfold Rep;rfl
theorem rj(i:Bool):Rep G H (.bl i) (.bl i):=by unfold Rep;rfl
theorem wJ(i:Str):Rep G H (.str i) (.str i):=by unfold Rep;rfl
theorem wK:Rep G H .non .non:=by unfold Rep;rfl
end
inductive Sl where
 |un
 |im (d:D)
 |ls (ds:List D)
 |pm (ds:List D)
 |dk (ks:List Key) (ds:List D)
 |ob (c:Nat) (ns:List Str) (ds:List D)
def Sl.own:Sl->Bool
 |.ls _=>true
 |.pm _=>true
 |.dk _ _=>true
 |.ob _ _ _=>true
 |_=>false
structure Fr where
 B0:Hp
 B:Hp
 A:List Addr
def xD(G:Bg)(F:Fr)(H0 H:Hp)(o:Option V):Sl->Prop
 |.un=>True
 |.im d=>∃v,o=some v/\Rep G H0 d v
 |.ls ds=>∃a xs,o=some (.ref a)/\H a=some (.lst xs)/\H0 a=none/\F.B a=none/\Reps G H0 ds xs
 |.pm ds=>∃a xs,o=some (.ref a)/\H a=some (.lst xs)/\H0 a=none/\a∈F.A/\Reps G H0 ds xs
 |.dk ks ds=>∃a xs,o=some (.ref a)/\H a=some (.dK (ks.zip xs))/\H0 a=none/\F.B a=none/\ks.length=xs.length/\Reps G H0 ds xs
 |.ob c ns ds=>∃a dx xs,o=some (.ref a)/\H a=some (.ins (G.ca c) dx (ns.zip xs))/\H0 a=none/\a∈F.A/\ns.length=xs.length/\Reps G H0 ds xs
structure RelE(G:Bg)(F:Fr)(σ:St)(ρ:List Sl)(H0 H:Hp):Prop where
 sub:oM H0 H
 g0:oM F.B0 H0
 keep:∀b o,F.B b=some o->b∉F.A->H b=some o
 fr:∀b o,H0 b=some o->F.B0 b=some o\/F.B b=none
 am:∀a∈F.A,∃o,H a=some o
 len:σ.length=ρ.length
 sl:∀(i:Nat) (s:Sl),ρ[i]?=some s->xD G F H0 H (σ[i]?).join s
 ap:∀(i j:Nat) (s t:Sl) (a:Addr),i≠j->ρ[i]?=some s->ρ[j]?=some t->s.own=true->t.own=true->(σ[i]?).join=some (.ref a)->(σ[j]?).join=some (.ref a)->False
variable{G:Bg}{F:Fr}{H0:Hp}
theorem xD.at{H:Hp}{o:Option V}{s:Sl}(h:xD G F H0 H o s)(e:s.own=true):∃a u,o=some (.ref a)/\H a=some u/\H0 a=none/\(F.B a=none\/a∈F.A):=by
 cases s with
 |un=>cases e
 |im d=>cases e
 |ls ds=>obtain⟨a,xs,h1,h2,h3,h4,_⟩:=h;exact⟨a,_,h1,h2,h3,.inl h4⟩
 |pm ds=>obtain⟨a,xs,h1,h2,h3,h4,_⟩:=h;exact⟨a,_,h1,h2,h3,.inr h4⟩
 |dk ks ds=>obtain⟨a,xs,h1,h2,h3,h4,_⟩:=h;exact⟨a,_,h1,h2,h3,.inl h4⟩
 |ob c ns ds=>obtain⟨a,dx,xs,h1,h2,h3,h4,_⟩:=h;exact⟨a,_,h1,h2,h3,.inr h4⟩
variable{H0':Hp}
theorem xD.grow{H:Hp}{o:Option V}{s:Sl}(h:xD G F H0 H o s)(h0:oM H0 H0')(hk:∀a u,o=some (.ref a)->s.own=true->H a=some u->H' a=some u)
  (hn:∀a u,o=some (.ref a)->s.own=true->H a=some u->H0 a=none->H0' a=none):xD G F H0' H' o s:=by
 cases s with
 |un=>trivial
 |im d=>obtain⟨v,h1,h2⟩:=h;exact⟨v,h1,Rep.mono h0 _ _ h2⟩
 |ls ds=>obtain⟨a,xs,h1,h2,h3,h4,h5⟩:=h;exact⟨a,xs,h1,hk _ _ h1 rfl h2,hn _ _ h1 rfl h2 h3,h4,Reps.mono h0 _ _ h5⟩
 |pm ds=>obtain⟨a,xs,h1,h2,h3,h4,h5⟩:=h;exact⟨a,xs,h1,hk _ _ h1 rfl h2,hn _ _ h1 rfl h2 h3,h4,Reps.mono h0 _ _ h5⟩
 |dk ks ds=>obtain⟨a,xs,h1,h2,h3,h4,h5,h6⟩:=h;exact⟨a,xs,h1,hk _ _ h1 rfl h2,hn _ _ h1 rfl h2 h3,h4,h5,Reps.mono h0 _ _ h6⟩
 |ob c ns ds=>obtain⟨a,dx,xs,h1,h2,h3,h4,h5,h6⟩:=h;exact⟨a,dx,xs,h1,hk _ _ h1 rfl h2,hn _ _ h1 rfl h2 h3,h4,h5,Reps.mono h0 _ _ h6⟩
variable{p:Addr}{i j:Nat}
section
variable{G:Bg}{F:Fr}{σ:St}{ρ:List Sl}{H0 H H0' H':Hp}
theorem RelE.bNone(R:RelE G F σ ρ H0 H){b:Addr}(h:H b=none):F.B b=none:=by
 cases e:F.B b with
 |none=>rfl
 |some o=>
  by_cases ha:b∈F.A
  ·obtain⟨xs,q⟩:=R.am b ha;rw[q]at h;cases h
  ·have q:=R.keep b o e ha;rw[q]at h;cases h
theorem RelE.grow(R:RelE G F σ ρ H0 H)(hs:oM H H')(h0:oM H0 H0')(sub':oM H0' H')(hf:∀b o,H0' b=some o->H0 b=some o\/H b=none):RelE G F σ ρ H0' H' where
 sub:=sub'
 g0:=R.g0.trans h0
 keep:=λb o e n=>hs _ _ (R.keep b o e n)
 fr:=λb o e=>by
  rcases hf b o e with q|q
  ·exact R.fr b o q
  ·exact .inr (R.bNone q)
 am:=λa ha=>let ⟨xs,q⟩:=R.am a ha;⟨xs,hs _ _ q⟩
 len:=R.len
 sl:=λi s e=>(R.sl i s e).grow h0 (λa u _ _ q=>hs _ _ q) λa u _ _ q q0=>by
  cases z:H0' a with
  |none=>rfl
  |some o=>
   rcases hf a o z with y|y
   ·rw[y]at q0;cases q0
   ·rw[y]at q;cases q
 ap:=R.ap
theorem oP{H:Hp}(hp:H p=none)(o:HO):oM H (upd H p o):=oM.new (oM.refl H) hp o
theorem RelE.h0none(R:RelE G F σ ρ H0 H)(hp:H p=none):H0 p=none:=by
 cases e:H0 p with
 |none=>rfl
 |some o=>have:=R.sub _ _ e;rw[this]at hp;cases hp
theorem J0{H0 H:Hp}(s:oM H0 H)(p:Addr)(o:HO):oM (upd H0 p o) (upd H p o):=λb u e=>by
 by_cases hb:b=p
 ·subst hb;rw[oH]at e ⊢;exact e
 ·rw[oF hb]at e ⊢;exact s _ _ e
theorem RelE.newIm(R:RelE G F σ ρ H0 H)(hp:H p=none)(o:HO):RelE G F σ ρ (upd H0 p o) (upd H p o):=
 R.grow (oP hp o) (oP (R.h0none hp) o) (J0 R.sub p o) λb u e=>by
  by_cases hb:b=p
  ·subst hb;exact .inr hp
  ·rw[oF hb]at e;exact .inl e
theorem RelE.newOwn(R:RelE G F σ ρ H0 H)(hp:H p=none)(o:HO):RelE G F σ ρ H0 (upd H p o):=
 R.grow (oP hp o) (oM.refl _) (λb u e=>by rw[oF (qO (R.sub _ _ e) hp)];exact R.sub _ _ e) λb u e=>.inl e
def Apart(σ:St)(ρ:List Sl)(p:Addr):Prop:=∀(i:Nat) (s:Sl),ρ[i]?=some s->s.own=true->(σ[i]?).join≠some (.ref p)
theorem RelE.apart(R:RelE G F σ ρ H0 H)(hp:H p=none):Apart σ ρ p:=λi s e so z=>by obtain⟨a,u,h1,h2,_⟩:=(R.sl i s e).at so;rw[z]at h1;cases h1;rw[hp]at h2;cases h2
theorem RelE.freeze(R:RelE G F σ ρ H0 H){o:HO}(hp:H p=some o)(h0:H0 p=none)(hb:F.B p=none)(ap:Apart σ ρ p):RelE G F σ ρ (upd H0 p o) H where
 sub:=λb u e=>by
  by_cases hb:b=p
  ·subst hb;rw[oH]at e;cases e;exact hp
  ·rw[oF hb]at e;exact R.sub _ _ e
 g0:=R.g0.trans (oP h0 o)
 keep:=R.keep
 fr:=λb u e=>by
  by_cases hb':b=p
  ·subst hb';exact .inr hb
  ·rw[oF hb']at e;exact R.fr _ _ e
 am:=R.am
 len:=R.len
 sl:=λi s e=>(R.sl i s e).grow (oP h0 o) (λa u _ _ q=>q) λa u z so q q0=>by rw[oF (λy=>ap i s e so (by rw[z,y]))];exact q0
 ap:=R.ap
theorem Eb{σ:St}{v:Option V}(hi:i<σ.length):((σ.set i v)[j]?).join=if j=i then v else (σ[j]?).join:=by
 rw[bo];by_cases h:i=j
 ·subst h;simp[hi]
 ·rw[ai h,ai (λz=>h z.symm)]
theorem RelE.set(R:RelE G F σ ρ H0 H){v:V}{s:Sl}(hs:xD G F H0 H (some v) s)(ap:s.own=true->∀a,v=.ref a->∀(j:Nat) (t:Sl),j≠i->ρ[j]?=some t->t.own=true->(σ[j]?).join≠some (.ref a)):
  RelE G F (σ.set i (some v)) (ρ.set i s) H0 H where
 sub:=R.sub
 g0:=R.g0
 keep:=R.keep
 fr:=R.fr
 am:=R.am
 len:=by rw[c8,c8,R.len]
 sl:=λj t e=>by
  rw[bo]at e;by_cases h:i=j
  ·subst h;rw[aj rfl]at e;split at e
   ·rename_i hi;cases e;rw[Eb (by rw[R.len];exact hi),aj rfl];exact hs
   ·cases e
  ·rw[ai h]at e;have hh:=R.sl j t e;rw[bo,ai h];exact hh
 ap:=λj k t u a hjk ej ek tj tk vj vk=>by
  have gen:∀{m:Nat} {x:Sl},(ρ.set i s)[m]?=some x->m≠i->ρ[m]?=some x/\((σ.set i (some v))[m]?).join=(σ[m]?).join:=λ{m x} e hm=>by rw[bo,ai (λz=>hm z.symm)]at e;exact⟨e,by rw[bo,ai (λz=>hm z.symm)]⟩
  have self:∀{x:Sl},(ρ.set i s)[i]?=some x->x=s/\((σ.set i (some v))[i]?).join=some v:=λ{x} e=>by
   rw[bo,aj rfl]at e;split at e
   ·rename_i hi;cases e;exact⟨rfl,by rw[Eb (by rw[R.len];exact hi),aj rfl]⟩
   ·cases e
  by_cases hj:j=i
  ·subst hj;obtain⟨rfl,ev⟩:=self ej;rw[ev]at vj;cases vj;obtain⟨e2,e3⟩:=gen ek (λz=>hjk z.symm);rw[e3]at vk;exact ap tj a rfl k u (λz=>hjk z.symm) e2 tk vk
  ·obtain⟨e2,e3⟩:=gen ej hj;by_cases hk:k=i
   ·subst hk;obtain⟨rfl,ev⟩:=self ek;rw[ev]at vk;cases vk;rw[e3]at vj;exact ap tk a rfl j t hj e2 tj vj
   ·obtain⟨e4,e5⟩:=gen ek hk;rw[e3]at vj;rw[e5]at vk;exact R.ap j k t u a hjk e2 e4 tj tk vj vk
theorem RelE.setIm(R:RelE G F σ ρ H0 H)(i:Nat){v:V}(h:Rep G H0 d v):RelE G F (σ.set i (some v)) (ρ.set i (.im d)) H0 H:=R.set ⟨v,rfl,h⟩ λz=>by cases z
theorem RelE.setLs(R:RelE G F σ ρ H0 H)(i:Nat)(hp:H p=some (.lst xs))(h0:H0 p=none)(hb:F.B p=none)(ap:Apart σ ρ p)(h:Reps G H0 ds xs):RelE G F (σ.set i (some (.ref p))) (ρ.set i (.ls ds)) H0 H:=
 R.set ⟨p,xs,rfl,hp,h0,hb,h⟩ λ_ a e j t _ ej tj=>by cases e;exact ap j t ej tj
theorem RelE.mut(R:RelE G F σ ρ H0 H){s s':Sl}{o:HO}(hi:ρ[i]?=some s)(so:s.own=true)(ha:(σ[i]?).join=some (.ref a))(ok:∀H',H' a=some o->xD G F H0 H' (some (.ref a)) s')
  (so':s'.own=true):RelE G F σ (ρ.set i s') H0 (upd H a o):=by
 obtain⟨a',u,e1,e2,e3,e4⟩:=(R.sl i s hi).at so;rw[ha]at e1;cases e1;exact {
  sub:=λb w e=>by rw[oF (λz=>by rw[z,e3]at e;cases e)];exact R.sub _ _ e
  g0:=R.g0
  keep:=λb w e n=>by
   have nb:b≠a:=λz=>by
    subst z;rcases e4 with q|q
    ·rw[q]at e;cases e
    ·exact n q
   rw[oF nb];exact R.keep b w e n
  fr:=R.fr
  am:=λb hb=>by
   by_cases z:b=a
   ·subst z;exact⟨o,oH⟩
   ·rw[oF z];exact R.am b hb
  len:=by rw[c8];exact R.len
  sl:=λj t e=>by
   rw[bo]at e;by_cases h:i=j
   ·subst h;rw[aj rfl]at e;split at e
    ·cases e;rw[ha];exact ok _ oH
    ·cases e
   ·rw[ai h]at e;refine(R.sl j t e).grow (oM.refl _) (λb w z to q=>?_) λb w _ _ _ q=>q;rw[oF (λy=>by subst y;exact R.ap j i t s b (λy=>h y.symm) e hi to so z ha)];exact q
  ap:=λj k t u b hjk ej ek tj tk vj vk=>by
   have gen:∀{m:Nat} {x:Sl},(ρ.set i s')[m]?=some x->∃y,ρ[m]?=some y/\(x.own=true->y.own=true):=λ{m x} e=>by
    rw[bo]at e;by_cases h:i=m
    ·subst h;exact⟨s,hi,λ_=>so⟩
    ·rw[ai h]at e;exact⟨x,e,λq=>q⟩
   obtain⟨y,ey,oy⟩:=gen ej;obtain⟨z,ez,oz⟩:=gen ek;exact R.ap j k y z b hjk ey ez (oy tj) (oz tk) vj vk }
end
abbrev FE:=List Sl->Option (D×List Sl)
abbrev FT:=List Sl->Option (Bool×List Sl)
abbrev FA:=List Sl->Option (List D×List Sl)
def tF(G:Bg)(f:FE):TE:=λσ H Q=>∃F ρ H0 d ρ',RelE G F σ ρ H0 H/\f ρ=some (d,ρ')/\∀v H0' H',oM H0 H0'->RelE G F σ ρ' H0' H'->Rep G H0' d v->Q v H'
def tFT(G:Bg)(f:FT):TT:=λσ H Q=>∃F ρ H0 d ρ',RelE G F σ ρ H0 H/\f ρ=some (d,ρ')/\∀H0' H',oM H0 H0'->RelE G F σ ρ' H0' H'->Q d H'
def tFA(G:Bg)(f:FA):TA:=λσ H Q=>∃F ρ H0 ds ρ',RelE G F σ ρ H0 H/\f ρ=some (ds,ρ')/\∀xs H0' H',oM H0 H0'->RelE G F σ ρ' H0' H'->Reps G H0' ds xs->Q xs H'
def tFN(G:Bg)(f:FA):TE:=λσ H Q=>∃F ρ H0 ds ρ',RelE G F σ ρ H0 H/\f ρ=some (ds,ρ')/\∀p xs H0' H',oM H0 H0'->RelE G F σ ρ' H0' H'->H' p=some (.lst xs)->H0' p=none->F.B p=none->Apart σ ρ' p->Reps G H0' ds xs->Q (.ref p) H'
variable{X:Cx}{e:Expr}
theorem PE.weak{t t':TE}(h:PE X e t)(w:∀σ H Q,t' σ H Q->t σ H Q):PE X e t':=λpins s σ H Q I hq=>h pins s σ H Q I (w _ _ _ hq)
variable{t':TT}
theorem PT.weak{t:TT}(h:PT X e t)(w:∀σ H Q,t' σ H Q->t σ H Q):PT X e t':=λpins s σ H Q I hq=>h pins s σ H Q I (w _ _ _ hq)
theorem PW.weak{t:TT}(h:PW X e t)(w:∀σ H Q,t' σ H Q->t σ H Q):PW X e t':=λwh pins s σ H Q I hq=>h wh pins s σ H Q I (w _ _ _ hq)
theorem PA.weak{e:List Expr}{t t':TA}(h:PA X e t)(w:∀σ H Q,t' σ H Q->t σ H Q):PA X e t':=λpos pins s σ H Q I hq=>h pos pins s σ H Q I (w _ _ _ hq)
noncomputable def cC(d:D):FE:=λρ=>some (d,ρ)
noncomputable def cV(i:Nat):FE:=λρ=>match ρ[i]? with
 |some (.im d)=>some (d,ρ)
 |_=>none
noncomputable def c1(g:D->Option D) (f:FE):FE:=λρ=>match f ρ with
 |some (d,ρ')=>match g d with
  |some x=>some (x,ρ')
  |none=>none
 |none=>none
noncomputable def c2(g:D->D->Option D) (f f':FE):FE:=λρ=>match f ρ with
 |some (x,ρ1)=>match f' ρ1 with
  |some (y,ρ2)=>match g x y with
   |some z=>some (z,ρ2)
   |none=>none
  |none=>none
 |none=>none
variable{f:FE}{ρ ρ':List Sl}
theorem z8{g:D->Option D}{z:D}(h:c1 g f ρ=some (z,ρ')):∃d,f ρ=some (d,ρ')/\g d=some z:=by
 unfold c1 at h;cases e:f ρ with
 |none=>rw[e]at h;cases h
 |some p=>
  obtain⟨d,ρ1⟩:=p;rw[e]at h;cases e2:g d with
  |none=>simp only[e2]at h;cases h
  |some x=>simp only[e2]at h;cases h;exact⟨d,rfl,e2⟩
variable{f':FE}
theorem Dk{g:D->D->Option D}{z:D}(h:c2 g f f' ρ=some (z,ρ')):∃x y ρ1,f ρ=some (x,ρ1)/\f' ρ1=some (y,ρ')/\g x y=some z:=by
 unfold c2 at h;cases e:f ρ with
 |none=>rw[e]at h;cases h
 |some p=>
  obtain⟨x,ρ1⟩:=p;simp only[e]at h;cases e2:f' ρ1 with
  |none=>simp only[e2]at h;cases h
  |some q=>
   obtain⟨y,ρ2⟩:=q;simp only[e2]at h;cases e3:g x y with
   |none=>simp only[e3]at h;cases h
   |some w=>simp only[e3]at h;cases h;exact⟨x,y,ρ1,rfl,e2,e3⟩
variable{pos:Pos}{op:dN}{es:List Expr}
section
variable{X:Cx}{G:Bg}
theorem PY{i j pos}:PE X (.Constant (.int i) j pos) (tF G (cC (.int i))):=PE.weak E9 λσ H Q h=>by obtain⟨F,ρ,H0,d,ρ',R,e,k⟩:=h;cases e;exact k _ _ _ (oM.refl _) R (rf i)
theorem TF{i j pos}:PE X (.Constant (.bool i) j pos) (tF G (cC (.bl i))):=PE.weak S4 λσ H Q h=>by obtain⟨F,ρ,H0,d,ρ',R,e,k⟩:=h;cases e;exact k _ _ _ (oM.refl _) R (rj i)
theorem PZ{i j pos}:PE X (.Constant (.str i) j pos) (tF G (cC (.str i))):=PE.weak Jp λσ H Q h=>by obtain⟨F,ρ,H0,d,ρ',R,e,k⟩:=h;cases e;exact k _ _ _ (oM.refl _) R (wJ i)
theorem P0{j pos}:PE X (.Constant .none j pos) (tF G (cC .non)):=PE.weak O8 λσ H Q h=>by obtain⟨F,ρ,H0,d,ρ',R,e,k⟩:=h;cases e;exact k _ _ _ (oM.refl _) R wK
theorem MP(h:cV i ρ=some (d,ρ')):ρ[i]?=some (.im d)/\ρ'=ρ:=by
 unfold cV at h;split at h
 ·rename_i e;cases h;exact⟨e,rfl⟩
 ·cases h
theorem qv{α:Type}{o:Option (Option α)}{v:α}(h:o.join=some v):o=some (some v):=by
 cases o with
 |none=>cases h
 |some u=>cases u with
  |none=>cases h
  |some w=>cases h;rfl
theorem Fq(h:PE X e (ua i)):PE X e (tF G (cV i)):=PE.weak h λσ H Q hh=>by obtain⟨F,ρ,H0,d,ρ',R,e,k⟩:=hh;obtain⟨e1,rfl⟩:=MP e;obtain⟨v,e2,e3⟩:=R.sl i _ e1;exact⟨v,qv e2,k _ _ _ (oM.refl _) R e3⟩
theorem MQ{v:V}(h:PE X e (tC v))(r:∀H,Rep G H d v):PE X e (tF G (cC d)):=PE.weak h λσ H Q hh=>by obtain⟨F,ρ,H0,d',ρ',R,e,k⟩:=hh;cases e;exact k _ _ _ (oM.refl _) R (r _)
def OpD(G:Bg)(r:R2)(g:D->D->Option D):Prop:=∀x y z H0 H v u (Q:VK),g x y=some z->oM H0 H->Rep G H0 x v->Rep G H0 y u->(∀w,(∀H0',oM H0 H0'->Rep G H0' z w)->Q w H)->r v u H Q
theorem GH{r:R2}{g:D->D->Option D}(ho:OpD G r g):∀σ H Q,tF G (c2 g f f') σ H Q->tOp r (tF G f) (tF G f') σ H Q:=λσ H Q hh=>by obtain⟨F,ρ,H0,d,ρ',R,e,k⟩:=hh;obtain⟨x,y,ρ1,e1,e2,e3⟩:=Dk e;refine⟨F,ρ,H0,x,ρ1,R,e1,λv H1 H1' s1 R1 r1=>⟨F,ρ1,H1,y,ρ',R1,e2,λu H2 H2' s2 R2 r2=>?_⟩⟩;exact ho x y d H2 H2' v u Q e3 R2.sub (Rep.mono s2 _ _ r1) r2 λw hw=>k w H2 H2' (s1.trans s2) R2 (hw _ (oM.refl _))
theorem TH{a b:Expr}{op:hG}{r:R2}{g:D->D->Option D}(hr:OpR X (bX op) r)(ho:OpD G r g)(ha:PE X a (tF G f))(hb:PE X b (tF G f')):PE X (.BinOp a op b pos) (tF G (c2 g f f')):=PE.weak (Jw hr ha hb) (GH ho)
theorem P1{a b:Expr}{r:R2}{g:D->D->Option D}(hr:OpR X (aM op) r)(ho:OpD G r g)(ha:PE X a (tF G f))(hb:PE X b (tF G f'))(hm:dE op b=false):PE X (.Compare a [op] [b] pos) (tF G (c2 g f f')):=PE.weak (Mr hr ha hb hm) (GH ho)
theorem TJ{a b:Expr}{r:R2}{g:D->D->Option D}(hr:IxR X r)(ho:OpD G r g)(ha:PE X a (tF G f))(hb:PE X b (tF G f'))(hs:Gy b):PE X (.Subscript a b pos) (tF G (c2 g f f')):=PE.weak (ON hr ha hb hs) (GH ho)
def cT(f:FE):FT:=λρ=>match f ρ with
 |some (.bl b,ρ')=>some (b,ρ')
 |_=>none
theorem GK{b:Bool}(h:cT f ρ=some (b,ρ')):f ρ=some (.bl b,ρ'):=by
 unfold cT at h;split at h
 ·rename_i e;cases h;exact e
 ·cases h
theorem GL:∀σ H Q,tFT G (cT f) σ H Q->Jz (tF G f) σ H Q:=λσ H Q hh=>by obtain⟨F,ρ,H0,d,ρ',R,e,k⟩:=hh;refine⟨F,ρ,H0,_,ρ',R,GK e,λv H0' H' s R' r=>?_⟩;unfold Rep at r;exact⟨d,r,k _ _ s R'⟩
theorem MR{a b:Expr}{r:R2}{g:D->D->Option D}(hr:OpR X (aM op) r)(ho:OpD G r g)(ha:PE X a (tF G f))(hb:PE X b (tF G f'))(hm:dE op b=false):
  PT X (.Compare a [op] [b] pos) (tFT G (cT (c2 g f f'))):=PT.weak (Ms hr ha hb hm) λσ H Q hh=>by
 obtain⟨F,ρ,H0,d,ρ',R,e,k⟩:=GL σ H Q hh;exact GH ho σ H _ ⟨F,ρ,H0,d,ρ',R,e,k⟩
theorem MS(h:PE X e (tF G f))(he:∀whole,isTrue e X.env whole=(do let v<-whole;standAt e.pos;holding [v] (truthy v)):=by intro _;rfl):PT X e (tFT G (cT f)):=PT.weak (O9 h he) λσ H Q hh=>by obtain⟨F,ρ,H0,d,ρ',R,e,k⟩:=hh;refine⟨F,ρ,H0,_,ρ',R,GK e,λv H0' H' s R' r=>?_⟩;unfold Rep at r;exact⟨d,r,k _ _ s R'⟩
def qc(f:FT):FT:=λρ=>match f ρ with
 |some (b,ρ')=>some (!b,ρ')
 |none=>none
def zp(f g:FT):FT:=λρ=>match f ρ with
 |some (true,ρ')=>g ρ'
 |r=>r
def uz(f g:FT):FT:=λρ=>match f ρ with
 |some (false,ρ')=>g ρ'
 |r=>r
theorem MU{a:Expr}{f:FT}(h:PT X a (tFT G f)):PT X (.UnaryOp .Not a pos) (tFT G (qc f)):=PT.weak (Pc h) λσ H Q hh=>by
 obtain⟨F,ρ,H0,d,ρ',R,e,k⟩:=hh;unfold qc at e;cases e1:f ρ with
 |none=>simp only[e1]at e;cases e
 |some p=>obtain⟨b,ρ1⟩:=p;simp only[e1]at e;cases e;exact⟨F,ρ,H0,b,_,R,e1,λH0' H' s R'=>k _ _ s R'⟩
theorem P2{f g:FT}:∀σ H Q,tFT G (zp f g) σ H Q->S5 (tFT G f) (tFT G g) σ H Q:=λσ H Q hh=>by
 obtain⟨F,ρ,H0,d,ρ',R,e,k⟩:=hh;unfold zp at e;cases e1:f ρ with
 |none=>simp only[e1]at e;cases e
 |some p=>
  obtain⟨b,ρ1⟩:=p;cases b with
  |true=>simp only[e1]at e;exact⟨F,ρ,H0,true,ρ1,R,e1,λH0' H' s R'=>D5 ⟨F,ρ1,H0',d,ρ',R',e,λH2 H2' s2 R2=>k _ _ (s.trans s2) R2⟩⟩
  |false=>simp only[e1]at e;cases e;exact⟨F,ρ,H0,false,_,R,e1,λH0' H' s R'=>D4 (k _ _ s R')⟩
theorem TM{f g:FT}:∀σ H Q,tFT G (uz f g) σ H Q->tOr (tFT G f) (tFT G g) σ H Q:=λσ H Q hh=>by
 obtain⟨F,ρ,H0,d,ρ',R,e,k⟩:=hh;unfold uz at e;cases e1:f ρ with
 |none=>simp only[e1]at e;cases e
 |some p=>
  obtain⟨b,ρ1⟩:=p;cases b with
  |false=>simp only[e1]at e;exact⟨F,ρ,H0,false,ρ1,R,e1,λH0' H' s R'=>D4 ⟨F,ρ1,H0',d,ρ',R',e,λH2 H2' s2 R2=>k _ _ (s.trans s2) R2⟩⟩
  |true=>simp only[e1]at e;cases e;exact⟨F,ρ,H0,true,_,R,e1,λH0' H' s R'=>D5 (k _ _ s R')⟩
theorem J1{a:Expr}{f:FT}(h:PT X a (tFT G f)):PW X (.BoolOp .And [a] pos) (tFT G f):=Mi h
theorem MV{a:Expr}{f:FT}(h:PT X a (tFT G f)):PW X (.BoolOp .Or [a] pos) (tFT G f):=Pa h
theorem MW{a b:Expr}{rest:List Expr}{f g:FT}(ha:PT X a (tFT G f))(hb:PW X (.BoolOp .And (b::rest) pos) (tFT G g)):PW X (.BoolOp .And (a::b::rest) pos) (tFT G (zp f g)):=PW.weak (Pb ha hb) P2
theorem J2{a b:Expr}{rest:List Expr}{f g:FT}(ha:PT X a (tFT G f))(hb:PW X (.BoolOp .Or (b::rest) pos) (tFT G g)):PW X (.BoolOp .Or (a::b::rest) pos) (tFT G (uz f g)):=PW.weak (S6 ha hb) TM
def rP(f g:FE):FE:=λρ=>match f ρ with
 |some (.bl true,ρ')=>g ρ'
 |some (.bl false,ρ')=>some (.bl false,ρ')
 |_=>none
def Dl(f:FE):FE:=λρ=>match f ρ with
 |some (.bl b,ρ')=>some (.bl !b,ρ')
 |_=>none
def cIf(c:FT)(f g:FE):FE:=λρ=>match c ρ with
 |some (true,ρ')=>f ρ'
 |some (false,ρ')=>g ρ'
 |none=>none
theorem P3{a:Expr}{op}(h:PE X a (tF G f)):PE X (.BoolOp op [a] pos) (tF G f):=Pd h
theorem J3:(∃ρ1,f ρ=some (.bl true,ρ1))\/(∃ρ1,f ρ=some (.bl false,ρ1))\/(∀b ρ1,f ρ≠some (.bl b,ρ1)):=by
 by_cases h1:∃ρ1,f ρ=some (.bl true,ρ1)
 ·exact .inl h1
 by_cases h2:∃ρ1,f ρ=some (.bl false,ρ1)
 ·exact .inr (.inl h2)
 refine .inr (.inr λb ρ1 z=>?_);cases b with
 |true=>exact h1 ⟨ρ1,z⟩
 |false=>exact h2 ⟨ρ1,z⟩
theorem Ib{g:FE}(h:∀b ρ1,f ρ≠some (.bl b,ρ1)):rP f g ρ=none:=by
 unfold rP;split
 ·rename_i e;exact ao e (h _ _)
 ·rename_i e;exact ao e (h _ _)
 ·rfl
theorem P4{a b:Expr}{rest:List Expr}{g:FE}(ha:PE X a (tF G f))(hb:PE X (.BoolOp .And (b::rest) pos) (tF G g)):PE X (.BoolOp .And (a::b::rest) pos) (tF G (rP f g)):=PE.weak (Pe ha hb) λσ H Q hh=>by
 obtain⟨F,ρ,H0,d,ρ',R,e,k⟩:=hh;rcases J3 (f:=f) (ρ:=ρ)with ⟨ρ1,e1⟩|⟨ρ1,e1⟩|e1
 ·have e':g ρ1=some (d,ρ'):=by unfold rP at e;simp only[e1]at e;exact e
  refine⟨F,ρ,H0,_,ρ1,R,e1,λv H1 H1' s R' r=>?_⟩;unfold Rep at r;refine⟨true,r,?_⟩;exact D5 ⟨F,ρ1,H1,d,ρ',R',e',λv H2 H2' s2 R2 r2=>k _ _ _ (s.trans s2) R2 r2⟩
 ·have e':some (D.bl false,ρ1)=some (d,ρ'):=by unfold rP at e;simp only[e1]at e;exact e
  cases e';refine⟨F,ρ,H0,_,_,R,e1,λv H1 H1' s R' r=>?_⟩;have r':=r;unfold Rep at r';refine⟨false,r',?_⟩;exact D4 (k _ _ _ s R' (rj false))
 ·rw[Ib e1]at e;cases e
theorem P5{a:Expr}(ha:PE X a (tF G f)):PE X (.UnaryOp .Not a pos) (tF G (Dl f)):=PE.weak (Pf ha) λσ H Q hh=>by
 obtain⟨F,ρ,H0,d,ρ',R,e,k⟩:=hh;unfold Dl at e;split at e
 ·rename_i b ρ1 e1;cases e;refine⟨F,ρ,H0,_,_,R,e1,λv H1 H1' s R' r=>?_⟩;unfold Rep at r;exact⟨b,r,k _ _ _ s R' (rj _)⟩
 ·cases e
theorem TN{c a b:Expr}{h:FT}{g:FE}(hc:PT X c (tFT G h))(ha:PE X a (tF G f))(hb:PE X b (tF G g)):PE X (.IfExp c a b pos) (tF G (cIf h f g)):=PE.weak (Jq hc ha hb) λσ H Q hh=>by
 obtain⟨F,ρ,H0,d,ρ',R,e,k⟩:=hh;unfold cIf at e;cases e1:h ρ with
 |none=>simp only[e1]at e;cases e
 |some p=>
  obtain⟨b,ρ1⟩:=p;refine⟨F,ρ,H0,b,ρ1,R,e1,λH1 H1' s R'=>?_⟩;cases b with
  |true=>simp only[e1]at e;exact D5 ⟨F,ρ1,H1,d,ρ',R',e,λv H2 H2' s2 R2 r2=>k _ _ _ (s.trans s2) R2 r2⟩
  |false=>simp only[e1]at e;exact D4 ⟨F,ρ1,H1,d,ρ',R',e,λv H2 H2' s2 R2 r2=>k _ _ _ (s.trans s2) R2 r2⟩
noncomputable def ox:FA:=λρ=>some ([],ρ)
noncomputable def aCons(f:FE) (g:FA):FA:=λρ=>match f ρ with
 |some (d,ρ1)=>match g ρ1 with
  |some (ds,ρ2)=>some (d::ds,ρ2)
  |none=>none
 |none=>none
theorem AB{g:FA}(h:aCons f g ρ=some (ds,ρ')):∃d r ρ1,f ρ=some (d,ρ1)/\g ρ1=some (r,ρ')/\ds=d::r:=by
 unfold aCons at h;cases e:f ρ with
 |none=>rw[e]at h;cases h
 |some p=>
  obtain⟨x,ρ1⟩:=p;simp only[e]at h;cases e2:g ρ1 with
  |none=>simp only[e2]at h;cases h
  |some q=>obtain⟨y,ρ2⟩:=q;simp only[e2]at h;cases h;exact⟨x,y,ρ1,rfl,e2,rfl⟩
theorem ue:PA X [] (tFA G ox):=PA.weak uy λσ H Q hh=>by obtain⟨F,ρ,H0,d,ρ',R,e,k⟩:=hh;cases e;exact k _ _ _ (oM.refl _) R o7
theorem sI{g:FA}(ha:PE X e (tF G f))(hr:PA X es (tFA G g))(hs:ar (e::es) X.env=(false,eval e X.env)::ar es X.env:=by rfl):PA X (e::es) (tFA G (aCons f g)):=PA.weak (qK ha hr hs) λσ H Q hh=>by obtain⟨F,ρ,H0,d,ρ',R,e,k⟩:=hh;obtain⟨x,r,ρ1,e1,e2,rfl⟩:=AB e;exact⟨F,ρ,H0,x,ρ1,R,e1,λv H1 H1' s R' rv=>⟨F,ρ1,H1,r,ρ',R',e2,λxs H2 H2' s2 R2 rs=>k _ _ _ (s.trans s2) R2 (o6 (Rep.mono s2 _ _ rv) rs)⟩⟩
def qe(g:FA):FE:=λρ=>match g ρ with
 |some (ds,ρ')=>if ds.length<=1000 then some (.tup ds,ρ')else none
 |none=>none
def pB(g:FA):FA:=λρ=>match g ρ with
 |some (ds,ρ')=>if ds.length<=1000 then some (ds,ρ')else none
 |none=>none
theorem P6{x1}{g:FA}(h:PA X es (tFA G g)):PE X (.Tuple es x1 pos) (tF G (qe g)):=PE.weak (JE h) λσ H Q hh=>by
 obtain⟨F,ρ,H0,d,ρ',R,e,k⟩:=hh;unfold qe at e;cases e1:g ρ with
 |none=>simp only[e1]at e;cases e
 |some p=>
  obtain⟨ds,ρ1⟩:=p;simp only[e1]at e;split at e
  ·rename_i hl;cases e;refine⟨F,ρ,H0,_,_,R,e1,λxs H1 H1' s R' rs=>⟨by rw[<-oG rs];exact sf hl,λp hp=>?_⟩⟩;exact k _ _ _ (s.trans (oP (R'.h0none hp) _)) (R'.newIm hp _) (vd (SqT.of oH) (Reps.mono (oP (R'.h0none hp) _) _ _ rs))
  ·cases e
theorem MX{g:FA}(h:PA X es (tFA G g)):PE X (.List es pos) (tFN G (pB g)):=PE.weak (JF h) λσ H Q hh=>by
 obtain⟨F,ρ,H0,d,ρ',R,e,k⟩:=hh;unfold pB at e;cases e1:g ρ with
 |none=>simp only[e1]at e;cases e
 |some p=>
  obtain⟨ds,ρ1⟩:=p;simp only[e1]at e;split at e
  ·rename_i hl;cases e;refine⟨F,ρ,H0,_,_,R,e1,λxs H1 H1' s R' rs=>⟨by rw[<-oG rs];exact sf hl,λp hp=>?_⟩⟩;exact k _ _ _ _ s (R'.newOwn hp _) oH (R'.h0none hp) (R'.bNone hp) (R'.apart hp) rs
  ·cases e
def cL(g:FA):FE:=λρ=>match g ρ with
 |some (ds,ρ')=>some (.lst ds,ρ')
 |none=>none
theorem MY{g:FA}(h:cL g ρ=some (d,ρ')):∃ds,g ρ=some (ds,ρ')/\d=.lst ds:=by
 unfold cL at h;cases e:g ρ with
 |none=>simp only[e]at h;cases h
 |some p=>obtain⟨ds,ρ1⟩:=p;simp only[e]at h;cases h;exact⟨ds,rfl,rfl⟩
theorem TQ{g:FA}:∀σ H Q,tF G (cL g) σ H Q->tFN G g σ H Q:=λσ H Q hh=>by obtain⟨F,ρ,H0,d,ρ',R,e,k⟩:=hh;obtain⟨ds,e1,rfl⟩:=MY e;refine⟨F,ρ,H0,ds,ρ',R,e1,λp xs H1 H1' s R' hp h0 hb ap rs=>?_⟩;exact k _ _ _ (s.trans (oP h0 _)) (R'.freeze hp h0 hb ap) (ud oH (Reps.mono (oP h0 _) _ _ rs))
theorem P7{g:FA}(h:PE X e (tFN G g)):PE X e (tF G (cL g)):=PE.weak h TQ
end
inductive Out where
 |nx (ρ:List Sl)|bk (ρ:List Sl)|ct (ρ:List Sl)
 |rt (d:D) (ρ:List Sl)
 |rn (ds:List D) (ρ:List Sl)
abbrev FS:=List Sl->Option Out
def GN(G:Bg)(F:Fr)(H0:Hp)(E:Ends):Out->Prop
 |.nx ρ'=>∀σ' H0' H',oM H0 H0'->RelE G F σ' ρ' H0' H'->E.nx σ' H'
 |.bk ρ'=>∀σ' H0' H',oM H0 H0'->RelE G F σ' ρ' H0' H'->E.bk σ' H'
 |.ct ρ'=>∀σ' H0' H',oM H0 H0'->RelE G F σ' ρ' H0' H'->E.ct σ' H'
 |.rt d ρ'=>∀v σ' H0' H',oM H0 H0'->RelE G F σ' ρ' H0' H'->Rep G H0' d v->E.rt v H'
 |.rn ds ρ'=>∀p xs σ' H0' H',oM H0 H0'->RelE G F σ' ρ' H0' H'->H' p=some (.lst xs)->H0' p=none->F.B p=none->Apart σ' ρ' p->Reps G H0' ds xs->E.rt (.ref p) H'
def tFS(G:Bg)(f:FS):TS:=λE σ H=>∃F ρ H0 o,RelE G F σ ρ H0 H/\f ρ=some o/\GN G F H0 E o/\(∀p,E.rt p=E.rt p)
variable{H1:Hp}
theorem GN.back{E:Ends}{o:Out}(h:GN G F H0 E o)(s:oM H0 H1):GN G F H1 E o:=by
 cases o with
 |nx ρ=>exact λσ' H0' H' s' R=>h σ' H0' H' (s.trans s') R
 |bk ρ=>exact λσ' H0' H' s' R=>h σ' H0' H' (s.trans s') R
 |ct ρ=>exact λσ' H0' H' s' R=>h σ' H0' H' (s.trans s') R
 |rt d ρ=>exact λv σ' H0' H' s' R=>h v σ' H0' H' (s.trans s') R
 |rn ds ρ=>exact λp xs σ' H0' H' s' R=>h p xs σ' H0' H' (s.trans s') R
theorem PS.weak{e:Stmt}{t t':TS}(h:PS X e t)(w:∀E σ H,t' E σ H->t E σ H):PS X e t':=λpins s σ H D I hq=>h pins s σ H D I (w _ _ _ hq)
theorem PSs.weak{e:List Stmt}{t t':TS}(h:PSs X e t)(w:∀E σ H,t' E σ H->t E σ H):PSs X e t':=λpins s σ H D I hq=>h pins s σ H D I (w _ _ _ hq)
def pj:FS:=λρ=>some (.nx ρ)
noncomputable def oI(f g:FS):FS:=λρ=>match f ρ with
 |some (.nx ρ')=>g ρ'
 |r=>r
variable{σ:St}{st:Stmt}{tg:Expr}{gs:List D->List Sl->Option (List Sl)}{N:List Str}{vs:List V}{np:Nat}
section
variable{X:Cx}{G:Bg}
theorem P8{E:Ends}{H:Hp}(h:tFS G pj E σ H):E.nx σ H:=by obtain⟨F,ρ,H0,o,R,e,k,_⟩:=h;cases e;exact k _ _ _ (oM.refl _) R
theorem MZ:PSs X [] (tFS G pj):=PSs.weak Mj λE σ H h=>P8 h
theorem J4{rest:List Stmt}{f g:FS}(h1:PS X st (tFS G f))(h2:PSs X rest (tFS G g)):PSs X (st::rest) (tFS G (oI f g)):=PSs.weak (xW h1 h2) λE σ H h=>by
 obtain⟨F,ρ,H0,o,R,e,k,k2⟩:=h;unfold oI at e;cases e1:f ρ with
 |none=>simp only[e1]at e;cases e
 |some o1=>
  cases o1 with
  |nx ρ1=>simp only[e1]at e;exact⟨F,ρ,H0,_,R,e1,λσ' H0' H' s R'=>⟨F,ρ1,H0',o,R',e,k.back s,k2⟩,k2⟩
  |bk ρ1=>simp only[e1]at e;cases e;exact⟨F,ρ,H0,_,R,e1,k,k2⟩
  |ct ρ1=>simp only[e1]at e;cases e;exact⟨F,ρ,H0,_,R,e1,k,k2⟩
  |rt d ρ1=>simp only[e1]at e;cases e;exact⟨F,ρ,H0,_,R,e1,k,k2⟩
  |rn d ρ1=>simp only[e1]at e;cases e;exact⟨F,ρ,H0,_,R,e1,k,k2⟩
theorem M0{f:FS}(h1:PS X st (tFS G f)):PSs X [st] (tFS G f):=zX h1
noncomputable def pb(f:FE):FS:=λρ=>match f ρ with
 |some (d,ρ')=>some (.rt d ρ')
 |none=>none
noncomputable def qw(f:FA):FS:=λρ=>match f ρ with
 |some (d,ρ')=>some (.rn d ρ')
 |none=>none
theorem oY{α:Type}{f:List Sl->Option (α×List Sl)}:f ρ=none\/∃d ρ',f ρ=some (d,ρ'):=by
 cases e:f ρ with
 |none=>exact .inl rfl
 |some p=>exact .inr ⟨p.1,p.2,rfl⟩
theorem M3(h:PE X e (tF G f)):PS X (.Return (some e) pos) (tFS G (pb f)):=PS.weak (CV h) λE σ H hh=>by
 obtain⟨F,ρ,H0,o,R,e,k,k2⟩:=hh;unfold pb at e;rcases oY (f:=f) (ρ:=ρ)with e1|⟨d,ρ',e1⟩<;>simp only[e1]at e
 ·cases e
 ·cases e;exact⟨F,ρ,H0,d,ρ',R,e1,λv H0' H' s R' r=>k _ _ _ _ s R' r⟩
theorem J5{f:FA}(h:PE X e (tFN G f)):PS X (.Return (some e) pos) (tFS G (qw f)):=PS.weak (CV h) λE σ H hh=>by
 obtain⟨F,ρ,H0,o,R,e,k,k2⟩:=hh;unfold qw at e;rcases oY (f:=f) (ρ:=ρ)with e1|⟨d,ρ',e1⟩<;>simp only[e1]at e
 ·cases e
 ·cases e;exact⟨F,ρ,H0,d,ρ',R,e1,λp xs H0' H' s R' h1 h2 h3 h4 h5=>k _ _ _ _ _ s R' h1 h2 h3 h4 h5⟩
noncomputable def pd(f:FE):FS:=λρ=>match f ρ with
 |some (_,ρ')=>some (.nx ρ')
 |none=>none
theorem J6(h:PE X e (tF G f))(hs:cn e none pos.line X.env=pure false:=by rfl):PS X (.Expr e pos) (tFS G (pd f)):=PS.weak (Gk h hs) λE σ H hh=>by
 obtain⟨F,ρ,H0,o,R,e,k,k2⟩:=hh;unfold pd at e;rcases oY (f:=f) (ρ:=ρ)with e1|⟨d,ρ',e1⟩<;>simp only[e1]at e
 ·cases e
 ·cases e;exact⟨F,ρ,H0,d,ρ',R,e1,λv H0' H' s R' r=>k _ _ _ s R'⟩
noncomputable def sIf(c:FT) (f g:FS):FS:=λρ=>match c ρ with
 |some (true,ρ')=>f ρ'
 |some (false,ρ')=>g ρ'
 |none=>none
theorem P9{c:Expr}{a b:List Stmt}{h:FT}{f g:FS}(hc:PT X c (tFT G h))(ha:PSs X a (tFS G f))(hb:PSs X b (tFS G g)):PS X (.If c a b pos) (tFS G (sIf h f g)):=PS.weak (Tb hc ha hb) λE σ H hh=>by
 obtain⟨F,ρ,H0,o,R,e,k,k2⟩:=hh;unfold sIf at e;rcases oY (f:=h) (ρ:=ρ)with e1|⟨d,ρ',e1⟩
 ·simp only[e1]at e;cases e
 ·refine⟨F,ρ,H0,d,ρ',R,e1,λH0' H' s R'=>?_⟩;cases d with
  |true=>simp only[e1]at e;exact D5 ⟨F,ρ',H0',o,R',e,k.back s,k2⟩
  |false=>simp only[e1]at e;exact D4 ⟨F,ρ',H0',o,R',e,k.back s,k2⟩
abbrev FG:=D->List Sl->Option (List Sl)
def tFG(G:Bg)(n:Nat)(g:FG):TG:=λv σ H Q=>∃F ρ H0 d ρ',RelE G F σ ρ H0 H/\Rep G H0 d v/\g d ρ=some ρ'/\∀σ',σ'.drop n=σ.drop n->RelE G F σ' ρ' H0 H->Q σ' H
def J7(G:Bg)(n:Nat)(g:List D->List Sl->Option (List Sl)):TGs:=λvs σ H Q=>∃F ρ H0 ds ρ',RelE G F σ ρ H0 H/\Reps G H0 ds vs/\g ds ρ=some ρ'/\∀σ',σ'.drop n=σ.drop n->RelE G F σ' ρ' H0 H->Q σ' H
theorem PG.weak{t t':TG}(h:PG X e t)(w:∀v σ H Q,t' v σ H Q->t v σ H Q):PG X e t':=λpins s σ H x u Q I r hq=>h pins s σ H x u Q I r (w _ _ _ _ hq)
theorem PGs.weak{e:List Expr}{t t':TGs}(h:PGs X e t)(w:∀v σ H Q,t' v σ H Q->t v σ H Q):PGs X e t':=λpins s σ H x u Q I r hq=>h pins s σ H x u Q I r (w _ _ _ _ hq)
def gN(i:Nat):FG:=λd ρ=>some (ρ.set i (.im d))
theorem Ec{α:Type}{l:List α}{n:Nat}{x:α}(h:i<n):(l.set i x).drop n=l.drop n:=by apply j6;intro j;rw[cZ,cZ,bo,ai (by omega)]
theorem J8(n:Nat)(h:PG X tg (sZ i))(hi:i<n):PG X tg (tFG G n (gN i)):=PG.weak h λv σ H Q hh=>by obtain⟨F,ρ,H0,d,ρ',R,r,e,k⟩:=hh;cases e;exact k _ (Ec hi) (R.setIm i r)
def qZ:List D->List Sl->Option (List Sl):=λds ρ=>match ds with
 |[]=>some ρ
 |_=>none
def oX(g:FG)(gs:List D->List Sl->Option (List Sl)):List D->List Sl->Option (List Sl):=λds ρ=>match ds with
 |d::r=>match g d ρ with
  |some ρ'=>gs r ρ'
  |none=>none
 |[]=>none
theorem M4{n:Nat}(h:PGs X [] Pg):PGs X [] (J7 G n qZ):=PGs.weak h λv σ H Q hh=>by
 obtain⟨F,ρ,H0,ds,ρ',R,r,e,k⟩:=hh;cases ds with
 |nil=>cases e;unfold Reps at r;exact⟨r,k _ rfl R⟩
 |cons d ds=>cases e
theorem J9{n:Nat}{g:FG}(h:PGs X (e::es) (Gp (tFG G n g) (J7 G n gs))):PGs X (e::es) (J7 G n (oX g gs)):=PGs.weak h λv σ H Q hh=>by
 obtain⟨F,ρ,H0,ds,ρ',R,r,e,k⟩:=hh;cases ds with
 |nil=>cases e
 |cons d ds=>
  unfold Reps at r;obtain⟨v1,r1,rfl,q1,q2⟩:=r;unfold oX at e;cases e1:g d ρ with
  |none=>simp only[e1]at e;cases e
  |some ρ1=>simp only[e1]at e;exact⟨v1,r1,rfl,F,ρ,H0,d,ρ1,R,q1,e1,λσ' s R'=>⟨F,ρ1,H0,ds,ρ',R',q2,e,λσ'' s' R''=>k _ (s'.trans s) R''⟩⟩
def gT(gs:List D->List Sl->Option (List Sl))(n:Nat):FG:=λd ρ=>match d with
 |.tup ds=>if ds.length=n then gs ds ρ else none
 |_=>none
theorem M5{n m:Nat}{k:Nat}(h:PG X (.Tuple es k pos) (Ml G.K m (J7 G n gs))):PG X (.Tuple es k pos) (tFG G n (gT gs m)):=PG.weak h λv σ H Q hh=>by
 obtain⟨F,ρ,H0,d,ρ',R,r,e,k⟩:=hh;cases d with
 |tup ds=>
  unfold gT at e;simp only at e;split at e
  ·rename_i hl;unfold Rep at r;obtain⟨a,xs,rfl,h1,h2⟩:=r;exact⟨a,xs,rfl,SqT.mono R.sub h1,by rw[<-oG h2];exact hl,F,ρ,H0,ds,ρ',R,h2,e,k⟩
  ·cases e
 |_=>cases e
def px(i:Nat)(f:FE):FS:=λρ=>match f ρ with
 |some (d,ρ')=>some (.nx (ρ'.set i (.im d)))
 |none=>none
theorem GO(h:PS X st (xX (tF G f) (sZ i))):PS X st (tFS G (px i f)):=PS.weak h λE σ H hh=>by
 obtain⟨F,ρ,H0,o,R,e,k,k2⟩:=hh;unfold px at e;rcases oY (f:=f) (ρ:=ρ)with e1|⟨d,ρ',e1⟩<;>simp only[e1]at e
 ·cases e
 ·cases e;exact⟨F,ρ,H0,d,ρ',R,e1,λv H0' H' s R' r=>k _ _ _ s (R'.setIm i r)⟩
def rQ(i:Nat)(f:FA):FS:=λρ=>match f ρ with
 |some (d,ρ')=>some (.nx (ρ'.set i (.ls d)))
 |none=>none
theorem Ed{f:FA}(h:PS X st (xX (tFN G f) (sZ i))):PS X st (tFS G (rQ i f)):=PS.weak h λE σ H hh=>by
 obtain⟨F,ρ,H0,o,R,e,k,k2⟩:=hh;unfold rQ at e;rcases oY (f:=f) (ρ:=ρ)with e1|⟨d,ρ',e1⟩<;>simp only[e1]at e
 ·cases e
 ·cases e;exact⟨F,ρ,H0,d,ρ',R,e1,λp xs H0' H' s R' h1 h2 h3 h4 h5=>k _ _ _ s (R'.setLs i h1 h2 h3 h4 h5)⟩
def stE(n:Nat)(ds:List D):List Sl:=ds.map Sl.im++fq (n - ds.length) .un
def fnD(np n:Nat)(f:FS):List D->Option D:=λds=>if ds.length=np then match f (stE n ds)with
 |some (.rt d _)=>some d
 |some (.rn ds _)=>some (.lst ds)
 |some (.nx _)=>some .non
 |_=>none
 else none
def fnN(np n:Nat)(f:FS):List D->Option (List D):=λds=>if ds.length=np then match f (stE n ds)with
 |some (.rn ds _)=>some ds
 |_=>none
 else none
def spF(G:Bg)(g:List D->Option D):Sp:=λvs H Q _=>∃H0 ds d,oM H0 H/\Reps G H0 ds vs/\g ds=some d/\
 ∀v H0' H',oM H0 H0'->oM H0' H'->oM H H'->(∀b o,H0' b=some o->H0 b=some o\/H b=none)->Rep G H0' d v->Q v H'
def spN(G:Bg)(g:List D->Option (List D)):Sp:=λvs H Q _=>∃H0 ds d,oM H0 H/\Reps G H0 ds vs/\g ds=some d/\
 ∀p xs H0' H',oM H0 H0'->oM H0' H'->oM H H'->(∀b o,H0' b=some o->H0 b=some o\/H b=none)->H p=none->H' p=some (.lst xs)->H0' p=none->Reps G H0' d xs->Q (.ref p) H'
theorem z9{n:Nat}{s:Sl}(h:(stE n ds)[i]?=some s):s=.un\/∃d,ds[i]?=some d/\s=.im d:=by
 unfold stE at h;by_cases hi:i<ds.length
 ·rw[cK (by simpa using hi),aW,aH hi]at h;cases h;exact .inr ⟨_,aH hi,rfl⟩
 ·rw[cJ (by simpa using hi),eI]at h;split at h
  ·cases h;exact .inl rfl
  ·cases h
theorem sj{v:V}(h:vs[i]?=some v):((L2.start N vs)[i]?).join=some v:=by unfold L2.start;have hi:=(bt.mp h).1;rw[cK (by simpa using hi),aW,h];rfl
theorem yP{H:Hp}(s:oM H0 H)(r:Reps G H0 ds vs)(hl:vs.length<=N.length):RelE G ⟨H0,H,[]⟩ (L2.start N vs) (stE N.length ds) H0 H where
 sub:=s
 g0:=oM.refl _
 keep:=λb o e _=>e
 fr:=λb o e=>.inl e
 am:=λa h=>by cases h
 len:=by unfold L2.start stE;rw[aI,aI,ah,ah,bO,bO,oG r]
 sl:=λi t e=>by
  rcases z9 e with rfl|⟨d,e1,rfl⟩
  ·trivial
  ·obtain⟨v,e2,e3⟩:=p5 r e1;exact⟨v,sj e2,e3⟩
 ap:=λi j t u a _ e _ ht=>by rcases z9 e with rfl|⟨d,_,rfl⟩<;>cases ht
theorem Ee{n:Nat}{f:FS}(h:fnD np n f ds=some d):ds.length=np/\((∃ρ,f (stE n ds)=some (.rt d ρ))\/(∃xs ρ,f (stE n ds)=some (.rn xs ρ)/\d=.lst xs)\/∃ρ,f (stE n ds)=some (.nx ρ)/\d=.non):=by
 unfold fnD at h;split at h
 ·rename_i hl;refine⟨hl,?_⟩;split at h
  ·rename_i e;cases h;exact .inl ⟨_,e⟩
  ·rename_i e;cases h;exact .inr (.inl ⟨_,_,e,rfl⟩)
  ·rename_i e;cases h;exact .inr (.inr ⟨_,e,rfl⟩)
  ·cases h
 ·cases h
theorem Ef{n:Nat}{f:FS}{xs:List D}(h:fnN np n f ds=some xs):ds.length=np/\∃ρ,f (stE n ds)=some (.rn xs ρ):=by
 unfold fnN at h;split at h
 ·rename_i hl;refine⟨hl,?_⟩;split at h
  ·rename_i e;cases h;exact⟨_,e⟩
  ·cases h
 ·cases h
end
variable{E:XK}
theorem M6{f:FS}{H:Hp}{Q:VK}(hN:np<=N.length)(h:spF G (fnD np N.length f) vs H Q E):tFS G f { nx:=λ_ H'=>Q .non H',rt:=Q } (L2.start N vs) H:=by
 obtain⟨H0,ds,d,s,r,e,k⟩:=h;obtain⟨hl,e'⟩:=Ee e;clear e;have R:=yP (N:=N) s r (by rw[<-oG r,hl];exact hN);have fin:∀{σ':St} {ρ':List Sl} {H0' H':Hp},RelE G ⟨H0,H,[]⟩ σ' ρ' H0' H'->oM H H'/\oM H0' H'/\∀b o,H0' b=some o->H0 b=some o\/H b=none:=λR'=>⟨λb o e=>R'.keep b o e (by simp),R'.sub,R'.fr⟩;rcases e' with ⟨ρ,e⟩|⟨xs,ρ,e,rfl⟩|⟨ρ,e,rfl⟩
 ·refine⟨_,_,H0,_,R,e,λv σ' H0' H' s' R' rv=>?_,λ_=>rfl⟩;obtain⟨h1,h2,h3⟩:=fin R';exact k v H0' H' s' h2 h1 h3 rv
 ·refine⟨_,_,H0,_,R,e,λp ys σ' H0' H' s' R' hp h0 hb ap rs=>?_,λ_=>rfl⟩;have R2:=R'.freeze hp h0 hb ap;obtain⟨h1,h2,h3⟩:=fin R2;exact k _ _ H' (s'.trans (oP h0 _)) h2 h1 h3 (ud oH (Reps.mono (oP h0 _) _ _ rs))
 ·refine⟨_,_,H0,_,R,e,λσ' H0' H' s' R'=>?_,λ_=>rfl⟩;obtain⟨h1,h2,h3⟩:=fin R';exact k _ H0' H' s' h2 h1 h3 wK
theorem M7{f:FS}{H:Hp}{Q:VK}(hN:np<=N.length)(h:spN G (fnN np N.length f) vs H Q E):tFS G f { nx:=λ_ H'=>Q .non H',rt:=Q } (L2.start N vs) H:=by obtain⟨H0,ds,d,s,r,e,k⟩:=h;obtain⟨hl,ρ,e⟩:=Ef e;have R:=yP (N:=N) s r (by rw[<-oG r,hl];exact hN);refine⟨_,_,H0,_,R,e,λp ys σ' H0' H' s' R' hp h0 hb ap rs=>?_,λ_=>rfl⟩;exact k p ys H0' H' s' R'.sub (λb o e=>R'.keep b o e (by simp)) R'.fr hb hp h0 rs
theorem TR{g:List D->Option D}(hg:∀ds d,g ds=some d->ds.length=np):∀vs H Q E,spF G g vs H Q E->vs.length=np:=λvs H Q E h=>by obtain⟨H0,ds,d,_,r,e,_⟩:=h;rw[<-oG r];exact hg _ _ e
theorem TU{g:List D->Option (List D)}(hg:∀ds d,g ds=some d->ds.length=np):∀vs H Q E,spN G g vs H Q E->vs.length=np:=λvs H Q E h=>by obtain⟨H0,ds,d,_,r,e,_⟩:=h;rw[<-oG r];exact hg _ _ e
theorem M8{n:Nat}{f:FS}:∀ds d,fnD np n f ds=some d->ds.length=np:=λ_ _ h=>(Ee h).1
theorem M9{n:Nat}{f:FS}:∀ds d,fnN np n f ds=some d->ds.length=np:=λ_ _ h=>(Ef h).1
def yQ{α:Type}(g:List D->Option α)(a:FA):List Sl->Option (α×List Sl):=λρ=>match a ρ with
 |some (ds,ρ')=>match g ds with
  |some d=>some (d,ρ')
  |none=>none
 |none=>none
abbrev oE(g:List D->Option D)(a:FA):FE:=yQ g a
abbrev pP(g:List D->Option (List D))(a:FA):FA:=yQ g a
theorem xE{α:Type}{g:List D->Option α}{a:FA}{d:α}(h:yQ g a ρ=some (d,ρ')):∃ds,a ρ=some (ds,ρ')/\g ds=some d:=by
 unfold yQ at h;rcases oY (f:=a) (ρ:=ρ)with e1|⟨ds,ρ1,e1⟩<;>simp only[e1]at h
 ·cases h
 ·cases e2:g ds with
  |none=>simp only[e2]at h;cases h
  |some x=>simp only[e2]at h;cases h;exact⟨ds,e1,e2⟩
variable{dvs:List V}{dds:List D}
section
variable{X:Cx}{G:Bg}
theorem Na{g:List D->Option D}{a:FA}(hd:∀H,Reps G H dds dvs):∀σ H Q,tF G (oE (λds=>g (ds++dds)) a) σ H Q->xc (spF G g) dvs E (tFA G a) σ H Q:=λσ H Q hh=>by obtain⟨F,ρ,H0,d,ρ',R,e,k⟩:=hh;obtain⟨ds,e1,e2⟩:=xE e;refine⟨F,ρ,H0,ds,ρ',R,e1,λxs H1 H1' s R' rs=>⟨H1,ds++dds,d,R'.sub,qu rs (hd _),e2,λv H2 H2' s1 s2 s3 fr rv=>?_⟩⟩;exact k v H2 H2' (s.trans s1) (R'.grow s3 s1 s2 fr) rv
theorem Nc{g:List D->Option (List D)}{a:FA}(hd:∀H,Reps G H dds dvs):∀σ H Q,tFN G (pP (λds=>g (ds++dds)) a) σ H Q->xc (spN G g) dvs E (tFA G a) σ H Q:=λσ H Q hh=>by obtain⟨F,ρ,H0,d,ρ',R,e,k⟩:=hh;obtain⟨ds,e1,e2⟩:=xE e;refine⟨F,ρ,H0,ds,ρ',R,e1,λxs H1 H1' s R' rs=>⟨H1,ds++dds,d,R'.sub,qu rs (hd _),e2,λp ys H2 H2' s1 s2 s3 fr hn hp h0 rv=>?_⟩⟩;exact k p ys H2 H2' (s.trans s1) (R'.grow s3 s1 s2 fr) hp h0 (R'.bNone hn) (R'.apart hn) rv
end
variable{ff:FE}{m:Str}{ta:TE}{apos:Pos}{c:Nat}
section
variable{X:Cx}{G:Bg}
theorem Nd{g:List D->Option D}{a:FA}(hd:∀H,Reps G H dds dvs)(h:PE X e (xc (spF G g) dvs E (tFA G a))):PE X e (tF G (oE (λds=>g (ds++dds)) a)):=PE.weak h (Na hd)
theorem Ka{g:List D->Option (List D)}{a:FA}(hd:∀H,Reps G H dds dvs)(h:PE X e (xc (spN G g) dvs E (tFA G a))):PE X e (tFN G (pP (λds=>g (ds++dds)) a)):=PE.weak h (Nc hd)
theorem Ie{g:List D->Option (List D)}(h:PE X e (xc (spN G g) [] E DU)):PE X e (tFN G (pP g ox)):=PE.weak h λσ H Q hh=>by obtain⟨F,ρ,H0,d,ρ',R,e,k⟩:=hh;obtain⟨ds,e1,e2⟩:=xE e;cases e1;exact⟨H0,[],d,R.sub,o7,e2,λp ys H2 H2' s1 s2 s3 fr hn hp h0 rv=>k p ys H2 H2' s1 (R.grow s3 s1 s2 fr) hp h0 (R.bNone hn) (R.apart hn) rv⟩
def Ig:List Str->List D->Str->Option D
 |n::ns,d::ds,f=>if n=f then some d else Ig ns ds f
 |_,_,_=>none
theorem Ce{H:Hp}:∀{ns:List Str} {ds:List D} {xs:List V} {f:Str} {d:D},Reps G H ds xs->Ig ns ds f=some d->∃v,(ns.zip xs).lookup f=some v/\Rep G H d v
 |[],ds,xs,f,d,r,e=>by simp[Ig]at e
 |n::ns,[],xs,f,d,r,e=>by simp[Ig]at e
 |n::ns,d'::ds,xs,f,d,r,e=>by
  unfold Reps at r;obtain⟨v,q,rfl,h1,h2⟩:=r;unfold Ig at e;by_cases hn:n=f
  ·rw[aj hn]at e;cases e;subst hn;exact⟨v,by simp[cj],h1⟩
  ·rw[ai hn]at e;obtain⟨w,e1,e2⟩:=Ce h2 e;refine⟨w,?_,e2⟩;have hb:(f==n)=false:=beq_eq_false_iff_ne.mpr λz=>hn z.symm;simp only[cM,cj,hb];exact e1
def oW(ok:Nat->Bool)(f:Str):D->Option D
 |.obj c ns ds=>if ok c=true then Ig ns ds f else none
 |_=>none
theorem Kb{f:Str}{ok:Nat->Bool}(he:PE X e (tF G ff))(hc:∀c,ok c=true->Cls X.K (G.ca c)/\tG X.K (G.ca c) f)(hb:cy e f X.env (eval e X.env)=eval e X.env:=by rfl):PE X (.Attribute e f pos) (tF G (c1 (oW ok f) ff)):=PE.weak (Px he hb) λσ H Q hh=>by
 obtain⟨F,ρ,H0,d,ρ',R,e,k⟩:=hh;obtain⟨x,e1,e2⟩:=z8 e;cases x with
 |obj c ns ds=>
  unfold oW at e2;simp only at e2;split at e2
  ·rename_i hk;refine⟨F,ρ,H0,_,ρ',R,e1,λv H1 H1' s R' r=>?_⟩;unfold Rep at r;obtain⟨a,dx,xs,rfl,h1,h2,h3⟩:=r;obtain⟨w,l1,l2⟩:=Ce h3 e2;exact⟨a,_,dx,_,w,rfl,R'.sub _ _ h1,(hc c hk).1,(hc c hk).2,l1,k _ _ _ s R' l2⟩
  ·cases e2
 |_=>cases e2
def MOk(X:Cx)(C:Addr)(m:Str)(sp:Sp)(dvs:List V)(E:XK):Prop:=∃(k:Nat) (f:Addr) (fd:bb) (ps:List Str) (ds:List aa),Cls X.K C/\Meth X.K C m f/\se X.prog X.w X.K X.mg X.base CX0 k f fd ps sp/\pW k X.A/\Binds X.K fd ps ds/\Vals dvs ds/\Passes CX0 X E
def pE(g:Nat->Option (List D->Option D))(m:Str)(f:FE)(a:FA):FE:=λρ=>match f ρ with
 |some (.obj c ns ds,ρ1)=>match g c with
  |some h=>if ns.contains m=true then none else match a ρ1 with
   |some (es,ρ2)=>match h (.obj c ns ds::es)with
    |some d=>some (d,ρ2)
    |none=>none
   |none=>none
  |none=>none
 |_=>none
theorem AC{g:Nat->Option (List D->Option D)}{a:FA}(h:pE g m f a ρ=some (d,ρ')):
  ∃c ns ds ρ1 hh es,f ρ=some (.obj c ns ds,ρ1)/\g c=some hh/\ns.contains m=false/\a ρ1=some (es,ρ')/\hh (.obj c ns ds::es)=some d:=by
 unfold pE at h;split at h
 ·rename_i c ns ds ρ1 e1;cases e2:g c with
  |none=>simp only[e2]at h;cases h
  |some hh=>
   simp only[e2]at h;cases e3:ns.contains m with
   |true=>simp only[e3,if_true]at h;cases h
   |false=>
    simp only[e3,dQ,if_false]at h;rcases oY (f:=a) (ρ:=ρ1)with e4|⟨es,ρ2,e4⟩<;>simp only[e4]at h
    ·cases h
    ·cases e5:hh (.obj c ns ds::es)with
     |none=>simp only[e5]at h;cases h
     |some x=>simp only[e5]at h;cases h;exact⟨c,ns,ds,ρ1,hh,es,e1,e2,e3,e4,e5⟩
 ·cases h
theorem xF{m:Str}:∀{ns:List Str} {xs:List V},ns.contains m=false->(ns.zip xs).lookup m=none
 |[],xs,h=>rfl
 |n::ns,[],h=>rfl
 |n::ns,x::xs,h=>by rw[jW,ik]at h;simp only[cM,cj,h.1];exact xF h.2
theorem Kc{o:Expr}{t:TA}{pl:Sem Bool}(T:Addr->Sp->Prop)(hT:∀C sp,T C sp->MOk X C m sp dvs E)(he:PE X o ta)(ha:PA X (e::es) t)
  (hst:ar (e::es) X.env=(false,eval e X.env)::ar es X.env:=by rfl) (hpl:(aV pos (ar es X.env)).any (·.1)=false:=by rfl)
  (ht:eval (.Call (.Attribute o m apos) (e::es) [] pos) X.env=(do
   let ov<-eval o X.env
   standAt apos.atName
   let (f,first)<-holding [ov] (getMethod ov m pl)
   callWith pos f first (aV pos (ar (e::es) X.env)) (backToKw pos (cE [] X.env))):=by rfl):
  PE X (.Call (.Attribute o m apos) (e::es) [] pos) (λσ H Q=>ta σ H λx H1=>∃a C dx fs sp,x=.ref a/\H1 a=some (.ins C dx fs)/\T C sp/\fs.lookup m=none/\t σ H1 λvs H2=>sp (x::(vs++dvs)) H2 Q E):=by
 intro pins s σ H Q I h;refine kO (pl:=pl) (thn (he pins s σ H _ I h) λu s1 zz=>?_) ht;obtain⟨x,H1,I1,rx,a,C,dx,fs,sp,ex,ea,ht,l,q⟩:=zz;obtain⟨k,f,fd,ps,ds,c,hm,F,hr,hb,hd,hx⟩:=hT C sp ht;subst ex;obtain rfl:u=Value.ref a:=rx;refine Am I1 ea c hm l ?_;refine iN (first:=[.ref a]) (h₀:=X.base) I.ok.mod.kin hm.kp (thn (ha pos pins s1 σ H1 _ I1 q) λus s2 ⟨vs,H2,I2,r,q2⟩=>⟨I2.kIn,?_⟩) hst hpl;exact CW (us:=.ref a::us) (vs:=.ref a::vs) F hr hb hd hx I2 (.cons rfl r) q2
theorem Ih{o:Expr}{pl:Sem Bool}(T:Addr->Sp->Prop)(hT:∀C sp,T C sp->MOk X C m sp dvs E)(he:PE X o ta)
  (ht:eval (.Call (.Attribute o m apos) [] [] pos) X.env=(do
   let ov<-eval o X.env
   standAt apos.atName
   let (f,first)<-holding [ov] (getMethod ov m pl)
   callWith pos f first (aV pos (ar [] X.env)) (backToKw pos (cE [] X.env))):=by rfl):
  PE X (.Call (.Attribute o m apos) [] [] pos) (λσ H Q=>ta σ H λx H1=>∃a C dx fs sp,x=.ref a/\H1 a=some (.ins C dx fs)/\T C sp/\fs.lookup m=none/\sp (x::dvs) H1 Q E):=by
 intro pins s σ H Q I h;refine kO (pl:=pl) (thn (he pins s σ H _ I h) λu s1 zz=>?_) ht;obtain⟨x,H1,I1,rx,a,C,dx,fs,sp,ex,ea,ht,l,q⟩:=zz;obtain⟨k,f,fd,ps,ds,c,hm,F,hr,hb,hd,hx⟩:=hT C sp ht;subst ex;obtain rfl:u=Value.ref a:=rx;refine Am I1 ea c hm l ?_;exact lG (first:=[.ref a]) I1.kIn hm.kp (CW (us:=[.ref a]) (vs:=[.ref a]) F hr hb hd hx I1 (.cons rfl .nil) q)
def MT(G:Bg)(g:Nat->Option (List D->Option D)):Addr->Sp->Prop:=λC sp=>∃c h,g c=some h/\C=G.ca c/\sp=spF G h
theorem Nf{o:Expr}{a:FA}{g:Nat->Option (List D->Option D)}(h:PE X (.Call (.Attribute o m apos) (e::es) [] pos) (λσ H Q=>tF G f σ H λx H1=>∃a' C dx fs sp,x=.ref a'/\H1 a'=some (.ins C dx fs)/\MT G g C sp/\fs.lookup m=none/\tFA G a σ H1 λvs H2=>sp (x::(vs++[])) H2 Q E)):
  PE X (.Call (.Attribute o m apos) (e::es) [] pos) (tF G (pE g m f a)):=PE.weak h λσ H Q hh=>by
 obtain⟨F,ρ,H0,d,ρ',R,e,k⟩:=hh;obtain⟨c,ns,ds,ρ1,hh,es',e1,e2,e3,e4,e5⟩:=AC e;refine⟨F,ρ,H0,_,ρ1,R,e1,λv H1 H1' s R' r=>?_⟩;have r0:=r;unfold Rep at r;obtain⟨a',dx,xs,rfl,h1,h2,h3⟩:=r;refine⟨a',_,dx,_,_,rfl,R'.sub _ _ h1,⟨c,hh,e2,rfl,rfl⟩,xF e3,F,ρ1,H1,es',ρ',R',e4,λys H2 H2' s2 R2 rs=>?_⟩;show spF G hh (V.ref a'::(ys++[])) H2' Q E;rw[br];exact⟨H2,_,d,R2.sub,o6 (Rep.mono s2 _ _ r0) rs,e5,λv H3 H3' t1 t2 t3 fr rv=>k v H3 H3' (s.trans (s2.trans t1)) (R2.grow t3 t1 t2 fr) rv⟩
theorem Ke{o:Expr}{g:Nat->Option (List D->Option D)}(h:PE X (.Call (.Attribute o m apos) [] [] pos) (λσ H Q=>tF G f σ H λx H1=>∃a' C dx fs sp,x=.ref a'/\H1 a'=some (.ins C dx fs)/\MT G g C sp/\fs.lookup m=none/\sp (x::[]) H1 Q E)):
  PE X (.Call (.Attribute o m apos) [] [] pos) (tF G (pE g m f ox)):=PE.weak h λσ H Q hh=>by
 obtain⟨F,ρ,H0,d,ρ',R,e,k⟩:=hh;obtain⟨c,ns,ds,ρ1,hh,es',e1,e2,e3,e4,e5⟩:=AC e;cases e4;refine⟨F,ρ,H0,_,_,R,e1,λv H1 H1' s R' r=>?_⟩;have r0:=r;unfold Rep at r;obtain⟨a',dx,xs,rfl,h1,h2,h3⟩:=r;refine⟨a',_,dx,_,_,rfl,R'.sub _ _ h1,⟨c,hh,e2,rfl,rfl⟩,xF e3,?_⟩;exact⟨H1,_,d,R'.sub,o6 r0 o7,e5,λv H3 H3' t1 t2 t3 fr rv=>k v H3 H3' (s.trans t1) (R'.grow t3 t1 t2 fr) rv⟩
def spI(G:Bg)(c:Nat)(g:List D->Option (List Str×List D)):Sp:=λvs H Q _=>∃(p dx:Addr) (us:List V) (H0:Hp) (ds:List D) (ns:List Str) (es:List D),vs=.ref p::us/\H p=some (.ins (G.ca c) dx [])/\H0 p=none/\oM H0 H/\Reps G H0 ds us/\g ds=some (ns,es)/\
 ∀ys dx' H0' H',oM H0 H0'->oM H0' H'->(∀b o,H b=some o->b≠p->H' b=some o)->(∀b o,H0' b=some o->H0 b=some o\/H b=none)->H0' p=none->H' p=some (.ins (G.ca c) dx' (ns.zip ys))->ns.length=ys.length->Reps G H0' es ys->Q .non H'
def pA(c:Nat)(g:List D->Option (List Str×List D))(a:FA):FE:=λρ=>match a ρ with
 |some (ds,ρ')=>match g ds with
  |some (ns,es)=>some (.obj c ns es,ρ')
  |none=>none
 |none=>none
theorem Ng{g:List D->Option (List Str×List D)}{a:FA}(hd:∀H,Reps G H dds dvs)(h:PE X e (OL (G.ca c) (spI G c g) dvs E (tFA G a))):PE X e (tF G (pA c (λds=>g (ds++dds)) a)):=PE.weak h λσ H Q hh=>by
 obtain⟨F,ρ,H0,d,ρ',R,e,k⟩:=hh;unfold pA at e;rcases oY (f:=a) (ρ:=ρ)with e1|⟨ds,ρ1,e1⟩<;>simp only[e1]at e
 ·cases e
 ·cases e2:g (ds++dds)with
  |none=>simp only[e2]at e;cases e
  |some q=>
   obtain⟨ns,es⟩:=q;simp only[e2]at e;cases e;refine⟨F,ρ,H0,ds,ρ',R,e1,λxs H1 H1' s R' rs x dx hx hdx ne=>?_⟩;have hx2:(upd H1' dx (.own x)) x=none:=by rw[oF (λz=>ne z.symm)];exact hx
   have sx:oM H1' (upd (upd H1' dx (.own x)) x (.ins (G.ca c) dx [])):=(oP hdx _).trans (oP hx2 _);refine⟨x,dx,_,H1,ds++dds,ns,es,rfl,oH,R'.h0none hx,R'.sub.trans sx,qu rs (hd _),e2,λys dx' H2 H2' t1 t2 t3 fr h0 hp hl ry=>⟨rfl,?_⟩⟩;have t4:oM H1' H2':=λb o e=>t3 b o (sx b o e) (qO e hx);have fr1:∀b o,H2 b=some o->H1 b=some o\/H1' b=none:=λb o e=>by
    rcases fr b o e with q|q
    ·exact .inl q
    ·cases z:H1' b with
     |none=>exact .inr rfl
     |some u=>rw[sx b u z]at q;cases q
   have R2:=R'.grow t4 t1 t2 fr1;have hb:F.B x=none:=R'.bNone hx;have R3:=R2.freeze hp h0 hb (λi t ei to z=>R'.apart hx i t ei to z);refine k _ _ _ (s.trans (t1.trans (oP h0 _))) R3 ?_;unfold Rep;exact⟨x,dx',ys,rfl,oH,hl,Reps.mono (oP h0 _) _ _ ry⟩
def pz(c0:Nat)(i:Nat)(f:Str)(ff:FE):FS:=λρ=>match ff ρ with
 |some (d,ρ1)=>match ρ1[i]? with
  |some (.ob c ns ds)=>if c=c0 then if ns.contains f=true then none else if ds.length=ns.length then if ns.length<900 then some (.nx (ρ1.set i (.ob c (ns++[f]) (ds++[d]))))else none else none else none
  |_=>none
 |none=>none
theorem Eg{f:Str}{v:V}:∀{ns:List Str} {xs:List V},ns.contains f=false->ns.length=xs.length->uL f v (ns.zip xs)=(ns++[f]).zip (xs++[v])
 |[],[],h,l=>rfl
 |[],x::xs,h,l=>by cases l
 |n::ns,[],h,l=>by cases l
 |n::ns,x::xs,h,l=>by
  rw[jW,ik]at h;have hn:¬n=f:=λz=>by rw[z]at h;simp at h
  have ih:=Eg (f:=f) (v:=v) (ns:=ns) (xs:=xs) h.2 (by simpa using l);show uL f v ((n,x)::ns.zip xs)=_;rw[show uL f v ((n,x)::ns.zip xs)=(if n=f then (n,v)::ns.zip xs else (n,x)::uL f v (ns.zip xs)) from rfl,ai hn,ih];rfl
theorem Nh{c0:Nat}{f:Str}(h:PS X st (To X.K (ua i) (tF G ff) f))(hc:Cls X.K (G.ca c0)/\tG X.K (G.ca c0) f):PS X st (tFS G (pz c0 i f ff)):=PS.weak h λE σ H hh=>by
 obtain⟨F,ρ,H0,o,R,e,k,k2⟩:=hh;unfold pz at e;rcases oY (f:=ff) (ρ:=ρ)with e1|⟨d,ρ1,e1⟩<;>simp only[e1]at e
 ·cases e
 ·split at e
  ·rename_i c ns ds e2;split at e
   ·rename_i hcc;subst hcc;split at e
    ·cases e
    rename_i hnc;split at e
    ·rename_i hl;split at e
     ·rename_i h9;cases e;refine⟨F,ρ,H0,d,ρ1,R,e1,λv H1 H1' s R' r=>?_⟩;obtain⟨a,dx,xs,e3,e4,e5,e6,e7,e8⟩:=R'.sl i _ e2;refine⟨_,qv e3,a,_,dx,_,rfl,e4,hc.1,hc.2,by rw[dB];omega,?_⟩;have hnf:ns.contains f=false:=by simpa using hnc
      rw[Eg hnf e7];refine k _ _ _ s (R'.mut e2 rfl e3 (λH' hH=>?_) rfl);exact⟨a,dx,xs++[v],rfl,hH,e5,e6,by rw[aI,aI,e7];rfl,qu e8 (o6 r o7)⟩
     ·cases e
    ·cases e
   ·cases e
  ·cases e
def stI(c n:Nat)(ds:List D):List Sl:=.ob c [] []::stE (n - 1) ds
def fnI(c np n:Nat)(f:FS):List D->Option (List Str×List D):=λds=>if ds.length=np then match f (stI c n ds)with
 |some (.nx ρ)=>match (ρ:List Sl)[0]? with
  |some (Sl.ob c' ns es)=>if c'=c then if ns.length=es.length then some (ns,es)else none else none
  |_=>none
 |_=>none
 else none
theorem AD{n:Nat}{f:FS}{q:List Str×List D}(h:fnI c np n f ds=some q):ds.length=np/\∃ρ,f (stI c n ds)=some (.nx ρ)/\ρ[0]?=some (.ob c q.1 q.2)/\q.1.length=q.2.length:=by
 unfold fnI at h;split at h
 ·rename_i hl;refine⟨hl,?_⟩;split at h
  ·rename_i ρ e;split at h
   ·rename_i c' ns es e2;split at h
    ·rename_i hc;split at h
     ·rename_i h3;subst hc;cases h;exact⟨ρ,e,e2,h3⟩
     ·cases h
    ·cases h
   ·cases h
  ·cases h
 ·cases h
theorem GP{f:FS}{H:Hp}{Q:VK}(hN:np+1<=N.length)(h:spI G c (fnI c np N.length f) vs H Q E):tFS G f { nx:=λ_ H'=>Q .non H',rt:=Q } (L2.start N vs) H:=by
 obtain⟨p,dx,us,H0,ds,ns,es,rfl,hp,h0,s,r,e,k⟩:=h;obtain⟨hl,ρ,e1,e2,e3⟩:=AD e;have hul:us.length=np:=by rw[<-oG r];exact hl
 have gets:∀{i:Nat} {t:Sl},(stI c N.length ds)[i]?=some t->(i=0/\t=.ob c [] [])\/t=.un\/∃(j:Nat) (d:D),i=j+1/\ds[j]?=some d/\t=.im d:=λ{i t} e=>by
  cases i with
  |zero=>cases e;exact .inl ⟨rfl,rfl⟩
  |succ j=>
   have e':(stE (N.length - 1) ds)[j]?=some t:=e;rcases z9 e' with rfl|⟨d,e1,rfl⟩
   ·exact .inr (.inl rfl)
   ·exact .inr (.inr ⟨j,d,rfl,e1,rfl⟩)
 have R:RelE G ⟨H0,H,[p]⟩ (L2.start N (.ref p::us)) (stI c N.length ds) H0 H:={
  sub:=s
  g0:=oM.refl _
  keep:=λb o e _=>e
  fr:=λb o e=>.inl e
  am:=λa ha=>by
   have ea:a=p:=by simpa using ha
   subst ea;exact⟨_,hp⟩
  len:=by unfold L2.start stI stE;simp only[aI,ah,bO,aD];have:=oG r;omega
  sl:=λi t e=>by
   rcases gets e with ⟨rfl,rfl⟩|rfl|⟨j,d,rfl,e1,rfl⟩
   ·exact⟨p,dx,[],sj rfl,hp,h0,by simp,rfl,o7⟩
   ·trivial
   ·obtain⟨v,e2,e3⟩:=p5 r e1;exact⟨v,sj (by simpa using e2),e3⟩
  ap:=λi j t u a hij ei ej ht hu=>by
   rcases gets ei with ⟨rfl,rfl⟩|rfl|⟨_,_,_,_,rfl⟩
   ·rcases gets ej with ⟨rfl,rfl⟩|rfl|⟨_,_,_,_,rfl⟩
    ·exact ao rfl hij
    ·cases hu
    ·cases hu
   ·cases ht
   ·cases ht }
 refine⟨_,_,H0,_,R,e1,λσ' H0' H' s' R'=>?_,λ_=>rfl⟩;obtain⟨a,dx',ys,q1,q2,q3,q4,q5,q6⟩:=R'.sl 0 _ e2;have ea:a=p:=by simpa using q4
 subst ea;exact k ys dx' H0' H' s' R'.sub (λb o e n=>R'.keep b o e (by simpa using n)) R'.fr q3 q2 q5 q6
end
def Sl.L:Sl->Option (List D)
 |.ls ds=>some ds
 |.pm ds=>some ds
 |_=>none
def Sl.putL:Sl->List D->Sl
 |.pm _,ds=>.pm ds
 |_,ds=>.ls ds
theorem Sl.L_own{s:Sl}(h:s.L=some ds):s.own=true:=by cases s<;>first|rfl|cases h
theorem Sl.putL_L{s:Sl}:(s.putL ds).L=some ds:=by cases s<;>rfl
section
variable{G:Bg}{F:Fr}{σ:St}{ρ:List Sl}{H0 H:Hp}
theorem xD.lst{o:Option V}{s:Sl}{ds:List D}(h:xD G F H0 H o s)(e:s.L=some ds):∃a xs,o=some (.ref a)/\H a=some (.lst xs)/\H0 a=none/\Reps G H0 ds xs:=by
 cases s with
 |ls ds'=>cases e;obtain⟨a,xs,h1,h2,h3,h4,h5⟩:=h;exact⟨a,xs,h1,h2,h3,h5⟩
 |pm ds'=>cases e;obtain⟨a,xs,h1,h2,h3,h4,h5⟩:=h;exact⟨a,xs,h1,h2,h3,h5⟩
 |_=>cases e
theorem RelE.mutL(R:RelE G F σ ρ H0 H){s:Sl}{ds':List D}{xs':List V}(hi:ρ[i]?=some s)(hs:s.L=some ds)(ha:(σ[i]?).join=some (.ref a))(r:Reps G H0 ds' xs'):
  RelE G F σ (ρ.set i (s.putL ds')) H0 (upd H a (.lst xs')):=by
 have ok:=R.sl i s hi;rw[ha]at ok;refine R.mut hi (Sl.L_own hs) ha (λH' hH=>?_) (Sl.L_own Sl.putL_L);cases s with
 |ls ds0=>obtain⟨b,xs,h1,h2,h3,h4,h5⟩:=ok;cases h1;exact⟨a,xs',rfl,hH,h3,h4,r⟩
 |pm ds0=>obtain⟨b,xs,h1,h2,h3,h4,h5⟩:=ok;cases h1;exact⟨a,xs',rfl,hH,h3,h4,r⟩
 |_=>cases hs
end
def qz(ρ:List Sl)(i:Nat):Option (List D):=match ρ[i]? with
 |some s=>s.L
 |none=>none
theorem rD(h:qz ρ i=some ds):∃s,ρ[i]?=some s/\s.L=some ds:=by
 unfold qz at h;cases e:ρ[i]? with
 |none=>rw[e]at h;cases h
 |some s=>rw[e]at h;exact⟨s,rfl,h⟩
def putAt(ρ:List Sl)(i:Nat)(ds:List D):List Sl:=match ρ[i]? with
 |some s=>ρ.set i (s.putL ds)
 |none=>ρ
def xG(i:Nat)(f:FE):FE:=λρ=>match qz ρ i with
 |some _=>match f ρ with
  |some (d,ρ1)=>match qz ρ1 i with
   |some ds=>if ds.length<1000 then some (.non,putAt ρ1 i (ds++[d]))else none
   |none=>none
  |none=>none
 |none=>none
section
variable{X:Cx}{G:Bg}
theorem ra{H:Hp}(R:RelE G F σ ρ H0 H)(h:qz ρ i=some ds):∃a xs,σ[i]?=some (some (.ref a))/\H a=some (.lst xs)/\Reps G H0 ds xs/\
  (∀ds' xs',Reps G H0 ds' xs'->RelE G F σ (putAt ρ i ds') H0 (upd H a (.lst xs'))):=by
 obtain⟨s,e1,e2⟩:=rD h;obtain⟨a,xs,e3,e4,e5,e6⟩:=(R.sl i s e1).lst e2;refine⟨a,xs,qv e3,e4,e6,λds' xs' r=>?_⟩;unfold putAt;rw[e1];exact R.mutL e1 e2 e3 r
theorem Ii(h:PE X e (tBM G.K "list" Dg (ua i) (tFA G (aCons f ox)))):PE X e (tF G (xG i f)):=PE.weak h λσ H Q hh=>by
 obtain⟨F,ρ,H0,d,ρ',R,e,k⟩:=hh;unfold xG at e;cases e0:qz ρ i with
 |none=>simp only[e0]at e;cases e
 |some ds0=>
  simp only[e0]at e;rcases oY (f:=f) (ρ:=ρ)with e1|⟨x,ρ1,e1⟩<;>simp only[e1]at e
  ·cases e
  ·cases e2:qz ρ1 i with
   |none=>simp only[e2]at e;cases e
   |some ds=>
    simp only[e2]at e;split at e
    ·rename_i hl;cases e;obtain⟨a,xs,s1,s2,s3,_⟩:=ra R e0;refine⟨.ref a,s1,.inl ⟨rfl,xs,SqL.of s2⟩,F,ρ,H0,[x],ρ1,R,by unfold aCons;rw[e1];rfl,λys H1 H1' s R' rs=>?_⟩;unfold Reps at rs;obtain⟨v,r0,rfl,rv,rn⟩:=rs;unfold Reps at rn;subst rn;obtain⟨a',xs',t1,t2,t3,t4⟩:=ra R' e2;rw[s1]at t1;cases t1;exact⟨a,xs',v,rfl,rfl,t2,by rw[<-oG t3];exact wI (by omega),k _ _ _ s (t4 _ _ (qu t3 (o6 rv o7))) wK⟩
    ·cases e
def Ik(i:Nat):FE:=λρ=>match qz ρ i with
 |some _=>some (.non,putAt ρ i [])
 |none=>none
theorem Kg(h:PE X e (Tu G.K "list" JN (ua i))):PE X e (tF G (Ik i)):=PE.weak h λσ H Q hh=>by
 obtain⟨F,ρ,H0,d,ρ',R,e,k⟩:=hh;unfold Ik at e;cases e0:qz ρ i with
 |none=>simp only[e0]at e;cases e
 |some ds0=>simp only[e0]at e;cases e;obtain⟨a,xs,s1,s2,s3,s4⟩:=ra R e0;exact⟨.ref a,s1,.inl ⟨rfl,xs,SqL.of s2⟩,a,xs,rfl,rfl,s2,k _ _ _ (oM.refl _) (s4 _ _ o7) wK⟩
def GQ(i:Nat):FE:=λρ=>match qz ρ i with
 |some (d::ds)=>some (d,putAt ρ i ds)
 |_=>none
theorem Ni(h:PE X e (tBM G.K "list" JL (ua i) (An (tC (.int 0)) DU))):PE X e (tF G (GQ i)):=PE.weak h λσ H Q hh=>by
 obtain⟨F,ρ,H0,d,ρ',R,e,k⟩:=hh;unfold GQ at e;split at e
 ·rename_i d' ds e0;cases e;obtain⟨a,xs,s1,s2,s3,s4⟩:=ra R e0;unfold Reps at s3;obtain⟨v,r,rfl,r1,r2⟩:=s3;refine⟨.ref a,s1,.inl ⟨rfl,_,SqL.of s2⟩,a,v::r,0,0,v,rfl,rfl,s2,by decide,by decide,?_,rfl,?_⟩
  ·unfold seqIndex?;simp
  ·exact k _ _ _ (oM.refl _) (s4 _ _ r2) r1
 ·cases e
theorem yb{i:Int}(r:Reps G H0 ds xs)(h:atI ds i=some d):∃v,atI xs i=some v/\Rep G H0 d v:=by
 unfold atI at h ⊢;rw[<-oG r];cases e:ixN ds.length i with
 |none=>rw[e]at h;cases h
 |some j=>rw[e]at h;exact p5 r h
def Fs(i:Nat)(f:FE):FE:=λρ=>match qz ρ i with
 |some _=>match f ρ with
  |some (.int j,ρ1)=>match qz ρ1 i with
   |some ds=>match atI ds j with
    |some d=>some (d,ρ1)
    |none=>none
   |none=>none
  |_=>none
 |none=>none
theorem Qa(h:PE X e (tOp (MB G.K) (ua i) (tF G f))):PE X e (tF G (Fs i f)):=PE.weak h λσ H Q hh=>by
 obtain⟨F,ρ,H0,d,ρ',R,e,k⟩:=hh;unfold Fs at e;cases e9:qz ρ i with
 |none=>simp only[e9]at e;cases e
 |some ds9=>
  simp only[e9]at e;obtain⟨a9,xs9,ev,_⟩:=ra R e9;split at e
  ·rename_i j ρ1 e1;cases e0:qz ρ1 i with
   |none=>simp only[e0]at e;cases e
   |some ds=>
    simp only[e0]at e;cases e2:atI ds j with
    |none=>simp only[e2]at e;cases e
    |some x=>simp only[e2]at e;cases e;refine⟨.ref a9,ev,F,ρ,H0,_,_,R,e1,λu H1 H1' s R' r=>?_⟩;unfold Rep at r;subst r;obtain⟨a,xs,s1,s2,s3,s4⟩:=ra R' e0;rw[ev]at s1;cases s1;obtain⟨w,w1,w2⟩:=yb s3 e2;exact⟨_,xs,j,w,rfl,rfl,SqL.of s2,w1,k _ _ _ s R' w2⟩
  ·cases e
def cFz(i:Nat):FE:=λρ=>match ρ[i]? with
 |some (.ls ds)=>some (.lst ds,ρ.set i (.im (.lst ds)))
 |some (.dk ks ds)=>some (.dic ks ds,ρ.set i (.im (.dic ks ds)))
 |some (.im d)=>some (d,ρ)
 |_=>none
theorem RelE.toIm{H:Hp}(R:RelE G F σ ρ H0 H){s:Sl}{o:HO}(hi:ρ[i]?=some s)(hs:(σ[i]?).join=some (.ref p))(so:s.own=true)(hp:H p=some o)(h0:H0 p=none)(hb:F.B p=none)(r:Rep G (upd H0 p o) d (.ref p)):
  RelE G F σ (ρ.set i (.im d)) (upd H0 p o) H where
 sub:=λb u e=>by
  by_cases hb:b=p
  ·subst hb;rw[oH]at e;cases e;exact hp
  ·rw[oF hb]at e;exact R.sub _ _ e
 g0:=R.g0.trans (oP h0 o)
 keep:=R.keep
 fr:=λb u e=>by
  by_cases hb':b=p
  ·subst hb';exact .inr hb
  ·rw[oF hb']at e;exact R.fr _ _ e
 am:=R.am
 len:=by rw[c8];exact R.len
 sl:=λj t e=>by
  rw[bo]at e;by_cases h:i=j
  ·subst h;rw[aj rfl]at e;split at e
   ·cases e;exact⟨_,hs,r⟩
   ·cases e
  ·rw[ai h]at e;refine(R.sl j t e).grow (oP h0 o) (λa u _ _ q=>q) λa u z to q q0=>?_;rw[oF (λy=>by subst y;exact R.ap j i t s a (λy=>h y.symm) e hi to so z hs)];exact q0
 ap:=λj k t u b hjk ej ek tj tk vj vk=>by
  have gen:∀{m:Nat} {x:Sl},(ρ.set i (.im d))[m]?=some x->x.own=true->ρ[m]?=some x:=λ{m x} e xo=>by
   rw[bo]at e;by_cases h:i=m
   ·subst h;rw[aj rfl]at e;split at e
    ·cases e;cases xo
    ·cases e
   ·rw[ai h]at e;exact e
  exact R.ap j k t u b hjk (gen ej tj) (gen ek tk) tj tk vj vk
theorem RelE.toImD{H:Hp}(R:RelE G F σ ρ H0 H){s:Sl}{o:HO}(hi:ρ[i]?=some s)(hs:(σ[i]?).join=some (.ref p))(so:s.own=true)(h0:H0 p=none)(hb:F.B p=none)(r:Rep G (upd H0 p o) d (.ref p)):
  RelE G F σ (ρ.set i (.im d)) (upd H0 p o) (upd H p o) where
 sub:=λb u e=>by
  by_cases hb:b=p
  ·subst hb;rw[oH]at e ⊢;exact e
  ·rw[oF hb]at e ⊢;exact R.sub _ _ e
 g0:=R.g0.trans (oP h0 o)
 keep:=λb u e n=>by rw[oF (λz=>by subst z;rw[hb]at e;cases e)];exact R.keep b u e n
 fr:=λb u e=>by
  by_cases hb':b=p
  ·subst hb';exact .inr hb
  ·rw[oF hb']at e;exact R.fr _ _ e
 am:=λb hm=>by
  by_cases hb':b=p
  ·subst hb';exact⟨o,oH⟩
  ·rw[oF hb'];exact R.am b hm
 len:=by rw[c8];exact R.len
 sl:=λj t e=>by
  rw[bo]at e;by_cases h:i=j
  ·subst h;rw[aj rfl]at e;split at e
   ·cases e;exact⟨_,hs,r⟩
   ·cases e
  ·rw[ai h]at e;refine(R.sl j t e).grow (oP h0 o) (λa u z to q=>?_) λa u z to q q0=>?_
   ·rw[oF (λy=>by subst y;exact R.ap j i t s a (λy=>h y.symm) e hi to so z hs)];exact q
   ·rw[oF (λy=>by subst y;exact R.ap j i t s a (λy=>h y.symm) e hi to so z hs)];exact q0
 ap:=λj k t u b hjk ej ek tj tk vj vk=>by
  have gen:∀{m:Nat} {x:Sl},(ρ.set i (.im d))[m]?=some x->x.own=true->ρ[m]?=some x:=λ{m x} e xo=>by
   rw[bo]at e;by_cases h:i=m
   ·subst h;rw[aj rfl]at e;split at e
    ·cases e;cases xo
    ·cases e
   ·rw[ai h]at e;exact e
  exact R.ap j k t u b hjk (gen ej tj) (gen ek tk) tj tk vj vk
theorem TV(h:PE X e (ua i)):PE X e (tF G (cFz i)):=PE.weak (PE.ghost h) λσ H Q hh=>by
 obtain⟨F,ρ,H0,d,ρ',R,e,k⟩:=hh;unfold cFz at e;split at e
 ·rename_i ds e0;cases e;obtain⟨a,xs,h1,h2,h3,h4,h5⟩:=R.sl i _ e0;have rr:Rep G (upd H0 a (.lst xs)) (.lst ds) (.ref a):=ud oH (Reps.mono (oP h3 _) _ _ h5);exact⟨_,qv h1,.inl (k _ _ _ (oP h3 _) (R.toIm e0 h1 rfl h2 h3 h4 rr) rr)⟩
 ·rename_i ks ds e0;cases e;obtain⟨a,xs,h1,h2,h3,h4,h5,h6⟩:=R.sl i _ e0;refine⟨_,qv h1,.inr ⟨a,_,h2,λo=>?_⟩⟩;have rr:Rep G (upd H0 a (.frz o (.dK (ks.zip xs)))) (.dic ks ds) (.ref a):=by unfold Rep;exact⟨a,o,xs,rfl,oH,h5,Reps.mono (oP h3 _) _ _ h6⟩
  exact k _ _ _ (oP h3 _) (R.toImD e0 h1 rfl h3 h4 rr) rr
 ·rename_i d' e0;cases e;obtain⟨v,e2,e3⟩:=R.sl i _ e0;exact⟨v,qv e2,.inl (k _ _ _ (oM.refl _) R e3)⟩
 ·cases e
def Nj(i:Nat):FA:=λρ=>match ρ[i]? with
 |some (.ls ds)=>some (ds,ρ.set i .un)
 |_=>none
theorem Nk(h:PE X e (ua i)):PE X e (tFN G (Nj i)):=PE.weak h λσ H Q hh=>by
 obtain⟨F,ρ,H0,d,ρ',R,e,k⟩:=hh;unfold Nj at e;split at e
 ·rename_i ds e0;cases e;obtain⟨a,xs,h1,h2,h3,h4,h5⟩:=R.sl i _ e0;have gen:∀{m:Nat} {x:Sl},(ρ.set i .un)[m]?=some x->x.own=true->m≠i/\ρ[m]?=some x:=λ{m x} e xo=>by
   rw[bo]at e;by_cases h:i=m
   ·subst h;rw[aj rfl]at e;split at e
    ·cases e;cases xo
    ·cases e
   ·rw[ai h]at e;exact⟨λz=>h z.symm,e⟩
  have R':RelE G F σ (ρ.set i .un) H0 H:={
   sub:=R.sub,g0:=R.g0,keep:=R.keep,fr:=R.fr,am:=R.am
   len:=by rw[c8];exact R.len
   sl:=λj t e=>by
    rw[bo]at e;by_cases h:i=j
    ·subst h;rw[aj rfl]at e;split at e
     ·cases e;trivial
     ·cases e
    ·rw[ai h]at e;exact R.sl j t e
   ap:=λj k t u b hjk ej ek tj tk vj vk=>R.ap j k t u b hjk (gen ej tj).2 (gen ek tk).2 tj tk vj vk }
  refine⟨_,qv h1,k a xs _ _ (oM.refl _) R' h2 h3 h4 (λj t ej to z=>?_) h5⟩;obtain⟨nj,ej'⟩:=gen ej to;exact R.ap j i t _ a nj ej' e0 to rfl z h1
 ·cases e
end
def spM(G:Bg)(g:List D->List D->Option (D×List D)):Sp:=λvs H Q _=>∃(a:Addr) (us xs:List V) (H0:Hp) (es ds:List D) (d:D) (es':List D),vs=.ref a::us/\H a=some (.lst xs)/\H0 a=none/\oM H0 H/\Reps G H0 es xs/\Reps G H0 ds us/\g es ds=some (d,es')/\
 ∀v xs' H0' H',oM H0 H0'->oM H0' H'->(∀b o,H b=some o->b≠a->H' b=some o)->(∀b o,H0' b=some o->H0 b=some o\/H b=none)->H0' a=none->H' a=some (.lst xs')->Reps G H0' es' xs'->Rep G H0' d v->Q v H'
def stM(n:Nat)(es ds:List D):List Sl:=.pm es::stE (n - 1) ds
def zq(ρ:List Sl):Option (List D):=match ρ with
 |.pm es::_=>some es
 |_=>none
def fnM(np n:Nat)(f:FS):List D->List D->Option (D×List D):=λes ds=>if ds.length=np then match f (stM n es ds)with
 |some (.rt d ρ)=>match zq ρ with
  |some es'=>some (d,es')
  |none=>none
 |some (.rn xs ρ)=>match zq ρ with
  |some es'=>some (.lst xs,es')
  |none=>none
 |_=>none
 else none
theorem AE{es:List D}(h:zq ρ=some es):ρ[0]?=some (.pm es):=by
 unfold zq at h;split at h
 ·cases h;rfl
 ·cases h
variable{es':List D}
theorem Eh{n:Nat}{f:FS}{es:List D}(h:fnM np n f es ds=some (d,es')):ds.length=np/\((∃ρ,f (stM n es ds)=some (.rt d ρ)/\ρ[0]?=some (.pm es'))\/∃xs ρ,f (stM n es ds)=some (.rn xs ρ)/\ρ[0]?=some (.pm es')/\d=.lst xs):=by
 unfold fnM at h;split at h
 ·rename_i hl;refine⟨hl,?_⟩;split at h
  ·rename_i x ρ e;cases e2:zq ρ with
   |none=>simp only[e2]at h;cases h
   |some q=>simp only[e2]at h;cases h;exact .inl ⟨ρ,e,AE e2⟩
  ·rename_i x ρ e;cases e2:zq ρ with
   |none=>simp only[e2]at h;cases h
   |some q=>simp only[e2]at h;cases h;exact .inr ⟨x,ρ,e,AE e2,rfl⟩
  ·cases h
 ·cases h
variable{b:FS}
section
variable{X:Cx}{G:Bg}
theorem Nl{f:FS}{H:Hp}{Q:VK}(hN:np+1<=N.length)(h:spM G (fnM np N.length f) vs H Q E):tFS G f { nx:=λ_ H'=>Q .non H',rt:=Q } (L2.start N vs) H:=by
 obtain⟨a,us,xs,H0,es,ds,d,es',rfl,ha,h0,s,r1,r,e,k⟩:=h;obtain⟨hl,e1⟩:=Eh e;have hul:us.length=np:=by rw[<-oG r];exact hl
 have gets:∀{i:Nat} {t:Sl},(stM N.length es ds)[i]?=some t->(i=0/\t=.pm es)\/t=.un\/∃(j:Nat) (d:D),i=j+1/\ds[j]?=some d/\t=.im d:=λ{i t} e=>by
  cases i with
  |zero=>cases e;exact .inl ⟨rfl,rfl⟩
  |succ j=>
   have e':(stE (N.length - 1) ds)[j]?=some t:=e;rcases z9 e' with rfl|⟨d,e1,rfl⟩
   ·exact .inr (.inl rfl)
   ·exact .inr (.inr ⟨j,d,rfl,e1,rfl⟩)
 have R:RelE G ⟨H0,H,[a]⟩ (L2.start N (.ref a::us)) (stM N.length es ds) H0 H:={
  sub:=s
  g0:=oM.refl _
  keep:=λb o e _=>e
  fr:=λb o e=>.inl e
  am:=λb hb=>by
   have eb:b=a:=by simpa using hb
   subst eb;exact⟨_,ha⟩
  len:=by unfold L2.start stM stE;simp only[aI,ah,bO,aD];have:=oG r;omega
  sl:=λi t e=>by
   rcases gets e with ⟨rfl,rfl⟩|rfl|⟨j,d,rfl,e1,rfl⟩
   ·exact⟨a,xs,sj rfl,ha,h0,by simp,r1⟩
   ·trivial
   ·obtain⟨v,e2,e3⟩:=p5 r e1;exact⟨v,sj (by simpa using e2),e3⟩
  ap:=λi j t u b hij ei ej ht hu=>by
   rcases gets ei with ⟨rfl,rfl⟩|rfl|⟨_,_,_,_,rfl⟩
   ·rcases gets ej with ⟨rfl,rfl⟩|rfl|⟨_,_,_,_,rfl⟩
    ·exact ao rfl hij
    ·cases hu
    ·cases hu
   ·cases ht
   ·cases ht }
 have fin:∀{v:V} {σ':St} {ρ':List Sl} {H0' H':Hp},oM H0 H0'->RelE G ⟨H0,H,[a]⟩ σ' ρ' H0' H'->ρ'[0]?=some (.pm es')->Rep G H0' d v->Q v H':=λs' R' e2 rv=>by
  obtain⟨a',ys,q1,q2,q3,q4,q5⟩:=R'.sl 0 _ e2;have ea:a'=a:=by simpa using q4
  subst ea;exact k _ ys _ _ s' R'.sub (λb o e n=>R'.keep b o e (by simpa using n)) R'.fr q3 q2 q5 rv
 rcases e1 with ⟨ρ,e1,e2⟩|⟨zs,ρ,e1,e2,rfl⟩
 ·exact⟨_,_,H0,_,R,e1,λv σ' H0' H' s' R' rv=>fin s' R' e2 rv,λ_=>rfl⟩
 ·refine⟨_,_,H0,_,R,e1,λp ys σ' H0' H' s' R' hp hp0 hb ap rs=>?_,λ_=>rfl⟩;exact fin (s'.trans (oP hp0 _)) (R'.freeze hp hp0 hb ap) e2 (ud oH (Reps.mono (oP hp0 _) _ _ rs))
theorem OS{g:List D->List D->Option (D×List D)}(hg:∀es ds d,g es ds=some d->ds.length=np):∀vs H Q E,spM G g vs H Q E->vs.length=np+1:=λvs H Q E h=>by obtain⟨a,us,xs,H0,es,ds,d,es',rfl,_,_,_,_,r,e,_⟩:=h;rw[aD,<- oG r,hg _ _ _ e]
theorem Nn{n:Nat}{f:FS}:∀es ds d,fnM np n f es ds=some d->ds.length=np:=λ_ _ d h=>(Eh (d:=d.1) (es':=d.2) h).1
theorem RelE.call1{H:Hp}(R:RelE G F σ ρ H0 H){s:Sl}{es:List D}{b:Addr}{zs:List V}(hi:ρ[i]?=some s)(hs:s.L=some es)(hb:(σ[i]?).join=some (.ref b))
  (s1:oM H0 H0') (s2:oM H0' H') (s3:∀c o,H c=some o->c≠b->H' c=some o) (fr:∀c o,H0' c=some o->H0 c=some o\/H c=none) (h0:H0' b=none) (hz:H' b=some (.lst zs)) (r:Reps G H0' es' zs):
  RelE G F σ (ρ.set i (s.putL es')) H0' H':=by
 have so:=Sl.L_own hs;obtain⟨b',u,e1,e2,e3,e4⟩:=(R.sl i s hi).at so;rw[hb]at e1;cases e1;exact {
  sub:=s2
  g0:=R.g0.trans s1
  keep:=λc o e n=>by
   refine s3 c o (R.keep c o e n) λz=>?_;subst z;rcases e4 with q|q
   ·rw[q]at e;cases e
   ·exact n q
  fr:=λc o e=>by
   rcases fr c o e with q|q
   ·exact R.fr c o q
   ·exact .inr (R.bNone q)
  am:=λc hc=>by
   by_cases z:c=b
   ·subst z;exact⟨_,hz⟩
   ·obtain⟨o,q⟩:=R.am c hc;exact⟨o,s3 c o q z⟩
  len:=by rw[c8];exact R.len
  sl:=λj t e=>by
   rw[bo]at e;by_cases h:i=j
   ·subst h;rw[aj rfl]at e;split at e
    ·cases e;rw[hb];have ok:=R.sl i s hi;rw[hb]at ok;cases s with
     |ls ds0=>obtain⟨c,xs,h1,h2,h3,h4,h5⟩:=ok;cases h1;exact⟨b,zs,rfl,hz,h0,h4,r⟩
     |pm ds0=>obtain⟨c,xs,h1,h2,h3,h4,h5⟩:=ok;cases h1;exact⟨b,zs,rfl,hz,h0,h4,r⟩
     |_=>cases hs
    ·cases e
   ·rw[ai h]at e;refine(R.sl j t e).grow s1 (λc w z to q=>s3 c w q λy=>?_) λc w z to q q0=>?_
    ·subst y;exact R.ap j i t s c (λy=>h y.symm) e hi to so z hb
    ·cases y:H0' c with
     |none=>rfl
     |some o=>
      rcases fr c o y with x|x
      ·rw[x]at q0;cases q0
      ·rw[x]at q;cases q
  ap:=λj k t u c hjk ej ek tj tk vj vk=>by
   have gen:∀{m:Nat} {x:Sl},(ρ.set i (s.putL es'))[m]?=some x->∃y,ρ[m]?=some y/\(x.own=true->y.own=true):=λ{m x} e=>by
    rw[bo]at e;by_cases h:i=m
    ·subst h;exact⟨s,hi,λ_=>so⟩
    ·rw[ai h]at e;exact⟨x,e,λq=>q⟩
   obtain⟨y,ey,oy⟩:=gen ej;obtain⟨z,ez,oz⟩:=gen ek;exact R.ap j k y z c hjk ey ez (oy tj) (oz tk) vj vk }
def qf(g:List D->List D->Option (D×List D))(i:Nat)(a:FA):FE:=λρ=>match qz ρ i with
 |some _=>match a ρ with
  |some (ds,ρ1)=>match qz ρ1 i with
   |some es=>match g es ds with
    |some (d,es')=>some (d,putAt ρ1 i es')
    |none=>none
   |none=>none
  |none=>none
 |none=>none
theorem Qb{g:List D->List D->Option (D×List D)}{a:FA}(h:PE X e (xc (spM G g) [] E (An (ua i) (tFA G a)))):PE X e (tF G (qf g i a)):=PE.weak h λσ H Q hh=>by
 obtain⟨F,ρ,H0,d,ρ',R,e,k⟩:=hh;unfold qf at e;cases e0:qz ρ i with
 |none=>simp only[e0]at e;cases e
 |some ds0=>
  simp only[e0]at e;rcases oY (f:=a) (ρ:=ρ)with e1|⟨ds,ρ1,e1⟩<;>simp only[e1]at e
  ·cases e
  ·cases e2:qz ρ1 i with
   |none=>simp only[e2]at e;cases e
   |some es=>
    simp only[e2]at e;cases e3:g es ds with
    |none=>simp only[e3]at e;cases e
    |some q=>
     obtain⟨d1,es'⟩:=q;simp only[e3]at e;cases e;obtain⟨b,xs,s1,s2,s3,_⟩:=ra R e0;refine⟨.ref b,s1,F,ρ,H0,ds,ρ1,R,e1,λys H1 H1' s R' rs=>?_⟩;obtain⟨s,es0,es1⟩:=rD e2;obtain⟨b',xs',t1,t2,t3,t4⟩:=(R'.sl i s es0).lst es1;rw[qv t1]at s1;cases s1;refine⟨b,ys,xs',H1,es,ds,d,es',?_,t2,t3,R'.sub,t4,rs,e3,λv zs H2 H2' u1 u2 u3 fr w0 w1 w2 w3=>?_⟩
     ·show V.ref b::ys++[]=_;rw[br]
     ·refine k _ _ _ (oM.trans ‹oM H0 H1› u1) ?_ w3;unfold putAt;rw[es0];exact R'.call1 es0 es1 t1 u1 u2 u3 fr w0 w1 w2
def Walk(G:Bg)(J:It)(ds:List D)(H0:Hp):Prop:=∀(i:Nat) (H1 H1':Hp),oM H0 H1->oM H1 H1'->
 (∀d,ds[i]?=some d->J.go i H1'/\∀x H2',J.yld i H1' x H2'->∃H2,oM H1 H2/\oM H2 H2'/\oM H1' H2'/\(∀b o,H2 b=some o->H1 b=some o\/H1' b=none)/\Rep G H2 d x)/\(i=ds.length->J.stop i H1')
def tFI(G:Bg)(f:FA):TI:=λσ H R=>∃F ρ H0 ds ρ',RelE G F σ ρ H0 H/\f ρ=some (ds,ρ')/\∀J H0' H',oM H0 H0'->RelE G F σ ρ' H0' H'->Walk G J ds H0'->R J H'
theorem PI.weak{t t':TI}(h:PI X tg e t)(w:∀σ H R,t' σ H R->t σ H R):PI X tg e t':=λpins s σ H R I hq=>h pins s σ H R I (w _ _ _ hq)
theorem AF(h:SqL G.K H0 a xs)(r:Reps G H0 ds xs):Walk G (Itl G.K a) ds H0:=λi H1 H1' s s'=>by have h1:SqL G.K H1' a xs:=(s.trans s').seq h;refine⟨λd e=>?_,λhl=>⟨xs,h1,by rw[<-oG r,hl];exact aA _⟩⟩;obtain⟨v,e1,e2⟩:=p5 r e;refine⟨⟨xs,v,h1,e1⟩,λx H2' y=>?_⟩;obtain⟨e3,e4⟩:=y;have e5:=e4 xs h1;rw[e1]at e5;cases e5;subst e3;exact⟨H1,oM.refl _,s',oM.refl _,λb o e=>.inl e,Rep.mono s _ _ e2⟩
theorem Kh(h:SqT G.K H0 a xs)(r:Reps G H0 ds xs):Walk G (Itt G.K a) ds H0:=λi H1 H1' s s'=>by have h1:SqT G.K H1' a xs:=SqT.mono (s.trans s') h;refine⟨λd e=>?_,λhl=>⟨xs,h1,by rw[<-oG r,hl];exact aA _⟩⟩;obtain⟨v,e1,e2⟩:=p5 r e;refine⟨⟨xs,v,h1,e1⟩,λx H2' y=>?_⟩;obtain⟨e3,e4⟩:=y;have e5:=e4 xs h1;rw[e1]at e5;cases e5;subst e3;exact⟨H1,oM.refl _,s',oM.refl _,λb o e=>.inl e,Rep.mono s _ _ e2⟩
def iL(f:FE):FA:=λρ=>match f ρ with
 |some (.lst ds,ρ')=>some (ds,ρ')
 |some (.fzl ds,ρ')=>some (ds,ρ')
 |_=>none
def iT(f:FE):FA:=λρ=>match f ρ with
 |some (.tup ds,ρ')=>some (ds,ρ')
 |_=>none
theorem Ei(h:PI X tg e (Jt G.K (tF G f))):PI X tg e (tFI G (iL f)):=PI.weak h λσ H R hh=>by
 obtain⟨F,ρ,H0,ds,ρ',R,e,k⟩:=hh;unfold iL at e;split at e
 ·rename_i ds' ρ1 e1;cases e;refine⟨F,ρ,H0,_,_,R,e1,λv H1 H1' s R' r=>?_⟩;unfold Rep at r;obtain⟨a,xs,rfl,r1,r2⟩:=r;exact⟨a,rfl,⟨xs,R'.sub.seq (SqL.of r1)⟩,k _ _ _ s R' (AF (SqL.of r1) r2)⟩
 ·rename_i ds' ρ1 e1;cases e;refine⟨F,ρ,H0,_,_,R,e1,λv H1 H1' s R' r=>?_⟩;unfold Rep at r;obtain⟨a,xs,rfl,r1,r2⟩:=r;exact⟨a,rfl,⟨xs,R'.sub.seq r1⟩,k _ _ _ s R' (AF r1 r2)⟩
 ·cases e
theorem Np(h:PI X tg e (Pk G.K (tF G f))):PI X tg e (tFI G (iT f)):=PI.weak h λσ H R hh=>by
 obtain⟨F,ρ,H0,ds,ρ',R,e,k⟩:=hh;unfold iT at e;split at e
 ·rename_i ds' ρ1 e1;cases e;refine⟨F,ρ,H0,_,_,R,e1,λv H1 H1' s R' r=>?_⟩;unfold Rep at r;obtain⟨a,xs,rfl,r1,r2⟩:=r;exact⟨a,rfl,⟨xs,SqT.mono R'.sub r1⟩,k _ _ _ s R' (Kh r1 r2)⟩
 ·cases e
def yc(lo:Int)(n:Nat):List D:=(aX n).map λ(i:Nat)=>D.int (lo+(i:Int))
theorem Ki{lo:Int}{n:Nat}:Walk G (Itr lo n) (yc lo n) H0:=λi H1 H1' s s'=>by
 refine⟨λd e=>?_,λhl=>by show n<=i;rw[hl];simp[yc]⟩;unfold yc at e;rw[aW]at e;by_cases hi:i<n
 ·rw[jQ hi]at e;cases e;refine⟨hi,λx H2' y=>?_⟩;obtain⟨e3,rfl⟩:=y;subst e3;exact⟨H1,oM.refl _,s',oM.refl _,λb o e=>.inl e,rf _⟩
 ·rw[eK (by simpa using hi)]at e;cases e
def iR1(f:FE):FA:=λρ=>match f ρ with
 |some (.int n,ρ')=>if -1000000<=n/\n<=1000000 then some (yc 0 n.toNat,ρ')else none
 |_=>none
theorem Ft(h:PI X tg e (OK (tFA G (aCons f ox)))):PI X tg e (tFI G (iR1 f)):=PI.weak h λσ H R hh=>by
 obtain⟨F,ρ,H0,ds,ρ',R,e,k⟩:=hh;unfold iR1 at e;split at e
 ·rename_i n ρ1 e1;split at e
  ·rename_i hn;cases e;refine⟨F,ρ,H0,[.int n],_,R,by unfold aCons;rw[e1];rfl,λxs H1 H1' s R' rs=>?_⟩;unfold Reps at rs;obtain⟨v,r0,rfl,rv,rn⟩:=rs;unfold Reps at rn;unfold Rep at rv;subst rn rv;exact⟨n,rfl,by omega,by omega,k _ _ _ s R' Ki⟩
  ·cases e
 ·cases e
def forL(g:FG)(b:FS):List D->FS
 |[],ρ=>some (.nx ρ)
 |d::r,ρ=>match g d ρ with
  |none=>none
  |some ρ1=>match b ρ1 with
   |some (.nx ρ2)=>forL g b r ρ2
   |some (.ct ρ2)=>forL g b r ρ2
   |some (.bk ρ2)=>some (.nx ρ2)
   |some (.rt d ρ2)=>some (.rt d ρ2)
   |some (.rn d ρ2)=>some (.rn d ρ2)
   |none=>none
def rZ(s:FA)(g:FG)(b:FS):FS:=λρ=>match s ρ with
 |some (ds,ρ')=>forL g b ds ρ'
 |none=>none
theorem Nq{n:Nat}{s:FA}{g:FG}(h:PS X st (Pm (tFI G s) (tFG G n g) (tFS G b))):PS X st (tFS G (rZ s g b)):=PS.weak h λE σ H hh=>by
 obtain⟨F,ρ,H0,o,R,e,k,k2⟩:=hh;unfold rZ at e;rcases oY (f:=s) (ρ:=ρ)with e1|⟨ds,ρ1,e1⟩<;>simp only[e1]at e
 ·cases e
 ·refine⟨F,ρ,H0,ds,ρ1,R,e1,λJ H1 H1' s1 R1 wk=>?_⟩;refine⟨λi m σ H=>m=ds.length - i/\i<=ds.length/\∃ρi Hi,oM H1 Hi/\RelE G F σ ρi Hi H/\forL g b (ds.drop i) ρi=some o,⟨_,rfl,bN _,ρ1,H1,oM.refl _,R1,e⟩,?_⟩;rintro i m σi Hi' ⟨rfl,hi,ρi,Hi,si,Ri,ei⟩;by_cases hlt:i<ds.length
  ·have ed:ds.drop i=ds[i]::ds.drop (i+1):=fR hlt;rw[ed]at ei;unfold forL at ei;obtain⟨go,yl⟩:=(wk i Hi Hi' si Ri.sub).1 ds[i] (aH hlt);refine .inr ⟨go,λσ' H'=>∃ρi Hi,oM H1 Hi/\RelE G F σ' ρi Hi H'/\forL g b (ds.drop (i+1)) ρi=some o,λσ' H' q=>⟨ds.length - (i+1),by omega,rfl,hlt,q⟩,λx H' y=>?_⟩;obtain⟨H2,t1,t2,t3,t4,t5⟩:=yl x H' y;have R2:=Ri.grow t3 t1 t2 t4;cases e2:g ds[i] ρi with
   |none=>simp only[e2]at ei;cases ei
   |some ρ2=>
    simp only[e2]at ei;refine⟨F,ρi,H2,_,ρ2,R2,t5,e2,λσ3 _ R3=>?_⟩;have kk:=k.back (s1.trans (si.trans t1));cases e3:b ρ2 with
    |none=>simp only[e3]at ei;cases ei
    |some q=>
     refine⟨F,ρ2,H2,q,R3,e3,?_,λ_=>rfl⟩;cases q with
     |nx ρ3=>simp only[e3]at ei;exact λσ' H0' H' s' R'=>⟨ρ3,H0',si.trans (t1.trans s'),R',ei⟩
     |ct ρ3=>simp only[e3]at ei;exact λσ' H0' H' s' R'=>⟨ρ3,H0',si.trans (t1.trans s'),R',ei⟩
     |bk ρ3=>simp only[e3]at ei;cases ei;exact kk
     |rt d ρ3=>simp only[e3]at ei;cases ei;exact kk
     |rn d ρ3=>simp only[e3]at ei;cases ei;exact kk
  ·have ez:ds.drop i=[]:=jC (by omega);rw[ez]at ei;unfold forL at ei;cases ei;exact .inl ⟨(wk i Hi Hi' si Ri.sub).2 (by omega),k _ _ _ (s1.trans si) Ri⟩
def whL(c:FT)(b:FS):Nat->FS
 |0,_=>none
 |n+1,ρ=>match c ρ with
  |some (false,ρ1)=>some (.nx ρ1)
  |some (true,ρ1)=>match b ρ1 with
   |some (.nx ρ2)=>whL c b n ρ2
   |some (.ct ρ2)=>whL c b n ρ2
   |some (.bk ρ2)=>some (.nx ρ2)
   |some (.rt d ρ2)=>some (.rt d ρ2)
   |some (.rn d ρ2)=>some (.rn d ρ2)
   |none=>none
  |none=>none
theorem Il{c:FT}(n:Nat)(h:PS X st (Jr (tFT G c) (tFS G b))):PS X st (tFS G (whL c b n)):=PS.weak h λE σ H hh=>by
 obtain⟨F,ρ,H0,o,R,e,k,k2⟩:=hh;refine⟨λm σ H=>∃ρi Hi,oM H0 Hi/\RelE G F σ ρi Hi H/\whL c b m ρi=some o,⟨n,ρ,H0,oM.refl _,R,e⟩,?_⟩;rintro m σi Hi' ⟨ρi,Hi,si,Ri,ei⟩;cases m with
 |zero=>cases ei
 |succ m=>
  unfold whL at ei;rcases oY (f:=c) (ρ:=ρi)with e1|⟨t,ρ1,e1⟩
  ·simp only[e1]at ei;cases ei
  ·refine⟨F,ρi,Hi,t,ρ1,Ri,e1,λH1 H1' s1 R1=>?_⟩;cases t with
   |false=>simp only[e1]at ei;cases ei;exact D4 (k _ _ _ (si.trans s1) R1)
   |true=>
    simp only[e1]at ei;refine D5 ⟨λσ' H'=>∃ρi Hi,oM H0 Hi/\RelE G F σ' ρi Hi H'/\whL c b m ρi=some o,λσ' H' q=>⟨m,fg m,q⟩,?_⟩;have kk:=k.back (si.trans s1);cases e3:b ρ1 with
    |none=>simp only[e3]at ei;cases ei
    |some q=>
     refine⟨F,ρ1,H1,q,R1,e3,?_,λ_=>rfl⟩;cases q with
     |nx ρ3=>simp only[e3]at ei;exact λσ' H0' H' s' R'=>⟨ρ3,H0',si.trans (s1.trans s'),R',ei⟩
     |ct ρ3=>simp only[e3]at ei;exact λσ' H0' H' s' R'=>⟨ρ3,H0',si.trans (s1.trans s'),R',ei⟩
     |bk ρ3=>simp only[e3]at ei;cases ei;exact kk
     |rt d ρ3=>simp only[e3]at ei;cases ei;exact kk
     |rn d ρ3=>simp only[e3]at ei;cases ei;exact kk
end
def Sl.cap:Sl->Sl
 |.im d=>.im d
 |.ls ds=>.pm ds
 |.pm ds=>.pm ds
 |_=>.un
def xb(k:Nat)(cap:List Nat)(ρ:List Sl):List Sl:=fq k .un++cap.map λj=>((ρ[j]?).getD .un).cap
def q8:List Nat->List Sl->List Sl->Option (List Sl)
 |[],_,ρ=>some ρ
 |j::cap,t::ts,ρ=>match qz ρ j with
  |some _=>match t with
   |.pm ds=>q8 cap ts (putAt ρ j ds)
   |_=>none
  |none=>q8 cap ts ρ
 |_::_,[],_=>none
def r9(k:Nat)(cap:List Nat)(g:FG)(ft:FT)(fe:FE):List D->List Sl->Option (List D×List Sl)
 |[],ρ=>some ([],ρ)
 |d::r,ρ=>match g d (xb k cap ρ)with
  |none=>none
  |some ρ1=>match ft ρ1 with
   |some (true,ρ2)=>match fe ρ2 with
    |some (x,ρ3)=>match q8 cap (ρ3.drop k) ρ with
     |some ρ'=>match r9 k cap g ft fe r ρ' with
      |some (xs,ρ'')=>some (x::xs,ρ'')
      |none=>none
     |none=>none
    |none=>none
   |some (false,ρ2)=>match q8 cap (ρ2.drop k) ρ with
    |some ρ'=>r9 k cap g ft fe r ρ'
    |none=>none
   |none=>none
def oQ(k:Nat)(cap:List Nat)(s:FA)(g:FG)(ft:FT)(fe:FE):FA:=λρ=>match s ρ with
 |some (ds,ρ')=>if ds.length<=1000 then r9 k cap g ft fe ds ρ' else none
 |none=>none
def pF:FT:=λρ=>some (true,ρ)
theorem ve:∀{cap:List Nat} {ts ρ ρ':List Sl},q8 cap ts ρ=some ρ'->ρ'.length=ρ.length/\
  (∀(j:Nat) (s':Sl),ρ'[j]?=some s'->∃s,ρ[j]?=some s/\((s'=s/\(s.L≠none->j∉cap))\/∃(m:Nat) (ds ds0:List D),cap[m]?=some j/\ts[m]?=some (Sl.pm ds)/\s.L=some ds0/\s'=s.putL ds))
 |[],ts,ρ,ρ',h=>by cases h;exact⟨rfl,λj s' e=>⟨s',e,.inl ⟨rfl,λ_ z=>by cases z⟩⟩⟩
 |j0::cap,[],ρ,ρ',h=>by cases h
 |j0::cap,t::ts,ρ,ρ',h=>by
  unfold q8 at h;cases e0:qz ρ j0 with
  |none=>
   simp only[e0]at h;obtain⟨h1,h2⟩:=ve h;refine⟨h1,λj s' e=>?_⟩;obtain⟨s,e1,q⟩:=h2 j s' e;refine⟨s,e1,?_⟩;rcases q with ⟨rfl,q⟩|⟨m,ds,ds0,q1,q2,q3,q4⟩
   ·refine .inl ⟨rfl,λz y=>?_⟩;rcases aJ.mp y with y|y
    ·subst y;unfold qz at e0;rw[e1]at e0;exact z e0
    ·exact q z y
   ·exact .inr ⟨m+1,ds,ds0,q1,q2,q3,q4⟩
  |some ds1=>
   simp only[e0]at h;cases t with
   |pm ds=>
    simp only at h;obtain⟨s0,e1,e2⟩:=rD e0;unfold putAt at h;rw[e1]at h;simp only at h;obtain⟨h1,h2⟩:=ve h;refine⟨by rw[h1,c8],λj s' e=>?_⟩;obtain⟨s,e3,q⟩:=h2 j s' e;by_cases hj:j0=j
    ·subst hj;rw[bo,aj rfl]at e3;split at e3
     ·cases e3;refine⟨s0,e1,.inr ?_⟩;rcases q with ⟨rfl,q⟩|⟨m,ds',ds0,q1,q2,q3,q4⟩
      ·exact⟨0,ds,ds1,rfl,rfl,e2,rfl⟩
      ·refine⟨m+1,ds',ds1,q1,q2,e2,?_⟩;rw[q4];cases s0<;>rfl
     ·cases e3
    ·rw[bo,ai hj]at e3;refine⟨s,e3,?_⟩;rcases q with ⟨rfl,q⟩|⟨m,ds',ds0,q1,q2,q3,q4⟩
     ·refine .inl ⟨rfl,λz y=>?_⟩;rcases aJ.mp y with y|y
      ·exact hj y.symm
      ·exact q z y
     ·exact .inr ⟨m+1,ds',ds0,q1,q2,q3,q4⟩
   |_=>cases h
def BJ(cap:List Nat)(σ:St)(ρ:List Sl):List Addr:=cap.filterMap λj=>match qz ρ j,(σ[j]?).join with
 |some _,some (.ref a)=>some a
 |_,_=>none
theorem v7{cap:List Nat}:a∈BJ cap σ ρ ↔ ∃j∈cap,(∃ds,qz ρ j=some ds)/\(σ[j]?).join=some (.ref a):=by
 unfold BJ;rw[f6];constructor
 ·rintro⟨j,hj,e⟩;refine⟨j,hj,?_⟩;split at e
  ·rename_i ds a' e1 e2;cases e;exact⟨⟨ds,e1⟩,e2⟩
  ·cases e
 ·rintro⟨j,hj,⟨ds,e1⟩,e2⟩;refine⟨j,hj,?_⟩;rw[e1,e2]
variable{H1':Hp}{ft:FT}{fe:FE}
section
variable{X:Cx}{G:Bg}{F:Fr}{σ:St}{ρ:List Sl}{H0 H:Hp}
theorem AG{k:Nat}{cap:List Nat}{s:Sl}(h:(xb k cap ρ)[i]?=some s):s=.un\/∃m j,i=k+m/\cap[m]?=some j/\s=((ρ[j]?).getD .un).cap:=by
 unfold xb at h;by_cases hi:i<k
 ·rw[cK (by simpa using hi),eI,aj hi]at h;cases h;exact .inl rfl
 ·rw[cJ (by simpa using kC hi),bO,aW]at h;cases e:cap[i - k]? with
  |none=>rw[e]at h;cases h
  |some j=>rw[e]at h;cases h;exact .inr ⟨i - k,j,by omega,e,rfl⟩
theorem yd{k:Nat}{cap:List Nat}{m:Nat}(h:cap[m]?=some j):((rO k cap σ)[k+m]?).join=(σ[j]?).join:=by unfold rO;rw[cJ (by simp),bO,show k+m - k=m by omega,aW,h];rfl
theorem RelE.cap(R:RelE G F σ ρ H0 H)(k:Nat)(cap:List Nat)(nd:cap.Nodup):RelE G ⟨H0,H,BJ cap σ ρ⟩ (rO k cap σ) (xb k cap ρ) H0 H where
 sub:=R.sub
 g0:=oM.refl _
 keep:=λb o e _=>e
 fr:=λb o e=>.inl e
 am:=λa ha=>by obtain⟨j,hj,⟨ds,e1⟩,e2⟩:=v7.mp ha;obtain⟨s,e3,e4⟩:=rD e1;obtain⟨a',xs,h1,h2,_⟩:=(R.sl j s e3).lst e4;rw[e2]at h1;cases h1;exact⟨_,h2⟩
 len:=by unfold rO xb;rw[aI,aI,bO,bO,ah,ah]
 sl:=λi s e=>by
  rcases AG e with rfl|⟨m,j,rfl,e1,rfl⟩
  ·trivial
  ·rw[yd e1];cases e2:ρ[j]? with
   |none=>trivial
   |some s=>
    have ok:=R.sl j s e2;have mem:∀{a:Addr} {ds:List D},s.L=some ds->(σ[j]?).join=some (.ref a)->a∈BJ cap σ ρ:=λh1 h2=>v7.mpr ⟨j,bK e1,⟨_,by unfold qz;rw[e2];exact h1⟩,h2⟩;cases s with
    |un=>trivial
    |im d=>exact ok
    |ls ds=>obtain⟨a,xs,h1,h2,h3,h4,h5⟩:=ok;exact⟨a,xs,h1,h2,h3,mem rfl h1,h5⟩
    |pm ds=>obtain⟨a,xs,h1,h2,h3,h4,h5⟩:=ok;exact⟨a,xs,h1,h2,h3,mem rfl h1,h5⟩
    |dk ks ds=>trivial
    |ob c ns ds=>trivial
 ap:=λi i' s t a hii e e' so to v v'=>by
  rcases AG e with rfl|⟨m,j,rfl,e1,rfl⟩
  ·cases so
  rcases AG e' with rfl|⟨m',j',rfl,e1',rfl⟩
  ·cases to
  rw[yd e1]at v;rw[yd e1']at v';have own:∀{j:Nat},(((ρ[j]?).getD Sl.un).cap).own=true->∃s,ρ[j]?=some s/\s.own=true:=λ{j} h=>by
   cases z:ρ[j]? with
   |none=>rw[z]at h;cases h
   |some s=>rw[z]at h;refine⟨s,rfl,?_⟩;cases s<;>first|rfl|cases h
  obtain⟨s,z,zo⟩:=own so;obtain⟨s',z',zo'⟩:=own to;by_cases hj:j=j'
  ·subst hj;have:m=m':=(List.getElem?_inj (bt.mp e1).1 nd).mp (e1.trans e1'.symm);exact hii (by rw[this])
  ·exact R.ap j j' s s' a hj z z' zo zo' v v'
theorem RelE.uncap(R:RelE G F σ ρ H0 H){k:Nat}{cap:List Nat}{σ4:St}{ρ4:List Sl}(R4:RelE G ⟨H0,H,BJ cap σ ρ⟩ σ4 ρ4 H1 H1')(hd:σ4.drop k=(rO k cap σ).drop k)(hu:q8 cap (ρ4.drop k) ρ=some ρ'):RelE G F σ ρ' H1 H1':=by
 obtain⟨hl,hc⟩:=ve hu;have at4:∀{m j:Nat},cap[m]?=some j->(σ4[k+m]?).join=(σ[j]?).join:=λ{m j} e=>by
  have q:(σ4.drop k)[m]?=((rO k cap σ).drop k)[m]?:=by rw[hd]
  rw[cZ,cZ]at q;rw[q];exact yd e
 have nA:∀{j:Nat} {s:Sl} {a:Addr},ρ[j]?=some s->s.own=true->(σ[j]?).join=some (.ref a)->(s.L≠none->j∉cap)->a∉BJ cap σ ρ:=λ{j s a} e so z hn ha=>by
  obtain⟨i,hi,⟨ds,e1⟩,e2⟩:=v7.mp ha;obtain⟨t,e3,e4⟩:=rD e1;by_cases hij:i=j
  ·subst hij;rw[e]at e3;cases e3;exact hn (by rw[e4];simp) hi
  ·exact R.ap i j t s a hij e3 e (Sl.L_own e4) so e2 z
 have hA:∀a∈BJ cap σ ρ,F.B a=none\/a∈F.A:=λa ha=>by obtain⟨i,hi,⟨ds,e1⟩,e2⟩:=v7.mp ha;obtain⟨t,e3,e4⟩:=rD e1;obtain⟨a',u,h1,h2,h3,h4⟩:=(R.sl i t e3).at (Sl.L_own e4);rw[e2]at h1;cases h1;exact h4
 have own':∀{j:Nat} {s':Sl},ρ'[j]?=some s'->s'.own=true->∃s,ρ[j]?=some s/\s.own=true:=λ{j s'} e so=>by
  obtain⟨s,e1,q⟩:=hc j s' e;rcases q with ⟨rfl,q⟩|⟨m,ds,ds0,q1,q2,q3,q4⟩
  ·exact⟨s',e1,so⟩
  ·exact⟨s,e1,Sl.L_own q3⟩
 exact {
  sub:=R4.sub
  g0:=R.g0.trans R4.g0
  keep:=λb o e n=>by
   refine R4.keep b o (R.keep b o e n) λha=>?_;rcases hA b ha with q|q
   ·rw[q]at e;cases e
   ·exact n q
  fr:=λb o e=>by
   rcases R4.fr b o e with q|q
   ·exact R.fr b o q
   ·exact .inr (R.bNone q)
  am:=λa ha=>by
   obtain⟨o,q⟩:=R.am a ha;by_cases z:a∈BJ cap σ ρ
   ·exact R4.am a z
   ·exact⟨o,R4.keep a o q z⟩
  len:=by rw[hl];exact R.len
  sl:=λj s' e=>by
   obtain⟨s,e1,q⟩:=hc j s' e;rcases q with ⟨rfl,q⟩|⟨m,ds,ds0,q1,q2,q3,q4⟩
   ·refine(R.sl j s' e1).grow R4.g0 (λa u z so y=>R4.keep a u y (nA e1 so z q)) λa u z so y y0=>?_;cases w:H1 a with
    |none=>rfl
    |some o=>
     rcases R4.fr a o w with x|x
     ·have x':H0 a=some o:=x;rw[x']at y0;cases y0
     ·have x':H a=none:=x;rw[x']at y;cases y
   ·rw[cZ]at q2;obtain⟨a,xs,h1,h2,h3,h4,h5⟩:=R4.sl _ _ q2;rw[at4 q1]at h1;have ok:=R.sl j s e1;subst q4;cases s with
    |ls ds1=>obtain⟨a',xs',g1,g2,g3,g4,g5⟩:=ok;rw[h1]at g1;cases g1;exact⟨a,xs,h1,h2,h3,g4,h5⟩
    |pm ds1=>obtain⟨a',xs',g1,g2,g3,g4,g5⟩:=ok;rw[h1]at g1;cases g1;exact⟨a,xs,h1,h2,h3,g4,h5⟩
    |_=>cases q3
  ap:=λi j s t a hij ei ej so to v v'=>by
   obtain⟨s0,z,zo⟩:=own' ei so;obtain⟨t0,y,yo⟩:=own' ej to;exact R.ap i j s0 t0 a hij z y zo yo v v' }
theorem v8{k:Nat}{cap:List Nat}{ts:List Sl}(h:Apart σ ρ p)(hu:q8 cap ts ρ=some ρ'):Apart σ ρ' p:=λi s' e so=>by
 obtain⟨s,e1,q⟩:=(ve hu).2 i s' e;rcases q with ⟨rfl,q⟩|⟨m,ds,ds0,q1,q2,q3,q4⟩
 ·exact h i s' e1 so
 ·exact h i s e1 (Sl.L_own q3)
inductive CI(G:Bg) (F:Fr) (σ:St) (H1:Hp) (p:Addr) (k:Nat) (cap:List Nat) (g:FG) (ft:FT) (fe:FE) (ds es:List D) (ρ':List Sl) (i m:Nat) (acc:List V) (H2:Hp):Prop
 |mk (ρi:List Sl) (Hi:Hp) (dn rest:List D):m=ds.length - i->i<=ds.length->oM H1 Hi->RelE G F σ ρi Hi H2->H2 p=some (.lst acc)->Hi p=none->Apart σ ρi p->Reps G Hi dn acc->dn.length<=i->r9 k cap g ft fe (ds.drop i) ρi=some (rest,ρ')->es=dn++rest->CI G F σ H1 p k cap g ft fe ds es ρ' i m acc H2
theorem Dm{k:Nat}{cap:List Nat}{s:FA}{g:FG}(nd:cap.Nodup):∀σ H Q,tFN G (oQ k cap s g ft fe) σ H Q->zm (tFI G s) (tFG G k g) (tFT G ft) (tF G fe) k cap σ H Q:=λσ H Q hh=>by
 obtain⟨F,ρ,H0,es,ρ',R,e,kk⟩:=hh;unfold oQ at e;rcases oY (f:=s) (ρ:=ρ)with e1|⟨ds,ρ1,e1⟩<;>simp only[e1]at e
 ·cases e
 ·split at e
  ·rename_i hlen;refine⟨F,ρ,H0,ds,ρ1,R,e1,λJ H1 H1' s1 R1 wk p hp=>?_⟩;refine⟨CI G F σ H1 p k cap g ft fe ds es ρ',
    ⟨_,ρ1,H1,[],es,rfl,bN _,oM.refl _,R1.newOwn hp _,oH,R1.h0none hp,R1.apart hp,o7,aA _,e,rfl⟩,?_⟩
   rintro i m acc H2 ⟨ρi,Hi,dn,rest,rfl,hi,si,Ri,hp2,hp0,apt,rs,hdn,ei,rfl⟩;by_cases hlt:i<ds.length
   ·have ed:ds.drop i=ds[i]::ds.drop (i+1):=fR hlt;rw[ed]at ei;unfold r9 at ei;obtain⟨go,yl⟩:=(wk i Hi H2 si Ri.sub).1 ds[i] (aH hlt);refine .inr ⟨go,λx H3 y=>?_⟩;obtain⟨Hj,t1,t2,t3,t4,t5⟩:=yl x H3 y;have R2:=Ri.grow t3 t1 t2 t4;have hp3:H3 p=some (.lst acc):=t3 _ _ hp2;have hpj:Hj p=none:=by
     cases w:Hj p with
     |none=>rfl
     |some o=>
      rcases t4 p o w with z|z
      ·rw[hp0]at z;cases z
      ·rw[hp2]at z;cases z
    have RC:=R2.cap k cap nd;have npA:p∉BJ cap σ ρi:=λz=>by obtain⟨j,_,⟨ds',q1⟩,q2⟩:=v7.mp z;obtain⟨t,q3,q4⟩:=rD q1;exact apt j t q3 (Sl.L_own q4) q2
    cases e2:g ds[i] (xb k cap ρi)with
    |none=>simp only[e2]at ei;cases ei
    |some ρ2=>
     simp only[e2]at ei;refine⟨_,_,Hj,ds[i],ρ2,RC,t5,e2,λσ4 hd4 R4=>⟨hd4,?_⟩⟩;rcases oY (f:=ft) (ρ:=ρ2)with e3|⟨b,ρ3,e3⟩
     ·simp only[e3]at ei;cases ei
     ·refine⟨_,ρ2,Hj,b,ρ3,R4,e3,λH5 H5' s5 R5=>?_⟩;have keepP:∀{σ':St} {ρ'':List Sl} {Ha Ha':Hp},RelE G ⟨Hj,H3,BJ cap σ ρi⟩ σ' ρ'' Ha Ha'->Ha' p=some (.lst acc)/\Ha p=none:=λRz=>by
       refine⟨Rz.keep p _ hp3 npA,?_⟩;refine Option.eq_none_iff_forall_ne_some.mpr λo w2=>?_;rcases Rz.fr p o w2 with z|z
       ·have z':Hj p=some o:=z;rw[hpj]at z';cases z'
       ·have z':H3 p=none:=z;rw[hp3]at z';cases z'
      cases b with
      |false=>
       simp only[e3]at ei;refine D4 ?_;cases e4:q8 cap (ρ3.drop k) ρi with
       |none=>simp only[e4]at ei;cases ei
       |some ρn=>simp only[e4]at ei;obtain⟨w1,w2⟩:=keepP R5;exact⟨ds.length - (i+1),by omega,ρn,H5,dn,rest,rfl,hlt,si.trans (t1.trans s5),R2.uncap R5 hd4 e4,w1,w2,v8 (k:=k) apt e4,Reps.mono (t1.trans s5) _ _ rs,by omega,ei,rfl⟩
      |true=>
       simp only[e3]at ei;refine D5 ?_;rcases oY (f:=fe) (ρ:=ρ3)with e5|⟨x5,ρ5,e5⟩
       ·simp only[e5]at ei;cases ei
       ·simp only[e5]at ei;refine⟨_,ρ3,H5,x5,ρ5,R5,e5,λv H6 H6' s6 R6 rv=>?_⟩;obtain⟨w1,w2⟩:=keepP R6;cases e4:q8 cap (ρ5.drop k) ρi with
        |none=>simp only[e4]at ei;cases ei
        |some ρn=>
         simp only[e4]at ei;cases e6:r9 k cap g ft fe (ds.drop (i+1)) ρn with
         |none=>simp only[e6]at ei;cases ei
         |some q=>
          obtain⟨rest',ρz⟩:=q;simp only[e6]at ei;cases ei;have Rn:=R2.uncap R6 hd4 e4;have lacc:acc.length=dn.length:=(oG rs).symm;refine⟨acc,w1,wI (by omega),ds.length - (i+1),by omega,ρn,H6,dn++[x5],rest',rfl,hlt,si.trans (t1.trans (s5.trans s6)),?_,oH,w2,v8 (k:=k) apt e4,qu (Reps.mono (t1.trans (s5.trans s6)) _ _ rs) (o6 rv o7),by rw[aI,bB];omega,e6,by rw[bp];rfl⟩;exact {
           sub:=λb o e=>by rw[oF (λz=>by rw[z,w2]at e;cases e)];exact Rn.sub b o e
           g0:=Rn.g0
           keep:=λb o e n=>by rw[oF (λz=>by subst z;rw[R1.bNone hp]at e;cases e)];exact Rn.keep b o e n
           fr:=Rn.fr
           am:=λb hb=>by
            by_cases z:b=p
            ·subst z;exact⟨_,oH⟩
            ·rw[oF z];exact Rn.am b hb
           len:=Rn.len
           sl:=λj t ej=>(Rn.sl j t ej).grow (oM.refl _) (λb u z to q=>by rw[oF (λy=>v8 (k:=k) apt e4 j t ej to (by rw[z,y]))];exact q) λb u _ _ _ q=>q
           ap:=Rn.ap }
   ·have ez:ds.drop i=[]:=jC (by omega);rw[ez]at ei;unfold r9 at ei;cases ei;rw[br]at kk;exact .inl ⟨(wk i Hi H2 si Ri.sub).2 (by omega),kk p acc Hi H2 (s1.trans si) Ri hp2 hp0 (R1.bNone hp) apt rs⟩
  ·cases e
theorem Kj{k:Nat}{cap:List Nat}{s:FA}{g:FG}(nd:cap.Nodup)(h:PE X e (zm (tFI G s) (tFG G k g) (tFT G ft) (tF G fe) k cap)):PE X e (tFN G (oQ k cap s g ft fe)):=PE.weak h (Dm nd)
theorem Kk:PIf X [] (tFT G pF):=λpins s σ H Q I h=>by obtain⟨F,ρ,H0,b,ρ',R,e,k⟩:=h;cases e;exact MK pins s σ H Q I (k _ _ (oM.refl _) R)
end
def qP:D->Bool
 |.non=>true|.bl _=>true|.int _=>true|.str _=>true|_=>false
def vD:D->V
 |.non=>.non|.bl b=>.bl b|.int i=>.int i|.str x=>.str x|_=>.non
variable{r':R2}{g':D->D->Option D}{neg:Bool}{r:List V->Hp->VK->Prop}
section
variable{X:Cx}{G:Bg}{H:Hp}
theorem sJ{v:V}(h:Rep G H d v)(f:qP d=true):v=vD d:=by cases d<;>first|(unfold Rep at h;exact h)|cases f
theorem ye(f:qP d=true):∀H,Rep G H d (vD d):=λH=>by cases d<;>first|(unfold Rep;rfl)|cases f
theorem yR:∀{ds:List D} {xs:List V},Reps G H ds xs->ds.all qP=true->xs=ds.map vD
 |[],xs,h,f=>by unfold Reps at h;exact h
 |d::ds,xs,h,f=>by unfold Reps at h;obtain⟨v,r,rfl,h1,h2⟩:=h;rw[eh,aR]at f;rw[av,sJ h1 f.1,yR h2 f.2]
theorem Ej(f:qP d=true):xf (vD d)=true:=by cases d<;>first|rfl|cases f
theorem Cf:∀{ds:List D},ds.all qP=true->(ds.map vD).all xf=true
 |[],_=>rfl
 |d::ds,f=>by rw[eh,aR]at f;rw[av,eh,Ej f.1,Cf f.2];rfl
theorem OpR.or{f:aa->aa->Sem aa}{r:R2}(h:OpR X f r)(h':OpR X f r'):OpR X f (λx y H Q=>r x y H Q\/r' x y H Q):=λpins s σ H x y v u Q I rx ry q=>q.elim (h pins s σ H x y v u Q I rx ry) (h' pins s σ H x y v u Q I rx ry)
theorem OpD.or{r:R2}{g:D->D->Option D}(h:OpD G r g)(h':OpD G r' g'):OpD G (λx y H Q=>r x y H Q\/r' x y H Q) (λx y=>match g x y with|some z=>some z|none=>g' x y):=λx y z H0 H v u Q e s rx ry k=>by
 cases e1:g x y with
 |some w=>simp only[e1]at e;cases e;exact .inl (h x y _ H0 H v u Q e1 s rx ry k)
 |none=>simp only[e1]at e;exact .inr (h' x y z H0 H v u Q e s rx ry k)
def dI(C:Int->Int->Bool)(g:Int->Int->D):D->D->Option D
 |.int a,.int b=>if C a b=true then some (g a b)else none
 |_,_=>none
theorem GR{C:Int->Int->Bool}{C':Int->Int->Prop}{g:Int->Int->D}{g':Int->Int->V}(hC:∀a b,C a b=true->C' a b)(hf:∀a b,qP (g a b)=true/\vD (g a b)=g' a b):OpD G (rI C' g') (dI C g):=λx y z H0 H v u Q e s rx ry k=>by
 unfold dI at e;split at e
 ·rename_i a b;split at e
  ·rename_i hc;cases e;unfold Rep at rx ry;exact⟨a,b,rx,ry,hC _ _ hc,by rw[<-(hf a b).2];exact k _ λH0' _=>ye (hf a b).1 H0'⟩
  ·cases e
 ·cases e
theorem yS{g:Int->Int->D}{g':Int->Int->V}(hf:∀a b,qP (g a b)=true/\vD (g a b)=g' a b):OpD G (rI0 g') (dI (λ_ _=>true) g):=λx y z H0 H v u Q e s rx ry k=>by
 unfold dI at e;split at e
 ·rename_i a b;split at e
  ·cases e;unfold Rep at rx ry;exact⟨a,b,rx,ry,by rw[<-(hf a b).2];exact k _ λH0' _=>ye (hf a b).1 H0'⟩
  ·cases e
 ·cases e
def pO:=dI (λ_ _=>true) λa b=>.int (a+b)
def Kl:=dI (λ_ _=>true) λa b=>.int (a - b)
def xH(a:Int):Bool:=decide (-(2 ^ 64)<a)&&decide (a<2 ^ 64)
def sL:=dI (λa b=>xH a||xH b) λa b=>.int (a * b)
def rE:=dI (λ_ b=>decide (0<b)) λa b=>.int (a % b)
def xh:=dI (λ_ b=>decide (0<b)&&decide (b<1073741824)) λa b=>.int (a / b)
def zr:=dI (λa b=>decide (0<=b)&&decide (b<=1000000)&&decide (a.natAbs<2 ^ 64)) λa b=>.int (a ^ b.toNat)
def Ek:=dI (λ_ _=>true) λa b=>.bl (decide (a<b))
def sR:=dI (λ_ _=>true) λa b=>.bl (decide (a<=b))
def Km:=dI (λ_ _=>true) λa b=>.bl (decide (b<a))
def Qc:=dI (λ_ _=>true) λa b=>.bl (decide (b<=a))
theorem Qd:OpD G (rI0 λi j=>.int (i+j)) pO:=yS λ_ _=>⟨rfl,rfl⟩
theorem Qe:OpD G (rI0 λi j=>.int (i - j)) Kl:=yS λ_ _=>⟨rfl,rfl⟩
theorem Qf:OpD G (rI Mo λi j=>.int (i * j)) sL:=GR (λa b h=>by
 unfold xH at h;simp only[kP,aR,bu]at h;exact h) λ_ _=>⟨rfl,rfl⟩
theorem Qg:OpD G (rI (λ_ j=>0<j) λi j=>.int (i % j)) rE:=GR (λa b h=>by simpa using h) λ_ _=>⟨rfl,rfl⟩
theorem Qh:OpD G (rI Po λi j=>.int (i / j)) xh:=GR (λa b h=>by unfold Po;simpa using h) λ_ _=>⟨rfl,rfl⟩
theorem Qi:OpD G (rI Td λi j=>.int (i ^ j.toNat)) zr:=GR (λa b h=>by
 simp only[aR,bu]at h;exact⟨h.1.1,h.1.2,h.2⟩) λ_ _=>⟨rfl,rfl⟩
theorem TX:OpD G (rI0 λi j=>.bl (decide (i<j))) Ek:=yS λ_ _=>⟨rfl,rfl⟩
theorem TY:OpD G (rI0 λi j=>.bl (decide (i<=j))) sR:=yS λ_ _=>⟨rfl,rfl⟩
theorem TZ:OpD G (rI0 λi j=>.bl (decide (j<i))) Km:=yS λ_ _=>⟨rfl,rfl⟩
theorem T1:OpD G (rI0 λi j=>.bl (decide (j<=i))) Qc:=yS λ_ _=>⟨rfl,rfl⟩
def U0:D->D->Option D
 |.str a,.str b=>if a.length+b.length<=100000 then some (.str (a++b))else none
 |_,_=>none
theorem El{n:Nat}(h:n<=100000):n<=aE:=bM h (by rw[bh];decide)
def Kn:D->D->Option D
 |.str a,.str b=>some (.bl (!decide (b.cps.toList<a.cps.toList)))
 |_,_=>none
theorem Qj:OpD G (λx y H Q=>∃i j,x=.str i/\y=.str j/\Q (.bl (!decide (j.cps.toList<i.cps.toList))) H) Kn:=λx y z H0 H v u Q e s rx ry k=>by
 unfold Kn at e;split at e
 ·rename_i a b;cases e;unfold Rep at rx ry;exact⟨a,b,rx,ry,k _ λ_ _=>rj _⟩
 ·cases e
def yf:D->D->Option D
 |.non,.non=>some (.bl true)
 |_,.non=>some (.bl false)
 |_,_=>none
def Ko:D->D->Option D
 |.non,.non=>some (.bl false)
 |_,.non=>some (.bl true)
 |_,_=>none
theorem GT{v:V}(h:Rep G H d v):decide (v=.non)=(match d with|.non=>true|_=>false):=by
 cases d<;>unfold Rep at h
 ·subst h;rfl
 ·subst h;rfl
 ·subst h;rfl
 ·subst h;rfl
 ·obtain⟨a,xs,rfl,_⟩:=h;rfl
 ·obtain⟨a,xs,rfl,_⟩:=h;rfl
 ·obtain⟨a,xs,rfl,_⟩:=h;rfl
 ·obtain⟨a,dx,xs,rfl,_⟩:=h;rfl
 ·obtain⟨a,ob,xs,rfl,_⟩:=h;rfl
theorem Qk:OpD G (λx y H Q=>y=.non/\Q (.bl (decide (x=.non))) H) yf:=λx y z H0 H v u Q e s rx ry k=>by
 have e0:=GT rx;cases y<;>first|(cases x<;>cases e)|skip
 all_goals (unfold Rep at ry;refine⟨ry,?_⟩;rw[e0];exact k _ λ_ _=>rj _)
theorem Nr:OpD G (λx y H Q=>y=.non/\Q (.bl (!decide (x=.non))) H) Ko:=λx y z H0 H v u Q e s rx ry k=>by
 have e0:=GT rx;cases y<;>first|(cases x<;>cases e)|skip
 all_goals (unfold Rep at ry;refine⟨ry,?_⟩;rw[e0];exact k _ λ_ _=>rj _)
def Aa:D->D->Option D
 |.bl a,.bl b=>some (.bl (a != b))
 |_,_=>none
theorem Im:OpD G (λx y H Q=>∃i j,x=.bl i/\y=.bl j/\Q (.bl (i != j)) H) Aa:=λx y z H0 H v u Q e s rx ry k=>by
 unfold Aa at e;split at e
 ·rename_i a b;cases e;unfold Rep at rx ry;exact⟨a,b,rx,ry,k _ λ_ _=>rj _⟩
 ·cases e
mutual
def toD:D->Option L3.Dq
 |.non=>some .non
 |.bl b=>some (.bl b)
 |.int i=>some (.int i)
 |.str x=>some (.str x)
 |.tup ds=>match yT ds with
  |some l=>some (.tup l)
  |none=>none
 |.lst ds=>match yT ds with
  |some l=>some (.lst l)
  |none=>none
 |.fzl _=>none
 |.obj _ _ _=>none
 |.dic _ _=>none
def yT:List D->Option (List L3.Dq)
 |[]=>some []
 |d::ds=>match toD d with
  |some x=>match yT ds with
   |some l=>some (x::l)
   |none=>none
  |none=>none
end
mutual
theorem Dn:∀(d:D) (v:V) (x:L3.Dq),Rep G H d v->toD d=some x->L3.Rep G.K H x v
 |.non,v,x,h,e=>by unfold toD at e;cases e;unfold Rep at h;unfold L3.Rep;exact h
 |.bl b,v,x,h,e=>by unfold toD at e;cases e;unfold Rep at h;unfold L3.Rep;exact h
 |.int b,v,x,h,e=>by unfold toD at e;cases e;unfold Rep at h;unfold L3.Rep;exact h
 |.str b,v,x,h,e=>by unfold toD at e;cases e;unfold Rep at h;unfold L3.Rep;exact h
 |.tup ds,v,x,h,e=>by
  unfold toD at e;cases e1:yT ds with
  |none=>simp only[e1]at e;cases e
  |some l=>simp only[e1]at e;cases e;unfold Rep at h;obtain⟨a,xs,rfl,h1,h2⟩:=h;unfold L3.Rep;exact⟨a,xs,rfl,h1,AH ds xs l h2 e1⟩
 |.lst ds,v,x,h,e=>by
  unfold toD at e;cases e1:yT ds with
  |none=>simp only[e1]at e;cases e
  |some l=>simp only[e1]at e;cases e;unfold Rep at h;obtain⟨a,xs,rfl,h1,h2⟩:=h;unfold L3.Rep;exact⟨a,xs,rfl,SqL.of h1,AH ds xs l h2 e1⟩
 |.fzl _,v,x,h,e=>by unfold toD at e;cases e
 |.obj _ _ _,v,x,h,e=>by unfold toD at e;cases e
 |.dic _ _,v,x,h,e=>by unfold toD at e;cases e
theorem AH:∀(ds:List D) (xs:List V) (l:List L3.Dq),Reps G H ds xs->yT ds=some l->L3.Reps G.K H l xs
 |[],xs,l,h,e=>by unfold yT at e;cases e;unfold Reps at h;unfold L3.Reps;exact h
 |d::ds,xs,l,h,e=>by
  unfold yT at e;cases e1:toD d with
  |none=>simp only[e1]at e;cases e
  |some x=>
   simp only[e1]at e;cases e2:yT ds with
   |none=>simp only[e2]at e;cases e
   |some l'=>simp only[e2]at e;cases e;unfold Reps at h;obtain⟨v,r,rfl,h1,h2⟩:=h;unfold L3.Reps;exact⟨v,r,rfl,Dn d v x h1 e1,AH ds r l' h2 e2⟩
end
def BK(neg:Bool):D->D->Option D:=λx y=>match qP x&&qP y&&Jx (vD x) (vD y)with
 |true=>some (.bl (if neg then !decide (vD x=vD y)else decide (vD x=vD y)))
 |false=>none
def Fu(neg:Bool):D->D->Option D:=λx y=>match toD x,toD y with
 |some a,some b=>if GE a b&&decide (dpt a<=20)&&decide (dpt b<=20)then some (.bl (if neg then !eqD a b else eqD a b))else none
 |_,_=>none
def dEq(neg:Bool):D->D->Option D:=λx y=>match BK neg x y with
 |some z=>some z
 |none=>Fu neg x y
theorem Ql:OpD G rEq (BK false):=λx y z H0 H v u Q e s rx ry k=>by
 unfold BK at e;cases e1:qP x&&qP y&&Jx (vD x) (vD y)with
 |false=>simp only[e1]at e;cases e
 |true=>simp only[e1]at e;cases e;simp only[aR]at e1;rw[sJ rx e1.1.1,sJ ry e1.1.2];exact⟨e1.2,k _ λ_ _=>rj _⟩
theorem Qm:OpD G rNe (BK true):=λx y z H0 H v u Q e s rx ry k=>by
 unfold BK at e;cases e1:qP x&&qP y&&Jx (vD x) (vD y)with
 |false=>simp only[e1]at e;cases e
 |true=>simp only[e1]at e;cases e;simp only[aR]at e1;rw[sJ rx e1.1.1,sJ ry e1.1.2];exact⟨e1.2,k _ λ_ _=>rj _⟩
theorem Kp:OpD G (Fo G.K neg) (Fu neg):=λx y z H0 H v u Q e s rx ry k=>by
 unfold Fu at e;cases e1:toD x with
 |none=>simp only[e1]at e;cases e
 |some a=>
  cases e2:toD y with
  |none=>simp only[e1,e2]at e;cases e
  |some b=>
   simp only[e1,e2]at e;split at e
   ·rename_i hc;cases e;simp only[aR,bu]at hc;exact⟨a,b,Dn x v a (Rep.mono s _ _ rx) e1,Dn y u b (Rep.mono s _ _ ry) e2,hc.1.1,hc.1.2,hc.2,k _ λ_ _=>rj _⟩
   ·cases e
theorem Qn(hu:X.A.units+64<cLine)(hK:X.K=G.K:=by rfl):OpR X (aM .Eq) (λx y H Q=>rEq x y H Q\/Fo G.K false x y H Q):=by rw[<-hK];exact OpR.or Te (PV hu)
theorem Qo(hu:X.A.units+64<cLine)(hK:X.K=G.K:=by rfl):OpR X (aM .NotEq) (λx y H Q=>rNe x y H Q\/Fo G.K true x y H Q):=by rw[<-hK];exact OpR.or Tf (PX hu)
theorem T2:OpD G (λx y H Q=>rEq x y H Q\/Fo G.K false x y H Q) (dEq false):=OpD.or Ql Kp
theorem T3:OpD G (λx y H Q=>rNe x y H Q\/Fo G.K true x y H Q) (dEq true):=OpD.or Qm Kp
def Kq:D->Option (List D)
 |.tup ds=>some ds
 |.lst ds=>some ds
 |.fzl ds=>some ds
 |_=>none
theorem GU{v:V}(h:Rep G H d v)(e:Kq d=some ds):∃p xs,v=.ref p/\(SqL G.K H p xs\/SqT G.K H p xs)/\Reps G H ds xs:=by
 cases d with
 |tup l=>cases e;unfold Rep at h;obtain⟨a,xs,rfl,h1,h2⟩:=h;exact⟨a,xs,rfl,.inr h1,h2⟩
 |lst l=>cases e;unfold Rep at h;obtain⟨a,xs,rfl,h1,h2⟩:=h;exact⟨a,xs,rfl,.inl (SqL.of h1),h2⟩
 |fzl l=>cases e;unfold Rep at h;obtain⟨a,xs,rfl,h1,h2⟩:=h;exact⟨a,xs,rfl,.inl h1,h2⟩
 |_=>cases e
def dIn(neg:Bool):D->D->Option D:=λx y=>match Kq y with
 |some ds=>if qP x&&ds.all qP then some (.bl (if neg then !inV (vD x) (ds.map vD)else inV (vD x) (ds.map vD)))else none
 |none=>none
theorem GV{K:ak}{H:Hp}(s:oM H H')(h:SqL K H p xs\/SqT K H p xs):SqL K H' p xs\/SqT K H' p xs:=h.imp s.seq (SqT.mono s)
theorem OT:OpD G (rIn G.K neg) (dIn neg):=λx y z H0 H v u Q e s rx ry k=>by
 unfold dIn at e;cases e1:Kq y with
 |none=>simp only[e1]at e;cases e
 |some ds=>
  simp only[e1]at e;split at e
  ·rename_i hc;cases e;simp only[aR]at hc;obtain⟨p,xs,rfl,h1,h2⟩:=GU ry e1;refine⟨p,xs,rfl,GV s h1,?_,?_,?_⟩
   ·rw[sJ rx hc.1];exact Ej hc.1
   ·rw[yR h2 hc.2];exact Cf hc.2
   ·rw[sJ rx hc.1,yR h2 hc.2];exact k _ λ_ _=>rj _
  ·cases e
theorem Qp(hK:X.K=G.K:=by rfl):OpR X (aM .In) (rIn G.K false):=by rw[<-hK];exact HS
theorem Io(hK:X.K=G.K:=by rfl):OpR X (aM .NotIn) (rIn G.K true):=by rw[<-hK];exact Da
def dIx:D->D->Option D
 |.tup ds,.int i=>atI ds i
 |.lst ds,.int i=>atI ds i
 |.fzl ds,.int i=>atI ds i
 |.str x,.int i=>if x.length<=100000 then (atI x.cps.toList i).map λc=>.str ⟨#[c]⟩else none
 |_,_=>none
theorem T4:OpD G (rIx G.K) dIx:=λx y z H0 H v u Q e s rx ry k=>by
 cases y with
 |int i=>
  unfold Rep at ry;subst ry;cases x with
  |tup ds=>unfold Rep at rx;obtain⟨a,xs,rfl,h1,h2⟩:=rx;obtain⟨w,w1,w2⟩:=yb h2 (show atI ds i=some z from e);exact .inr (.inl ⟨a,xs,i,w,rfl,rfl,SqT.mono s h1,w1,k _ λH0' s'=>Rep.mono s' _ _ w2⟩)
  |lst ds=>unfold Rep at rx;obtain⟨a,xs,rfl,h1,h2⟩:=rx;obtain⟨w,w1,w2⟩:=yb h2 (show atI ds i=some z from e);exact .inl ⟨a,xs,i,w,rfl,rfl,s.seq (SqL.of h1),w1,k _ λH0' s'=>Rep.mono s' _ _ w2⟩
  |fzl ds=>unfold Rep at rx;obtain⟨a,xs,rfl,h1,h2⟩:=rx;obtain⟨w,w1,w2⟩:=yb h2 (show atI ds i=some z from e);exact .inl ⟨a,xs,i,w,rfl,rfl,s.seq h1,w1,k _ λH0' s'=>Rep.mono s' _ _ w2⟩
  |str t=>
   unfold Rep at rx;subst rx;unfold dIx at e;simp only at e;split at e
   ·rename_i hl;cases e1:atI t.cps.toList i with
    |none=>rw[e1]at e;cases e
    |some c=>rw[e1]at e;cases e;exact .inr (.inr ⟨t,i,c,rfl,rfl,El hl,e1,k _ λ_ _=>wJ _⟩)
   ·cases e
  |_=>cases e
 |_=>cases x<;>cases e
theorem UX(hK:X.K=G.K:=by rfl):IxR X (rIx G.K):=by rw[<-hK];exact PD
def Em(G:Bg)(r:List V->Hp->VK->Prop)(g:D->Option D):Prop:=∀x z H0 H v (Q:VK),g x=some z->oM H0 H->Rep G H0 x v->(∀w,(∀H0',oM H0 H0'->Rep G H0' z w)->Q w H)->r [v] H Q
theorem T5{g:D->Option D}(hr:Em G r g)(h:PE X e (tCB r (tFA G (aCons f ox)))):PE X e (tF G (c1 g f)):=PE.weak h λσ H Q hh=>by obtain⟨F,ρ,H0,d,ρ',R,e,k⟩:=hh;obtain⟨x,e1,e2⟩:=z8 e;refine⟨F,ρ,H0,[x],ρ',R,by unfold aCons;rw[e1];rfl,λys H1 H1' s R' rs=>?_⟩;unfold Reps at rs;obtain⟨v,r0,rfl,rv,rn⟩:=rs;unfold Reps at rn;subst rn;exact hr x d H1 H1' v Q e2 R'.sub rv λw hw=>k _ _ _ s R' (hw _ (oM.refl _))
theorem qb.or{f:aa}{r':List V->Hp->VK->Prop}(h:qb X f r)(h':qb X f r'):qb X f (λx H Q=>r x H Q\/r' x H Q):=λpins s σ H xs us Q I rv q=>q.elim (h pins s σ H xs us Q I rv) (h' pins s σ H xs us Q I rv)
def qQ:D->Option D
 |.tup ds=>some (.int ds.length)
 |.lst ds=>some (.int ds.length)
 |.fzl ds=>some (.int ds.length)
 |.str x=>if x.length<=100000 then some (.int x.length)else none
 |.dic ks ds=>some (.int ks.length)
 |_=>none
theorem Ip:qb X (.builtin "len") (λxs H Q=>∃a kvs,xs=[V.ref a]/\Rd H a (.dK kvs)/\Q (.int kvs.length) H):=by intro pins s σ H xs us Q I r h;obtain⟨a,kvs,rfl,ha,q⟩:=h;obtain⟨u,rfl,ru⟩:=vals1 r;cases ru;exact Tx I ha λt s' I'=>⟨.int kvs.length,H,I',⟨t,rfl⟩,q⟩
def OU(K:ak):List V->Hp->VK->Prop:=λxs H Q=>(∃p ys,xs=[.ref p]/\(SqL K H p ys\/SqT K H p ys)/\Q (.int ys.length) H)\/((∃z,xs=[.str z]/\z.length<=aE/\Q (.int z.length) H)\/(∃a kvs,xs=[V.ref a]/\Rd H a (.dK kvs)/\Q (.int kvs.length) H))
theorem Iq(hK:X.K=G.K:=by rfl):qb X (.builtin "len") (OU G.K):=by rw[<-hK];exact qb.or Dc (qb.or Dd Ip)
theorem Qq:Em G (OU G.K) qQ:=λx z H0 H v Q e s rx k=>by
 cases x with
 |tup ds=>cases e;unfold Rep at rx;obtain⟨a,xs,rfl,h1,h2⟩:=rx;refine .inl ⟨a,xs,rfl,.inr (SqT.mono s h1),?_⟩;rw[<-oG h2];exact k _ λ_ _=>rf _
 |lst ds=>cases e;unfold Rep at rx;obtain⟨a,xs,rfl,h1,h2⟩:=rx;refine .inl ⟨a,xs,rfl,.inl (s.seq (SqL.of h1)),?_⟩;rw[<-oG h2];exact k _ λ_ _=>rf _
 |fzl ds=>cases e;unfold Rep at rx;obtain⟨a,xs,rfl,h1,h2⟩:=rx;refine .inl ⟨a,xs,rfl,.inl (s.seq h1),?_⟩;rw[<-oG h2];exact k _ λ_ _=>rf _
 |str t=>
  unfold qQ at e;simp only at e;split at e
  ·rename_i hl;cases e;unfold Rep at rx;exact .inr (.inl ⟨t,by rw[rx],El hl,k _ λ_ _=>rf _⟩)
  ·cases e
 |dic ks ds=>cases e;unfold Rep at rx;obtain⟨a,o,xs,rfl,h1,h2,h3⟩:=rx;refine .inr (.inr ⟨a,_,rfl,.inr ⟨o,s _ _ h1⟩,?_⟩);rw[dB,<- h2,c9];exact k _ λ_ _=>rf _
 |_=>cases e
def BL:List D->Option (List Bool)
 |[]=>some []
 |.bl b::r=>(BL r).map (b::·)
 |_=>none
theorem AI:∀{ds:List D} {xs:List V} {bs:List Bool},Reps G H ds xs->BL ds=some bs->xs=bs.map V.bl
 |[],xs,bs,h,e=>by cases e;unfold Reps at h;exact h
 |.bl b::r,xs,bs,h,e=>by
  unfold Reps at h;obtain⟨v,q,rfl,h1,h2⟩:=h;unfold BL at e;cases e1:BL r with
  |none=>rw[e1]at e;cases e
  |some l=>rw[e1]at e;cases e;unfold Rep at h1;subst h1;rw[AI h2 e1];rfl
 |.non::r,xs,bs,h,e=>by cases e
 |.int _::r,xs,bs,h,e=>by cases e
 |.str _::r,xs,bs,h,e=>by cases e
 |.tup _::r,xs,bs,h,e=>by cases e
 |.lst _::r,xs,bs,h,e=>by cases e
 |.fzl _::r,xs,bs,h,e=>by cases e
 |.obj _ _ _::r,xs,bs,h,e=>by cases e
 |.dic _ _::r,xs,bs,h,e=>by cases e
def tI:D->Option D
 |.lst ds=>(BL ds).map λbs=>.bl (bs.all id)
 |_=>none
theorem Qr:Em G (λxs H Q=>∃(p:Addr) (bs:List Bool),xs=[.ref p]/\SqL G.K H p (bs.map V.bl)/\Q (.bl (bs.all id)) H) tI:=λx z H0 H v Q e s rx k=>by
 cases x with
 |lst ds=>
  unfold tI at e;simp only at e;cases e1:BL ds with
  |none=>rw[e1]at e;cases e
  |some bs=>rw[e1]at e;cases e;unfold Rep at rx;obtain⟨a,xs,rfl,h1,h2⟩:=rx;rw[AI h2 e1]at h1;exact⟨a,bs,rfl,s.seq (SqL.of h1),k _ λ_ _=>rj _⟩
 |_=>cases e
theorem Ir(hc:X.calm=true)(hK:X.K=G.K:=by rfl):qb X (.builtin "all") (λxs H Q=>∃(p:Addr) (bs:List Bool),xs=[.ref p]/\SqL G.K H p (bs.map V.bl)/\Q (.bl (bs.all id)) H):=by rw[<-hK];exact JW hc
inductive Ty where
 |b (n:String)|c (k:Nat)
def Ty.val(G:Bg):Ty->aa
 |.b n=>.type n
 |.c k=>.ref (G.ca k)
def Ty.v(G:Bg):Ty->V
 |.b n=>.ty n
 |.c k=>.ref (G.ca k)
def tyD:D->Ty
 |.non=>.b "NoneType" |.bl _=>.b "bool" |.int _=>.b "int" |.str _=>.b "str" |.tup _=>.b "tuple" |.lst _=>.b "list" |.fzl _=>.b "list" |.dic _ _=>.b "dict" |.obj c _ _=>.c c
structure Iu(K:ak)(C:Addr):Prop where
 cl:Cls K C
 ha:cb K (.ref C) "__class__" = some (some (.builtin "object.__class__"))
 hn:l8 K (.builtin "object.__class__") "__get__" = some (some (.builtin "getset_descriptor.__get__"))
 htk:W.takesIn K (.builtin "object.__class__")=some true
 hm:W.mroIn K C (.type "object")=some true
theorem Kr{pins:List (Addr×Obj)}{s:ae}{A:az}{E:aa->ae->Prop}{Q:aa->ae->Prop}{c:aa}{b:Bool}{v:V}{u:aa}(I:Inv X pins σ H s)(hK:X.K=G.K)(hd:Rep G H d v)(rv:RelV v u)(hc:∀k ns ds,d=.obj k ns ds->Iu X.K (G.ca k))
  (e:cc X.K ((tyD d).val G) c=some b) (h:∀tk,Q (.bool b) { s with toks:=tk }):af (model X.prog X.w) A (call (.builtin "isinstance") [u,c]) Q E s:=by
 cases d with
 |non=>unfold Rep at hd;subst hd;exact tu I rv .non e h
 |bl x=>unfold Rep at hd;subst hd;exact tu I rv (.bl x) e h
 |int x=>unfold Rep at hd;subst hd;exact tu I rv (.int x) e h
 |str x=>unfold Rep at hd;subst hd;exact tu I rv (.str x) e h
 |tup ds=>unfold Rep at hd;obtain⟨a,xs,rfl,h1,h2⟩:=hd;cases rv;rw[<-hK]at h1;obtain⟨its,_,p,_⟩:=I.tuple h1;obtain⟨o,q1,q2,_⟩:=p;exact bQ lX I.kIn ⟨o,q1,q2⟩ e (λz=>nomatch z) h
 |lst ds=>unfold Rep at hd;obtain⟨a,xs,rfl,h1,h2⟩:=hd;exact tu I rv (.lst h1) e h
 |fzl ds=>unfold Rep at hd;obtain⟨a,xs,rfl,h1,h2⟩:=hd;cases rv;rw[<-hK]at h1;obtain⟨its,_,p,_⟩:=I.list h1;obtain⟨o,n,q1,q2,_⟩:=p;exact bQ iV I.kIn ⟨o,q1,q2⟩ e (λz=>nomatch z) h
 |dic ks ds=>unfold Rep at hd;obtain⟨a,o,xs,rfl,h1,h2,h3⟩:=hd;cases rv;obtain⟨q0,_,_,vs,_,ob,es,ep,q1,q2,_⟩:=(show ObjOk X.prog X.w H s.heap a (.frz o (.dK (ks.zip xs))) from I.hok a _ h1);exact bQ iW I.kIn ⟨ob,q1,q2.1⟩ e (λz=>nomatch z) h
 |obj k ns ds=>have ci:=hc k ns ds rfl;unfold Rep at hd;obtain⟨a,dx,xs,rfl,h1,h2,h3⟩:=hd;exact tu I rv (.ins h1 ci.cl ci.ha ci.hn ci.htk ci.hm) e h
def p6(t:Ty->Option Bool):D->Option D:=λd=>(t (tyD d)).map .bl
theorem Cg(c:Ty){t:Ty->Option Bool}(ht:∀y b,t y=some b->cc X.K (y.val G) (c.val G)=some b)(hc:∀k b,t (.c k)=some b->Iu X.K (G.ca k))(hK:X.K=G.K:=by rfl):
  qb X (.builtin "isinstance") (λxs H Q=>∃d x b,xs=[x,c.v G]/\Rep G H d x/\t (tyD d)=some b/\Q (.bl b) H):=by
 intro pins s σ H xs us Q I r h;obtain⟨d,x,b,rfl,hd,e,q⟩:=h;obtain⟨u,w',rfl,ru,rw'⟩:=vals2 r;have ew:w'=c.val G:=by cases c<;>exact rw'
 subst ew;exact Kr I hK hd ru (λk ns ds z=>by subst z;exact hc k b e) (ht _ _ e) λtk=>⟨.bl b,H,I.tok _,rfl,q⟩
theorem GW{c:Ty}{t:Ty->Option Bool}(h:PE X e (tCB (λxs H Q=>∃d x b,xs=[x,c.v G]/\Rep G H d x/\t (tyD d)=some b/\Q (.bl b) H) (An (tF G f) (An (tC (c.v G)) DU)))):PE X e (tF G (c1 (p6 t) f)):=PE.weak h λσ H Q hh=>by
 obtain⟨F,ρ,H0,d,ρ',R,e,k⟩:=hh;obtain⟨x,e1,e2⟩:=z8 e;unfold p6 at e2;cases e3:t (tyD x)with
 |none=>rw[e3]at e2;cases e2
 |some b=>rw[e3]at e2;cases e2;exact⟨F,ρ,H0,x,ρ',R,e1,λv H1 H1' s R' r=>⟨x,v,b,rfl,Rep.mono R'.sub _ _ r,e3,k _ _ _ s R' (rj b)⟩⟩
def q9(f g:FE):FA:=λρ=>match f ρ with
 |some (.lst xs,ρ1)=>match g ρ1 with
  |some (.lst ys,ρ2)=>if xs.length+ys.length<=1000 then some (xs++ys,ρ2)else none
  |_=>none
 |_=>none
theorem Nt{a b:Expr}{g:FE}(ha:PE X a (tF G f))(hb:PE X b (tF G g)):PE X (.BinOp a .Add b pos) (tFN G (q9 f g)):=PE.weak (Jw PH ha hb) λσ H Q hh=>by
 obtain⟨F,ρ,H0,d,ρ',R,e,k⟩:=hh;unfold q9 at e;split at e
 ·rename_i xs ρ1 e1;split at e
  ·rename_i ys ρ2 e2;split at e
   ·rename_i hl;cases e;refine⟨F,ρ,H0,_,ρ1,R,e1,λv H1 H1' s R' r=>⟨F,ρ1,H1,_,_,R',e2,λu H2 H2' s2 R2 r2=>?_⟩⟩;have r':=Rep.mono s2 _ _ r;unfold Rep at r' r2;obtain⟨a1,xs1,rfl,h1,h2⟩:=r';obtain⟨a2,xs2,rfl,h3,h4⟩:=r2;refine⟨a1,a2,xs1,xs2,rfl,rfl,R2.sub _ _ h1,R2.sub _ _ h3,by rw[<-oG h2,<- oG h4];exact sf hl,λp hp=>?_⟩;exact k p _ _ _ (s.trans s2) (R2.newOwn hp _) oH (R2.h0none hp) (R2.bNone hp) (R2.apart hp) (qu h2 h4)
   ·cases e
  ·cases e
 ·cases e
def tf(f:FE):FA:=λρ=>match f ρ with
 |some (d,ρ1)=>match Kq d with
  |some ds=>some (ds,ρ1)
  |none=>none
 |none=>none
theorem Ks(h:PE X e (tCB (λxs H Q=>∃p ys,xs=[.ref p]/\(SqL G.K H p ys\/SqT G.K H p ys)/\∀l,H l=none->Q (.ref l) (upd H l (.lst ys))) (tFA G (aCons f ox)))):PE X e (tFN G (tf f)):=PE.weak h λσ H Q hh=>by
 obtain⟨F,ρ,H0,ds,ρ',R,e,k⟩:=hh;unfold tf at e;rcases oY (f:=f) (ρ:=ρ)with e1|⟨d,ρ1,e1⟩<;>simp only[e1]at e
 ·cases e
 ·cases e2:Kq d with
  |none=>simp only[e2]at e;cases e
  |some ds'=>simp only[e2]at e;cases e;refine⟨F,ρ,H0,[d],_,R,by unfold aCons;rw[e1];rfl,λys H1 H1' s R' rs=>?_⟩;unfold Reps at rs;obtain⟨v,r0,rfl,rv,rn⟩:=rs;unfold Reps at rn;subst rn;obtain⟨p,xs,rfl,h1,h2⟩:=GU rv e2;exact⟨p,xs,rfl,GV R'.sub h1,λl hl=>k l _ _ _ s (R'.newOwn hl _) oH (R'.h0none hl) (R'.bNone hl) (R'.apart hl) h2⟩
theorem Fv(hK:X.K=G.K:=by rfl):qb X (.type "list") (λxs H Q=>∃p ys,xs=[.ref p]/\(SqL G.K H p ys\/SqT G.K H p ys)/\∀l,H l=none->Q (.ref l) (upd H l (.lst ys))):=by rw[<-hK];exact De
def AJ(f:FE):FE:=λρ=>match f ρ with
 |some (.lst ds,ρ1)=>some (.tup ds,ρ1)
 |some (.tup ds,ρ1)=>some (.tup ds,ρ1)
 |_=>none
theorem Kt(h:PE X e (tCB (λxs H Q=>∃p ys,xs=[.ref p]/\((SqL G.K H p ys/\∀l,H l=none->Q (.ref l) (upd H l (.tup ys)))\/(SqT G.K H p ys/\Q (.ref p) H))) (tFA G (aCons f ox)))):PE X e (tF G (AJ f)):=PE.weak h λσ H Q hh=>by
 obtain⟨F,ρ,H0,ds,ρ',R,e,k⟩:=hh;unfold AJ at e;split at e
 ·rename_i xs ρ1 e1;cases e;refine⟨F,ρ,H0,[_],_,R,by unfold aCons;rw[e1];rfl,λys H1 H1' s R' rs=>?_⟩;unfold Reps at rs;obtain⟨v,r0,rfl,rv,rn⟩:=rs;unfold Reps at rn;subst rn;unfold Rep at rv;obtain⟨p,zs,rfl,h1,h2⟩:=rv;refine⟨p,zs,rfl,.inl ⟨SqL.of (R'.sub _ _ h1),λl hl=>?_⟩⟩;exact k _ _ _ (s.trans (oP (R'.h0none hl) _)) (R'.newIm hl _) (vd (SqT.of oH) (Reps.mono (oP (R'.h0none hl) _) _ _ h2))
 ·rename_i xs ρ1 e1;cases e;refine⟨F,ρ,H0,[_],_,R,by unfold aCons;rw[e1];rfl,λys H1 H1' s R' rs=>?_⟩;unfold Reps at rs;obtain⟨v,r0,rfl,rv,rn⟩:=rs;unfold Reps at rn;subst rn;have rv0:=rv;unfold Rep at rv;obtain⟨p,zs,rfl,h1,h2⟩:=rv;exact⟨p,zs,rfl,.inr ⟨SqT.mono R'.sub h1,k _ _ _ s R' rv0⟩⟩
 ·cases e
theorem Iv(hK:X.K=G.K:=by rfl):qb X (.type "tuple") (λxs H Q=>∃p ys,xs=[.ref p]/\((SqL G.K H p ys/\∀l,H l=none->Q (.ref l) (upd H l (.tup ys)))\/(SqT G.K H p ys/\Q (.ref p) H))):=by rw[<-hK];exact BG
def cutD(xs:List D)(lo hi:Option Int):List D:=(xs.drop (HT.sIx xs.length 0 lo)).take (HT.sIx xs.length xs.length hi - HT.sIx xs.length 0 lo)
theorem En{lo hi:Option Int}(r:Reps G H0 ds xs):Reps G H0 (cutD ds lo hi) (HQ xs lo hi):=by unfold cutD HQ;rw[<-oG r];exact Cd _ (Cc _ r)
def cSl(f:FE)(lo hi:Option Int):FA:=λρ=>match f ρ with
 |some (.lst ds,ρ1)=>some (cutD ds lo hi,ρ1)
 |some (.fzl ds,ρ1)=>some (cutD ds lo hi,ρ1)
 |_=>none
def tO(o:Option Int):TO:=λ_ H Q=>Q o H
theorem Iw{lo hi:Option Int}(h:PE X e (tSl (HR G.K) (tF G f) (tO lo) (tO hi))):PE X e (tFN G (cSl f lo hi)):=PE.weak h λσ H Q hh=>by
 obtain⟨F,ρ,H0,ds,ρ',R,e,k⟩:=hh;have gen:∀{a:Addr} {xs:List V} {ds':List D} {H1 H1':Hp},oM H0 H1->RelE G F σ ρ' H1 H1'->SqL G.K H1 a xs->Reps G H1 ds' xs->ds=cutD ds' lo hi->HR G.K (.ref a) lo hi H1' Q:=λ{a xs ds' H1 H1'} s R' h1 h2 e=>by subst e;exact⟨a,xs,rfl,R'.sub.seq h1,λp hp=>k p _ _ _ s (R'.newOwn hp _) oH (R'.h0none hp) (R'.bNone hp) (R'.apart hp) (En h2)⟩
 unfold cSl at e;split at e
 ·rename_i xs ρ1 e1;cases e;refine⟨F,ρ,H0,_,_,R,e1,λv H1 H1' s R' r=>?_⟩;unfold Rep at r;obtain⟨a,ys,rfl,h1,h2⟩:=r;exact gen s R' (SqL.of h1) h2 rfl
 ·rename_i xs ρ1 e1;cases e;refine⟨F,ρ,H0,_,_,R,e1,λv H1 H1' s R' r=>?_⟩;unfold Rep at r;obtain⟨a,ys,rfl,h1,h2⟩:=r;exact gen s R' h1 h2 rfl
 ·cases e
theorem Ku{n:Int}{j pos}:PO X (some (.Constant (.int n) j pos)) (tO (some n)):=λpins s σ H Q I h=>Gw E9 pins s σ H Q I ⟨n,rfl,h⟩
theorem T6(hK:X.K=G.K:=by rfl):SlR X (HR G.K):=by rw[<-hK];exact MC
end
def Sl.bor:Sl->Sl
 |.un=>.un
 |.im d=>.im d
 |.ls ds=>.im (.lst ds)
 |.pm ds=>.im (.lst ds)
 |.dk _ _=>.un
 |.ob c ns ds=>.im (.obj c ns ds)
variable{fa fb fc:FE}{op':dN}
section
variable{X:Cx}{G:Bg}
theorem RelE.bor{H:Hp}(R:RelE G F σ ρ H0 H):RelE G ⟨H,H,[]⟩ σ (ρ.map Sl.bor) H H where
 sub:=oM.refl _
 g0:=oM.refl _
 keep:=λb o e _=>e
 fr:=λb o e=>.inl e
 am:=λa h=>by cases h
 len:=by rw[ah];exact R.len
 sl:=λi s e=>by
  rw[aW]at e;cases e1:ρ[i]? with
  |none=>rw[e1]at e;cases e
  |some t=>
   rw[e1]at e;cases e;have ok:=R.sl i t e1;cases t with
   |un=>trivial
   |im d=>obtain⟨v,h1,h2⟩:=ok;exact⟨v,h1,Rep.mono R.sub _ _ h2⟩
   |ls ds=>obtain⟨a,xs,h1,h2,h3,h4,h5⟩:=ok;exact⟨_,h1,ud h2 (Reps.mono R.sub _ _ h5)⟩
   |pm ds=>obtain⟨a,xs,h1,h2,h3,h4,h5⟩:=ok;exact⟨_,h1,ud h2 (Reps.mono R.sub _ _ h5)⟩
   |dk ks ds=>trivial
   |ob c ns ds=>obtain⟨a,dx,xs,h1,h2,h3,h4,h5,h6⟩:=ok;exact⟨_,h1,by unfold Rep;exact⟨a,dx,xs,rfl,h2,h5,Reps.mono R.sub _ _ h6⟩⟩
 ap:=λi j s t a _ e _ so=>by
  rw[aW]at e;cases e1:ρ[i]? with
  |none=>rw[e1]at e;cases e
  |some t=>rw[e1]at e;cases e;cases t<;>cases so
theorem RelE.unbor{σ':St}{H:Hp}(R:RelE G F σ ρ H0 H)(R':RelE G ⟨H,H,[]⟩ σ' ρ' H1 H1'):RelE G F σ ρ H0 H1':=
 R.grow (λb o e=>R'.keep b o e (by simp)) (oM.refl _) (λb o e=>R'.keep b o (R.sub _ _ e) (by simp)) λb o e=>.inl e
def BM(f:FE):FE:=λρ=>match f (ρ.map Sl.bor)with
 |some (d,_)=>if qP d=true then some (d,ρ)else none
 |none=>none
def zt(f:FT):FT:=λρ=>match f (ρ.map Sl.bor)with
 |some (d,_)=>some (d,ρ)
 |none=>none
theorem Qs(h:PE X e (tF G f)):PE X e (tF G (BM f)):=PE.weak h λσ H Q hh=>by
 obtain⟨F,ρ,H0,d,ρ',R,e,k⟩:=hh;unfold BM at e;rcases oY (f:=f) (ρ:=ρ.map Sl.bor)with e1|⟨x,ρ1,e1⟩<;>simp only[e1]at e
 ·cases e
 ·split at e
  ·rename_i hf;cases e;refine⟨_,_,H,d,ρ1,R.bor,e1,λv H1 H1' s R' r=>?_⟩;rw[sJ r hf];exact k _ _ _ (oM.refl _) (R.unbor R') (ye hf _)
  ·cases e
theorem Nu{f:FT}(h:PT X e (tFT G f)):PT X e (tFT G (zt f)):=PT.weak h λσ H Q hh=>by
 obtain⟨F,ρ,H0,d,ρ',R,e,k⟩:=hh;unfold zt at e;rcases oY (f:=f) (ρ:=ρ.map Sl.bor)with e1|⟨x,ρ1,e1⟩<;>simp only[e1]at e
 ·cases e
 ·cases e;exact⟨_,_,H,d,ρ1,R.bor,e1,λH1 H1' s R'=>k _ _ (oM.refl _) (R.unbor R')⟩
def qI(g g':D->D->Option D)(fa fb fc:FE):FE:=λρ=>match fa ρ with
 |some (x,ρ1)=>match fb ρ1 with
  |some (y,ρ2)=>match g x y with
   |some (.bl true)=>match fc ρ2 with
    |some (z,ρ3)=>match g' y z with
     |some w=>some (w,ρ3)
     |none=>none
    |none=>none
   |some (.bl false)=>some (.bl false,ρ2)
   |_=>none
  |none=>none
 |none=>none
theorem Eo{r:R2}{g:D->D->Option D}(ho:OpD G r g)(ho':OpD G r' g'):∀σ H Q,tF G (qI g g' fa fb fc) σ H Q->Fd r r' (tF G fa) (tF G fb) (tF G fc) σ H Q:=λσ H Q hh=>by
 obtain⟨F,ρ,H0,d,ρ',R,e,k⟩:=hh;unfold qI at e;rcases oY (f:=fa) (ρ:=ρ)with e1|⟨x,ρ1,e1⟩<;>simp only[e1]at e
 ·cases e
 rcases oY (f:=fb) (ρ:=ρ1)with e2|⟨y,ρ2,e2⟩<;>simp only[e2]at e
 ·cases e
 refine⟨F,ρ,H0,x,ρ1,R,e1,λv H1 H1' s1 R1 r1=>⟨F,ρ1,H1,y,ρ2,R1,e2,λu H2 H2' s2 R2 r2=>?_⟩⟩;split at e
 ·rename_i e3;refine ho x y _ H2 H2' v u _ e3 R2.sub (Rep.mono s2 _ _ r1) r2 λw hw=>?_;have hw':=hw H2 (oM.refl _);unfold Rep at hw';refine⟨true,hw',D5 ?_⟩;rcases oY (f:=fc) (ρ:=ρ2)with e4|⟨z,ρ3,e4⟩<;>simp only[e4]at e
  ·cases e
  cases e5:g' y z with
  |none=>simp only[e5]at e;cases e
  |some q=>simp only[e5]at e;cases e;refine⟨F,ρ2,H2,z,_,R2,e4,λt H3 H3' s3 R3 r3=>?_⟩;exact ho' y z _ H3 H3' u t Q e5 R3.sub (Rep.mono s3 _ _ r2) r3 λw hw=>k w H3 H3' (s1.trans (s2.trans s3)) R3 (hw _ (oM.refl _))
 ·rename_i e3;cases e;refine ho x y _ H2 H2' v u _ e3 R2.sub (Rep.mono s2 _ _ r1) r2 λw hw=>?_;have hw':=hw H2 (oM.refl _);unfold Rep at hw';exact⟨false,hw',D4 (k _ _ _ (s1.trans s2) R2 (rj false))⟩
 ·cases e
theorem Kv{a b c:Expr}{r:R2}{g:D->D->Option D}(hr:OpR X (aM op) r)(hr':OpR X (aM op') r')(ho:OpD G r g)(ho':OpD G r' g')(ha:PE X a (tF G fa))(hb:PE X b (tF G fb))(hc:PE X c (tF G fc))
  (hm:lastMarks [op,op'] [b,c]=false:=by with_unfolding_all rfl):PE X (.Compare a [op,op'] [b,c] pos) (tF G (qI g g' fa fb fc)):=PE.weak (JA hr hr' ha hb hc hm) (Eo ho ho')
theorem Iy{a b c:Expr}{r:R2}{g:D->D->Option D}(hr:OpR X (aM op) r)(hr':OpR X (aM op') r')(ho:OpD G r g)(ho':OpD G r' g')(ha:PE X a (tF G fa))(hb:PE X b (tF G fb))(hc:PE X c (tF G fc))
  (hm:lastMarks [op,op'] [b,c]=false:=by with_unfolding_all rfl):PT X (.Compare a [op,op'] [b,c] pos) (tFT G (cT (qI g g' fa fb fc))):=PT.weak (JB hr hr' ha hb hc hm) λσ H Q hh=>by
 obtain⟨F,ρ,H0,d,ρ',R,e,k⟩:=GL σ H Q hh;exact Eo ho ho' σ H _ ⟨F,ρ,H0,d,ρ',R,e,k⟩
end
def uM(P:au)(w:aq)(K:ak)(mg:Str->Option aa)(base:Heap)(k:Nat)(x:Str)(ps:List Str)(sp:Sp):Prop:=
 ∃(f:Addr) (fd:bb),mg x=some (.ref f)/\cF K (.ref f)=true/\Binds K fd ps []/\se P w K mg base CX0 k f fd ps sp
def Do(G:Bg)(P:au)(w:aq)(mg:Str->Option aa)(base:Heap)(k:Nat)(x:Str)(c:Nat)(ps:List Str)(dvs:List V)(g:List D->Option (List Str×List D)):Prop:=
 ∃(f:Addr) (fd:bb) (ds:List aa),Mk G.K (G.ca c) f/\mg x=some (.ref (G.ca c))/\Binds G.K fd ps ds/\Vals dvs ds/\se P w G.K mg base CX0 k f fd ps (spI G c g)
def yU(G:Bg)(P:au)(w:aq)(mg:Str->Option aa)(base:Heap)(k:Nat)(m:Str)(c:Nat)(h:List D->Option D):Prop:=
 ∃(f:Addr) (fd:bb) (ps:List Str),Cls G.K (G.ca c)/\Meth G.K (G.ca c) m f/\Binds G.K fd ps []/\se P w G.K mg base CX0 k f fd ps (spF G h)
section
variable{X:Cx}{G:Bg}{k:Nat}{x m:Str}{p pos apos:Pos}{e o:Expr}{es:List Expr}{a:FA}{ps:List Str}
theorem zu{α:Type}(g:List D->α):(λds=>g (ds++[]))=g:=funext λds=>by rw[br]
theorem Qt{g:List D->Option D}(D:uM X.prog X.w X.K X.mg X.base k x ps (spF G g))(hr:pW k X.A)(ha:PA X (e::es) (tFA G a))(hg:Gl X x:=by rfl)(hdb:(x==("__debug__" : Str))=false:=by decide)(he:ar (e::es) X.env=(false,eval e X.env)::ar es X.env:=by rfl)(hpl:(aV pos (ar es X.env)).any (·.1)=false:=by rfl):
  PE X (.Call (.Name x p) (e::es) [] pos) (tF G (oE g a)):=by
 obtain⟨f,fd,h1,h2,h3,h4⟩:=D;have q:=Nd (dvs:=[]) (dds:=[]) (λ_=>o7) (xY (p:=p) (pos:=pos) h4 hr hg h1 h2 h3 .nil zk ha hdb he hpl);rw[zu]at q;exact q
theorem Nv{g:List D->Option (List D)}(D:uM X.prog X.w X.K X.mg X.base k x ps (spN G g))(hr:pW k X.A)(ha:PA X (e::es) (tFA G a))(hg:Gl X x:=by rfl)(hdb:(x==("__debug__" : Str))=false:=by decide)(he:ar (e::es) X.env=(false,eval e X.env)::ar es X.env:=by rfl)(hpl:(aV pos (ar es X.env)).any (·.1)=false:=by rfl):
  PE X (.Call (.Name x p) (e::es) [] pos) (tFN G (pP g a)):=by
 obtain⟨f,fd,h1,h2,h3,h4⟩:=D;have q:=Ka (dvs:=[]) (dds:=[]) (λ_=>o7) (xY (p:=p) (pos:=pos) h4 hr hg h1 h2 h3 .nil zk ha hdb he hpl);rw[zu]at q;exact q
theorem Kw{g:List D->Option (List D)}(D:uM X.prog X.w X.K X.mg X.base k x ps (spN G g))(hr:pW k X.A)(hg:Gl X x:=by rfl)(hdb:(x==("__debug__" : Str))=false:=by decide):PE X (.Call (.Name x p) [] [] pos) (tFN G (pP g ox)):=by obtain⟨f,fd,h1,h2,h3,h4⟩:=D;exact Ie (JG h4 hr hg h1 h2 h3 .nil zk hdb)
theorem Nw{g:List D->List D->Option (D×List D)}(D:uM X.prog X.w X.K X.mg X.base k x ps (spM G g))(hr:pW k X.A)(hv:PE X e (ua i))(ha:PA X es (tFA G a))(hg:Gl X x:=by rfl)(hdb:(x==("__debug__" : Str))=false:=by decide)(he:ar (e::es) X.env=(false,eval e X.env)::ar es X.env:=by rfl)(hpl:(aV pos (ar es X.env)).any (·.1)=false:=by rfl):
  PE X (.Call (.Name x p) (e::es) [] pos) (tF G (qf g i a)):=by
 obtain⟨f,fd,h1,h2,h3,h4⟩:=D;exact Qb (xY (p:=p) (pos:=pos) h4 hr hg h1 h2 h3 .nil zk (qK hv ha he) hdb he hpl)
theorem Nx{g:List D->Option (List Str×List D)}(M:Do G X.prog X.w X.mg X.base k x c ps dvs g)(hd:∀H,Reps G H dds dvs)(hr:pW (k+1) X.A)(ha:PA X (e::es) (tFA G a))(hK:X.K=G.K:=by rfl)(hg:Gl X x:=by rfl)(hdb:(x==("__debug__" : Str))=false:=by decide)
  (he:ar (e::es) X.env=(false,eval e X.env)::ar es X.env:=by rfl) (hpl:(aV pos (ar es X.env)).any (·.1)=false:=by rfl):
  PE X (.Call (.Name x p) (e::es) [] pos) (tF G (pA c (λds=>g (ds++dds)) a)):=by
 obtain⟨f,fd,ds,h1,h2,h3,h4,h5⟩:=M;rw[<-hK]at h1 h3 h5;exact Ng hd (Mv (p:=p) (pos:=pos) h1 h5 hr hg h2 h3 h4 zk ha hdb he hpl)
theorem OV{g:Nat->Option (List D->Option D)}(M:∀c h,g c=some h->yU G X.prog X.w X.mg X.base k m c h)(hr:pW k X.A)(hK:X.K=G.K):∀C sp,MT G g C sp->MOk X C m sp [] E0:=λC sp h=>by obtain⟨c,h,e,rfl,rfl⟩:=h;obtain⟨f,fd,ps,q1,q2,q3,q4⟩:=M c h e;rw[<-hK]at q1 q2 q3 q4;exact⟨k,f,fd,ps,[],q1,q2,q4,hr,q3,.nil,zk⟩
theorem IA{g:Nat->Option (List D->Option D)}{pl:Sem Bool}(M:∀c h,g c=some h->yU G X.prog X.w X.mg X.base k m c h)(hr:pW k X.A)(ho:PE X o (tF G f))(ha:PA X (e::es) (tFA G a))(hK:X.K=G.K:=by rfl)
  (hst:ar (e::es) X.env=(false,eval e X.env)::ar es X.env:=by rfl) (hpl:(aV pos (ar es X.env)).any (·.1)=false:=by rfl)
  (ht:eval (.Call (.Attribute o m apos) (e::es) [] pos) X.env=(do
   let ov<-eval o X.env
   standAt apos.atName
   let (f,first)<-holding [ov] (getMethod ov m pl)
   callWith pos f first (aV pos (ar (e::es) X.env)) (backToKw pos (cE [] X.env))):=by rfl):
  PE X (.Call (.Attribute o m apos) (e::es) [] pos) (tF G (pE g m f a)):=Nf (E:=E0) (Kc (dvs:=[]) (MT G g) (OV M hr hK) ho ha hst hpl ht)
theorem Fw{g:Nat->Option (List D->Option D)}{pl:Sem Bool}(M:∀c h,g c=some h->yU G X.prog X.w X.mg X.base k m c h)(hr:pW k X.A)(ho:PE X o (tF G f))(hK:X.K=G.K:=by rfl)
  (ht:eval (.Call (.Attribute o m apos) [] [] pos) X.env=(do
   let ov<-eval o X.env
   standAt apos.atName
   let (f,first)<-holding [ov] (getMethod ov m pl)
   callWith pos f first (aV pos (ar [] X.env)) (backToKw pos (cE [] X.env))):=by rfl):
  PE X (.Call (.Attribute o m apos) [] [] pos) (tF G (pE g m f ox)):=Ke (E:=E0) (Ih (dvs:=[]) (MT G g) (OV M hr hK) ho ht)
end
section
variable{P:au}{w:aq}{K:ak}{mg:Str->Option aa}{base:Heap}{x qual:Str}{st:Stmt}{f T:Addr}{fd:bb}{N ps:List Str}{k:Nat}{G:Bg}
abbrev uN(P:au)(w:aq)(K:ak)(mg:Str->Option aa)(base:Heap)(N:List Str)(qual:Str)(st:Stmt)(f:Addr)(cdv:aa)(A:az)(outer:List Env)(s:ae)(H:Hp)(E:XK):Cx:=(DV CX0 P w K mg base N qual (oO st) f cdv A outer s H E).nox
theorem GY{n:Nat}{g:List D->Option D}(hg:g=fnD np n b)(hp:ps.length=np)(hN:N.length=n)(F:Fun K x qual st f fd)(S:pS N ps (oO st))(body:∀(cdv:aa) (A:az) (outer:List Env) (s:ae) (H:Hp) (E:XK),pW k (A.deeper (envOfC qual (oO st) s.heap.objs.size f cdv))->PSs (uN P w K mg base N qual st f cdv A outer s H E) (o9 st) (tFS G b)):
  se P w K mg base CX0 (k+1) f fd ps (spF G g):=by
 subst hg hp hN;exact F.ok S (TR M8) λcdv A outer s H vs Q E hr h=>⟨_,body cdv A outer s H E hr,M6 (by have:=aL bH S.pre;rw[bq]at this;omega) h⟩
theorem T7{n:Nat}{g:List D->Option (List D)}(hg:g=fnN np n b)(hp:ps.length=np)(hN:N.length=n)(F:Fun K x qual st f fd)(S:pS N ps (oO st))(body:∀(cdv:aa) (A:az) (outer:List Env) (s:ae) (H:Hp) (E:XK),pW k (A.deeper (envOfC qual (oO st) s.heap.objs.size f cdv))->PSs (uN P w K mg base N qual st f cdv A outer s H E) (o9 st) (tFS G b)):
  se P w K mg base CX0 (k+1) f fd ps (spN G g):=by
 subst hg hp hN;exact F.ok S (TU M9) λcdv A outer s H vs Q E hr h=>⟨_,body cdv A outer s H E hr,M7 (by have:=aL bH S.pre;rw[bq]at this;omega) h⟩
theorem T8{n:Nat}{g:List D->List D->Option (D×List D)}{p:Str}{ps:List Str}(hg:g=fnM np n b)(hp:ps.length=np)(hN:N.length=n)(F:Fun K x qual st f fd)(S:pS N (p::ps) (oO st))(body:∀(cdv:aa) (A:az) (outer:List Env) (s:ae) (H:Hp) (E:XK),pW k (A.deeper (envOfC qual (oO st) s.heap.objs.size f cdv))->PSs (uN P w K mg base N qual st f cdv A outer s H E) (o9 st) (tFS G b)):
  se P w K mg base CX0 (k+1) f fd (p::ps) (spM G g):=by
 subst hg hp hN;exact F.ok S (OS Nn) λcdv A outer s H vs Q E hr h=>⟨_,body cdv A outer s H E hr,Nl (by have:=aL bH S.pre;rw[bq,aD]at this;omega) h⟩
theorem OW{g:List D->Option (List Str×List D)}(hg:∀ds q,g ds=some q->ds.length=np):∀vs H Q E,spI G c g vs H Q E->vs.length=np+1:=λvs H Q E h=>by obtain⟨p,dx,us,H0,ds,ns,es,rfl,_,_,_,r,e,_⟩:=h;rw[aD,<- oG r,hg _ _ e]
theorem T9{n:Nat}{g:List D->Option (List Str×List D)}{p:Str}{ps:List Str}(hg:g=fnI c np n b)(hp:ps.length=np)(hN:N.length=n)(F:Fun K x qual st f fd)(S:pS N (p::ps) (oO st))(body:∀(cdv:aa) (A:az) (outer:List Env) (s:ae) (H:Hp) (E:XK),pW k (A.deeper (envOfC qual (oO st) s.heap.objs.size f cdv))->PSs (uN P w K mg base N qual st f cdv A outer s H E) (o9 st) (tFS G b)):
  se P w K mg base CX0 (k+1) f fd (p::ps) (spI G c g):=by
 subst hg hp hN;exact F.ok S (OW λds q h=>(AD h).1) λcdv A outer s H vs Q E hr h=>⟨_,body cdv A outer s H E hr,GP (by have:=aL bH S.pre;rw[bq,aD]at this;omega) h⟩
theorem Qu{n:Nat}{g:List D->Option (List Str×List D)}{p:Str}{ps:List Str}(hg:g=fnI c np n b)(hp:ps.length=np)(hN:N.length=n)(F:Ia K x qual st f fd T)(S:pS N (p::ps) (oO st))(body:∀(cdv:aa) (A:az) (outer:List Env) (s:ae) (H:Hp) (E:XK),pW k (A.deeper (envOfC qual (oO st) s.heap.objs.size f cdv))->PSs (uN P w K mg base N qual st f cdv A outer s H E) (o9 st) (tFS G b)):
  se P w K mg base CX0 (k+1) f fd (p::ps) (spI G c g):=by
 subst hg hp hN;exact F.ok S (OW λds q h=>(AD h).1) λcdv A outer s H vs Q E hr h=>⟨_,body cdv A outer s H E hr,GP (by have:=aL bH S.pre;rw[bq,aD]at this;omega) h⟩
end
section
variable{X:Cx}{G:Bg}
def wN(G:Bg)(mg:Str->Option aa)(x:Str)(d:D):Prop:=∃(v:V) (u:aa),mg x=some u/\RelV v u/\∀H,Rep G H d v
theorem Kz{x:Str}(h:wN G X.mg x d)(hg:Gl X x:=by rfl)(hd:(x==("__debug__" : Str))=false:=by decide):PE X (.Name x pos) (tF G (cC d)):=by obtain⟨v,u,h1,h2,h3⟩:=h;exact MQ (Gj hg h1 h2 hd) h3
def Ua:FS:=λ_=>none
def pK(T:String):Ty->Option Bool
 |.b n=>if n="NoneType" then some false else if n="bool" then some (T=="bool" ||T=="int")else if n="int" then some (T=="int")else if n="str" then some (T=="str")else if n="tuple" then some (T=="tuple")else if n="list" then some (T=="list")else if n="dict" then some (T=="dict")else none
 |.c _=>none
theorem KA{T:String}:∀k b,pK T (.c k)=some b->Iu X.K (G.ca k):=λk b h=>by cases h
theorem KB:∀y b,pK "list" y=some b->cc X.K (y.val G) (.type "list")=some b:=λy b h=>by
 cases y with
 |c k=>cases h
 |b n=>
  unfold pK at h;simp only at h
  iterate 7 (split at h;· rename_i e;subst e;cases h;first|rfl|kernel_rfl)
  cases h
theorem Ny:∀y b,pK "str" y=some b->cc X.K (y.val G) (.type "str")=some b:=λy b h=>by
 cases y with
 |c k=>cases h
 |b n=>
  unfold pK at h;simp only at h
  iterate 7 (split at h;· rename_i e;subst e;cases h;first|rfl|kernel_rfl)
  cases h
end
end L4
namespace L3
open PySem PySem.Spec PyProof.Rows L2
theorem NA{X:Cx}{i:Nat}{y:Str}{py spos:Pos}{elt iter tg:Expr}{ifs:List Expr}{scope:bY}{pos:Pos}{N':List Str}{k:Nat}{cap:List Nat}{wi:TI}{g:TG}{tt:TT}{te:TE}
  (hc:X.calm=true) (hN:X.N.Nodup) (hy:X.N[i]?=some y) (hyl:Loc X.env.scope y) (hi:PI X tg iter wi)
  (body:∀(cl:List (Str×Addr)) (C:Addr) (fp:List Addr) (s:ae) (H:Hp),PG (pX X N' scope cl C fp s H) tg g/\PIf (pX X N' scope cl C fp s H) ifs tt/\PE (pX X N' scope cl C fp s H) elt te)
  (hkind:scope.kind=.function:=by rfl) (hcell:(scope.names.all λy=>y.2 != .cell)=true:=by rfl)
  (hloc:(scope.names.all λy=>y.2 != .local||scope.names.lookup y.1==some .local)=true:=by rfl)
  (hfree:(scope.names.all λy=>y.2 != .free||(X.env.kindOf y.1==some .cell||X.env.kindOf y.1==some .free))=true:=by rfl)
  (hlen:N'.length=k+cap.length:=by rfl) (hcap:(N'.drop k).map some=cap.map λj=>X.N[j]?:=by rfl)
  (hcf:((N'.drop k).all λx=>scope.names.lookup x==some .free)=true:=by rfl)
  (hs:∀x,eS iter X.env x=pure x:=by intro _;rfl)
  (hsw:cn (.ListComp elt [⟨tg,iter,ifs,0⟩] scope pos) (some (.Name y py)) spos.line X.env=pure true:=by rfl)
  (hfy:X.fn y=true\/X.env.scope.names.lookup y=some .local:=by first|exact .inl rfl|exact .inr rfl|assumption):
  PS X (.Assign [.Name y py] (.ListComp elt [⟨tg,iter,ifs,0⟩] scope pos) spos) (xX (zm wi g tt te k cap) (sZ i)):=by
 intro pins s σ H D I h;rw[exec_Assign_Name_used _ _ _ _ hsw];refine ag (lK (ag ?_));show af _ X.A (do let _<-comprehension (.ListComp elt [⟨tg,iter,ifs,0⟩] scope pos) scope X.env _ (newList []) false (eval iter X.env) (some (assign (.Name y py) X.env))) _ _ s;refine ag (bx (B9 (P:=λ_ s'=>SP X pins D .next s') hc hi body hkind hcell hloc hfree hlen hcap hcf hs I h λa C m u s4 H3 hn back fpC qn=>?_) (λ_ s' hq=>aw (aw hq)) λ_ _ e=>e);obtain⟨oC,esC,nC,gC,dC,rC⟩:=id hn;have I7:=back.pinned (fp:=[C]) (λb hb=>bj.mp hb▸fpC) (λb hb=>bj.mp hb▸⟨oC,gC,λv z=>by rw[dC]at z;cases z⟩);show af _ X.A (assign (.Name y py) X.env (.ref a)) _ _ s4;refine thn (Gm (pos:=py) hN hy hyl hfy _ s4 σ H3 (.ref a) (.ref a) (λσ' H'=>D.nx σ' H') I7 rfl qn) λ_ s6 zz=>?_;obtain⟨σ6,H6,I8,q6⟩:=zz;obtain⟨p1,p2,_⟩:=I8.pin (C,oC) (bA _ (bA _ (tE (by simp) gC)));exact⟨m,⟨oC,esC,nC,p1,dC,rC⟩,λh' hs'=>⟨σ6,H6,I8.unpinned.turned (t':=s6.toks) (λb o hb e=>(hs'.2 b hb).trans e) p2 fpC.2.1 fpC.2.2.2.1 fpC.2.2.2.2.1 fpC.2.2.2.2.2,q6⟩⟩
end L3
namespace L4
open PySem PySem.Spec PyProof.Rows L2 L3
variable{st:Stmt}{te:TE}{i:Nat}{ft:FT}{fe:FE}
section
variable{X:Cx}{G:Bg}
theorem AK{te':TE}{g:TG}(h:PS X st (xX te g))(w:∀σ H Q,te' σ H Q->te σ H Q):PS X st (xX te' g):=PS.weak h λE σ H hh=>w _ _ _ hh
theorem IB{k:Nat}{cap:List Nat}{s:FA}{g:FG}(nd:cap.Nodup)(h:PS X st (xX (zm (tFI G s) (tFG G k g) (tFT G ft) (tF G fe) k cap) (sZ i))):PS X st (tFS G (rQ i (oQ k cap s g ft fe))):=Ed (AK h (Dm nd))
theorem KC{k:Nat}{cap:List Nat}{s:FA}{g:FG}(nd:cap.Nodup)(h:PS X st (xX (zm (tFI G s) (tFG G k g) (tFT G ft) (tF G fe) k cap) (sZ i))):PS X st (tFS G (px i (cL (oQ k cap s g ft fe)))):=GO (AK (AK h (Dm nd)) TQ)
end
variable{es0 es':List D}{np:Nat}{b:FS}
section
variable{f g h:FS}{c:FT}{e e' e2:FE}{a a':FA}{ρ ρ' ρ1 ρ2 ρ3:List Sl}{d x y z:D}{o:Out}{ds xs ys:List D}
theorem oA(h:f ρ=some (.nx ρ')):oI f g ρ=g ρ':=by unfold oI;rw[h]
theorem rF(h:f ρ=some (.rt d ρ')):oI f g ρ=some (.rt d ρ'):=by unfold oI;rw[h]
theorem sA(h:c ρ=some (true,ρ')):sIf c f g ρ=f ρ':=by unfold sIf;rw[h]
theorem pL(h:c ρ=some (false,ρ')):sIf c f g ρ=g ρ':=by unfold sIf;rw[h]
theorem pf(h:e ρ=some (d,ρ')):px i e ρ=some (.nx (ρ'.set i (.im d))):=by unfold px;rw[h]
theorem wQ(h:a ρ=some (ds,ρ')):rQ i a ρ=some (.nx (ρ'.set i (.ls ds))):=by unfold rQ;rw[h]
theorem pC(h:e ρ=some (d,ρ')):pb e ρ=some (.rt d ρ'):=by unfold pb;rw[h]
theorem uf(h:a ρ=some (ds,ρ')):qw a ρ=some (.rn ds ρ'):=by unfold qw;rw[h]
theorem p8(h:e ρ=some (d,ρ')):pd e ρ=some (.nx ρ'):=by unfold pd;rw[h]
theorem oT{g:D->D->Option D}(h1:e ρ=some (x,ρ1))(h2:e' ρ1=some (y,ρ2))(h3:g x y=some z):c2 g e e' ρ=some (z,ρ2):=by unfold c2;rw[h1];simp only[h2,h3]
theorem ph{g:D->Option D}(h1:e ρ=some (x,ρ1))(h3:g x=some z):c1 g e ρ=some (z,ρ1):=by unfold c1;rw[h1];simp only[h3]
theorem Qv(h1:e (ρ.map Sl.bor)=some (d,ρ1))(hf:qP d=true):BM e ρ=some (d,ρ):=by unfold BM;rw[h1];simp only[hf,if_true]
theorem GZ{b:Bool}(h1:c (ρ.map Sl.bor)=some (b,ρ1)):zt c ρ=some (b,ρ):=by unfold zt;rw[h1]
theorem qm{b:Bool}(h1:e ρ=some (.bl b,ρ1)):cT e ρ=some (b,ρ1):=by unfold cT;rw[h1]
theorem vg{b:Bool}(h1:c ρ=some (b,ρ1)):qc c ρ=some (!b,ρ1):=by unfold qc;rw[h1]
theorem xI{b:Bool}{c':FT}(h1:c ρ=some (false,ρ1))(h2:c' ρ1=some (b,ρ2)):uz c c' ρ=some (b,ρ2):=by unfold uz;rw[h1];exact h2
theorem oB(h1:e ρ=some (d,ρ1))(h2:a ρ1=some (ds,ρ2)):aCons e a ρ=some (d::ds,ρ2):=by unfold aCons;rw[h1];simp only[h2]
theorem oJ{α:Type}{g:List D->Option α}{r:α}(h1:a ρ=some (ds,ρ1))(h2:g ds=some r):yQ g a ρ=some (r,ρ1):=by unfold yQ;rw[h1];simp only[h2]
theorem pI(h1:a ρ=some (ds,ρ1)):cL a ρ=some (.lst ds,ρ1):=by unfold cL;rw[h1]
theorem Fy(h1:a ρ=some (ds,ρ1))(hl:ds.length<=1000):pB a ρ=some (ds,ρ1):=by unfold pB;rw[h1];simp only[hl,if_true]
theorem Dp(h1:a ρ=some (ds,ρ1))(hl:ds.length<=1000):qe a ρ=some (.tup ds,ρ1):=by unfold qe;rw[h1];simp only[hl,if_true]
theorem sS(h1:e ρ=some (.lst xs,ρ1))(h2:e' ρ1=some (.lst ys,ρ2))(hl:xs.length+ys.length<=1000):q9 e e' ρ=some (xs++ys,ρ2):=by unfold q9;rw[h1];simp only[h2,hl,if_true]
theorem sk{g:List D->List D->Option (D×List D)}{es:List D}(h0:qz ρ i=some es0)(h1:a ρ=some (ds,ρ1))(h2:qz ρ1 i=some es)(h3:g es ds=some (d,es')):qf g i a ρ=some (d,putAt ρ1 i es'):=by unfold qf;rw[h0];simp only[h1,h2,h3]
theorem AL{es:List D}(h0:qz ρ i=some es0)(h1:e ρ=some (d,ρ1))(h2:qz ρ1 i=some es)(hl:es.length<1000):xG i e ρ=some (.non,putAt ρ1 i (es++[d])):=by unfold xG;rw[h0];simp only[h1,h2,hl,if_true]
theorem pY{s:FA}{g:FG}(h1:s ρ=some (ds,ρ1)):rZ s g f ρ=forL g f ds ρ1:=by unfold rZ;rw[h1]
theorem yg{k:Nat}{cap:List Nat}{s:FA}{g:FG}(h1:s ρ=some (ds,ρ1))(hl:ds.length<=1000):oQ k cap s g ft fe ρ=r9 k cap g ft fe ds ρ1:=by unfold oQ;rw[h1];simp only[hl,if_true]
theorem Qw{n:Nat}{es:List D}(hl:ds.length=np)(h:b (L4.stM n es ds)=some (.rt d ρ))(h0:zq ρ=some es'):fnM np n b es ds=some (d,es'):=by unfold fnM;rw[aj hl,h];simp only[h0]
theorem Qx{n:Nat}{es:List D}(hl:ds.length=np)(h:b (L4.stM n es ds)=some (.rn xs ρ))(h0:zq ρ=some es'):fnM np n b es ds=some (.lst xs,es'):=by unfold fnM;rw[aj hl,h];simp only[h0]
theorem yV{n:Nat}(hl:ds.length=np)(h:b (L4.stE n ds)=some (.rn xs ρ)):fnN np n b ds=some xs:=by unfold fnN;rw[aj hl,h]
theorem o8{n:Nat}(hl:ds.length=np)(h:b (L4.stE n ds)=some (.rt d ρ)):fnD np n b ds=some d:=by unfold fnD;rw[aj hl,h]
end
theorem tw{a b:Int}(h:xH a=true\/xH b=true):sL (.int a) (.int b)=some (.int (a * b)):=by unfold sL dI;simp only;rw[aj (by simpa using h)]
theorem ug{a b:Int}(h:0<b):rE (.int a) (.int b)=some (.int (a % b)):=by unfold rE dI;simp only;rw[aj (by simpa using h)]
theorem div_pos{a b:Int}(h:0<b)(h':b<1073741824):xh (.int a) (.int b)=some (.int (a / b)):=by unfold xh dI;simp only;rw[aj (by simp[h,h'])]
theorem Ep{a:Int}(h:0<=a)(h':a<2147483647):xH a=true:=by unfold xH;simp only[aR,bu];omega
def xJ:D->Option Key
 |.int i=>some (.inl i)
 |.str x=>some (.inr x)
 |_=>none
def rb:List Key->List D->Key->Option D
 |k::ks,d::ds,j=>if k=j then some d else rb ks ds j
 |_,_,_=>none
def NB(ks:List Key)(ds:List D)(k:Key)(d:D):List D:=cD (λk' d'=>if k'=k then d else d') ks ds
def AM(ks:List Key)(k:Key):Bool:=ks.any λk'=>decide (k'=k)
variable{d:D}{a:Addr}{kvs:List (Key×V)}{f f' fk:FE}{pos apos cpos:Pos}{tg e:Expr}
section
variable{X:Cx}{G:Bg}{H:Hp}
theorem wU{v:V}{k:Key}(h:Rep G H d v)(e:xJ d=some k):v=kV k:=by
 cases d<;>first|cases e|skip
 all_goals (unfold Rep at h;exact h)
theorem yh:∀{ks:List Key} {ds:List D} {xs:List V} (j:Key),Reps G H ds xs->ks.length=xs.length->match rb ks ds j with
  |some d=>∃v,rY (ks.zip xs) j=some v/\Rep G H d v
  |none=>rY (ks.zip xs) j=none
 |[],ds,xs,j,r,l=>by cases ds<;>rfl
 |k::ks,ds,[],j,r,l=>by cases l
 |k::ks,[],x::xs,j,r,l=>by unfold Reps at r;cases r
 |k::ks,d::ds,x::xs,j,r,l=>by
  unfold Reps at r;obtain⟨v,q,e,h1,h2⟩:=r;cases e;unfold rb;by_cases hk:k=j
  ·rw[aj hk];exact⟨x,x3 (p:=(k,x)) hk,h1⟩
  ·rw[ai hk];have ih:=yh (ks:=ks) (ds:=ds) (xs:=xs) j h2 (by simpa using l);have e1:rY ((k::ks).zip (x::xs)) j=rY (ks.zip xs) j:=x4 (p:=(k,x)) hk;rw[e1];exact ih
theorem Dr{k:Key}:∀{ks:List Key} {xs:List V},ks.length=xs.length->((ks.zip xs).any λkv=>decide (kv.1=k))=AM ks k
 |[],xs,_=>by cases xs<;>rfl
 |k'::ks,[],l=>by cases l
 |k'::ks,x::xs,l=>by unfold AM;rw[cM,dF,dF,Dr (by simpa using l)];rfl
theorem G0{k:Key}{v:V}:∀{ks:List Key} {xs:List V},ks.length=xs.length->(ks.zip xs).map (λkv=>if kv.1=k then (kv.1,v)else kv)=ks.zip (cD (λk' x=>if k'=k then v else x) ks xs)
 |[],xs,_=>by cases xs<;>rfl
 |k'::ks,[],l=>by cases l
 |k'::ks,x::xs,l=>by
  rw[cM,av,G0 (by simpa using l),dm,cM];congr 1;by_cases hk:k'=k
  ·rw[aj hk,aj hk]
  ·rw[ai hk,ai hk]
theorem Er{k:Key}{d:D}{v:V}(hd:Rep G H d v):∀{ks:List Key} {ds:List D} {xs:List V},Reps G H ds xs->ks.length=xs.length->Reps G H (NB ks ds k d) (cD (λk' x=>if k'=k then v else x) ks xs)
 |[],ds,xs,r,l=>by unfold NB;cases ds<;>cases xs<;>exact o7
 |k'::ks,ds,[],r,l=>by cases l
 |k'::ks,[],x::xs,r,l=>by unfold Reps at r;cases r
 |k'::ks,d'::ds,x::xs,r,l=>by
  unfold Reps at r;obtain⟨w,q,e,h1,h2⟩:=r;cases e;unfold NB;rw[dm,dm];refine o6 ?_ (Er hd h2 (by simpa using l));by_cases hk:k'=k
  ·rw[aj hk,aj hk];exact hd
  ·rw[ai hk,ai hk];exact h1
theorem _root_.L2.DGet.kf{H:Hp}{o:Obj}{k:Key}(e:H a=some (.frz o (.dK kvs))):DGet H a (kV k) (rY kvs k):=.inl ⟨kvs,k,.inr ⟨o,e⟩,rfl,rfl⟩
def qL:D->D->Option D:=λx y=>match x,xJ y with
 |.dic ks ds,some k=>rb ks ds k
 |_,_=>none
theorem NC{a b:Expr}(hu:X.A.units+1<cLine)(ha:PE X a (tF G f))(hb:PE X b (tF G f'))(hs:PJ b:=by exact λ_ _=>rfl):PE X (.Subscript a b pos) (tF G (c2 qL f f')):=PE.weak (MF hu ha hb hs) λσ H Q hh=>by
 obtain⟨F,ρ,H0,d,ρ',R,e,k⟩:=hh;obtain⟨x,y,ρ1,e1,e2,e3⟩:=Dk e;refine⟨F,ρ,H0,x,ρ1,R,e1,λv H1 H1' s1 R1 r1=>⟨F,ρ1,H1,y,ρ',R1,e2,λu H2 H2' s2 R2 r2=>?_⟩⟩;have r1':=Rep.mono s2 _ _ r1;cases x with
 |dic ks ds=>
  unfold qL at e3;cases ek:xJ y with
  |none=>simp only[ek]at e3;cases e3
  |some j=>simp only[ek]at e3;unfold Rep at r1';obtain⟨p,ob,xs,rfl,h1,h2,h3⟩:=r1';have lv:=yh (ks:=ks) j h3 h2;rw[e3]at lv;obtain⟨w,w1,w2⟩:=lv;refine⟨p,w,rfl,?_,k w H2 H2' (s1.trans s2) R2 w2⟩;rw[wU r2 ek,<- w1];exact DGet.kf (R2.sub _ _ h1)
 |_=>unfold qL at e3;cases e3
def uO:D->D->Option D:=λx y=>match x,xJ y with
 |.dic ks ds,some k=>some ((rb ks ds k).getD .non)
 |_,_=>none
theorem KD{a b:Expr}(hu:X.A.units+1<cLine)(ha:PE X a (tF G f))(hb:PE X b (tF G f'))(m:M1 X a "get" apos b cpos):PE X (.Call (.Attribute a "get" apos) [b] [] cpos) (tF G (c2 uO f f')):=PE.weak (JT hu ha hb m) λσ H Q hh=>by
 obtain⟨F,ρ,H0,d,ρ',R,e,k⟩:=hh;obtain⟨x,y,ρ1,e1,e2,e3⟩:=Dk e;cases x with
 |dic ks ds=>
  refine⟨F,ρ,H0,_,ρ1,R,e1,λv H1 H1' s1 R1 r1=>?_⟩;have r1':=r1;unfold Rep at r1';obtain⟨p,ob,xs,rfl,h1,h2,h3⟩:=r1';refine⟨p,rfl,.inl ⟨_,.inr ⟨_,R1.sub _ _ h1⟩⟩,F,ρ1,H1,y,ρ',R1,e2,λu H2 H2' s2 R2 r2=>?_⟩;unfold uO at e3;cases ek:xJ y with
  |none=>simp only[ek]at e3;cases e3
  |some j=>
   simp only[ek]at e3;cases e3;have lv:=yh (ks:=ks) j (Reps.mono s2 _ _ h3) h2;refine⟨rY (ks.zip xs) j,?_,?_⟩
   ·rw[wU r2 ek];exact DGet.kf (R2.sub _ _ (s2 _ _ h1))
   ·cases el:rb ks ds j with
    |none=>rw[el]at lv k;rw[lv];exact k _ H2 H2' (s1.trans s2) R2 wK
    |some z=>rw[el]at lv k;obtain⟨w,w1,w2⟩:=lv;rw[w1];exact k _ H2 H2' (s1.trans s2) R2 w2
 |_=>unfold uO at e3;cases e3
def yi(i:Nat):FS:=λρ=>some (.nx (ρ.set i (.dk [] [])))
theorem KE(h:PS X st (xX Fm (sZ i))):PS X st (tFS G (yi i)):=PS.weak h λE σ H hh=>by obtain⟨F,ρ,H0,o,R,e,k,k2⟩:=hh;cases e;intro p hp;have R1:=R.newOwn hp (.dK []);refine k _ _ _ (oM.refl _) (R1.set (s:=.dk [] []) ⟨p,[],rfl,oH,R.h0none hp,R.bNone hp,rfl,o7⟩ λ_ a ea j t _ ej to=>?_);cases ea;exact R.apart hp j t ej to
def qo(i:Nat)(fk fv:FE):FS:=λρ=>match fv ρ with
 |some (d,ρ1)=>match ρ1[i]? with
  |some (.dk _ _)=>match fk ρ1 with
   |some (y,ρ2)=>match xJ y with
    |some k=>match ρ2[i]? with
     |some (.dk ks ds)=>if ks.length<1000 then if ds.length=ks.length then some (.nx (ρ2.set i (if AM ks k=true then .dk ks (NB ks ds k d)else .dk (ks++[k]) (ds++[d]))))else none else none
     |_=>none
    |none=>none
   |none=>none
  |_=>none
 |none=>none
theorem KF{fv:FE}(h:PS X st (OP (ua i) (tF G fk) (tF G fv))):PS X st (tFS G (qo i fk fv)):=PS.weak h λE σ H hh=>by
 obtain⟨F,ρ,H0,o,R,e,k,k2⟩:=hh;unfold qo at e;rcases oY (f:=fv) (ρ:=ρ)with e1|⟨d,ρ1,e1⟩<;>simp only[e1]at e
 ·cases e
 split at e
 ·rename_i ks0 ds0 ei;rcases oY (f:=fk) (ρ:=ρ1)with e2|⟨y,ρ2,e2⟩<;>simp only[e2]at e
  ·cases e
  cases ek:xJ y with
  |none=>simp only[ek]at e;cases e
  |some j=>
   simp only[ek]at e;split at e
   ·rename_i ks ds ei2;split at e
    ·rename_i hl;split at e
     ·rename_i hl2;cases e;refine⟨F,ρ,H0,d,ρ1,R,e1,λv H1 H1' s1 R1 r1=>?_⟩;obtain⟨a0,xs0,a1,_⟩:=R1.sl i _ ei;refine⟨_,qv a1,F,ρ1,H1,y,ρ2,R1,e2,λu H2 H2' s2 R2 r2=>?_⟩;obtain⟨a,xs,b1,b2,b3,b4,b5,b6⟩:=R2.sl i _ ei2;rw[a1]at b1;cases b1;refine⟨a0,upd H2' a0 (.dK (putK (ks.zip xs) j v)),rfl,?_,?_⟩
      ·rw[wU r2 ek];exact JR.k b2 (by rw[dB];exact iw (Nat.min_le_left _ _) (wI (by omega)))
      ·have rv:=Rep.mono s2 _ _ r1;refine k _ _ _ (s1.trans s2) (R2.mut ei2 rfl a1 (λH' hH=>?_) ?_)
       ·by_cases hk:AM ks j=true
        ·rw[aj hk];refine⟨a0,cD (λk' x=>if k'=j then v else x) ks xs,rfl,?_,b3,b4,by rw[ip,b5,c9],Er rv b6 b5⟩;rw[hH];unfold putK;rw[Dr b5,aj hk,G0 b5]
        ·rw[ai hk];refine⟨a0,xs++[v],rfl,?_,b3,b4,by rw[aI,aI,b5];rfl,qu b6 (o6 rv o7)⟩;rw[hH];unfold putK;rw[Dr b5,ai hk,kQ b5];rfl
       ·split<;>rfl
     ·cases e
    ·cases e
   ·cases e
 ·cases e
def AN:D->Option D
 |.lst ds=>(BL ds).map λbs=>.bl (bs.any id)
 |_=>none
theorem IC(hc:X.calm=true)(hK:X.K=G.K:=by rfl):qb X (.builtin "any") (λxs H Q=>∃(p:Addr) (bs:List Bool),xs=[.ref p]/\SqL G.K H p (bs.map V.bl)/\Q (.bl (bs.any id)) H):=by
 rw[<-hK];intro pins s σ H xs us Q I r h;obtain⟨p,bs,rfl,hq,q⟩:=h;obtain⟨u,rfl,ru⟩:=vals1 r;cases ru;obtain⟨its,rv,pl,hz⟩:=I.list hq;have hlt:p<s.heap.objs.size:=by obtain⟨o,ho,_⟩:=pl.isList;exact aF ho
 have hl:bs.length=its.length:=by have:=rv.length;rw[ah]at this;exact this
 refine call_any_walk (dR pl.isList ⟨s.heap.objs.size,_,_,_,_,_,λi=>(bs[i]?).getD false,rfl,gZ (show X.A.in1.handled=none from I.ok.hd hc) _ p (aO hlt) its.toArray,⟨⟨_,aS _ rfl,rfl,rfl⟩,?_⟩,?_,λh' tk hk=>?_⟩)
 ·exact pl.isList.at λo e=>aB _ e
 ·intro i v s' Q' E' hv hQ';have hv':its[i]?=some v:=by simpa using hv
  have hi:i<its.length:=(bt.mp hv').1;have hb:(bs.map V.bl)[i]?=some (.bl (bs[i]'(by omega))):=by simp[show i<bs.length by omega]
  obtain⟨u,hu,ru⟩:=rv.get hb;rw[hv']at hu;cases hu;cases ru;refine cq ?_;have e:(bs[i]?).getD false=bs[i]'(by omega):=by simp[show i<bs.length by omega]
  rw[<-e];exact hQ'
 ·refine⟨.bl (bs.any id),H,?_,?_,q⟩
  ·exact I.kept (t':=tk) λb o e=>hk b o (by simp;exact aO (aF e)) (aB _ e)
  ·show Value.bool _=Value.bool _;congr 1;rw[aQ,<- hl];rw[cN];simp only[dW,bL,id];constructor
   ·rintro⟨i,hi,h⟩;exact⟨bs[i],c5 hi,by simpa [hi]using h⟩
   ·rintro⟨b,hb,h⟩;obtain⟨i,hi,rfl⟩:=fX.mp hb;exact⟨i,hi,by simpa [hi]using h⟩
theorem Qy:Em G (λxs H Q=>∃(p:Addr) (bs:List Bool),xs=[.ref p]/\SqL G.K H p (bs.map V.bl)/\Q (.bl (bs.any id)) H) AN:=λx z H0 H v Q e s rx k=>by
 cases x with
 |lst ds=>
  unfold AN at e;simp only at e;cases e1:BL ds with
  |none=>rw[e1]at e;cases e
  |some bs=>rw[e1]at e;cases e;unfold Rep at rx;obtain⟨a,xs,rfl,h1,h2⟩:=rx;rw[AI h2 e1]at h1;exact⟨a,bs,rfl,s.seq (SqL.of h1),k _ λ_ _=>rj _⟩
 |_=>cases e
def iS(f:FE):FA:=λρ=>match f ρ with
 |some (.str x,ρ')=>some (x.cps.toList.map λc=>D.str ⟨#[c]⟩,ρ')
 |_=>none
theorem ND(h:PI X tg e (TC (tF G f))):PI X tg e (tFI G (iS f)):=PI.weak h λσ H R hh=>by
 obtain⟨F,ρ,H0,ds,ρ',R,e,k⟩:=hh;unfold iS at e;split at e
 ·rename_i x ρ1 e1;cases e;refine⟨F,ρ,H0,_,_,R,e1,λv H1 H1' s R' r=>?_⟩;unfold Rep at r;refine⟨x,r,k _ _ _ s R' λi H2 H2' t t'=>⟨λd ed=>?_,λhl=>?_⟩⟩
  ·rw[aW]at ed;cases ec:x.cps.toList[i]? with
   |none=>rw[ec]at ed;cases ed
   |some c=>
    rw[ec]at ed;cases ed;have ec':x.cps[i]?=some c:=by simpa using ec
    refine⟨(Array.getElem?_eq_some_iff.mp ec').1,λz H3 y=>?_⟩;obtain⟨e3,c',hc',rfl⟩:=y;rw[ec']at hc';cases hc';subst e3;exact⟨H2,oM.refl _,t',oM.refl _,λb o e=>.inl e,wJ _⟩
  ·show i=x.cps.size;rw[hl,ah];simp
 ·cases e
def zv(f g:FE):FE:=λρ=>match f ρ with
 |some (.tup (x::xs),ρ1)=>match g ρ1 with
  |some (.tup ys,ρ2)=>if xs.length+ys.length<=900 then some (.tup (x::xs++ys),ρ2)else none
  |_=>none
 |_=>none
theorem NF{a b:Expr}{g:FE}(ha:PE X a (tF G f))(hb:PE X b (tF G g))(hK:X.K=G.K:=by rfl):PE X (.BinOp a .Add b pos) (tF G (zv f g)):=PE.weak (Jw Mz ha hb) λσ H Q hh=>by
 rw[hK];obtain⟨F,ρ,H0,d,ρ',R,e,k⟩:=hh;unfold zv at e;split at e
 ·rename_i x xs ρ1 e1;split at e
  ·rename_i ys ρ2 e2;split at e
   ·rename_i hl;cases e;refine⟨F,ρ,H0,_,ρ1,R,e1,λv H1 H1' s R' r=>⟨F,ρ1,H1,_,_,R',e2,λu H2 H2' s2 R2 r2=>?_⟩⟩;have r':=Rep.mono s2 _ _ r;have r0:=r';unfold Rep at r' r2;obtain⟨a1,xs1,rfl,h1,h2⟩:=r';obtain⟨a2,xs2,rfl,h3,h4⟩:=r2;have l1:=oG h2;have l2:=oG h4;rw[aD]at l1;refine⟨a1,a2,xs1,xs2,rfl,rfl,SqT.mono R2.sub h1,SqT.mono R2.sub h3,(λz=>by rw[z]at l1;cases l1),by rw[<-l1,<- l2];exact sf (by omega),λz=>?_,λ_ p hp=>?_⟩
    ·have ey:ys=[]:=by rw[z]at l2;exact List.length_eq_zero_iff.mp l2
     subst ey;rw[br]at k;exact k _ _ _ (s.trans s2) R2 r0
    ·exact k _ _ _ ((s.trans s2).trans (oP (R2.h0none hp) _)) (R2.newIm hp _) (vd (SqT.of oH) (Reps.mono (oP (R2.h0none hp) _) _ _ (qu h2 h4)))
   ·cases e
  ·cases e
 ·cases e
end
section
variable{X:Cx}{G:Bg}
abbrev FO:=List Sl->Option (Option Int×List Sl)
def tFO(G:Bg)(f:FO):TO:=λσ H Q=>∃F ρ H0 d ρ',RelE G F σ ρ H0 H/\f ρ=some (d,ρ')/\∀H0' H',oM H0 H0'->RelE G F σ ρ' H0' H'->Q d H'
def oNo:FO:=λρ=>some (none,ρ)
def oAt(f:FE):FO:=λρ=>match f ρ with
 |some (.int i,ρ')=>some (some i,ρ')
 |_=>none
theorem PO.weak{e:Option Expr}{t t':TO}(h:PO X e t)(w:∀σ H Q,t' σ H Q->t σ H Q):PO X e t':=λpins s σ H Q I hq=>h pins s σ H Q I (w _ _ _ hq)
theorem Qz:PO X none (tFO G oNo):=PO.weak My λσ H Q hh=>by obtain⟨F,ρ,H0,d,ρ',R,e,k⟩:=hh;cases e;exact k _ _ (oM.refl _) R
theorem QA(h:PE X e (tF G f)):PO X (some e) (tFO G (oAt f)):=PO.weak (Gw h) λσ H Q hh=>by
 obtain⟨F,ρ,H0,d,ρ',R,e,k⟩:=hh;unfold oAt at e;split at e
 ·rename_i i ρ1 e1;cases e;refine⟨F,ρ,H0,_,_,R,e1,λv H1 H1' s R' r=>?_⟩;unfold Rep at r;exact⟨i,r,k _ _ s R'⟩
 ·cases e
def vU(f:FE)(lo hi:FO):FA:=λρ=>match f ρ with
 |some (d,ρ1)=>match d with
  |.lst ds=>match lo ρ1 with
   |some (l,ρ2)=>match hi ρ2 with
    |some (h,ρ3)=>some (cutD ds l h,ρ3)
    |none=>none
   |none=>none
  |.fzl ds=>match lo ρ1 with
   |some (l,ρ2)=>match hi ρ2 with
    |some (h,ρ3)=>some (cutD ds l h,ρ3)
    |none=>none
   |none=>none
  |_=>none
 |none=>none
theorem FB{lo hi:FO}(h:PE X e (tSl (HR G.K) (tF G f) (tFO G lo) (tFO G hi))):PE X e (tFN G (vU f lo hi)):=PE.weak h λσ H Q hh=>by
 obtain⟨F,ρ,H0,ds,ρ',R,e,k⟩:=hh;unfold vU at e;rcases oY (f:=f) (ρ:=ρ)with e1|⟨d,ρ1,e1⟩<;>simp only[e1]at e
 ·cases e
 have gen:∀(xs:List D),(∀{H1:Hp} {v:V},Rep G H1 d v->∃a ys,v=.ref a/\SqL G.K H1 a ys/\Reps G H1 xs ys)->(match lo ρ1 with
   |some (l,ρ2)=>match hi ρ2 with
    |some (h,ρ3)=>some (cutD xs l h,ρ3)
    |none=>none
   |none=>none)=some (ds,ρ')->tSl (HR G.K) (tF G f) (tFO G lo) (tFO G hi) σ H Q:=λxs rd e=>by
  rcases oY (f:=lo) (ρ:=ρ1)with e2|⟨l,ρ2,e2⟩<;>simp only[e2]at e
  ·cases e
  rcases oY (f:=hi) (ρ:=ρ2)with e3|⟨u,ρ3,e3⟩<;>simp only[e3]at e
  ·cases e
  cases e;refine⟨F,ρ,H0,d,ρ1,R,e1,λv H1 H1' s1 R1 r1=>⟨F,ρ1,H1,l,ρ2,R1,e2,λH2 H2' s2 R2=>⟨F,ρ2,H2,u,_,R2,e3,λH3 H3' s3 R3=>?_⟩⟩⟩;obtain⟨a,ys,rfl,q1,q2⟩:=rd (Rep.mono (s2.trans s3) _ _ r1);exact⟨a,ys,rfl,R3.sub.seq q1,λp hp=>k p _ _ _ (s1.trans (s2.trans s3)) (R3.newOwn hp _) oH (R3.h0none hp) (R3.bNone hp) (R3.apart hp) (En q2)⟩
 cases d with
 |lst xs=>exact gen xs (λr=>by unfold Rep at r;obtain⟨a,ys,rfl,q1,q2⟩:=r;exact⟨a,ys,rfl,SqL.of q1,q2⟩) e
 |fzl xs=>exact gen xs (λr=>by unfold Rep at r;exact r) e
 |_=>cases e
def Es:D->D->Option D
 |.str x,.int n=>if 0<=n/\n<=1000/\x.length<=100 then some (.str (fM x n))else none
 |_,_=>none
end
section
variable{X:Cx}{G:Bg}
def xK:FE:=λ_=>none
theorem KG:PE X e (tF G xK):=λpins s σ H Q I h=>by obtain⟨F,ρ,H0,d,ρ',R,e,_⟩:=h;cases e
def G1(f f' f2:FE):FE:=λρ=>match f ρ with
 |some (.dic ks ds,ρ1)=>match f' ρ1 with
  |some (y,ρ2)=>match f2 ρ2 with
   |some (x,ρ3)=>match xJ y with
    |some k=>some ((rb ks ds k).getD x,ρ3)
    |none=>none
   |none=>none
  |none=>none
 |_=>none
theorem KH{a b c:Expr}{f2:FE}(hu:X.A.units+1<cLine)(ha:PE X a (tF G f))(hb:PE X b (tF G f'))(hc:PE X c (tF G f2))(m:M2 X a "get" apos b c cpos):PE X (.Call (.Attribute a "get" apos) [b,c] [] cpos) (tF G (G1 f f' f2)):=PE.weak (JU hu ha hb hc m) λσ H Q hh=>by
 obtain⟨F,ρ,H0,d,ρ',R,e,k⟩:=hh;unfold G1 at e;split at e
 ·rename_i ks ds ρ1 e1;rcases oY (f:=f') (ρ:=ρ1)with e2|⟨y,ρ2,e2⟩<;>simp only[e2]at e
  ·cases e
  rcases oY (f:=f2) (ρ:=ρ2)with e3|⟨x,ρ3,e3⟩<;>simp only[e3]at e
  ·cases e
  cases ek:xJ y with
  |none=>simp only[ek]at e;cases e
  |some j=>
   simp only[ek]at e;cases e;refine⟨F,ρ,H0,_,ρ1,R,e1,λv H1 H1' s1 R1 r1=>?_⟩;unfold Rep at r1;obtain⟨p,ob,xs,rfl,h1,h2,h3⟩:=r1;refine⟨p,rfl,.inl ⟨_,.inr ⟨_,R1.sub _ _ h1⟩⟩,F,ρ1,H1,y,ρ2,R1,e2,λu H2 H2' s2 R2 r2=>⟨F,ρ2,H2,x,_,R2,e3,λz H3 H3' s3 R3 r3=>?_⟩⟩;have lv:=yh (ks:=ks) j (Reps.mono (s2.trans s3) _ _ h3) h2;refine⟨rY (ks.zip xs) j,?_,?_⟩
   ·rw[wU r2 ek];exact DGet.kf (R3.sub _ _ (s3 _ _ (s2 _ _ h1)))
   ·cases el:rb ks ds j with
    |none=>rw[el]at lv k;rw[lv];exact k _ H3 H3' (s1.trans (s2.trans s3)) R3 r3
    |some w=>rw[el]at lv k;obtain⟨w',w1,w2⟩:=lv;rw[w1];exact k _ H3 H3' (s1.trans (s2.trans s3)) R3 w2
 ·cases e
def FC(G:Bg)(c:Nat)(t:Ty->Option Bool):Prop:=(∀y b,t y=some b->cc G.K (y.val G) (.ref (G.ca c))=some b)/\∀j b,t (.c j)=some b->Iu G.K (G.ca j)
theorem FD{c:Nat}{t:Ty->Option Bool}(h:FC G c t)(hK:X.K=G.K:=by rfl):qb X (.builtin "isinstance") (λxs H Q=>∃d x b,xs=[x,(Ty.c c).v G]/\Rep G H d x/\t (tyD d)=some b/\Q (.bl b) H):=
 Cg (X:=X) (.c c) (by rw[hK];exact h.1) (by rw[hK];exact h.2) hK
end
def ddp(acc:List Key)(k:Key):List Key:=if acc.any (λz=>decide (z=k))then acc else acc++[k]
def ub(ks:List Key):List Key:=ks.foldl ddp []
theorem NG(acc:List Key)(k j:Key):(ddp acc k).any (λz=>decide (z=j))=(acc.any (λz=>decide (z=j))||decide (j=k)):=by
 unfold ddp;by_cases h:acc.any (λz=>decide (z=k))=true
 ·rw[aj h];by_cases e:j=k
  ·subst e;rw[h];simp
  ·simp[e]
 ·rw[ai h,List.any_append];by_cases e:j=k
  ·subst e;simp
  ·have hb:¬k=j:=λz=>e z.symm;simp[hb,e]
theorem G2(acc:List Key)(k:Key):(ddp acc k).length=if acc.any (λz=>decide (z=k))=true then acc.length else acc.length+1:=by unfold ddp;split<;>simp
theorem Ci(ks:List Key)(i:Nat)(h:i<ks.length):ub (ks.take (i+1))=ddp (ub (ks.take i)) ks[i]:=by unfold ub;rw[List.take_add_one,aH h,List.foldl_append];rfl
theorem KI(ks:List Key):(ub ks).length<=ks.length:=by
 have gen:∀(l:List Key) (acc:List Key),(l.foldl ddp acc).length<=acc.length+l.length:=by
  intro l
  induction l with
  |nil=>intro acc;simp
  |cons k l ih=>
   intro acc;rw[kR,aD];have h1:=ih (ddp acc k);have h2:(ddp acc k).length<=acc.length+1:=by rw[G2];split<;>omega
   omega
 have:=gen ks [];simpa [ub]using this
theorem set_same{prog:au}{w:aq}{h:Heap}{S S':Key->Bool}{n n':Nat}(hS:h.SetOf (oZ prog w) a S n)(e:∀k,S k=S' k)(en:n=n'):h.SetOf (oZ prog w) a S' n':=by obtain rfl:S=S':=funext e;subst en;exact hS
section
variable{prog:au}{w:aq}{A:az}{R:di->ae->Prop}{I:Addr}{fp wr:List Addr}{GG:Array fH->Array fH->Prop}{n:Nat}{PP:Nat->aa->Prop}{SS:Nat->ae->Prop}
theorem KJ(W:WalksS prog w A.in1 I fp wr GG n PP SS)(S:Addr)(hSf:S∉fp)(ks:List Key)(hn:ks.length=n)
  (hval:∀i v (h:i<ks.length),PP i v->(oZ prog w).is ks[i] v=true/\v.scannable=true) (hb:n+1<scanBound):∀(k i:Nat) (s:ae),n - i=k->i<=n->SS i s->
   s.heap.SetOf (oZ prog w) S (λj=>(ub (ks.take i)).any (λz=>decide (z=j))) (ub (ks.take i)).length->
   (∀s',Moved (S::wr) GG s s'->s'.heap.SetOf (oZ prog w) S (λj=>(ub ks).any (λz=>decide (z=j))) (ub ks).length->R (.ok (.ret .none)) s')->
   bR (model prog w) A (.builtin "set.update.loop" ⟨[.ref S,.ref I],[]⟩) R s:=by
 have hSw:S∉wr:=λz=>hSf (W.sub _ z);have up:∀b∈wr,b∈S::wr:=λb z=>aZ _ z;intro k
 induction k with
 |zero=>
  intro i s hk hi hst hS hR;obtain rfl:i=n:=by omega
  refine dD eJ ?_;rw[dP cY _];show af _ A.in1 (pyNext (.ref I)>>=_) _ _ s;refine ag (W.done s _ _ hst λs' hm=>?_);show af _ A.in1 (ret Value.none) _ _ s';rw[jD (by omega)]at hS;refine aw (hR s' (hm.mono up) ?_);obtain⟨o,es,ep,t,ho,more⟩:=hS;exact⟨o,es,ep,t,hm.heap S _ hSw ho,more⟩
 |succ k ih=>
  intro i s hk hi hst hS hR;have hlt:i<n:=by omega
  have hlk:i<ks.length:=by omega
  refine dD eJ ?_;rw[dP cY _];show af _ A.in1 (pyNext (.ref I)>>=_) _ _ s;refine ag (W.item i s _ _ hlt hst λv s' hP hst' hm=>?_);obtain⟨kv,sc⟩:=hval i v hlk hP;have hS':s'.heap.SetOf (oZ prog w) S (λj=>(ub (ks.take i)).any (λz=>decide (z=j))) (ub (ks.take i)).length:=by obtain⟨o,es,ep,t,ho,more⟩:=hS;exact⟨o,es,ep,t,hm.heap S _ hSw ho,more⟩
  show af _ A.in1 (holding [v] (setAdd S v)>>=_) _ _ s';refine ag (cz ?_);unfold setAdd;refine cz ?_;refine ag ((oZ prog w).pyHash (k:=ks[i]) kv ?_);have room:(ub (ks.take i)).length+1<scanBound:=by have:=KI (ks.take i);rw[bq]at this;omega
  refine wpAny_setAddHashed_of (knd:=oZ prog w) (s:={ s' with toks:=s'.toks+1 }) kv sc hS' room λh' hsb hS2=>?_;have hSi:h'.SetOf (oZ prog w) S (λj=>(ub (ks.take (i+1))).any (λz=>decide (z=j))) (ub (ks.take (i+1))).length:=
   set_same hS2 (λj=>by rw[Ci ks i hlk,NG]) (by rw[Ci ks i hlk,G2])
  refine aw ⟨gK cY _,ih (i+1) _ (by omega) hlt (W.frame _ s' _ _ hst' (gU _) λb z o e=>?_) hSi λs'' hm'' hS''=>?_⟩
  ·rw[hsb.2 b (λy:b=S=>hSf (by rw[<-y];exact z))];exact e
  ·refine hR s'' (iX W.gtrans ((hm.mono up).then_heap (gU _) λb o z e=>?_) hm'') hS'';rw[hsb.2 b (λy:b=S=>z (by rw[y];exact aT))];exact e
end
theorem NH(l:Addr)(us:Array aa)(m:Nat)(b:Addr)(o:Obj)(ws:Array aa)(m2:Nat)(hc:o.cls=.type "tuple")(hd:o.data=.seq ws m2)(z0:¬(!us.isEmpty&&fS (us.size+ws.size))=true)(z1:us.size<=aE)(z2:us.size+ws.size<=aE+1):
  Meets (cH.«list.extend» ⟨[.ref l,.ref b],[]⟩) (λ_ R s=>s.heap.get? l=some { cls:=.type "list", data:=.seq us m }/\s.heap.get? b=some o/\R (.ok (.ret Value.none)) { s with heap:=s.heap.update l (dH λx=>x++ws),toks:=s.toks }):=by
 obtain⟨c,dd,data,sl⟩:=o;cases hc;cases hd;refine .of_wp λprog w A R s h=>?_;obtain⟨hp,g,d,tk,os⟩:=s;obtain⟨hl,hb,h⟩:=h;have f2:=jx;have f3:=AutoSeq1.sub_list_list;have f4:=AutoSeq1.sub_tuple_list;have f5:=AutoSeq1.sub_list_tuple;have z3:(us++ws).size<=aE+1:=Array.size_append (xs:=us) (ys:=ws)▸z2
 wp_walk using (wpAny_updateSeq hl rfl (hz:=z1) (_hz':=z3)),jy hl,jy hb
 exact⟨_,rfl,h⟩
section
variable{X:Cx}{G:Bg}
def Et(K:ak):V->List V->Hp->VK->Prop:=λx vs H Q=>∃l b xs zs,x=.ref l/\vs=[.ref b]/\H l=some (.lst xs)/\SqT K H b zs/\xs.length+zs.length<=aE/\Q .non (upd H l (.lst (xs++zs)))
theorem FH:MtM X "list.extend" (Et X.K):=by
 intro pins s σ H x vs v us Q I rx rv h;obtain⟨l,b,xs,zs,rfl,rfl,hH,hB,hz,q⟩:=h;cases rx;obtain⟨u,rfl,ru⟩:=rv.one;cases ru;obtain⟨z,its,n,r,hl,e⟩:=I.lstM hH;obtain⟨its2,r2,⟨o,e2,hc,n2,hd⟩,hz2⟩:=I.tuple hB;have hl2:=r2.length;have hsz:its.toArray.size+its2.toArray.size<=aE:=by rw[aQ,aQ];omega
 have hlong:¬(!its.toArray.isEmpty&&fS (its.toArray.size+its2.toArray.size))=true:=by rw[JK hsz,Bool.and_false];exact aP
 refine gY jX ⟨_,e,rfl⟩ F.entry_list_extend (F.args_list_extend_2 _ _)
  (NH l its.toArray n b o its2.toArray n2 hc hd hlong (by rw[aQ];omega) (by omega)) ⟨e,e2,?_⟩
 refine⟨.non,_,I.lset (its':=its++its2) hH e (by simp) (r.append r2) ?_,rfl,q⟩;rw[aI];omega
def zw(i:Nat)(f:FE):FE:=λρ=>match qz ρ i with
 |some _=>match f ρ with
  |some (.tup es,ρ1)=>match qz ρ1 i with
   |some ds=>if ds.length+es.length<=1000 then some (.non,putAt ρ1 i (ds++es))else none
   |none=>none
  |_=>none
 |none=>none
theorem FI(h:PE X e (tBM G.K "list" (Et G.K) (ua i) (An (tF G f) DU))):PE X e (tF G (zw i f)):=PE.weak h λσ H Q hh=>by
 obtain⟨F,ρ,H0,d,ρ',R,e,k⟩:=hh;unfold zw at e;cases e0:qz ρ i with
 |none=>simp only[e0]at e;cases e
 |some ds0=>
  simp only[e0]at e;rcases oY (f:=f) (ρ:=ρ)with e1|⟨x,ρ1,e1⟩<;>simp only[e1]at e
  ·cases e
  ·cases x with
   |tup es=>
    cases e2:qz ρ1 i with
    |none=>simp only[e2]at e;cases e
    |some ds=>
     simp only[e2]at e;split at e
     ·rename_i hl;cases e;obtain⟨a,xs,s1,s2,s3,_⟩:=ra R e0;refine⟨.ref a,s1,.inl ⟨rfl,xs,SqL.of s2⟩,F,ρ,H0,_,ρ1,R,e1,λv H1 H1' s R' rs=>?_⟩;unfold Rep at rs;obtain⟨p,ys,rfl,hp,rs⟩:=rs;obtain⟨a',xs',t1,t2,t3,t4⟩:=ra R' e2;rw[s1]at t1;cases t1;refine⟨a,p,xs',ys,rfl,rfl,t2,SqT.mono R'.sub hp,?_,k _ _ _ s (t4 _ _ (qu t3 rs)) wK⟩;rw[<-oG t3,<- oG rs];exact sf hl
     ·cases e
   |_=>cases e
end
abbrev one(j:Nat)(led pl:Bool):hU:=⟨7,#[j],#[],0,led,0,pl⟩
abbrev prb(i q:Nat):gE:=⟨i,0,i,q,none⟩
section
variable{j i q:Nat}{led pl:Bool}{h h1:Int}
theorem uP(i:Nat):(one j led pl).slot i=if j=i then .live 0 else .empty:=by
 by_cases z:j<i
 ·have:j≠i:=by omega
  simp[lL,fw,eV,fF,z,this]
 ·simp[lL,fw,eV,fF,z]
theorem Ub(i:Nat):iB 7 i - i=0:=by unfold iB;split<;>omega
theorem G3:(one j led pl).advance (prb i q)=prb ((i * 5+1+q / 32) % 8) (q / 32):=by unfold SetTable.advance SetTable.leap;simp[Ub]
theorem Uc{F:Nat->Int}(e:F 0=h1):∀(f:Nat) (p:gE),cu (one j led pl) F h f p=cu (one j led pl) (λ_=>h1) h f p
 |0,p=>rfl
 |f+1,p=>by
  unfold cu;rw[uP];by_cases z:j=p.j
  ·rw[aj z];dsimp only;rw[e,Uc e f]
  ·rw[ai z]
theorem G4(hh:h1≠h):∀(n f i q:Nat),q<32 ^ n->n+2<=f->∃j',j'≠j/\cu (one j led pl) (λ_=>h1) h f (prb i q)=some (.empty j' none)
 |n,0,i,q,_,hf=>ao hf (by omega)
 |n,f+1,i,q,hq,hf=>by
  unfold cu;rw[uP];by_cases z:j=i
  ·rw[aj z];dsimp only;rw[ai (by simpa using hh),G3];cases n with
   |zero=>
    obtain⟨f,rfl⟩:∃g,f=g+1:=⟨f - 1,by omega⟩;unfold cu;rw[uP];have q0:q=0:=by simpa using hq
    have:¬j=(i * 5+1+q / 32) % 8:=by subst z q0;omega
    rw[ai this];exact⟨_,λe=>this e.symm,rfl⟩
   |succ n=>exact G4 hh n f _ _ (by rw[lY]at hq;omega) (by omega)
  ·rw[ai z];exact⟨_,λe=>z e.symm,rfl⟩
theorem ID{n:Nat}(hn:n<=13)(hq:q<32 ^ n):(∃j',j'≠j/\(one j led pl).probe (λ_=>h1) h (prb i q)=some (.empty j' none))\/(h1=h/\j=i/\(one j led pl).probe (λ_=>h1) h (prb i q)=some (.candidate j 0 (prb ((i * 5+1+q / 32) % 8) (q / 32)))):=by
 by_cases hh:h1=h
 ·by_cases z:j=i
  ·right;refine⟨hh,z,?_⟩;subst z hh;show cu _ _ _ (219+1) _=_;unfold cu;rw[uP,aj rfl];dsimp only;rw[aj (by simp),G3]
  ·left;refine⟨i,λe=>z e.symm,?_⟩;show cu _ _ _ (219+1) _=_;unfold cu;rw[uP,ai z]
 ·exact .inl (G4 hh n 220 i q hq (by omega))
end
variable{ks k1 k2:List Key}{a2:Addr}{ep:Nat}
section
variable{prog:au}{w:aq}{A:az}{E:aa->ae->Prop}{s:ae}
abbrev TK(prog:au)(w:aq):=IsTupleKey (oZ prog w)
theorem cls_val(n:Nat){v:aa}(h:ee v=true):eW n v=pure false:=by
 cases v with
 |ref a=>simp[ee]at h
 |_=>first|rfl|simp[eW]|(unfold eW;rfl)
theorem G5{Q:Bool->ae->Prop}(hk:TK prog w s.heap ks a)(h:Q false s):af (model prog w) A (eW 8 (.ref a)) Q E s:=by
 have hT:=hk.typeIs;obtain⟨o,items,n,ho,_,hd,hi⟩:=hk;unfold eW;refine ag (wpAny_typeOf hT ?_);show af _ _ (pure true>>=_) _ _ s;refine ag (aw ?_);simp only[Bool.not_true,dQ,if_false];refine ag (cP ho hd ?_);refine ag ?_;show af _ _ (forIn items _ _) _ _ s;rw[<-jY];refine gv _ (λrest r s'=>r.1=none/\s'=s/\∀v∈rest,ee v=true) _ ?_ ?_ _ _ ⟨rfl,rfl,hi.byValue⟩
 ·rintro v rest r s' ⟨hr,rfl,hall⟩;rw[cls_val _ (hall v aT)];refine ag (aw ?_);simp only[dQ,if_false];exact aw ⟨rfl,rfl,λu hu'=>hall u (aZ _ hu')⟩
 ·rintro⟨r1,r2⟩ s' ⟨hr,rfl,_⟩;simp only at hr;subst hr;exact aw h
theorem NI(n:Nat){v:aa}(h:ee v=true):∃b,hashByValue n v=pure b:=by
 cases v with
 |ref a=>simp[ee]at h
 |_=>cases n<;>first|exact⟨_,rfl⟩|(unfold hashByValue;exact⟨_,rfl⟩)
theorem NJ{Q:Bool->ae->Prop}(hk:TK prog w s.heap ks a)(h:∀b,Q b s):af (model prog w) A (hashByValue 8 (.ref a)) Q E s:=by
 have hT:=hk.typeIs;obtain⟨o,items,n,ho,_,hd,hi⟩:=hk;unfold hashByValue;refine ag (kM hT F.slot_tuple_hash.lookup ?_);show af _ _ (seqItems? (.ref a)>>=_) _ _ s;refine ag (cP ho hd ?_);refine ag ?_;show af _ _ (forIn items _ _) _ _ s;rw[<-jY];refine gv _ (λrest r s'=>s'=s/\∀v∈rest,ee v=true) _ ?_ ?_ _ _ ⟨rfl,hi.byValue⟩
 ·rintro v rest r s' ⟨rfl,hall⟩;obtain⟨b,hb⟩:=NI 7 (hall v aT);rw[hb];refine ag (aw ?_);cases b
  ·exact aw (aw (h _))
  ·exact aw ⟨rfl,λu hu'=>hall u (aZ _ hu')⟩
 ·rintro⟨r1,r2⟩ s' ⟨rfl,_⟩;cases r1 with
  |none=>exact aw (h _)
  |some b=>exact aw (h _)
theorem NK{a1:Addr}{Q:Bool->ae->Prop}(h1:TK prog w s.heap k1 a1)(h2:TK prog w s.heap k2 a2)(h:Q false s):af (model prog w) A (searchCouldBeSeen (.ref a2) [.ref a1]) Q E s:=by
 unfold searchCouldBeSeen;refine ag ?_;show af _ _ (forIn [Value.ref a1] _ _) _ _ s;refine gv _ (λrest r s'=>r=(none,())/\s'=s/\∀v∈rest,v=.ref a1) _ ?_ ?_ _ _ ⟨rfl,rfl,λv hv=>by simpa using hv⟩
 ·rintro v rest r s' ⟨rfl,rfl,hall⟩;obtain rfl:=hall v aT;have go:∀v∈rest,v=Value.ref a1:=λu hu'=>hall u (aZ _ hu');dsimp only;split
  ·exact aw ⟨rfl,rfl,go⟩
  ·refine ag (jJ h2 ?_);refine ag (jJ h1 ?_);refine ag (G5 h2 ?_);refine ag (G5 h1 ?_);exact aw ⟨rfl,rfl,go⟩
 ·rintro r s' ⟨rfl,rfl,_⟩;exact aw h
theorem xM{S a1 a2:Addr}{k1 k2:List Key}{o:Obj}{ep j:Nat}{led pl:Bool}{h h1:Int}{Q:SetFound->ae->Prop}(hu:A.units<cLine)(t1:TK prog w s.heap k1 a1)(t2:TK prog w s.heap k2 a2)(ne:k1≠k2)
  (ho:s.heap.get? S=some o) (hd:o.data=.set #[(h1,.ref a1)] ep (one j led pl)) (hQ:∀j',j'≠j->Q (.free j' false) s):∀(fuel n i q:Nat) (st:Option gE),n<=13->1<=fuel->(i=j->n+2<=fuel)->q<32 ^ n->st.getD ((one j led pl).probeStart h)=prb i q->af (model prog w) A (setSearchFrom S (.ref a2) h true fuel st) Q E s
 |0,n,i,q,st,_,hf,_,_,_=>ao hf (by omega)
 |fuel+1,n,i,q,st,hn,_,hf,hq,hst=>by
  unfold setSearchFrom;refine ag (eX ho hd rfl ?_);dsimp only;rw[ai (by simp[kF])];have P:=ID (led:=led) (pl:=pl) (j:=j) (i:=i) (h:=h) (h1:=h1) hn hq;unfold SetTable.probe at P ⊢;rw[hst,Uc (h1:=h1) rfl];rcases P with ⟨j',hj,e⟩|⟨e1,e2,e⟩
  ·rw[e];exact aw (hQ j' hj)
  ·rw[e];dsimp only;rw[show mx (λx:Int×aa=>x.snd) (Array.filter (λx=>x.fst==h) #[(h1,Value.ref a1)]).toList=[.ref a1] by simp[e1]];have hf2:=hf e2.symm;have si:∀led,(one j led pl).sameMemory 0 7=some true:=λ_=>rfl;cases led;refine ag (NK t1 t2 ?_)
   all_goals
    refine ag (cz (wpAny_eqBool_tuple hu t1 t2 ?_));refine ag (eX ho hd rfl ?_);rw[aN ne];dsimp only;rw[ai (by decide),si];dsimp only;rw[aj rfl,uP,aj rfl];refine ag (wpAny_isSame_ref_self ?_);refine ag (aw ?_);cases n with
    |zero=>
     have q0:q=0:=by simpa using hq
     exact xM hu t1 t2 ne ho hd hQ fuel 0 _ _ _ hn (by omega) (λe=>ao e (by subst e2 q0;omega)) (by rw[q0];decide) rfl
    |succ n=>exact xM hu t1 t2 ne ho hd hQ fuel n _ _ _ (by omega) (by omega) (λ_=>by omega) (by rw[lY]at hq;omega) rfl
theorem G6{S:Addr}{o:Obj}{es:Array (Int×aa)}{t:hU}{h:Int}{P:Nat->Prop}{Q:Bool->ae->Prop}(ho:s.heap.get? S=some o)(hd:o.data=.set es ep t)(hf:t.fits es.size=true)(t2:TK prog w s.heap ks a2)
  (hs:∀Q:SetFound->ae->Prop,(∀j',P j'->Q (.free j' false) s)->af (model prog w) A (setSearch S (.ref a2) h true) Q E s) (hT:∀j',P j'->(t.put j').1.tooFull=false) (hz:∀j',P j'->(du es (t.put j').2 (h,Value.ref a2)).size<=aE)
  (hQ:∀j' pl,P j'->Q true { s with heap:=s.heap.update S (jg (du es (t.put j').2 (h,.ref a2)) { (t.put j').1 with plain:=pl }) }):af (model prog w) A (setAddHashed S (.ref a2) h) Q E s:=by
 unfold setAddHashed setAddHashedIn;refine cz (ag (eX ho hd hf ?_));dsimp only;rw[ai (by simp[byScan,Value.scannable])];refine ag (hs _ λj' hj=>?_);dsimp only;refine ag (eX ho hd hf ?_);dsimp only;have fin:∀b:Bool,af (model prog w) A (do
   storeSet S (du es (t.put j').2 (h,.ref a2)) (if b=true then (t.put j').1 else { (t.put j').1 with plain:=false })
   if (!false&&(if b=true then (t.put j').1 else { (t.put j').1 with plain:=false }).tooFull)=true then do setRelay S (SetTable.grown (es.size+1));pure true else pure true) Q E s:=λb=>by
  refine ag (wpAny_storeSet_of ho hd ?_ (hz j' hj));have e:(if b=true then (t.put j').1 else { (t.put j').1 with plain:=false })={ (t.put j').1 with plain:=if b=true then (t.put j').1.plain else false }:=by cases b<;>rfl
  rw[e,ai (by have:=hT j' hj;unfold kG iF at this ⊢;rw[this];decide)];exact aw (hQ _ _ hj)
 split
 ·exact ag (NJ t2 λb=>fin b)
 ·exact ag (aw (fin true))
end
section
variable{j i q:Nat}{led pl:Bool}{h h1:Int}
theorem AO(i:Nat):(gG 0 0 led).put i=(one i led true,0):=by simp[iO,gG,fw,eV,fF,du]
theorem Ab{α:Type}(x y:α):((one j led pl).put i).1.place.size=2/\((one j led pl).put i).1.dummies=#[]/\((one j led pl).put i).1.mask=7/\(du #[x] ((one j led pl).put i).2 y).size=2:=by
 by_cases z:j<i
 ·simp[iO,fw,eV,fF,du,z]
 ·simp[iO,fw,eV,fF,du,z]
end
variable{led:Bool}{j:Nat}
section
variable{prog:au}{w:aq}{A:az}{E:aa->ae->Prop}{s:ae}
theorem KL{hp:Heap}{S:Addr}{o:Obj}{es es':Array (Int×aa)}{t t':hU}(ho:hp.get? S=some o)(hd:o.data=.set es ep t):(hp.update S (jg es' t')).get? S=some { o with data:=.set es' (ep+1) t' }:=by have:=jK (jg es' t') ho (by rw[putSet_of es' t' hd];rfl);rw[putSet_of es' t' hd]at this;exact this
theorem IE{S:Addr}{o:Obj}{h:Int}{Q:Bool->ae->Prop}(ho:s.heap.get? S=some o)(hd:o.data=.set #[] ep (.fresh 0 0 led))(t2:TK prog w s.heap ks a)
  (hQ:∀h' j pl,dG S s.heap h'->h'.get? S=some { o with data:=.set #[(h,.ref a)] (ep+1) (one j led pl) }->Q true { s with heap:=h' }):af (model prog w) A (setAddHashed S (.ref a) h) Q E s:=by
 refine G6 (P:=λ_=>True) ho hd rfl t2 (λQ hq=>?_) (λj' _=>by rw[AO];rfl) (λj' _=>by rw[AO,bh];exact fD (by decide:1<_)) λj' pl _=>hQ _ j' pl (fZ ..) ?_
 ·unfold setSearch setSearchFrom;refine ag (eX ho hd rfl ?_);dsimp only;rw[ai (by simp[kF,gG]),show ∀F p,(gG 0 0 led).probe F h p=some (.empty p.j p.dummy) from λ_ _=>rfl];exact aw (hq _ trivial)
 ·rw[KL ho hd,AO];rfl
theorem FJ{S a1:Addr}{o:Obj}{pl:Bool}{h h1:Int}{Q:Bool->ae->Prop}(hu:A.units<cLine)(t1:TK prog w s.heap k1 a1)(t2:TK prog w s.heap k2 a2)(ne:k1≠k2)
  (ho:s.heap.get? S=some o) (hd:o.data=.set #[(h1,.ref a1)] ep (one j led pl))
  (hQ:∀h' es t,dG S s.heap h'->h'.get? S=some { o with data:=.set es (ep+1) t }->es.size=2->t.fits 2=true->Q true { s with heap:=h' }):af (model prog w) A (setAddHashed S (.ref a2) h) Q E s:=by
 refine G6 (P:=λj'=>j'≠j) ho hd rfl t2 (λQ hq=>?_) (λj' _=>?_) (λj' _=>by rw[(Ab _ _).2.2.2,bh];decide) λj' pl' _=>hQ _ _ _ (fZ ..) (KL ho hd) (Ab _ _).2.2.2 ?_
 ·have hb:gO h<32 ^ 13:=by unfold gO;omega
  exact xM hu t1 t2 ne ho hd hq 100000 13 (gO h % 8) (gO h) none (by omega) (by omega) (λ_=>by omega) hb (by show SetTable.Probe.mk _ _ _ _ _=_;rw[Ub])
 ·obtain⟨a,b,c,_⟩:=Ab (j:=j) (i:=j') (led:=led) (pl:=pl) 0 0;unfold kG iF;rw[a,b,c];rfl
 ·obtain⟨a,b,c,_⟩:=Ab (j:=j) (i:=j') (led:=led) (pl:=pl) 0 0;unfold SetTable.fits iF;dsimp only;rw[a,b,c];rfl
end
variable{h':Heap}
section
variable{prog:au}{w:aq}{A:az}{R:di->ae->Prop}{I:Addr}{fp wr:List Addr}{GG:Array fH->Array fH->Prop}{PP:Nat->aa->Prop}{SS:Nat->ae->Prop}
theorem TK.kept{h:Heap}(t:TK prog w h ks a)(e:∀o,h.get? a=some o->h'.get? a=some o):TK prog w h' ks a:=by obtain⟨o,its,n,ho,m⟩:=t;exact⟨o,its,n,e o ho,m⟩
def QB(h:Heap)(S:Addr)(n:Nat):Prop:=∃o es ep t,h.get? S=some o/\o.ExactSet/\o.data=.set es ep t/\es.size<scanBound/\t.fits es.size=true/\es.size=n
theorem IF(W:WalksS prog w A.in1 I fp wr GG 2 PP SS){S a1:Addr}{o:Obj}{s:ae}(hSf:S∉fp)(ne:k1≠k2)(n1:a1∉S::wr)(n2:a2∉S::wr)(p1:∀v,PP 0 v->v=.ref a1)(p2:∀v,PP 1 v->v=.ref a2)(hu:A.in1.units<cLine)
  (hst:SS 0 s) (t1:TK prog w s.heap k1 a1) (t2:TK prog w s.heap k2 a2) (ho:s.heap.get? S=some o) (hx:o.ExactSet) (hd:o.data=.set #[] ep (.fresh 0 0 led)) (hR:∀s',Moved (S::wr) GG s s'->QB s'.heap S 2->R (.ok (.ret .none)) s'):
   bR (model prog w) A (.builtin "set.update.loop" ⟨[.ref S,.ref I],[]⟩) R s:=by
 have hSw:S∉wr:=λz=>hSf (W.sub _ z);have up:∀b∈wr,b∈S::wr:=λb z=>aZ _ z;have q1:a1∉wr:=λz=>n1 (up _ z);have q2:a2∉wr:=λz=>n2 (up _ z);have e1:a1≠S:=λz=>n1 (by rw[z];exact aT);have e2:a2≠S:=λz=>n2 (by rw[z];exact aT);refine dD eJ ?_;rw[dP cY _];show af _ A.in1 (pyNext (.ref I)>>=_) _ _ s;refine ag (W.item 0 s _ _ (by decide) hst λv s1 hP st1 m1=>?_);obtain rfl:=p1 v hP;show af _ A.in1 (holding _ (setAdd S _)>>=_) _ _ s1;refine ag (cz ?_);unfold setAdd;refine cz ?_;have u1:TK prog w s1.heap k1 a1:=t1.kept λo=>m1.heap a1 o q1;have u2:TK prog w s1.heap k2 a2:=t2.kept λo=>m1.heap a2 o q2;refine ag (jZ hu u1 ?_);refine IE (m1.heap S _ hSw ho) hd u1 λh' j pl hb hg=>?_;refine aw ⟨gK cY _,?_⟩;have st1':=W.frame (0+1) s1 h' _ st1 (dv _ (k1.length+1)) λb z o e=>by rw[hb.2 b (λy:b=S=>hSf (by rw[<-y];exact z))];exact e
 have m1':Moved (S::wr) GG s { s1 with heap:=h',toks:=s1.toks+(k1.length+1) }:=(m1.mono up).then_heap (dv _ _) λb o z e=>by rw[hb.2 b (λy:b=S=>z (by rw[y];exact aT))];exact e
 have v1:TK prog w h' k1 a1:=u1.kept λo e=>by rw[hb.2 a1 e1];exact e
 have v2:TK prog w h' k2 a2:=u2.kept λo e=>by rw[hb.2 a2 e2];exact e
 refine dD eJ ?_;rw[dP cY _];show af _ A.in1 (pyNext (.ref I)>>=_) _ _ _;refine ag (W.item 1 _ _ _ (by decide) st1' λv s2 hP st2 m2=>?_);obtain rfl:=p2 v hP;show af _ A.in1 (holding _ (setAdd S _)>>=_) _ _ s2;refine ag (cz ?_);unfold setAdd;refine cz ?_;have w1:TK prog w s2.heap k1 a1:=v1.kept λo=>m2.heap a1 o q1;have w2:TK prog w s2.heap k2 a2:=v2.kept λo=>m2.heap a2 o q2;refine ag (jZ hu w2 ?_);refine FJ hu w1 w2 ne (m2.heap S _ hSw hg) rfl λh2 es t hb2 hg2 z2 f2=>?_;refine aw ⟨gK cY _,?_⟩;have st2':=W.frame (1+1) s2 h2 _ st2 (dv _ (k2.length+1)) λb z o e=>by rw[hb2.2 b (λy:b=S=>hSf (by rw[<-y];exact z))];exact e
 have m2':=iX W.gtrans m1' ((m2.mono up).then_heap (tk:=s2.toks+(k2.length+1)) (dv _ _) λb o z e=>by rw[hb2.2 b (λy:b=S=>z (by rw[y];exact aT))];exact e);refine dD eJ ?_;rw[dP cY _];show af _ A.in1 (pyNext (.ref I)>>=_) _ _ _;refine ag (W.done _ _ _ st2' λs3 m3=>?_);show af _ A.in1 (ret Value.none) _ _ s3;refine aw (hR s3 (iX W.gtrans m2' (m3.mono up)) ?_);exact⟨_,es,_,t,m3.heap S _ hSw hg2,hx,rfl,by rw[z2];decide,by rw[z2];exact f2,z2⟩
end
theorem sub_tuple_set:isSubtype (.type "tuple") (.type "set")=pure false:=by rw[ll];kernel_rfl
theorem sub_tuple_frozenset:isSubtype (.type "tuple") (.type "frozenset")=pure false:=by rw[ll];kernel_rfl
variable{ax:Addr}{itO:Obj}
section
variable{prog:au}{w:aq}{A:az}{E:aa->ae->Prop}{s:ae}{Q:aa->ae->Prop}
abbrev vV(led:Bool):Obj:={ cls:=.type "set", dict:=none,data:=.set #[] 0 (.fresh 0 0 led) }
abbrev inK(ks:List Key):Key->Bool:=λj=>(ub ks).any (λz=>decide (z=j))
structure Ud(prog:au)(w:aq)(h:Heap)(a:Addr)(items:Array aa)(ks:List Key):Prop where
 len:ks.length=items.size
 key:∀i v (hi:i<ks.length),items[i]?=some v->(oZ prog w).is ks[i] v=true/\v.scannable=true
 bnd:items.size+1<scanBound
def NL(s:ae)(PS:Heap->Prop)(E:aa->ae->Prop):di->ae->Prop:=
 wants (λr s2=>r=.none/\∃h2 k2,s2={ s with heap:=h2,toks:=k2 }/\PS h2/\∀b o,b<s.heap.objs.size->s.heap.get? b=some o->h2.get? b=some o) E
theorem Eu{items:Array aa}{SS:Nat->Heap->Prop}(K:Ud prog w s.heap ax items ks)(hlt:ax<s.heap.objs.size)
  (W:Walks prog w A.in1 (s.heap.objs.size+1) [s.heap.objs.size+1,ax] [s.heap.objs.size+1] items.size (λi v=>items[i]?=some v) SS) (st:SS 0 ((s.heap.push (vV led)).push itO)) {R:di->ae->Prop}
  (hR:∀h2 k2,h2.SetOf (oZ prog w) s.heap.objs.size (inK ks) (ub ks).length->(∀b o,b<s.heap.objs.size->s.heap.get? b=some o->h2.get? b=some o)->R (.ok (.ret .none)) { s with heap:=h2,toks:=k2 }) (tk:Nat):
  bR (model prog w) A (.builtin "set.update.loop" ⟨[.ref s.heap.objs.size,.ref (s.heap.objs.size+1)],[]⟩) R { s with heap:=(s.heap.push (vV led)).push itO,toks:=tk }:=by
 have notin:s.heap.objs.size∉[s.heap.objs.size+1,ax]:=by
  intro z;rcases aJ.mp z with z|z
  ·exact ao z (aO (fg _))
  ·exact ao (bj.mp z) (fE hlt)
 have e0:((s.heap.push (vV led)).push itO).get? s.heap.objs.size=some (vV led):=aB _ (aS _ rfl);refine KJ W.toS s.heap.objs.size notin ks K.len (λi v hi hv=>K.key i v hi hv) K.bnd (items.size - 0) 0 _ (by omega) (bN _) st ?_ λs2 mv S2=>?_
 ·exact⟨_,#[],0,_,e0,⟨rfl,rfl,rfl⟩,rfl,λe he=>by simp at he,λk=>by simp[ub],by unfold scanBound;decide,by rfl,rfl⟩
 ·obtain⟨h2,g2,d2,k2,o2⟩:=s2;have eg:g2=s.gens:=mv.gens;have ed:d2=s.drawn:=mv.drawn;have eo:o2=s.os:=mv.os;subst eg ed eo;refine hR h2 k2 S2 λb o hb e=>mv.heap b o (λz=>?_) (aB _ (aB _ e));rcases aJ.mp z with z|z
  ·exact ao z (aO hb)
  ·exact ao (bj.mp z) (aO (dt hb))
theorem FK(a:aa){Q₁:aa->ae->Prop}(h:Q₁ (.ref s.heap.objs.size) { s with heap:=s.heap.push (vV (!w.params.followText "set-order")) }):
  bR (model prog w) A (.call (.builtin "set.__new__") ⟨[.type "set", a],[]⟩) (wants Q₁ E) s:=by
 refine kU ?_;show af _ A.in1 (do checkBuiltinCall "set.__new__" ⟨[.type "set", a],[]⟩;again (.builtin "set.__new__" ⟨[.type "set", a],[]⟩)) _ _ s;refine ag (wpAny_of_eq (F.newCall_set_1 a) (aw ⟨gK kW _,dD F.entry_set_new ?_⟩));rw[dP kW _];unfold cH.«set.__new__» mD;have hsub:=sub_set_self;obtain⟨hp,g,d,tk,os⟩:=s;dsimp only
 wp_walk
 refine wpAny_askSetting (aw ?_);dsimp only;simp only[newObj];refine ag (wpAny_alloc (aw ?_));exact aw h
theorem AQ{o:Obj}{T:String}{PS:Heap->Prop}(ho:s.heap.get? ax=some o)(hc:o.cls=.type T)
  (u1:isSubtype (.type T) (.type "set")=pure false) (u2:isSubtype (.type T) (.type "frozenset")=pure false) (u3:(Value.type T==Value.type "dict")=false)
  (itr:∀(A:az) (Q:aa->ae->Prop) (E:aa->ae->Prop) (s1:ae),s1.heap.get? ax=some o->Q (.ref s1.heap.objs.size) { s1 with heap:=s1.heap.push itO }->af (model prog w) A (pyIter (.ref ax)) Q E s1)
  (fil:∀tk (R:di->ae->Prop),(∀h2 k2,PS h2->(∀b o,b<s.heap.objs.size->s.heap.get? b=some o->h2.get? b=some o)->R (.ok (.ret .none)) { s with heap:=h2,toks:=k2 })->
   bR (model prog w) A.in1.in1 (.builtin "set.update.loop" ⟨[.ref s.heap.objs.size,.ref (s.heap.objs.size+1)],[]⟩) R { s with heap:=(s.heap.push (vV (!w.params.followText "set-order"))).push itO,toks:=tk })
  (h:∀h2 k2,PS h2->(∀b o,b<s.heap.objs.size->s.heap.get? b=some o->h2.get? b=some o)->Q (.ref s.heap.objs.size) { s with heap:=h2,toks:=k2 }):
  af (model prog w) A (call (.type "set") [.ref ax]) Q E s:=by
 have hlt:ax<s.heap.objs.size:=aF ho;obtain⟨c,tl,hmro⟩:=dc.mro;have made:=dc.made;have subs:=dc.sub;refine jc (kU ?_);show af _ _ (callAny (.type "set") _) _ _ _;refine aw ⟨Code.quiet_builtin _ (by decide +kernel),dD F.entry_type_call ?_⟩;rw[Around.under_plain (weight_type_call_type "set" [.ref ax] []) rfl];have n1:=dc.notType;have n2:=dc.canCreate;have n3:=F.typeCall_set_1 (.ref ax)
 repeat (any_goals (first|assumption|wp_step))
 let led:Bool:=!w.params.followText "set-order";refine eA (FK (.ref ax) (E:=E) (Q₁:=λv s1=>v=.ref s.heap.objs.size/\s1={ s with heap:=s.heap.push (vV led) }) ⟨rfl,rfl⟩) λr s1 hr=>?_;cases r with
 |error e=>exact hr
 |ok fl=>
  cases fl with
  |ret v=>
   obtain⟨rfl,rfl⟩:=hr;have e0:(s.heap.push (vV led)).get? s.heap.objs.size=some (vV led):=aS _ rfl;have ty0:Shared.TypeIs { s with heap:=s.heap.push (vV led) } (.ref s.heap.objs.size) "set" := ⟨_,e0,rfl⟩;have l1:=dc.init.lookup;have l2:=dc.init.bind (.ref s.heap.objs.size)
   repeat (any_goals (first|assumption|wp_step))
   refine eA (codeAny_call_builtin (R:=NL s PS E) dc.init.plain F.entry_set_init (check_set_init_1 ty0 ?_)) λr2 s2 hr2=>?_
   ·obtain⟨oc,od,oda,osl⟩:=o;cases hc;have e1:(s.heap.push (vV led)).get? ax=some { cls:=.type T,dict:=od,data:=oda,slots:=osl }:=aB _ ho;unfold cH.«set.__init__» noKeywords mB;generalize gP:pyIter=PP
    wp_walk
    subst gP;refine itr _ _ _ _ e1 ?_;refine ag (wpAny_runValue ?_);have ez:(s.heap.push (vV led)).objs.size=s.heap.objs.size+1:=cf _ _;show bR _ _ (.builtin "set.update.loop" ⟨[.ref s.heap.objs.size,.ref (s.heap.push (vV led)).objs.size],[]⟩) _ _;rw[ez];refine fil _ _ λh2 k2 S2 kk=>?_;show af _ _ _ _ _ _;refine aw ?_;show af _ _ (ret Value.none) _ _ _;exact aw ⟨rfl,h2,k2,rfl,S2,kk⟩
   ·cases r2 with
    |error e=>exact hr2
    |ok fl2=>
     cases fl2 with
     |ret r=>
      obtain⟨rfl,h2,k2,rfl,S2,kk⟩:=hr2
      repeat (any_goals (first|assumption|wp_step))
      exact h _ _ S2 kk
     |_=>exact hr2.elim
  |_=>exact hr.elim
end
variable{S:ak->Hp->Addr->Nat->Prop}{ds:List D}
section
variable{X:Cx}{G:Bg}{H:Hp}{pins:List (Addr×Obj)}{σ:St}{s:ae}
theorem KM{P:au}{w:aq}{k:Key}{v:aa}(h:(oZ P w).is k v=true):v.scannable=true:=by rcases pN h with ⟨i,t,_,rfl⟩|⟨x,t,_,rfl⟩<;>rfl
theorem KN{its:List aa}(r:Vals (ks.map kV) its)(hb:ks.length+1<scanBound):Ud X.prog X.w s.heap a its.toArray ks:=by
 have hl:ks.length=its.length:=by have:=r.length;rw[ah]at this;exact this
 refine⟨by rw[aQ];exact hl,λi v hi hv=>?_,by rw[aQ];omega⟩;have e:(ks.map kV)[i]?=some (kV ks[i]):=by rw[aW,aH hi];rfl
 obtain⟨u,hu,ru⟩:=r.get e;have eu:v=u:=by rw[List.getElem?_toArray]at hv;rw[hv]at hu;exact bE hu
 subst eu;have:=ya (P:=X.prog) (w:=X.w) ru;exact⟨this,KM this⟩
theorem OX(I:Inv X pins σ H s)(h:SqT X.K H a (ks.map kV)):TK X.prog X.w s.heap ks a:=by
 obtain⟨its,r,p,_⟩:=I.tuple h;obtain⟨o,ho,hc,n,hd⟩:=p;refine⟨o,_,n,ho,hc,hd,?_⟩;have gen:∀(ks:List Key) (its:List aa),Vals (ks.map kV) its->PySem.ItemsAre (oZ X.prog X.w) ks its:=λks=>by
  induction ks with
  |nil=>intro its r;cases r;exact .nil
  |cons k ks ih=>intro its r;cases r with|cons h1 h2=>exact .cons (ya h1) (ih _ h2)
 exact gen ks its r
def QC(K:ak)(H:Hp)(a:Addr)(n:Nat):Prop:=∃ks,(SqL K H a (ks.map kV)\/SqT K H a (ks.map kV))/\ks.length+1<scanBound/\n=(ub ks).length
def QD(K:ak)(H:Hp)(a:Addr)(n:Nat):Prop:=QC K H a n\/
 ∃(p q:Addr) (k1 k2:List Key),SqL K H a [.ref p,.ref q]/\SqT K H p (k1.map kV)/\SqT K H q (k2.map kV)/\k1≠k2/\n=2
def QE(X:Cx)(S:ak->Hp->Addr->Nat->Prop):Prop:=∀{pins:List (Addr×Obj)} {σ:St} {H:Hp} {s:ae} {A:az} {E:aa->ae->Prop} {Q:aa->ae->Prop} {a:Addr} {n:Nat},Inv X pins σ H s->A.handled=none->A.units+8<cLine->S X.K H a n->
 (∀h2 k2,QB h2 s.heap.objs.size n->(∀b o,b<s.heap.objs.size->s.heap.get? b=some o->h2.get? b=some o)->Q (.ref s.heap.objs.size) { s with heap:=h2,toks:=k2 })->af (model X.prog X.w) A (call (.type "set") [.ref a]) Q E s
theorem Ue:QE X (QC):=by
 intro pins σ H s A E Q a n I hh hu hq h;have h3:A.in1.in1.in1.handled=none:=by simp[hh]
 have gt:∀{h2:Heap} {ks:List Key},h2.SetOf (oZ X.prog X.w) s.heap.objs.size (inK ks) (ub ks).length->QB h2 s.heap.objs.size (ub ks).length:=λS=>by obtain⟨o,es,ep,t,ho,hex,hd,_,_,hz,hf,hn⟩:=S;exact⟨o,es,ep,t,ho,hex,hd,hz,hf,hn⟩
 have it:∀{o:Obj} {led:Bool},o.isFreed=false->((s.heap.push (vV led)).push o).get? (s.heap.objs.size+1)=some o:=λ{o led} z=>by rw[show s.heap.objs.size+1=(s.heap.push (vV led)).objs.size from(cf _ _).symm];exact aS _ z
 obtain⟨ks,hq|hq,hb,rfl⟩:=hq
 ·obtain⟨its,r,p,_⟩:=I.list hq;obtain⟨o,ho,hc,n,hd⟩:=p.isList;have hne:a≠s.heap.objs.size+1:=aO (dt (aF ho));refine AQ ho hc lp jM (by decide) (itO:={ cls:=.type "list_iterator", data:=.fields #[.ref a,.int 0 0] })
   (λA Q E s1 e k=>dR ⟨o,e,hc,n,hd⟩ k) (λtk R hR=>Eu (KN r hb) (aF ho) (gZ h3 _ a hne its.toArray) ⟨⟨_,it rfl,rfl,rfl⟩,⟨o,aB _ (aB _ ho),hc,n,hd⟩⟩ (λh2 k2 S=>hR h2 k2 (gt S)) tk) h
 ·obtain⟨its,r,p,_⟩:=I.tuple hq;obtain⟨o,ho,hc,n,hd⟩:=p;have hne:a≠s.heap.objs.size+1:=aO (dt (aF ho));refine AQ ho hc sub_tuple_set sub_tuple_frozenset (by decide) (itO:={ cls:=.type "tuple_iterator", data:=.fields #[.ref a,.int 0 0] })
   (λA Q E s1 e k=>ir ⟨o,e,hc,n,hd⟩ k) (λtk R hR=>Eu (KN r hb) (aF ho) (Walks.tuple h3 _ a hne its.toArray) ⟨⟨_,it rfl,rfl,rfl⟩,⟨o,aB _ (aB _ ho),hc,n,hd⟩⟩ (λh2 k2 S=>hR h2 k2 (gt S)) tk) h
theorem Ug:QE X (QD):=by
 intro pins σ H s A E Q a n I hh hu hq h;rcases hq with hq|⟨p,q,k1,k2,hq,h1,h2,ne,rfl⟩
 ·exact Ue I hh hu hq h
 have h3:A.in1.in1.in1.handled=none:=by simp[hh]
 have it:∀{o:Obj} {led:Bool},o.isFreed=false->((s.heap.push (vV led)).push o).get? (s.heap.objs.size+1)=some o:=λ{o led} z=>by rw[show s.heap.objs.size+1=(s.heap.push (vV led)).objs.size from(cf _ _).symm];exact aS _ z
 obtain⟨its,r,pp,_⟩:=I.list hq;obtain⟨o,ho,hc,n,hd⟩:=pp.isList;have hne:a≠s.heap.objs.size+1:=aO (dt (aF ho));obtain⟨u,v,rfl,ru,rv⟩:∃u v,its=[u,v]/\RelV (.ref p) u/\RelV (.ref q) v:=by cases r with|cons c1 r=>cases r with|cons c2 r=>cases r;exact⟨_,_,rfl,c1,c2⟩
 cases ru;cases rv;have t1:=OX I h1;have t2:=OX I h2;have far:∀{b:Addr} {ks:List Key},TK X.prog X.w s.heap ks b->b∉s.heap.objs.size::[s.heap.objs.size+1]:=λ{b ks} t z=>by
  obtain⟨o,_,_,e,_⟩:=t;have:=aF e;rcases aJ.mp z with z|z
  ·exact ao z (aO this)
  ·exact ao (bj.mp z) (aO (dt this))
 have notin:s.heap.objs.size∉[s.heap.objs.size+1,a]:=by
  intro z;rcases aJ.mp z with z|z
  ·exact ao z (aO (fg _))
  ·exact ao (bj.mp z) (fE (aF ho))
 refine AQ ho hc lp jM (by decide) (itO:={ cls:=.type "list_iterator", data:=.fields #[.ref a,.int 0 0] })
  (λA Q E s1 e k=>dR ⟨o,e,hc,n,hd⟩ k) (λtk R hR=>?_) h
 have ke:∀{b:Addr} {o':Obj},s.heap.get? b=some o'->((s.heap.push (vV (!X.w.params.followText "set-order"))).push { cls:=.type "list_iterator", data:=.fields #[.ref a,.int 0 0] }).get? b=some o':=λe=>aB _ (aB _ e);refine IF (gZ h3 _ a hne #[.ref p,.ref q]).toS notin ne (far t1) (far t2) (λv e=>(bE e).symm) (λv e=>(bE e).symm) (by show A.units+1+1+1<cLine;omega) ⟨⟨_,it rfl,rfl,rfl⟩,⟨o,ke ho,hc,n,hd⟩⟩ (t1.kept λo=>ke) (t2.kept λo=>ke)
  (aB _ (aS _ rfl)) ⟨rfl,rfl,rfl⟩ rfl λs2 mv S2=>?_
 obtain⟨h2,g2,d2,k2,o2⟩:=s2;have eg:g2=s.gens:=mv.gens;have ed:d2=s.drawn:=mv.drawn;have eo:o2=s.os:=mv.os;subst eg ed eo;exact hR h2 k2 S2 λb o hb e=>mv.heap b o (λz=>by
  rcases aJ.mp z with z|z
  ·exact ao z (aO hb)
  ·exact ao (bj.mp z) (aO (dt hb))) (ke e)
def Ds(S:ak->Hp->Addr->Nat->Prop)(K:ak)(te:TE):TE:=λσ H Q=>te σ H λx H1=>∃a n,x=.ref a/\S K H1 a n/\Q (.int n) H1
theorem IG{p1 p2 p3 p4:Pos}(hV:QE X S)(hu:X.A.units+64<cLine)(hc:X.calm=true)(g1:Gl X "len")(m1:X.mg "len" = none)(g2:Gl X "set")(m2:X.mg "set" = none)(he:PE X e te)
  (z1:ar [Expr.Call (.Name "set" p2) [e] [] p3] X.env=[(false,eval (.Call (.Name "set" p2) [e] [] p3) X.env)]:=by rfl) (z2:ar [e] X.env=[(false,eval e X.env)]:=by rfl):PE X (.Call (.Name "len" p1) [.Call (.Name "set" p2) [e] [] p3] [] p4) (Ds S X.K te):=by
 intro pins s σ H Q I h;refine dr (vY I g1 m1 lq ?_ (by decide) (by decide));refine callWith_builtin1 ?_ z1 rfl;rw[z1];show af _ _ (spliced [(false,eval (.Call (.Name "set" p2) [e] [] p3) X.env)]) _ _ s;refine dq ?_;refine dr (vY I g2 m2 Pv.boot_set ?_ (by decide) (by decide));refine callWith_type1 (thn (qK he uy z2 p3 pins s σ H (λvs H1=>match vs with
  |[x]=>∃a n,x=.ref a/\S X.K H1 a n/\Q (.int n) H1
  |_=>False) I h) λus s1 ⟨vs,H1,I1,r1,q1⟩=>?_) z2 rfl
 match vs,r1,q1 with
 |[x],r1,q1=>
 obtain⟨a,n,e1,hq,q⟩:=q1;subst e1;obtain⟨u,rfl,ru⟩:=vals1 r1;cases ru;refine hV I1 (I1.ok.hd hc) (by omega) hq λh2 k2 S2 kk=>?_;refine eU ?_;obtain⟨o,es,ep,t,ho,hex,hd,hz,hf,hn⟩:=S2;have I2:Inv X pins σ H1 { s1 with heap:=h2,toks:=k2 }:=I1.kept λb o e=>kk b o (aF e) e;refine call_len_set ho hex hd hf (by unfold scanBound at hz;omega) ⟨.int n,H1,I2.tok _,⟨_,by rw[hn]⟩,q⟩
def xi:List D->Option (List Key)
 |[]=>some []
 |d::ds=>match xJ d,xi ds with
  |some k,some ks=>some (k::ks)
  |_,_=>none
theorem wV:∀{ds:List D} {xs:List V} {ks:List Key},Reps G H ds xs->xi ds=some ks->xs=ks.map kV
 |[],xs,ks,r,e=>by cases e;unfold Reps at r;exact r
 |d::ds,xs,ks,r,e=>by
  unfold xi at e;cases e1:xJ d with
  |none=>rw[e1]at e;cases e
  |some k=>
   cases e2:xi ds with
   |none=>rw[e1,e2]at e;cases e
   |some ks'=>rw[e1,e2]at e;cases e;unfold Reps at r;obtain⟨v,r',rfl,h1,h2⟩:=r;rw[wU h1 e1,wV h2 e2];rfl
def rR(ds:List D):Option D:=match xi ds with
 |some ks=>if ks.length<=1000 then some (.int (ub ks).length)else none
 |none=>none
def QF:List D->Option D
 |[.tup x,.tup y]=>match xi x,xi y with
  |some k1,some k2=>if k1=k2 then none else some (.int 2)
  |_,_=>none
 |_=>none
def AR(g:List D->Option D):D->Option D
 |.lst ds=>match rR ds with
  |some r=>some r
  |none=>g ds
 |.tup ds=>rR ds
 |.fzl ds=>rR ds
 |_=>none
abbrev Dt:D->Option D:=AR QF
theorem NM{g:List D->Option D}{r:D}(h:rR ds=some r):AR g (.lst ds)=some r:=by show (match rR ds with|some r=>some r|none=>g ds)=some r;rw[h]
theorem FL{g:List D->Option D}(hK:X.K=G.K)(hO:∀{H a n},QC X.K H a n->S X.K H a n)
  (hg:∀{ds d H1 H1' a xs},g ds=some d->SqL X.K H1' a xs->Reps G H1 ds xs->oM H1 H1'->∃n:Nat,S X.K H1' a n/\d=.int n)
  (h:PE X e (Ds S X.K (tF G f))):PE X e (tF G (c1 (AR g) f)):=PE.weak h λσ H Q hh=>by
 obtain⟨F,ρ,H0,d,ρ',R,e,k⟩:=hh;obtain⟨x,e1,e2⟩:=z8 e;have key:∀{ds:List D} {xs:List V} {a:Addr} {H1 H1':Hp},rR ds=some d->Reps G H1 ds xs->oM H0 H1->RelE G F σ ρ' H1 H1'->(SqL X.K H1' a xs\/SqT X.K H1' a xs)->
   ∃a' n,V.ref a=.ref a'/\S X.K H1' a' n/\Q (.int n) H1':=λ{ds xs a H1 H1'} ed rs s R' hq=>by
  unfold rR at ed;cases ek:xi ds with
  |none=>rw[ek]at ed;cases ed
  |some ks=>
   rw[ek]at ed;simp only at ed;split at ed
   ·rename_i hl;cases ed;rw[wV rs ek]at hq;exact⟨a,_,rfl,hO ⟨ks,hq,by unfold scanBound;omega,rfl⟩,k _ _ _ s R' (rf _)⟩
   ·cases ed
 refine⟨F,ρ,H0,x,ρ',R,e1,λv H1 H1' s R' r=>?_⟩;cases x with
 |lst ds=>
  unfold Rep at r;obtain⟨a,xs,rfl,h1,h2⟩:=r;have hq:SqL X.K H1' a xs:=SqL.of (R'.sub _ _ h1);replace e2:(match rR ds with|some r=>some r|none=>g ds)=some d:=e2;cases e3:rR ds with
  |some r=>rw[e3]at e2;cases e2;exact key e3 h2 s R' (.inl hq)
  |none=>rw[e3]at e2;obtain⟨n,h3,rfl⟩:=hg e2 hq h2 R'.sub;exact⟨a,n,rfl,h3,k _ _ _ s R' (rf _)⟩
 |tup ds=>unfold Rep at r;obtain⟨a,xs,rfl,h1,h2⟩:=r;rw[<-hK]at h1;exact key e2 h2 s R' (.inr (SqT.mono R'.sub h1))
 |fzl ds=>unfold Rep at r;obtain⟨a,xs,rfl,h1,h2⟩:=r;rw[<-hK]at h1;exact key e2 h2 s R' (.inl (R'.sub.seq h1))
 |_=>cases e2
theorem NN(hK:X.K=G.K):∀{ds d H1 H1' a xs},QF ds=some d->SqL X.K H1' a xs->Reps G H1 ds xs->oM H1 H1'->∃n:Nat,QD X.K H1' a n/\d=.int n:=λ{ds d H1 H1' a xs} e2 hq h2 s=>by
 unfold QF at e2;split at e2
 ·rename_i x y;split at e2
  ·rename_i k1 k2 f1 f2;split at e2
   ·cases e2
   ·rename_i ne;cases e2;unfold Reps Reps Reps at h2;obtain⟨v1,r1,rfl,c1,v2,r2,rfl,c2,rfl⟩:=h2;unfold Rep at c1 c2;obtain⟨p,ys,rfl,d1,d2⟩:=c1;obtain⟨q,zs,rfl,d3,d4⟩:=c2;rw[<-hK,wV d2 f1]at d1;rw[<-hK,wV d4 f2]at d3;exact⟨2,.inr ⟨p,q,k1,k2,hq,SqT.mono s d1,SqT.mono s d3,ne,rfl⟩,rfl⟩
  ·cases e2
 ·cases e2
theorem IH(hK:X.K=G.K)(h:PE X e (Ds QD X.K (tF G f))):PE X e (tF G (c1 Dt f)):=FL hK .inl (NN hK) h
end
theorem G7{P:au}{w:aq}{k:Key}{v:aa}(h:(oZ P w).is k v=true):RelV (kV k) v:=by
 rcases pN h with ⟨i,t,rfl,rfl⟩|⟨x,t,rfl,rfl⟩
 ·exact⟨t,rfl⟩
 ·exact⟨t,rfl⟩
def Itd(a:Addr)(o:Obj)(kvs:List (Key×V)):It:=
 ⟨λi H=>i<kvs.length/\H a=some (.frz o (.dK kvs)),λi H x H'=>H'=H/\∃k z,kvs[i]?=some (k,z)/\x=kV k,λi H=>kvs.length<=i/\H a=some (.frz o (.dK kvs))⟩
section
variable{X:Cx}{pins:List (Addr×Obj)}{σ:St}{H:Hp}{s:ae}
theorem uh{o:Obj}{es:Array DictEntry}(I:Inv X pins σ H s)(e:H a=some (.frz o (.dK kvs)))(hd:o.data=.dict es ep):
  (a==ck)=false/\s.heap.get? a=some o/\∃vs,KV kvs vs/\s.heap.DictAt (oZ X.prog X.w) a vs ep:=by
 obtain⟨q0,_,y,vs,r,ob,es',ep',q1,q2,q3,q4⟩:=(show ObjOk X.prog X.w H s.heap a (.frz o (.dK kvs)) from I.hok a _ e);rw[q0]at q1;cases q1;rw[hd]at q3;cases q3;exact⟨y,q0,vs,r,o,es,q0,q2,hd,q4⟩
theorem QG{vs:List (Key×aa)}(r:KV kvs vs){k:Key}{x:aa}(e:vs[i]?=some (k,x)):∃z,kvs[i]?=some (k,z):=by
 induction r generalizing i with
 |nil=>cases e
 |@cons p q l l' h _ ih=>
  cases i with
  |zero=>obtain⟨pk,pv⟩:=p;cases e;exact⟨pv,by rw[show pk=k from h.1];rfl⟩
  |succ i=>exact ih e
end
theorem II{P:au}{w:aq}{K:ak}(a it:Addr)(o:Obj)(kvs:List (Key×V)):Turn P w K tg (Itd a o kvs) [it] it (λi h=>∃es ep,o.data=.dict es ep/\h.IsKeyIter it a i kvs.length ep) where
 mem:=by simp
 obj:=λi h st b hb=>by
  have e:b=it:=by simpa using hb
  subst e;obtain⟨es,ep,hd,ob,e,c,d⟩:=st;exact⟨ob,e,λv z=>by rw[d]at z;cases z⟩
 keep:=λi h h' st k=>by obtain⟨es,ep,hd,x⟩:=st;exact⟨es,ep,hd,x.at λo e=>k it (by simp) o e⟩
 item:=by
  intro X hP hw hK hc i pins s σ H E I hf st hg;subst hP hw hK;obtain⟨hi,he⟩:=hg;obtain⟨es,ep,hd,ki⟩:=st;obtain⟨f0,f1,f2,f3,f4,f5⟩:=hf it (by simp);obtain⟨_,_,vs,r,da⟩:=uh I he hd;have hl:kvs.length=vs.length:=r.length;have hne:a≠it:=λz=>by subst z;rw[he]at f0;cases f0
  have W:=Walks.dictKeys (knd:=oZ X.prog X.w) (A:=X.A) (I.ok.hd hc) it a hne vs ep;refine W.item i s _ _ (by omega) ⟨by rw[<-hl];exact ki,da⟩ λv h' tk hv st' kk=>?_;obtain⟨k,x,hx,hk⟩:=hv;obtain⟨z,hz⟩:=QG r hx;have I1:Inv X pins σ H { s with heap:=h',toks:=tk }:=I.turned (λb o hb e=>kk b o (by simpa using hb) e) f0 f1 f3 f4 f5;obtain⟨ki',_⟩:=st';rw[<-hl]at ki';obtain⟨ob,e,c,d⟩:=id ki';exact⟨v,rfl,Gr (s:={ s with heap:=h',toks:=tk }) e c d (by decide) ⟨kV k,H,I1,G7 hk,⟨rfl,k,z,hz,rfl⟩,⟨es,ep,hd,ki'⟩,λb hb=>(hf b hb).1⟩⟩
 done:=by intro X hP hw hK hc i pins s σ H E I hf st hg;subst hP hw hK;obtain⟨hi,he⟩:=hg;obtain⟨es,ep,hd,ki⟩:=st;obtain⟨f0,f1,f2,f3,f4,f5⟩:=hf it (by simp);obtain⟨_,_,vs,r,da⟩:=uh I he hd;have hl:kvs.length=vs.length:=r.length;exact wpAny_pyNext_dict_end (I.ok.hd hc) (by rw[<-hl];exact ki) da (eK (by rw[<-hl];exact hi)) λh' eb=>⟨rfl,I.turned (t':=s.toks) (λb o hb e=>eb b o hb e) f0 f1 f3 f4 f5⟩
 self:=λ_ _ _ _ _ st h=>by obtain⟨es,ep,hd,ki⟩:=st;exact wpAny_pyIter_keyiter ki h
variable{tl:TE}
section
variable{X:Cx}{G:Bg}{tg:Expr}
def Uh(tl:TE):TI:=λσ H R=>tl σ H λx H1=>∃a o kvs,x=.ref a/\H1 a=some (.frz o (.dK kvs))/\R (Itd a o kvs) H1
theorem NO{l:Expr}(hl:PE X l tl):PI X tg l (Uh tl):=by
 intro pins s σ H R I h;refine thn (hl pins s σ H _ I h) λv s1 zz=>?_;obtain⟨x,H1,I1,r1,q1⟩:=zz;obtain⟨a,o,kvs,e,he,q⟩:=q1;subst e;cases r1;obtain⟨q0,_,y,vs,r,ob,es,ep,e1,e2,e3,e4⟩:=(show ObjOk X.prog X.w H1 s1.heap a (.frz o (.dK kvs)) from I1.hok a _ he);rw[q0]at e1;cases e1;have hl:kvs.length=vs.length:=r.length;refine wpAny_pyIter_dict (knd:=oZ X.prog X.w) (kvs:=vs) (ep:=ep) y ⟨o,es,q0,e2,e3,e4⟩ ?_;refine⟨s1.heap.objs.size,[s1.heap.objs.size],_,_,H1,rfl,I1.kept (t':=s1.toks) λb o e=>aB _ e,II a _ o kvs,⟨es,ep,e3,⟨_,aS _ rfl,rfl,by rw[hl];rfl⟩⟩,λb hb=>?_,q⟩;have e:b=s1.heap.objs.size:=by simpa using hb
 subst e;exact I1.fpOk (aA _) (I1.hok.fresh (aA _))
def IJ:Key->D
 |.inl i=>.int i
 |.inr x=>.str x
theorem G8(k:Key){H:Hp}:Rep G H (IJ k) (kV k):=by
 cases k with
 |inl i=>exact rf i
 |inr x=>exact wJ x
def iD(f:FE):FA:=λρ=>match f ρ with
 |some (.dic ks ds,ρ1)=>if ks.length=ds.length then some (ks.map IJ,ρ1)else none
 |_=>none
theorem KO{tg:Expr}(h:PI X tg e (Uh (tF G f))):PI X tg e (tFI G (iD f)):=PI.weak h λσ H R hh=>by
 obtain⟨F,ρ,H0,ds,ρ',R,e,k⟩:=hh;unfold iD at e;split at e
 ·rename_i ks ds' ρ1 e1;split at e
  ·rename_i hlen;cases e;refine⟨F,ρ,H0,_,_,R,e1,λv H1 H1' s R' r=>?_⟩;unfold Rep at r;obtain⟨a,o,xs,rfl,r1,r2,r3⟩:=r;have hz:(ks.zip xs).length=ks.length:=by rw[dB,<- r2,c9]
   refine⟨a,o,_,rfl,R'.sub _ _ r1,k _ _ _ s R' λi H2 H2' t t'=>⟨λd ed=>?_,λhl=>?_⟩⟩
   ·rw[aW]at ed;cases ek:ks[i]? with
    |none=>rw[ek]at ed;cases ed
    |some j=>
     rw[ek]at ed;cases ed;have hi:i<ks.length:=(bt.mp ek).1;refine⟨⟨by rw[hz];exact hi,t' _ _ (t _ _ r1)⟩,λz H3 y=>?_⟩;obtain⟨e3,k',z',hk',rfl⟩:=y;subst e3;have:k'=j:=by rw[ju]at hk';have:=hk'.1;rw[ek]at this;exact(bE this).symm
     subst this;exact⟨H2,oM.refl _,t',oM.refl _,λb o e=>.inl e,G8 _⟩
   ·refine⟨by rw[hz,hl,ah];exact aA _,t' _ _ (t _ _ r1)⟩
  ·cases e
 ·cases e
end
variable{xs:List V}
section
variable{X:Cx}{pins:List (Addr×Obj)}{σ:St}{H:Hp}{s:ae}
theorem Inv.turnedLaid{T:Addr}{t':Nat}{ch:List Addr}(I:Inv X pins σ H s)(hf:∀b∈ch,BE X pins H b)(k:∀b o,b∉ch->s.heap.get? b=some o->h'.get? b=some o)
  (hT:s.heap.objs.size<=T) (new:ObjOk X.prog X.w (upd H T (.tup xs)) h' T (.tup xs)):Inv X pins σ (upd H T (.tup xs)) { s with heap:=h',toks:=t' }:=by
 have nT:H T=none:=I.hok.fresh hT;have ne:∀{b:Addr} {u:HO},H b=some u->b≠T:=λe z=>by subst z;rw[nT]at e;cases e
 have nch:∀{b:Addr} {u:HO},H b=some u->b∉ch:=λe z=>by have:=(hf _ z).1;rw[e]at this;cases this
 have lt:∀{b:Addr} {o:Obj},s.heap.get? b=some o->b≠T:=λe z=>by subst z;exact ao (bD (aF e) hT) (cg _)
 refine I.step (g':=s.gens) (d':=s.drawn) (ch:=ch) (λb hb=>?_) (λb o _ _ hc e _=>k b o hc e) (λb o _ _ hc e _=>⟨o.slots,k b o hc e⟩) (λb o _ e n=>by rw[oF (lt e)];exact n) (λb o hc e=>⟨o,k b o hc e⟩)
  (λb ys e=>by rw[oF (ne e)];exact e) (λb o u e=>by rw[oF (ne e)];exact e) (λb ps e=>⟨#[],by rw[oF (ne e),e];simp⟩) (λm hm=>?_) (λb u e=>?_) I.bare
 ·obtain⟨f0,f1,f2,f3,f4,f5⟩:=hf b hb;exact⟨f3,f1,f4,f5⟩
 ·exact hm.at' λo e=>k _ o (λz=>(hf _ z).2.1 rfl) e
 ·by_cases hb:b=T
  ·subst hb;rw[oH]at e;cases e;exact new
  ·rw[oF hb]at e;refine(I.hok b u e).stay (λc v hc q=>k c v ?_ q) (λc q=>by rw[oF (ne q)];exact q) λc ys q=>by rw[oF (ne q)];exact q
   rcases hc with rfl|hc
   ·exact nch e
   ·exact nch hc
def Itz(l1 l2:Addr):It:=
 ⟨λi H=>∃xs ys x y,H l1=some (.lst xs)/\H l2=some (.lst ys)/\xs[i]?=some x/\ys[i]?=some y,
  λi H v H'=>∃p x y,H p=none/\v=.ref p/\H'=upd H p (.tup [x,y])/\(∀xs,H l1=some (.lst xs)->xs[i]?=some x)/\∀ys,H l2=some (.lst ys)->ys[i]?=some y,
  λi H=>∃xs ys,H l1=some (.lst xs)/\H l2=some (.lst ys)/\(xs.length<=i\/ys.length<=i)⟩
end
structure KP(z TI TO i1 i2:Addr):Prop where
 a:TI≠z
 b:TO≠z
 c:i1≠z
 d:i2≠z
 e:TI≠TO
 f:TI≠i1
 g:TI≠i2
 h:TO≠i1
 i:TO≠i2
 j:i1≠i2
theorem KQ(n:Nat):KP (n+4) (n+2) (n+3) n (n+1) where
 a:=(by omega:(n+2:Nat)≠n+4)
 b:=(by omega:(n+3:Nat)≠n+4)
 c:=(by omega:(n:Nat)≠n+4)
 d:=(by omega:(n+1:Nat)≠n+4)
 e:=(by omega:(n+2:Nat)≠n+3)
 f:=(by omega:(n+2:Nat)≠n)
 g:=(by omega:(n+2:Nat)≠n+1)
 h:=(by omega:(n+3:Nat)≠n)
 i:=(by omega:(n+3:Nat)≠n+1)
 j:=(by omega:(n:Nat)≠n+1)
def zTn(z TI TO i1 i2 l1 l2:Addr)(i:Nat)(h:Heap):Prop:=bI h z TI TO .none/\bc h TI (.ref i1) (.ref i2)/\(∃a b,bc h TO a b)/\h.IsListIter i1 l1 i/\h.IsListIter i2 l2 i
variable{elts:List Expr}
theorem KR{P:au}{w:aq}{K:ak}{x1}{z TI TO i1 i2 l1 l2:Addr}(D:KP z TI TO i1 i2):Turn P w K (.Tuple elts x1 pos) (Itz l1 l2) [z,TI,TO,i1,i2] z (zTn z TI TO i1 i2 l1 l2) where
 mem:=by simp
 obj:=λi h st b hb=>by
  obtain⟨hz,h1,⟨a,c,h2⟩,⟨o3,h3,_,d3⟩,⟨o4,h4,_,d4⟩⟩:=st;simp only[aJ,bw,or_false]at hb;rcases hb with rfl|rfl|rfl|rfl|rfl
  ·exact⟨_,hz,λv y=>nomatch y⟩
  ·exact⟨_,h1,λv y=>nomatch y⟩
  ·exact⟨_,h2,λv y=>nomatch y⟩
  ·exact⟨o3,h3,λv y=>by rw[d3]at y;cases y⟩
  ·exact⟨o4,h4,λv y=>by rw[d4]at y;cases y⟩
 keep:=λi h h' st k=>by obtain⟨hz,h1,⟨a,c,h2⟩,h3,h4⟩:=st;exact⟨k z (by simp) _ hz,k TI (by simp) _ h1,⟨a,c,k TO (by simp) _ h2⟩,h3.at λo e=>k i1 (by simp) o e,h4.at λo e=>k i2 (by simp) o e⟩
 item:=by
  intro X hP hw hK hc i pins s σ H E I hf st hg;subst hP hw hK;obtain⟨xs,ys,x,y,q1,q2,qx,qy⟩:=hg;obtain⟨hz,hTI,⟨a,b,hTO⟩,h1,h2⟩:=st;obtain⟨its,r1,p1,_⟩:=I.list (SqL.of q1);obtain⟨jts,r2,p2,_⟩:=I.list (SqL.of q2);obtain⟨u1,hu1,ru1⟩:=r1.get qx;obtain⟨u2,hu2,ru2⟩:=r2.get qy;have nf:∀{l:Addr} {u:HO} {c:Addr},H l=some u->c∈[z,TI,TO,i1,i2]->l≠c:=λe hm w=>by subst w;have:=(hf _ hm).1;rw[e]at this;cases this
  have DD:dg z TI TO i1 i2 l1 l2:=⟨D.a,D.b,D.c,D.d,D.e,D.f,D.g,D.h,D.i,D.j,nf q1 (by simp),nf q1 (by simp),nf q1 (by simp),nf q1 (by simp),nf q2 (by simp),nf q2 (by simp),nf q2 (by simp),nf q2 (by simp)⟩;refine wpAny_pyNext_zip_item DD hz hTI hTO h1 h2 p1.isList p2.isList (x:=u1) (y:=u2) (by simpa using hu1) (by simpa using hu2) λh' a1 a2 a3 a4 a5 a6 kk=>?_;refine⟨_,rfl,jv (s:={ s with heap:=h' }) a1 λh2' hz' sb=>?_⟩;have lt:∀{c:Addr} {o:Obj},s.heap.get? c=some o->s.heap.objs.size≠c:=λe w=>ao (aF e) (by rw[w];exact cg _);have Tz:s.heap.objs.size≠z:=lt hz;have hp:bc h2' s.heap.objs.size u1 u2:=sb.extBut _ _ Tz a5;have ch4:∀b∈[z,TO,i1,i2],b∈[z,TI,TO,i1,i2]:=λb hb=>by simp at hb ⊢;rcases hb with rfl|rfl|rfl|rfl<;>simp
  have ok:ObjOk X.prog X.w (upd H s.heap.objs.size (.tup [x,y])) h2' s.heap.objs.size (.tup [x,y]):=⟨by rw[bh];show 2<=16777216;decide,[u1,u2],.cons ru1 (.cons ru2 .nil),_,hp,rfl,_,rfl⟩;have I1:=Inv.turnedLaid (h':=h2') (t':=s.toks) (T:=s.heap.objs.size) (xs:=[x,y]) (ch:=[z,TO,i1,i2]) I (λb hb=>hf b (ch4 b hb))
   (λb o hb e=>sb.extBut _ _ (λw=>hb (by simp[w])) (kk b o (λw=>hb (by simp[w])) (λw=>hb (by simp[w])) (λw=>hb (by simp[w])) (λw=>hb (by simp[w])) e)) (aA _) ok
  refine⟨.ref s.heap.objs.size,_,I1,rfl,⟨_,x,y,I.hok.fresh (aA _),rfl,rfl,λxs' e=>?_,λys' e=>?_⟩,⟨hz',sb.extBut _ _ D.a (kk _ _ D.a D.e D.f D.g hTI),⟨_,_,sb.extBut _ _ D.b a2⟩,a3.extBut sb.extBut D.c,a4.extBut sb.extBut D.d⟩,λb hb=>?_⟩
  ·rw[q1]at e;cases e;exact qx
  ·rw[q2]at e;cases e;exact qy
  ·rw[oF (λw=>?_)]
   ·exact(hf b hb).1
   ·simp only[aJ,bw,or_false]at hb;rcases hb with hb|hb|hb|hb|hb
    ·exact lt hz (w.symm.trans hb)
    ·exact lt hTI (w.symm.trans hb)
    ·exact lt hTO (w.symm.trans hb)
    ·obtain⟨o,e,_⟩:=h1;exact lt e (w.symm.trans hb)
    ·obtain⟨o,e,_⟩:=h2;exact lt e (w.symm.trans hb)
 done:=by
  intro X hP hw hK hc i pins s σ H E I hf st hg;subst hP hw hK;obtain⟨xs,ys,q1,q2,hend⟩:=hg;obtain⟨hz,hTI,⟨a,b,hTO⟩,h1,h2⟩:=st;obtain⟨its,r1,p1,_⟩:=I.list (SqL.of q1);obtain⟨jts,r2,p2,_⟩:=I.list (SqL.of q2);have nf:∀{l:Addr} {u:HO} {c:Addr},H l=some u->c∈[z,TI,TO,i1,i2]->l≠c:=λe hm w=>by subst w;have:=(hf _ hm).1;rw[e]at this;cases this
  have DD:dg z TI TO i1 i2 l1 l2:=⟨D.a,D.b,D.c,D.d,D.e,D.f,D.g,D.h,D.i,D.j,nf q1 (by simp),nf q1 (by simp),nf q1 (by simp),nf q1 (by simp),nf q2 (by simp),nf q2 (by simp),nf q2 (by simp),nf q2 (by simp)⟩;have e1:=r1.length;have e2:=r2.length;refine wpAny_pyNext_zip_end (I.ok.hd hc) DD hz hTI hTO h1 h2 p1.isList p2.isList ?_ λh' kk=>⟨rfl,?_⟩
  ·rcases hend with w|w
   ·exact .inl (by simp;omega)
   ·exact .inr (by simp;omega)
  ·have ch4:∀b∈[z,TO,i1,i2],b∈[z,TI,TO,i1,i2]:=λb hb=>by simp at hb ⊢;rcases hb with rfl|rfl|rfl|rfl<;>simp
   have nch:∀{b:Addr} {u:HO},H b=some u->b∉[z,TO,i1,i2]:=λe w=>by have:=(hf _ (ch4 _ w)).1;rw[e]at this;cases this
   have k:∀b o,b∉[z,TO,i1,i2]->s.heap.get? b=some o->h'.get? b=some o:=λb o hb e=>kk b o (λw=>hb (by simp[w])) (λw=>hb (by simp[w])) (λw=>hb (by simp[w])) (λw=>hb (by simp[w])) e;refine I.step (g':=s.gens) (d':=s.drawn) (t':=s.toks) (ch:=[z,TO,i1,i2]) (λb hb=>?_) (λb o _ _ hc e _=>k b o hc e) (λb o _ _ hc e _=>⟨o.slots,k b o hc e⟩) (λb o _ e n=>n) (λb o hc e=>⟨o,k b o hc e⟩)
    (λb ys e=>e) (λb o u e=>e) (λb ps e=>⟨#[],by rw[e];simp⟩) (λm hm=>?_) (λb u e=>?_) I.bare
   ·obtain⟨f0,f1,f2,f3,f4,f5⟩:=hf b (ch4 b hb);exact⟨f3,f1,f4,f5⟩
   ·exact hm.at' λo e=>k _ o (λw=>(hf _ (ch4 _ w)).2.1 rfl) e
   ·refine(I.hok b u e).stay (λc v hc q=>k c v ?_ q) (λc q=>q) λc ys q=>q;rcases hc with rfl|hc
    ·exact nch e
    ·exact nch hc
 self:=λ_ _ _ _ _ st h=>gw st.1 h
section
variable{X:Cx}{G:Bg}{elts:List Expr}{x1:Nat}{tpos:Pos}
def Ui(ta:TA):TI:=λσ H R=>ta σ H λvs H1=>∃a b xs ys,vs=[.ref a,.ref b]/\H1 a=some (.lst xs)/\H1 b=some (.lst ys)/\R (Itz a b) H1
theorem QH{a b:Expr}{ta:TA}{p:Pos}(hg:Gl X "zip")(hm:X.mg "zip" = none)(ha:PA X [a,b] ta)(hs:ar [a,b] X.env=[(false,eval a X.env),(false,eval b X.env)]:=by rfl)(hs2:ar [b] X.env=[(false,eval b X.env)]:=by rfl):
  PI X (.Tuple elts x1 tpos) (.Call (.Name "zip" p) [a,b] [] pos) (Ui ta):=by
 intro pins s σ H R I h;refine Call_ (vY I hg hm boot_zip (callWith_type1 (thn (ha pos pins s σ H _ I h) λus s1 zz=>?_) (by rw[hs,hs2]) (by rw[hs2];rfl)));obtain⟨vs,H1,I1,r1,q1⟩:=zz;obtain⟨a',b',xs,ys,rfl,e1,e2,q⟩:=q1;obtain⟨u,v,rfl,ru,rv⟩:=vals2 r1;cases ru;cases rv;obtain⟨its,_,p1,_⟩:=I1.list (SqL.of e1);obtain⟨jts,_,p2,_⟩:=I1.list (SqL.of e2);refine call_zip_2 p1.isList p2.isList λh' z1 z2 z3 z4 z5 z6 kk=>?_;refine gw z1 ?_;have I2:Inv X pins σ H1 { s1 with heap:=h' }:=I1.kept (t':=s1.toks) kk;have D:=KQ s1.heap.objs.size;refine⟨_,_,_,_,H1,rfl,I2,KR D,⟨z1,z2,⟨_,_,z3⟩,z4,z5⟩,λc hc=>?_,q⟩;have hc':s1.heap.objs.size<=c:=by simp only[aJ,bw,or_false]at hc;rcases hc with rfl|rfl|rfl|rfl|rfl<;>first|exact dv _ _|exact aA _
 exact I1.fpOk hc' (I1.hok.fresh hc')
def vW(ds es:List D):List D:=cD (λd e=>D.tup [d,e]) ds es
def iZ(f:FA):FA:=λρ=>match f ρ with
 |some ([.lst ds,.lst es],ρ1)=>some (vW ds es,ρ1)
 |_=>none
theorem AS(ds es:List D):(vW ds es).length=min ds.length es.length:=by unfold vW;rw[ip]
theorem NP{f:FA}(h:PI X tg e (Ui (tFA G f))):PI X tg e (tFI G (iZ f)):=PI.weak h λσ H R hh=>by
 obtain⟨F,ρ,H0,ds,ρ',R,e,k⟩:=hh;unfold iZ at e;split at e
 ·rename_i ds' es' ρ1 e1;cases e;refine⟨F,ρ,H0,_,_,R,e1,λvs H1 H1' s R' rs=>?_⟩;unfold Reps at rs;obtain⟨v1,r1,rfl,h1,rs⟩:=rs;unfold Reps at rs;obtain⟨v2,r2,rfl,h2,rs⟩:=rs;unfold Reps at rs;subst rs;unfold Rep at h1 h2;obtain⟨a,xs,rfl,a1,a2⟩:=h1;obtain⟨b,ys,rfl,b1,b2⟩:=h2;refine⟨a,b,xs,ys,rfl,R'.sub _ _ a1,R'.sub _ _ b1,k _ _ _ s R' λi H2 H2' t t'=>?_⟩;have g1:H2' a=some (.lst xs):=t' _ _ (t _ _ a1);have g2:H2' b=some (.lst ys):=t' _ _ (t _ _ b1);refine⟨λd ed=>?_,λhl=>⟨xs,ys,g1,g2,?_⟩⟩
  ·unfold vW at ed;rw[fV]at ed;cases ex:ds'[i]? with
   |none=>rw[ex]at ed;cases ed
   |some dx=>
    cases ey:es'[i]? with
    |none=>rw[ex,ey]at ed;cases ed
    |some dy=>
     rw[ex,ey]at ed;cases ed;obtain⟨vx,x1',x2⟩:=p5 a2 ex;obtain⟨vy,y1',y2⟩:=p5 b2 ey;refine⟨⟨xs,ys,vx,vy,g1,g2,x1',y1'⟩,λx H3 y=>?_⟩;obtain⟨p,x',y',hp,rfl,rfl,w1,w2⟩:=y;have e1':=w1 xs g1;have e2':=w2 ys g2;rw[x1']at e1';rw[y1']at e2';cases e1';cases e2';have p0:H2 p=none:=by
      cases q:H2 p with
      |none=>rfl
      |some o=>have:=t' _ _ q;rw[hp]at this;cases this
     refine⟨upd H2 p (.tup [vx,vy]),oP p0 _,λb o e=>?_,oP hp _,λb o e=>?_,vd (SqT.of oH) ?_⟩
     ·by_cases hb:b=p
      ·subst hb;rw[oH]at e ⊢;exact e
      ·rw[oF hb]at e ⊢;exact t' _ _ e
     ·by_cases hb:b=p
      ·subst hb;exact .inr hp
      ·rw[oF hb]at e;exact .inl e
     ·have m:=t.trans (oP p0 (.tup [vx,vy]));exact o6 (Rep.mono m _ _ x2) (o6 (Rep.mono m _ _ y2) o7)
  ·rw[AS]at hl;rw[<-oG a2,<- oG b2];omega
 ·cases e
end
mutual
def noC(N c:Nat):D->Bool
 |.non=>true
 |.bl _=>true
 |.int _=>true
 |.str _=>true
 |.tup ds=>Ew N c ds
 |.lst ds=>Ew N c ds
 |.fzl ds=>Ew N c ds
 |.obj k _ ds=>decide (k<N)&&decide (k≠c)&&Ew N c ds
 |.dic _ ds=>Ew N c ds
def Ew(N c:Nat):List D->Bool
 |[]=>true
 |d::ds=>noC N c d&&Ew N c ds
end
def without(H:Hp)(a:Addr):Hp:=λb=>if b=a then none else H b
theorem AU{H:Hp}{b:Addr}(h:b≠a):without H a b=H b:=by unfold without;rw[ai h]
theorem yj{H:Hp}{b:Addr}{o:HO}(h:without H a b=some o):b≠a/\H b=some o:=by
 unfold without at h;by_cases hb:b=a
 ·rw[aj hb]at h;cases h
 ·rw[ai hb]at h;exact⟨hb,h⟩
theorem rl{H:Hp}{b:Addr}{u v:HO}(ha:H a=some u)(hb:H b=some v)(d:u≠v):without H a b=some v:=by rw[AU (λz=>by subst z;rw[ha]at hb;exact d (bE hb))];exact hb
variable{p:Addr}
section
variable{G:Bg}{H:Hp}{a dx:Addr}{fs:List (Str×V)}{N c:Nat}
theorem Ex(ha:H a=some (.ins (G.ca c) dx fs))(h:SqT G.K H p xs):SqT G.K (without H a) p xs:=by
 rcases h with (h|⟨o,h⟩)|h
 ·exact .inl (.inl (rl ha h (λz=>nomatch z)))
 ·exact .inl (.inr ⟨o,rl ha h (λz=>nomatch z)⟩)
 ·exact .inr h
theorem Ey(ha:H a=some (.ins (G.ca c) dx fs))(h:SqL G.K H p xs):SqL G.K (without H a) p xs:=by
 rcases h with (h|⟨o,h⟩)|h
 ·exact .inl (.inl (rl ha h (λz=>nomatch z)))
 ·exact .inl (.inr ⟨o,rl ha h (λz=>nomatch z)⟩)
 ·exact .inr h
mutual
theorem zx(inj:∀j k,j<N->k<N->G.ca j=G.ca k->j=k)(hc:c<N)(ha:H a=some (.ins (G.ca c) dx fs)):∀(d:D) (v:V),noC N c d=true->Rep G H d v->Rep G (without H a) d v
 |.non,v,_,h=>by unfold Rep at h ⊢;exact h
 |.bl _,v,_,h=>by unfold Rep at h ⊢;exact h
 |.int _,v,_,h=>by unfold Rep at h ⊢;exact h
 |.str _,v,_,h=>by unfold Rep at h ⊢;exact h
 |.tup ds,v,n,h=>by unfold noC at n;unfold Rep at h ⊢;obtain⟨p,xs,e,h1,h2⟩:=h;exact⟨p,xs,e,Ex ha h1,qU inj hc ha ds xs n h2⟩
 |.lst ds,v,n,h=>by unfold noC at n;unfold Rep at h ⊢;obtain⟨p,xs,e,h1,h2⟩:=h;exact⟨p,xs,e,rl ha h1 (λz=>nomatch z),qU inj hc ha ds xs n h2⟩
 |.fzl ds,v,n,h=>by unfold noC at n;unfold Rep at h ⊢;obtain⟨p,xs,e,h1,h2⟩:=h;exact⟨p,xs,e,Ey ha h1,qU inj hc ha ds xs n h2⟩
 |.obj k ns ds,v,n,h=>by unfold noC at n;simp only[aR,bu]at n;unfold Rep at h ⊢;obtain⟨p,dx',xs,e,h1,h2,h3⟩:=h;refine⟨p,dx',xs,e,rl ha h1 (λz=>?_),h2,qU inj hc ha ds xs n.2 h3⟩;injection z with z1;exact n.1.2 (inj k c n.1.1 hc z1.symm)
 |.dic ks ds,v,n,h=>by unfold noC at n;unfold Rep at h ⊢;obtain⟨p,o,xs,e,h1,h2,h3⟩:=h;exact⟨p,o,xs,e,rl ha h1 (λz=>nomatch z),h2,qU inj hc ha ds xs n h3⟩
theorem qU(inj:∀j k,j<N->k<N->G.ca j=G.ca k->j=k)(hc:c<N)(ha:H a=some (.ins (G.ca c) dx fs)):∀(ds:List D) (xs:List V),Ew N c ds=true->Reps G H ds xs->Reps G (without H a) ds xs
 |[],xs,_,h=>by unfold Reps at h ⊢;exact h
 |d::ds,xs,n,h=>by unfold Ew at n;simp only[aR]at n;unfold Reps at h ⊢;obtain⟨v,r,e,h1,h2⟩:=h;exact⟨v,r,e,zx inj hc ha d v n.1 h1,qU inj hc ha ds r n.2 h2⟩
end
end
def xN:Sl->Sl
 |.im d=>.im d
 |_=>.un
def ui(N:Nat)(f:FE):FE:=λρ=>match ρ with
 |.ob c ns ds::r=>match f (.im (.obj c ns ds)::r.map xN)with
  |some (d,_)=>if (decide (c<N)&&noC N c d)=true then some (d,ρ)else none
  |none=>none
 |_=>none
section
variable{X:Cx}{G:Bg}
theorem FM{s:Sl}:(xN s).own=false:=by cases s<;>rfl
theorem NQ{N:Nat}(inj:∀j k,j<N->k<N->G.ca j=G.ca k->j=k)(h:PE X e (tF G f)):PE X e (tF G (ui N f)):=PE.weak h λσ H Q hh=>by
 obtain⟨F,ρ,H0,d,ρ',R,e,k⟩:=hh;unfold ui at e;split at e
 ·rename_i c ns ds r;rcases oY (f:=f) (ρ:=.im (.obj c ns ds)::r.map xN)with e1|⟨x,ρ1,e1⟩<;>simp only[e1]at e
  ·cases e
  split at e
  ·rename_i hn;cases e;simp only[aR,bu]at hn;obtain⟨a,dx,xs,h1,h2,h3,h4,h5,h6⟩:=R.sl 0 _ rfl;have RL:RelE G ⟨upd H0 a (.ins (G.ca c) dx (ns.zip xs)),H,[]⟩ σ (.im (.obj c ns ds)::r.map xN) (upd H0 a (.ins (G.ca c) dx (ns.zip xs))) H:={
    sub:=λb o q=>by
     by_cases hb:b=a
     ·subst hb;rw[oH]at q;cases q;exact h2
     ·rw[oF hb]at q;exact R.sub _ _ q
    g0:=oM.refl _
    keep:=λb o q _=>q
    fr:=λb o q=>.inl q
    am:=λb q=>by cases q
    len:=by have:=R.len;simpa using this
    sl:=λi s q=>by
     cases i with
     |zero=>cases q;exact⟨.ref a,h1,by unfold Rep;exact⟨a,dx,xs,rfl,oH,h5,Reps.mono (oP h3 _) _ _ h6⟩⟩
     |succ i=>
      have q':(r.map xN)[i]?=some s:=q;rw[aW]at q';cases q1:r[i]? with
      |none=>rw[q1]at q';cases q'
      |some t=>
       rw[q1]at q';cases q';have ok:=R.sl (i+1) t q1;cases t with
       |im d=>obtain⟨v,g1,g2⟩:=ok;exact⟨v,g1,Rep.mono (oP h3 _) _ _ g2⟩
       |_=>trivial
    ap:=λi j s t b _ qi _ so=>by
     cases i with
     |zero=>cases qi;cases so
     |succ i=>
      have q':(r.map xN)[i]?=some s:=qi;rw[aW]at q';cases q1:r[i]? with
      |none=>rw[q1]at q';cases q'
      |some t=>rw[q1]at q';cases q';rw[FM]at so;cases so }
   refine⟨_,_,_,d,ρ1,RL,e1,λv H1 H1' s R' rd=>?_⟩;have ha:H1 a=some (.ins (G.ca c) dx (ns.zip xs)):=s _ _ oH;have s0:oM H0 (without H1 a):=λb o q=>by
    have hb:b≠a:=λz=>by subst z;rw[h3]at q;cases q
    rw[AU hb];exact s b o (by rw[oF hb];exact q)
   refine k v (without H1 a) H1' s0 ?_ (zx inj hn.1 ha d v hn.2 rd);refine R.grow (λb o q=>R'.keep b o q (by simp)) s0 (λb o q=>R'.sub _ _ (yj q).2) λb o q=>?_;obtain⟨hb,q⟩:=yj q;rcases R'.fr b o q with z|z
   ·have z':upd H0 a (.ins (G.ca c) dx (ns.zip xs)) b=some o:=z;rw[oF hb]at z';exact .inl z'
   ·exact .inr z
  ·cases e
 ·cases e
end
section
variable{X:Cx}{pins:List (Addr×Obj)}{σ:St}{H:Hp}{s:ae}{a:Addr}{A:az}{E:aa->ae->Prop}
theorem QI{k:Key}{z:V}{u r:aa}{Q:aa->ae->Prop}(I:Inv X pins σ H s)(e:H a=some (.dK kvs))(ry:RelV (kV k) u)(rz:RelV z r)(hl:kvs.length<aE)
  (h1:∀v w s',rY kvs k=some v->Inv X pins σ H s'->RelV v w->Q w s') (h2:∀s',rY kvs k=none->Inv X pins σ (upd H a (.dK (putK kvs k z))) s'->Q r s'):
  af (model X.prog X.w) A (call (.builtin "dict.setdefault") [.ref a,u,r]) Q E s:=by
 obtain⟨y,hd,vs,rel,dd⟩:=JQ I.hok e;have hz:vs.length<=aE:=by rw[<-rel.length];exact y
 have hp:(putK kvs k z).length<=aE:=by have:=uc kvs k z;omega
 have rv:=rel.val k;refine eB jE dd.typeIs F.entry_dict_setdefault (F.args_dict_setdefault_3 _ _ _) (kt_meets_setdefault (oZ X.prog X.w) a (ya ry) hd r) ⟨vs,dd,hz,λw hw=>?_,λhn h' dd' hs=>?_⟩
 ·rw[hw]at rv;cases ev:rY kvs k with
  |none=>rw[ev]at rv;exact rv.elim
  |some v=>rw[ev]at rv;exact h1 v w _ ev (I.tok _) rv
 ·rw[hn]at rv;cases ev:rY kvs k with
  |some v=>rw[ev]at rv;exact rv.elim
  |none=>have he:∃q,h'.get? a=some q:=let ⟨q,_,_,hq,_⟩:=dd';⟨q,hq⟩;exact h2 _ ev (z7 I (by rw[e];exact True.intro) hs he (Fl hp hd (rel.put k rz) dd'))
def KU(td ty tx:TE):TE:=λσ H Q=>td σ H λx H1=>∃a,x=.ref a/\IsD H1 a/\ty σ H1 λy H2=>tx σ H2 λz H3=>∃kvs k,H3 a=some (.dK kvs)/\y=kV k/\kvs.length<aE/\
 (∀v,rY kvs k=some v->Q v H3)/\(rY kvs k=none->Q z (upd H3 a (.dK (putK kvs k z))))
theorem KW{o f:Expr}{td ty tx:TE}(ho:PE X o td)(he:PE X e ty)(hf:PE X f tx)(m:M2 X o "setdefault" apos e f cpos):PE X (.Call (.Attribute o "setdefault" apos) [e,f] [] cpos) (KU td ty tx):=by
 intro pins s σ H Q I h;refine iy m.base m.few m.line gj jE F.type_dict_setdefault (thn (ho pins s σ H _ I h) λu s1 zz=>?_);obtain⟨x,H1,I1,rx,a,ex,d,q1⟩:=zz;subst ex;obtain rfl:u=Value.ref a:=rx;obtain⟨t1,t2,_⟩:=Di I1 d;refine⟨t1,t2,?_⟩;rw[m.trees];refine dO rfl (fW (dq (thn (he pins s1 σ H1 _ I1 q1) λiv s2 ⟨y,H2,I2,ry,q2⟩=>
  dq (thn (hf pins s2 σ H2 _ I2 q2) λfv s3 ⟨z,H3,I3,rz,kvs,k,e3,ey,hl,g1,g2⟩=>eU ?_))))
 subst ey;exact QI I3 e3 ry rz hl (λv w s' ev I' rw'=>⟨v,H3,I',rw',g1 v ev⟩) λs' ev I'=>⟨z,_,I',rz,g2 ev⟩
end
def BN(ks:List Key)(dss:List (List D))(k:Key)(d:D):List Key×List (List D):=
 if AM ks k=true then (ks,cD (λk' ds=>if k'=k then ds++[d]else ds) ks dss)else (ks++[k],dss++[[d]])
theorem EA{k:Key}:AM ks k=true ↔ k∈ks:=by unfold AM;rw[dW];exact⟨λ⟨x,h1,h2⟩=>bP h2▸h1,λh=>⟨k,h,bg rfl⟩⟩
variable{vs:List V}
theorem KY{k:Key}{v:V}:ks.length=vs.length->rY (ks.zip vs) k=some v->∃j:Nat,ks[j]?=some k/\vs[j]?=some v:=by
 induction ks generalizing vs with
 |nil=>intro _ h;cases h
 |cons k0 ks ih=>
  intro hl h;cases vs with
  |nil=>cases hl
  |cons v0 vs=>
   unfold rY at h;rw[cM,cO]at h;by_cases e:k0=k
   ·subst e;simp only[decide_true]at h;cases h;exact⟨0,rfl,rfl⟩
   ·simp only[e,decide_false]at h;obtain⟨j,h1,h2⟩:=ih (by simpa using hl) h;exact⟨j+1,h1,h2⟩
theorem KZ{k:Key}:ks.length=vs.length->rY (ks.zip vs) k=none->k∉ks:=by
 induction ks generalizing vs with
 |nil=>intro _ _ h;cases h
 |cons k0 ks ih=>
  intro hl h hm;cases vs with
  |nil=>cases hl
  |cons v0 vs=>
   unfold rY at h;rw[cM,cO]at h;by_cases e:k0=k
   ·subst e;simp only[decide_true]at h;cases h
   ·simp only[e,decide_false]at h;rcases aJ.mp hm with z|z
    ·exact e z.symm
    ·exact ih (by simpa using hl) h z
structure Grp(G:Bg)(F:Fr)(H0 H:Hp)(a:Addr)(ks:List Key)(dss:List (List D))(bs:List Addr):Prop where
 at_:H a=some (.dK (ks.zip (bs.map V.ref)))
 n0:H0 a=none
 nB:F.B a=none
 len:ks.length=bs.length
 len':bs.length=dss.length
 nd:bs.Nodup
 kd:ks.Nodup
 each:∀(i:Nat) (b:Addr) (ds:List D),bs[i]?=some b->dss[i]?=some ds->∃xs,H b=some (.lst xs)/\H0 b=none/\F.B b=none/\Reps G H0 ds xs
section
variable{G:Bg}{F:Fr}{σ:St}{ρ:List Sl}{H0 H H0' H':Hp}{a:Addr}{ks:List Key}{dss:List (List D)}{bs:List Addr}
theorem Grp.grow(g:Grp G F H0 H a ks dss bs)(hs:oM H H')(h0:oM H0 H0')(hf:∀b o,H0' b=some o->H0 b=some o\/H b=none):Grp G F H0' H' a ks dss bs where
 at_:=hs _ _ g.at_
 n0:=by
  cases q:H0' a with
  |none=>rfl
  |some o=>
   rcases hf a o q with z|z
   ·rw[g.n0]at z;cases z
   ·rw[g.at_]at z;cases z
 nB:=g.nB
 len:=g.len
 len':=g.len'
 nd:=g.nd
 kd:=g.kd
 each:=λi b ds e1 e2=>by
  obtain⟨xs,q1,q2,q3,q4⟩:=g.each i b ds e1 e2;refine⟨xs,hs _ _ q1,?_,q3,Reps.mono h0 _ _ q4⟩;cases q:H0' b with
  |none=>rfl
  |some o=>
   rcases hf b o q with z|z
   ·rw[q2]at z;cases z
   ·rw[q1]at z;cases z
theorem RelE.still(R:RelE G F σ ρ H0 H)(no:∀s∈ρ,s.own=false):RelE G ⟨H0,H,[]⟩ σ ρ H0 H where
 sub:=R.sub
 g0:=oM.refl _
 keep:=λb o e _=>e
 fr:=λb o e=>.inl e
 am:=λa h=>by cases h
 len:=R.len
 sl:=λi s e=>by
  have ok:=R.sl i s e;have n:=no s (bK e);cases s with
  |un=>trivial
  |im d=>exact ok
  |_=>cases n
 ap:=λi j s t b _ e _ so=>by rw[no s (bK e)]at so;cases so
theorem RelE.touch(R:RelE G F σ ρ H0 H)(no:∀s∈ρ,s.own=false)(hk:∀b o,H b=some o->(H0 b≠none\/F.B b≠none)->H' b=some o)(ha:∀b o,H b=some o->∃o',H' b=some o'):RelE G F σ ρ H0 H' where
 sub:=λb o e=>hk b o (R.sub _ _ e) (.inl (by rw[e];exact λz=>nomatch z))
 g0:=R.g0
 keep:=λb o e n=>hk b o (R.keep b o e n) (.inr (by rw[e];exact λz=>nomatch z))
 fr:=R.fr
 am:=λb hb=>by obtain⟨o,e⟩:=R.am b hb;exact ha b o e
 len:=R.len
 sl:=λi s e=>by
  have ok:=R.sl i s e;have n:=no s (bK e);cases s with
  |un=>trivial
  |im d=>exact ok
  |_=>cases n
 ap:=λi j s t b _ e _ so=>by rw[no s (bK e)]at so;cases so
theorem QJ{bs:List Addr}(h:bs.Nodup){b:Addr}(e1:bs[i]?=some b)(e2:bs[j]?=some b):i=j:=by obtain⟨h1,q1⟩:=bt.mp e1;obtain⟨h2,q2⟩:=bt.mp e2;exact(gq h).mp (q1.trans q2.symm)
theorem QK{ks:List Key}(h:ks.Nodup){b:Key}(e1:ks[i]?=some b)(e2:ks[j]?=some b):i=j:=by obtain⟨h1,q1⟩:=bt.mp e1;obtain⟨h2,q2⟩:=bt.mp e2;exact(gq h).mp (q1.trans q2.symm)
theorem Grp.more(g:Grp G F H0 H a ks dss bs){k:Key}{b:Addr}{v:V}(ek:ks[j]?=some k)(eb:bs[j]?=some b)(hx:H b=some (.lst xs))(rd:Rep G H0 d v):
  Grp G F H0 (upd H b (.lst (xs++[v]))) a (BN ks dss k d).1 (BN ks dss k d).2 bs:=by
 have hm:AM ks k=true:=EA.mpr (bK ek);unfold BN;rw[aj hm];have ne:a≠b:=λz=>by subst z;rw[g.at_]at hx;cases hx
 refine⟨by rw[oF ne];exact g.at_,g.n0,g.nB,g.len,?_,g.nd,g.kd,λi c ds e1 e2=>?_⟩
 ·rw[ip,<- g.len',<- g.len,c9,g.len]
 ·rw[fV]at e2;cases q1:ks[i]? with
  |none=>rw[q1]at e2;cases e2
  |some k'=>
   cases q2:dss[i]? with
   |none=>rw[q1,q2]at e2;cases e2
   |some ds'=>
    rw[q1,q2]at e2;cases e2;obtain⟨ys,w1,w2,w3,w4⟩:=g.each i c ds' e1 q2;by_cases hk:k'=k
    ·subst hk;have ij:=QK g.kd q1 ek;subst ij;rw[e1]at eb;cases eb;rw[w1]at hx;cases hx;rw[aj rfl];exact⟨_,oH,w2,w3,qu w4 (o6 rd o7)⟩
    ·rw[ai hk];have nc:c≠b:=λz=>by subst z;have ij:=QJ g.nd e1 eb;subst ij;rw[q1]at ek;cases ek;exact hk rfl
     exact⟨ys,by rw[oF nc];exact w1,w2,w3,w4⟩
theorem Grp.fresh(g:Grp G F H0 H a ks dss bs){k:Key}{v:V}(hk:k∉ks)(hp:H p=none)(h0:H0 p=none)(hB:F.B p=none)(rd:Rep G H0 d v):
  Grp G F H0 (upd (upd (upd H p (.lst [])) a (.dK ((ks++[k]).zip ((bs++[p]).map V.ref)))) p (.lst [v])) a (BN ks dss k d).1 (BN ks dss k d).2 (bs++[p]):=by
 have hm:¬AM ks k=true:=λz=>hk (EA.mp z);unfold BN;rw[ai hm];have ne:a≠p:=λz=>by subst z;rw[g.at_]at hp;cases hp
 have np:p∉bs:=λz=>by
  obtain⟨i,hi,e⟩:=eO z;have e1:bs[i]?=some p:=by rw[aH hi,e]
  obtain⟨ds,e2⟩:∃ds,dss[i]?=some ds:=⟨dss[i]'(by rw[<-g.len'];exact hi),aH _⟩;obtain⟨ys,w1,_⟩:=g.each i p ds e1 e2;rw[hp]at w1;cases w1
 refine⟨by rw[oF ne,oH],g.n0,g.nB,by simp[g.len],by simp[g.len'],?_,?_,λi c ds e1 e2=>?_⟩
 ·rw[bG];refine⟨g.nd,by simp,λx hx y hy=>?_⟩;rw[bj]at hy;subst hy;exact λz=>np (z▸hx)
 ·rw[bG];refine⟨g.kd,by simp,λx hx y hy=>?_⟩;rw[bj]at hy;subst hy;exact λz=>hk (z▸hx)
 ·by_cases hi:i<bs.length
  ·rw[cK hi]at e1;rw[cK (by rw[<-g.len'];exact hi)]at e2;obtain⟨ys,w1,w2,w3,w4⟩:=g.each i c ds e1 e2;have nc:c≠p:=λz=>np (z▸bK e1);have na:c≠a:=λz=>by subst z;rw[g.at_]at w1;cases w1
   exact⟨ys,by rw[oF nc,oF na,oF nc];exact w1,w2,w3,w4⟩
  ·have hi':i=bs.length:=by have:i<(bs++[p]).length:=(bt.mp e1).1;rw[aI,bB]at this;omega
   subst hi';rw[cJ (aA _),iP]at e1;rw[g.len',cJ (aA _),iP]at e2;cases e1;cases e2;exact⟨[v],oH,h0,hB,o6 rd o7⟩
def EB(G:Bg)(fk:FE):TS:=OJ (tBM G.K "list" Dg (KU (ua 1) (tF G fk) (Tp DU)) (An (ua 2) DU))
theorem K0{D0:Ends}{x:D}{k:Key}{vr:V}(R:RelE G F σ ρ H0 H)(no:∀s∈ρ,s.own=false)(h1:σ[1]?=some (some (.ref a)))(h2:σ[2]?=some (some vr))(rd:Rep G H0 d vr)
  (g:Grp G F H0 H a ks dss bs) (hk:fk ρ=some (x,ρ)) (ek:xJ x=some k) (l1:ks.length<1000) (l2:∀ds∈dss,ds.length<1000)
  (kont:∀Hi Hj bs',oM H0 Hi->RelE G F σ ρ Hi Hj->Grp G F Hi Hj a (BN ks dss k d).1 (BN ks dss k d).2 bs'->D0.nx σ Hj):EB G fk D0 σ H:=by
 refine⟨.ref a,h1,a,rfl,.inl ⟨_,.inl g.at_⟩,_,_,_,x,ρ,RelE.still R no,hk,λv H1 H1' s R1 r=>?_⟩;have hs:oM H H1':=λb o e=>R1.keep b o e (by simp);have hf:∀b o,H1 b=some o->H0 b=some o\/H b=none:=R1.fr;have R2:RelE G F σ ρ H1 H1':=R.grow hs s R1.sub hf;have g2:Grp G F H1 H1' a ks dss bs:=g.grow hs s hf;have rd2:=Rep.mono s _ _ rd;refine⟨bN _,λp hp=>?_⟩;have np:a≠p:=λz=>by subst z;rw[g2.at_]at hp;cases hp
 have R3:RelE G F σ ρ H1 (upd H1' p (.lst [])):=R2.newOwn hp _;have g3:Grp G F H1 (upd H1' p (.lst [])) a ks dss bs:=g2.grow (oP hp _) (oM.refl _) λb o e=>.inl e;have lz:(ks.zip (bs.map V.ref)).length<aE:=by rw[dB,ah,<- g.len,c9,bh];omega
 refine⟨_,k,g3.at_,wU r ek,lz,λw ev=>?_,λev=>?_⟩
 ·obtain⟨j,e1,e2⟩:=KY (by rw[ah];exact g.len) ev;rw[aW]at e2;cases eb:bs[j]? with
  |none=>rw[eb]at e2;cases e2
  |some b=>
   rw[eb]at e2;cases e2;obtain⟨ds,ed⟩:∃ds,dss[j]?=some ds:=⟨dss[j]'(by rw[<-g.len'];exact(bt.mp eb).1),aH _⟩;obtain⟨xs,w1,w2,w3,w4⟩:=g3.each j b ds eb ed;have lx:xs.length<aE:=by rw[<-oG w4,bh];have:=l2 ds (bK ed);omega
   refine⟨.inl ⟨rfl,xs,SqL.of w1⟩,vr,h2,b,xs,vr,rfl,rfl,w1,lx,?_⟩;refine kont H1 _ bs s (RelE.touch R3 no (λc o e z=>?_) λc o e=>?_) (g3.more e1 eb w1 rd2)
   ·have nc:c≠b:=λy=>by
     subst y;rcases z with z|z
     ·exact z w2
     ·exact z w3
    rw[oF nc];exact e
   ·by_cases y:c=b
    ·subst y;exact⟨_,oH⟩
    ·rw[oF y];exact⟨o,e⟩
 ·have nk:=KZ (by rw[ah];exact g.len) ev;have h0p:H1 p=none:=R2.h0none hp;have hBp:F.B p=none:=R2.bNone hp;have ez:putK (ks.zip (bs.map V.ref)) k (.ref p)=(ks++[k]).zip ((bs++[p]).map V.ref):=by rw[JP _ ev,aU,kQ (by rw[ah];exact g.len)];rfl
  rw[ez];have q0:upd (upd H1' p (.lst [])) a (.dK ((ks++[k]).zip ((bs++[p]).map V.ref))) p=some (.lst []):=by rw[oF (λz=>np z.symm),oH]
  refine⟨.inl ⟨rfl,[],SqL.of q0⟩,vr,h2,p,[],vr,rfl,rfl,q0,by rw[bh];decide,?_⟩;refine kont H1 _ (bs++[p]) s (RelE.touch R3 no (λc o e z=>?_) λc o e=>?_) (g2.fresh nk hp h0p hBp rd2)
  ·have n1:c≠p:=λy=>by
    subst y;rcases z with z|z
    ·exact z h0p
    ·exact z hBp
   have n2:c≠a:=λy=>by
    subst y;rcases z with z|z
    ·exact z g2.n0
    ·exact z g2.nB
   rw[ba,oF n1,oF n2];exact e
  ·by_cases y:c=p
   ·subst y;exact⟨_,oH⟩
   ·rw[oF y];by_cases y2:c=a
    ·subst y2;exact⟨_,oH⟩
    ·rw[oF y2];exact⟨o,e⟩
end
def AV(vk:D->Option D):List D->List Key->List (List D)->Option (List Key×List (List D))
 |[],ks,dss=>some (ks,dss)
 |d::r,ks,dss=>match vk d with
  |some x=>match xJ x with
   |some k=>if (decide (ks.length<1000)&&dss.all λds=>decide (ds.length<1000))=true then AV vk r (BN ks dss k d).1 (BN ks dss k d).2 else none
   |none=>none
  |none=>none
def FN(vk:D->Option D):FS:=λρ=>match ρ with
 |[.im (.lst L),.un,.un]=>match AV vk L [] []with
  |some (ks,dss)=>some (.rt (.dic ks (dss.map .lst)) [.im (.lst L),.un,.un])
  |none=>none
 |_=>none
variable{F:Fr}{H0:Hp}
section
variable{X:Cx}{G:Bg}
theorem zy{Hq:Hp}:∀(bs:List Addr) (dss:List (List D)),bs.length=dss.length->(∀(i:Nat) (b:Addr) (ds:List D),bs[i]?=some b->dss[i]?=some ds->∃xs,Hq b=some (.lst xs)/\Reps G Hq ds xs)->
  Reps G Hq (dss.map .lst) (bs.map V.ref)
 |[],[],_,_=>o7
 |[],_::_,h,_=>by cases h
 |_::_,[],h,_=>by cases h
 |b::bs,ds::dss,h,k=>by obtain⟨xs,h1,h2⟩:=k 0 b ds rfl rfl;exact o6 (ud h1 h2) (zy bs dss (by simpa using h) λi b ds e1 e2=>k (i+1) b ds e1 e2)
theorem NR{σ:St}{H:Hp}{dss:List (List D)}{bs:List Addr}{L:List D}{s2:Sl}(R:RelE G F σ [.im (.lst L),.un,s2] H0 H)(g:Grp G F H0 H a ks dss bs)(o:Obj):
  ∃Hq,oM H0 Hq/\RelE G F σ [.im (.lst L),.un,.un] Hq (upd H a (.frz o (.dK (ks.zip (bs.map V.ref)))))/\Rep G Hq (.dic ks (dss.map .lst)) (.ref a):=by
 have mb:∀{b:Addr},b∈bs->∃xs,H b=some (.lst xs)/\H0 b=none/\F.B b=none:=λ{b} hb=>by obtain⟨i,hi,e⟩:=eO hb;obtain⟨xs,w1,w2,w3,_⟩:=g.each i b (dss[i]'(by rw[<-g.len'];exact hi)) (by rw[aH hi,e]) (aH _);exact⟨xs,w1,w2,w3⟩
 have na:a∉bs:=λz=>by obtain⟨xs,w1,_⟩:=mb z;rw[g.at_]at w1;cases w1
 have s0:oM H0 (λc=>if c=a then some (.frz o (.dK (ks.zip (bs.map V.ref))))else if c∈bs then H c else H0 c):=λc u e=>by
  have n1:c≠a:=λz=>by subst z;rw[g.n0]at e;cases e
  have n2:c∉bs:=λz=>by obtain⟨_,_,w2,_⟩:=mb z;rw[w2]at e;cases e
  show (if c=a then _ else if c∈bs then H c else H0 c)=_;rw[ai n1,ai n2];exact e
 refine⟨_,s0,?_,?_⟩
 ·exact {
   sub:=λc u e=>by
    have e':(if c=a then some (HO.frz o (.dK (ks.zip (bs.map V.ref))))else if c∈bs then H c else H0 c)=some u:=e;by_cases n1:c=a
    ·subst n1;rw[aj rfl]at e';rw[oH];exact e'
    ·rw[ai n1]at e';rw[oF n1];by_cases n2:c∈bs
     ·rw[aj n2]at e';exact e'
     ·rw[ai n2]at e';exact R.sub _ _ e'
   g0:=R.g0.trans s0
   keep:=λc u e n=>by rw[oF (λz=>by subst z;rw[g.nB]at e;cases e)];exact R.keep c u e n
   fr:=λc u e=>by
    have e':(if c=a then some (HO.frz o (.dK (ks.zip (bs.map V.ref))))else if c∈bs then H c else H0 c)=some u:=e;by_cases n1:c=a
    ·subst n1;exact .inr g.nB
    ·rw[ai n1]at e';by_cases n2:c∈bs
     ·obtain⟨_,_,_,w3⟩:=mb n2;exact .inr w3
     ·rw[ai n2]at e';exact R.fr _ _ e'
   am:=λc hc=>by
    by_cases n1:c=a
    ·subst n1;exact⟨_,oH⟩
    ·rw[oF n1];exact R.am c hc
   len:=R.len
   sl:=λi s e=>by
    match i,e with
    |0,e=>cases e;obtain⟨v,w1,w2⟩:=R.sl 0 _ rfl;exact⟨v,w1,Rep.mono s0 _ _ w2⟩
    |1,e=>cases e;trivial
    |2,e=>cases e;trivial
    |i+3,e=>cases e
   ap:=λi j s t b _ e _ so=>by
    match i,e with
    |0,e=>cases e;cases so
    |1,e=>cases e;cases so
    |2,e=>cases e;cases so
    |i+3,e=>cases e }
 ·unfold Rep;refine⟨a,o,bs.map V.ref,rfl,by show (if a=a then _ else _)=_;rw[aj rfl],by rw[ah];exact g.len,zy bs dss g.len' λi b ds e1 e2=>?_⟩;obtain⟨xs,w1,w2,w3,w4⟩:=g.each i b ds e1 e2;have hb:=bK e1;refine⟨xs,?_,Reps.mono s0 _ _ w4⟩;show (if b=a then _ else if b∈bs then H b else H0 b)=_;have nb:b≠a:=λz=>na (by rw[<-z];exact hb);rw[ai nb,aj hb];exact w1
def K1{L:List D}{s2:Sl}(h:s2.own=false):∀s∈[Sl.im (.lst L),.un,s2],s.own=false:=λs hs=>by
 simp only[aJ,bw,or_false]at hs;rcases hs with rfl|rfl|rfl
 ·rfl
 ·rfl
 ·exact h
inductive GI(G:Bg) (F:Fr) (Ha:Hp) (p:Addr) (L:List D) (vk:D->Option D) (KS:List Key) (DSS:List (List D)) (i:Nat) (σ':St) (H':Hp):Prop
 |mk (Hi:Hp) (ks:List Key) (dss:List (List D)) (bs:List Addr) (s2:Sl):oM Ha Hi->Sl.own s2=false->RelE G F σ' [.im (.lst L),.un,s2] Hi H'->σ'[1]?=some (some (.ref p))->Grp G F Hi H' p ks dss bs->AV vk (L.drop i) ks dss=some (KS,DSS)->GI G F Ha p L vk KS DSS i σ' H'
theorem IK{st1 st2 st3:Stmt}{vk:D->Option D}(h1:PS X st1 (xX Fm (sZ 1)))(h2:PS X st2 (Pm (tFI G (iL (cV 0))) (sZ 2) (EB G (c1 vk (cV 2)))))
  (h3:PS X st3 (Ta (λσ H Q=>ua 1 σ H λx H1=>Q x H1\/∃a kvs,H1 a=some (.dK kvs)/\∀o,Q x (upd H1 a (.frz o (.dK kvs)))))):PSs X [st1,st2,st3] (tFS G (FN vk)):=
 PSs.weak (xW h1 (xW h2 (zX h3))) λE σ H hh=>by
  obtain⟨F,ρ,H0,o,R,e,k,k2⟩:=hh;unfold FN at e;split at e
  ·rename_i L;cases eg:AV vk L [] []with
   |none=>simp only[eg]at e;cases e
   |some p=>
    obtain⟨KS,DSS⟩:=p;simp only[eg]at e;cases e;intro p hp;have R1:RelE G F (σ.set 1 (some (.ref p))) [.im (.lst L),.un,.un] H0 (upd H p (.dK [])):=(R.newOwn hp (.dK [])).set (i:=1) (v:=.ref p) (s:=.un) trivial (λz=>by cases z);have hlen:σ.length=3:=R.len;have g1:Grp G F H0 (upd H p (.dK [])) p [] [] []:=⟨oH,R.h0none hp,R.bNone hp,rfl,rfl,gH,gH,λi b ds e1=>by cases e1⟩;have v1:(σ.set 1 (some (V.ref p)))[1]?=some (some (.ref p)):=by rw[fU (by rw[hlen];decide)]
    refine⟨_,_,_,L,_,RelE.still R1 (K1 rfl),rfl,λJ Ha Hb s Ra wk=>?_⟩;have hs:oM (upd H p (.dK [])) Hb:=λb o e=>Ra.keep b o e (by simp);have R2:=R1.grow hs s Ra.sub Ra.fr;have g2:=g1.grow hs s Ra.fr;refine⟨λi m σ' H'=>m=L.length - i/\i<=L.length/\GI G F Ha p L vk KS DSS i σ' H',
     ⟨_,rfl,bN _,Ha,[],[],[],.un,oM.refl _,rfl,R2,v1,g2,eg⟩,?_⟩
    rintro i m σi Hi' ⟨rfl,hi,Hi,ks,dss,bs,s2,si,n2,Ri,vi,gi,ei⟩;by_cases hlt:i<L.length
    ·have ed:L.drop i=L[i]::L.drop (i+1):=fR hlt;rw[ed]at ei;unfold AV at ei;cases ev:vk L[i]with
     |none=>simp only[ev]at ei;cases ei
     |some x=>
      simp only[ev]at ei;cases ek:xJ x with
      |none=>simp only[ek]at ei;cases ei
      |some kk=>
       simp only[ek]at ei;split at ei
       ·rename_i hb;simp only[aR,bu,aY]at hb;obtain⟨go,yl⟩:=(wk i Hi Hi' si Ri.sub).1 L[i] (aH hlt);refine .inr ⟨go,GI G F Ha p L vk KS DSS (i+1),
         λσ' H' q=>⟨L.length - (i+1),by omega,rfl,hlt,q⟩,λxv H' y=>?_⟩
        obtain⟨H2,t1,t2,t3,t4,t5⟩:=yl xv H' y;have hl3:σi.length=3:=Ri.len;have R3:RelE G F (σi.set 2 (some xv)) [.im (.lst L),.un,.im L[i]] H2 H':=(Ri.grow t3 t1 t2 t4).setIm 2 t5;have w1:(σi.set 2 (some xv))[1]?=some (some (.ref p)):=by rw[ig (by decide)];exact vi
        have w2:(σi.set 2 (some xv))[2]?=some (some xv):=by rw[fU (by rw[hl3];decide)]
        refine K0 R3 (K1 rfl) w1 w2 t5 (gi.grow t3 t1 t4) (by show c1 vk (cV 2) _=_;unfold c1 cV;simp only[jA,List.getElem?_cons_zero,ev]) ek hb.1 (λds hd=>hb.2 ds hd) λHc Hd bs' sc Rc gc=>?_;exact⟨Hc,_,_,bs',_,si.trans (t1.trans sc),rfl,Rc,w1,gc,ei⟩
       ·cases ei
    ·have hi':i=L.length:=by omega
     refine .inl ⟨(wk i Hi Hi' si Ri.sub).2 hi',?_⟩;subst hi';rw[List.drop_length]at ei;cases ei;refine⟨.ref p,vi,.inr ⟨p,_,gi.at_,λo=>?_⟩⟩;obtain⟨Hq,q1,q2,q3⟩:=NR Ri gi o;exact k _ _ Hq _ (s.trans (si.trans q1)) q2 q3
  ·cases e
end
section
variable{X:Cx}{G:Bg}
theorem NS:∀y b,pK "int" y=some b->cc X.K (y.val G) (.type "int")=some b:=λy b h=>by
 cases y with
 |c k=>cases h
 |b n=>
  unfold pK at h;simp only at h
  iterate 7 (split at h;· rename_i e;subst e;cases h;first|rfl|kernel_rfl)
  cases h
theorem K2:∀y b,pK "bool" y=some b->cc X.K (y.val G) (.type "bool")=some b:=λy b h=>by
 cases y with
 |c k=>cases h
 |b n=>
  unfold pK at h;simp only at h
  iterate 7 (split at h;· rename_i e;subst e;cases h;first|rfl|kernel_rfl)
  cases h
theorem kit_tuple:∀y b,pK "tuple" y=some b->cc X.K (y.val G) (.type "tuple")=some b:=λy b h=>by
 cases y with
 |c k=>cases h
 |b n=>
  unfold pK at h;simp only at h
  iterate 7 (split at h;· rename_i e;subst e;cases h;first|rfl|kernel_rfl)
  cases h
end
theorem AW:entryFor table "dict_itemiterator.__iter__" = some cH.«dict_keyiterator.__iter__»:=by
 refine entryFor_alias (id':="dict_keyiterator.__iter__") ?_ rfl ?_ ?_
 ·kernel_rfl
 ·decide +kernel
 ·kernel_rfl
theorem NT{vs:List (Key×aa)}(r:KV kvs vs){k:Key}{x:aa}(e:vs[i]?=some (k,x)):∃z,kvs[i]?=some (k,z)/\RelV z x:=by
 induction r generalizing i with
 |nil=>cases e
 |@cons p q l l' h _ ih=>
  cases i with
  |zero=>obtain⟨pk,pv⟩:=p;cases e;exact⟨pv,by rw[show pk=k from h.1];rfl,h.2⟩
  |succ i=>exact ih e
def Iti(a:Addr)(o:Obj)(kvs:List (Key×V)):It:=
 ⟨λi H=>i<kvs.length/\H a=some (.frz o (.dK kvs)),λi H v H'=>∃p k z,H p=none/\v=.ref p/\H'=upd H p (.tup [kV k,z])/\kvs[i]?=some (k,z),λi H=>kvs.length<=i/\H a=some (.frz o (.dK kvs))⟩
def iTn(it a:Addr)(o:Obj)(n:Nat)(i:Nat)(h:Heap):Prop:=∃es ep ok ov,o.data=.dict es ep/\IsItemIter h it a i n ep ok ov
theorem FP{P:au}{w:aq}{K:ak}{x1}(a it:Addr)(o:Obj)(kvs:List (Key×V)):Turn P w K (.Tuple elts x1 pos) (Iti a o kvs) [it] it (iTn it a o kvs.length) where
 mem:=by simp
 obj:=λi h st b hb=>by
  have e:b=it:=by simpa using hb
  subst e;obtain⟨es,ep,ok,ov,hd,q⟩:=st;exact⟨_,q,λv z=>nomatch z⟩
 keep:=λi h h' st k=>by obtain⟨es,ep,ok,ov,hd,q⟩:=st;exact⟨es,ep,ok,ov,hd,k it (by simp) _ q⟩
 item:=by
  intro X hP hw hK hc i pins s σ H E I hf st hg;subst hP hw hK;obtain⟨hi,he⟩:=hg;obtain⟨es,ep,ok,ov,hd,ki⟩:=st;obtain⟨_,_,vs,r,da⟩:=uh I he hd;have hl:kvs.length=vs.length:=r.length;obtain⟨⟨k,x⟩,hx⟩:∃q,vs[i]?=some q:=⟨vs[i]'(by rw[<-hl];exact hi),aH _⟩;obtain⟨z,hz,rz⟩:=NT r hx;rw[hl]at ki;refine wpAny_pyNext_items_item ki da hx λkey h' hk q1 q2 q3 kk=>?_;refine⟨_,rfl,wpAny_letOwnedTupleGo_items (s:={ s with heap:=h' }) q1 λh2 q4 sb=>?_⟩;have lt:s.heap.objs.size≠it:=λw=>ao (aF ki) (by rw[w];exact cg _);have hp:h2.get? s.heap.objs.size=some { cls:=.type "tuple", data:=.seq #[key,x] }:=sb.extBut _ _ lt q2;have ok':ObjOk X.prog X.w (upd H s.heap.objs.size (.tup [kV k,z])) h2 s.heap.objs.size (.tup [kV k,z]):=⟨by rw[bh];show 2<=16777216;decide,[key,x],.cons (G7 hk) (.cons rz .nil),_,hp,rfl,_,rfl⟩;have I1:=Inv.turnedLaid (h':=h2) (t':=s.toks) (T:=s.heap.objs.size) (xs:=[kV k,z]) (ch:=[it]) I hf
   (λb o hb e=>sb.extBut _ _ (λw=>hb (by simp[w])) (kk b o (λw=>hb (by simp[w])) e)) (aA _) ok'
  refine⟨.ref s.heap.objs.size,_,I1,rfl,⟨_,k,z,I.hok.fresh (aA _),rfl,rfl,hz⟩,⟨es,ep,key,x,hd,by rw[hl];exact q4⟩,λb hb=>?_⟩;rw[oF (λw=>?_)]
  ·exact(hf b hb).1
  ·have e:b=it:=by simpa using hb
   exact lt (w.symm.trans e)
 done:=by intro X hP hw hK hc i pins s σ H E I hf st hg;subst hP hw hK;obtain⟨hi,he⟩:=hg;obtain⟨es,ep,ok,ov,hd,ki⟩:=st;obtain⟨f0,f1,f2,f3,f4,f5⟩:=hf it (by simp);obtain⟨_,_,vs,r,da⟩:=uh I he hd;have hl:kvs.length=vs.length:=r.length;rw[hl]at ki;exact wpAny_pyNext_items_end (I.ok.hd hc) ki da (eK (by rw[<-hl];exact hi)) λh' eb=>⟨rfl,I.turned (t':=s.toks) (λb o hb e=>eb b o hb e) f0 f1 f3 f4 f5⟩
 self:=λA i s Q E st h=>by obtain⟨es,ep,ok,ov,hd,ki⟩:=st;have hT:s.TypeIs (.ref it) "dict_itemiterator" := ⟨_,ki,rfl⟩;refine wpAny_pyIter_slot hT jm (dX jm hT AW ?_ (F.args_dict_itemiterator_iter_1 _));show af _ _ (ret (.ref it)) _ _ s;exact aw ⟨_,rfl,"dict_itemiterator", _,hT,F.slot_dict_itemiterator_next.lookup,h⟩
section
variable{X:Cx}{G:Bg}{elts:List Expr}{x1:Nat}{tpos:Pos}
def K3(tl:TE):TI:=λσ H R=>tl σ H λx H1=>∃a o kvs,x=.ref a/\H1 a=some (.frz o (.dK kvs))/\R (Iti a o kvs) H1
theorem K4{o:Expr}(ho:PE X o tl)(hbase:cy o "items" X.env (eval o X.env)=eval o X.env:=by rfl)(hline:(apos.endLine==cpos.line)=true:=by rfl):
  PI X (.Tuple elts x1 tpos) (.Call (.Attribute o "items" apos) [] [] cpos) (K3 tl):=by
 intro pins s σ H R I h;refine jz hbase hline (thn (ho pins s σ H _ I h) λv s1 zz=>?_);obtain⟨x,H1,I1,r1,a,ob,kvs,e,he,q⟩:=zz;subst e;obtain rfl:v=Value.ref a:=r1;obtain⟨t1,t2,t3⟩:=Di I1 (.inl ⟨kvs,.inr ⟨ob,he⟩⟩);refine⟨"dict", "dict.items", gj,ko,F.type_dict_items,t1,t2,dO rfl (jP ?_)⟩;obtain⟨q0,_,y,vs,r,ob',es,ep,e1,e2,e3,e4⟩:=(show ObjOk X.prog X.w H1 s1.heap a (.frz ob (.dK kvs)) from I1.hok a _ he);rw[q0]at e1;cases e1;have hl:kvs.length=vs.length:=r.length;have da:s1.heap.DictAt (oZ X.prog X.w) a vs ep:=⟨ob,es,q0,e2,e3,e4⟩;refine eB ko t1 F.entry_dict_items (F.args_dict_items_1 _) (meets_dict_items (oZ X.prog X.w) a y) ⟨⟨vs,da.dictOf⟩,?_⟩;have I2:Inv X pins σ H1 { s1 with heap:=s1.heap.push { cls:=.type "dict_items", data:=.fields #[.ref a] } }:=I1.kept (t':=s1.toks) λb o e=>aB _ e;refine wpAny_pyIter_items (knd:=oZ X.prog X.w) (kvs:=vs) (ep:=ep) ⟨_,aS _ rfl,rfl,rfl⟩ (da.push _) ?_;refine⟨_,[_],_,_,H1,rfl,I2.kept (t':=s1.toks) λb o e=>aB _ e,FP a _ ob kvs,⟨es,ep,.none,.none,e3,by rw[hl];exact aS _ rfl⟩,λb hb=>?_,q⟩;have e:=bj.mp hb;subst e;exact I2.fpOk (aA _) (I2.hok.fresh (aA _))
def iIt(f:FE):FA:=λρ=>match f ρ with
 |some (.dic ks ds,ρ1)=>some (vW (ks.map IJ) ds,ρ1)
 |_=>none
theorem IM(h:PI X tg e (K3 (tF G f))):PI X tg e (tFI G (iIt f)):=PI.weak h λσ H R hh=>by
 obtain⟨F,ρ,H0,ds,ρ',R,e,k⟩:=hh;unfold iIt at e;split at e
 ·rename_i ks ds' ρ1 e1;cases e;refine⟨F,ρ,H0,_,_,R,e1,λv H1 H1' s R' r=>?_⟩;unfold Rep at r;obtain⟨a,o,xs,rfl,r1,r2,r3⟩:=r;have hz:(ks.zip xs).length=ks.length:=by rw[dB,<- r2,c9]
  have lx:xs.length=ds'.length:=(oG r3).symm;refine⟨a,o,_,rfl,R'.sub _ _ r1,k _ _ _ s R' λi H2 H2' t t'=>⟨λd ed=>?_,λhl=>?_⟩⟩
  ·unfold vW at ed;rw[fV,aW]at ed;cases ek:ks[i]? with
   |none=>rw[ek]at ed;cases ed
   |some j=>
    cases ey:ds'[i]? with
    |none=>rw[ek,ey]at ed;cases ed
    |some dy=>
     rw[ek,ey]at ed;cases ed;have hi:i<ks.length:=(bt.mp ek).1;obtain⟨vy,y1,y2⟩:=p5 r3 ey;refine⟨⟨by rw[hz];exact hi,t' _ _ (t _ _ r1)⟩,λx H3 y=>?_⟩;obtain⟨p,k',z,hp,rfl,rfl,hk'⟩:=y;rw[ju]at hk';have a1:=hk'.1;have a2:=hk'.2;rw[ek]at a1;rw[y1]at a2;cases a1;cases a2;have p0:H2 p=none:=by
      cases q:H2 p with
      |none=>rfl
      |some o=>have:=t' _ _ q;rw[hp]at this;cases this
     refine⟨upd H2 p (.tup [kV k',z]),oP p0 _,λb o e=>?_,oP hp _,λb o e=>?_,vd (SqT.of oH) ?_⟩
     ·by_cases hb:b=p
      ·subst hb;rw[oH]at e ⊢;exact e
      ·rw[oF hb]at e ⊢;exact t' _ _ e
     ·by_cases hb:b=p
      ·subst hb;exact .inr hp
      ·rw[oF hb]at e;exact .inl e
     ·have m:=t.trans (oP p0 (.tup [kV k',z]));exact o6 (G8 _) (o6 (Rep.mono m _ _ y2) o7)
  ·refine⟨by rw[hz,hl,AS,ah,<- lx,<- r2,c9];exact aA _,t' _ _ (t _ _ r1)⟩
 ·cases e
end
def hold(F:Fr)(p:Addr)(o:HO):Fr:=⟨F.B0,λb=>if b=p then some o else F.B b,F.A⟩
theorem Ac{o:HO}:(hold F p o).B p=some o:=by show (if p=p then _ else _)=_;rw[aj rfl]
theorem wW{b:Addr}{o:HO}(h:b≠p):(hold F p o).B b=F.B b:=by show (if b=p then _ else _)=_;rw[ai h]
theorem xD.frame{G:Bg}{F':Fr}{H:Hp}{o:Option V}{s:Sl}(h:xD G F H0 H o s)(hA:F'.A=F.A)(hB:∀a,o=some (.ref a)->s.own=true->F.B a=none->F'.B a=none):xD G F' H0 H o s:=by
 cases s with
 |un=>trivial
 |im d=>exact h
 |ls ds=>obtain⟨a,xs,h1,h2,h3,h4,h5⟩:=h;exact⟨a,xs,h1,h2,h3,hB a h1 rfl h4,h5⟩
 |pm ds=>obtain⟨a,xs,h1,h2,h3,h4,h5⟩:=h;exact⟨a,xs,h1,h2,h3,by rw[hA];exact h4,h5⟩
 |dk ks ds=>obtain⟨a,xs,h1,h2,h3,h4,h5,h6⟩:=h;exact⟨a,xs,h1,h2,h3,hB a h1 rfl h4,h5,h6⟩
 |ob c ns ds=>obtain⟨a,dx,xs,h1,h2,h3,h4,h5,h6⟩:=h;exact⟨a,dx,xs,h1,h2,h3,by rw[hA];exact h4,h5,h6⟩
section
variable{X:Cx}{G:Bg}{F:Fr}{σ:St}{ρ:List Sl}{H0 H:Hp}{p:Addr}{o:HO}
theorem RelE.hold(R:RelE G F σ ρ H0 H)(hp:H p=none)(o:HO):RelE G (L4.hold F p o) σ ρ H0 (upd H p o) where
 sub:=(R.newOwn hp o).sub
 g0:=R.g0
 keep:=λb u e n=>by
  by_cases hb:b=p
  ·subst hb;rw[Ac]at e;rw[oH];exact e
  ·rw[wW hb]at e;exact(R.newOwn hp o).keep b u e n
 fr:=λb u e=>by
  have hb:b≠p:=λz=>by subst z;rw[R.h0none hp]at e;cases e
  rw[wW hb];exact R.fr b u e
 am:=(R.newOwn hp o).am
 len:=R.len
 sl:=λi s e=>by refine xD.frame ((R.newOwn hp o).sl i s e) rfl λa h1 so hB=>?_;obtain⟨a',u,q1,q2,_⟩:=(R.sl i s e).at so;rw[h1]at q1;cases q1;rw[wW (λz=>by subst z;rw[hp]at q2;cases q2)];exact hB
 ap:=R.ap
theorem RelE.unhold(R:RelE G (L4.hold F p o) σ ρ H0 H)(hB:F.B p=none):RelE G F σ ρ H0 H where
 sub:=R.sub
 g0:=R.g0
 keep:=λb u e n=>R.keep b u (by rw[wW (λz=>by subst z;rw[hB]at e;cases e)];exact e) n
 fr:=λb u e=>by
  rcases R.fr b u e with z|z
  ·exact .inl z
  ·by_cases hb:b=p
   ·subst hb;exact .inr hB
   ·rw[wW hb]at z;exact .inr z
 am:=R.am
 len:=R.len
 sl:=λi s e=>xD.frame (R.sl i s e) rfl λa h1 so q=>by
  by_cases hb:a=p
  ·subst hb;exact hB
  ·rw[wW hb]at q;exact q
 ap:=R.ap
theorem RelE.layHeld(R:RelE G (L4.hold F p o) σ ρ H0 H)(hB:F.B p=none)(h0:H0 p=none)(nA:p∉F.A)(u:HO):RelE G F σ ρ (upd H0 p u) (upd H p u) where
 sub:=λb v e=>by
  by_cases hb:b=p
  ·subst hb;rw[oH]at e ⊢;exact e
  ·rw[oF hb]at e ⊢;exact R.sub _ _ e
 g0:=(RelE.unhold R hB).g0.trans (oP h0 u)
 keep:=λb v e n=>by rw[oF (λz=>by subst z;rw[hB]at e;cases e)];exact(RelE.unhold R hB).keep b v e n
 fr:=λb v e=>by
  by_cases hb:b=p
  ·subst hb;exact .inr hB
  ·rw[oF hb]at e;exact(RelE.unhold R hB).fr _ _ e
 am:=λb hb=>by
  have hb':b≠p:=λz=>by subst z;exact nA hb
  rw[oF hb'];exact R.am b hb
 len:=R.len
 sl:=λj t e=>by
  have ne:∀a,(σ[j]?).join=some (.ref a)->t.own=true->a≠p:=λa z to y=>by
   subst y;obtain⟨a',v,q1,_,_,q4⟩:=(R.sl j t e).at to;rw[z]at q1;cases q1;rcases q4 with q|q
   ·rw[Ac]at q;cases q
   ·exact nA q
  refine((RelE.unhold R hB).sl j t e).grow (oP h0 u) (λa v z to q=>?_) λa v z to q q0=>?_
  ·rw[oF (ne a z to)];exact q
  ·rw[oF (ne a z to)];exact q0
 ap:=R.ap
def sm:List (Str×FE)->List Sl->Option (List D×List Sl)
 |[],ρ=>some ([],ρ)
 |(_,f)::r,ρ=>match f ρ with
  |some (d,ρ1)=>match sm r ρ1 with
   |some (ds,ρ2)=>some (d::ds,ρ2)
   |none=>none
  |none=>none
def K5(G:Bg)(kfs:List (Str×FE)):List (TE×TE):=kfs.map λq=>(tC (.str q.1),tF G q.2)
theorem EC:∀(kfs:List (Str×FE)) (ρ ρ':List Sl) (ds:List D) (H0 H:Hp) (Q:List (V×V)->Hp->Prop),RelE G F σ ρ H0 H->sm kfs ρ=some (ds,ρ')->
  (∀vs H1 H1',oM H0 H1->RelE G F σ ρ' H1 H1'->Reps G H1 ds vs->Q (cD (λk v=>(V.str k,v)) (kfs.map (·.1)) vs) H1')->Dh (K5 G kfs) σ H Q
 |[],ρ,ρ',ds,H0,H,Q,R,e,k=>by cases e;exact k [] H0 H (oM.refl _) R o7
 |(x,f)::r,ρ,ρ',ds,H0,H,Q,R,e,k=>by
  unfold sm at e;cases e1:f ρ with
  |none=>simp only[e1]at e;cases e
  |some q=>
   obtain⟨d,ρ1⟩:=q;simp only[e1]at e;cases e2:sm r ρ1 with
   |none=>simp only[e2]at e;cases e
   |some q=>obtain⟨ds',ρ2⟩:=q;simp only[e2]at e;cases e;refine⟨F,ρ,H0,d,ρ1,R,e1,λv H1 H1' s R1 rv=>?_⟩;exact EC r ρ1 _ ds' H1 H1' _ R1 e2 λvs H2 H2' s2 R2 rs=>k (v::vs) H2 H2' (s.trans s2) R2 (o6 (Rep.mono s2 _ _ rv) rs)
theorem ED:∀(more acc:List (Key×V)),((acc++more).map (·.1)).Nodup->xC acc more=acc++more
 |[],acc,_=>by rw[br];rfl
 |q::r,acc,h=>by
  have nq:(acc.any λkv=>decide (kv.1=q.1))=false:=by rw[gm];intro z;obtain⟨y,hy,ey⟩:=dW.mp z;rw[aU,bG]at h;exact h.2.2 y.1 (bS hy) q.1 (bS aT) (bP ey)
  have e:putK acc q.1 q.2=acc++[q]:=by unfold putK;rw[nq];rfl
  show xC (putK acc q.1 q.2) r=_;rw[e,ED r (acc++[q]) (by simpa using h)];simp
theorem IP{H:Hp}{p:Addr}{x y:HO}:upd (upd H p x) p y=upd H p y:=by
 funext b
 by_cases hb:b=p
 ·subst hb;rw[oH,oH]
 ·rw[oF hb,oF hb,oF hb]
def Cj(kfs:List (Str×FE)):FE:=λρ=>match sm kfs ρ with
 |some (ds,ρ')=>some (.dic (kfs.map λq=>Sum.inr q.1) ds,ρ')
 |none=>none
theorem AX:∀{kfs:List (Str×FE)} {ρ ρ':List Sl} {ds:List D},sm kfs ρ=some (ds,ρ')->ds.length=kfs.length
 |[],ρ,ρ',ds,e=>by cases e;rfl
 |(x,f)::r,ρ,ρ',ds,e=>by
  unfold sm at e;cases e1:f ρ with
  |none=>simp only[e1]at e;cases e
  |some q=>
   obtain⟨d,ρ1⟩:=q;simp only[e1]at e;cases e2:sm r ρ1 with
   |none=>simp only[e2]at e;cases e
   |some q=>obtain⟨ds',ρ2⟩:=q;simp only[e2]at e;cases e;rw[aD,aD,AX e2]
theorem EE:∀(ks:List Str) (vs:List V),cD (λk v=>(V.str k,v)) ks vs=((ks.map λk=>(Sum.inr k:Key)).zip vs).map λkv=>(kV kv.1,kv.2)
 |[],vs=>rfl
 |k::ks,[]=>rfl
 |k::ks,v::vs=>by show (V.str k,v)::_=_;rw[EE ks vs];rfl
theorem NU{kfs:List (Str×FE)}(h:PE X e (OQ (K5 G kfs)))(nd:(kfs.map λq=>(Sum.inr q.1:Key)).Nodup)(h15:kfs.length<=15):PE X e (tF G (Cj kfs)):=PE.weak (PE.ghost h) λσ H Q hh=>by
 obtain⟨F,ρ,H0,d,ρ',R,e,k⟩:=hh;unfold Cj at e;cases e1:sm kfs ρ with
 |none=>simp only[e1]at e;cases e
 |some q=>
  obtain⟨ds,ρ1⟩:=q;simp only[e1]at e;cases e;intro p hp;have hB:F.B p=none:=R.bNone hp;have nA:p∉F.A:=λz=>by obtain⟨u,q⟩:=R.am p z;rw[hp]at q;cases q
  refine EC kfs ρ _ ds H0 _ _ (RelE.hold R hp (.dK [])) e1 λvs H1 H1' s R1 rs=>?_;have q0:H1' p=some (.dK []):=R1.keep p _ Ac nA;have h0:H1 p=none:=by
   cases q:H1 p with
   |none=>rfl
   |some u=>
    rcases R1.fr p u q with z|z
    ·have:=R.g0 _ _ z;rw[R.h0none hp]at this;cases this
    ·rw[Ac]at z;cases z
  have lv:(kfs.map λq=>(Sum.inr q.1:Key)).length=vs.length:=by rw[ah,<- AX e1,oG rs]
  have kn:(((kfs.map λq=>(Sum.inr q.1:Key)).zip vs).map (·.1))=kfs.map λq=>(Sum.inr q.1:Key):=List.map_fst_zip (by rw[lv];exact aA _)
  refine⟨q0,(kfs.map λq=>(Sum.inr q.1:Key)).zip vs,?_,?_,.inr ⟨p,_,oH,λob=>?_⟩⟩
  ·rw[EE,aC];rfl
  ·rw[dB,<- lv,c9,ah];exact h15
  ·rw[IP,ED _ [] (by rw[ba,kn];exact nd),ba];refine k _ _ _ (s.trans (oP h0 _)) (RelE.layHeld R1 hB h0 nA _) ?_;unfold Rep;exact⟨p,ob,vs,rfl,oH,lv,Reps.mono (oP h0 _) _ _ rs⟩
end
def spL(G:Bg)(g:List D->List D->Option (D×List D)):Sp:=λvs H Q E=>∃(a:Addr) (us:List V),vs=us++[.ref a]/\spM G g (.ref a::us) H Q E
def stL(n:Nat)(es ds:List D):List Sl:=ds.map Sl.im++.pm es::fq (n - ds.length - 1) .un
def IQ(i:Nat)(ρ:List Sl):Option (List D):=match ρ[i]? with
 |some (.pm es)=>some es
 |_=>none
def fnL(np n:Nat)(f:FS):List D->List D->Option (D×List D):=λes ds=>if ds.length=np then match f (stL n es ds)with
 |some (.rt d ρ)=>match IQ np ρ with
  |some es'=>some (d,es')
  |none=>none
 |some (.rn xs ρ)=>match IQ np ρ with
  |some es'=>some (.lst xs,es')
  |none=>none
 |_=>none
 else none
theorem Ck{ρ:List Sl}{es:List D}(h:IQ i ρ=some es):ρ[i]?=some (.pm es):=by
 unfold IQ at h;split at h
 ·rename_i e;cases h;exact e
 ·cases h
theorem EF{n:Nat}{f:FS}{es:List D}(h:fnL np n f es ds=some (d,es')):ds.length=np/\((∃ρ,f (stL n es ds)=some (.rt d ρ)/\ρ[np]?=some (.pm es'))\/∃xs ρ,f (stL n es ds)=some (.rn xs ρ)/\ρ[np]?=some (.pm es')/\d=.lst xs):=by
 unfold fnL at h;split at h
 ·rename_i hl;refine⟨hl,?_⟩;split at h
  ·rename_i x ρ e;cases e2:IQ np ρ with
   |none=>simp only[e2]at h;cases h
   |some q=>simp only[e2]at h;cases h;exact .inl ⟨ρ,e,Ck e2⟩
  ·rename_i x ρ e;cases e2:IQ np ρ with
   |none=>simp only[e2]at h;cases h
   |some q=>simp only[e2]at h;cases h;exact .inr ⟨x,ρ,e,Ck e2,rfl⟩
  ·cases h
 ·cases h
theorem Du{n:Nat}{es:List D}{t:Sl}(h:(stL n es ds)[i]?=some t):(i=ds.length/\t=.pm es)\/t=.un\/∃d,ds[i]?=some d/\t=.im d:=by
 unfold stL at h;by_cases hi:i<ds.length
 ·rw[cK (by simpa using hi),aW,aH hi]at h;cases h;exact .inr (.inr ⟨_,aH hi,rfl⟩)
 ·rw[cJ (by simpa using hi),ah]at h;cases q:i - ds.length with
  |zero=>rw[q]at h;cases h;exact .inl ⟨by omega,rfl⟩
  |succ m=>
   rw[q,jA,eI]at h;split at h
   ·cases h;exact .inr (.inl rfl)
   ·cases h
variable{N:List Str}{E:XK}{es:List Expr}
section
variable{X:Cx}{G:Bg}
theorem NV{us:List V}{es:List D}{H:Hp}(ha:H a=some (.lst xs))(h0:H0 a=none)(s:oM H0 H)(r1:Reps G H0 es xs)(r:Reps G H0 ds us)(hN:us.length+1<=N.length):RelE G ⟨H0,H,[a]⟩ (L2.start N (us++[.ref a])) (stL N.length es ds) H0 H:={
  sub:=s
  g0:=oM.refl _
  keep:=λb o e _=>e
  fr:=λb o e=>.inl e
  am:=λb hb=>by rw[bj]at hb;subst hb;exact⟨_,ha⟩
  len:=by unfold L2.start stL;simp only[aI,ah,bO,aD,c7];have:=oG r;omega
  sl:=λi t e=>by
   rcases Du e with ⟨rfl,rfl⟩|rfl|⟨d,e1,rfl⟩
   ·exact⟨a,xs,sj (by rw[oG r,cJ (aA _),iP];rfl),ha,h0,bj.mpr rfl,r1⟩
   ·trivial
   ·obtain⟨v,e2,e3⟩:=p5 r e1;exact⟨v,sj (by rw[cK (bt.mp e2).1];exact e2),e3⟩
  ap:=λi j t u b hij ei ej ht hu=>by
   rcases Du ei with ⟨rfl,rfl⟩|rfl|⟨_,_,rfl⟩
   ·rcases Du ej with ⟨rfl,rfl⟩|rfl|⟨_,_,rfl⟩
    ·exact ao rfl hij
    ·cases hu
    ·cases hu
   ·cases ht
   ·cases ht }
theorem NW{f:FS}{H:Hp}{Q:VK}(hN:np+1<=N.length)(h:spL G (fnL np N.length f) vs H Q E):tFS G f { nx:=λ_ H'=>Q .non H',rt:=Q } (L2.start N vs) H:=by
 obtain⟨a,us,rfl,b,us',xs,H0,es,ds,d,es',e0,ha,h0,s,r1,r,e,k⟩:=h;cases e0;obtain⟨hl,e1⟩:=EF e;have R:=NV (N:=N) ha h0 s r1 r (by rw[<-oG r,hl];exact hN);have fin:∀{v:V} {σ':St} {ρ':List Sl} {H0' H':Hp},oM H0 H0'->RelE G ⟨H0,H,[a]⟩ σ' ρ' H0' H'->ρ'[np]?=some (.pm es')->Rep G H0' d v->Q v H':=λs' R' e2 rv=>by obtain⟨a',ys,q1,q2,q3,q4,q5⟩:=R'.sl np _ e2;have ea:a'=a:=bj.mp q4;subst ea;exact k _ ys _ _ s' R'.sub (λb o e n=>R'.keep b o e (λz=>n (bj.mp z))) R'.fr q3 q2 q5 rv
 rcases e1 with ⟨ρ,e1,e2⟩|⟨zs,ρ,e1,e2,rfl⟩
 ·exact⟨_,_,H0,_,R,e1,λv σ' H0' H' s' R' rv=>fin s' R' e2 rv,λ_=>rfl⟩
 ·refine⟨_,_,H0,_,R,e1,λp ys σ' H0' H' s' R' hp hp0 hb ap rs=>?_,λ_=>rfl⟩;exact fin (s'.trans (oP hp0 _)) (R'.freeze hp hp0 hb ap) e2 (ud oH (Reps.mono (oP hp0 _) _ _ rs))
theorem Uj{g:List D->List D->Option (D×List D)}(hg:∀es ds d,g es ds=some d->ds.length=np):∀vs H Q E,spL G g vs H Q E->vs.length=np+1:=λvs H Q E h=>by obtain⟨a,us,rfl,h⟩:=h;have:=OS hg _ _ _ _ h;rw[aI];exact this
theorem NX{n:Nat}{f:FS}:∀es ds d,fnL np n f es ds=some d->ds.length=np:=λ_ _ d h=>(EF (d:=d.1) (es':=d.2) h).1
def IR(G:Bg)(i:Nat)(a:FA):TA:=λσ H Q=>∃F ρ H0 ds ρ' es,RelE G F σ ρ H0 H/\a ρ=some (ds,ρ')/\qz ρ' i=some es/\∀xs b H0' H',oM H0 H0'->RelE G F σ ρ' H0' H'->Reps G H0' ds xs->σ[i]?=some (some (.ref b))->Q (xs++[.ref b]) H'
theorem K6(hv:PE X e (ua i))(hs:ar [e] X.env=[(false,eval e X.env)]:=by rfl):PA X [e] (IR G i ox):=PA.weak (qK hv uy hs) λσ H Q hh=>by obtain⟨F,ρ,H0,ds,ρ',es,R,e,el,k⟩:=hh;cases e;obtain⟨b,xs,s1,_⟩:=ra R el;exact⟨.ref b,s1,k [] b _ _ (oM.refl _) R o7 s1⟩
theorem IS{g:FA}(ha:PE X e (tF G f))(hr:PA X es (IR G i g))(hs:ar (e::es) X.env=(false,eval e X.env)::ar es X.env:=by rfl):PA X (e::es) (IR G i (aCons f g)):=PA.weak (qK ha hr hs) λσ H Q hh=>by obtain⟨F,ρ,H0,d,ρ',es,R,e,el,k⟩:=hh;obtain⟨x,r,ρ1,e1,e2,rfl⟩:=AB e;exact⟨F,ρ,H0,x,ρ1,R,e1,λv H1 H1' s R' rv=>⟨F,ρ1,H1,r,ρ',es,R',e2,el,λxs b H2 H2' s2 R2 rs sb=>k _ _ _ _ (s.trans s2) R2 (o6 (Rep.mono s2 _ _ rv) rs) sb⟩⟩
def AY(g:List D->List D->Option (D×List D))(i:Nat)(a:FA):FE:=λρ=>match a ρ with
 |some (ds,ρ1)=>match qz ρ1 i with
  |some es=>match g es ds with
   |some (d,es')=>some (d,putAt ρ1 i es')
   |none=>none
  |none=>none
 |none=>none
theorem NY{g:List D->List D->Option (D×List D)}{a:FA}(h:PE X e (xc (spL G g) [] E (IR G i a))):PE X e (tF G (AY g i a)):=PE.weak h λσ H Q hh=>by
 obtain⟨F,ρ,H0,d,ρ',R,e,k⟩:=hh;unfold AY at e;rcases oY (f:=a) (ρ:=ρ)with e1|⟨ds,ρ1,e1⟩<;>simp only[e1]at e
 ·cases e
 ·cases e2:qz ρ1 i with
  |none=>simp only[e2]at e;cases e
  |some es=>
   simp only[e2]at e;cases e3:g es ds with
   |none=>simp only[e3]at e;cases e
   |some q=>obtain⟨d1,es'⟩:=q;simp only[e3]at e;cases e;refine⟨F,ρ,H0,ds,ρ1,es,R,e1,e2,λys b H1 H1' s R' rs sb=>?_⟩;obtain⟨s,es0,es1⟩:=rD e2;obtain⟨b',xs',t1,t2,t3,t4⟩:=(R'.sl i s es0).lst es1;rw[qv t1]at sb;cases sb;refine⟨b,ys,br _,b,ys,xs',H1,es,ds,d,es',rfl,t2,t3,R'.sub,t4,rs,e3,λv zs H2 H2' u1 u2 u3 fr w0 w1 w2 w3=>?_⟩;refine k _ _ _ (oM.trans ‹oM H0 H1› u1) ?_ w3;unfold putAt;rw[es0];exact R'.call1 es0 es1 t1 u1 u2 u3 fr w0 w1 w2
theorem NZ{k:Nat}{x:Str}{p:Pos}{a:FA}{ps:List Str}{g:List D->List D->Option (D×List D)}(D:uM X.prog X.w X.K X.mg X.base k x ps (spL G g))(hr:pW k X.A)(ha:PA X (e::es) (IR G i a))(hg:Gl X x:=by rfl)(hdb:(x==("__debug__" : Str))=false:=by decide)(he:ar (e::es) X.env=(false,eval e X.env)::ar es X.env:=by rfl)(hpl:(aV pos (ar es X.env)).any (·.1)=false:=by rfl):
  PE X (.Call (.Name x p) (e::es) [] pos) (tF G (AY g i a)):=by
 obtain⟨f,fd,h1,h2,h3,h4⟩:=D;exact NY (xY (p:=p) (pos:=pos) h4 hr hg h1 h2 h3 .nil zk ha hdb he hpl)
end
section
variable{P:au}{w:aq}{K:ak}{mg:Str->Option aa}{base:Heap}{x qual:Str}{st:Stmt}{f T:Addr}{fd:bb}{N ps:List Str}{k:Nat}{G:Bg}
theorem Uk{n:Nat}{g:List D->List D->Option (D×List D)}(hg:g=fnL np n b)(hp:ps.length=np+1)(hN:N.length=n)(F:Fun K x qual st f fd)(S:pS N ps (oO st))(body:∀(cdv:aa) (A:az) (outer:List Env) (s:ae) (H:Hp) (E:XK),pW k (A.deeper (envOfC qual (oO st) s.heap.objs.size f cdv))->PSs (uN P w K mg base N qual st f cdv A outer s H E) (o9 st) (tFS G b)):
  se P w K mg base CX0 (k+1) f fd ps (spL G g):=by
 subst hg hN;refine F.ok S (λvs H Q E h=>?_) λcdv A outer s H vs Q E hr h=>⟨_,body cdv A outer s H E hr,NW (by have:=aL bH S.pre;rw[bq]at this;omega) h⟩;rw[hp];exact Uj NX vs H Q E h
end
end L4
namespace L4
open PySem PySem.Spec PySem.Calls PyProof.Rows PySem.W L2 L3
def IT{α:Type}(c:Nat->Nat->Bool):KasT α->α
 |.ret a=>a
 |.ask i j k=>IT c (k (c i j))
def sq{α:Type}(P:Nat->Nat->Prop)(R:α->Prop):KasT α->Prop
 |.ret a=>R a
 |.ask i j k=>P i j/\∀b,sq P R (k b)
theorem sq.run{α:Type}{P:Nat->Nat->Prop}{R:α->Prop}(c:Nat->Nat->Bool):∀(t:KasT α),sq P R t->R (IT c t)
 |.ret a,h=>h
 |.ask i j k,h=>sq.run c (k (c i j)) (h.2 (c i j))
theorem sq.bind{α β:Type}{P:Nat->Nat->Prop}{R:α->Prop}{S:β->Prop}{f:α->KasT β}(hf:∀a,R a->sq P S (f a)):∀{t:KasT α},sq P R t->sq P S (t.bind f)
 |.ret a,h=>hf a h
 |.ask i j k,h=>⟨h.1,λb=>sq.bind hf (h.2 b)⟩
theorem G9{α:Type}{cmp:Nat->Nat->(Bool->ae->Prop)->ae->Prop}{c:Nat->Nat->Bool}{P:Nat->Nat->Prop}{s:ae}{Q:α->ae->Prop}(hc:∀i j C,P i j->C (c i j) s->cmp i j C s):
  ∀{R:α->Prop} {t:KasT α},sq P R t->Q (IT c t) s->t.kasWp cmp Q s
 |R,.ret a,_,q=>q
 |R,.ask i j k,h,q=>hc i j _ h.1 (G9 hc (h.2 (c i j)) q)
def qM(n:Nat)(p:Array Nat):Prop:=p.toList.Perm (aX n)
theorem qM.getD{n:Nat}{p:Array Nat}(h:qM n p)(hn:0<n)(i:Nat):p.getD i 0<n:=by
 unfold Array.getD;split
 ·rename_i hi;have:p[i]∈p.toList:=by simp
  exact bL.mp (h.mem_iff.mp this)
 ·exact hn
theorem qM.rev{n:Nat}{p:Array Nat}(h:qM n p)(i j:Nat):qM n (kas_rev p i j):=by unfold qM kas_rev mirror;exact(jt.mp (foldl_swaps_perm _ _ _ _)).trans h
theorem qM.bub{n:Nat}{p:Array Nat}(h:qM n p)(i j:Nat):qM n (bubble p i j):=(jt.mp (bubble_perm _ _ _)).trans h
abbrev In2(n:Nat):Nat->Nat->Prop:=λi j=>i<n/\j<n
theorem Dw{n:Nat}(hn:0<n){p:Array Nat}(h:qM n p):∀f k,sq (In2 n) (λ_=>True) (kas_asc p f k)
 |0,k=>trivial
 |f+1,k=>⟨⟨h.getD hn _,h.getD hn _⟩,λb=>by cases b<;>first|exact trivial|exact Dw hn h f (k+1)⟩
theorem yk{n:Nat}(hn:0<n):∀f (p:Array Nat) k q,qM n p->sq (In2 n) (λr=>qM n r.1) (kas_desc f p k q)
 |0,p,k,q,h=>h
 |f+1,p,k,q,h=>⟨⟨h.getD hn _,h.getD hn _⟩,λb=>by
   cases b with
   |true=>
    show sq _ _ (if q > 0 then _ else _);split
    ·exact yk hn f _ _ _ (h.rev _ _)
    ·exact yk hn f _ _ _ h
   |false=>
    refine⟨⟨h.getD hn _,h.getD hn _⟩,λd=>?_⟩;cases d with
    |true=>exact h
    |false=>exact yk hn f _ _ _ h⟩
theorem EG{n:Nat}(hn:0<n){p:Array Nat}(h:qM n p)(k m:Nat):sq (In2 n) (λr=>qM n r.2) (kas_tail3 k m p):=
 sq.bind (P:=In2 n) (R:=λ_=>True) (S:=λ(r:Nat×Array Nat)=>qM n r.2) (f:=λm=>.ret (m,kas_rev p 0 k)) (λa _=>h.rev 0 k) (Dw hn (h.rev 0 k) _ _)
theorem ym{n:Nat}(hn:0<n){p:Array Nat}(h:qM n p)(k m:Nat):sq (In2 n) (λr=>qM n r.2) (kas_descPart k m p):=
 sq.bind (λr hr=>by
  show sq _ _ (if r.2.2 > 0 then _ else _);split
  ·exact EG hn (hr.rev _ _) _ _
  ·exact EG hn hr _ _) (yk hn _ p _ _ h)
theorem IU{n:Nat}(hn:0<n){p:Array Nat}(h:qM n p)(m:Nat):sq (In2 n) (λr=>qM n r.2) (kas_count m p):=
 sq.bind (λk _=>by
  show sq _ _ (if (k==m)=true then _ else _);split
  ·exact h
  ·split
   ·refine⟨⟨h.getD hn _,h.getD hn _⟩,λb=>?_⟩;cases b with
    |true=>exact h
    |false=>exact ym hn (h.rev _ _) _ _
   ·exact ym hn h _ _) (Dw hn h _ _)
theorem yW{n:Nat}(hn:0<n){p:Array Nat}(h:qM n p)(k:Nat):∀f l r,sq (In2 n) (λ_=>True) (kas_place p k f l r)
 |0,l,r=>trivial
 |f+1,l,r=>by
  unfold kas_place;split
  ·trivial
  ·refine⟨⟨h.getD hn _,h.getD hn _⟩,λb=>?_⟩;cases b with
   |true=>exact yW hn h k f _ _
   |false=>exact yW hn h k f _ _
theorem He{n:Nat}(hn:0<n):∀f (p:Array Nat) k,qM n p->sq (In2 n) (qM n) (kas_bin f p k)
 |0,p,k,h=>h
 |f+1,p,k,h=>sq.bind (λl _=>He hn f _ _ (h.bub _ _)) (yW hn h k _ _ _)
theorem AZ{n:Nat}(hn:0<n):sq (In2 n) (qM n) (hX n):=
 sq.bind (λr hr=>by
  show sq _ _ (if r.1<n then _ else _);split
  ·exact He hn _ _ _ hr
  ·exact hr) (IU hn (p:=List.toArray (aX n)) (by unfold qM;exact lr _) n)
def yn(a:Addr)(h h':Heap):Prop:=∀b o,b≠a->h.get? b=some o->h'.get? b=some o
variable{a:Addr}{Q:aa->ae->Prop}
section
variable{prog:au}{w:aq}{A:az}{E:aa->ae->Prop}{s:ae}
def xO(c:Nat->Nat->Bool)(vs:List aa):List aa:=(IT c (hX vs.length)).toList.map λi=>vs.getD i Value.none
theorem K7(c:Nat->Nat->Bool)(vs:List aa)(h:0<vs.length):(xO c vs).length=vs.length:=by unfold xO;rw[ah];have:=(AZ h).run c _;rw[this.length_eq,dU]
theorem K8(c:Nat->Nat->Bool)(v:aa):xO c [v]=[v]:=rfl
theorem K9{vs:List aa}{n:Nat}{P:mq->ae->Prop}{κ:fI}{c:Nat->Nat->Bool}(ho:s.heap.get? a=some (seqObj "list" vs.toArray n))(h1:0<vs.length)(h64:vs.length<64)
  (hk:∀(h':Heap) (C:fI->ae->Prop),yn a s.heap h'->C κ { s with heap:=h' }->af (model prog w) A (keyKind' vs.toArray) C (λ_ _=>False) { s with heap:=h' })
  (hc:∀(h':Heap) (i j:Nat) (C:Bool->ae->Prop),yn a s.heap h'->i<vs.length/\j<vs.length->C (c i j) { s with heap:=h' }->fN prog w A κ vs i j C { s with heap:=h' })
  (h:∀h' e,yn a s.heap h'->h'.get? a=some (seqObj "list" (xO c vs).toArray e)->P (.done (.ret .none)) { s with heap:=h' }):
  af (model prog w) A (cH.«list.sort» ⟨[.ref a],[]⟩) P E s:=by
 have ha:a<s.heap.objs.size:=aF ho;obtain⟨e1,o1⟩:∃e1,(s.heap.update a (dH λ_=>(#[]:Array aa))).get? a=some (seqObj "list" #[] e1):=⟨_,kX ho λ_=>#[]⟩;generalize hw:((s.heap.update a (dH λ_=>(#[]:Array aa))).push (seqObj "tuple" vs.toArray 0)).push (seqObj "list" #[] 0)=h3;have kb:yn a s.heap h3:=λb o hb q=>by rw[<-hw];exact aB _ (aB _ ((ic s.heap _ (cU hb)).trans q))
 have o3:h3.get? a=some (seqObj "list" #[] e1):=by rw[<-hw];exact aB _ (aB _ o1)
 rw[list_sort_plain];refine ag (listItems_at ho rfl (ag (iG ho rfl ?_ (by rw[aQ,bh];omega) (bN _))));refine ag (iY o1 rfl (ag (lu ?_ (by show vs.length<=_;rw[bh];omega))));refine ag (lN (cz ?_) (bN _));show af (model prog w) A _ P E { s with heap:=((s.heap.update a (dH λ_=>(#[]:Array aa))).push (seqObj "tuple" vs.toArray 0)).push (seqObj "list" #[] 0) };rw[hw];dsimp only;obtain⟨c2,hc2⟩:∃c2,(h3.update a (dH λ_=>(xO c vs).toArray)).get? a=some (seqObj "list" (xO c vs).toArray c2):=⟨_,kX o3 λ_=>(xO c vs).toArray⟩;have fin:=h _ c2 (λb o hb q=>(ic h3 _ (cU hb)).trans (kb b o hb q)) hc2;have szo:(xO c vs).toArray.size<=aE+1:=by rw[aQ,K7 c vs h1,bh];omega
 by_cases h2:2<=vs.length
 ·have hn2:¬vs.toArray.size<2:=by rw[aQ];omega
  rw[ai hn2,ai hn2];refine ag (bx (hk h3 (λk s'=>k=κ/\s'={ s with heap:=h3 }) kb ⟨rfl,rfl⟩) ?_ λ_ _ x=>x.elim);rintro k s' ⟨rfl,rfl⟩;refine ag (bx (kat_run (Q:=λst' s'=>s'={ s with heap:=h3 }/\(arrOf st').map (·.2)=(xO c vs).toArray/\failedOf st'=none) (G:=λp s'=>p=IT c (hX vs.length)/\s'={ s with heap:=h3 }) rfl h2 h64 ?_ ?_) ?_ λ_ _ e=>e)
  ·rintro p st' s' _ har hf ⟨rfl,rfl⟩;exact⟨rfl,kat_snds rfl har,hf⟩
  ·exact G9 (P:=In2 vs.length) (λi j C q r=>hc h3 i j C kb q r) (AZ h1) ⟨rfl,rfl⟩
  ·rintro⟨⟨⟩,st'⟩ s' ⟨rfl,ha2,hf⟩;dsimp only;refine ag (iY o3 rfl ?_);rw[ha2,hf];refine ag (iG o3 rfl ?_ (bN _) szo);simp only[bne_self_eq_false,dQ,if_false];exact aw fin
 ·obtain⟨v,rfl⟩:∃v,vs=[v]:=by
   cases vs with
   |nil=>cases h1
   |cons v r=>
    cases r with
    |nil=>exact⟨v,rfl⟩
    |cons x y=>exact ao (by simp) h2
  refine ag (aw ?_);refine ag (aw ?_);refine ag (iY o3 rfl ?_);have eo:mr (λx=>x.snd) (arrOf ((),SortSt.mk' general' (#[v].zip #[v]) #[] 7 none).snd)=(xO c [v]).toArray:=by rw[K8];show mr (λx=>x.snd) (#[v].zip #[v])=#[v];simp
  rw[eo];refine ag (iG o3 rfl ?_ (bN _) szo);simp only[bne_self_eq_false,dQ,if_false];exact aw fin
theorem A1{l:Addr}{T:String}{o:Obj}{n:Nat}{vs:List aa}{κ:fI}{c:Nat->Nat->Bool}(hT:T="list" \/ T="tuple")(ho:s.heap.get? l=some o)(hcl:o.cls=.type T)(hd:o.data=.seq vs.toArray n)(h1:0<vs.length)(h64:vs.length<64)
  (hk:∀(h':Heap) (C:fI->ae->Prop),(∀b o,s.heap.get? b=some o->h'.get? b=some o)->C κ { s with heap:=h' }->af (model prog w) A.in1.in1 (keyKind' vs.toArray) C (λ_ _=>False) { s with heap:=h' })
  (hc:∀(h':Heap) (i j:Nat) (C:Bool->ae->Prop),(∀b o,s.heap.get? b=some o->h'.get? b=some o)->i<vs.length/\j<vs.length->C (c i j) { s with heap:=h' }->fN prog w A.in1.in1 κ vs i j C { s with heap:=h' })
  (h:∀(g h':Heap) e,(∀b o,s.heap.get? b=some o->g.get? b=some o)->(∀b o,g.get? b=some o->h'.get? b=some o)->h'.get? g.objs.size=some (seqObj "list" (xO c vs).toArray e)->Q (.ref g.objs.size) { s with heap:=h' }):
  af (model prog w) A (call (.builtin "sorted") [.ref l]) Q E s:=by
 refine Calls.call_function_entry kind_sorted plain_sorted entry_sorted (args_sorted1 _) ?_;unfold cH.«sorted»;refine ag (m:=checkCount "sorted" 1 1 _) (aw (ag (wpAny_collect_seq l hT ho hcl hd (λg gk=>?_) (by rw[bh];simp;omega))));refine ag (lN ?_ (by rw[bh];simp;omega));show af _ _ _ _ _ { s with heap:=g.push (seqObj "list" vs.toArray 0) };have on:(g.push (seqObj "list" vs.toArray 0)).get? g.objs.size=some (seqObj "list" vs.toArray 0):=aS _ rfl;have all:∀h',yn g.objs.size (g.push (seqObj "list" vs.toArray 0)) h'->∀b o,g.get? b=some o->h'.get? b=some o:=λh' kb b o q=>kb b o (aO (aF q)) (aB _ q)
 show af _ _ (do let _<-holding [Value.ref g.objs.size] _;_) _ _ _;refine ag (cz (dX slot_list_sort ⟨_,on,rfl⟩ entry_list_sort ?_ (args_list_sort _)));refine K9 (s:={ s with heap:=g.push (seqObj "list" vs.toArray 0) }) on h1 h64 (λh' C kb q=>hk h' C (λb o z=>all h' kb b o (gk b o z)) q) (λh' i j C kb q r=>hc h' i j C (λb o z=>all h' kb b o (gk b o z)) q r) λh' e kb q=>?_;exact⟨_,rfl,aw ⟨_,rfl,h g h' e gk (all h' kb) q⟩⟩
end
def ltS(a b:Str):Bool:=decide (a.cps.toList<b.cps.toList)
def r6:List Str->List Str->Bool
 |[],[]=>false
 |[],_::_=>true
 |_::_,[]=>false
 |x::xs,y::ys=>if x=y then r6 xs ys else ltS x y
inductive StrsAre:List aa->List Str->Prop
 |nil:StrsAre [] []
 |cons (x:Str) (t:Tok) {vs:List aa} {xs:List Str} (h:StrsAre vs xs):StrsAre (.str x t::vs) (x::xs)
theorem StrsAre.len{vs:List aa}{xs:List Str}(h:StrsAre vs xs):vs.length=xs.length:=by
 induction h with
 |nil=>rfl
 |cons x t h ih=>rw[aD,aD,ih]
theorem xP:∀{xs:List Str} {vs:List aa},Vals (xs.map V.str) vs->StrsAre vs xs
 |[],vs,h=>by cases h;exact .nil
 |x::xs,vs,h=>by
  cases h with
  |cons r h'=>obtain⟨t,rfl⟩:=r;exact .cons x t (xP h')
section
open PySem.SeqAt
open PySem.AutoSeq1 (wpAny_loadPart')
open PySem.MeetsSeq PySem.MeetsSeq2 PySem.MeetsSeq3
theorem BO(l b:Addr)(is js:Array aa)(n m:Nat)(d1 d2:Option Addr)(q1 q2:Array (Option aa))(xs ys:List Str)(hi:StrsAre is.toList xs)(hj:StrsAre js.toList ys):
  Meets (cH.«tuple.__lt__» ⟨[.ref l,.ref b],[]⟩)
   (λ_ R s=>s.heap.get? l=some { cls:=.type "tuple", dict:=d1,data:=.seq is n,slots:=q1 }/\s.heap.get? b=some { cls:=.type "tuple", dict:=d2,data:=.seq js m,slots:=q2 }/\R (.ok (.ret (.bool (r6 xs ys)))) s):=
 .of_wp λprog w A R s h=>by
  obtain⟨hp,g,d,tk,os⟩:=s;obtain⟨hl,hb,h⟩:=h;have f2:=jx;have z1:is.size=xs.length:=by rw[<-hi.len,fY]
  have z2:js.size=ys.length:=by rw[<-hj.len,fY]
  wp_walk using jG hl,jG hb,gv _ (λrest b s'=>b.1=none/\s'=⟨hp,g,d,tk,os⟩/\∃(vs ws:List aa) (xs' ys':List Str),rest=vs.zip ws/\StrsAre vs xs'/\StrsAre ws ys'/\xs'.length+js.size=ys'.length+is.size/\R (.ok (.ret (.bool (r6 xs' ys')))) ⟨hp,g,d,tk,os⟩) _
  case turn=>
   rintro⟨y,x⟩ rest b s' ⟨hb',rfl,vs,ws,xs',ys',hz,hv,hw,hlen,hR⟩;cases hv with
   |nil=>cases hz
   |cons a t hv'=>
    cases hw with
    |nil=>cases hz
    |cons c u hw'=>
     rw[cM]at hz;obtain⟨hyx,hrest⟩:=List.cons.inj hz;obtain⟨rfl,rfl⟩:=iQ hyx;simp only[aD]at hlen;unfold r6 at hR;refine ag (f7 a t c u prog w _ _ ?_);by_cases hac:a=c
     ·subst hac;rw[aj rfl]at hR;simp only[beq_self_eq_true]
      wp_walk
      exact⟨rfl,rfl,_,_,_,_,hrest,hv',hw',by omega,hR⟩
     ·rw[ai hac]at hR;rw[beq_false_of_ne hac];have hri:∀(E Q),Q (.bool (decide (a.cps.toList<c.cps.toList))) (⟨hp,g,d,tk,os⟩:ae)->af (model prog w) A.in1 (richCompare .Lt (.str a t) (.str c u)) Q E ⟨hp,g,d,tk,os⟩:=λE Q hq=>(jR hq:af (model prog w) A.in1 (aM .Lt (.str a t) (.str c u)) Q E _)
      wp_walk using hri
      exact⟨_,rfl,by simpa [ltS]using hR⟩
  case fin=>
   rintro⟨b1,b2⟩ s' ⟨hb',rfl,vs,ws,xs',ys',hz,hv,hw,hlen,hR⟩;simp only at hb';subst hb';have hq:r6 xs' ys'=decide (is.size<js.size):=by
    cases hv with
    |nil=>
     cases hw with
     |nil=>exact(aN (by simp only[c7]at hlen;omega)).symm
     |cons c u hw=>exact(bg (by simp only[c7,aD]at hlen;omega)).symm
    |cons a t hv=>
     cases hw with
     |nil=>exact(aN (by simp only[c7,aD]at hlen;omega)).symm
     |cons c u hw=>cases hz
   rw[hq]at hR
   wp_walk
   exact⟨_,rfl,by simpa [my]using hR⟩
  case h=>exact⟨rfl,rfl,is.toList,js.toList,xs,ys,rfl,hi,hj,by omega,h⟩
end
section
variable{prog:au}{w:aq}{A:az}{E:aa->ae->Prop}{s:ae}
theorem FQ{l b:Addr}{is js:Array aa}{xs ys:List Str}(hl:cI s.heap l is)(hb:cI s.heap b js)(hi:StrsAre is.toList xs)(hj:StrsAre js.toList ys)(hu:A.units<cLine)(h:Q (.bool (r6 xs ys)) s):
  af (model prog w) A (aM .Lt (.ref l) (.ref b)) Q E s:=by
 obtain⟨⟨c1,d1,p1,s1⟩,o1,rfl,n,rfl⟩:=id hl;obtain⟨⟨c2,d2,p2,s2⟩,o2,rfl,m,rfl⟩:=id hb;exact richCompare_meets_room (op:=.Lt) ⟨_,o1,rfl⟩ ⟨_,o2,rfl⟩ F.slot_tuple_lt F.entry_tuple_lt (F.args_tuple_lt_2 _ _) (BO l b is js n m d1 d2 s1 s2 xs ys hi hj) ⟨o1,o2,show Value.bool (r6 xs ys)≠Value.notImplemented/\Q (.bool (r6 xs ys)) s from⟨(λx=>nomatch x),h⟩⟩ hu
end
def yp(c:Nat->Nat->Bool)(n:Nat):List Nat:=(IT c (hX n)).toList
theorem uQ(c:Nat->Nat->Bool){n:Nat}(h:0<n):(yp c n).Perm (aX n):=(AZ h).run c _
theorem uj(c:Nat->Nat->Bool){n:Nat}(h:0<n):∀i∈yp c n,i<n:=λi hi=>bL.mp ((uQ c h).mem_iff.mp hi)
theorem Cm:∀l:List Str,r6 l l=false
 |[]=>rfl
 |x::l=>by unfold r6;rw[aj rfl];exact Cm l
theorem Cn:∀(l m:List Str),sQ (l.map L3.Dq.str) (m.map L3.Dq.str)=decide (l=m)
 |[],[]=>by rw[bV,sQ];simp
 |[],y::m=>by rw[bV,av,sQ]<;>simp
 |x::l,[]=>by rw[bV,av,sQ]<;>simp
 |x::l,y::m=>by
  rw[av,av,sQ,Cn l m,eqD];by_cases h1:x=y
  ·subst h1;by_cases h2:l=m
   ·subst h2;simp
   ·simp[h2]
  ·have:(x==y)=false:=beq_false_of_ne h1;rw[this];simp[h1]
theorem yX{xs:List V}{us:List aa}(r:Vals xs us):∀(is:List Nat),(∀i∈is,i<xs.length)->Vals (is.map λi=>xs.getD i V.non) (is.map λi=>us.getD i Value.none)
 |[],_=>.nil
 |i::is,h=>by have hi:=h i (.head _);obtain⟨u,e,ru⟩:=r.get (aH hi);refine .cons ?_ (yX r is λj hj=>h j (.tail _ hj));show RelV (xs.getD i V.non) (us.getD i Value.none);rw[bF,bF,e,aH hi];exact ru
variable{y:V}{e:Expr}{f:FE}
section
variable{X:Cx}{G:Bg}{pins:List (Addr×Obj)}{σ:St}{H:Hp}{s:ae}
def vh(K:ak)(H:Hp)(y:V)(k:List Str):Prop:=∃a b v,y=.ref a/\SqT K H a [.ref b,v]/\SqT K H b (k.map V.str)
theorem FR(I:Inv X pins σ H s){k:List Str}{u:aa}(p:vh X.K H y k)(r:RelV y u):
  ∃a b v,u=.ref a/\cI s.heap a #[.ref b,v]/\SqT X.K H b (k.map V.str):=by
 obtain⟨a,b,v,rfl,h1,h2⟩:=p;cases r;obtain⟨its,ri,ti,_⟩:=I.tuple h1;cases ri with
 |cons q1 q2=>
  cases q1;cases q2 with
  |cons q3 q4=>cases q4;exact⟨a,b,_,rfl,ti,h2⟩
theorem seq_val{pins:List (Addr×Obj)}{s:ae}{σ:St}{H:Hp}{ys:List V}(I:Inv X pins σ H s)(hq:SqL X.K H a ys\/SqT X.K H a ys):∃its,Vals ys its/\∃T o n,(T="list" \/ T="tuple")/\s.heap.get? a=some o/\o.cls=.type T/\o.data=.seq its.toArray n:=by
 rcases hq with hq|hq
 ·obtain⟨its,ri,pl,_⟩:=I.list hq;obtain⟨o,a1,a2,n,a3⟩:=pl.isList;exact⟨its,ri,_,o,n,.inl rfl,a1,a2,a3⟩
 ·obtain⟨its,ri,⟨o,a1,a2,n,a3⟩,_⟩:=I.tuple hq;exact⟨its,ri,_,o,n,.inr rfl,a1,a2,a3⟩
theorem Dy(hu:X.A.units+64<cLine):qb X (.builtin "sorted") (λxs H Q=>∃(a:Addr) (ys:List V) (ks:List (List Str)),xs=[.ref a]/\(SqL X.K H a ys\/SqT X.K H a ys)/\0<ys.length/\ys.length<64/\ks.length=ys.length/\ks.Nodup/\(∀(i:Nat) (y:V) (k:List Str),ys[i]?=some y->ks[i]?=some k->vh X.K H y k)/\
  ∀p,H p=none->Q (.ref p) (upd H p (.lst ((yp (λi j=>r6 (ks.getD i []) (ks.getD j [])) ys.length).map λi=>ys.getD i V.non)))):=by
 intro pins s σ H xs us Q I r h;obtain⟨a,ys,ks,rfl,hq,h1,h64,hkl,nd,hp,q⟩:=h;obtain⟨u,rfl,ru⟩:=vals1 r;cases ru;obtain⟨its,ri,T,ob,nn,hT,b1,b2,b3⟩:=seq_val I hq;have hl:ys.length=its.length:=ri.length;have item:∀{h':Heap},(∀b o,s.heap.get? b=some o->h'.get? b=some o)->∀i,i<its.length->∃a b v,its.getD i Value.none=.ref a/\cI h' a #[.ref b,v]/\SqT X.K H b ((ks.getD i []).map V.str)/\its[i]?=some (.ref a):=λ{h'} kk i hi=>by
  have I':Inv X pins σ H { s with heap:=h',toks:=s.toks }:=I.kept kk;have hy:i<ys.length:=by omega
  have hk:i<ks.length:=by omega
  obtain⟨u,e,ru⟩:=ri.get (aH hy);obtain⟨a,b,v,rfl,t,t2⟩:=FR I' (hp i _ _ (aH hy) (aH hk)) ru;refine⟨a,b,v,?_,t,?_,e⟩
  ·rw[bF,e];rfl
  ·rw[bF,aH hk];exact t2
 refine A1 (κ:=tuples' false) (c:=λi j=>r6 (ks.getD i []) (ks.getD j [])) hT b1 b2 b3 (by omega) (by omega) (λh' C kk hC=>?_) (λh' i j C kk hij hC=>?_) λg h' e k1 k2 ho=>?_
 ·
  have I':Inv X pins σ H { s with heap:=h',toks:=s.toks }:=I.kept kk;have tups:∀(l:List aa),(∀v∈l,∃i,i<its.length/\its[i]?=some v)->∃fs,KatTups h' l fs/\fs.length=l.length/\∀f∈fs,∃(b:Addr) (k:List Str),f=.ref b/\SqT X.K H b (k.map V.str):=λl=>by
   induction l with
   |nil=>exact λ_=>⟨[],md,rfl,λf hf=>by cases hf⟩
   |cons v l ih=>
    intro hv;obtain⟨fs,f1,f2,f3⟩:=ih λw hw=>hv w (.tail _ hw);obtain⟨i,hi,ei⟩:=hv v (.head _);obtain⟨a,b,w,_,⟨o,t1,t2,n,t3⟩,t4,t5⟩:=item kk i hi;rw[ei]at t5;cases t5;refine⟨.ref b::fs,lZ t1 t2 t3 (by simp) f1,by rw[aD,aD,f2],λf hf=>?_⟩;rcases aJ.mp hf with rfl|hf
    ·exact⟨b,_,rfl,t4⟩
    ·exact f3 f hf
  obtain⟨fs,f1,f2,f3⟩:=tups its λv hv=>by obtain⟨i,hi,e⟩:=fX.mp hv;exact⟨i,hi,by rw[aH hi,e]⟩
  refine kat_kind (T:=.type "tuple") f1 (by omega) (λv hv=>?_) (by decide) hC;obtain⟨b,k,rfl,hb⟩:=f3 v hv;obtain⟨_,_,⟨o,t1,t2,_⟩,_⟩:=I'.tuple hb;rw[<-t2];exact(Looks.ld t1).andThen .now
 ·
  have I':Inv X pins σ H { s with heap:=h',toks:=s.toks }:=I.kept kk;obtain⟨a1,b1,v1,e1,⟨o1,g1,c1,n1,d1⟩,k1,_⟩:=item kk i hij.1;obtain⟨a2,b2,v2,e2,⟨o2,g2,c2,n2,d2⟩,k2,_⟩:=item kk j hij.2;unfold fN;by_cases hne:i=j
  ·subst hne;rw[e1]at e2;cases e2;rw[e1];refine kat_lt g1 d1 g1 d1 ?_;show KatLex _ _ _ _ _ _ [(Value.ref b1,Value.ref b1),(v1,v1)] 0 _;refine fJ (fj _ _ _ _ _ (hZ (fJ (fj _ _ _ _ _ (hZ (kat_nil ?_))))));rw[Cm]at hC;exact hC
  ·rw[e1,e2];have kne:ks.getD i []≠ks.getD j []:=λz=>hne (by
    have hi:i<ks.length:=by omega
    have hj:j<ks.length:=by omega
    rw[bF,bF,aH hi,aH hj]at z;have pw:=jw.mp nd;rcases kq i j with y|y|y
    ·exact ao z (pw i j hi hj y)
    ·exact y
    ·exact ao z.symm (pw j i hj hi y))
   refine kat_lt g1 d1 g2 d2 ?_;show KatLex _ _ _ _ _ _ [(Value.ref b1,Value.ref b2),(v1,v2)] 0 _;have rp:∀{b:Addr} {k:List Str},SqT X.K H b (k.map V.str)->L3.Rep X.K H (L3.Dq.tup (k.map L3.Dq.str)) (.ref b):=λh=>by unfold L3.Rep;exact⟨_,_,rfl,h,Ca _⟩
   have dp:∀l:List Str,dpt (L3.Dq.tup (l.map L3.Dq.str))=1:=λl=>by unfold dpt;rw[Cb]
   have eq:=JX I' _ _ _ _ (.ref b1) (.ref b2) X.A.in1.in1 (rp k1) (rp k2) rfl rfl (by rw[dp,dp,gx,gx];omega);rw[show eqD (L3.Dq.tup ((ks.getD i []).map L3.Dq.str)) (L3.Dq.tup ((ks.getD j []).map L3.Dq.str))=false from by rw[eqD,Cn];exact aN kne]at eq;refine fJ (eq _ _ _ _ (kat_no ?_));obtain⟨i1,r1,t1,_⟩:=I'.tuple k1;obtain⟨i2,r2,t2,_⟩:=I'.tuple k2;exact kat_one _ _ (FQ t1 t2 (xP r1) (xP r2) (by rw[gx,gx];omega) hC)
 ·have I1:Inv X pins σ H { s with heap:=g,toks:=s.toks }:=I.kept k1;refine⟨.ref g.objs.size,_,I1.laid (t':=s.toks) k2 (aA _) ?_,rfl,q _ (I1.hok.fresh (aA _))⟩;have hn:0<ys.length:=h1;refine⟨?_,xO _ its,e,?_,ho⟩
  ·rw[ah,(uQ _ hn).length_eq,dU,bh];omega
  ·unfold xO;rw[<-hl];exact yX ri _ λi hi=>uj _ hn i hi
def EH:List D->Option (List Str)
 |[]=>some []
 |.str x::ds=>match EH ds with
  |some xs=>some (x::xs)
  |none=>none
 |_=>none
def La:D->Option (List Str)
 |.tup [.tup ks,_]=>EH ks
 |_=>none
def v9:List D->Option (List (List Str))
 |[]=>some []
 |d::ds=>match La d,v9 ds with
  |some k,some ks=>some (k::ks)
  |_,_=>none
def A2(ds:List D):Option (List D):=match v9 ds with
 |some ks=>if ks.Nodup/\0<ds.length/\ds.length<64 then some ((yp (λi j=>r6 (ks.getD i []) (ks.getD j [])) ds.length).map λi=>ds.getD i .non)else none
 |none=>none
def A3(f:FE):FA:=λρ=>match f ρ with
 |some (.lst ds,ρ')=>match A2 ds with
  |some es=>some (es,ρ')
  |none=>none
 |_=>none
theorem A4:∀{ds:List D} {xs:List V} {l:List Str},Reps G H ds xs->EH ds=some l->xs=l.map V.str
 |[],xs,l,r,e=>by cases e;unfold Reps at r;exact r
 |d::ds,xs,l,r,e=>by
  cases d with
  |str x=>
   unfold EH at e;cases e1:EH ds with
   |none=>rw[e1]at e;cases e
   |some l'=>rw[e1]at e;cases e;unfold Reps at r;obtain⟨v,r',rfl,h1,h2⟩:=r;unfold Rep at h1;subst h1;rw[A4 h2 e1,av]
  |_=>cases e
theorem Lb{d:D}{v:V}{k:List Str}(r:Rep G H d v)(e:La d=some k):vh G.K H v k:=by
 unfold La at e;split at e
 ·rename_i ks w;unfold Rep at r;obtain⟨a,xs,rfl,h1,h2⟩:=r;unfold Reps at h2;obtain⟨v1,r1,rfl,q1,q2⟩:=h2;unfold Reps at q2;obtain⟨v2,r2,rfl,_,q3⟩:=q2;unfold Reps at q3;subst q3;unfold Rep at q1;obtain⟨b,ys,rfl,p1,p2⟩:=q1;rw[A4 p2 e]at p1;exact⟨a,b,v2,rfl,h1,p1⟩
 ·cases e
theorem Cp:∀{ds:List D} {ks:List (List Str)},v9 ds=some ks->ks.length=ds.length
 |[],ks,e=>by cases e;rfl
 |d::ds,ks,e=>by
  unfold v9 at e;cases e1:La d with
  |none=>rw[e1]at e;cases e
  |some k=>
   cases e2:v9 ds with
   |none=>rw[e1,e2]at e;cases e
   |some ks'=>rw[e1,e2]at e;cases e;rw[aD,aD,Cp e2]
theorem Cq:∀{ds:List D} {ks:List (List Str)} {xs:List V},Reps G H ds xs->v9 ds=some ks->∀(i:Nat) (y:V) (k:List Str),xs[i]?=some y->ks[i]?=some k->vh G.K H y k
 |[],ks,xs,r,e,i,y,k,h1,h2=>by cases e;cases h2
 |d::ds,ks,xs,r,e,i,y,k,h1,h2=>by
  unfold v9 at e;cases e1:La d with
  |none=>rw[e1]at e;cases e
  |some k'=>
   cases e2:v9 ds with
   |none=>rw[e1,e2]at e;cases e
   |some ks'=>
    rw[e1,e2]at e;cases e;unfold Reps at r;obtain⟨v,r',rfl,q1,q2⟩:=r;cases i with
    |zero=>cases h1;cases h2;exact Lb q1 e1
    |succ i=>exact Cq q2 e2 i y k h1 h2
theorem yY{ds:List D}{xs:List V}(r:Reps G H ds xs):∀(is:List Nat),(∀i∈is,i<ds.length)->Reps G H (is.map λi=>ds.getD i .non) (is.map λi=>xs.getD i V.non)
 |[],_=>o7
 |i::is,h=>by have hi:=h i (.head _);obtain⟨v,e,rv⟩:=p5 r (aH hi);refine o6 ?_ (yY r is λj hj=>h j (.tail _ hj));show Rep G H (ds.getD i .non) (xs.getD i V.non);rw[bF,bF,e,aH hi];exact rv
theorem SqT.same{K:ak}{H0 H1:Hp}{k:List Str}(s:oM H0 H1)(p:vh K H0 y k):vh K H1 y k:=by obtain⟨a,b,v,e,h1,h2⟩:=p;exact⟨a,b,v,e,SqT.mono s h1,SqT.mono s h2⟩
theorem EI{g:FE}(hg:∀ρ ds ρ1,g ρ=some (.lst ds,ρ1)->f ρ=some (.lst ds,ρ1)\/f ρ=some (.tup ds,ρ1))(h:PE X e (tCB (λxs H Q=>∃(a:Addr) (ys:List V) (ks:List (List Str)),xs=[.ref a]/\(SqL G.K H a ys\/SqT G.K H a ys)/\0<ys.length/\ys.length<64/\ks.length=ys.length/\ks.Nodup/\(∀(i:Nat) (y:V) (k:List Str),ys[i]?=some y->ks[i]?=some k->vh G.K H y k)/\
  ∀p,H p=none->Q (.ref p) (upd H p (.lst ((yp (λi j=>r6 (ks.getD i []) (ks.getD j [])) ys.length).map λi=>ys.getD i V.non)))) (tFA G (aCons f ox)))):PE X e (tFN G (A3 g)):=PE.weak h λσ H Q hh=>by
 obtain⟨F,ρ,H0,es,ρ',R,e,k⟩:=hh;unfold A3 at e;split at e
 ·rename_i ds ρ1 e1;cases e2:A2 ds with
  |none=>simp only[e2]at e;cases e
  |some es'=>
   simp only[e2]at e;cases e;unfold A2 at e2;cases e3:v9 ds with
   |none=>simp only[e3]at e2;cases e2
   |some ks=>
    simp only[e3]at e2;split at e2
    ·rename_i hh;obtain⟨nd,hn,h64⟩:=hh;cases e2;have xx:∃x,f ρ=some (x,ρ')/\∀H v,Rep G H x v->∃a xs,v=V.ref a/\(H a=some (.lst xs)\/SqT G.K H a xs)/\Reps G H ds xs:=by
      rcases hg _ _ _ e1 with q|q
      ·exact⟨_,q,λH v r=>by unfold Rep at r;obtain⟨a,xs,e,h1,h2⟩:=r;exact⟨a,xs,e,.inl h1,h2⟩⟩
      ·exact⟨_,q,λH v r=>by unfold Rep at r;obtain⟨a,xs,e,h1,h2⟩:=r;exact⟨a,xs,e,.inr h1,h2⟩⟩
     obtain⟨x,ex,hx⟩:=xx;refine⟨F,ρ,H0,[x],_,R,by unfold aCons;rw[ex];rfl,λys H1 H1' s R' rs=>?_⟩;unfold Reps at rs;obtain⟨v,r0,rfl,rv,rn⟩:=rs;unfold Reps at rn;subst rn;obtain⟨a,xs,rfl,h1,h2⟩:=hx _ _ rv;have hl:=oG h2;refine⟨a,xs,ks,rfl,h1.imp (λh=>SqL.of (R'.sub _ _ h)) (SqT.mono R'.sub),by omega,by omega,by rw[Cp e3,hl],nd,λi y kk q1 q2=>SqT.same R'.sub (Cq h2 e3 i y kk q1 q2),λp hp=>?_⟩;refine k p _ _ _ s (R'.newOwn hp _) oH (R'.h0none hp) (R'.bNone hp) (R'.apart hp) ?_;rw[<-hl];exact yY h2 _ λi hi=>uj _ hn i hi
    ·cases e2
 ·cases e
theorem FU(h:PE X e (tCB (λxs H Q=>∃(a:Addr) (ys:List V) (ks:List (List Str)),xs=[.ref a]/\(SqL G.K H a ys\/SqT G.K H a ys)/\0<ys.length/\ys.length<64/\ks.length=ys.length/\ks.Nodup/\(∀(i:Nat) (y:V) (k:List Str),ys[i]?=some y->ks[i]?=some k->vh G.K H y k)/\
  ∀p,H p=none->Q (.ref p) (upd H p (.lst ((yp (λi j=>r6 (ks.getD i []) (ks.getD j [])) ys.length).map λi=>ys.getD i V.non)))) (tFA G (aCons f ox)))):PE X e (tFN G (A3 f)):=EI (λ_ _ _ h=>.inl h) h
theorem DA(hu:X.A.units+64<cLine)(hK:X.K=G.K:=by rfl):qb X (.builtin "sorted") (λxs H Q=>∃(a:Addr) (ys:List V) (ks:List (List Str)),xs=[.ref a]/\(SqL G.K H a ys\/SqT G.K H a ys)/\0<ys.length/\ys.length<64/\ks.length=ys.length/\ks.Nodup/\(∀(i:Nat) (y:V) (k:List Str),ys[i]?=some y->ks[i]?=some k->vh G.K H y k)/\
  ∀p,H p=none->Q (.ref p) (upd H p (.lst ((yp (λi j=>r6 (ks.getD i []) (ks.getD j [])) ys.length).map λi=>ys.getD i V.non)))):=by rw[<-hK];exact Dy hu
end
end L4
namespace L4
open PySem PySem.Spec PyProof.Rows L2 L3
section
variable{X:Cx}{G:Bg}
theorem N0:OpD G (λx y H Q=>∃z n,x=.str z/\y=.int n/\MulOk z n/\Q (.str (fM z n)) H) Es:=λx y z H0 H v u Q e s rx ry k=>by
 unfold Es at e;split at e
 ·rename_i a n;split at e
  ·rename_i hl;obtain⟨h0,h1,h2⟩:=hl;cases e;unfold Rep at rx ry;refine⟨a,n,rx,ry,⟨?_,λh3 h4 h5=>?_,λh3 h4=>?_⟩,k _ λ_ _=>wJ _⟩
   ·rw[ik];exact⟨aN (by omega),aN (by omega)⟩
   ·have hn:(0:Int)<n:=by omega
    have q:(9223372036854775807:Int) / n >= 9223372036854775:=by have:=Int.le_ediv_of_mul_le (a:=9223372036854775) (b:=9223372036854775807) hn (by omega);exact this
    have:((2:Int) ^ 63 - 1)=9223372036854775807:=by decide
    rw[this]at h5;omega
   ·have hn:n.toNat<=1000:=by omega
    have:a.length * n.toNat<=100 * 1000:=Nat.mul_le_mul h2 hn;refine aN ?_;rw[bh];omega
  ·cases e
 ·cases e
end
def Hf:List String:=["NoneType", "bool", "int", "str", "tuple", "list", "dict"]
def Cr(n c:Nat):Ty->Option Bool:=λy=>match y with
 |.b x=>if Hf.contains x=true then some false else none
 |.c k=>if k<n then some (k==c)else none
def Ad(K:ak)(cs:List Addr)(C:Addr)(c:Nat):Bool:=
 Hf.all (λx=>cc K (.type x) (.ref C)==some false)&&(aX cs.length).all λk=>cc K (.ref (cs.getD k 0)) (.ref C)==some (k==c)
theorem Cs{B:Bg}{n c:Nat}{cs:List Addr}(h:Ad B.K cs (B.ca c) c=true)(hn:cs.length=n)(hc:∀k,k<n->cs.getD k 0=B.ca k)(hI:∀k,k<n->Iu B.K (B.ca k)):FC B c (Cr n c):=by
 unfold Ad at h;rw[aR,aY,aY]at h;refine⟨λy b e=>?_,λj b e=>?_⟩
 ·cases y with
  |b x=>
   unfold Cr at e;simp only at e;split at e
   ·rename_i hx;cases e;exact fG (h.1 x (jL.mp hx))
   ·cases e
  |c k=>
   unfold Cr at e;simp only at e;split at e
   ·rename_i hk;cases e;have:=fG (h.2 k (bL.mpr (by omega)));rw[hc k hk]at this;exact this
   ·cases e
 ·unfold Cr at e;simp only at e;split at e
  ·rename_i hk;exact hI j hk
  ·cases e
theorem QL{l:List Addr}(h:l.Nodup){j k:Nat}(hj:j<l.length)(hk:k<l.length)(e:l.getD j 0=l.getD k 0):j=k:=by
 rw[bF,bF,aH hj,aH hk]at e;have pw:=jw.mp h;rcases kq j k with y|y|y
 ·exact ao e (pw j k hj hk y)
 ·exact y
 ·exact ao e.symm (pw k j hk hj y)
section
variable{B:Bg}{K:ak}{mg:Str->Option aa}{h:Heap}
theorem const_int{x:Str}{i:Int}{t:Tok}(X:K.In h)(Gn:h.Ns aK mg)(e:eG K aK x=some (some (.int i t))):wN B mg x (.int i):=
 ⟨.int i,_,ia X Gn e,⟨_,rfl⟩,λ_=>rf _⟩
inductive vm:List aa->List Str->Prop
 |nil:vm [] []
 |cons {v:aa} {x:Str} {t:Tok} {vs:List aa} {xs:List Str} (e:v=.str x t) (h:vm vs xs):vm (v::vs) (x::xs)
theorem vm.vals{vs:List aa}{xs:List Str}(h:vm vs xs):Vals (xs.map V.str) vs:=by
 induction h with
 |nil=>exact .nil
 |cons e h ih=>exact .cons ⟨_,e⟩ ih
theorem A5{H:Hp}:∀xs:List Str,Reps B H (xs.map D.str) (xs.map V.str)
 |[]=>o7
 |x::xs=>o6 (wJ x) (A5 xs)
theorem FV{x:Str}{a:Addr}{o:Obj}{its:Array aa}{n:Nat}(xs:List Str)(X:B.K.In h)(Gn:h.Ns aK mg)(e:eG B.K aK x=some (some (.ref a)))(l:B.K.lookup a=some o)(hc:o.cls=.type "tuple")(hd:o.data=.seq its n)(hz:its.size<=1000)
  (r:vm its.toList xs):wN B mg x (.tup (xs.map D.str)):=
 ⟨.ref a,_,ia X Gn e,rfl,λH=>vd (.inr ⟨o,its,n,l,hc,hd,by rw[bh];omega,r.vals⟩) (A5 xs)⟩
end
variable{ns:List Str}{np:Nat}{b:FS}
section
variable{f g' h:FS}{c:FT}{e e' e2:FE}{a a':FA}{ρ ρ' ρ1 ρ2 ρ3:List Sl}{d x y z:D}{ds xs ys:List D}{k:Nat}{cap:List Nat}{g:FG}{ft:FT}{fe:FE}
theorem A6{α:Type}(dd:α->D)(p:α->Bool)(h:α->D):∀l:List α,
  (∀a∈l,∃ρ1 ρ2,g (dd a) (xb k cap ρ)=some ρ1/\ft ρ1=some (p a,ρ2)/\(p a=true->∃ρ3,fe ρ2=some (h a,ρ3)/\q8 cap (ρ3.drop k) ρ=some ρ)/\(p a=false->q8 cap (ρ2.drop k) ρ=some ρ))->
  r9 k cap g ft fe (l.map dd) ρ=some ((l.filter p).map h,ρ)
 |[],_=>rfl
 |a::l,st=>by
  obtain⟨ρ1,ρ2,h1,h2,h3,h4⟩:=st a aT;have ih:=A6 dd p h l λa' ha=>st a' (aZ _ ha);rw[av];unfold r9;rw[h1];simp only[h2];cases hp:p a with
  |true=>obtain⟨ρ3,h5,h6⟩:=h3 hp;simp only[h5,h6,ih,bZ,hp,if_true,av]
  |false=>simp only[h4 hp,ih,bZ,hp];rfl
theorem N1{α:Type}(dd:α->D)(h:α->D)(l:List α)(st:∀a∈l,∃ρ1 ρ3,g (dd a) (xb k cap ρ)=some ρ1/\fe ρ1=some (h a,ρ3)/\q8 cap (ρ3.drop k) ρ=some ρ):r9 k cap g pF fe (l.map dd) ρ=some (l.map h,ρ):=by have:=A6 (ft:=pF) dd (λ_=>true) h l λa ha=>let ⟨ρ1,ρ3,h1,h2,h3⟩:=st a ha;⟨ρ1,ρ1,h1,rfl,λ_=>⟨ρ3,h2,h3⟩,λz=>by cases z⟩;rw[this,iq.mpr λ_ _=>rfl]
theorem wX(neg:Bool)(a b:Str):dEq neg (.str a) (.str b)=some (.bl (if neg then !decide (a=b)else decide (a=b))):=by
 have e:BK neg (.str a) (.str b)=some (.bl (if neg then !decide (V.str a=V.str b)else decide (V.str a=V.str b))):=rfl;have e2:decide (V.str a=V.str b)=decide (a=b):=by
  by_cases h:a=b
  ·subst h;simp
  ·rw[aN h,aN (λz=>h (by injection z))]
 unfold dEq;rw[e,e2]
theorem Lc(a:Str)(l:List Str):inV (V.str a) (l.map V.str)=decide (a∈l):=by
 unfold inV;rw[cN,dW,bu];constructor
 ·rintro⟨v,hv,he⟩;obtain⟨b,hb,rfl⟩:=ay.mp hv;have:b=a:=by unfold eqV at he;simpa using he
  rw[<-this];exact hb
 ·intro ha;refine⟨.str a,bS ha,?_⟩;unfold eqV;simp
theorem IV(l:List Str):(l.map D.str).all qP=true:=by rw[l4,aY];intro x _;rfl
theorem N2(l:List Str):(l.map D.str).map vD=l.map V.str:=by rw[aC];rfl
theorem A7(neg:Bool)(a:Str)(l:List Str):dIn neg (.str a) (.lst (l.map D.str))=some (.bl (if neg then !decide (a∈l)else decide (a∈l))):=by unfold dIn;show (if qP (.str a)&&(l.map D.str).all qP then some (D.bl (if neg then !inV (vD (.str a)) ((l.map D.str).map vD)else inV (vD (.str a)) ((l.map D.str).map vD)))else none)=_;rw[IV,N2];show some (D.bl (if neg then !inV (V.str a) (l.map V.str)else inV (V.str a) (l.map V.str)))=_;rw[Lc]
theorem EJ(neg:Bool)(a:Str)(l:List Str):dIn neg (.str a) (.tup (l.map D.str))=some (.bl (if neg then !decide (a∈l)else decide (a∈l))):=A7 neg a l
theorem DB:∀bs:List Bool,BL (bs.map D.bl)=some bs
 |[]=>rfl
 |b::bs=>by rw[av];unfold BL;rw[DB bs];rfl
theorem Ld(bs:List Bool):tI (.lst (bs.map D.bl))=some (.bl (bs.all id)):=by unfold tI;simp only[DB];rfl
theorem Le(bs:List Bool):AN (.lst (bs.map D.bl))=some (.bl (bs.any id)):=by unfold AN;simp only[DB];rfl
theorem DC{α:Type}(l:List α)(p:α->Bool):tI (.lst (l.map λa=>D.bl (p a)))=some (.bl (l.all p)):=by rw[show (l.map λa=>D.bl (p a))=(l.map p).map D.bl by rw[aC];rfl,Ld,l4];rfl
theorem N3{α:Type}(l:List α)(p:α->Bool):AN (.lst (l.map λa=>D.bl (p a)))=some (.bl (l.any p)):=by rw[show (l.map λa=>D.bl (p a))=(l.map p).map D.bl by rw[aC];rfl,Le,List.any_map];rfl
theorem A8:∀l:List Str,xi (l.map D.str)=some (l.map Sum.inr)
 |[]=>rfl
 |x::l=>by rw[av];unfold xi;rw[A8 l];rfl
theorem Lf:∀(l acc:List Key),(acc++l).Nodup->l.foldl ddp acc=acc++l
 |[],acc,_=>by rw[br];rfl
 |k::l,acc,h=>by
  have hn:acc.any (λz=>decide (z=k))=false:=by rw[gm];intro z;obtain⟨y,hy,ey⟩:=dW.mp z;rw[bG]at h;exact h.2.2 y hy k aT (bP ey)
  rw[kR,show ddp acc k=acc++[k] by unfold ddp;rw[hn];rfl,Lf l (acc++[k]) (by simpa using h)];simp
theorem rG{l:List Str}(h:l.Nodup):(l.map (Sum.inr:Str->Key)).Nodup:=by unfold List.Nodup at h ⊢;rw[List.pairwise_map];exact h.imp λhne z=>hne (gS z)
theorem wa{l:List Str}(h:l.Nodup)(hl:l.length<=1000):rR (l.map D.str)=some (.int l.length):=by unfold rR;rw[A8];simp only[ah,hl,if_true];unfold ub;rw[Lf _ [] (by simpa using rG h)];simp
theorem wY(neg:Bool)(a b:Int):dEq neg (.int a) (.int b)=some (.bl (if neg then !decide (a=b)else decide (a=b))):=by
 have e:BK neg (.int a) (.int b)=some (.bl (if neg then !decide (V.int a=V.int b)else decide (V.int a=V.int b))):=rfl;have e2:decide (V.int a=V.int b)=decide (a=b):=by
  by_cases h:a=b
  ·subst h;simp
  ·rw[aN h,aN (λz=>h (by injection z))]
 unfold dEq;rw[e,e2]
theorem qA(h1:e ρ=some (.bl true,ρ1)):rP e e' ρ=e' ρ1:=by unfold rP;rw[h1]
theorem qd{g:Nat->Option (List D->Option D)}{m:Str}{c:Nat}{hh:List D->Option D}(h1:e ρ=some (.obj c ns xs,ρ1))(h2:g c=some hh)(h3:ns.contains m=false)(h4:a ρ1=some (ys,ρ2))(h5:hh (.obj c ns xs::ys)=some d):pE g m e a ρ=some (d,ρ2):=by unfold pE;rw[h1];simp only[h2,h3,h4,h5];rfl
theorem Hg{c:Nat}{g:List D->Option (List Str×List D)}(h1:a ρ=some (ds,ρ1))(h2:g ds=some (ns,xs)):pA c g a ρ=some (.obj c ns xs,ρ1):=by unfold pA;rw[h1];simp only[h2]
theorem wb{n:Nat}(hl:ds.length=np)(h:b (L4.stE n ds)=some (.nx ρ)):fnD np n b ds=some .non:=by unfold fnD;rw[aj hl,h]
theorem FW{n:Nat}(hl:ds.length=np)(h:b (L4.stE n ds)=some (.rn xs ρ)):fnD np n b ds=some (.lst xs):=by unfold fnD;rw[aj hl,h]
theorem uR:∀{ks:List Key} {ds:List D} {k:Key} {d:D},ks.Nodup->(k,d)∈ks.zip ds->rb ks ds k=some d
 |[],_,k,d,_,h=>by simp at h
 |k'::ks,[],k,d,_,h=>by simp at h
 |k'::ks,d'::ds,k,d,nd,h=>by
  unfold rb;rw[cM]at h;rcases aJ.mp h with e|h
  ·cases e;rw[aj rfl]
  ·rw[bU]at nd;rw[ai (λz=>nd.1 (by subst z;exact(gA h).1))];exact uR nd.2 h
theorem yZ:∀{ks:List Key} {ds:List D} {k:Key},k∉ks->rb ks ds k=none
 |[],ds,k,_=>by unfold rb;rfl
 |k'::ks,[],k,_=>by unfold rb;rfl
 |k'::ks,d'::ds,k,h=>by unfold rb;rw[ai (λz=>h (by subst z;exact aT))];exact yZ λz=>h (aZ _ z)
end
end L4
namespace L4
open PySem PySem.Spec PyProof.Rows L2 L3
open PySem.W (nsIn findIn keepIn isFn makesIn fnOf)
def FX{α:Type}:Nat->(List α->Prop)->Prop
 |0,P=>P []
 |n+1,P=>∀a,FX n λl=>P (a::l)
theorem Ae{α:Type}:∀{n:Nat} {P:List α->Prop},FX n P->∀l,l.length=n->P l
 |0,P,h,[],_=>h
 |n+1,P,h,a::l,e=>Ae (P:=λl=>P (a::l)) (h a) l (gQ e)
structure CF(K:ak)(C:Addr)(xs:List Str):Prop where
 ci:Iu K C
 mks:makesIn K C=true
 kp:keepIn K (.ref C)=true
 na:(xs.all λx=>match findIn K (.ref C) x with|some none=>true|_=>false)=true
theorem CF.at{K:ak}{C:Addr}{xs:List Str}(c:CF K C xs)(i:Nat){x:Str}(h:xs[i]?=some x):Cls K C/\tG K C x:=⟨c.ci.cl,by
 have e:=aY.mp c.na x (bK h);unfold tG;split at e
 ·rename_i e1;exact e1
 ·cases e⟩
variable{i:Nat}
theorem vX{Q:Nat->Prop}(h:Q i):∀c,(c==i)=true->Q c:=λc e=>by rw[beq_iff_eq]at e;subst e;exact h
theorem orQ{Q:Nat->Prop}{p:Nat->Bool}(h:∀c,p c=true->Q c)(h':Q i):∀c,(p c||c==i)=true->Q c:=λc e=>by
 rw[kP]at e;rcases e with e|e
 ·exact h c e
 ·exact vX h' c e
structure Yw(P:au)(w:aq)(mg:Str->Option aa)(base:Heap)(G:Bg):Prop where
 m:∃h:Heap,G.K.In h/\h.Ns aK mg
variable{np:Nat}{b:FS}{vs:List V}{us:List aa}
section
variable{P:au}{w:aq}{mg:Str->Option aa}{base:Heap}{G:Bg}{x m qual:Str}{st:Stmt}{N ps:List Str}{k c:Nat}{K:ak}
theorem Yw.g(y:Yw P w mg base G){v:aa}(e:nsIn G.K aK x=some (some v)):mg x=some v:=by obtain⟨h,X,Gn⟩:=y.m;exact ia X Gn e
theorem Yw.n(y:Yw P w mg base G){xs:List Str}(h:(xs.all λx=>match nsIn G.K aK x with|some none=>true|_=>false)=true)(i:Nat)(hi:xs[i]?=some x):mg x=none:=by
 obtain⟨hh,X,Gn⟩:=y.m;have e:=aY.mp h x (bK hi);split at e
 ·rename_i e1;exact W.mg_none_of X Gn e1
 ·cases e
def GC(K:ak)(x:Str)(i:Int):Prop:=∃t:Tok,nsIn K aK x=some (some (.int i t))
theorem Yw.ci(y:Yw P w mg base G){i:Int}(q:GC G.K x i):wN G mg x (.int i):=by obtain⟨h,X,Gn⟩:=y.m;obtain⟨t,e⟩:=q;exact const_int X Gn e
def GS(K:ak)(x:Str)(xs:List Str):Prop:=∃(a:Addr) (o:Obj) (its:Array aa) (n:Nat),nsIn K aK x=some (some (.ref a))/\K.lookup a=some o/\o.cls=.type "tuple" /\ o.data=.seq its n/\its.size<=1000/\vm its.toList xs
theorem Yw.cs(y:Yw P w mg base G){xs:List Str}(q:GS G.K x xs):wN G mg x (.tup (xs.map D.str)):=by obtain⟨h,X,Gn⟩:=y.m;obtain⟨a,o,its,n,e,l,h1,h2,h3,h4⟩:=q;exact FV xs X Gn e l h1 h2 h3 h4
def GD(K:ak)(x:Str)(st:Stmt):Prop:=∃(f:Addr) (fd:bb),nsIn K aK x=some (some (.ref f))/\Fun K x x st f fd
def GM(K:ak)(C:Addr)(m qual:Str)(st:Stmt):Prop:=∃(f:Addr) (fd:bb),findIn K (.ref C) m=some (some (.ref f))/\isFn K (.ref f)=true/\Fun K m qual st f fd
def GJ(K:ak)(C:Addr)(qual:Str)(st:Stmt)(vs:List V):Prop:=∃(f:Addr) (fd:bb) (T:Addr) (o:Obj) (dl:List aa) (n:Nat),findIn K (.ref C) "__init__" = some (some (.ref f))/\isFn K (.ref f)=true/\Ia K "__init__" qual st f fd T/\K.lookup T=some o/\o.data=.seq dl.toArray n/\Vals vs dl
abbrev Bdy(P:au)(w:aq)(K:ak)(mg:Str->Option aa)(base:Heap)(N:List Str)(qual:Str)(st:Stmt)(k:Nat)(t:TS):Prop:=∀(f:Addr) (cdv:aa) (A:az) (outer:List Env) (s:ae) (H:Hp) (E:XK),pW k (A.deeper (envOfC qual (oO st) s.heap.objs.size f cdv))->PSs (uN P w K mg base N qual st f cdv A outer s H E) (o9 st) t
abbrev Bds(x qual:Str)(st:Stmt)(ps:List Str):Prop:=FX ps.length λus=>∀(kV doc pm:aa) (an:Option Addr) (cdv ct:aa),bindArgs (fnOf x qual (rN st) (o9 st) (oO st) .none kV doc pm an cdv ct) ⟨us,[]⟩=pure (ps.zip us)
theorem Bds.ok{f:Addr}{fd:bb}(b:Bds x qual st ps)(F:Fun K x qual st f fd):Binds K fd ps []:=F.binds λkV doc pm an cdv ct us hl=>Ae b us hl kV doc pm an cdv ct
theorem gD{sp:Sp}(y:Yw P w mg base G)(q:GD G.K x st)(bd:Bds x x st ps)(ok:∀f fd,Fun G.K x x st f fd->se P w G.K mg base CX0 k f fd ps sp):uM P w G.K mg base k x ps sp:=by obtain⟨f,fd,a,F⟩:=q;exact⟨f,fd,y.g a,F.kp,bd.ok F,ok f fd F⟩
theorem gF{n:Nat}{g:List D->Option D}(hg:g=fnD np n b)(y:Yw P w mg base G)(q:GD G.K x st)(S:pS N ps (oO st))(body:Bdy P w G.K mg base N x st k (tFS G b))(hp:ps.length=np:=by rfl)(hN:N.length=n:=by rfl)(bd:Bds x x st ps:=by (repeat intro _);rfl):uM P w G.K mg base (k+1) x ps (spF G g):=
 gD y q bd λf fd F=>GY hg hp hN F S (body f)
theorem gN'{n:Nat}{g:List D->Option (List D)}(hg:g=fnN np n b)(y:Yw P w mg base G)(q:GD G.K x st)(S:pS N ps (oO st))(body:Bdy P w G.K mg base N x st k (tFS G b))(hp:ps.length=np:=by rfl)(hN:N.length=n:=by rfl)(bd:Bds x x st ps:=by (repeat intro _);rfl):uM P w G.K mg base (k+1) x ps (spN G g):=
 gD y q bd λf fd F=>T7 hg hp hN F S (body f)
theorem gM{n:Nat}{g:List D->List D->Option (D×List D)}{p:Str}(hg:g=fnM np n b)(y:Yw P w mg base G)(q:GD G.K x st)(S:pS N (p::ps) (oO st))(body:Bdy P w G.K mg base N x st k (tFS G b))(hp:ps.length=np:=by rfl)(hN:N.length=n:=by rfl)(bd:Bds x x st (p::ps):=by (repeat intro _);rfl):uM P w G.K mg base (k+1) x (p::ps) (spM G g):=
 gD y q bd λf fd F=>T8 hg hp hN F S (body f)
theorem gL{n:Nat}{g:List D->List D->Option (D×List D)}(hg:g=fnL np n b)(y:Yw P w mg base G)(q:GD G.K x st)(S:pS N ps (oO st))(body:Bdy P w G.K mg base N x st k (tFS G b))(hp:ps.length=np+1:=by rfl)(hN:N.length=n:=by rfl)(bd:Bds x x st ps:=by (repeat intro _);rfl):uM P w G.K mg base (k+1) x ps (spL G g):=
 gD y q bd λf fd F=>Uk hg hp hN F S (body f)
theorem gI{n:Nat}{g:List D->Option (List Str×List D)}{xs:List Str}{p:Str}(hg:g=fnI c np n b)(y:Yw P w mg base G)(C:CF G.K (G.ca c) xs)(a:nsIn G.K aK x=some (some (.ref (G.ca c))))(q:GM G.K (G.ca c) "__init__" qual st)(S:pS N (p::ps) (oO st))(body:Bdy P w G.K mg base N qual st k (tFS G b))(hp:ps.length=np:=by rfl)(hN:N.length=n:=by rfl)(bd:Bds "__init__" qual st (p::ps):=by (repeat intro _);rfl):Do G P w mg base (k+1) x c (p::ps) [] g:=by obtain⟨f,fd,i,i',F⟩:=q;exact⟨f,fd,[],⟨C.mks,i,i',C.kp⟩,y.g a,bd.ok F,.nil,T9 hg hp hN F S (body f)⟩
theorem EK(h:Vals vs us):us.length=vs.length:=by
 induction h with
 |nil=>rfl
 |cons _ _ ih=>rw[aD,aD,ih]
theorem IW(h:Vals vs us):∀j,Vals (vs.drop j) (us.drop j):=by
 induction h with
 |nil=>intro j;rw[lO,lO];exact .nil
 |cons a b ih=>
  intro j;cases j with
  |zero=>exact .cons a b
  |succ j=>exact ih j
theorem gJ{n:Nat}{g:List D->Option (List Str×List D)}{xs:List Str}{p:Str}(hg:g=fnI c np n b)(y:Yw P w mg base G)(C:CF G.K (G.ca c) xs)(a:nsIn G.K aK x=some (some (.ref (G.ca c))))(q:GJ G.K (G.ca c) qual st vs)(S:pS N (p::ps) (oO st))(body:Bdy P w G.K mg base N qual st k (tFS G b))(j:Nat)(hp:ps.length=np:=by rfl)(hN:N.length=n:=by rfl)
  (bd:FX vs.length λdl=>FX ((p::ps).length - (vs.drop j).length) λus=>∀(T:Addr) (kV doc pm:aa) (an:Option Addr) (cdv ct:aa),∃k,bindArgs (fnOf "__init__" qual (rN st) (o9 st) (oO st) (.ref T) kV doc pm an cdv ct) ⟨us,[]⟩=seqItems? (.ref T)>>=k/\k (some dl.toArray)=pure ((p::ps).zip (us++dl.drop j)):=by (repeat intro _);exact⟨_,rfl,rfl⟩):Do G P w mg base (k+1) x c (p::ps) (vs.drop j) g:=by
 obtain⟨f,fd,T,o,dl,n,i,i',F,l,e,r⟩:=q;refine⟨f,fd,dl.drop j,⟨C.mks,i,i',C.kp⟩,y.g a,F.binds l e λkV doc pm an cdv ct us hl=>?_,IW r j,Qu hg hp hN F S (body f)⟩;exact Ae (Ae bd dl (EK r)) us (by rw[hl,cv,cv,EK r]) T kV doc pm an cdv ct
end
end L4
namespace L4
open PySem PySem.Spec PyProof.Rows L2 L3
section
variable{P:au}{w:aq}{mg:Str->Option aa}{base:Heap}{G:Bg}{x m qual:Str}{st:Stmt}{N ps:List Str}{k c:Nat}
abbrev Bdi(P:au)(w:aq)(K:ak)(mg:Str->Option aa)(base:Heap)(N:List Str)(qual:Str)(st:Stmt)(k:Nat)(t:TS):Prop:=∀{f:Addr} {cdv:aa} {A:az} {outer:List Env} {s:ae} {H:Hp} {E:XK},pW k (A.deeper (envOfC qual (oO st) s.heap.objs.size f cdv))->PSs (uN P w K mg base N qual st f cdv A outer s H E) (o9 st) t
end
end L4
namespace L4
open PySem PySem.Spec PySem.Calls PyProof.Rows PySem.W L2 L3
structure Sto(c:Nat->Nat->Bool)(n:Nat):Prop where
 tr:∀i j k,i<n->j<n->k<n->c i j=true->c j k=true->c i k=true
 tot:∀i j,i<n->j<n->i≠j->c i j=false->c j i=true
end L4
namespace L4
open PySem PySem.Spec PyProof.Rows L2 L3
variable{i:Nat}{Q:aa->ae->Prop}{i1 i2:Addr}{ys:Array aa}
section
variable{prog:au}{w:aq}{A:az}{E:aa->ae->Prop}{s:ae}
theorem FY{j t:Addr}{xs:Array aa}{x:aa}(hj:s.heap.IsTupleIter j t i)(ht:s.heap.IsTuple t xs)(hx:xs[i]?=some x)
  (q:∀g,g.IsTupleIter j t (i+1)->dG j s.heap g->Q x { s with heap:=g }):af (model prog w) A (dj (.ref j)) Q E s:=by
 obtain⟨ob,h0,hc,hd⟩:=id hj;obtain⟨ot,t0,_,nt,td⟩:=ht;unfold dj;refine ag (fT (name:=gR "__next__") hj.typeIs fQ (dX fQ hj.typeIs jq ?_ (jn _)));show af _ _ (field (.ref j) 0>>=_) _ _ _;refine ag (b0 h0 hd (x:=.ref t) rfl ?_);show af _ _ (if (Value.ref t==Value.none)=true then _ else _) _ _ _;rw[ai (show ¬((Value.ref t==.none)=true) from aP)];show af _ _ (field (.ref j) 1>>=_) _ _ _;refine ag (b0 h0 hd (x:=.int i 0) rfl ?_);show af _ _ (seqItems? (.ref t)>>=_) _ _ _;refine ag (cP t0 td ?_);simp only[dS,hx];refine ag (ly h0 hd (by simp) (aw ⟨x,rfl,aw (q _ ?_ (fZ ..))⟩));exact⟨_,jK _ h0 (Obj.isFreed_of_fields (j3 hd _)),(Obj.cls_mapFields ..).trans hc,by rw[j3 hd];simp[rawInt]⟩
theorem IY{j t:Addr}{xs:Array aa}(hh:A.handled=none)(hj:s.heap.IsTupleIter j t i)(ht:s.heap.IsTuple t xs)(hx:xs[i]?=none)
  (q:∀g e,Heap.ExtBut j s.heap g->(∃o,g.get? e=some o/\o.cls=.type "StopIteration")->E (.ref e) { s with heap:=g }):af (model prog w) A (dj (.ref j)) Q E s:=by
 obtain⟨ob,h0,hc,hd⟩:=id hj;obtain⟨ot,t0,_,nt,td⟩:=ht;unfold dj;refine ag (fT (name:=gR "__next__") hj.typeIs fQ (dX fQ hj.typeIs jq ?_ (jn _)));show af _ _ (field (.ref j) 0>>=_) _ _ _;refine ag (b0 h0 hd (x:=.ref t) rfl ?_);show af _ _ (if (Value.ref t==Value.none)=true then _ else _) _ _ _;rw[ai (show ¬((Value.ref t==.none)=true) from aP)];show af _ _ (field (.ref j) 1>>=_) _ _ _;refine ag (b0 h0 hd (x:=.int i 0) rfl ?_);show af _ _ (seqItems? (.ref t)>>=_) _ _ _;refine ag (cP t0 td ?_);simp only[dS,hx];refine ag (jh (ag (ly h0 hd (by simp) ?_)));show af _ _ (newExc (.type "StopIteration") []>>=_) _ _ _;refine ag ?_;simp only[newExc,newTuple];refine ag (iz ?_ (by size_fits));refine ag (m:=firstArgMember _ _) (wpAny_of_eq (a:=Value.none) (by first|rfl|(simp only[firstArgMember];rfl)) ?_);refine iz ?_ (by size_fits);simp only[raiseNew];refine ag (wpAny_handled ?_)
 first|rw[show A.in1.handled=none from hh]|rw[hh]
 refine ag (aw (wpAny_throw ?_));exact q _ _ (((fZ ..).extBut.push _).push _) ⟨_,aS _ rfl,rfl⟩
theorem FZ{z TI TO t l:Addr}{k:Nat}{xs:Array aa}{x y a b:aa}(D:dg z TI TO i1 i2 t l)(hz:bI s.heap z TI TO .none)(hTI:bc s.heap TI (.ref i1) (.ref i2))(hTO:bc s.heap TO a b)(h1:s.heap.IsTupleIter i1 t k)(h2:s.heap.IsListIter i2 l k)(ht:s.heap.IsTuple t xs)(hl:s.heap.IsList l ys)(hx:xs[k]?=some x)(hy:ys[k]?=some y)
  (q:∀g,bI g z TI TO (rawInt s.heap.objs.size)->bc g TO x y->g.IsTupleIter i1 t (k+1)->g.IsListIter i2 l (k+1)->bc g s.heap.objs.size x y->g.objs.size=s.heap.objs.size+1->(∀c o,c≠z->c≠TO->c≠i1->c≠i2->s.heap.get? c=some o->g.get? c=some o)->Q (.ref s.heap.objs.size) { s with heap:=g }):
  af (model prog w) A (cH.«zip.__next__» ⟨[.ref z],[]⟩) (λfin s'=>∃v,fin=.done (.ret v)/\Q v s') E s:=by
 show af _ _ (field (.ref z) 2>>=_) _ _ s;refine ag (b0 hz rfl (x:=.bool false) rfl ?_);show af _ _ (field (.ref z) 3>>=_) _ _ s;refine ag (b0 hz rfl (x:=.ref TI) rfl (ag (cP hTI rfl ?_)));show af _ _ (fP (.ref z)>>=_) _ _ s;refine ag ?_;unfold fP;refine ag (b0 hz rfl (x:=.none) rfl (aw ?_));simp only[if_true];refine ag (jh (ag (b0 hz rfl (x:=.ref TO) rfl (ag (eQ hz (by simp) λga za ka=>?_)))));replace za:bI ga z TI TO .ellipsis:=za;refine ag ?_;simp only[kH,kY,iA,lC];refine ag (ag (iH ?_));show af _ _ (dj (.ref i1)>>=_) _ _ { s with heap:=ga };refine ag (FY (h1.extBut ka.extBut D.i1z) (ht.extBut ka.extBut D.l1z) hx λgb jb kb=>aw ?_);have tb:bc gb TO a b:=kb.extBut _ _ D.TOi1 (ka.extBut _ _ D.TOz hTO);refine ag (cP tb rfl (ag (jN tb λgc tc kc=>?_)));replace tc:bc gc TO x b:=tc;refine ag (wpAny_letGo (aw (ag (ag (iH ?_)))));show af _ _ (dj (.ref i2)>>=_) _ _ { s with heap:=gc };refine ag (wpAny_nextOf_list_item (((h2.extBut ka.extBut D.i2z).extBut kb.extBut D.i12.symm).extBut kc.extBut D.TOi2.symm) (((hl.extBut ka.extBut D.l2z).extBut kb.extBut D.l2i1).extBut kc.extBut D.l2TO) hy λgd jd kd=>aw ?_);have td:bc gd TO x b:=kd.extBut _ _ D.TOi2 tc;refine ag (cP td rfl (ag (jN td λge te ke=>?_)));replace te:bc ge TO x y:=te;refine ag (wpAny_letGo (aw (aw (ag (cP te rfl (ag (lu ?_)))))));have sz:ge.objs.size=s.heap.objs.size:=by rw[ke.1,kd.1,kc.1,kb.1,ka.1]
 have ze:bI ge z TI TO .ellipsis:=ke.extBut _ _ D.TOz.symm (kd.extBut _ _ D.i2z.symm (kc.extBut _ _ D.TOz.symm (kb.extBut _ _ D.i1z.symm za)));have kk:∀c o,c≠z->c≠TO->c≠i1->c≠i2->s.heap.get? c=some o->ge.get? c=some o:=λc o c1 c2 c3 c4 e=>ke.extBut _ _ c2 (kd.extBut _ _ c4 (kc.extBut _ _ c2 (kb.extBut _ _ c3 (ka.extBut _ _ c1 e))));have j1:ge.IsTupleIter i1 t (k+1):=((jb.extBut kc.extBut D.TOi1.symm).extBut kd.extBut D.i12).extBut ke.extBut D.TOi1.symm;have j2:ge.IsListIter i2 l (k+1):=jd.extBut ke.extBut D.TOi2.symm;have zl:z<ge.objs.size:=aF ze;show af _ _ (jl (.ref z) (.ref ge.objs.size)>>=_) _ _ _;refine ag ?_;unfold jl;have zf:bI (ge.push { cls:=.type "tuple", data:=.seq #[x,y] }) z TI TO .ellipsis:=aB _ ze;refine ag (eQ zf (by simp) λgg zg kg=>?_);replace zg:bI gg z TI TO (rawInt ge.objs.size):=zg;refine eQ zg (by simp) λgh zh kh=>?_;replace zh:bI gh z TI TO (rawInt ge.objs.size):=zh;have up:∀c o,c≠z->ge.get? c=some o->gh.get? c=some o:=λc o c1 e=>kh.extBut _ _ c1 (kg.extBut _ _ c1 (aB _ e));have tp:bc gh ge.objs.size x y:=kh.extBut _ _ (fE zl) (kg.extBut _ _ (fE zl) (aS _ rfl));have sh:gh.objs.size=ge.objs.size+1:=by rw[kh.1,kg.1,cf]
 rw[sz]at zh tp sh;refine aw ⟨_,rfl,?_⟩;show Q (.ref ge.objs.size) { s with heap:=gh };rw[sz];obtain⟨o1,e1,r1⟩:=j1;exact q gh zh (up _ _ D.TOz te) ⟨o1,up _ _ D.i1z e1,r1⟩ (j2.at λo e=>up _ o D.i2z e) tp sh λc o c1 c2 c3 c4 e=>up c o c1 (kk c o c1 c2 c3 c4 e)
theorem IZ{z TI TO t l:Addr}{k:Nat}{xs:Array aa}{Q:mq->ae->Prop}(hh:A.handled=none)(D:dg z TI TO i1 i2 t l)(hz:bI s.heap z TI TO .none)(hTI:bc s.heap TI (.ref i1) (.ref i2))(h1:s.heap.IsTupleIter i1 t k)(ht:s.heap.IsTuple t xs)(hx:xs[k]?=none)
  (q:∀g e,(∀c o,c≠z->c≠i1->s.heap.get? c=some o->g.get? c=some o)->(∃o,g.get? e=some o/\o.cls=.type "StopIteration")->E (.ref e) { s with heap:=g }):af (model prog w) A (cH.«zip.__next__» ⟨[.ref z],[]⟩) Q E s:=by
 show af _ _ (field (.ref z) 2>>=_) _ _ s;refine ag (b0 hz rfl (x:=.bool false) rfl ?_);show af _ _ (field (.ref z) 3>>=_) _ _ s;refine ag (b0 hz rfl (x:=.ref TI) rfl (ag (cP hTI rfl ?_)));show af _ _ (fP (.ref z)>>=_) _ _ s;refine ag ?_;unfold fP;refine ag (b0 hz rfl (x:=.none) rfl (aw ?_));simp only[if_true];refine ag (jh (ag (b0 hz rfl (x:=.ref TO) rfl (ag (eQ hz (by simp) λga za ka=>?_)))));replace za:bI ga z TI TO .ellipsis:=za;refine ag ?_;simp only[kH,kY,iA,lC];refine ag (ag (iH ?_));show af _ _ (dj (.ref i1)>>=_) _ _ { s with heap:=ga };refine ag (IY hh (h1.extBut ka.extBut D.i1z) (ht.extBut ka.extBut D.l1z) hx λgb e kb he=>?_);obtain⟨oe,he1,he2⟩:=he;have zb:bI gb z TI TO .ellipsis:=kb _ _ D.i1z.symm za;have ne:e≠z:=λw=>by subst w;rw[zb]at he1;cases he1;simp at he2
 exact eQ zb (by simp) λgc _ kc=>q gc e (λc o c1 c3 w=>kc.extBut _ _ c1 (kb _ _ c3 (ka.extBut _ _ c1 w))) ⟨oe,kc.extBut _ _ ne he1,he2⟩
theorem F0{z TI TO t l:Addr}{k:Nat}{xs:Array aa}{x y a b:aa}{Q:Option aa->ae->Prop}(D:dg z TI TO i1 i2 t l)(hz:bI s.heap z TI TO .none)(hTI:bc s.heap TI (.ref i1) (.ref i2))(hTO:bc s.heap TO a b)(h1:s.heap.IsTupleIter i1 t k)(h2:s.heap.IsListIter i2 l k)(ht:s.heap.IsTuple t xs)(hl:s.heap.IsList l ys)(hx:xs[k]?=some x)(hy:ys[k]?=some y)
  (q:∀g,bI g z TI TO (rawInt s.heap.objs.size)->bc g TO x y->g.IsTupleIter i1 t (k+1)->g.IsListIter i2 l (k+1)->bc g s.heap.objs.size x y->g.objs.size=s.heap.objs.size+1->(∀c o,c≠z->c≠TO->c≠i1->c≠i2->s.heap.get? c=some o->g.get? c=some o)->Q (some (.ref s.heap.objs.size)) { s with heap:=g }):
  af (model prog w) A (pyNext (.ref z)) Q E s:=by
 have T:s.TypeIs (.ref z) "zip" := ⟨_,hz,rfl⟩;unfold pyNext;exact ag (lP (fT (name:=gR "__next__") T gB (dX gB T kI (FZ D hz hTI hTO h1 h2 ht hl hx hy λg a1 a2 a3 a4 a5 a6 a7=>aw (q g a1 a2 a3 a4 a5 a6 a7)) (kr _))))
theorem I0{z TI TO t l:Addr}{k:Nat}{xs:Array aa}{Q:Option aa->ae->Prop}(hh:A.handled=none)(D:dg z TI TO i1 i2 t l)(hz:bI s.heap z TI TO .none)(hTI:bc s.heap TI (.ref i1) (.ref i2))(h1:s.heap.IsTupleIter i1 t k)(ht:s.heap.IsTuple t xs)(hx:xs[k]?=none)
  (q:∀g,(∀c o,c≠z->c≠i1->s.heap.get? c=some o->g.get? c=some o)->Q none { s with heap:=g }):af (model prog w) A (pyNext (.ref z)) Q E s:=by
 have T:s.TypeIs (.ref z) "zip" := ⟨_,hz,rfl⟩;unfold pyNext;refine ag (lP (fT (name:=gR "__next__") T gB (dX gB T kI (IZ hh D hz hTI h1 ht hx λg e kk he=>?_) (kr _))));obtain⟨o,e1,e2⟩:=he;exact ag (wpAny_isInstance (T:="StopIteration") (b:=true) ⟨o,e1,e2⟩ isSubtype_stop (aw (q _ kk)))
end
abbrev zq1(h:Heap)(t:Addr):Heap:=h.push { cls:=.type "tuple_iterator", data:=.fields #[.ref t,.int 0 0] }
abbrev zq2(h:Heap)(t l:Addr):Heap:=(zq1 h t).push { cls:=.type "list_iterator", data:=.fields #[.ref l,.int 0 0] }
abbrev zq3(h:Heap)(t l:Addr):Heap:=(zq2 h t l).push { cls:=.type "tuple", data:=.seq #[.ref h.objs.size,.ref (zq1 h t).objs.size] }
abbrev zq4(h:Heap)(t l:Addr):Heap:=(zq3 h t l).push { cls:=.type "tuple", data:=.seq #[.none,.none] }
abbrev zq5(h:Heap)(t l:Addr):Heap:=(zq4 h t l).push { cls:=.type "zip", data:=.fields #[.none,.bool false,.bool false,.ref (zq2 h t l).objs.size,.ref (zq3 h t l).objs.size] }
theorem Ja(t l:Addr)(xs ys:Array aa):Meets (cH.«zip.__new__» ⟨[.type "zip", .ref t,.ref l],[]⟩) (λ_ R s=>s.heap.IsTuple t xs/\s.heap.IsList l ys/\R (.ok (.ret (.ref (zq4 s.heap t l).objs.size))) { s with heap:=zq5 s.heap t l }):=
 .of_wp λprog w A R s h=>by
  obtain⟨hp,g,d,tk,os⟩:=s;obtain⟨ht,hl,h⟩:=h;have hs:=sub_zip;have H1:Heap.IsTuple (me ⟨hp,g,d,tk,os⟩) t xs:=ht;have H2:Heap.IsList (me ⟨hp.push { cls:=.type "tuple_iterator", data:=.fields #[.ref t,.int 0 0] },g,d,tk,os⟩) l ys:=om hl _
  wp_walk using ir H1,dR H2
  exact⟨_,rfl,h⟩
section
variable{prog:au}{w:aq}{A:az}{E:aa->ae->Prop}{s:ae}
theorem F1{t l:Addr}{xs:Array aa}(ht:s.heap.IsTuple t xs)(hl:s.heap.IsList l ys)
  (q:∀g,bI g (s.heap.objs.size+4) (s.heap.objs.size+2) (s.heap.objs.size+3) .none->bc g (s.heap.objs.size+2) (.ref s.heap.objs.size) (.ref (s.heap.objs.size+1))->bc g (s.heap.objs.size+3) .none .none->g.IsTupleIter s.heap.objs.size t 0->g.IsListIter (s.heap.objs.size+1) l 0->(∀c o,s.heap.get? c=some o->g.get? c=some o)->Q (.ref (s.heap.objs.size+4)) { s with heap:=g }):
  af (model prog w) A (call (.type "zip") [.ref t,.ref l]) Q E s:=by
 refine callType_new F.called_zip (by decide) (F.typeCall_zip_2 _ _) (F.newCall_zip_2 _ _) (λobj=>F.args_object_init_3 obj _ _) F.entry_zip_new (Ja t l xs ys) ⟨ht,hl,?_⟩;have s1:(zq1 s.heap t).objs.size=s.heap.objs.size+1:=cf ..;have s2:(zq2 s.heap t l).objs.size=s.heap.objs.size+2:=by rw[cf,s1]
 have s3:(zq3 s.heap t l).objs.size=s.heap.objs.size+3:=by rw[cf,s2]
 have s4:(zq4 s.heap t l).objs.size=s.heap.objs.size+4:=by rw[cf,s3]
 have u5:(zq5 s.heap t l).get? (zq4 s.heap t l).objs.size=some _:=aS _ rfl;have u4:(zq5 s.heap t l).get? (zq3 s.heap t l).objs.size=some _:=aB _ (aS _ rfl);have u3:(zq5 s.heap t l).get? (zq2 s.heap t l).objs.size=some _:=aB _ (aB _ (aS _ rfl));have u2:(zq5 s.heap t l).get? (zq1 s.heap t).objs.size=some _:=aB _ (aB _ (aB _ (aS _ rfl)));have u1:(zq5 s.heap t l).get? s.heap.objs.size=some _:=aB _ (aB _ (aB _ (aB _ (aS _ rfl))));show _/\_;rw[s2,s3,s4]at u5;rw[s1,s2]at u3;rw[s3]at u4;rw[s1]at u2;rw[s4];exact⟨⟨_,u5,rfl⟩,q _ u5 u3 u4 ⟨_,u1,rfl,rfl⟩ ⟨_,u2,rfl,rfl⟩ λc o e=>aB _ (aB _ (aB _ (aB _ (aB _ e))))⟩
end
def Ul(K:ak)(t l:Addr)(xs ys:List V):It:=
 ⟨λi H=>∃x y,SqT K H t xs/\H l=some (.lst ys)/\xs[i]?=some x/\ys[i]?=some y,
  λi H v H'=>∃p x y,H p=none/\v=.ref p/\H'=upd H p (.tup [x,y])/\xs[i]?=some x/\ys[i]?=some y,
  λi H=>SqT K H t xs/\H l=some (.lst ys)/\xs.length<=i⟩
def zTt(z TI TO i1 i2 t l:Addr)(i:Nat)(h:Heap):Prop:=bI h z TI TO .none/\bc h TI (.ref i1) (.ref i2)/\(∃a b,bc h TO a b)/\h.IsTupleIter i1 t i/\h.IsListIter i2 l i
variable{pos:Pos}
theorem Jb{P:au}{w:aq}{K:ak}{elts:List Expr}{x1}{z TI TO t l:Addr}{xs ys:List V}(D:dg z TI TO i1 i2 t l):Turn P w K (.Tuple elts x1 pos) (Ul K t l xs ys) [z,TI,TO,i1,i2] z (zTt z TI TO i1 i2 t l) where
 mem:=by simp
 obj:=λi h st b hb=>by
  obtain⟨hz,h1,⟨a,c,h2⟩,⟨o3,h3,_,d3⟩,⟨o4,h4,_,d4⟩⟩:=st;simp only[aJ,bw,or_false]at hb;rcases hb with rfl|rfl|rfl|rfl|rfl
  ·exact⟨_,hz,λv y=>nomatch y⟩
  ·exact⟨_,h1,λv y=>nomatch y⟩
  ·exact⟨_,h2,λv y=>nomatch y⟩
  ·exact⟨o3,h3,λv y=>by rw[d3]at y;cases y⟩
  ·exact⟨o4,h4,λv y=>by rw[d4]at y;cases y⟩
 keep:=λi h h' st k=>by obtain⟨hz,h1,⟨a,c,h2⟩,⟨o3,h3,r3⟩,h4⟩:=st;exact⟨k z (by simp) _ hz,k TI (by simp) _ h1,⟨a,c,k TO (by simp) _ h2⟩,⟨o3,k i1 (by simp) o3 h3,r3⟩,h4.at λo e=>k i2 (by simp) o e⟩
 item:=by
  intro X hP hw hK hc i pins s σ H E I hf st hg;subst hP hw hK;obtain⟨x,y,q1,q2,qx,qy⟩:=hg;obtain⟨hz,hTI,⟨a,b,hTO⟩,h1,h2⟩:=st;obtain⟨its,r1,p1,_⟩:=I.tuple q1;obtain⟨jts,r2,p2,_⟩:=I.list (SqL.of q2);obtain⟨u1,hu1,ru1⟩:=r1.get qx;obtain⟨u2,hu2,ru2⟩:=r2.get qy;have lt:∀{c:Addr} {o:Obj},s.heap.get? c=some o->s.heap.objs.size≠c:=λe w=>ao (aF e) (by rw[w];exact cg _);refine F0 D hz hTI hTO h1 h2 p1 p2.isList (x:=u1) (y:=u2) (by simpa using hu1) (by simpa using hu2) λh' a1 a2 a3 a4 a5 a6 kk=>?_;refine⟨_,rfl,jv (s:={ s with heap:=h' }) a1 λh2' hz' sb=>?_⟩;have Tz:s.heap.objs.size≠z:=lt hz;have hp:bc h2' s.heap.objs.size u1 u2:=sb.extBut _ _ Tz a5;have ch4:∀b∈[z,TO,i1,i2],b∈[z,TI,TO,i1,i2]:=λb hb=>by simp at hb ⊢;rcases hb with rfl|rfl|rfl|rfl<;>simp
  have ok:ObjOk X.prog X.w (upd H s.heap.objs.size (.tup [x,y])) h2' s.heap.objs.size (.tup [x,y]):=⟨by rw[bh];show 2<=16777216;decide,[u1,u2],.cons ru1 (.cons ru2 .nil),_,hp,rfl,_,rfl⟩;have I1:=Inv.turnedLaid (h':=h2') (t':=s.toks) (T:=s.heap.objs.size) (xs:=[x,y]) (ch:=[z,TO,i1,i2]) I (λb hb=>hf b (ch4 b hb))
   (λb o hb e=>sb.extBut _ _ (λw=>hb (by simp[w])) (kk b o (λw=>hb (by simp[w])) (λw=>hb (by simp[w])) (λw=>hb (by simp[w])) (λw=>hb (by simp[w])) e)) (aA _) ok
  have DD:=D;refine⟨.ref s.heap.objs.size,_,I1,rfl,⟨_,x,y,I.hok.fresh (aA _),rfl,rfl,qx,qy⟩,⟨hz',sb.extBut _ _ D.TIz (kk _ _ D.TIz D.TITO D.TIi1 D.TIi2 hTI),⟨_,_,sb.extBut _ _ D.TOz a2⟩,a3.extBut sb.extBut D.i1z,a4.extBut sb.extBut D.i2z⟩,λb hb=>?_⟩;rw[oF (λw=>?_)]
  ·exact(hf b hb).1
  ·simp only[aJ,bw,or_false]at hb;rcases hb with hb|hb|hb|hb|hb
   ·exact lt hz (w.symm.trans hb)
   ·exact lt hTI (w.symm.trans hb)
   ·exact lt hTO (w.symm.trans hb)
   ·obtain⟨o,e,_⟩:=h1;exact lt e (w.symm.trans hb)
   ·obtain⟨o,e,_⟩:=h2;exact lt e (w.symm.trans hb)
 done:=by
  intro X hP hw hK hc i pins s σ H E I hf st hg;subst hP hw hK;obtain⟨q1,q2,hend⟩:=hg;obtain⟨hz,hTI,⟨a,b,hTO⟩,h1,h2⟩:=st;obtain⟨its,r1,p1,_⟩:=I.tuple q1;have e1:=r1.length;refine I0 (I.ok.hd hc) D hz hTI h1 p1 (by simp;omega) λh' kk=>⟨rfl,?_⟩;have ch4:∀b∈[z,i1],b∈[z,TI,TO,i1,i2]:=λb hb=>by simp at hb ⊢;rcases hb with rfl|rfl<;>simp
  have nch:∀{b:Addr} {u:HO},H b=some u->b∉[z,i1]:=λe w=>by have:=(hf _ (ch4 _ w)).1;rw[e]at this;cases this
  have k:∀b o,b∉[z,i1]->s.heap.get? b=some o->h'.get? b=some o:=λb o hb e=>kk b o (λw=>hb (by simp[w])) (λw=>hb (by simp[w])) e;refine I.step (g':=s.gens) (d':=s.drawn) (t':=s.toks) (ch:=[z,i1]) (λb hb=>?_) (λb o _ _ hc e _=>k b o hc e) (λb o _ _ hc e _=>⟨o.slots,k b o hc e⟩) (λb o _ e n=>n) (λb o hc e=>⟨o,k b o hc e⟩)
   (λb ys e=>e) (λb o u e=>e) (λb ps e=>⟨#[],by rw[e];simp⟩) (λm hm=>?_) (λb u e=>?_) I.bare
  ·obtain⟨f0,f1,f2,f3,f4,f5⟩:=hf b (ch4 b hb);exact⟨f3,f1,f4,f5⟩
  ·exact hm.at' λo e=>k _ o (λw=>(hf _ (ch4 _ w)).2.1 rfl) e
  ·refine(I.hok b u e).stay (λc v hc q=>k c v ?_ q) (λc q=>q) λc ys q=>q;rcases hc with rfl|hc
   ·exact nch e
   ·exact nch hc
 self:=λ_ _ _ _ _ st h=>gw st.1 h
section
variable{X:Cx}{G:Bg}{elts:List Expr}{x1:Nat}{tpos:Pos}
def OY(K:ak)(ta:TA):TI:=λσ H R=>ta σ H λvs H1=>∃a b xs ys,vs=[.ref a,.ref b]/\SqT K H1 a xs/\H1 b=some (.lst ys)/\R (Ul K a b xs ys) H1
theorem N4(K:ak){a b:Expr}{ta:TA}{p:Pos}(hg:Gl X "zip")(hm:X.mg "zip" = none)(ha:PA X [a,b] ta)(hK:X.K=K:=by rfl)(hs:ar [a,b] X.env=[(false,eval a X.env),(false,eval b X.env)]:=by rfl)(hs2:ar [b] X.env=[(false,eval b X.env)]:=by rfl):
  PI X (.Tuple elts x1 tpos) (.Call (.Name "zip" p) [a,b] [] pos) (OY K ta):=by
 subst hK;intro pins s σ H R I h;refine Call_ (vY I hg hm boot_zip (callWith_type1 (thn (ha pos pins s σ H _ I h) λus s1 zz=>?_) (by rw[hs,hs2]) (by rw[hs2];rfl)));obtain⟨vs,H1,I1,r1,q1⟩:=zz;obtain⟨a',b',xs,ys,rfl,e1,e2,q⟩:=q1;obtain⟨u,v,rfl,ru,rv⟩:=vals2 r1;cases ru;cases rv;obtain⟨its,_,p1,_⟩:=I1.tuple e1;obtain⟨jts,_,p2,_⟩:=I1.list (SqL.of e2);refine F1 p1 p2.isList λh' z1 z2 z3 z4 z5 kk=>?_;refine gw z1 ?_;have I2:Inv X pins σ H1 { s1 with heap:=h' }:=I1.kept (t':=s1.toks) kk;have D0:=KQ s1.heap.objs.size;have la:a'<s1.heap.objs.size:=by obtain⟨o,e,_⟩:=p1;exact aF e
 have lb:b'<s1.heap.objs.size:=by obtain⟨o,e,_⟩:=p2.isList;exact aF e
 have ne:∀{c:Addr} (n:Nat),c<s1.heap.objs.size->c≠s1.heap.objs.size+n:=λn h=>aO (bD h (dv _ _));have D:dg (s1.heap.objs.size+4) (s1.heap.objs.size+2) (s1.heap.objs.size+3) s1.heap.objs.size (s1.heap.objs.size+1) a' b':=⟨D0.a,D0.b,D0.c,D0.d,D0.e,D0.f,D0.g,D0.h,D0.i,D0.j,ne 4 la,ne 3 la,ne 0 la,ne 1 la,ne 4 lb,ne 3 lb,ne 0 lb,ne 1 lb⟩;refine⟨_,_,_,_,H1,rfl,I2,Jb D,⟨z1,z2,⟨_,_,z3⟩,z4,z5⟩,λc hc=>?_,q⟩;have hc':s1.heap.objs.size<=c:=by simp only[aJ,bw,or_false]at hc;rcases hc with rfl|rfl|rfl|rfl|rfl<;>first|exact dv _ _|exact aA _
 exact I1.fpOk hc' (I1.hok.fresh hc')
def iZT(f:FA):FA:=λρ=>match f ρ with
 |some ([.tup ds,.lst es],ρ1)=>if ds.length<=es.length then some (vW ds es,ρ1)else none
 |_=>none
theorem Lg{tg e:Expr}{f:FA}(h:PI X tg e (OY G.K (tFA G f))):PI X tg e (tFI G (iZT f)):=PI.weak h λσ H R hh=>by
 obtain⟨F,ρ,H0,ds,ρ',R,e,k⟩:=hh;unfold iZT at e;split at e
 ·rename_i ds' es' ρ1 e1;split at e
  ·rename_i hle;cases e;refine⟨F,ρ,H0,_,_,R,e1,λvs H1 H1' s R' rs=>?_⟩;unfold Reps at rs;obtain⟨v1,r1,rfl,h1,rs⟩:=rs;unfold Reps at rs;obtain⟨v2,r2,rfl,h2,rs⟩:=rs;unfold Reps at rs;subst rs;unfold Rep at h1 h2;obtain⟨a,xs,rfl,a1,a2⟩:=h1;obtain⟨b,ys,rfl,b1,b2⟩:=h2;refine⟨a,b,xs,ys,rfl,SqT.mono R'.sub a1,R'.sub _ _ b1,k _ _ _ s R' λi H2 H2' t t'=>?_⟩;have g1:SqT G.K H2' a xs:=SqT.mono t' (SqT.mono t a1);have g2:H2' b=some (.lst ys):=t' _ _ (t _ _ b1);refine⟨λd ed=>?_,λhl=>⟨g1,g2,?_⟩⟩
   ·unfold vW at ed;rw[fV]at ed;cases ex:ds'[i]? with
    |none=>rw[ex]at ed;cases ed
    |some dx=>
     cases ey:es'[i]? with
     |none=>rw[ex,ey]at ed;cases ed
     |some dy=>
      rw[ex,ey]at ed;cases ed;obtain⟨vx,x1',x2⟩:=p5 a2 ex;obtain⟨vy,y1',y2⟩:=p5 b2 ey;refine⟨⟨vx,vy,g1,g2,x1',y1'⟩,λx H3 y=>?_⟩;obtain⟨p,x',y',hp,rfl,rfl,e1',e2'⟩:=y;rw[x1']at e1';rw[y1']at e2';cases e1';cases e2';have p0:H2 p=none:=by
       cases q:H2 p with
       |none=>rfl
       |some o=>have:=t' _ _ q;rw[hp]at this;cases this
      refine⟨upd H2 p (.tup [vx,vy]),oP p0 _,λb o e=>?_,oP hp _,λb o e=>?_,vd (SqT.of oH) ?_⟩
      ·by_cases hb:b=p
       ·subst hb;rw[oH]at e ⊢;exact e
       ·rw[oF hb]at e ⊢;exact t' _ _ e
      ·by_cases hb:b=p
       ·subst hb;exact .inr hp
       ·rw[oF hb]at e;exact .inl e
      ·have m:=t.trans (oP p0 (.tup [vx,vy]));exact o6 (Rep.mono m _ _ x2) (o6 (Rep.mono m _ _ y2) o7)
   ·have:=oG a2;rw[AS]at hl;omega
  ·cases e
 ·cases e
end
end L4
namespace L4
open PySem PySem.Spec PySem.Calls PyProof.Rows PySem.W L2 L3
variable{y:V}
section
variable{X:Cx}{G:Bg}{pins:List (Addr×Obj)}{σ:St}{H:Hp}{s:ae}
def BP(K:ak)(H:Hp)(y:V)(k:List Str):Prop:=∃a p q,y=.ref a/\k=[p,q]/\SqT K H a [.str p,.str q]
theorem Lh(I:Inv X pins σ H s){k:List Str}{u:aa}(h:BP X.K H y k)(r:RelV y u):∃a p q t v,u=.ref a/\k=[p,q]/\cI s.heap a #[.str p t,.str q v]:=by
 obtain⟨a,p,q,rfl,rfl,h1⟩:=h;cases r;obtain⟨its,ri,ti,_⟩:=I.tuple h1;cases ri with
 |cons q1 q2=>
  obtain⟨t,rfl⟩:=q1;cases q2 with
  |cons q3 q4=>obtain⟨v,rfl⟩:=q3;cases q4;exact⟨a,p,q,t,v,rfl,rfl,ti⟩
end
variable{its:List aa}
section
variable{prog:au}{w:aq}{A:az}{s:ae}
def It2(h:Heap)(its:List aa)(ks:List (List Str)):Prop:=∀i,i<its.length->∃a p q t v,its.getD i Value.none=.ref a/\ks.getD i []=[p,q]/\cI h a #[.str p t,.str q v]/\its[i]?=some (.ref a)
theorem Jc{ks:List (List Str)}{C:fI->ae->Prop}(item:It2 s.heap its ks)(h1:0<its.length)(hC:C (tuples' true) s):af (model prog w) A (keyKind' its.toArray) C (λ_ _=>False) s:=by
 have tups:∀(l:List aa),(∀v∈l,∃i,i<its.length/\its[i]?=some v)->∃fs,KatTups s.heap l fs/\fs.length=l.length/\∀f∈fs,∃(x:Str) (t:Tok),f=.str x t:=λl=>by
  induction l with
  |nil=>exact λ_=>⟨[],md,rfl,λf hf=>by cases hf⟩
  |cons v l ih=>
   intro hv;obtain⟨fs,f1,f2,f3⟩:=ih λw hw=>hv w (.tail _ hw);obtain⟨i,hi,ei⟩:=hv v (.head _);obtain⟨a,p,q,t,w,_,_,⟨o,t1,t2,n,t3⟩,t5⟩:=item i hi;rw[ei]at t5;cases t5;refine⟨.str p t::fs,lZ t1 t2 t3 (by simp) f1,by rw[aD,aD,f2],λf hf=>?_⟩;rcases aJ.mp hf with rfl|hf
   ·exact⟨p,t,rfl⟩
   ·exact f3 f hf
 obtain⟨fs,f1,f2,f3⟩:=tups its λv hv=>by obtain⟨i,hi,e⟩:=fX.mp hv;exact⟨i,hi,by rw[aH hi,e]⟩
 refine kat_kind (T:=.type "str") f1 (by omega) (λv hv=>?_) (by decide) ?_
 ·obtain⟨x,t,rfl⟩:=f3 v hv;exact .now
 ·rw[show (Value.type "str" != Value.type "tuple")=true by decide];exact hC
theorem Li{ks:List (List Str)}{i j:Nat}{C:Bool->ae->Prop}(item:It2 s.heap its ks)(hij:i<its.length/\j<its.length)(hC:C (r6 (ks.getD i []) (ks.getD j [])) s):fN prog w A (tuples' true) its i j C s:=by
 obtain⟨a1,p1,q1,t1,v1,e1,k1,⟨o1,g1,c1,n1,d1⟩,_⟩:=item i hij.1;obtain⟨a2,p2,q2,t2,v2,e2,k2,⟨o2,g2,c2,n2,d2⟩,_⟩:=item j hij.2;unfold fN;rw[e1,e2];rw[k1,k2]at hC;refine kat_lt g1 d1 g2 d2 ?_;show KatLex _ _ _ _ _ _ [(Value.str p1 t1,Value.str p2 t2),(Value.str q1 v1,Value.str q2 v2)] 0 _;refine fJ (f7 p1 t1 p2 t2 _ _ _ _ ?_);unfold r6 at hC;by_cases hpp:p1=p2
 ·subst hpp;rw[aj rfl]at hC;rw[beq_self_eq_true];refine hZ (fJ (f7 q1 v1 q2 v2 _ _ _ _ ?_));unfold r6 at hC;by_cases hqq:q1=q2
  ·subst hqq;rw[aj rfl]at hC;rw[beq_self_eq_true];exact hZ (kat_nil hC)
  ·rw[ai hqq]at hC;rw[beq_false_of_ne hqq];exact kat_no (kat_one _ _ (jR hC))
 ·rw[ai hpp]at hC;rw[beq_false_of_ne hpp];exact kat_no (oneLt_str hC)
end
section
variable{X:Cx}{G:Bg}{pins:List (Addr×Obj)}{σ:St}{H:Hp}{s:ae}
theorem DE(hu:X.A.units+64<cLine):qb X (.builtin "sorted") (λxs H Q=>∃(a:Addr) (ys:List V) (ks:List (List Str)),xs=[.ref a]/\SqL X.K H a ys/\0<ys.length/\ys.length<64/\ks.length=ys.length/\(∀(i:Nat) (y:V) (k:List Str),ys[i]?=some y->ks[i]?=some k->BP X.K H y k)/\
  ∀p,H p=none->Q (.ref p) (upd H p (.lst ((yp (λi j=>r6 (ks.getD i []) (ks.getD j [])) ys.length).map λi=>ys.getD i V.non)))):=by
 intro pins s σ H xs us Q I r h;obtain⟨a,ys,ks,rfl,hq,h1,h64,hkl,hp,q⟩:=h;obtain⟨u,rfl,ru⟩:=vals1 r;cases ru;obtain⟨its,ri,T,ob,nn,hT,b1,b2,b3⟩:=seq_val I (.inl hq);have hl:ys.length=its.length:=ri.length;have item:∀{h':Heap},(∀b o,s.heap.get? b=some o->h'.get? b=some o)->It2 h' its ks:=λ{h'} kk i hi=>by
  have I':Inv X pins σ H { s with heap:=h',toks:=s.toks }:=I.kept kk;have hy:i<ys.length:=by omega
  have hk:i<ks.length:=by omega
  obtain⟨u,e,ru⟩:=ri.get (aH hy);obtain⟨a,p,q,t,v,rfl,ek,ti⟩:=Lh I' (hp i _ _ (aH hy) (aH hk)) ru;refine⟨a,p,q,t,v,?_,?_,ti,e⟩
  ·rw[bF,e];rfl
  ·rw[bF,aH hk];exact ek
 refine A1 (κ:=tuples' true) (c:=λi j=>r6 (ks.getD i []) (ks.getD j [])) hT b1 b2 b3 (by omega) (by omega) (λh' C kk hC=>Jc (s:={ s with heap:=h' }) (item kk) (by omega) hC) (λh' i j C kk hij hC=>Li (s:={ s with heap:=h' }) (item kk) hij hC) λg h' e k1 k2 ho=>?_
 ·have I1:Inv X pins σ H { s with heap:=g,toks:=s.toks }:=I.kept k1;refine⟨.ref g.objs.size,_,I1.laid (t':=s.toks) k2 (aA _) ?_,rfl,q _ (I1.hok.fresh (aA _))⟩;have hn:0<ys.length:=h1;refine⟨?_,xO _ its,e,?_,ho⟩
  ·rw[ah,(uQ _ hn).length_eq,dU,bh];omega
  ·unfold xO;rw[<-hl];exact yX ri _ λi hi=>uj _ hn i hi
end
def Lj:D->Option (List Str)
 |.tup [.str p,.str q]=>some [p,q]
 |_=>none
def wc:List D->Option (List (List Str))
 |[]=>some []
 |d::ds=>match Lj d,wc ds with
  |some k,some ks=>some (k::ks)
  |_,_=>none
def vo(ds:List D):Option (List D):=match wc ds with
 |some ks=>if 0<ds.length/\ds.length<64 then some ((yp (λi j=>r6 (ks.getD i []) (ks.getD j [])) ds.length).map λi=>ds.getD i .non)else none
 |none=>none
def y3(f:FE):FA:=λρ=>match f ρ with
 |some (.lst ds,ρ')=>match vo ds with
  |some es=>some (es,ρ')
  |none=>none
 |_=>none
section
variable{X:Cx}{G:Bg}{H:Hp}
theorem Lk{d:D}{v:V}{k:List Str}(r:Rep G H d v)(e:Lj d=some k):BP G.K H v k:=by
 unfold Lj at e;split at e
 ·rename_i p q;cases e;unfold Rep at r;obtain⟨a,xs,rfl,h1,h2⟩:=r;unfold Reps at h2;obtain⟨v1,r1,rfl,q1,q2⟩:=h2;unfold Reps at q2;obtain⟨v2,r2,rfl,q3,q4⟩:=q2;unfold Reps at q4;unfold Rep at q1 q3;subst q4 q1 q3;exact⟨a,p,q,rfl,rfl,h1⟩
 ·cases e
theorem Ct:∀{ds:List D} {ks:List (List Str)},wc ds=some ks->ks.length=ds.length
 |[],ks,e=>by cases e;rfl
 |d::ds,ks,e=>by
  unfold wc at e;cases e1:Lj d with
  |none=>rw[e1]at e;cases e
  |some k=>
   cases e2:wc ds with
   |none=>rw[e1,e2]at e;cases e
   |some ks'=>rw[e1,e2]at e;cases e;rw[aD,aD,Ct e2]
theorem Cu:∀{ds:List D} {ks:List (List Str)} {xs:List V},Reps G H ds xs->wc ds=some ks->∀(i:Nat) (y:V) (k:List Str),xs[i]?=some y->ks[i]?=some k->BP G.K H y k
 |[],ks,xs,r,e,i,y,k,h1,h2=>by cases e;cases h2
 |d::ds,ks,xs,r,e,i,y,k,h1,h2=>by
  unfold wc at e;cases e1:Lj d with
  |none=>rw[e1]at e;cases e
  |some k'=>
   cases e2:wc ds with
   |none=>rw[e1,e2]at e;cases e
   |some ks'=>
    rw[e1,e2]at e;cases e;unfold Reps at r;obtain⟨v,r',rfl,q1,q2⟩:=r;cases i with
    |zero=>cases h1;cases h2;exact Lk q1 e1
    |succ i=>exact Cu q2 e2 i y k h1 h2
theorem BP.mono{K:ak}{H0 H1:Hp}{k:List Str}(s:oM H0 H1)(h:BP K H0 y k):BP K H1 y k:=by obtain⟨a,p,q,e1,e2,h1⟩:=h;exact⟨a,p,q,e1,e2,SqT.mono s h1⟩
theorem EL{e:Expr}{f:FE}(h:PE X e (tCB (λxs H Q=>∃(a:Addr) (ys:List V) (ks:List (List Str)),xs=[.ref a]/\SqL G.K H a ys/\0<ys.length/\ys.length<64/\ks.length=ys.length/\(∀(i:Nat) (y:V) (k:List Str),ys[i]?=some y->ks[i]?=some k->BP G.K H y k)/\
  ∀p,H p=none->Q (.ref p) (upd H p (.lst ((yp (λi j=>r6 (ks.getD i []) (ks.getD j [])) ys.length).map λi=>ys.getD i V.non)))) (tFA G (aCons f ox)))):PE X e (tFN G (y3 f)):=PE.weak h λσ H Q hh=>by
 obtain⟨F,ρ,H0,es,ρ',R,e,k⟩:=hh;unfold y3 at e;split at e
 ·rename_i ds ρ1 e1;cases e2:vo ds with
  |none=>simp only[e2]at e;cases e
  |some es'=>
   simp only[e2]at e;cases e;unfold vo at e2;cases e3:wc ds with
   |none=>simp only[e3]at e2;cases e2
   |some ks=>
    simp only[e3]at e2;split at e2
    ·rename_i hh;obtain⟨hn,h64⟩:=hh;cases e2;refine⟨F,ρ,H0,[.lst ds],_,R,by unfold aCons;rw[e1];rfl,λys H1 H1' s R' rs=>?_⟩;unfold Reps at rs;obtain⟨v,r0,rfl,rv,rn⟩:=rs;unfold Reps at rn;subst rn;unfold Rep at rv;obtain⟨a,xs,rfl,h1,h2⟩:=rv;have hl:=oG h2;refine⟨a,xs,ks,rfl,SqL.of (R'.sub _ _ h1),by omega,by omega,by rw[Ct e3,hl],λi y kk q1 q2=>BP.mono R'.sub (Cu h2 e3 i y kk q1 q2),λp hp=>?_⟩;refine k p _ _ _ s (R'.newOwn hp _) oH (R'.h0none hp) (R'.bNone hp) (R'.apart hp) ?_;rw[<-hl];exact yY h2 _ λi hi=>uj _ hn i hi
    ·cases e2
 ·cases e
theorem BQ(hu:X.A.units+64<cLine)(hK:X.K=G.K:=by rfl):qb X (.builtin "sorted") (λxs H Q=>∃(a:Addr) (ys:List V) (ks:List (List Str)),xs=[.ref a]/\SqL G.K H a ys/\0<ys.length/\ys.length<64/\ks.length=ys.length/\(∀(i:Nat) (y:V) (k:List Str),ys[i]?=some y->ks[i]?=some k->BP G.K H y k)/\
  ∀p,H p=none->Q (.ref p) (upd H p (.lst ((yp (λi j=>r6 (ks.getD i []) (ks.getD j [])) ys.length).map λi=>ys.getD i V.non)))):=by rw[<-hK];exact DE hu
end
end L4
namespace L4
open PySem PySem.Spec PyProof.Rows L2 L3
def GDa(K:ak)(x nm:Str)(st:Stmt):Prop:=∃(f:Addr) (fd:bb),eG K aK x=some (some (.ref f))/\Fun K nm nm st f fd
variable{b:FS}
theorem gFa{P:au}{w:aq}{mg:Str->Option aa}{base:Heap}{G:Bg}{x nm:Str}{st:Stmt}{N ps:List Str}{k np n:Nat}{g:List D->Option D}(hg:g=fnD np n b)(y:Yw P w mg base G)(q:GDa G.K x nm st)(S:pS N ps (oO st))(body:Bdi P w G.K mg base N nm st k (tFS G b))(hp:ps.length=np:=by rfl)(hN:N.length=n:=by rfl)(bd:Bds nm nm st ps:=by (repeat intro _);rfl):uM P w G.K mg base (k+1) x ps (spF G g):=by obtain⟨f,fd,a,F⟩:=q;exact⟨f,fd,y.g a,F.kp,bd.ok F,GY hg hp hN F S λ_ _ _ _ _ _ hr=>body hr⟩
structure Bz where
 P:au
 w:aq
 mg:Str->Option aa
 base:Heap
 G:Bg
structure ZE(X:Cx)(B:Bz)(e:Expr)(f:FE):Prop where p:PE X e (tF B.G f)
structure ZN(X:Cx)(B:Bz)(e:Expr)(f:FA):Prop where p:PE X e (tFN B.G f)
structure ZT(X:Cx)(B:Bz)(e:Expr)(f:FT):Prop where p:PT X e (tFT B.G f)
structure ZW(X:Cx)(B:Bz)(e:Expr)(f:FT):Prop where p:PW X e (tFT B.G f)
structure ZF(X:Cx)(B:Bz)(e:List Expr)(f:FT):Prop where p:PIf X e (tFT B.G f)
structure ZA(X:Cx)(B:Bz)(e:List Expr)(f:FA):Prop where p:PA X e (tFA B.G f)
structure ZM(X:Cx)(B:Bz)(e:List Expr)(i:Nat)(f:FA):Prop where p:PA X e (IR B.G i f)
structure ZS(X:Cx)(B:Bz)(e:Stmt)(f:FS):Prop where p:PS X e (tFS B.G f)
structure ZB(X:Cx)(B:Bz)(e:List Stmt)(f:FS):Prop where p:PSs X e (tFS B.G f)
structure ZI(X:Cx)(B:Bz)(tg e:Expr)(f:FA):Prop where p:PI X tg e (tFI B.G f)
structure ZO(X:Cx)(B:Bz)(e:Option Expr)(f:FO):Prop where p:PO X e (tFO B.G f)
structure ZG(X:Cx)(B:Bz)(e:Expr)(n:Nat)(f:FG):Prop where p:PG X e (tFG B.G n f)
structure ZH(X:Cx)(B:Bz)(e:List Expr)(n:Nat)(f:List D->List Sl->Option (List Sl)):Prop where p:PGs X e (J7 B.G n f)
structure ZK(X:Cx)(e:Option Expr)(i:Option Int):Prop where p:PO X e (tO i)
structure ZP(X:Cx)(B:Bz)(pos:Pos)(ks:List (Option Expr))(vs:List Expr)(l:List (Str×FE)):Prop where p:PPs X pos ks vs (K5 B.G l)
structure ZV(X:Cx)(e:Expr)(i:Nat):Prop where p:PE X e (ua i)
abbrev Gz(X:Cx)(x:Str):Prop:=X.env.kindOf x=some .globalImplicit
abbrev Dz(x:Str):Prop:=(x==("__debug__" : Str))=false
abbrev Nz(x:Str):Prop:=(decide (x≠"__name__")&&!(x==("__debug__" : Str)))=true
abbrev Sz(X:Cx)(e:Expr)(es:List Expr):Prop:=ar (e::es) X.env=(false,eval e X.env)::ar es X.env
abbrev S1(X:Cx)(e:Expr):Prop:=ar [e] X.env=[(false,eval e X.env)]
abbrev Lz(X:Cx)(pos:Pos)(es:List Expr):Prop:=(aV pos (ar es X.env)).any (·.1)=false
abbrev Wz(X:Cx)(e o:Expr)(pos:Pos):Prop:=cn e (some o) pos.line X.env=pure false
abbrev Az(X:Cx)(o:Expr)(m:Str):Prop:=cy o m X.env (eval o X.env)=eval o X.env
abbrev Ez(p pos:Pos):Prop:=(p.endLine==pos.line)=true
abbrev Iz(e:Expr):Prop:=(λo i=>subscripted e false o i)=λo i=>operate [o,i] (getItem o i)
abbrev Fz(X:Cx)(e:Expr):Prop:=(λx=>eS e X.env x)=λx=>pure x
class Cz(X:Cx)(B:outParam Bz)(k:outParam Nat):Prop where
 P:X.prog=B.P
 w:X.w=B.w
 K:X.K=B.G.K
 mg:X.mg=B.mg
 b:X.base=B.base
 c:X.calm=true
 r:pW k X.A
class Yb(B:Bz):Prop where y:Yw B.P B.w B.mg B.base B.G
class Df(B:Bz)(j:outParam Nat)(x:Str)(sp:Sp):Prop where p:∃ps,uM B.P B.w B.G.K B.mg B.base j x ps sp
class Kf(B:Bz)(j:outParam Nat)(x:Str)(c:Nat)(g:List D->Option (List Str×List D))(dds:List D):Prop where
 p:∃ps,Do B.G B.P B.w B.mg B.base j x c ps (dds.map vD) g
 f:dds.all qP=true
class Mf(B:Bz)(j:outParam Nat)(m:Str)(g:Nat->Option (List D->Option D)):Prop where p:∀c h,g c=some h->yU B.G B.P B.w B.mg B.base j m c h
class Ff(B:Bz)(ok:Nat->Bool)(f:Str):Prop where p:∀c,ok c=true->Cls B.G.K (B.G.ca c)/\tG B.G.K (B.G.ca c) f
class Af(B:Bz)(c:Nat)(xs:outParam (List Str)):Prop where p:CF B.G.K (B.G.ca c) xs
class Nb(B:Bz)(x:Str):Prop where p:B.mg x=none
class Co(B:Bz)(x:Str)(d:D):Prop where p:wN B.G B.mg x d
class Ic(B:Bz)(x:Str)(t:Ty->Option Bool):Prop where p:∃c,FC B.G c t/\B.mg x=some (.ref (B.G.ca c))
class Ij(B:Bz)(n:Nat):Prop where p:∀j k,j<n->k<n->B.G.ca j=B.G.ca k->j=k
class OpC(op:hG)(g:D->D->Option D):Prop where p:∀(X:Cx) (G:Bg),∃r,OpR X (bX op) r/\OpD G r g
instance in1:OpC .Mod rE:=⟨λ_ _=>⟨_,Pt,Qg⟩⟩
instance in2:OpC .FloorDiv xh:=⟨λ_ _=>⟨_,Mp,Qh⟩⟩
instance in3:OpC .Mult sL:=⟨λ_ _=>⟨_,Pr,Qf⟩⟩
instance in4:OpC .Sub Kl:=⟨λ_ _=>⟨_,Pq,Qe⟩⟩
instance in5:OpC .Pow zr:=⟨λ_ _=>⟨_,Pu,Qi⟩⟩
instance in6:OpC .Add pO:=⟨λ_ _=>⟨_,Pp,Qd⟩⟩
instance in8:OpC .Mult Es:=⟨λ_ _=>⟨_,Fp,N0⟩⟩
class CmC(op:dN)(g:D->D->Option D):Prop where p:∀(X:Cx) (G:Bg),X.K=G.K->X.A.units+64<cLine->∃r,OpR X (aM op) r/\OpD G r g
instance in9:CmC .Eq (dEq false):=⟨λ_ _ h u=>⟨_,Qn u h,T2⟩⟩
instance in10:CmC .NotEq (dEq true):=⟨λ_ _ h u=>⟨_,Qo u h,T3⟩⟩
instance in11:CmC .In (dIn false):=⟨λ_ _ h _=>⟨_,Qp h,OT⟩⟩
instance in12:CmC .NotIn (dIn true):=⟨λ_ _ h _=>⟨_,Io h,OT⟩⟩
instance in13:CmC .Is yf:=⟨λ_ _ _ _=>⟨_,Pw,Qk⟩⟩
instance in14:CmC .IsNot Ko:=⟨λ_ _ _ _=>⟨_,Mq,Nr⟩⟩
instance in15:CmC .IsNot Aa:=⟨λ_ _ _ _=>⟨_,D8,Im⟩⟩
instance in16:CmC .Lt Ek:=⟨λ_ _ _ _=>⟨_,Tg,TX⟩⟩
instance in17:CmC .LtE sR:=⟨λ_ _ _ _=>⟨_,Ti,TY⟩⟩
instance in18:CmC .Gt Km:=⟨λ_ _ _ _=>⟨_,Tj,TZ⟩⟩
instance in19:CmC .GtE Qc:=⟨λ_ _ _ _=>⟨_,Tn,T1⟩⟩
instance in20:CmC .LtE Kn:=⟨λ_ _ _ _=>⟨_,HZ,Qj⟩⟩
class B1(x:Str)(g:D->Option D):Prop where p:∀(X:Cx) (G:Bg),X.K=G.K->X.calm=true->∃(id:String) (r:List V->Hp->VK->Prop),qb X (.builtin id) r/\Em G r g/\cB x=some (.builtin id)
instance in21:B1 "len" qQ:=⟨λ_ _ h _=>⟨_,_,Iq h,Qq,lq⟩⟩
instance in22:B1 "all" tI:=⟨λ_ _ h c=>⟨_,_,Ir c h,Qr,boot_all⟩⟩
instance in23:B1 "any" AN:=⟨λ_ _ h c=>⟨_,_,IC c h,Qy,boot_any⟩⟩
class KtC(x:Str)(T:outParam String):Prop where p:(∀(X:Cx) (G:Bg) y b,pK T y=some b->cc X.K (y.val G) (.type T)=some b)/\cB x=some (.type T)
instance in24:KtC "str" "str" := ⟨λ_ _=>Ny,Pv.boot_str⟩
instance in25:KtC "int" "int" := ⟨λ_ _=>NS,Pv.boot_int⟩
instance in26:KtC "bool" "bool" := ⟨λ_ _=>K2,Pv.boot_bool⟩
instance in27:KtC "list" "list" := ⟨λ_ _=>KB,l5⟩
instance in28:KtC "tuple" "tuple" := ⟨λ_ _=>kit_tuple,lQ⟩
theorem OZ{G:Bg}{H:Hp}:∀{dds:List D},dds.all qP=true->Reps G H dds (dds.map vD)
 |[],_=>o7
 |d::ds,h=>by rw[eh,aR]at h;exact o6 (ye h.1 H) (OZ h.2)
theorem eqI{α:Sort u}{a b:α}(h:a=b):a=b:=h
def sees(X:Cx)(i:Nat)(x:Str):Bool:=decide (X.N[i]?=some x)&&(match X.env.scope.names.lookup x with|some .local=>true|some .cell=>true|some .free=>true|_=>false)&&!(x==("__debug__" : Str))&&!(x==("__classdict__" : Str))
def sets(X:Cx)(i:Nat)(x:Str):Bool:=decide X.N.Nodup&&decide (X.N[i]?=some x)&&(match X.env.scope.names.lookup x with|some .local=>true|some .cell=>X.fn x|_=>false)
variable{ft fu:FT}{id T:String}{r:List V->Hp->VK->Prop}{lo:Option Expr}{body:List Stmt}
section
variable{X:Cx}{B:Bz}{k j i n c0:Nat}{x m:Str}{e e' o tg it:Expr}{es:List Expr}{p p2 p3 pos apos:Pos}{f f' f2:FE}{a:FA}{g:D->D->Option D}
theorem pvI(h:sees X i x=true):PE X (.Name x p) (ua i):=by
 unfold sees at h;simp only[aR,bu,eY]at h;obtain⟨⟨⟨h1,h2⟩,h3⟩,h4⟩:=h;refine pv i h1 ?_ h3 h4;unfold Vis;split at h2
 ·rename_i e;exact .inl e
 ·rename_i e;exact .inr (.inl e)
 ·rename_i e;exact .inr (.inr e)
 ·cases h2
theorem Um(h:sees X i x=true):ZE X B (.Name x p) (cV i):=⟨Fq (pvI h)⟩
theorem QM(h:sees X i x=true):ZE X B (.Name x p) (cFz i):=⟨TV (pvI h)⟩
theorem N5(h:sees X i x=true):ZN X B (.Name x p) (Nj i):=⟨Nk (pvI h)⟩
theorem DF(h:sets X i x=true):X.N.Nodup/\X.N[i]?=some x/\L2.Loc X.env.scope x/\(X.fn x=true\/X.env.scope.names.lookup x=some .local):=by
 unfold sets at h;simp only[aR,bu]at h;obtain⟨⟨h1,h2⟩,h3⟩:=h;unfold L2.Loc;split at h3
 ·rename_i e;exact⟨h1,h2,.inl e,.inr e⟩
 ·rename_i e;exact⟨h1,h2,.inr e,.inl h3⟩
 ·cases h3
theorem pgI(h:sets X i x=true):PG X (.Name x p) (sZ i):=by obtain⟨h1,h2,h3,h4⟩:=DF h;exact Gm h1 h2 h3 h4
theorem QN(h:sets X i x=true)(hi:Nat.blt i n=true):ZG X B (.Name x p) n (gN i):=⟨J8 n (pgI h) (Nat.blt_eq.mp hi)⟩
theorem stW{te:TE}(h:sets X i x=true)(he:PE X e te)(hs:Wz X e (.Name x p) pos):PS X (.Assign [.Name x p] e pos) (xX te (sZ i)):=by obtain⟨h1,h2,h3,h4⟩:=DF h;exact Pj h1 h2 h3 he hs h4
theorem QO(h:sets X i x=true)(he:ZE X B e f)(hs:Wz X e (.Name x p) pos):ZS X B (.Assign [.Name x p] e pos) (px i f):=⟨GO (stW h he.p hs)⟩
theorem QP(h:sets X i x=true)(he:ZN X B e a)(hs:Wz X e (.Name x p) pos):ZS X B (.Assign [.Name x p] e pos) (rQ i a):=⟨Ed (stW h he.p hs)⟩
theorem QQ(h:sets X i x=true)(hs:Wz X (.Dict [] [] p2) (.Name x p) pos):ZS X B (.Assign [.Name x p] (.Dict [] [] p2) pos) (yi i):=⟨KE (stW h D3 hs)⟩
theorem QR{op:hG}[O:OpC op g](ha:ZE X B e f)(hb:ZE X B e' f'):ZE X B (.BinOp e op e' pos) (c2 g f f'):=by obtain⟨r,h1,h2⟩:=O.p X B.G;exact⟨TH h1 h2 ha.p hb.p⟩
theorem QS [C:Cz X B k](ha:ZE X B e f)(hb:ZE X B e' f')(hs:Iz e'):ZE X B (.Subscript e e' pos) (c2 dIx f f'):=⟨TJ (UX C.K) T4 ha.p hb.p λo i=>congrFun (congrFun hs o) i⟩
theorem N6 [C:Cz X B k](h:sees X i x=true)(hb:ZE X B e' f')(hs:Iz e'):ZE X B (.Subscript (.Name x p) e' pos) (Fs i f'):=⟨Qa (ON (JY B.G.K C.K) (pvI h) hb.p λo i=>congrFun (congrFun hs o) i)⟩
theorem QT [C:Cz X B k](ha:ZE X B e f)(hb:ZE X B e' f')(hs:Iz e'):ZE X B (.Subscript e e' pos) (c2 qL f f'):=⟨NC (GB C.r) ha.p hb.p λo i=>congrFun (congrFun hs o) i⟩
section
variable{op op':dN}{g':D->D->Option D}
theorem QU [O:CmC op g][C:Cz X B k](ha:ZE X B e f)(hb:ZE X B e' f')(hm:dE op e'=false):ZE X B (.Compare e [op] [e'] pos) (c2 g f f'):=by obtain⟨r,h1,h2⟩:=O.p X B.G C.K C.r.units;exact⟨P1 h1 h2 ha.p hb.p hm⟩
theorem QV [O:CmC op g][C:Cz X B k](ha:ZE X B e f)(hb:ZE X B e' f')(hm:dE op e'=false):ZT X B (.Compare e [op] [e'] pos) (cT (c2 g f f')):=by obtain⟨r,h1,h2⟩:=O.p X B.G C.K C.r.units;exact⟨MR h1 h2 ha.p hb.p hm⟩
theorem QW [O:CmC op g][O':CmC op' g'][C:Cz X B k](ha:ZE X B e f)(hb:ZE X B e' f')(hc:ZE X B o f2)(hm:lastMarks [op,op'] [e',o]=false):ZE X B (.Compare e [op,op'] [e',o] pos) (qI g g' f f' f2):=by obtain⟨r,h1,h2⟩:=O.p X B.G C.K C.r.units;obtain⟨r',h3,h4⟩:=O'.p X B.G C.K C.r.units;exact⟨Kv h1 h3 h2 h4 ha.p hb.p hc.p hm⟩
theorem QX [O:CmC op g][O':CmC op' g'][C:Cz X B k](ha:ZE X B e f)(hb:ZE X B e' f')(hc:ZE X B o f2)(hm:lastMarks [op,op'] [e',o]=false):ZT X B (.Compare e [op,op'] [e',o] pos) (cT (qI g g' f f' f2)):=by obtain⟨r,h1,h2⟩:=O.p X B.G C.K C.r.units;obtain⟨r',h3,h4⟩:=O'.p X B.G C.K C.r.units;exact⟨Iy h1 h3 h2 h4 ha.p hb.p hc.p hm⟩
end
theorem QY(h:ZE X B e f)(he:(λwhole=>isTrue e X.env whole)=λwhole=>(do let v<-whole;standAt e.pos;holding [v] (truthy v))):ZT X B e (cT f):=⟨MS h.p λw=>congrFun he w⟩
theorem QZ(ha:ZT X B e ft)(hb:ZW X B (.BoolOp .Or (e'::es) pos) fu):ZT X B (.BoolOp .Or (e::e'::es) pos) (uz ft fu):=⟨PW.pt (J2 ha.p hb.p)⟩
theorem Q0(ha:ZT X B e ft)(hb:ZW X B (.BoolOp .And (e'::es) pos) fu):ZT X B (.BoolOp .And (e::e'::es) pos) (zp ft fu):=⟨PW.pt (MW ha.p hb.p)⟩
theorem Q1{d:D}[C:Cz X B k][Q:Co B x d](hg:Gz X x)(hd:Dz x):ZE X B (.Name x pos) (cC d):=⟨Kz (C.mg▸Q.p) hg hd⟩
theorem Q2{ok:Nat->Bool}[C:Cz X B k][Q:Ff B ok m](he:ZE X B e f)(hb:Az X e m):ZE X B (.Attribute e m pos) (c1 (oW ok m) f):=⟨Kb he.p (C.K▸Q.p) hb⟩
section
variable(hg:Gz X x)(hd:Dz x)(hs:Sz X e es)(hl:Lz X pos es)
include hg hd
theorem dz{sp:Sp}[C:Cz X B k][Q:Df B j x sp]:∃ps,uM X.prog X.w X.K X.mg X.base j x ps sp:=by rw[C.P,C.w,C.K,C.mg,C.b];exact Q.p
theorem Q3{g:List D->Option (List D)}[C:Cz X B k][Q:Df B j x (spN B.G g)](hj:cW j k=true):ZN X B (.Call (.Name x p) [] [] pos) (pP g ox):=by obtain⟨ps,q⟩:=dz hg hd (X:=X) (Q:=Q);exact⟨Kw q (C.r.mono (cR.mp hj)) hg hd⟩
include hs hl
theorem Q4{g:List D->Option D}[C:Cz X B k][Q:Df B j x (spF B.G g)](ha:ZA X B (e::es) a)(hj:cW j k=true):ZE X B (.Call (.Name x p) (e::es) [] pos) (oE g a):=by obtain⟨ps,q⟩:=dz hg hd (X:=X) (Q:=Q);exact⟨Qt q (C.r.mono (cR.mp hj)) ha.p hg hd hs hl⟩
theorem Q5{g:List D->Option (List D)}[C:Cz X B k][Q:Df B j x (spN B.G g)](ha:ZA X B (e::es) a)(hj:cW j k=true):ZN X B (.Call (.Name x p) (e::es) [] pos) (pP g a):=by obtain⟨ps,q⟩:=dz hg hd (X:=X) (Q:=Q);exact⟨Nv q (C.r.mono (cR.mp hj)) ha.p hg hd hs hl⟩
theorem Q6{g:List D->List D->Option (D×List D)}[C:Cz X B k][Q:Df B j x (spM B.G g)](hv:ZV X e i)(ha:ZA X B es a)(hj:cW j k=true):ZE X B (.Call (.Name x p) (e::es) [] pos) (qf g i a):=by obtain⟨ps,q⟩:=dz hg hd (X:=X) (Q:=Q);exact⟨Nw q (C.r.mono (cR.mp hj)) hv.p ha.p hg hd hs hl⟩
theorem Q7{g:List D->List D->Option (D×List D)}[C:Cz X B k][Q:Df B j x (spL B.G g)](ha:ZM X B (e::es) i a)(hj:cW j k=true):ZE X B (.Call (.Name x p) (e::es) [] pos) (AY g i a):=by obtain⟨ps,q⟩:=dz hg hd (X:=X) (Q:=Q);exact⟨NZ q (C.r.mono (cR.mp hj)) ha.p hg hd hs hl⟩
theorem Q8{g:List D->Option (List Str×List D)}{dds:List D}[C:Cz X B k][Q:Kf B j x c0 g dds](ha:ZA X B (e::es) a)(hj:cW (j+1) k=true):ZE X B (.Call (.Name x p) (e::es) [] pos) (pA c0 (λds=>g (ds++dds)) a):=by obtain⟨ps,q⟩:=Q.p;exact⟨Nx (by rw[C.P,C.w,C.mg,C.b];exact q) (λH=>OZ Q.f) (C.r.mono (cR.mp hj)) ha.p C.K hg hd hs hl⟩
end
theorem mz{g:Nat->Option (List D->Option D)}[C:Cz X B k][Q:Mf B j m g]:∀c h,g c=some h->yU B.G X.prog X.w X.mg X.base j m c h:=by rw[C.P,C.w,C.mg,C.b];exact Q.p
theorem Q9{g:Nat->Option (List D->Option D)}{pl:Sem Bool}[C:Cz X B k][Q:Mf B j m g](ho:ZE X B o f)(hj:cW j k=true)
  (ht:eval (.Call (.Attribute o m apos) [] [] pos) X.env=(do
   let ov<-eval o X.env
   standAt apos.atName
   let (f,first)<-holding [ov] (getMethod ov m pl)
   callWith pos f first (aV pos (ar [] X.env)) (backToKw pos (cE [] X.env)))):ZE X B (.Call (.Attribute o m apos) [] [] pos) (pE g m f ox):=⟨Fw mz (C.r.mono (cR.mp hj)) ho.p C.K ht⟩
theorem Rb{g:Nat->Option (List D->Option D)}{pl:Sem Bool}[C:Cz X B k][Q:Mf B j m g](ho:ZE X B o f)(ha:ZA X B (e::es) a)(hj:cW j k=true)(hs:Sz X e es)(hl:Lz X pos es)
  (ht:eval (.Call (.Attribute o m apos) (e::es) [] pos) X.env=(do
   let ov<-eval o X.env
   standAt apos.atName
   let (f,first)<-holding [ov] (getMethod ov m pl)
   callWith pos f first (aV pos (ar (e::es) X.env)) (backToKw pos (cE [] X.env)))):ZE X B (.Call (.Attribute o m apos) (e::es) [] pos) (pE g m f a):=⟨IA mz (C.r.mono (cR.mp hj)) ho.p ha.p C.K hs hl ht⟩
section
variable(hg:Gz X x)(hd:Nz x)(hs:S1 X e)
include hg hd hs
theorem cbI{t:TA}[C:Cz X B k][N:Nb B x](hc:qb X (.builtin id) r)(hv:cB x=some (.builtin id))(ha:PA X [e] t):PE X (.Call (.Name x p) [e] [] pos) (tCB r t):=by simp only[aR,bu,eY]at hd;exact Ao hc hg (C.mg▸N.p) hv ha hd.1 hd.2 hs rfl
theorem ctI{t:TA}[C:Cz X B k][N:Nb B x](hc:qb X (.type T) r)(hv:cB x=some (.type T))(ha:PA X [e] t):PE X (.Call (.Name x p) [e] [] pos) (tCB r t):=by simp only[aR,bu,eY]at hd;exact HP hc hg (C.mg▸N.p) hv ha hd.1 hd.2 hs rfl
theorem Re{g:D->Option D}[Q:B1 x g][C:Cz X B k][N:Nb B x](ha:ZE X B e f):ZE X B (.Call (.Name x p) [e] [] pos) (c1 g f):=by obtain⟨id,r,h1,h2,h3⟩:=Q.p X B.G C.K C.c;exact⟨T5 h2 (cbI hg hd hs h1 h3 (sI ha.p ue hs))⟩
end
section
variable(hs:S1 X e)
include hs
theorem Rf [C:Cz X B k][N:Nb B "list"](hg:Gz X "list")(ha:ZE X B e f):ZN X B (.Call (.Name "list" p) [e] [] pos) (tf f):=⟨Ks (ctI hg (by decide) hs (Fv C.K) l5 (sI ha.p ue hs))⟩
theorem Rg [C:Cz X B k][N:Nb B "tuple"](hg:Gz X "tuple")(ha:ZE X B e f):ZE X B (.Call (.Name "tuple" p) [e] [] pos) (AJ f):=⟨Kt (ctI hg (by decide) hs (Iv C.K) lQ (sI ha.p ue hs))⟩
theorem Rh [C:Cz X B k][N:Nb B "sorted"](hg:Gz X "sorted")(ha:ZE X B e f):ZN X B (.Call (.Name "sorted" p) [e] [] pos) (A3 f):=⟨FU (cbI hg (by decide) hs (DA C.r.units C.K) boot_sorted (sI ha.p ue hs))⟩
theorem Rj [C:Cz X B k][N:Nb B "sorted"](hg:Gz X "sorted")(ha:ZE X B e f):ZN X B (.Call (.Name "sorted" p) [e] [] pos) (y3 f):=⟨EL (cbI hg (by decide) hs (BQ C.r.units C.K) boot_sorted (sI ha.p ue hs))⟩
theorem Rk [C:Cz X B k][N:Nb B "len"][N':Nb B "set"](hg:Gz X "len")(hg':Gz X "set")(ha:ZE X B e f)(z:ar [Expr.Call (.Name "set" p2) [e] [] p3] X.env=[(false,eval (.Call (.Name "set" p2) [e] [] p3) X.env)]):ZE X B (.Call (.Name "len" p) [.Call (.Name "set" p2) [e] [] p3] [] pos) (c1 Dt f):=⟨IH C.K (IG Ug C.r.units C.c hg (C.mg▸N.p) hg' (C.mg▸N'.p) ha.p z hs)⟩
theorem Rl [C:Cz X B k][N:Nb B "range"](hg:Gz X "range")(ha:ZE X B e f):ZI X B tg (.Call (.Name "range" p) [e] [] pos) (iR1 f):=⟨Ft (HJ hg (C.mg▸N.p) (sI ha.p ue hs) hs)⟩
end
section
variable(hi:Gz X "isinstance")(hg:Gz X x)(hs:ar [e,.Name x p2] X.env=[(false,eval e X.env),(false,eval (.Name x p2) X.env)])(hs':S1 X (.Name x p2))
include hi hg hs hs'
theorem Rm [Q:KtC x T][C:Cz X B k][N:Nb B "isinstance"][N':Nb B x](ha:ZE X B e f)(hd:Nz x):ZE X B (.Call (.Name "isinstance" p) [e,.Name x p2] [] pos) (c1 (p6 (pK T)) f):=by
 simp only[aR,bu,eY]at hd;refine⟨GW (c:=.b T) (Ao (Cg (.b T) (Q.p.1 X B.G) KA C.K) hi (C.mg▸N.p) kZ (qK ha.p (qK (Mh (v:=.ty T) hg (C.mg▸N'.p) Q.p.2 rfl hd.1 hd.2) uy ?_) ?_) (by decide) (by decide) ?_ ?_)⟩
 ·exact hs'
 ·rw[hs,hs']
 ·rw[hs,hs']
 ·rw[hs'];rfl
theorem Ro{t:Ty->Option Bool}[Q:Ic B x t][C:Cz X B k][N:Nb B "isinstance"](ha:ZE X B e f)(hd:Dz x):ZE X B (.Call (.Name "isinstance" p) [e,.Name x p2] [] pos) (c1 (p6 t) f):=by
 obtain⟨c,q1,q2⟩:=Q.p;refine⟨GW (c:=.c c) (Ao (FD q1 C.K) hi (C.mg▸N.p) kZ (qK ha.p (qK (Gj (v:=.ref (B.G.ca c)) hg (C.mg▸q2) rfl hd) uy ?_) ?_) (by decide) (by decide) ?_ ?_)⟩
 ·exact hs'
 ·rw[hs,hs']
 ·rw[hs,hs']
 ·rw[hs'];rfl
end
section
variable(hb:Az X o m)(hl:Ez apos pos)(hs:S1 X e)
include hb hl hs
theorem bmI{r:V->List V->Hp->VK->Prop}{to:TE}{t:TA}[C:Cz X B k](pa:gX T)(slot:Slot T m id)(hty:typeOf (.builtin id)=pure (.type "method_descriptor"))(hm:MtR X id r)(ho:PE X o to)(ha:PA X [e] t):PE X (.Call (.Attribute o m apos) [e] [] pos) (tBM B.G.K T r to t):=
 JZ B.G.K pa slot hty hm ho ha hb (by rw[hs];rfl) hl hs rfl C.K
end
section
variable(h:sees X i x=true)(hb:Az X (.Name x p) m)(hl:Ez apos pos)(hs:S1 X e)
include h hb hl hs
theorem Rp [C:Cz X B k](hm:m="append")(ha:ZE X B e f):ZE X B (.Call (.Attribute (.Name x p) m apos) [e] [] pos) (xG i f):=by subst hm;exact⟨Ii (bmI hb hl hs eZ iu j4 yM (pvI h) (sI ha.p ue hs))⟩
theorem Rq [C:Cz X B k](hm:m="extend")(ha:ZE X B e f):ZE X B (.Call (.Attribute (.Name x p) m apos) [e] [] pos) (zw i f):=by subst hm;exact⟨FI (bmI hb hl hs eZ jX F.type_list_extend (C.K▸FH) (pvI h) (qK ha.p uy hs))⟩
end
theorem Rr [C:Cz X B k](h:sees X i x=true)(hb:Az X (.Name x p) "pop")(hl:Ez apos pos)(hs:S1 X (.Constant (.int 0) j p2)):ZE X B (.Call (.Attribute (.Name x p) "pop" apos) [.Constant (.int 0) j p2] [] pos) (GQ i):=⟨Ni (bmI hb hl hs eZ kK F.type_list_pop JM (pvI h) (qK E9 uy hs))⟩
theorem Rt [C:Cz X B k](ha:ZE X B e f)(hb:ZE X B e' f')(h1:Az X e "get")(h2:Ez apos pos)(h3:S1 X e'):ZE X B (.Call (.Attribute e "get" apos) [e'] [] pos) (c2 uO f f'):=⟨KD (GB C.r) ha.p hb.p ⟨h1,by rw[h3];rfl,h2,by rw[h3];rfl⟩⟩
theorem Ru{xs:List Str}[C:Cz X B k][Q:Af B c0 xs](hx:xs.contains m=true)(h:sees X i x=true)(hv:ZE X B e f)(hs:Wz X e (.Attribute (.Name x p) m apos) pos):ZS X B (.Assign [.Attribute (.Name x p) m apos] e pos) (pz c0 i m f):=⟨Nh (Py (pvI h) hv.p hs) (by obtain⟨i,_,e⟩:=eO (jL.mp hx);exact C.K▸Q.p.at i (bt.mpr ⟨_,e⟩))⟩
theorem Rv [C:Cz X B k](h:sees X i x=true)(hk:ZE X B e' f')(hv:ZE X B e f)(hs:Wz X e (.Subscript (.Name x p) e' apos) pos):ZS X B (.Assign [.Subscript (.Name x p) e' apos] e pos) (qo i f' f):=⟨KF (MG (GB C.r) (pvI h) hk.p hv.p hs)⟩
theorem Rx{n:Nat}[Q:Ij B n](h:ZE X B e f):ZE X B e (ui n f):=⟨NQ Q.p h.p⟩
section
variable{ks:List (Option Expr)}{kfs:List (Str×FE)}
theorem Ry:ZP X B pos [] [] []:=⟨MH⟩
theorem RA{y:Str}(hv:ZE X B e f)(hr:ZP X B pos ks es kfs):ZP X B pos (some (.Constant (.str y) j p)::ks) (e::es) ((y,f)::kfs):=⟨JS Jp hv.p hr.p⟩
theorem RB(h:ZP X B pos ks es kfs)(h1:(ks.all (·.isSome)&&decide (ks.length=es.length)&&!ks.isEmpty&&decide (ks.length<=15)&&decide (kfs.map λq=>(Sum.inr q.1:Key)).Nodup&&decide (kfs.length<=15))=true):ZE X B (.Dict ks es pos) (Cj kfs):=by simp only[aR,bu,eY]at h1;obtain⟨⟨⟨⟨⟨a1,a2⟩,a3⟩,a4⟩,a5⟩,a6⟩:=h1;exact⟨NU (MI h.p a1 a2 (λz=>by rw[z]at a3;cases a3) a4) a5 a6⟩
end
theorem RD{hi:Option Expr}{fl fh:FO}[C:Cz X B k](he:ZE X B e f)(hl:ZO X B lo fl)(hh:ZO X B hi fh):ZN X B (.Subscript e (.Slice lo hi none p) pos) (vU f fl fh):=⟨FB (DY (T6 C.K) he.p hl.p hh.p)⟩
theorem RE{hi:Option Expr}{l h:Option Int}[C:Cz X B k](he:ZE X B e f)(hl:ZK X lo l)(hh:ZK X hi h):ZN X B (.Subscript e (.Slice lo hi none p) pos) (cSl f l h):=⟨Iw (DY (T6 C.K) he.p hl.p hh.p)⟩
theorem RF{y:Int}:ZK X (some (.Constant (.int y) j pos)) (some y):=⟨Ku⟩
theorem RG [C:Cz X B k](h:ZE X B e f):ZI X B tg e (iL f):=⟨Ei (Ea B.G.K h.p C.K)⟩
theorem RH [C:Cz X B k](h:ZE X B e f):ZI X B tg e (iT f):=⟨Np (MO B.G.K h.p C.K)⟩
theorem RI(h:ZE X B e f):ZI X B tg e (iD f):=⟨KO (NO h.p)⟩
theorem RJ(h:ZE X B e f):ZI X B tg e (iS f):=⟨ND (PU h.p)⟩
theorem RK{elts:List Expr}{x1:Nat}(h:ZE X B o f)(hb:Az X o "items")(hl:Ez apos pos):ZI X B (.Tuple elts x1 p) (.Call (.Attribute o "items" apos) [] [] pos) (iIt f):=⟨IM (K4 h.p hb hl)⟩
section
variable(hg:Gz X "zip")(hs:ar [e,e'] X.env=[(false,eval e X.env),(false,eval e' X.env)])(hs2:S1 X e')
include hg hs hs2
theorem RM [C:Cz X B k][N:Nb B "zip"](ha:ZA X B [e,e'] a):ZI X B (.Tuple es i p2) (.Call (.Name "zip" p) [e,e'] [] pos) (iZ a):=⟨NP (QH hg (C.mg▸N.p) ha.p hs hs2)⟩
theorem RN [C:Cz X B k][N:Nb B "zip"](ha:ZA X B [e,e'] a):ZI X B (.Tuple es i p2) (.Call (.Name "zip" p) [e,e'] [] pos) (iZT a):=⟨Lg (N4 B.G.K hg (C.mg▸N.p) ha.p C.K hs hs2)⟩
end
section
variable{gg:FG}{gs:List D->List Sl->Option (List Sl)}
theorem N7:ZH X B [] n qZ:=⟨M4 Gq⟩
theorem N8(h1:ZG X B e n gg)(h2:ZH X B es n gs)(hs:(bz (e::es) X.env).map (·.2)=assign e X.env::(bz es X.env).map (·.2)):ZH X B (e::es) n (oX gg gs):=⟨J9 (Aj h1.p h2.p hs)⟩
theorem N9{n' k':Nat}[C:Cz X B k](h:ZH X B es n gs)(hn:(bz es X.env).length=n')(ht:(bz es X.env).findIdx? (·.1)=none):ZG X B (.Tuple es k' pos) n (gT gs n'):=⟨M5 (GF B.G.K C.c h.p hn ht C.K)⟩
end
def tgN:Expr->List Str
 |.Name x _=>[x]
 |.Tuple es _ _=>es.filterMap λe=>match e with|.Name x _=>some x|_=>none
 |_=>[]
def cpN(X:Cx)(tg:Expr)(cap:List Nat):List Str:=tgN tg++cap.map λj=>X.N.getD j ""
instance inCz [C:Cz X B k]{N':List Str}{sc:bY}{cl:List (Str×Addr)}{A:Addr}{fp:List Addr}{s:ae}{H:Hp}:Cz (pX X N' sc cl A fp s H) B k:=⟨C.P,C.w,C.K,C.mg,C.b,C.c,C.r⟩
def RO(X:Cx)(N':List Str)(sc:bY)(n:Nat)(cap:List Nat):Bool:=decide cap.Nodup&&decide (sc.kind=.function)&&(sc.names.all λy=>y.2 != .cell)&&(sc.names.all λy=>y.2 != .local||sc.names.lookup y.1==some .local)&&(sc.names.all λy=>y.2 != .free||(X.env.kindOf y.1==some .cell||X.env.kindOf y.1==some .free))&&decide (N'.length=n+cap.length)&&decide ((N'.drop n).map some=cap.map λj=>X.N[j]?)&&((N'.drop n).all λx=>sc.names.lookup x==some .free)
section
variable{sc:bY}{cap:List Nat}{ifs:List Expr}{gg:FG}{ft:FT}{s:FA}
 (h0:RO X (cpN X tg cap) sc n cap=true) (hs:Fz X it) (hi:ZI X B tg it s)
 (h1:∀(cl:List (Str×Addr)) (A:Addr) (fp:List Addr) (s:ae) (H:Hp),ZG (pX X (cpN X tg cap) sc cl A fp s H) B tg n gg)
 (h2:∀(cl:List (Str×Addr)) (A:Addr) (fp:List Addr) (s:ae) (H:Hp),ZF (pX X (cpN X tg cap) sc cl A fp s H) B ifs ft)
 (h3:∀(cl:List (Str×Addr)) (A:Addr) (fp:List Addr) (s:ae) (H:Hp),ZE (pX X (cpN X tg cap) sc cl A fp s H) B e f)
include h0 hs hi h1 h2 h3
theorem RP [C:Cz X B k]:ZN X B (.ListComp e [⟨tg,it,ifs,0⟩] sc pos) (oQ n cap s gg ft f):=by unfold RO at h0;simp only[aR,bu]at h0;obtain⟨⟨⟨⟨⟨⟨⟨a1,a2⟩,a3⟩,a4⟩,a5⟩,a6⟩,a7⟩,a8⟩:=h0;exact⟨Kj a1 (MN (N':=cpN X tg cap) C.c hi.p (λcl A fp s H=>⟨(h1 cl A fp s H).p,(h2 cl A fp s H).p,(h3 cl A fp s H).p⟩) a2 a3 a4 a5 a6 a7 a8 λx=>congrFun hs x)⟩
theorem cpW [C:Cz X B k](h:sets X i x=true)(hw:cn (.ListComp e [⟨tg,it,ifs,0⟩] sc pos) (some (.Name x p)) apos.line X.env=pure true):PS X (.Assign [.Name x p] (.ListComp e [⟨tg,it,ifs,0⟩] sc pos) apos) (xX (zm (tFI B.G s) (tFG B.G n gg) (tFT B.G ft) (tF B.G f) n cap) (sZ i))/\cap.Nodup:=by unfold RO at h0;simp only[aR,bu]at h0;obtain⟨⟨⟨⟨⟨⟨⟨a1,a2⟩,a3⟩,a4⟩,a5⟩,a6⟩,a7⟩,a8⟩:=h0;obtain⟨b1,b2,b3,b4⟩:=DF h;exact⟨NA (N':=cpN X tg cap) C.c b1 b2 b3 hi.p (λcl A fp s H=>⟨(h1 cl A fp s H).p,(h2 cl A fp s H).p,(h3 cl A fp s H).p⟩) a2 a3 a4 a5 a6 a7 a8 (λx=>congrFun hs x) hw b4,a1⟩
theorem RQ [C:Cz X B k](h:sets X i x=true)(hw:cn (.ListComp e [⟨tg,it,ifs,0⟩] sc pos) (some (.Name x p)) apos.line X.env=pure true):ZS X B (.Assign [.Name x p] (.ListComp e [⟨tg,it,ifs,0⟩] sc pos) apos) (px i (cL (oQ n cap s gg ft f))):=by have z:=cpW (k:=k) h0 hs hi h1 h2 h3 h hw;exact⟨KC z.2 z.1⟩
theorem RR [C:Cz X B k](h:sets X i x=true)(hw:cn (.ListComp e [⟨tg,it,ifs,0⟩] sc pos) (some (.Name x p)) apos.line X.env=pure true):ZS X B (.Assign [.Name x p] (.ListComp e [⟨tg,it,ifs,0⟩] sc pos) apos) (rQ i (oQ n cap s gg ft f)):=by have z:=cpW (k:=k) h0 hs hi h1 h2 h3 h hw;exact⟨IB z.2 z.1⟩
end
section
variable{st:Stmt}{sts:List Stmt}{fs fs':FS}{ft:FT}{a':FA}{z1:Nat}
theorem Uo(ha:ZE X B e f)(hr:ZA X B es a)(hs:Sz X e es):ZA X B (e::es) (aCons f a):=⟨sI ha.p hr.p hs⟩
theorem Up:ZA X B [] ox:=⟨ue⟩
theorem RS(ha:ZE X B e f)(hr:ZM X B es i a)(hs:Sz X e es):ZM X B (e::es) i (aCons f a):=⟨IS ha.p hr.p hs⟩
theorem RT(h:sees X i x=true)(hs:S1 X (.Name x p)):ZM X B [.Name x p] i ox:=⟨K6 (pvI h) hs⟩
theorem RU(h:sees X i x=true):ZV X (.Name x p) i:=⟨pvI h⟩
theorem RV(h:ZN X B e a):ZE X B e (cL a):=⟨P7 h.p⟩
theorem Uq{y:Str}:ZE X B (.Constant (.str y) j pos) (cC (.str y)):=⟨PZ⟩
theorem Ur{y:Int}:ZE X B (.Constant (.int y) j pos) (cC (.int y)):=⟨PY⟩
theorem Us{y:Bool}:ZE X B (.Constant (.bool y) j pos) (cC (.bl y)):=⟨TF⟩
theorem Ut:ZE X B (.Constant .none j pos) (cC .non):=⟨P0⟩
theorem Ll(h1:ZS X B st fs)(h2:ZB X B sts fs'):ZB X B (st::sts) (oI fs fs'):=⟨J4 h1.p h2.p⟩
theorem Uu(h1:ZS X B st fs):ZB X B [st] fs:=⟨M0 h1.p⟩
theorem Uv:ZB X B [] pj:=⟨MZ⟩
theorem RW(h:ZE X B e f):ZS X B (.Return (some e) pos) (pb f):=⟨M3 h.p⟩
theorem RX(h:ZN X B e a):ZS X B (.Return (some e) pos) (qw a):=⟨J5 h.p⟩
theorem RY(h:ZE X B e f)(hs:cn e none pos.line X.env=pure false):ZS X B (.Expr e pos) (pd f):=⟨J6 h.p hs⟩
theorem RZ(h:ZT X B e ft)(h1:ZB X B sts fs){sts':List Stmt}(h2:ZB X B sts' fs'):ZS X B (.If e sts sts' pos) (sIf ft fs fs'):=⟨P9 h.p h1.p h2.p⟩
theorem R0:ZE X B e xK:=⟨KG⟩
theorem R7(h:ZA X B es a):ZN X B (.List es pos) (pB a):=⟨MX h.p⟩
theorem R8(h:ZA X B es a):ZE X B (.Tuple es z1 pos) (qe a):=⟨P6 h.p⟩
theorem R9(ha:ZE X B e f)(hb:ZE X B e' f'):ZN X B (.BinOp e .Add e' pos) (q9 f f'):=⟨Nt ha.p hb.p⟩
theorem Sa [C:Cz X B k](ha:ZE X B e f)(hb:ZE X B e' f'):ZE X B (.BinOp e .Add e' pos) (zv f f'):=⟨NF ha.p hb.p C.K⟩
theorem Sb(ha:ZE X B e f)(hb:ZE X B (.BoolOp .And (e'::es) pos) f'):ZE X B (.BoolOp .And (e::e'::es) pos) (rP f f'):=⟨P4 ha.p hb.p⟩
theorem Sd{op}(ha:ZE X B e f):ZE X B (.BoolOp op [e] pos) f:=⟨P3 ha.p⟩
theorem Se(ha:ZE X B e f):ZE X B (.UnaryOp .Not e pos) (Dl f):=⟨P5 ha.p⟩
theorem Sf(ha:ZT X B e ft):ZT X B (.UnaryOp .Not e pos) (qc ft):=⟨MU ha.p⟩
theorem Sg(h:ZT X B o ft)(ha:ZE X B e f)(hb:ZE X B e' f'):ZE X B (.IfExp o e e' pos) (cIf ft f f'):=⟨TN h.p ha.p hb.p⟩
theorem Uw(h:ZT X B e ft):ZF X B [e] ft:=⟨MM h.p⟩
theorem Ux:ZF X B [] pF:=⟨Kk⟩
theorem Sh(h:ZE X B e f):ZE X B e (BM f):=⟨Qs h.p⟩
theorem Si(h:ZT X B e ft):ZT X B e (zt ft):=⟨Nu h.p⟩
theorem Sj(h:ZE X B e f):ZO X B (some e) (oAt f):=⟨QA h.p⟩
theorem Sk:ZO X B none oNo:=⟨Qz⟩
theorem Sm(ha:ZT X B e ft)(hb:ZW X B (.BoolOp .Or (e'::es) pos) fu):ZW X B (.BoolOp .Or (e::e'::es) pos) (uz ft fu):=⟨J2 ha.p hb.p⟩
theorem Sn(h:ZT X B e ft):ZW X B (.BoolOp .Or [e] pos) ft:=⟨MV h.p⟩
theorem So(h:ZT X B e ft):ZW X B (.BoolOp .And [e] pos) ft:=⟨J1 h.p⟩
end
theorem Sq{s:FA}{gg:FG}[C:Cz X B k](hp:hE (model X.prog X.w) X.A X.env X.xe)(hn:X.N.length=n)(hi:ZI X B tg it s)(hg:ZG X B tg n gg)(hb:ZB X B body b)(hs:Fz X it):ZS X B (.For tg it body [] pos) (rZ s gg b):=⟨Nq (Jv hp C.c hi.p hg.p hb.p λx=>congrFun hs x)⟩
theorem Sr(hp:hE (model X.prog X.w) X.A X.env X.xe)(hc:ZT X B e ft)(hb:ZB X B body b):ZS X B (.While e body [] pos) (whL ft b n):=⟨Il n (Js hp hc.p hb.p)⟩
end
end L4
namespace L4
open PySem PySem.Spec PyProof.Rows L2 L3
open PySem.W (fnOf)
def nmO(st:Stmt):List Str:=(oO st).names.filterMap λy=>match y.2 with|.local=>some y.1|.cell=>some y.1|_=>none
def psO(st:Stmt):List Str:=(rN st).args.map (·.arg)
def okO(N ps:List Str)(st:Stmt)(np n:Nat):Bool:=decide ((oO st).kind=.function)&&(oO st).isCoroutine==false&&(oO st).isGenerator==false&&decide N.Nodup&&decide (N.take ps.length=ps)&&(ps.all λx=>match (oO st).names.lookup x with|some .local=>true|some .cell=>true|_=>false)&&((oO st).names.all λy=>y.2 != .free)&&decide (ps.length=np)&&decide (N.length=n)
theorem okk{N ps:List Str}{st:Stmt}{np n:Nat}(h:okO N ps st np n=true):pS N ps (oO st)/\ps.length=np/\N.length=n:=by
 unfold okO at h;simp only[aR,bu,beq_iff_eq]at h;obtain⟨⟨⟨⟨⟨⟨⟨⟨h1,h2⟩,h3⟩,h4⟩,h5⟩,h6⟩,h7⟩,h8⟩,h9⟩:=h;refine⟨⟨h1,h2,h3,h4,h5,λx hx=>?_,λy hy e=>?_⟩,h8,h9⟩
 ·have z:=aY.mp h6 x hx;split at z
  ·rename_i e;exact .inl e
  ·rename_i e;exact .inr e
  ·cases z
 ·have z:=aY.mp h7 y hy;rw[e]at z;exact ao z (by decide)
section
variable{B:Bz}[Y:Yb B]{x m qual:Str}{st s0:Stmt}{l:List Stmt}{k c np n:Nat}{b:FS}{p:Str}{ps xs:List Str}{N:List Str}
abbrev Bdz(B:Bz)(N:List Str)(qual:Str)(st:Stmt)(l:List Stmt)(k:Nat)(b:FS):Prop:=∀{f:Addr} {cdv:aa} {A:az} {outer:List Env} {s:ae} {H:Hp} {E:XK} [Cz (uN B.P B.w B.G.K B.mg B.base N qual st f cdv A outer s H E) B k],ZB (uN B.P B.w B.G.K B.mg B.base N qual st f cdv A outer s H E) B l b
omit Y in
theorem Bdz.ok(h:Bdz B N qual st l k b)(hl:o9 st=l):Bdy B.P B.w B.G.K B.mg B.base N qual st k (tFS B.G b):=λf cdv A outer s H E hr=>by subst hl;exact(@h f cdv A outer s H E ⟨rfl,rfl,rfl,rfl,rfl,rfl,hr⟩).p
theorem gF4{g:List D->Option D}(hg:g=fnD np n b)(q:GD B.G.K x st)(hl:o9 st=s0::l)(body:Bdz B (nmO st) x st (s0::l) k b)(S:okO (nmO st) (psO st) st np n=true:=by kernel_rfl)(bd:Bds x x st (psO st):=by (repeat intro _);rfl):Df B (k+1) x (spF B.G g):=
 ⟨_,gF hg Y.y q (okk S).1 (body.ok hl) (okk S).2.1 (okk S).2.2 bd⟩
theorem gF5(N:List Str){g:List D->Option D}(hg:g=fnD np n b)(q:GD B.G.K x st)(hl:o9 st=s0::l)(body:Bdz B N x st (s0::l) k b)(S:okO N (psO st) st np n=true:=by kernel_rfl)(bd:Bds x x st (psO st):=by (repeat intro _);rfl):Df B (k+1) x (spF B.G g):=
 ⟨_,gF hg Y.y q (okk S).1 (body.ok hl) (okk S).2.1 (okk S).2.2 bd⟩
theorem gA4{fx:Str}{g:List D->Option D}(hg:g=fnD np n b)(q:GDa B.G.K x fx st)(hl:o9 st=s0::l)(body:Bdz B (nmO st) fx st (s0::l) k b)(S:okO (nmO st) (psO st) st np n=true:=by kernel_rfl)(bd:Bds fx fx st (psO st):=by (repeat intro _);rfl):Df B (k+1) x (spF B.G g):=
 ⟨_,gFa hg Y.y q (okk S).1 (λ{f cdv A outer s H E} hr=>body.ok hl f cdv A outer s H E hr) (okk S).2.1 (okk S).2.2 bd⟩
theorem gN4{g:List D->Option (List D)}(hg:g=fnN np n b)(q:GD B.G.K x st)(hl:o9 st=s0::l)(body:Bdz B (nmO st) x st (s0::l) k b)(S:okO (nmO st) (psO st) st np n=true:=by kernel_rfl)(bd:Bds x x st (psO st):=by (repeat intro _);rfl):Df B (k+1) x (spN B.G g):=
 ⟨_,gN' hg Y.y q (okk S).1 (body.ok hl) (okk S).2.1 (okk S).2.2 bd⟩
theorem gL4{g:List D->List D->Option (D×List D)}(hg:g=fnL np n b)(q:GD B.G.K x st)(hl:o9 st=s0::l)(body:Bdz B (nmO st) x st (s0::l) k b)(S:okO (nmO st) (psO st) st (np+1) n=true:=by kernel_rfl)(bd:Bds x x st (psO st):=by (repeat intro _);rfl):Df B (k+1) x (spL B.G g):=
 ⟨_,gL hg Y.y q (okk S).1 (body.ok hl) (okk S).2.1 (okk S).2.2 bd⟩
theorem gM4{g:List D->List D->Option (D×List D)}(hg:g=fnM np n b)(q:GD B.G.K x st)(hl:o9 st=s0::l)(hp:psO st=p::ps)(body:Bdz B (nmO st) x st (s0::l) k b)(S:okO (nmO st) (p::ps) st (np+1) n=true:=by kernel_rfl)(bd:Bds x x st (p::ps):=by (repeat intro _);rfl):Df B (k+1) x (spM B.G g):=
 ⟨_,gM hg Y.y q (okk S).1 (body.ok hl) (gQ (okk S).2.1) (okk S).2.2 bd⟩
theorem hF4{g:List D->Option D}(C:CF B.G.K (B.G.ca c) xs)(hg:g=fnD np n b)(q:GM B.G.K (B.G.ca c) m qual st)(hl:o9 st=s0::l)(body:Bdz B (nmO st) qual st (s0::l) k b)(S:okO (nmO st) (psO st) st np n=true:=by kernel_rfl)(bd:Bds m qual st (psO st):=by (repeat intro _);rfl):yU B.G B.P B.w B.mg B.base (k+1) m c g:=by obtain⟨f,fd,a,i,F⟩:=q;exact⟨f,fd,_,C.ci.cl,⟨a,i,F.kp⟩,bd.ok F,GY hg (okk S).2.1 (okk S).2.2 F (okk S).1 (body.ok hl f)⟩
theorem gI4{g:List D->Option (List Str×List D)}(C:CF B.G.K (B.G.ca c) xs)(a:eG B.G.K aK x=some (some (.ref (B.G.ca c))))(hg:g=fnI c np n b)(q:GM B.G.K (B.G.ca c) "__init__" qual st)(hl:o9 st=s0::l)(hp:psO st=p::ps)(body:Bdz B (nmO st) qual st (s0::l) k b)(S:okO (nmO st) (p::ps) st (np+1) n=true:=by kernel_rfl)(bd:Bds "__init__" qual st (p::ps):=by (repeat intro _);rfl):Kf B (k+1) x c g []:=
 ⟨⟨_,gI hg Y.y C a q (okk S).1 (body.ok hl) (gQ (okk S).2.1) (okk S).2.2 bd⟩,rfl⟩
theorem gJ4{g:List D->Option (List Str×List D)}{dds:List D}(C:CF B.G.K (B.G.ca c) xs)(a:eG B.G.K aK x=some (some (.ref (B.G.ca c))))(hg:g=fnI c np n b)(q:GJ B.G.K (B.G.ca c) qual st (dds.map vD))(hl:o9 st=s0::l)(hp:psO st=p::ps)(body:Bdz B (nmO st) qual st (s0::l) k b)(j:Nat)(S:okO (nmO st) (p::ps) st (np+1) n=true:=by kernel_rfl)(hf:dds.all qP=true:=by rfl)
  (bd:FX (dds.map vD).length λdl=>FX ((p::ps).length - ((dds.map vD).drop j).length) λus=>∀(T:Addr) (kV doc pm:aa) (an:Option Addr) (cdv ct:aa),∃k,bindArgs (fnOf "__init__" qual (rN st) (o9 st) (oO st) (.ref T) kV doc pm an cdv ct) ⟨us,[]⟩=seqItems? (.ref T)>>=k/\k (some dl.toArray)=pure ((p::ps).zip (us++dl.drop j)):=by (repeat intro _);exact⟨_,rfl,rfl⟩):Kf B (k+1) x c g (dds.drop j):=
 ⟨⟨_,by rw[fz];exact gJ hg Y.y C a q (okk S).1 (body.ok hl) j (gQ (okk S).2.1) (okk S).2.2 bd⟩,by
  rw[aY]at hf ⊢;exact λd h=>hf d (jO h)⟩
theorem Oa(n:Nat)(ca:Nat->Addr):∀k,k<n->((aX n).map ca).getD k 0=ca k:=λk h=>by rw[bF,aW,jQ h];rfl
theorem UY{n:Nat}{ca:Nat->Addr}(h:decide ((aX n).map ca).Nodup=true):∀j k,j<n->k<n->ca j=ca k->j=k:=λj k hj hk e=>by rw[<-Oa n ca j hj,<- Oa n ca k hk]at e;exact QL (bP h) (by simpa using hj) (by simpa using hk) e
def Jd:Nat->(Nat->Prop)->Prop
 |0,_=>True
 |n+1,Q=>Q 0/\Jd n λk=>Q (k+1)
theorem Jd.at:∀{n:Nat} {Q:Nat->Prop},Jd n Q->∀k,k<n->Q k
 |_+1,_,h,0,_=>h.1
 |_+1,_,h,k+1,hk=>Jd.at (Q:=λk=>_) h.2 k (Nat.lt_of_succ_lt_succ hk)
end
end L4
namespace L2
open PySem PySem.Spec PyProof.Rows
section
variable{X:Cx}{pins:List (Addr×Obj)}{σ:St}{H H' H1:Hp}{s s1:ae}{as:List Addr}
def xj(H H1:Hp)(as:List Addr):Hp:=λb=>if b∈as then H b else H1 b
end
end L2
namespace L4
open PySem PySem.Spec PyProof.Rows L2 L3
open PySem.W (fnOf)
section
variable{X:Cx}{B:Bz}{k j i n:Nat}{x y:Str}{e e' tg:Expr}{es:List Expr}{p p2 p3 pos apos:Pos}{f f':FE}{a:FA}{st:Stmt}{sts:List Stmt}{fs fs':FS}{ft:FT}
theorem Ss{e2:Expr}{f2:FE}[C:Cz X B k](ha:ZE X B e f)(hb:ZE X B e' f')(hc:ZE X B e2 f2)(h1:Az X e "get")(h2:Ez apos pos)(h3:ar [e',e2] X.env=[(false,eval e' X.env),(false,eval e2 X.env)]):ZE X B (.Call (.Attribute e "get" apos) [e',e2] [] pos) (G1 f f' f2):=⟨KH (GB C.r) ha.p hb.p hc.p ⟨h1,by rw[h3];rfl,h2,by rw[h3];rfl⟩⟩
end
end L4
namespace L4
open PySem PySem.Spec PyProof.Rows L2 L3
section
variable{t:hU}{m n:Nat}
def rs(m i q:Nat):gE:=⟨i,iB m i - i,i,q,none⟩
end
section
variable{ow:Array (Option Nat)}
def lv(ow:Array (Option Nat)):List (Nat×Nat):=(aX 32).filterMap λj=>(ow.getD j none).map (j,·)
end
end L4
namespace L4
open PySem PySem.Spec PySem.Calls PyProof.Rows PySem.W L2 L3
noncomputable abbrev a1(e:FE):FA:=aCons e ox
end L4
namespace L4
open PySem PySem.Spec PyProof.Rows L2 L3
section
variable{X:Cx}{B:Bz}{k j i m:Nat}{x:Str}{e e':Expr}{es:List Expr}{d:D}{p pos:Pos}{g:D->D->Option D}
theorem Uy{l:List Stmt}:ZB X B l Ua:=⟨λpins s σ H D I h=>by
 obtain⟨F,ρ,H0,o,R,e,_⟩:=h;cases e⟩
end
mutual
def A9:D->Bool
 |.non=>true
 |.bl _=>true
 |.int _=>true
 |.str _=>true
 |.tup ds=>Ba ds
 |.lst ds=>Ba ds
 |_=>false
def Ba:List D->Bool
 |[]=>true
 |d::ds=>A9 d&&Ba ds
end
mutual
theorem Rep.but{G:Bg}{H H1:Hp}(e:∀b o,H b=some o->(∀u kvs,o≠HO.frz u (.dK kvs))->H1 b=some o):∀(d:D) (v:V),A9 d=true->Rep G H d v->Rep G H1 d v
 |.non,v,_,h=>by unfold Rep at h ⊢;exact h
 |.bl b,v,_,h=>by unfold Rep at h ⊢;exact h
 |.int i,v,_,h=>by unfold Rep at h ⊢;exact h
 |.str x,v,_,h=>by unfold Rep at h ⊢;exact h
 |.tup ds,v,n,h=>by
  unfold Rep at h ⊢;unfold A9 at n;obtain⟨a,xs,rfl,h1,h2⟩:=h;refine⟨a,xs,rfl,?_,Reps.but e ds xs n h2⟩;rcases h1 with (h|⟨o,h⟩)|h
  ·exact .inl (.inl (e _ _ h λ_ _ z=>nomatch z))
  ·exact .inl (.inr ⟨o,e _ _ h λ_ _ z=>nomatch z⟩)
  ·exact .inr h
 |.lst ds,v,n,h=>by unfold Rep at h ⊢;unfold A9 at n;obtain⟨a,xs,rfl,h1,h2⟩:=h;exact⟨a,xs,rfl,e _ _ h1 (λ_ _ z=>nomatch z),Reps.but e ds xs n h2⟩
 |.fzl ds,v,n,h=>by unfold A9 at n;cases n
 |.obj c ns ds,v,n,h=>by unfold A9 at n;cases n
 |.dic ks ds,v,n,h=>by unfold A9 at n;cases n
theorem Reps.but{G:Bg}{H H1:Hp}(e:∀b o,H b=some o->(∀u kvs,o≠HO.frz u (.dK kvs))->H1 b=some o):∀(ds:List D) (xs:List V),Ba ds=true->Reps G H ds xs->Reps G H1 ds xs
 |[],xs,_,h=>by unfold Reps at h ⊢;exact h
 |d::ds,xs,n,h=>by unfold Reps at h ⊢;unfold Ba at n;rw[aR]at n;obtain⟨v,r,rfl,h1,h2⟩:=h;exact⟨v,r,rfl,Rep.but e d v n.1 h1,Reps.but e ds r n.2 h2⟩
end
def tFP(G:Bg)(i j:Nat)(f:FS):TS:=λE σ H=>∃F ρ H0 ρ' k1 d1 k2 d2,RelE G F σ ρ H0 H/\f ρ=some (.nx ρ')/\ρ'[i]?=some (Sl.dk k1 d1)/\ρ'[j]?=some (Sl.dk k2 d2)/\∀t p q σ' H0' H',oM H0 H0'->RelE G F σ' ρ' H0' H'->(σ'[i]?).join=some (V.ref p)->(σ'[j]?).join=some (V.ref q)->H' t=none->E.rt (.ref t) (upd H' t (.tup [.ref p,.ref q]))
variable{st:Stmt}
section
variable{X:Cx}{G:Bg}{i j:Nat}{f g:FS}
theorem Su{e e':Expr}{n:Nat}{p pos:Pos}(h:PE X e (ua i))(h':PE X e' (ua j))(hs:ar [e,e'] X.env=(false,eval e X.env)::ar [e'] X.env)(hs':ar [e'] X.env=[(false,eval e' X.env)]):PSs X [.Return (some (.Tuple [e,e'] n p)) pos] (tFP G i j pj):=zX (PS.weak (CV (JE (qK h (qK h' uy hs') hs))) λE σ H hh=>by
 obtain⟨F,ρ,H0,ρ',k1,d1,k2,d2,R,e,e1,e2,k⟩:=hh;cases e;obtain⟨a,xs,h1,_⟩:=R.sl i _ e1;obtain⟨b,ys,h2,_⟩:=R.sl j _ e2;exact⟨_,qv h1,_,qv h2,sf (show 2<=1000 by decide),λt ht=>k t a b _ _ _ (oM.refl _) R h1 h2 ht⟩)
theorem Ob{rest:List Stmt}(h1:PS X st (tFS G f))(h2:PSs X rest (tFP G i j g)):PSs X (st::rest) (tFP G i j (oI f g)):=PSs.weak (xW h1 h2) λE σ H h=>by
 obtain⟨F,ρ,H0,ρ',k1,d1,k2,d2,R,e,e2,e3,k⟩:=h;unfold oI at e;split at e
 ·rename_i ρ1 e1;exact⟨F,ρ,H0,_,R,e1,λσ' H0' H' s R'=>⟨F,ρ1,H0',ρ',k1,d1,k2,d2,R',e,e2,e3,λt p q σ2 H2 H2' s2=>k t p q σ2 H2 H2' (s.trans s2)⟩,λ_=>rfl⟩
 ·rename_i n;exact ao e (n _)
end
abbrev Dk2:=(List Key×List D)×(List Key×List D)
def fnP(np n i j:Nat)(f:FS):List D->Option Dk2:=λds=>if ds.length=np then match f (stE n ds)with
 |some (.nx ρ)=>match ρ[i]?,ρ[j]? with
  |some (Sl.dk k1 d1),some (Sl.dk k2 d2)=>some ((k1,d1),(k2,d2))
  |_,_=>none
 |_=>none
 else none
variable{np i j:Nat}
theorem EM{n:Nat}{f:FS}{ds d1 d2:List D}{k1 k2:List Key}(h:fnP np n i j f ds=some ((k1,d1),(k2,d2))):ds.length=np/\∃ρ,f (stE n ds)=some (.nx ρ)/\ρ[i]?=some (Sl.dk k1 d1)/\ρ[j]?=some (Sl.dk k2 d2):=by
 unfold fnP at h;split at h
 ·rename_i hl;refine⟨hl,?_⟩;split at h
  ·rename_i ρ e;split at h
   ·rename_i e1 e2;cases h;exact⟨ρ,e,e1,e2⟩
   ·cases h
  ·cases h
 ·cases h
def spP(G:Bg)(g:List D->Option Dk2):Sp:=λvs H Q _=>∃(H0:Hp) (ds:List D) (k1:List Key) (d1:List D) (k2:List Key) (d2:List D),oM H0 H/\Reps G H0 ds vs/\g ds=some ((k1,d1),(k2,d2))/\
 ∀t p q z1 z2 H0' H',oM H0 H0'->oM H0' H'->oM H H'->(∀b o,H0' b=some o->H0 b=some o\/H b=none)->H p=none->H q=none->p≠q->H' p=some (.dK (k1.zip z1))->H' q=some (.dK (k2.zip z2))->H0' p=none->H0' q=none->k1.length=z1.length->k2.length=z2.length->Reps G H0' d1 z1->Reps G H0' d2 z2->H' t=some (.tup [.ref p,.ref q])->Q (.ref t) H'
variable{E:XK}
section
variable{X:Cx}{G:Bg}
theorem Oc{N:List Str}{f:FS}{vs:List V}{H:Hp}{Q:VK}(hij:i≠j)(hN:np<=N.length)(h:spP G (fnP np N.length i j f) vs H Q E):tFP G i j f { nx:=λ_ H'=>Q .non H',rt:=Q } (L2.start N vs) H:=by
 obtain⟨H0,ds,k1,d1,k2,d2,s,r,e,k⟩:=h;obtain⟨hl,ρ,e1,e2,e3⟩:=EM e;have R:=yP (N:=N) s r (by rw[<-oG r,hl];exact hN);refine⟨_,_,H0,ρ,k1,d1,k2,d2,R,e1,e2,e3,λt p q σ' H0' H' s' R' hp hq ht=>?_⟩;obtain⟨p',z1,a1,a2,a3,a4,a5,a6⟩:=R'.sl i _ e2;rw[hp]at a1;cases a1;obtain⟨q',z2,b1,b2,b3,b4,b5,b6⟩:=R'.sl j _ e3;rw[hq]at b1;cases b1;have ne:p≠q:=λz=>R'.ap i j _ _ p hij e2 e3 rfl rfl hp (by rw[z];exact hq);have nt:∀{b o},H' b=some o->b≠t:=λ{b o} e z=>by rw[z,ht]at e;cases e
 refine k t p q z1 z2 H0' _ s' (λb o e=>?_) (λb o e=>?_) R'.fr a4 b4 ne ?_ ?_ a3 b3 a5 b5 a6 b6 oH
 ·rw[oF (nt (R'.sub _ _ e))];exact R'.sub _ _ e
 ·have q:=R'.keep b o e (by simp);rw[oF (nt q)];exact q
 ·rw[oF (nt a2)];exact a2
 ·rw[oF (nt b2)];exact b2
theorem Uz{g:List D->Option Dk2}(hg:∀ds q,g ds=some q->ds.length=np):∀vs H Q E,spP G g vs H Q E->vs.length=np:=λvs H Q E h=>by obtain⟨H0,ds,k1,d1,k2,d2,s,r,e,k⟩:=h;rw[<-oG r,hg _ _ e]
def Cv(i j:Nat)(g:List D->Option Dk2)(a:FA):FS:=λρ=>match a ρ with
 |some (ds,ρ1)=>match g ds with
  |some ((k1,d1),(k2,d2))=>some (.nx ((ρ1.set i (.dk k1 d1)).set j (.dk k2 d2)))
  |none=>none
 |none=>none
theorem Lm{g:List D->Option Dk2}{a:FA}(hij:i≠j)(h:PS X st (xX (xc (spP G g) [] E (tFA G a)) (Ml G.K 2 (Gp (sZ i) (Gp (sZ j) Pg))))):PS X st (tFS G (Cv i j g a)):=PS.weak h λE' σ H hh=>by
 obtain⟨F,ρ,H0,o,R,e,k,k2⟩:=hh;unfold Cv at e;rcases oY (f:=a) (ρ:=ρ)with e1|⟨ds,ρ1,e1⟩<;>simp only[e1]at e
 ·cases e
 ·cases e3:g ds with
  |none=>simp only[e3]at e;cases e
  |some q=>
   obtain⟨⟨k1,d1⟩,⟨k2',d2⟩⟩:=q;simp only[e3]at e;cases e;refine⟨F,ρ,H0,ds,ρ1,R,e1,λys H1 H1' s R' rs=>?_⟩;refine⟨H1,ds,k1,d1,k2',d2,R'.sub,by rw[br];exact rs,e3,λt p q z1 z2 H2 H2' u1 u2 u3 fr hp hq ne w1 w2 w3 w4 w5 w6 w7 w8 wt=>?_⟩;have R2:=R'.grow u3 u1 u2 fr;refine⟨t,[.ref p,.ref q],rfl,SqT.of wt,rfl,?_⟩;have Z1:RelE G F (σ.set i (some (.ref p))) (ρ1.set i (.dk k1 d1)) H2 H2':=R2.set (s:=.dk k1 d1) ⟨p,z1,rfl,w1,w3,R'.bNone hp,w5,w7⟩ λ_ b eq m t _ em to=>by cases eq;exact R'.apart hp m t em to
   have Z2:RelE G F ((σ.set i (some (.ref p))).set j (some (.ref q))) ((ρ1.set i (.dk k1 d1)).set j (.dk k2' d2)) H2 H2':=Z1.set (s:=.dk k2' d2) ⟨q,z2,rfl,w2,w4,R'.bNone hq,w6,w8⟩ λ_ b eq m t hm em to=>by
    cases eq;by_cases h:i=m
    ·subst h;intro z;rw[bo,aj rfl]at z;split at z
     ·exact ne (by injection z with z;injection z)
     ·cases z
    ·rw[bo,ai h]at em ⊢;exact R'.apart hq m t em to
   exact⟨_,_,rfl,_,_,rfl,rfl,k _ _ _ (s.trans u1) Z2⟩
end
section
variable{P:au}{w:aq}{K:ak}{mg:Str->Option aa}{base:Heap}{x qual:Str}{st:Stmt}{f T:Addr}{fd:bb}{N ps:List Str}{k:Nat}{G:Bg}
theorem UA{n:Nat}{g:List D->Option Dk2}{b:FS}(hg:g=fnP np n i j b)(hij:i≠j)(hp:ps.length=np)(hN:N.length=n)(F:Fun K x qual st f fd)(S:pS N ps (oO st))(body:∀(cdv:aa) (A:az) (outer:List Env) (s:ae) (H:Hp) (E:XK),pW k (A.deeper (envOfC qual (oO st) s.heap.objs.size f cdv))->PSs (uN P w K mg base N qual st f cdv A outer s H E) (o9 st) (tFP G i j b)):
  se P w K mg base CX0 (k+1) f fd ps (spP G g):=by
 subst hg hN hp;refine F.ok S (Uz λds q h=>(EM (k1:=q.1.1) (d1:=q.1.2) (k2:=q.2.1) (d2:=q.2.2) h).1) λcdv A outer s H vs Q E hr h=>⟨_,body cdv A outer s H E hr,Oc hij (by have:=aL bH S.pre;rw[bq]at this;omega) h⟩
end
end L4
namespace L4
open PySem PySem.Spec PyProof.Rows L2 L3
open PySem.W (fnOf)
structure ZDp(X:Cx)(B:Bz)(i j:Nat)(e:List Stmt)(f:FS):Prop where p:PSs X e (tFP B.G i j f)
section
variable{X:Cx}{B:Bz}{k j i n:Nat}{x y x':Str}{e e' tg:Expr}{es:List Expr}{p p2 p3 pos apos:Pos}{f f':FE}{a:FA}{st:Stmt}{sts:List Stmt}{fs fs':FS}{ft:FT}
theorem Sv(h:sees X i x=true)(h':sees X j x'=true)(hs:Sz X (.Name x p) [.Name x' p2])(hs':S1 X (.Name x' p2)):ZDp X B i j [.Return (some (.Tuple [.Name x p,.Name x' p2] n p3)) pos] pj:=⟨Su (pvI h) (pvI h') hs hs'⟩
theorem Sw(h1:ZS X B st fs)(h2:ZDp X B i j sts fs'):ZDp X B i j (st::sts) (oI fs fs'):=⟨Ob h1.p h2.p⟩
theorem Sx{m:Nat}{g:List D->Option Dk2}{p4:Pos}[C:Cz X B k][Q:Df B m y (spP B.G g)](hij:dM i j=false)(h:sets X i x=true)(h':sets X j x'=true)(hg:Gz X y)(hd:Dz y)(hs:Sz X e es)(hl:Lz X pos es)(ha:ZA X B (e::es) a)(hj:cW m k=true)
  (ht:(bz [.Name x p,.Name x' p3] X.env).map (·.2)=assign (.Name x p) X.env::(bz [.Name x' p3] X.env).map (·.2)) (ht':(bz [.Name x' p3] X.env).map (·.2)=assign (.Name x' p3) X.env::(bz [] X.env).map (·.2))
  (hn:(bz [.Name x p,.Name x' p3] X.env).length=2) (hf:(bz [.Name x p,.Name x' p3] X.env).findIdx? (·.1)=none)
  (hw:swapsWithSole [.Tuple [.Name x p,.Name x' p3] n p4] (.Call (.Name y p2) (e::es) [] pos) apos.line X.env=pure false) (hw2:swappedStores [.Tuple [.Name x p,.Name x' p3] n p4] (.Call (.Name y p2) (e::es) [] pos) X.env=pure none) (h1:(bz [.Tuple [.Name x p,.Name x' p3] n p4] X.env).map (·.2)=[assign (.Tuple [.Name x p,.Name x' p3] n p4) X.env]):
  ZS X B (.Assign [.Tuple [.Name x p,.Name x' p3] n p4] (.Call (.Name y p2) (e::es) [] pos) apos) (Cv i j g a):=by
 obtain⟨ps,q⟩:=dz hg hd (X:=X) (Q:=Q);obtain⟨f,fd,q1,q2,q3,q4⟩:=q;exact⟨Lm (λz=>by rw[z,iI]at hij;cases hij) (Pi (xY (p:=p2) (pos:=pos) q4 (C.r.mono (cR.mp hj)) hg q1 q2 q3 .nil zk ha.p hd hs hl) (GF B.G.K C.c (Aj (pgI h) (Aj (pgI h') Gq ht') ht) hn hf C.K) hw hw2 h1)⟩
end
section
variable{B:Bz}[Y:Yb B]{x:Str}{st s0:Stmt}{l:List Stmt}{k np n i j:Nat}{b:FS}
theorem gP4{g:List D->Option Dk2}(hg:g=fnP np n i j b)(hij:dM i j=false)(q:GD B.G.K x st)(hl:o9 st=s0::l)
  (body:∀{f:Addr} {cdv:aa} {A:az} {outer:List Env} {s:ae} {H:Hp} {E:XK} [Cz (uN B.P B.w B.G.K B.mg B.base (nmO st) x st f cdv A outer s H E) B k],ZDp (uN B.P B.w B.G.K B.mg B.base (nmO st) x st f cdv A outer s H E) B i j (s0::l) b)
  (S:okO (nmO st) (psO st) st np n=true:=by kernel_rfl) (bd:Bds x x st (psO st):=by (repeat intro _);rfl):Df B (k+1) x (spP B.G g):=
 ⟨_,gD Y.y q bd λf fd F=>UA hg (λz=>by rw[z,iI]at hij;cases hij) (okk S).2.1 (okk S).2.2 F (okk S).1 λcdv A outer s H E hr=>by
  rw[hl];exact(@body f cdv A outer s H E ⟨rfl,rfl,rfl,rfl,rfl,rfl,hr⟩).p⟩
end
end L4
namespace L4
open PySem PySem.Spec PySem.Calls PyProof.Rows PySem.W L2 L3
def tOr(t t':Ty->Option Bool):Ty->Option Bool:=λy=>match t y with
 |some true=>match t' y with
  |some _=>some true
  |none=>none
 |some false=>t' y
 |none=>none
end L4
namespace L4
open PySem PySem.Spec PyProof.Rows L2 L3
section
variable{X:Cx}{B:Bz}{k i:Nat}{x:Str}{p pos apos:Pos}
theorem zr_clI [C:Cz X B k](h:sees X i x=true)(hb:Az X (.Name x p) "clear")(hl:Ez apos pos):ZE X B (.Call (.Attribute (.Name x p) "clear" apos) [] [] pos) (Ik i):=⟨Kg (by rw[<-C.K];exact PF eZ kj F.type_list_clear JO (pvI h) hb hl)⟩
end
section
variable{B:Bz}[Y:Yb B]{x m qual:Str}{st s0:Stmt}{l:List Stmt}{k c c0 np n:Nat}{b:FS}{p:Str}{ps xs:List Str}{N:List Str}
omit Y in
end
def dV(g:List D->Option (Option D)):List D->Option D:=λds=>match g ds with
 |some (some d)=>some d
 |_=>none
end L4
namespace L2
open PySem PySem.Spec PyProof.Rows
section
variable{X:Cx}{pins:List (Addr×Obj)}{σ:St}{H H' H1:Hp}{s s1:ae}{as:List Addr}
theorem Inv.freezeL{a:Addr}{xs:List V}(I:Inv X pins σ H s)(e:H a=some (.lst xs)):∃o,Inv X pins σ (upd H a (.frz o (.lst xs))) s:=by
 obtain⟨z,its,n,r,e1⟩:=(show ObjOk X.prog X.w H s.heap a (.lst xs) from I.hok a _ e);refine⟨{ cls:=.type "list", data:=.seq its.toArray n },?_⟩;have I':=I.step (H':=upd H a (.frz { cls:=.type "list", data:=.seq its.toArray n } (.lst xs))) (h':=s.heap) (g':=s.gens) (d':=s.drawn) (t':=s.toks) (ch:=[]) (λ_ z=>nomatch z) (λb o _ _ _ q _=>q) (λb o _ _ _ q _=>⟨o.slots,q⟩)
  (λb o _ _ n=>by rw[oF (λz=>by subst z;rw[e]at n;cases n)];exact n) (λb o _ q=>⟨o,q⟩) (λb ys q=>qD e q (λz=>nomatch z) _) (λb o u q=>qD e q (λz=>nomatch z) _)
  (λb ps q=>⟨#[],by rw[qD e q (λz=>nomatch z) _];simp⟩) (λm q=>q) ?_ I.bare
 ·obtain⟨h,g,d,t,os⟩:=s;exact I'
 ·intro b u q;have st:∀{b:Addr} {u:HO},ObjOk X.prog X.w H s.heap b u->ObjOk X.prog X.w (upd H a (.frz { cls:=.type "list", data:=.seq its.toArray n } (.lst xs))) s.heap b u:=λ{b u} x=>x.stay (λ_ _ _ q=>q) (λc q=>qD e q (λz=>nomatch z) _) λc ys q=>qD e q (λz=>nomatch z) _
  by_cases hb:b=a
  ·subst hb;rw[oH]at q;cases q;exact⟨e1,st (I.hok b _ e)⟩
  ·rw[oF hb]at q;exact st (I.hok b u q)
def FrzL(H:Hp)(as:List Addr)(H':Hp):Prop:=(∀b,b∉as->H' b=H b)/\∀a∈as,∃o xs,H a=some (.lst xs)/\H' a=some (.frz o (.lst xs))
theorem Inv.freezesL(I:Inv X pins σ H s):∀as:List Addr,(∀a∈as,∃xs,H a=some (.lst xs))->∃H',FrzL H as H'/\Inv X pins σ H' s
 |[],_=>⟨H,⟨λ_ _=>rfl,λ_ h=>nomatch h⟩,I⟩
 |a::as,h=>by
  obtain⟨H',F,I'⟩:=Inv.freezesL I as λb hb=>h b (.tail _ hb);by_cases ha:a∈as
  ·refine⟨H',⟨λb hb=>F.1 b λz=>hb (.tail _ z),λb hb=>?_⟩,I'⟩;rcases aJ.mp hb with rfl|hb
   ·exact F.2 _ ha
   ·exact F.2 _ hb
  ·obtain⟨xs,e⟩:=h a (.head _);obtain⟨o,I2⟩:=I'.freezeL ((F.1 a ha).trans e);refine⟨_,⟨λb hb=>?_,λb hb=>?_⟩,I2⟩
   ·rw[oF (λz:b=a=>hb (by rw[z];exact .head _))];exact F.1 b λz=>hb (.tail _ z)
   ·by_cases hba:b=a
    ·subst hba;exact⟨o,xs,e,oH⟩
    ·rw[oF hba];rcases aJ.mp hb with z|z
     ·exact ao z hba
     ·exact F.2 b z
theorem Inv.thawsL(I:Inv X pins σ H s)(F:FrzL H as H')(I1:Inv X pins σ H1 s1)(k:∀a∈as,H1 a=H' a):Inv X pins σ (xj H H1 as) s1:=by
 have two:∀{P:Option HO->Prop} {b:Addr},P (H b)->P (H1 b)->P (xj H H1 as b):=λ{P b} p q=>by
  unfold xj;split
  ·exact p
  ·exact q
 have st:∀{b:Addr} {u:HO},ObjOk X.prog X.w H1 s1.heap b u->ObjOk X.prog X.w (xj H H1 as) s1.heap b u:=λ{b u} x=>by
  have no:∀c v,(∀o xs,v≠HO.frz o (.lst xs))->H1 c=some v->xj H H1 as c=some v:=λc v n q=>by
   unfold xj;split
   ·rename_i hc;obtain⟨o,xs,_,e2⟩:=F.2 c hc;rw[k c hc,e2]at q;exact ao (bE q).symm (n o xs)
   ·exact q
  exact x.stay (λ_ _ _ q=>q) (λc q=>no c _ (λ_ _ z=>nomatch z) q) λc ys q=>no c _ (λ_ _ z=>nomatch z) q
 exact {
  ok:=I1.ok,os:=I1.os,bare:=I1.bare,loc:=I1.loc,cell:=I1.cell,len:=I1.len
  base:={
   keep:=I1.base.keep,slot:=I1.base.slot,there:=I1.base.there
   free:=λb o q n x=>two (P:=λz=>z=none) (I.base.free b o q n x) (I1.base.free b o q n x)
   tups:=λb ys q=>two (P:=λz=>z=_) (I.base.tups b ys q) (I1.base.tups b ys q)
   frzs:=λb o u q=>two (P:=λz=>z=_) (I.base.frzs b o u q) (I1.base.frzs b o u q)
   tbls:=λb ps q=>two (P:=λz=>∃more,z=some (.tbl (ps++more))) (I.base.tbls b ps q) (I1.base.tbls b ps q) }
  free:=two (P:=λz=>z=none) I.free I1.free
  freeC:=λx c q=>two (P:=λz=>z=none) (I.freeC x c q) (I1.freeC x c q)
  pin:=λp hp=>⟨(I1.pin p hp).1,two (P:=λz=>z=none) (I.pin p hp).2.1 (I1.pin p hp).2.1,(I1.pin p hp).2.2⟩
  hok:=λb u q=>by
   unfold xj at q;split at q
   ·rename_i hb;obtain⟨o,xs,e1,e2⟩:=F.2 b hb;rw[e1]at q;cases q;exact st (show ObjOk X.prog X.w H1 s1.heap b (.frz o (.lst xs)) from I1.hok b _ ((k b hb).trans e2)).2
   ·exact st (I1.hok b u q) }
theorem PE.lendL{e:Expr}{t:TE}(h:PE X e t):PE X e (λσ H Q=>∃as:List Addr,(∀a∈as,∃xs,H a=some (.lst xs))/\∀H',FrzL H as H'->t σ H' λx H1=>(∀a∈as,H1 a=H' a)/\Q x (xj H H1 as)):=λpins s σ H Q I ⟨as,hd,hq⟩=>by obtain⟨H',F,I'⟩:=I.freezesL as hd;exact thn (h pins s σ H' _ I' (hq H' F)) λu s1 ⟨x,H1,I1,r,k,q⟩=>⟨x,_,I.thawsL F I1 k,r,q⟩
end
end L2
namespace L4
open PySem PySem.Spec PyProof.Rows L2 L3
mutual
def noFz:D->Bool
 |.fzl _=>false
 |.tup ds=>noFzs ds
 |.lst ds=>noFzs ds
 |.obj _ _ ds=>noFzs ds
 |.dic _ ds=>noFzs ds
 |_=>true
def noFzs:List D->Bool
 |[]=>true
 |d::ds=>noFz d&&noFzs ds
end
mutual
theorem Rep.butL{G:Bg}{H H1:Hp}(e:∀b o,H b=some o->(∀u xs,o≠HO.frz u (.lst xs))->H1 b=some o):∀(d:D) (v:V),noFz d=true->Rep G H d v->Rep G H1 d v
 |.non,v,_,h=>by unfold Rep at h ⊢;exact h
 |.bl b,v,_,h=>by unfold Rep at h ⊢;exact h
 |.int i,v,_,h=>by unfold Rep at h ⊢;exact h
 |.str x,v,_,h=>by unfold Rep at h ⊢;exact h
 |.tup ds,v,n,h=>by
  unfold Rep at h ⊢;unfold noFz at n;obtain⟨a,xs,rfl,h1,h2⟩:=h;refine⟨a,xs,rfl,?_,Reps.butL e ds xs n h2⟩;rcases h1 with (h|⟨o,h⟩)|h
  ·exact .inl (.inl (e _ _ h λ_ _ z=>nomatch z))
  ·exact .inl (.inr ⟨o,e _ _ h λ_ _ z=>nomatch z⟩)
  ·exact .inr h
 |.lst ds,v,n,h=>by unfold Rep at h ⊢;unfold noFz at n;obtain⟨a,xs,rfl,h1,h2⟩:=h;exact⟨a,xs,rfl,e _ _ h1 (λ_ _ z=>nomatch z),Reps.butL e ds xs n h2⟩
 |.fzl ds,v,n,h=>by unfold noFz at n;cases n
 |.obj c ns ds,v,n,h=>by unfold Rep at h ⊢;unfold noFz at n;obtain⟨a,dx,ys,rfl,h1,h2,h3⟩:=h;exact⟨a,dx,ys,rfl,e _ _ h1 (λ_ _ z=>nomatch z),h2,Reps.butL e ds ys n h3⟩
 |.dic ks ds,v,n,h=>by unfold Rep at h ⊢;unfold noFz at n;obtain⟨a,o,xs,rfl,h1,h2,h3⟩:=h;exact⟨a,o,xs,rfl,e _ _ h1 (λ_ _ z=>nomatch z),h2,Reps.butL e ds xs n h3⟩
theorem Reps.butL{G:Bg}{H H1:Hp}(e:∀b o,H b=some o->(∀u xs,o≠HO.frz u (.lst xs))->H1 b=some o):∀(ds:List D) (xs:List V),noFzs ds=true->Reps G H ds xs->Reps G H1 ds xs
 |[],xs,_,h=>by unfold Reps at h ⊢;exact h
 |d::ds,xs,n,h=>by unfold Reps at h ⊢;unfold noFzs at n;rw[aR]at n;obtain⟨v,r,rfl,h1,h2⟩:=h;exact⟨v,r,rfl,Rep.butL e d v n.1 h1,Reps.butL e ds r n.2 h2⟩
end
def Sl.fzL:Sl->Sl
 |.ls ds=>.im (.fzl ds)
 |s=>s
def Sl.lfz:Sl->Bool
 |.un=>true
 |.im _=>true
 |.ls _=>true
 |_=>false
def lentL(σ:St)(ρ:List Sl):List Addr:=(aX ρ.length).filterMap λi=>match ρ[i]?,(σ[i]?).join with
 |some (Sl.ls _),some (V.ref a)=>some a
 |_,_=>none
def cLndF(f:FE):FE:=λρ=>if ρ.all Sl.lfz=true then match f (ρ.map Sl.fzL)with
 |some (d,_)=>if noFz d=true then some (d,ρ)else none
 |none=>none
 else none
section
variable{X:Cx}{G:Bg}{F:Fr}{σ σ':St}{ρ ρ':List Sl}{H0 H H1 H1' H':Hp}{a:Addr}
theorem lentL_mem:a∈lentL σ ρ ↔ ∃(i:Nat) (ds:List D),ρ[i]?=some (Sl.ls ds)/\(σ[i]?).join=some (V.ref a):=by
 unfold lentL;rw[f6];constructor
 ·rintro⟨i,_,h⟩;split at h
  ·rename_i ds b e1 e2;cases h;exact⟨i,ds,e1,e2⟩
  ·cases h
 ·rintro⟨i,ds,e1,e2⟩;exact⟨i,bL.mpr (bt.mp e1).1,by rw[e1,e2]⟩
theorem RelE.lentLD(R:RelE G F σ ρ H0 H)(h:a∈lentL σ ρ):H0 a=none/\∃xs,H a=some (.lst xs):=by obtain⟨i,ds,e1,e2⟩:=lentL_mem.mp h;obtain⟨b,xs,h1,h2,h3,_⟩:=R.sl i _ e1;rw[e2]at h1;cases h1;exact⟨h3,_,h2⟩
def lenBL(σ:St)(ρ:List Sl)(H0 H':Hp):Hp:=λb=>if b∈lentL σ ρ then H' b else H0 b
theorem RelE.lndL(R:RelE G F σ ρ H0 H)(Z:FrzL H (lentL σ ρ) H')(hk:ρ.all Sl.lfz=true):RelE G ⟨lenBL σ ρ H0 H',H',[]⟩ σ (ρ.map Sl.fzL) (lenBL σ ρ H0 H') H':=by
 have s0:oM H0 (lenBL σ ρ H0 H'):=λb o e=>by unfold lenBL;rw[ai λz=>by rw[(R.lentLD z).1]at e;cases e];exact e
 exact {
  sub:=λb o e=>by
   unfold lenBL at e;split at e
   ·exact e
   ·rename_i hb;rw[Z.1 b hb];exact R.sub _ _ e
  g0:=oM.refl _
  keep:=λb o e _=>e
  fr:=λb o e=>.inl e
  am:=λa h=>by cases h
  len:=by rw[ah];exact R.len
  sl:=λi s e=>by
   rw[aW]at e;cases e1:ρ[i]? with
   |none=>rw[e1]at e;cases e
   |some t=>
    rw[e1]at e;cases e;have ok:=R.sl i t e1;have kk:=aY.mp hk t (bK e1);cases t with
    |un=>trivial
    |im d=>obtain⟨v,h1,h2⟩:=ok;exact⟨v,h1,Rep.mono s0 _ _ h2⟩
    |ls ds=>obtain⟨a,xs,h1,h2,h3,h4,h5⟩:=ok;have hm:=lentL_mem.mpr ⟨i,ds,e1,h1⟩;obtain⟨o,ys,q1,q2⟩:=Z.2 a hm;rw[h2]at q1;cases q1;exact⟨_,h1,by unfold Rep;exact⟨a,xs,rfl,.inl (.inr ⟨o,by unfold lenBL;rw[aj hm];exact q2⟩),Reps.mono s0 _ _ h5⟩⟩
    |_=>cases kk
  ap:=λi j s t a _ e _ so=>by
   rw[aW]at e;cases e1:ρ[i]? with
   |none=>rw[e1]at e;cases e
   |some t=>
    have kk:=aY.mp hk t (bK e1);rw[e1]at e;cases e;cases t<;>first|(cases kk;done)|(cases so;done) }
theorem pf_lndF{e:Expr}{f:FE}(h:PE X e (tF G f)):PE X e (tF G (cLndF f)):=PE.weak (PE.lendL h) λσ H Q hh=>by
 obtain⟨F,ρ,H0,d,ρ',R,e,k⟩:=hh;unfold cLndF at e;split at e
 ·rename_i hk;rcases oY (f:=f) (ρ:=ρ.map Sl.fzL)with e1|⟨x,ρ1,e1⟩<;>simp only[e1]at e
  ·cases e
  ·split at e
   ·rename_i hf;cases e;refine⟨lentL σ ρ,λa ha=>(R.lentLD ha).2,λH' Z=>⟨_,_,lenBL σ ρ H0 H',d,ρ1,R.lndL Z hk,e1,λv H1 H1' s R' r=>?_⟩⟩;have lk:∀a∈lentL σ ρ,H1' a=H' a:=λa ha=>by obtain⟨o,xs,_,e2⟩:=Z.2 a ha;rw[e2];exact R'.keep a _ e2 (by simp)
    refine⟨lk,?_⟩;let H2:Hp:=λb=>if b∈lentL σ ρ then none else H1 b
    have h1l:∀a∈lentL σ ρ,∃o xs,H1 a=some (.frz o (.lst xs)):=λa ha=>by obtain⟨o,xs,_,e2⟩:=Z.2 a ha;exact⟨o,xs,s a _ (by unfold lenBL;rw[aj ha];exact e2)⟩
    have s02:oM H0 H2:=λb o e=>by
     have hb:b∉lentL σ ρ:=λz=>by rw[(R.lentLD z).1]at e;cases e
     show (if b∈lentL σ ρ then none else H1 b)=some o;rw[ai hb];exact s b o (by unfold lenBL;rw[ai hb];exact e)
    have of2:∀{b o},H2 b=some o->b∉lentL σ ρ/\H1 b=some o:=λ{b o} e=>by
     have e:(if b∈lentL σ ρ then none else H1 b)=some o:=e;split at e
     ·cases e
     ·rename_i hb;exact⟨hb,e⟩
    refine k v H2 _ s02 (R.grow (λb o e=>?_) s02 (λb o e=>?_) λb o e=>?_) (Rep.butL (λb o e n=>?_) d v hf r)
    ·unfold xj;split
     ·exact e
     ·rename_i hb;exact R'.keep b o ((Z.1 b hb).trans e) (by simp)
    ·obtain⟨hb,e⟩:=of2 e;unfold xj;rw[ai hb];exact R'.sub _ _ e
    ·obtain⟨hb,e⟩:=of2 e;rcases R'.fr b o e with q|q
     ·have q:lenBL σ ρ H0 H' b=some o:=q;unfold lenBL at q;rw[ai hb]at q;exact .inl q
     ·exact .inr ((Z.1 b hb).symm.trans q)
    ·show (if b∈lentL σ ρ then none else H1 b)=some o;rw[ai λz=>?_]
     ·exact e
     ·obtain⟨u,xs,q⟩:=h1l b z;rw[e]at q;exact n u xs (bE q)
   ·cases e
 ·cases e
end
section
variable{X:Cx}{B:Bz}{e:Expr}{f:FE}
theorem zr_lnF(h:ZE X B e f):ZE X B e (cLndF f):=⟨pf_lndF h.p⟩
end
end L4
namespace K11x
open PySem L2 L3 L4
abbrev D:=L4.D
def top(i:Nat):Stmt:=PySem.Challenge.pw_tellworld_k11_first_stands.main.body.getD i (.Pass ⟨0,0,0,0⟩)
def sr:Nat->Bool:=λc=>c==14
def we:Nat->Bool:=λc=>c==2
def rS:Nat->Bool:=λc=>c==14
def pQ:Nat->Bool:=λc=>c==14
def wg:Nat->Bool:=λc=>c==14
def pD:Nat->Bool:=λc=>c==0||c==7
def tJ:Nat->Bool:=λc=>c==1
def uk:Nat->Bool:=λc=>c==14
def oU:Nat->Bool:=λc=>c==0||c==1||c==2
def xQ:Nat->Bool:=λc=>c==2
def su:Nat->Bool:=λc=>c==14
def uS:Nat->Bool:=λc=>c==14
def pJ:Nat->Bool:=λc=>c==0||c==1
def tK:Nat->Bool:=λc=>c==14
def EN:Nat->Bool:=λc=>c==13
def qE:Nat->Bool:=λc=>c==0
def sC:Nat->Bool:=λc=>c==14
abbrev Ln:Ty->Option Bool:=Cr 15 1
abbrev Hh:Ty->Option Bool:=Cr 15 0
def wj:L4.D:=(D.int 8)
def wm:L4.D:=(D.int 12)
def Bb:L4.D:=(D.tup [(D.str "it"),(D.str "other"),(D.str "here"),(D.str "the"),(D.str "a"),(D.str "undo"),(D.str "restart")])
def Bc:L4.D:=(D.tup [(D.str "the"),(D.str "a")])
def DG:L4.D:=(D.tup [(D.str "room"),(D.str "plain"),(D.str "fixed"),(D.str "box"),(D.str "lamp"),(D.str "you")])
def um:L4.D:=(D.tup [(D.str "room"),(D.str "box"),(D.str "you")])
def uo:L4.D:=(D.tup [(D.str "box"),(D.str "lamp")])
def xk:L4.D:=(D.tup [(D.str "room"),(D.str "you")])
def yq:L4.D:=(D.int 5)
def xl:L4.D:=(D.int 7)
def tm:L4.D:=(D.int 4)
def wo:L4.D:=(D.int 3)
def zz:L4.D:=(D.int 10)
def yt:L4.D:=(D.int 6)
def vp:L4.D:=(D.int 4)
def tL:L4.D:=(D.tup [(D.str "the"),(D.str "a"),(D.str "undo"),(D.str "restart")])
def yu:L4.D:=(D.int 20)
def tM:FS:=(pb (rP (c1 (p6 (pK "str")) (cV 0)) (rP (qI sR sR (cC (.int 1)) (c1 qQ (cV 0)) (cV 1)) (c1 tI (cL (oQ 1 [] (iS (cV 0)) (gN 0) pF (qI Kn Kn (cC (.str "a")) (cV 0) (cC (.str "z")))))))))
def ro:=fnD 2 2 tM
def Cw:FS:=(pb (rP (oE ro (aCons (cV 0) (aCons (cC wj) ox))) (c2 (dIn true) (cV 0) (cC Bb))))
def wZ:=fnD 1 1 Cw
def Cy:FS:=(pb (rP (oE ro (aCons (cV 0) (aCons (cC wm) ox))) (c2 (dIn true) (cV 0) (cC Bc))))
def tD:=fnD 1 1 Cy
def zA:FS:=(pb (rP (c1 (p6 (pK "str")) (cV 0)) (c2 (dIn false) (cV 0) (cV 1))))
def p9:=fnD 2 2 zA
def Bd:FS:=(pb (rP (c1 (p6 (pK "int")) (cV 0)) (Dl (c1 (p6 (pK "bool")) (cV 0)))))
def tN:=fnD 1 1 Bd
def vM:FS:=(pb (rP (c1 (p6 (pK "list")) (cV 0)) (c2 sR (c1 qQ (cV 0)) (cV 1))))
def pZ:=fnD 2 2 vM
def Be:FS:=(pb (cIf (cT (c1 (p6 (pK "list")) (cV 0))) (cL (tf (cV 0))) (cV 0)))
def xR:=fnD 1 1 Be
def yw:FS:=(oI (pz 0 0 "name" (cV 1))
 (oI (pz 0 0 "words" (cV 2))
 (oI (pz 0 0 "kind" (cV 3))
 (pz 0 0 "start" (cV 4)))))
def vq:=fnI 0 4 5 yw
def zB:FS:=(oI (pz 1 0 "name" (cV 1))
 (oI (pz 1 0 "start" (cV 2))
 (pz 1 0 "most" (cV 3))))
def wq:=fnI 1 3 4 zB
def wu:FS:=(oI (pz 2 0 "name" (cV 1))
 (oI (pz 2 0 "others" (cIf (cT (c2 yf (cV 2) (cC D.non))) (qe ox) (cV 2)))
 (oI (pz 2 0 "form" (cV 3))
 (pz 2 0 "joining" (cV 4)))))
def qR:=fnI 2 4 5 wu
def CA:FS:=(oI (pz 3 0 "term" (cV 1))
 (pz 3 0 "place" (cV 2)))
def CB:=fnI 3 2 3 CA
def Bf:FS:=(pz 4 0 "term" (cV 1))
def xS:=fnI 4 1 2 Bf
def xm:FS:=(oI (pz 6 0 "term" (cV 1))
 (pz 6 0 "value" (cV 2)))
def qF:=fnI 6 2 3 xm
def zC:FS:=(oI (pz 7 0 "term" (cV 1))
 (pz 7 0 "kind" (cV 2)))
def qS:=fnI 7 2 3 zC
def Bh:FS:=(pz 9 0 "inner" (cV 1))
def rq:=fnI 9 1 2 Bh
def zD:FS:=(oI (pz 11 0 "term" (cV 1))
 (pz 11 0 "place" (cV 2)))
def sM:=fnI 11 2 3 zD
def Bi:FS:=(oI (pz 12 0 "term" (cV 1))
 (pz 12 0 "value" (cV 2)))
def tP:=fnI 12 2 3 Bi
def zF:FS:=(oI (pz 13 0 "verb" (cV 1))
 (oI (pz 13 0 "tests" (oE xR (aCons (cV 2) ox)))
 (oI (pz 13 0 "deeds" (oE xR (aCons (cV 3) ox)))
 (oI (pz 13 0 "text" (cV 4))
 (pz 13 0 "refuses" (cV 5))))))
def wx:=fnI 13 5 6 zF
def uT:FS:=(pb (c2 (dIn false) (c1 (oW pD "kind") (cV 0)) (cC um)))
def uU:=fnD 1 1 uT
def pU:Nat->Option (List D->Option D):=λc=>match c with
 |0=>some uU
 |_=>none
def uV:FS:=(pb (c2 (dIn false) (c1 (oW pD "kind") (cV 0)) (cC uo)))
def uW:=fnD 1 1 uV
def qg:Nat->Option (List D->Option D):=λc=>match c with
 |0=>some uW
 |_=>none
def tQ:FS:=(pb (c2 (dIn true) (c1 (oW pD "kind") (cV 0)) (cC xk)))
def tR:=fnD 1 1 tQ
def sv:Nat->Option (List D->Option D):=λc=>match c with
 |0=>some tR
 |_=>none
def vO:FS:=(sIf (qc (cT (cV 0))) Ua pj)
def oN:=fnD 2 2 vO
def Bj:FS:=(pb (c1 qQ (cL (oQ 1 [1] (iL (cV 0)) (gN 0) (cT (c2 (dEq false) (c1 (oW pD "kind") (cV 0)) (cV 1))) (cV 0)))))
def vt:=fnD 2 2 Bj
def yx:FS:=(qw (oQ 1 [] (iL (cV 0)) (gN 0) (cT (pE sv "is_plainly" (cV 0) ox)) (cV 0)))
def qV:=fnN 1 1 yx
def y4:FS:=(oI (sIf (uz (qc (cT (c1 (p6 Ln) (cV 0)))) (uz (qc (cT (oE tN (aCons (c1 (oW pJ "start") (cV 0)) ox)))) (qc (cT (oE tN (aCons (c1 (oW tJ "most") (cV 0)) ox)))))) (pb (cC (.bl false))) pj)
 (pb (rP (qI sR sR (cC (.int 1)) (c1 (oW tJ "most") (cV 0)) (cC wo)) (qI sR sR (cC (.int 0)) (c1 (oW pJ "start") (cV 0)) (c1 (oW tJ "most") (cV 0))))))
def y6:=fnD 1 1 y4
def tS:FS:=(oI (px 1 (rP (c1 (p6 (pK "list")) (cV 0)) (c1 tI (cL (oQ 1 [] (iL (cV 0)) (gN 0) pF (c1 (p6 Hh) (cV 0)))))))
 (oI (pd (oE oN (aCons (cV 1) (aCons (cC (.str "things are a list of things")) ox))))
 (oI (pd (oE oN (aCons (c1 tI (cL (oQ 1 [] (iL (cV 0)) (gN 0) pF (oE p9 (aCons (c1 (oW pD "kind") (cV 0)) (aCons (cC DG) ox)))))) (aCons (cC (.str "a thing is of no kind")) ox))))
 (oI (pd (oE oN (aCons (qI sR sR (cC (.int 1)) (oE vt (aCons (cV 0) (aCons (cC (.str "room")) ox))) (cC yq)) (aCons (cC (.str "a world has 1 to 5 rooms")) ox))))
 (oI (pd (oE oN (aCons (c2 (dEq false) (oE vt (aCons (cV 0) (aCons (cC (.str "you")) ox))) (cC (.int 1))) (aCons (cC (.str "a world has just one you")) ox))))
 (pd (oE oN (aCons (c2 sR (c1 qQ (cL (pP qV (aCons (cV 0) ox)))) (cC xl)) (aCons (cC (.str "a world has at most 7 things beside rooms and you")) ox)))))))))
def tT:=fnD 1 2 tS
def uA:FS:=(oI (px 1 (rP (oE pZ (aCons (cV 0) (aCons (cC tm) ox))) (c1 tI (cL (oQ 1 [] (iL (cV 0)) (gN 0) pF (oE y6 (aCons (cV 0) ox)))))))
 (pd (oE oN (aCons (cV 1) (aCons (cC (.str "marks are a list of at most 4 marks, each from 0 to at most 3")) ox)))))
def uB:=fnD 1 2 uA
def yy:FS:=(pb (c2 (dEq false) (c1 Dt (cV 0)) (c1 qQ (cV 0))))
def pM:=fnD 1 1 yy
def uC:FS:=(oI (px 2 (cL (q9 (cL (oQ 1 [] (iL (cV 0)) (gN 0) pF (c1 (oW oU "name") (cV 0)))) (cL (oQ 1 [] (iL (cV 1)) (gN 0) pF (c1 (oW oU "name") (cV 0)))))))
 (oI (pd (oE oN (aCons (c1 tI (cL (oQ 1 [] (iL (cV 2)) (gN 0) pF (oE wZ (aCons (cV 0) ox))))) (aCons (cC (.str "a name is no name")) ox))))
 (pd (oE oN (aCons (oE pM (aCons (cV 2) ox)) (aCons (cC (.str "two things or marks have one name")) ox))))))
def uD:=fnD 2 3 uC
def yz:FS:=(qw (q9 (cL (oQ 1 [] (iL (cV 0)) (gN 0) (cT (pE qg "has_mark" (cV 0) ox)) (c1 (oW oU "name") (cV 0)))) (cL (oQ 1 [] (iL (cV 1)) (gN 0) pF (c1 (oW oU "name") (cV 0))))))
def qp:=fnN 2 2 yz
def xT:FS:=(oI (sIf (cT (c2 (dEq false) (c1 (oW pD "kind") (cV 1)) (cC (.str "room")))) (pb (c2 yf (c1 (oW pJ "start") (cV 1)) (cC D.non))) pj)
 (oI (sIf (cT (c2 (dEq false) (c1 (oW pD "kind") (cV 1)) (cC (.str "you")))) (pb (oE p9 (aCons (c1 (oW pJ "start") (cV 1)) (aCons (cL (oQ 1 [] (iL (cV 0)) (gN 0) (cT (c2 (dEq false) (c1 (oW pD "kind") (cV 0)) (cC (.str "room")))) (c1 (oW oU "name") (cV 0)))) ox)))) pj)
 (pb (oE p9 (aCons (c1 (oW pJ "start") (cV 1)) (aCons (cL (oQ 1 [] (iL (cV 0)) (gN 0) (cT (pE pU "can_hold" (cV 0) ox)) (c1 (oW oU "name") (cV 0)))) ox))))))
def xU:=fnD 2 2 xT
def rT:FS:=(oI (px 2 (c2 qL (cV 0) (cV 1)))
 (oI (rZ (iR1 (c1 qQ (cV 0))) (gN 3) (oI (sIf (cT (c2 yf (cV 2) (cC D.non))) (pb (cC (.bl true))) pj)
 (px 2 (c2 qL (cV 0) (cV 2)))))
 (pb (c2 yf (cV 2) (cC D.non)))))
def qq:=fnD 2 4 rT
def tU:FS:=(oI (pd (oE oN (aCons (c1 tI (cL (oQ 1 [0] (iL (cV 0)) (gN 0) pF (oE xU (aCons (cV 1) (aCons (cV 0) ox)))))) (aCons (cC (.str "a start is none")) ox))))
 (oI (yi 1)
 (oI (rZ (iL (cV 0)) (gN 2) (qo 1 (c1 (oW oU "name") (cV 2)) (c1 (oW pJ "start") (cV 2))))
 (pd (oE oN (aCons (c1 tI (cL (oQ 1 [1] (iD (cFz 1)) (gN 0) pF (oE qq (aCons (cV 1) (aCons (cV 0) ox)))))) (aCons (cC (.str "a thing starts within itself")) ox)))))))
def tV:=fnD 1 3 tU
def wy:FS:=(oI (sIf (uz (qc (cT (c1 (p6 (pK "tuple")) (cV 0)))) (qc (cT (qI sR sR (cC (.int 1)) (c1 qQ (cV 0)) (cC vp))))) (pb (cC (.bl false))) pj)
 (pb (rP (c1 tI (cL (oQ 1 [] (iT (cV 0)) (gN 0) pF (oE tD (aCons (cV 0) ox))))) (oE pM (aCons (cV 0) ox)))))
def wz:=fnD 1 1 wy
def CC:FS:=(pb (c1 tI (cL (oQ 1 [0] (iT (cV 1)) (gN 0) pF (c2 (dIn false) (cV 0) (cV 1))))))
def w9:=fnD 2 2 CC
def sT:FS:=(oI (px 2 (cL (oQ 1 [1] (iL (cV 0)) (gN 0) (cT (c2 (dEq true) (c1 (oW oU "name") (cV 0)) (c1 (oW oU "name") (cV 1)))) (cV 0))))
 (pb (Dl (c1 AN (cL (oQ 1 [1] (iL (cV 2)) (gN 0) pF (oE w9 (aCons (c1 (oW qE "words") (cV 0)) (aCons (c1 (oW qE "words") (cV 1)) ox)))))))))
def sU:=fnD 2 3 sT
def qh:FS:=(oI (pd (oE oN (aCons (c1 tI (cL (oQ 1 [] (iL (cV 0)) (gN 0) pF (oE wz (aCons (c1 (oW qE "words") (cV 0)) ox))))) (aCons (cC (.str "a thing has 1 to 4 unlike words, as a tuple")) ox))))
 (oI (px 1 (cL (pP qV (aCons (cV 0) ox))))
 (pd (oE oN (aCons (c1 tI (cL (oQ 1 [1] (iL (cV 1)) (gN 0) pF (oE sU (aCons (cV 1) (aCons (cV 0) ox)))))) (aCons (cC (.str "one thing has all words of another")) ox))))))
def qj:=fnD 1 2 qh
def vv:FS:=(oI (px 2 (rP (c1 (p6 (pK "list")) (cV 0)) (rP (c1 tI (cL (oQ 1 [1] (iL (cV 0)) (gN 0) pF (oE p9 (aCons (cV 0) (aCons (cV 1) ox)))))) (oE pM (aCons (cV 0) ox)))))
 (pd (oE oN (aCons (cV 2) (aCons (cC (.str "dark is a list of rooms' names, each once")) ox)))))
def vw:=fnD 2 3 vv
def yA:FS:=(oI (px 3 (rP (oE pZ (aCons (cV 0) (aCons (cC zz) ox))) (c1 tI (cL (oQ 1 [1,2] (iL (cV 0)) (gN 0) pF xK)))))
 (oI (pd (oE oN (aCons (cV 3) (aCons (cC (.str "ways are a list of at most 10 tuples (room, word, room, mark)")) ox))))
 (pd (oE oN (aCons (oE pM (aCons (cL (oQ 1 [] (iL (cV 0)) (gN 0) pF (qe (aCons (c2 dIx (cV 0) (cC (.int 0))) (aCons (c2 dIx (cV 0) (cC (.int 1))) ox))))) ox)) (aCons (cC (.str "two ways lead from one room by one word")) ox))))))
def vz:=fnD 3 4 yA
def xn:FS:=(oI (px 1 (rP (oE pZ (aCons (cV 0) (aCons (cC yt) ox))) (c1 tI (cL (oQ 1 [] (iL (cV 0)) (gN 0) pF xK)))))
 (pd (oE oN (aCons (cV 1) (aCons (cC (.str "verbs are a list of at most 6 verbs")) ox)))))
def uE:=fnD 1 2 xn
def zG:FS:=(pb (Dl (c1 AN (cL (oQ 1 [1] (iL (cV 0)) (gN 0) pF (c2 (dIn false) (cV 0) (cV 1)))))))
def sN:=fnD 2 2 zG
def rA:FS:=(oI (rQ 3 (pB ox))
 (oI (rZ (iL (cL (pP qV (aCons (cV 0) ox)))) (gN 4) (pd (zw 3 (c1 (oW qE "words") (cV 4)))))
 (oI (rQ 5 (pB ox))
 (oI (rZ (iL (cV 2)) (gN 6) (pd (zw 5 (zv (qe (aCons (c1 (oW oU "name") (cV 6)) ox)) (c1 (oW xQ "others") (cV 6))))))
 (oI (px 7 (cL (q9 (cL (oQ 1 [] (iL (cV 2)) (gN 0) (cT (c2 Ko (c1 (oW we "joining") (cV 0)) (cC D.non))) (c1 (oW we "joining") (cV 0)))) (cL (oQ 1 [] (iL (cV 1)) (gN 0) pF (c2 dIx (cV 0) (cC (.int 1))))))))
 (oI (pd (oE oN (aCons (oE pM (aCons (cFz 5) ox)) (aCons (cC (.str "two verbs' names are alike")) ox))))
 (oI (pd (oE oN (aCons (oE sN (aCons (cL (q9 (cFz 5) (cV 7))) (aCons (cFz 3) ox))) (aCons (cC (.str "a verb's, way's or joining word is a word of a thing")) ox))))
 (oI (pd (oE oN (aCons (oE sN (aCons (cL (q9 (cFz 5) (cV 7))) (aCons (cC tL) ox))) (aCons (cC (.str "the, a, undo or restart is a word of the world")) ox))))
 (pd (oE oN (aCons (oE sN (aCons (cV 7) (aCons (cFz 5) ox))) (aCons (cC (.str "a way's or joining word is a verb's name")) ox))))))))))))
def qr:=fnD 3 8 rA
def uF:FS:=(oI (pd (oE tT (aCons (cV 0) ox)))
 (oI (pd (oE uB (aCons (cV 1) ox)))
 (oI (pd (oE uD (aCons (cV 0) (aCons (cV 1) ox))))
 (oI (pd (oE tV (aCons (cV 0) ox)))
 (oI (pd (oE qj (aCons (cV 0) ox)))
 (oI (px 6 (cL (oQ 1 [] (iL (cV 0)) (gN 0) (cT (c2 (dEq false) (c1 (oW pD "kind") (cV 0)) (cC (.str "room")))) (c1 (oW oU "name") (cV 0)))))
 (oI (pd (oE vw (aCons (cV 2) (aCons (cV 6) ox))))
 (oI (pd (oE vz (aCons (cV 3) (aCons (cV 6) (aCons (cL (pP qp (aCons (cV 0) (aCons (cV 1) ox)))) ox)))))
 (oI (pd (oE uE (aCons (cV 4) ox)))
 (pd (oE qr (aCons (cV 0) (aCons (cV 3) (aCons (cL (q9 (cV 4) (cV 5))) ox))))))))))))))
def uG:=fnD 6 7 uF
def Lo:FS:=(pb (pA 13 (λds=>wx (ds++[])) (aCons (cV 0) (aCons (cV 1) (aCons (cV 2) (aCons (cV 3) (aCons (cC (.bl false)) ox)))))))
def uH:=fnD 4 4 Lo
def CD:FS:=(pb (pA 13 (λds=>wx (ds++[])) (aCons (cV 0) (aCons (cV 1) (aCons (cL (pB ox)) (aCons (cV 2) (aCons (cC (.bl true)) ox)))))))
def pH:=fnD 3 3 CD
def yB:FS:=(qw (pB (aCons (oE pH (aCons (cC (.str "take")) (aCons (cL (pB (aCons (pA 7 (λds=>qS (ds++[])) (aCons (cC (.str "it")) (aCons (cC (.str "fixed")) ox))) ox))) (aCons (cC (.str "That stays.")) ox)))) (aCons (oE pH (aCons (cC (.str "take")) (aCons (cL (pB (aCons (pA 3 (λds=>CB (ds++[])) (aCons (cC (.str "it")) (aCons (cV 0) ox))) ox))) (aCons (cC (.str "You have that.")) ox)))) (aCons (oE uH (aCons (cC (.str "take")) (aCons (cL (pB ox)) (aCons (cL (pB (aCons (pA 11 (λds=>sM (ds++[])) (aCons (cC (.str "it")) (aCons (cV 0) ox))) ox))) (aCons (cC (.str "Taken.")) ox))))) (aCons (oE uH (aCons (cC (.str "drop")) (aCons (cL (pB (aCons (pA 4 (λds=>xS (ds++[])) (aCons (cC (.str "it")) ox)) ox))) (aCons (cL (pB (aCons (pA 11 (λds=>sM (ds++[])) (aCons (cC (.str "it")) (aCons (cC (.str "here")) ox))) ox))) (aCons (cC (.str "Dropped.")) ox))))) (aCons (oE pH (aCons (cC (.str "drop")) (aCons (cL (pB ox)) (aCons (cC (.str "You lack that.")) ox)))) ox)))))))
def yC:=fnN 1 1 yB
def zH:FS:=(qw (pB (aCons (oE pH (aCons (cC (.str "put")) (aCons (cL (pB (aCons (pA 9 (λds=>rq (ds++[])) (aCons (pA 4 (λds=>xS (ds++[])) (aCons (cC (.str "it")) ox)) ox)) ox))) (aCons (cC (.str "You lack that.")) ox)))) (aCons (oE pH (aCons (cC (.str "put")) (aCons (cL (pB (aCons (pA 9 (λds=>rq (ds++[])) (aCons (pA 7 (λds=>qS (ds++[])) (aCons (cC (.str "other")) (aCons (cC (.str "box")) ox))) ox)) ox))) (aCons (cC (.str "It holds nothing.")) ox)))) (aCons (oE pH (aCons (cC (.str "put")) (aCons (cL (pB (aCons (pA 6 (λds=>qF (ds++[])) (aCons (cC (.str "other")) (aCons (cC (.int 0)) ox))) ox))) (aCons (cC (.str "It is shut.")) ox)))) (aCons (oE uH (aCons (cC (.str "put")) (aCons (cL (pB ox)) (aCons (cL (pB (aCons (pA 11 (λds=>sM (ds++[])) (aCons (cC (.str "it")) (aCons (cC (.str "other")) ox))) ox))) (aCons (cC (.str "Done.")) ox))))) ox))))))
def zI:=fnN 0 0 zH
def zJ:FS:=(qw (pB (aCons (oE pH (aCons (cC (.str "open")) (aCons (cL (pB (aCons (pA 9 (λds=>rq (ds++[])) (aCons (pA 7 (λds=>qS (ds++[])) (aCons (cC (.str "it")) (aCons (cC (.str "box")) ox))) ox)) ox))) (aCons (cC (.str "It has no lid.")) ox)))) (aCons (oE pH (aCons (cC (.str "open")) (aCons (cL (pB (aCons (pA 6 (λds=>qF (ds++[])) (aCons (cC (.str "it")) (aCons (cC (.int 1)) ox))) ox))) (aCons (cC (.str "It is open.")) ox)))) (aCons (oE uH (aCons (cC (.str "open")) (aCons (cL (pB ox)) (aCons (cL (pB (aCons (pA 12 (λds=>tP (ds++[])) (aCons (cC (.str "it")) (aCons (cC (.int 1)) ox))) ox))) (aCons (cC (.str "Opened.")) ox))))) (aCons (oE pH (aCons (cC (.str "shut")) (aCons (cL (pB (aCons (pA 9 (λds=>rq (ds++[])) (aCons (pA 7 (λds=>qS (ds++[])) (aCons (cC (.str "it")) (aCons (cC (.str "box")) ox))) ox)) ox))) (aCons (cC (.str "It has no lid.")) ox)))) (aCons (oE pH (aCons (cC (.str "shut")) (aCons (cL (pB (aCons (pA 6 (λds=>qF (ds++[])) (aCons (cC (.str "it")) (aCons (cC (.int 0)) ox))) ox))) (aCons (cC (.str "It is shut.")) ox)))) (aCons (oE uH (aCons (cC (.str "shut")) (aCons (cL (pB ox)) (aCons (cL (pB (aCons (pA 12 (λds=>tP (ds++[])) (aCons (cC (.str "it")) (aCons (cC (.int 0)) ox))) ox))) (aCons (cC (.str "Shut.")) ox))))) ox))))))))
def zK:=fnN 0 0 zJ
def xp:FS:=(qw (pB (aCons (oE pH (aCons (cC (.str "light")) (aCons (cL (pB (aCons (pA 9 (λds=>rq (ds++[])) (aCons (pA 7 (λds=>qS (ds++[])) (aCons (cC (.str "it")) (aCons (cC (.str "lamp")) ox))) ox)) ox))) (aCons (cC (.str "It burns not.")) ox)))) (aCons (oE pH (aCons (cC (.str "light")) (aCons (cL (pB (aCons (pA 6 (λds=>qF (ds++[])) (aCons (cC (.str "it")) (aCons (cC (.int 1)) ox))) ox))) (aCons (cC (.str "It is lit.")) ox)))) (aCons (oE uH (aCons (cC (.str "light")) (aCons (cL (pB ox)) (aCons (cL (pB (aCons (pA 12 (λds=>tP (ds++[])) (aCons (cC (.str "it")) (aCons (cC (.int 1)) ox))) ox))) (aCons (cC (.str "Lit.")) ox))))) (aCons (oE pH (aCons (cC (.str "douse")) (aCons (cL (pB (aCons (pA 9 (λds=>rq (ds++[])) (aCons (pA 7 (λds=>qS (ds++[])) (aCons (cC (.str "it")) (aCons (cC (.str "lamp")) ox))) ox)) ox))) (aCons (cC (.str "It burns not.")) ox)))) (aCons (oE pH (aCons (cC (.str "douse")) (aCons (cL (pB (aCons (pA 6 (λds=>qF (ds++[])) (aCons (cC (.str "it")) (aCons (cC (.int 0)) ox))) ox))) (aCons (cC (.str "It is out.")) ox)))) (aCons (oE uH (aCons (cC (.str "douse")) (aCons (cL (pB ox)) (aCons (cL (pB (aCons (pA 12 (λds=>tP (ds++[])) (aCons (cC (.str "it")) (aCons (cC (.int 0)) ox))) ox))) (aCons (cC (.str "Doused.")) ox))))) ox))))))))
def xq:=fnN 0 0 xp
def Bk:FS:=(oI (px 2 (cL (oQ 1 [0] (iL (cV 1)) (gN 0) pF (oE uH (aCons (cC (.str "go")) (aCons xK (aCons (cL (pB (aCons (pA 11 (λds=>sM (ds++[])) (aCons (cV 1) (aCons (c2 dIx (cV 0) (cC (.int 2))) ox))) ox))) (aCons (cC (.str "You go.")) ox))))))))
 (qw (q9 (cV 2) (cL (pB (aCons (oE pH (aCons (cC (.str "go")) (aCons (cL (pB ox)) (aCons (cC (.str "No way there.")) ox)))) ox))))))
def Bl:=fnN 2 3 Bk
def yD:FS:=(qw (pB (aCons (oE uH (aCons (cC (.str "wait")) (aCons (cL (pB ox)) (aCons (cL (pB ox)) (aCons (cC (.str "Time goes by.")) ox))))) ox)))
def yE:=fnN 0 0 yD
def wA:FS:=(qw (q9 (cL (q9 (cL (q9 (cL (q9 (cL (q9 (cL (pP yC (aCons (cV 0) ox))) (cL (pP zI ox)))) (cL (pP zK ox)))) (cL (pP xq ox)))) (cL (pP Bl (aCons (cV 0) (aCons (cV 1) ox)))))) (cL (pP yE ox))))
def qT:=fnN 2 2 wA
def wB:FS:=(qw (q9 (cL (oQ 1 [] (iT (qe (aCons (cC (.str "take")) (aCons (cC (.str "drop")) (aCons (cC (.str "open")) (aCons (cC (.str "shut")) (aCons (cC (.str "light")) (aCons (cC (.str "douse")) ox)))))))) (gN 0) pF (pA 2 (λds=>qR (ds++[D.non,(D.str "one"),D.non])) (aCons (cV 0) ox)))) (cL (pB (aCons (pA 2 (λds=>qR (ds++[])) (aCons (cC (.str "put")) (aCons (qe ox) (aCons (cC (.str "two")) (aCons (cC (.str "in")) ox))))) (aCons (pA 2 (λds=>qR (ds++[D.non])) (aCons (cC (.str "go")) (aCons (qe ox) (aCons (cC (.str "way")) ox)))) (aCons (pA 2 (λds=>qR (ds++[D.non])) (aCons (cC (.str "wait")) (aCons (qe ox) (aCons (cC (.str "alone")) ox)))) ox)))))))
def qk:=fnN 0 0 wB
def y7:FS:=(oI (yi 1)
 (oI (rZ (iL (cV 0)) (gN 2) (qo 1 (c1 (oW oU "name") (cV 2)) (cV 2)))
 (pb (cFz 1))))
def y8:=fnD 1 3 y7
def sV:FS:=(oI (yi 2)
 (oI (rZ (iL (cV 0)) (gN 3) (sIf (cT (pE qg "has_mark" (cV 3) ox)) (qo 2 (c1 (oW oU "name") (cV 3)) (cC (.int 1))) pj))
 (oI (rZ (iL (cV 1)) (gN 4) (qo 2 (c1 (oW oU "name") (cV 4)) (c1 (oW tJ "most") (cV 4))))
 (pb (cFz 2)))))
def qB:=fnD 2 5 sV
def vP:FS:=(oI (yi 1)
 (oI (rZ (iL (cV 0)) (gN 2) (rZ (iT (zv (qe (aCons (c1 (oW oU "name") (cV 2)) ox)) (c1 (oW xQ "others") (cV 2)))) (gN 3) (qo 1 (cV 3) (cV 2))))
 (pb (cFz 1))))
def qC:=fnD 1 4 vP
def CG:FS:=(FN (oW EN "verb"))
def uX:=fnD 1 3 CG
def vQ:FS:=(qw (oQ 1 [1] (iL (c1 (oW pQ "kept_things") (cV 0))) (gN 0) (cT (c2 (dEq false) (c1 (oW pD "kind") (cV 0)) (cV 1))) (c1 (oW oU "name") (cV 0))))
def sW:=fnD 2 2 vQ
def sE:Nat->Option (List D->Option D):=λc=>match c with
 |14=>some sW
 |_=>none
def uq:FS:=(qw (q9 (c1 (oW wg "kept_verbs") (cV 0)) (c1 (oW uS "shared_verbs") (cV 0))))
def rU:=fnD 1 1 uq
def rg:Nat->Option (List D->Option D):=λc=>match c with
 |14=>some rU
 |_=>none
def rV:FS:=(oI (pd (oE uG (aCons (cV 1) (aCons (cV 2) (aCons (cV 3) (aCons (cV 4) (aCons (cV 5) (aCons (cL (pP qk ox)) ox))))))))
 (oI (pz 14 0 "kept_things" (cL (tf (cV 1))))
 (oI (pz 14 0 "kept_marks" (cL (tf (cV 2))))
 (oI (pz 14 0 "kept_dark" (cL (tf (cV 3))))
 (oI (pz 14 0 "kept_ways" (cL (tf (cV 4))))
 (oI (pz 14 0 "kept_verbs" (cL (tf (cV 5))))
 (oI (pz 14 0 "shared_verbs" (cL (pP qk ox)))
 (oI (pz 14 0 "your_name" (ui 15 (c2 dIx (pE sE "of_kind" (cV 0) (aCons (cC (.str "you")) ox)) (cC (.int 0)))))
 (oI (pz 14 0 "things_by_name" (oE y8 (aCons (cV 1) ox)))
 (oI (pz 14 0 "mosts_by_name" (oE qB (aCons (cV 1) (aCons (cV 2) ox))))
 (oI (pz 14 0 "verbs_by_word" (ui 15 (oE qC (aCons (pE rg "all_verbs" (cV 0) ox) ox))))
 (oI (px 7 (ui 15 (rP (oE pZ (aCons (cV 6) (aCons (cC yu) ox))) (c1 tI (cL (oQ 1 [0] (iL (cV 6)) (gN 0) pF xK))))))
 (oI (pd (oE oN (aCons (cV 7) (aCons (cC (.str "rules are a list of at most 20 rules, each as it may be")) ox))))
 (oI (pz 14 0 "kept_rules" (cL (tf (cV 6))))
 (oI (pz 14 0 "shared_rules" (ui 15 (cL (pP qT (aCons (c1 (oW sC "your_name") (cV 0)) (aCons (cV 4) ox))))))
 (oI (pz 14 0 "copied_rules" (cL (oQ 1 [] (iL (cV 6)) (gN 0) pF xK)))
 (pz 14 0 "rules_by_verb" (ui 15 (oE uX (aCons (cL (q9 (c1 (oW sr "copied_rules") (cV 0)) (c1 (oW su "shared_rules") (cV 0)))) ox))))))))))))))))))))
def qt:=fnI 14 6 8 rV
def wC:FS:=(pb (rP (c1 (p6 (pK "str")) (cV 0)) (c2 (dEq false) (cV 0) (cV 1))))
def ql:=fnD 2 2 wC
def zL:FS:=(pb (c1 (oW sC "your_name") (cV 0)))
def zM:=fnD 1 1 zL
def xa:Nat->Option (List D->Option D):=λc=>match c with
 |14=>some zM
 |_=>none
def xt:FS:=(qw (oQ 1 [] (iL (c1 (oW pQ "kept_things") (cV 0))) (gN 0) pF (c1 (oW oU "name") (cV 0))))
def xu:=fnD 1 1 xt
def ur:Nat->Option (List D->Option D):=λc=>match c with
 |14=>some xu
 |_=>none
def uY:FS:=(pb (c2 uO (c1 (oW tK "things_by_name") (cV 0)) (cV 1)))
def uZ:=fnD 2 2 uY
def pV:Nat->Option (List D->Option D):=λc=>match c with
 |14=>some uZ
 |_=>none
def vR:FS:=(pb (c2 uO (c1 (oW uk "mosts_by_name") (cV 0)) (cV 1)))
def vS:=fnD 2 2 vR
def sF:Nat->Option (List D->Option D):=λc=>match c with
 |14=>some vS
 |_=>none
def uu:FS:=(qw (tf (c1 (oW rS "kept_marks") (cV 0))))
def uv:=fnD 1 1 uu
def sX:Nat->Option (List D->Option D):=λc=>match c with
 |14=>some uv
 |_=>none
def xw:FS:=(oI (px 1 (cL (oQ 1 [] (iL (c1 (oW pQ "kept_things") (cV 0))) (gN 0) (cT (c2 (dEq true) (c1 (oW pD "kind") (cV 0)) (cC (.str "room")))) (qe (aCons (cC (.str "at")) (aCons (c1 (oW oU "name") (cV 0)) ox))))))
 (oI (px 2 (cL (oQ 1 [] (iL (cL (pP qp (aCons (c1 (oW pQ "kept_things") (cV 0)) (aCons (c1 (oW rS "kept_marks") (cV 0)) ox))))) (gN 0) pF (qe (aCons (cC (.str "mark")) (aCons (cV 0) ox))))))
 (qw (y3 (cL (q9 (cV 1) (cV 2)))))))
def sG:=fnD 1 3 xw
def rH:Nat->Option (List D->Option D):=λc=>match c with
 |14=>some sG
 |_=>none
def yF:FS:=(oI (yi 1)
 (oI (rZ (iL (pE sX "own_marks" (cV 0) ox)) (gN 2) (qo 1 (c1 (oW oU "name") (cV 2)) (c1 (oW pJ "start") (cV 2))))
 (pb (cFz 1))))
def vA:=fnD 1 3 yF
def xy:FS:=(oI (sIf (cT (c2 (dEq false) (c2 dIx (cV 2) (cC (.int 0))) (cC (.str "at")))) (pb (c1 (oW pJ "start") (pE pV "thing_of" (cV 0) (aCons (c2 dIx (cV 2) (cC (.int 1))) ox)))) pj)
 (pb (G1 (cV 1) (c2 dIx (cV 2) (cC (.int 1))) (cC (.int 0)))))
def qG:=fnD 3 3 xy
def xA:FS:=(oI (px 1 (oE vA (aCons (cV 0) ox)))
 (pb (AJ (cL (oQ 1 [0,1] (iL (pE rH "parts" (cV 0) ox)) (gN 0) pF (qe (aCons (cV 0) (aCons (oE qG (aCons (cV 1) (aCons (cV 2) (aCons (cV 0) ox)))) ox))))))))
def uI:=fnD 1 2 xA
def Bm:FS:=(oI (rZ (iT (cV 0)) (gN 2) (sIf (cT (c2 (dEq false) (c2 dIx (cV 2) (cC (.int 0))) (cV 1))) (pb (c2 dIx (cV 2) (cC (.int 1)))) pj))
 (pb (cC D.non)))
def rB:=fnD 2 3 Bm
def Hk:FS:=(pb (oE rB (aCons (cV 0) (aCons (qe (aCons (cC (.str "at")) (aCons (cV 1) ox))) ox))))
def qW:=fnD 2 2 Hk
def CH:FS:=(pb (oE rB (aCons (cV 0) (aCons (qe (aCons (cC (.str "mark")) (aCons (cV 1) ox))) ox))))
def rJ:=fnD 2 2 CH
def rW:FS:=(oI (px 2 (oE qW (aCons (cV 0) (aCons (cV 1) ox))))
 (oI (rZ (iR1 (c1 qQ (cV 0))) (gN 3) (oI (sIf (cT (c2 yf (cV 2) (cC D.non))) (pb (cC (.bl true))) pj)
 (px 2 (oE qW (aCons (cV 0) (aCons (cV 2) ox))))))
 (pb (c2 yf (cV 2) (cC D.non)))))
def pG:=fnD 2 4 rW
def EO:FS:=(pb (rP (c1 (p6 (pK "tuple")) (cV 0)) (c2 (dEq false) (c1 qQ (cV 0)) (cC (.int 2)))))
def tW:=fnD 1 1 EO
def CJ:FS:=(pb (rP (oE tW (aCons (cV 0) ox)) (rP (oE ql (aCons (c2 dIx (cV 0) (cC (.int 0))) (aCons (c2 dIx (cV 1) (cC (.int 0))) ox))) (oE ql (aCons (c2 dIx (cV 0) (cC (.int 1))) (aCons (c2 dIx (cV 1) (cC (.int 1))) ox))))))
def u0:=fnD 2 2 CJ
def zN:FS:=(oI (px 3 (cIf (cT (c1 (p6 (pK "str")) (cV 2))) (pE pV "thing_of" (cV 0) (aCons (cV 2) ox)) (cC D.non)))
 (oI (sIf (cT (c2 yf (cV 3) (cC D.non))) (pb (cC (.bl false))) pj)
 (oI (sIf (cT (c2 (dEq false) (cV 1) (pE xa "you" (cV 0) ox))) (pb (c2 (dEq false) (c1 (oW pD "kind") (cV 3)) (cC (.str "room")))) pj)
 (pb (pE pU "can_hold" (cV 3) ox)))))
def wD:=fnD 3 4 zN
def Bn:FS:=(oI (sIf (cT (c2 (dEq false) (c2 dIx (cV 1) (cC (.int 0))) (cC (.str "mark")))) (pb (rP (oE tN (aCons (cV 2) ox)) (qI sR sR (cC (.int 0)) (cV 2) (pE sF "most_of" (cV 0) (aCons (c2 dIx (cV 1) (cC (.int 1))) ox))))) pj)
 (pb (oE wD (aCons (cV 0) (aCons (c2 dIx (cV 1) (cC (.int 1))) (aCons (cV 2) ox))))))
def qa:=fnD 3 3 Bn
def Bo:FS:=(oI (px 2 (pE rH "parts" (cV 0) ox))
 (oI (sIf (uz (qc (cT (c1 (p6 (pK "tuple")) (cV 1)))) (cT (c2 (dEq true) (c1 qQ (cV 1)) (c1 qQ (cV 2))))) (pb (cC (.bl false))) pj)
 (oI (rZ (iZT (aCons (cV 1) (aCons (cV 2) ox))) (gT (oX (gN 3) (oX (gN 4) qZ)) 2) (sIf (uz (qc (cT (oE tW (aCons (cV 3) ox)))) (uz (qc (cT (oE u0 (aCons (c2 dIx (cV 3) (cC (.int 0))) (aCons (cV 4) ox))))) (qc (cT (oE qa (aCons (cV 0) (aCons (cV 4) (aCons (c2 dIx (cV 3) (cC (.int 1))) ox)))))))) (pb (cC (.bl false))) pj))
 (pb (c1 tI (cL (oQ 1 [1] (iL (pE ur "names" (cV 0) ox)) (gN 0) pF (oE pG (aCons (cV 1) (aCons (cV 0) ox))))))))))
def vB:=fnD 2 5 Bo
def wF:FS:=(oI (sIf (cT (c2 Ek (cV 1) (c1 qQ (cV 0)))) (pb (c2 dIx (cV 0) (cV 1))) pj)
 (pb (cC (.int 0))))
def tY:=fnD 2 2 wF
def yG:FS:=(oI (rQ 2 (pB ox))
 (oI (px 3 (cC (.int 0)))
 (oI (sIf (cT (c2 Qc (cV 0) (c2 zr (cC (.int 10)) (cC (.int 18))))) (px 3 (c2 Kl (cV 0) (c2 zr (cC (.int 10)) (cC (.int 18))))) pj)
 (oI (whL (zt (zp (cT (c2 Km (cV 3) (cC (.int 0)))) (cT (c2 Ek (c1 qQ (cV 2)) (cV 1))))) (oI (pd (xG 2 (c2 rE (cV 3) (c2 zr (cC (.int 10)) (cC (.int 6))))))
 (px 3 (c2 xh (cV 3) (c2 zr (cC (.int 10)) (cC (.int 6)))))) 200)
 (oI (px 4 (c2 rE (c2 sL (c2 pO (c2 rE (cV 0) (cC (.int 2147483647))) (cC (.int 1))) (cC (.int 48271))) (cC (.int 2147483647))))
 (oI (rZ (iR1 (cV 1)) (gN 5) (oI (px 4 (c2 rE (c2 sL (c2 pO (c2 pO (cV 4) (c2 sL (cC (.int 7919)) (cV 5))) (cC (.int 1))) (cC (.int 48271))) (cC (.int 2147483647))))
 (oI (px 6 (c2 rE (c2 sL (cV 4) (c2 pO (c2 xh (cV 4) (cC (.int 1009))) (cC (.int 69621)))) (cC (.int 2147483647))))
 (pd (xG 2 (c2 rE (c2 sL (cV 6) (c2 pO (c2 xh (cV 6) (cC (.int 2003))) (cC (.int 40692)))) (cC (.int 2147483399))))))))
 (qw (vU (cFz 2) oNo (oAt (cV 1))))))))))
def vC:=fnN 2 7 yG
def zO:FS:=(oI (sIf (zt (cT (c2 (dEq false) (cV 0) (cL (pB ox))))) (pb (cC (.int 0))) pj)
 (pb (c2 rE (GQ 0) (cV 1))))
def oK:=fnM 1 2 zO
def vE:FS:=(oI (px 1 (qf oK 0 (aCons (cC (.int 25)) ox)))
 (oI (px 2 (cC (.str "bcdefghijklmnopqrstuvwxyz")))
 (qw (oQ 1 [2,0,1] (iR1 (cC (.int 17))) (gN 0) pF (c2 Es (c2 dIx (cV 1) (c2 rE (c2 pO (cV 3) (c2 sL (cC (.int 7)) (cV 0))) (cC (.int 25)))) (c2 pO (cC (.int 1)) (qf oK 2 (aCons (cC (.int 8)) ox))))))))
def vF:=fnM 0 3 vE
def sH:FS:=(oI (rQ 3 (pB ox))
 (oI (rQ 4 (q9 (cV 1) (cL (pB (aCons (c2 dIx (cV 0) (cC (.int 5))) ox)))))
 (oI (rZ (iL (cL (vU (cV 0) (oAt (cC (.int 6))) (oAt (c2 pO (cC (.int 6)) (qf oK 2 (aCons (cC (.int 8)) ox))))))) (gN 5) (oI (px 6 (c2 dIx (cL (pB (aCons (cC (.str "plain")) (aCons (cC (.str "box")) (aCons (cC (.str "lamp")) (aCons (cC (.str "fixed")) (aCons (cC (.str "box")) (aCons (cC (.str "lamp")) (aCons (cC (.str "box")) (aCons (cC (.str "plain")) ox)))))))))) (qf oK 2 (aCons (cC (.int 8)) ox))))
 (oI (pd (xG 3 (qe (aCons (cV 5) (aCons (cV 6) (aCons (Fs 4 (qf oK 2 (aCons (BM (c1 qQ (cV 4))) ox))) ox))))))
 (sIf (cT (c2 (dEq false) (cV 6) (cC (.str "box")))) (pd (xG 4 (cV 5))) pj))))
 (qw (Nj 3)))))
def qH:=fnL 2 7 sH
def wG:FS:=(oI (rQ 1 (pP vC (aCons (cV 0) (aCons (cC (.int 110)) ox))))
 (oI (px 2 (qf vF 1 ox))
 (oI (px 3 (cL (vU (cV 2) oNo (oAt (c2 pO (cC (.int 1)) (qf oK 1 (aCons (cC (.int 5)) ox)))))))
 (oI (px 4 (cL (q9 (cL (oQ 1 [] (iL (cV 3)) (gN 0) pF (qe (aCons (cV 0) (aCons (cC (.str "room")) (aCons (cC D.non) ox)))))) (cL (pB (aCons (qe (aCons (c2 dIx (cV 2) (cC (.int 5))) (aCons (cC (.str "you")) (aCons (c2 dIx (cV 3) (qf oK 1 (aCons (c1 qQ (cV 3)) ox))) ox)))) ox))))))
 (oI (px 5 (cL (pB ox)))
 (oI (rZ (iL (cL (q9 (cV 4) (AY qH 1 (aCons (cV 2) (aCons (cV 3) ox)))))) (gN 6) (oI (px 7 (qf oK 1 (aCons (c2 pO (c1 qQ (cV 5)) (cC (.int 1))) ox)))
 (px 5 (cL (q9 (cL (q9 (cL (vU (cV 5) oNo (oAt (cV 7)))) (cL (pB (aCons (cV 6) ox))))) (cL (vU (cV 5) (oAt (cV 7)) oNo)))))))
 (oI (rQ 8 (pB ox))
 (oI (rZ (iL (cL (vU (cV 2) (oAt (cC (.int 13))) (oAt (c2 pO (cC (.int 13)) (qf oK 1 (aCons (cC (.int 5)) ox))))))) (gN 9) (oI (px 10 (c2 pO (cC (.int 1)) (qf oK 1 (aCons (cC (.int 3)) ox))))
 (pd (xG 8 (qe (aCons (cV 9) (aCons (qf oK 1 (aCons (c2 pO (cV 10) (cC (.int 1))) ox)) (aCons (cV 10) ox))))))))
 (oI (px 11 (cL (oQ 1 [1] (iL (cV 3)) (gN 0) (cT (c2 (dEq false) (qf oK 1 (aCons (cC (.int 2)) ox)) (cC (.int 1)))) (cV 0))))
 (oI (px 12 (cL (pB (aCons (qe ox) (aCons (qe (aCons (cC (.str "red")) ox)) (aCons (qe (aCons (cC (.str "old")) (aCons (cC (.str "red")) ox))) ox))))))
 (oI (px 13 (cL (oQ 3 [12,1] (iL (cV 5)) (gT (oX (gN 0) (oX (gN 1) (oX (gN 2) qZ))) 3) pF (zv (qe (aCons (cV 0) ox)) (c2 dIx (cV 3) (qf oK 4 (aCons (cC (.int 3)) ox)))))))
 (pb (Cj [("rows", (cV 5)),("marks", (cFz 8)),("dark", (cV 11)),("words", (cV 13)),("you", (c2 dIx (cV 2) (cC (.int 5))))])))))))))))))
def sO:=fnD 1 14 wG
def vG:FS:=(oI (rQ 1 (oQ 2 [] (iZ (aCons (c2 qL (cV 0) (cC (.str "rows"))) (aCons (c2 qL (cV 0) (cC (.str "words"))) ox))) (gT (oX (gN 0) (oX (gN 1) qZ)) 2) pF (pA 0 (λds=>vq (ds++[])) (aCons (c2 dIx (cV 0) (cC (.int 0))) (aCons (cV 1) (aCons (c2 dIx (cV 0) (cC (.int 1))) (aCons (c2 dIx (cV 0) (cC (.int 2))) ox)))))))
 (oI (rQ 2 (oQ 3 [] (iL (c2 qL (cV 0) (cC (.str "marks")))) (gT (oX (gN 0) (oX (gN 1) (oX (gN 2) qZ))) 3) pF (pA 1 (λds=>wq (ds++[])) (aCons (cV 0) (aCons (cV 1) (aCons (cV 2) ox))))))
 (pb (cLndF (pA 14 (λds=>qt (ds++[])) (aCons (cV 1) (aCons (cV 2) (aCons (cL (tf (c2 qL (cV 0) (cC (.str "dark"))))) (aCons (cL (pB ox)) (aCons (cL (pB ox)) (aCons (cL (pB ox)) ox)))))))))))
def tq:=fnD 1 3 vG
def CK:FS:=(qw (oQ 3 [1] (iL (c2 qL (cV 0) (cC (.str "rows")))) (gT (oX (gN 0) (oX (gN 1) (oX (gN 2) qZ))) 3) (cT (c2 (dIn false) (cV 1) (cV 3))) (cV 0)))
def y9:=fnN 2 2 CK
def tZ:FS:=(oI (yi 1)
 (oI (rZ (iL (c2 qL (cV 0) (cC (.str "rows")))) (gT (oX (gN 2) (oX (gN 3) (oX (gN 4) qZ))) 3) (sIf (cT (c2 (dEq true) (cV 3) (cC (.str "room")))) (qo 1 (cV 2) (cV 4)) pj))
 (oI (yi 5)
 (oI (rZ (iL (cL (pP y9 (aCons (cV 0) (aCons (cL (pB (aCons (cC (.str "box")) (aCons (cC (.str "lamp")) ox)))) ox))))) (gN 2) (qo 5 (cV 2) (cC (.int 0))))
 (oI (rZ (iL (c2 qL (cV 0) (cC (.str "marks")))) (gT (oX (gN 2) (oX (gN 4) (oX (gN 6) qZ))) 3) (qo 5 (cV 2) (cV 4)))
 pj)))))
def vH:=fnP 1 7 1 5 tZ
def vJ:FS:=(oI (Cv 2 3 vH (aCons (cV 1) ox))
 (oI (px 4 (oE uI (aCons (cV 0) ox)))
 (oI (px 5 (cL (oQ 2 [] (iIt (cFz 2)) (gT (oX (gN 0) (oX (gN 1) qZ)) 2) pF (qe (aCons (qe (aCons (cC (.str "at")) (aCons (cV 0) ox))) (aCons (cV 1) ox))))))
 (oI (px 5 (cL (q9 (cV 5) (cL (oQ 2 [] (iIt (cFz 3)) (gT (oX (gN 0) (oX (gN 1) qZ)) 2) pF (qe (aCons (qe (aCons (cC (.str "mark")) (aCons (cV 0) ox))) (aCons (cV 1) ox))))))))
 (oI (sIf (uz (qc (cT (c1 (p6 (pK "tuple")) (cV 4)))) (uz (cT (c2 (dEq true) (cV 4) (AJ (cL (A3 (cV 5)))))) (cT (c2 Aa (oE vB (aCons (cV 0) (aCons (cV 4) ox))) (cC (.bl true)))))) (pb (cC (.bl false))) pj)
 (oI (sIf (cT (c2 (dEq true) (cL (oQ 1 [] (iT (cV 4)) (gN 0) (uz (qc (cT (c1 (p6 (pK "tuple")) (cV 0)))) (qc (cT (c1 (p6 (pK "tuple")) (c2 dIx (cV 0) (cC (.int 0))))))) (cV 0))) (cL (pB ox)))) (pb (cC (.bl false))) pj)
 (oI (px 6 (cL (oQ 1 [] (iL (c2 qL (cV 1) (cC (.str "rows")))) (gN 0) pF (c2 dIx (cV 0) (cC (.int 0))))))
 (oI (sIf (cT (c2 (dEq true) (cL (oQ 1 [4,2] (iL (cV 6)) (gN 0) (cT (c2 (dEq true) (oE qW (aCons (cV 1) (aCons (cV 0) ox))) (c2 uO (cV 2) (cV 0)))) (cV 0))) (cL (pB ox)))) (pb (cC (.bl false))) pj)
 (oI (rZ (iL (cL (q9 (cV 6) (cL (oQ 1 [] (iL (c2 qL (cV 1) (cC (.str "marks")))) (gN 0) pF (c2 dIx (cV 0) (cC (.int 0)))))))) (gN 7) (sIf (uz (cT (c2 (dEq true) (oE rJ (aCons (cV 4) (aCons (cV 7) ox))) (c2 uO (cV 3) (cV 7)))) (cT (c1 (p6 (pK "bool")) (oE rJ (aCons (cV 4) (aCons (cV 7) ox)))))) (pb (cC (.bl false))) pj))
 (pb (cC (.bl true))))))))))))
def qX:=fnD 2 8 vJ
def Hl:FS:=(oI (px 1 (oE sO (aCons (oE tY (aCons (cV 0) (aCons (cC (.int 0)) ox))) ox)))
 (oI (rQ 2 (oQ 2 [] (iZ (aCons (c2 qL (cV 1) (cC (.str "rows"))) (aCons (c2 qL (cV 1) (cC (.str "words"))) ox))) (gT (oX (gN 0) (oX (gN 1) qZ)) 2) pF (pA 0 (λds=>vq (ds++[])) (aCons (c2 dIx (cV 0) (cC (.int 0))) (aCons (cV 1) (aCons (c2 dIx (cV 0) (cC (.int 1))) (aCons (c2 dIx (cV 0) (cC (.int 2))) ox)))))))
 (oI (rQ 3 (oQ 3 [] (iL (c2 qL (cV 1) (cC (.str "marks")))) (gT (oX (gN 0) (oX (gN 1) (oX (gN 2) qZ))) 3) pF (pA 1 (λds=>wq (ds++[])) (aCons (cV 0) (aCons (cV 1) (aCons (cV 2) ox))))))
 (oI (rQ 4 (tf (c2 qL (cV 1) (cC (.str "dark")))))
 (oI (px 5 (cLndF (pA 14 (λds=>qt (ds++[])) (aCons (cV 2) (aCons (cV 3) (aCons (cV 4) (aCons (cL (pB ox)) (aCons (cL (pB ox)) (aCons (cL (pB ox)) ox)))))))))
 (oI (sIf (qc (cT (oE qX (aCons (cV 5) (aCons (cV 1) ox))))) (pb (cC (.bl false))) pj)
 (oI (pd (Ik 2))
 (oI (pd (Ik 3))
 (oI (pd (Ik 4))
 (oI (rZ (iL (cL (cSl (cV 0) (some 1) (some 9)))) (gN 6) (oI (px 7 (oE sO (aCons (cV 6) ox)))
 (sIf (qc (cT (oE qX (aCons (oE tq (aCons (cV 7) ox)) (aCons (cV 7) ox))))) (pb (cC (.bl false))) pj)))
 (pb (oE qX (aCons (cV 5) (aCons (cV 1) ox))))))))))))))
def O0:=fnD 1 8 Hl
section
variable{k:Nat}{cap:List Nat}{g:FG}{ft:FT}{fe e:FE}{s:FA}{ρ ρ1 ρ2:List Sl}{α:Type}
theorem qJ{m:L4.D}(h:e ρ=some (.bl true,ρ1)):pd (oE oN (aCons e (aCons (cC m) ox))) ρ=some (.nx ρ1):=p8 (oJ (oB h (oB rfl rfl)) rfl)
theorem rK(dd h:α->L4.D)(l:List α)(hs:s ρ=some (l.map dd,ρ1))(hl:l.length<=1000)(st:∀a∈l,∃ρ2 ρ3,g (dd a) (xb k cap ρ1)=some ρ2/\fe ρ2=some (h a,ρ3)/\q8 cap (ρ3.drop k) ρ1=some ρ1):
  oQ k cap s g pF fe ρ=some (l.map h,ρ1):=(yg hs (by rw[ah];exact hl)).trans (N1 dd h l st)
theorem t8(dd h:α->L4.D)(p:α->Bool)(l:List α)(hs:s ρ=some (l.map dd,ρ1))(hl:l.length<=1000)
  (st:∀a∈l,∃ρ2 ρ3,g (dd a) (xb k cap ρ1)=some ρ2/\ft ρ2=some (p a,ρ3)/\(p a=true->∃ρ4,fe ρ3=some (h a,ρ4)/\q8 cap (ρ4.drop k) ρ1=some ρ1)/\(p a=false->q8 cap (ρ3.drop k) ρ1=some ρ1)):
  oQ k cap s g ft fe ρ=some ((l.filter p).map h,ρ1):=(yg hs (by rw[ah];exact hl)).trans (A6 dd p h l st)
theorem uJ(dd:α->L4.D)(l:List α)(hs:s ρ=some (l.map dd,ρ1))(hl:l.length<=1000)(st:∀a∈l,∃ρ2 ρ3,g (dd a) (xb k cap ρ1)=some ρ2/\fe ρ2=some (.bl true,ρ3)/\q8 cap (ρ3.drop k) ρ1=some ρ1):
  c1 tI (cL (oQ k cap s g pF fe)) ρ=some (.bl true,ρ1):=
 ph (pI (rK dd (λ_=>.bl true) l hs hl st)) ((DC l λ_=>true).trans (by rw[aY.mpr λ_ _=>rfl]))
theorem Lp(dd:α->L4.D)(l:List α)(hs:s ρ=some (l.map dd,ρ1))(hl:l.length<=1000)(st:∀a∈l,∃ρ2 ρ3,g (dd a) (xb k cap ρ1)=some ρ2/\fe ρ2=some (.bl false,ρ3)/\q8 cap (ρ3.drop k) ρ1=some ρ1):
  c1 AN (cL (oQ k cap s g pF fe)) ρ=some (.bl false,ρ1):=
 ph (pI (rK dd (λ_=>.bl false) l hs hl st)) ((N3 l λ_=>false).trans (by rw[j7.mpr λ_ _=>aP]))
end
inductive Kd where
 |room|you|plain|fixed|box|lamp
deriving DecidableEq
def Kd.s:Kd->Str
 |.room=>"room" |.you=>"you" |.plain=>"plain" |.fixed=>"fixed" |.box=>"box" |.lamp=>"lamp"
def Kd.pl:Kd->Bool
 |.room=>false|.you=>false|_=>true
def Kd.hd:Kd->Bool
 |.room=>true|.you=>true|.box=>true|_=>false
def Kd.mk:Kd->Bool
 |.box=>true|.lamp=>true|_=>false
structure Th where
 n:Str
 w:List Str
 k:Kd
 s:Option Str
def oS:Option Str->L4.D
 |none=>.non
 |some x=>.str x
def thD(t:Th):L4.D:=.obj 0 ["name", "words", "kind", "start"] [.str t.n,.tup (t.w.map D.str),.str t.k.s,oS t.s]
theorem sY(t:Th):oW oU "name" (thD t)=some (.str t.n):=rfl
theorem DH(t:Th):oW qE "words" (thD t)=some (.tup (t.w.map D.str)):=rfl
theorem wH(t:Th):oW pD "kind" (thD t)=some (.str t.k.s):=rfl
theorem Ag(t:Th):oW pJ "start" (thD t)=some (oS t.s):=rfl
theorem CL(a b:Kd):dEq false (.str a.s) (.str b.s)=some (.bl (decide (a=b))):=by cases a<;>cases b<;>kernel_rfl
theorem Hm(t:Th):uU [thD t]=some (.bl t.k.hd):=by obtain⟨n,w,k,s⟩:=t;cases k<;>kernel_rfl
theorem DI(t:Th):uW [thD t]=some (.bl t.k.mk):=by obtain⟨n,w,k,s⟩:=t;cases k<;>kernel_rfl
theorem Lq(t:Th):tR [thD t]=some (.bl t.k.pl):=by obtain⟨n,w,k,s⟩:=t;cases k<;>kernel_rfl
theorem Od(t:Th):p9 [.str t.k.s,DG]=some (.bl true):=by obtain⟨n,w,k,s⟩:=t;cases k<;>kernel_rfl
abbrev TD(T:List Th):L4.D:=.fzl (T.map thD)
abbrev TL(T:List Th):L4.D:=.lst (T.map thD)
theorem count_eq(T:List Th)(hl:T.length<=1000)(k:Kd):vt [TD T,.str k.s]=some (.int (T.filter λt=>decide (t.k=k)).length):=by refine o8 (ρ:=[.im (TD T),.im (.str k.s)]) rfl ?_;refine pC (ph (pI (t8 thD thD (λt=>decide (t.k=k)) T (ρ1:=[.im (TD T),.im (.str k.s)]) rfl hl λt _=>⟨[.im (thD t),.im (.str k.s)],[.im (thD t),.im (.str k.s)],rfl,qm (oT (ph rfl (wH t)) rfl (CL t.k k)),λ_=>⟨_,rfl,rfl⟩,λ_=>rfl⟩)) ?_);show some (D.int _)=_;rw[ah]
theorem uK(T:List Th)(hl:T.length<=1000):qV [TD T]=some ((T.filter λt=>t.k.pl).map thD):=by refine yV (ρ:=[.im (TD T)]) rfl ?_;exact uf (t8 thD thD (λt=>t.k.pl) T (ρ1:=[.im (TD T)]) rfl hl λt _=>⟨[.im (thD t)],[.im (thD t)],rfl,qm (qd (xs:=[.str t.n,.tup (t.w.map D.str),.str t.k.s,oS t.s]) (ys:=[]) rfl rfl rfl rfl (Lq t)),λ_=>⟨_,rfl,rfl⟩,λ_=>rfl⟩)
variable{a b:FE}{ρ:List Sl}
theorem yH{c:FE}{x y z:Int}(h1:a ρ=some (.int x,ρ))(h2:b ρ=some (.int y,ρ))(h3:c ρ=some (.int z,ρ))(hx:x<=y)(hy:y<=z):qI sR sR a b c ρ=some (.bl true,ρ):=by
 unfold qI;rw[h1];simp only[h2];have e1:sR (.int x) (.int y)=some (.bl true):=by show some (D.bl (decide (x<=y)))=_;rw[bg hx]
 have e2:sR (.int y) (.int z)=some (.bl true):=by show some (D.bl (decide (y<=z)))=_;rw[bg hy]
 simp only[e1,h3,e2]
theorem O1{x y:Int}(h1:a ρ=some (.int x,ρ))(h2:b ρ=some (.int y,ρ))(hx:x<=y):c2 sR a b ρ=some (.bl true,ρ):=oT h1 h2 (by
 show some (D.bl (decide (x<=y)))=_;rw[bg hx])
theorem zU(T:List Th)(hl:T.length<=1000)(h1:1<=(T.filter λt=>decide (t.k=.room)).length)(h5:(T.filter λt=>decide (t.k=.room)).length<=5)(hy:(T.filter λt=>decide (t.k=.you)).length=1)(h7:(T.filter λt=>t.k.pl).length<=7):
  tT [TD T]=some .non:=by
 let ρ:List Sl:=[.im (TD T),.im (.bl true)];refine wb (ρ:=ρ) rfl ?_;unfold tS;rw[oA (show _=some (Out.nx ρ) from(pf ((qA rfl).trans (uJ thD T (ρ1:=[.im (TD T),.un]) rfl hl λt _=>⟨_,_,rfl,rfl,rfl⟩))).trans rfl)];rw[oA (qJ (ρ1:=ρ) rfl)];rw[oA (qJ (ρ1:=ρ) (uJ thD T rfl hl λt _=>⟨[.im (thD t)],[.im (thD t)],rfl,oJ (oB (ph rfl (wH t)) (oB rfl rfl)) (Od t),rfl⟩))];rw[oA (qJ (ρ1:=ρ) (yH (x:=1) (y:=(T.filter λt=>decide (t.k=.room)).length) (z:=5) rfl (oJ (ds:=[TD T,.str Kd.room.s]) rfl (count_eq T hl .room)) rfl (by omega) (by omega)))];rw[oA (qJ (ρ1:=ρ) (oT (ρ1:=ρ) (x:=.int (T.filter λt=>decide (t.k=.you)).length) (y:=.int 1) (oJ (ds:=[TD T,.str Kd.you.s]) rfl (count_eq T hl .you)) rfl (by rw[hy];rfl)))];refine qJ (ρ1:=ρ) (O1 (x:=(T.filter λt=>t.k.pl).length) (y:=7) (ph (pI (oJ rfl (uK T hl))) ?_) rfl (by omega));show some (D.int _)=_;rw[ah]
structure Mk where
 n:Str
 st:Int
 mo:Int
def mkD(m:Mk):L4.D:=.obj 1 ["name", "start", "most"] [.str m.n,.int m.st,.int m.mo]
def Mk.ok(m:Mk):Prop:=1<=m.mo/\m.mo<=3/\0<=m.st/\m.st<=m.mo
abbrev MD(M:List Mk):L4.D:=.fzl (M.map mkD)
abbrev ML(M:List Mk):L4.D:=.lst (M.map mkD)
theorem Ah(m:Mk):oW oU "name" (mkD m)=some (.str m.n):=rfl
theorem F2(m:Mk)(h:m.ok):y6 [mkD m]=some (.bl true):=by obtain⟨h1,h2,h3,h4⟩:=h;refine o8 (ρ:=[.im (mkD m)]) rfl ?_;unfold y4;rw[oA (show _=some (Out.nx [.im (mkD m)]) from rfl)];exact pC ((qA (yH (x:=1) (y:=m.mo) (z:=3) rfl rfl rfl h1 h2)).trans (yH (x:=0) (y:=m.st) (z:=m.mo) rfl rfl rfl h3 h4))
theorem Bp(M:List Mk)(hl:M.length<=4)(h:∀m∈M,m.ok):uB [MD M]=some .non:=by
 let ρ:List Sl:=[.im (MD M),.im (.bl true)];refine wb (ρ:=ρ) rfl ?_;unfold uA;have e0:pZ [MD M,tm]=some (.bl true):=by refine o8 (ρ:=[.im (MD M),.im (.int 4)]) rfl ?_;refine pC ((qA rfl).trans (O1 (x:=M.length) (y:=4) ?_ rfl (by omega)));refine ph rfl ?_;show some (D.int _)=_;rw[ah]
 rw[oA (show _=some (Out.nx ρ) from(pf ((qA (oJ (ds:=[MD M,tm]) rfl e0)).trans (uJ mkD M (ρ1:=[.im (MD M),.un]) rfl (by omega) λm hm=>⟨[.im (mkD m)],[.im (mkD m)],rfl,oJ rfl (F2 m (h m hm)),rfl⟩))).trans rfl)];exact qJ (ρ1:=ρ) rfl
def nmS(l c:Nat):Str:=fM ⟨#[98+l]⟩ (1+(c:Int))
def Nm(x:Str):Prop:=∃l c,l<25/\c<8/\x=nmS l c
def isT:Option L4.D->Bool
 |some (.bl b)=>b
 |_=>false
theorem Lr{o:Option L4.D}(h:isT o=true):o=some (.bl true):=by
 unfold isT at h;split at h
 ·rw[h]
 ·cases h
theorem F3{p:Str->Bool}(h:((aX 25).all λl=>(aX 8).all λc=>p (nmS l c))=true){x:Str}(hx:Nm x):p x=true:=by obtain⟨l,c,hl,hc,rfl⟩:=hx;exact aY.mp (aY.mp h l (bL.mpr hl)) c (bL.mpr hc)
theorem F4{x:Str}(h:Nm x):wZ [.str x]=some (.bl true):=Lr (F3 (p:=λx=>isT (wZ [.str x])) (by kernel_rfl) h)
theorem F5{x:Str}(h:Nm x):tD [.str x]=some (.bl true):=Lr (F3 (p:=λx=>isT (tD [.str x])) (by kernel_rfl) h)
theorem ER:tD [.str "red"]=some (.bl true):=by kernel_rfl
theorem ES:tD [.str "old"]=some (.bl true):=by kernel_rfl
def noW(x:Str):Bool:=decide (x∉(["red", "old", "take", "drop", "open", "shut", "light", "douse", "put", "go", "wait", "in", "the", "a", "undo", "restart"]:List Str))
theorem Ls{x:Str}(h:Nm x):x∉(["red", "old", "take", "drop", "open", "shut", "light", "douse", "put", "go", "wait", "in", "the", "a", "undo", "restart"]:List Str):=bP (F3 (p:=noW) (by kernel_rfl) h)
def sg(x:Str):Nat:=x.cps.getD 0 0
theorem UB{l c:Nat}(hl:l<25)(hc:c<8):sg (nmS l c)=98+l:=by
 have h:((aX 25).all λl=>(aX 8).all λc=>sg (nmS l c)==98+l)=true:=by kernel_rfl
 exact fG (aY.mp (aY.mp h l (bL.mpr hl)) c (bL.mpr hc))
theorem Bq{l:List Str}(h:l.Nodup)(hl:l.length<=1000):pM [.lst (l.map D.str)]=some (.bl true):=by
 refine o8 (ρ:=[.im (.lst (l.map D.str))]) rfl ?_;refine pC (oT (x:=.int l.length) (y:=.int l.length) (ph rfl (NM (wa h hl))) (ph rfl ?_) ?_)
 ·show some (D.int _)=_;rw[ah]
 ·rw[wY];simp
theorem F6{l:List Str}(h:l.Nodup)(hl:l.length<=1000):pM [.tup (l.map D.str)]=some (.bl true):=by
 refine o8 (ρ:=[.im (.tup (l.map D.str))]) rfl ?_;refine pC (oT (x:=.int l.length) (y:=.int l.length) (ph rfl (wa h hl)) (ph rfl ?_) ?_)
 ·show some (D.int _)=_;rw[ah]
 ·rw[wY];simp
theorem Br(T:List Th)(M:List Mk)(hT:T.length<=400)(hM:M.length<=400)(hn:∀x∈T.map Th.n++M.map Mk.n,Nm x)(nd:(T.map Th.n++M.map Mk.n).Nodup):uD [TD T,MD M]=some .non:=by
 have hl:(T.map Th.n++M.map Mk.n).length<=1000:=by rw[aI,ah,ah];omega
 let ρ0:List Sl:=[.im (TD T),.im (MD M),.un];let ρ:List Sl:=[.im (TD T),.im (MD M),.im (.lst ((T.map Th.n++M.map Mk.n).map D.str))];refine wb (ρ:=ρ) rfl ?_;unfold uC;have e1:oQ 1 [] (iL (cV 0)) (gN 0) pF (c1 (oW oU "name") (cV 0)) ρ0=some (T.map λt=>D.str t.n,ρ0):=rK thD (λt=>D.str t.n) T rfl (by omega) λt _=>⟨_,_,rfl,ph rfl (sY t),rfl⟩;have e2:oQ 1 [] (iL (cV 1)) (gN 0) pF (c1 (oW oU "name") (cV 0)) ρ0=some (M.map λt=>D.str t.n,ρ0):=rK mkD (λt=>D.str t.n) M rfl (by omega) λt _=>⟨_,_,rfl,ph rfl (Ah t),rfl⟩;have e3:=pf (i:=2) (pI (sS (pI e1) (pI e2) (by rw[ah,ah];omega)));refine(oA (ρ':=ρ) (e3.trans (by
  have:(T.map λt=>D.str t.n)++(M.map λt=>D.str t.n)=(T.map Th.n++M.map Mk.n).map D.str:=by rw[aU,aC,aC];rfl
  rw[this];rfl))).trans ?_
 rw[oA (qJ (ρ1:=ρ) (uJ D.str (T.map Th.n++M.map Mk.n) rfl hl λx hx=>⟨_,_,rfl,oJ rfl (F4 (hn x hx)),rfl⟩))];exact qJ (ρ1:=ρ) (oJ rfl (Bq nd hl))
def rmN(T:List Th):List Str:=(T.filter λt=>decide (t.k=.room)).map Th.n
def hdN(T:List Th):List Str:=(T.filter λt=>t.k.hd).map Th.n
variable{i:Nat}
theorem ET(T:List Th)(hl:T.length<=1000)(hi:cV i ρ=some (TD T,ρ)):oQ 1 [] (iL (cV i)) (gN 0) (cT (c2 (dEq false) (c1 (oW pD "kind") (cV 0)) (cC (.str "room")))) (c1 (oW oU "name") (cV 0)) ρ=some ((rmN T).map D.str,ρ):=by
 have hs:iL (cV i) ρ=some (T.map thD,ρ):=by unfold iL;rw[hi]
 have:=t8 (k:=1) (cap:=[]) (g:=gN 0) (ft:=cT (c2 (dEq false) (c1 (oW pD "kind") (cV 0)) (cC (.str "room")))) (fe:=c1 (oW oU "name") (cV 0)) thD (λt=>D.str t.n) (λt=>decide (t.k=.room)) T hs hl λt _=>⟨[.im (thD t)],[.im (thD t)],rfl,qm (oT (ph rfl (wH t)) rfl (CL t.k .room)),λ_=>⟨_,ph rfl (sY t),rfl⟩,λ_=>rfl⟩
 rw[this];unfold rmN;rw[aC];rfl
theorem F7(T:List Th)(hl:T.length<=1000)(hi:cV i ρ=some (TD T,ρ)):oQ 1 [] (iL (cV i)) (gN 0) (cT (pE pU "can_hold" (cV 0) ox)) (c1 (oW oU "name") (cV 0)) ρ=some ((hdN T).map D.str,ρ):=by
 have hs:iL (cV i) ρ=some (T.map thD,ρ):=by unfold iL;rw[hi]
 have:=t8 (k:=1) (cap:=[]) (g:=gN 0) (ft:=cT (pE pU "can_hold" (cV 0) ox)) (fe:=c1 (oW oU "name") (cV 0)) thD (λt=>D.str t.n) (λt=>t.k.hd) T hs hl λt _=>⟨[.im (thD t)],[.im (thD t)],rfl,qm (qd (xs:=[.str t.n,.tup (t.w.map D.str),.str t.k.s,oS t.s]) (ys:=[]) rfl rfl rfl rfl (Hm t)),λ_=>⟨_,ph rfl (sY t),rfl⟩,λ_=>rfl⟩
 rw[this];unfold hdN;rw[aC];rfl
theorem zc{x:Str}{l:List Str}(h:x∈l):p9 [.str x,.lst (l.map D.str)]=some (.bl true):=by refine o8 (ρ:=[.im (.str x),.im (.lst (l.map D.str))]) rfl ?_;refine pC ((qA rfl).trans (oT rfl rfl ?_));rw[A7];simp[h]
structure DkO(kd:L4.D)(dk:List Str):Prop where
 i:p6 (pK "list") kd=some (.bl true)
 l:∀{f:FE} {ρ ρ1},f ρ=some (kd,ρ1)->iL f ρ=some (dk.map D.str,ρ1)
 c:∀{f:FE} {ρ ρ1},f ρ=some (kd,ρ1)->tf f ρ=some (dk.map D.str,ρ1)
 u:dk.Nodup->dk.length<=1000->pM [kd]=some (.bl true)
theorem Sy(dk:List Str):DkO (.lst (dk.map D.str)) dk:=⟨rfl,λh=>by unfold iL;rw[h],λh=>by unfold tf;rw[h];rfl,Bq⟩
theorem F8{l:List Str}(h:l.Nodup)(hl:l.length<=1000):pM [.fzl (l.map D.str)]=some (.bl true):=by
 refine o8 (ρ:=[.im (.fzl (l.map D.str))]) rfl ?_;refine pC (oT (x:=.int l.length) (y:=.int l.length) (ph rfl (wa h hl)) (ph rfl ?_) ?_)
 ·show some (D.int _)=_;rw[ah]
 ·rw[wY];simp
theorem SA(dk:List Str):DkO (.fzl (dk.map D.str)) dk:=⟨rfl,λh=>by unfold iL;rw[h],λh=>by unfold tf;rw[h];rfl,F8⟩
variable{kd:L4.D}
theorem BR(dk rm:List Str)(k:DkO kd dk)(hl:dk.length<=1000)(nd:dk.Nodup)(h:∀x∈dk,x∈rm):vw [kd,.lst (rm.map D.str)]=some .non:=by let ρ0:List Sl:=[.im kd,.im (.lst (rm.map D.str)),.un];let ρ:List Sl:=[.im kd,.im (.lst (rm.map D.str)),.im (.bl true)];refine wb (ρ:=ρ) rfl ?_;unfold vv;rw[oA (show _=some (Out.nx ρ) from(pf ((qA (ρ1:=ρ0) (ph rfl k.i)).trans ((qA (uJ D.str dk (ρ1:=ρ0) (k.l rfl) hl λx hx=>⟨[.im (.str x),.im (.lst (rm.map D.str))],[.im (.str x),.im (.lst (rm.map D.str))],rfl,oJ rfl (zc (h x hx)),rfl⟩)).trans (oJ (ρ1:=ρ0) rfl (k.u nd hl))))).trans rfl)];exact qJ (ρ1:=ρ) rfl
def uw(T:List Th)(t:Th):Prop:=match t.k,t.s with
 |.room,none=>True
 |.room,some _=>False
 |_,none=>False
 |.you,some x=>x∈rmN T
 |_,some x=>x∈hdN T
theorem EU(T:List Th)(hl:T.length<=1000)(t:Th)(h:uw T t):xU [TD T,thD t]=some (.bl true):=by
 refine o8 (ρ:=[.im (TD T),.im (thD t)]) rfl ?_;unfold xT;obtain⟨n,w,k,s⟩:=t;have els:∀k:Kd,k≠.room->k≠.you->∀x,x∈hdN T->(oI (sIf (cT (c2 (dEq false) (c1 (oW pD "kind") (cV 1)) (cC (.str "room")))) (pb (c2 yf (c1 (oW pJ "start") (cV 1)) (cC D.non))) pj)
   (oI (sIf (cT (c2 (dEq false) (c1 (oW pD "kind") (cV 1)) (cC (.str "you")))) (pb (oE p9 (aCons (c1 (oW pJ "start") (cV 1)) (aCons (cL (oQ 1 [] (iL (cV 0)) (gN 0) (cT (c2 (dEq false) (c1 (oW pD "kind") (cV 0)) (cC (.str "room")))) (c1 (oW oU "name") (cV 0)))) ox)))) pj)
   (pb (oE p9 (aCons (c1 (oW pJ "start") (cV 1)) (aCons (cL (oQ 1 [] (iL (cV 0)) (gN 0) (cT (pE pU "can_hold" (cV 0) ox)) (c1 (oW oU "name") (cV 0)))) ox)))))) [.im (TD T),.im (thD ⟨n,w,k,some x⟩)]=some (.rt (.bl true) [.im (TD T),.im (thD ⟨n,w,k,some x⟩)]):=λk h1 h2 x hx=>by
  let ρ:List Sl:=[.im (TD T),.im (thD ⟨n,w,k,some x⟩)];rw[oA (show _=some (Out.nx ρ) from(pL (ρ':=ρ) (qm (oT (ρ1:=ρ) (ρ2:=ρ) (ph rfl (wH _)) rfl ((CL k .room).trans (by rw[aN h1]))))).trans rfl)];rw[oA (show _=some (Out.nx ρ) from(pL (ρ':=ρ) (qm (oT (ρ1:=ρ) (ρ2:=ρ) (ph rfl (wH _)) rfl ((CL k .you).trans (by rw[aN h2]))))).trans rfl)];exact pC (oJ (oB (ph rfl (Ag _)) (oB (pI (F7 T hl rfl)) rfl)) (zc hx))
 cases k with
 |room=>
  cases s with
  |none=>rfl
  |some x=>exact h.elim
 |you=>
  cases s with
  |none=>exact h.elim
  |some x=>let ρ:List Sl:=[.im (TD T),.im (thD ⟨n,w,.you,some x⟩)];rw[oA (show _=some (Out.nx ρ) from rfl)];refine rF ((sA (ρ':=ρ) rfl).trans ?_);exact pC (oJ (oB (ph rfl (Ag _)) (oB (pI (ET T hl rfl)) rfl)) (zc h))
 |plain=>cases s with
  |none=>exact h.elim
  |some x=>exact els .plain (by decide) (by decide) x h
 |fixed=>cases s with
  |none=>exact h.elim
  |some x=>exact els .fixed (by decide) (by decide) x h
 |box=>cases s with
  |none=>exact h.elim
  |some x=>exact els .box (by decide) (by decide) x h
 |lamp=>cases s with
  |none=>exact h.elim
  |some x=>exact els .lamp (by decide) (by decide) x h
def kS(x:Str):Key:=Sum.inr x
variable{ks:List Key}{ds:List L4.D}{d:L4.D}
theorem Bs{fk fv:FE}{x:Str}(h1:fv ρ=some (d,ρ))(h2:ρ[i]?=some (.dk ks ds))(h3:fk ρ=some (.str x,ρ))(hn:kS x∉ks)(hl:ks.length<1000)(he:ds.length=ks.length):
  qo i fk fv ρ=some (.nx (ρ.set i (.dk (ks++[kS x]) (ds++[d])))):=by
 have hk:AM ks (kS x)=false:=by unfold AM;rw[gm];intro z;obtain⟨y,hy,ey⟩:=dW.mp z;exact hn (by rw[<-bP ey];exact hy)
 unfold qo;rw[h1];simp only[h2,h3];rw[show xJ (.str x)=some (kS x) from rfl];simp only;rw[aj hl,aj he,hk];rfl
section
variable{α:Type}{g:FG}{i:Nat}{fk fv:FE}
theorem sy(dd:α->L4.D)(kf:α->Str)(vf:α->L4.D){β:Type}(st:List Key->List L4.D->β->List Sl)
  (hs:∀(a:α) (ks:List Key) (ds:List L4.D) (s:β),∃ρ1,g (dd a) (st ks ds s)=some ρ1/\fv ρ1=some (vf a,ρ1)/\ρ1[i]?=some (.dk ks ds)/\fk ρ1=some (.str (kf a),ρ1)/\∀ks' ds',∃s',ρ1.set i (.dk ks' ds')=st ks' ds' s'):
  ∀(l:List α) (ks:List Key) (ds:List L4.D) (s:β),(ks++l.map λa=>kS (kf a)).Nodup->ks.length+l.length<=1000->ds.length=ks.length->
   ∃s',forL g (qo i fk fv) (l.map dd) (st ks ds s)=some (.nx (st (ks++l.map λa=>kS (kf a)) (ds++l.map vf) s'))
 |[],ks,ds,s,_,_,_=>⟨s,by rw[bV,bV,bV,br,br];rfl⟩
 |a::l,ks,ds,s,nd,hl,he=>by
  obtain⟨ρ1,h1,h2,h3,h4,h5⟩:=hs a ks ds s;obtain⟨s1,h6⟩:=h5 (ks++[kS (kf a)]) (ds++[vf a]);rw[aD]at hl;have nd':((ks++[kS (kf a)])++l.map λa=>kS (kf a)).Nodup:=by rw[bp];exact nd
  have hn:kS (kf a)∉ks:=λz=>by rw[bG]at nd;exact nd.2.2 _ z _ (by rw[av];exact aT) rfl
  obtain⟨s',h7⟩:=sy dd kf vf st hs l (ks++[kS (kf a)]) (ds++[vf a]) s1 nd' (by rw[aI,bB];omega) (by rw[aI,aI,he,bB,bB]);refine⟨s',?_⟩;rw[av];unfold forL;rw[h1];simp only[Bs h2 h3 h4 hn (by omega) he,h6];rw[h7,av,av,bp,bp];rfl
end
def nK(T:List Th):List Key:=T.map λt=>kS t.n
theorem Lu{a b:Str}(h:kS a=kS b):a=b:=gS h
variable{T:List Th}
theorem Hn(h:(T.map Th.n).Nodup):(nK T).Nodup:=by have:=rG h;rw[aC]at this;exact this
variable{t:Th}
theorem Ho(h:(T.map Th.n).Nodup)(vf:Th->L4.D)(ht:t∈T):rb (nK T) (T.map vf) (kS t.n)=some (vf t):=by refine uR (Hn h) ?_;unfold nK;rw[fA];exact bS (f:=λt=>(kS t.n,vf t)) ht
def F9(T:List Th)(r:Str->Nat):Prop:=∀t∈T,r t.n<T.length/\∀p,t.s=some p->r p<r t.n/\∃u∈T,u.n=p
def stD(T:List Th):L4.D:=.dic (nK T) (T.map λt=>oS t.s)
theorem Lv(T:List Th)(hl:T.length<=1000)(nd:(T.map Th.n).Nodup)(r:Str->Nat)(hr:F9 T r)(t:Th)(ht:t∈T):qq [stD T,.str t.n]=some (.bl true):=by
 have loop:∀(m:Nat) (l:List L4.D),l.length=m->∀(a:Option Str) (s:Sl),(∀x,a=some x->(∃u∈T,u.n=x)/\r x<m)->
   (∃ρ,forL (gN 3) (oI (sIf (cT (c2 yf (cV 2) (cC D.non))) (pb (cC (.bl true))) pj) (px 2 (c2 qL (cV 0) (cV 2)))) l [.im (stD T),.im (.str t.n),.im (oS a),s]=some (.rt (.bl true) ρ))\/
   (∃s',forL (gN 3) (oI (sIf (cT (c2 yf (cV 2) (cC D.non))) (pb (cC (.bl true))) pj) (px 2 (c2 qL (cV 0) (cV 2)))) l [.im (stD T),.im (.str t.n),.im (oS a),s]=some (.nx [.im (stD T),.im (.str t.n),.im .non,s'])):=by
  intro m
  induction m with
  |zero=>
   intro l h a s ha;cases l with
   |cons d l=>cases h
   |nil=>
    cases a with
    |none=>exact .inr ⟨s,rfl⟩
    |some x=>exact ao (ha x rfl).2 (lg _)
  |succ m ih=>
   intro l h a s ha;cases l with
   |nil=>cases h
   |cons d l=>
    cases a with
    |none=>refine .inl ⟨[.im (stD T),.im (.str t.n),.im .non,.im d],?_⟩;unfold forL;rw[show gN 3 d [.im (stD T),.im (.str t.n),.im (oS none),s]=some [.im (stD T),.im (.str t.n),.im .non,.im d] from rfl];rfl
    |some x=>
     obtain⟨⟨u,hu,rfl⟩,hx⟩:=ha x rfl;have e:oI (sIf (cT (c2 yf (cV 2) (cC D.non))) (pb (cC (.bl true))) pj) (px 2 (c2 qL (cV 0) (cV 2))) [.im (stD T),.im (.str t.n),.im (.str u.n),.im d]=some (.nx [.im (stD T),.im (.str t.n),.im (oS u.s),.im d]):=by refine(oA (ρ':=[.im (stD T),.im (.str t.n),.im (.str u.n),.im d]) rfl).trans ?_;exact(pf (oT rfl rfl (Ho nd (λt=>oS t.s) hu))).trans rfl
     have key:=ih l (by simpa using h) u.s (.im d) λy hy=>by obtain⟨h1,h2⟩:=hr u hu;obtain⟨h3,h4⟩:=h2 y hy;exact⟨h4,by omega⟩
     unfold forL;rw[show gN 3 d [.im (stD T),.im (.str t.n),.im (oS (some u.n)),s]=some [.im (stD T),.im (.str t.n),.im (.str u.n),.im d] from rfl];simp only[e];exact key
 obtain⟨h1,h2⟩:=hr t ht;have l0:=loop T.length (yc 0 T.length) (by unfold yc;simp) t.s .un λx hx=>⟨(h2 x hx).2,by have:=(h2 x hx).1;omega⟩;have e0:px 2 (c2 qL (cV 0) (cV 1)) [.im (stD T),.im (.str t.n),.un,.un]=some (.nx [.im (stD T),.im (.str t.n),.im (oS t.s),.un]):=(pf (oT rfl rfl (Ho nd (λt=>oS t.s) ht))).trans rfl;have e1:iR1 (c1 qQ (cV 0)) [.im (stD T),.im (.str t.n),.im (oS t.s),.un]=some (yc 0 T.length,[.im (stD T),.im (.str t.n),.im (oS t.s),.un]):=by unfold iR1;rw[show c1 qQ (cV 0) [.im (stD T),.im (.str t.n),.im (oS t.s),.un]=some (.int T.length,[.im (stD T),.im (.str t.n),.im (oS t.s),.un]) from ph rfl (by show some (D.int _)=_;unfold nK;rw[ah])];simp only;rw[aj (by omega),dS]
 rcases l0 with ⟨ρ,q⟩|⟨s',q⟩
 ·refine o8 (ρ:=ρ) rfl ?_;refine(oA e0).trans (rF ((pY e1).trans q))
 ·refine o8 (ρ:=[.im (stD T),.im (.str t.n),.im .non,s']) rfl ?_;refine(oA e0).trans ((oA ((pY e1).trans q)).trans rfl)
theorem zV(T:List Th)(hl:T.length<=900)(nd:(T.map Th.n).Nodup)(r:Str->Nat)(hr:F9 T r)(hs:∀t∈T,uw T t):tV [TD T]=some .non:=by
 obtain⟨s',e1⟩:=sy (g:=gN 2) (i:=1) (fk:=c1 (oW oU "name") (cV 2)) (fv:=c1 (oW pJ "start") (cV 2)) thD Th.n (λt=>oS t.s) (λks ds s=>[.im (TD T),.dk ks ds,s])
  (λt ks ds s=>⟨[.im (TD T),.dk ks ds,.im (thD t)],rfl,ph rfl (Ag t),rfl,ph rfl (sY t),λks' ds'=>⟨_,rfl⟩⟩) T [] [] .un (by rw[ba];exact Hn nd) (by simp;omega) rfl
 refine wb (ρ:=[.im (TD T),.im (stD T),s']) rfl ?_;unfold tU;refine(oA (qJ (ρ1:=[.im (TD T),.un,.un]) (uJ thD T rfl (by omega) λt ht=>⟨[.im (thD t),.im (TD T)],[.im (thD t),.im (TD T)],rfl,oJ rfl (EU T (by omega) t (hs t ht)),rfl⟩))).trans ?_;refine(oA (ρ':=[.im (TD T),.dk [] [],.un]) rfl).trans ?_;refine(oA ((pY rfl).trans e1)).trans ?_;have src:iD (cFz 1) [.im (TD T),.dk ([]++T.map λa=>kS a.n) ([]++T.map λt=>oS t.s),s']=some ((T.map λt=>D.str t.n),[.im (TD T),.im (stD T),s']):=by rw[ba,ba];unfold iD;rw[show cFz 1 [.im (TD T),.dk (T.map λa=>kS a.n) (T.map λt=>oS t.s),s']=some (stD T,[.im (TD T),.im (stD T),s']) from rfl];show (if (nK T).length=(T.map λt=>oS t.s).length then some ((nK T).map IJ,_)else none)=_;unfold nK;rw[aj (by rw[ah,ah]),aC];rfl
 exact qJ (ρ1:=[.im (TD T),.im (stD T),s']) (uJ (λt:Th=>D.str t.n) T src (by omega) λt ht=>⟨[.im (.str t.n),.im (stD T)],[.im (.str t.n),.im (stD T)],rfl,oJ rfl (Lv T (by omega) nd r hr t ht),rfl⟩)
def CM:List (List Str):=[[],["red"],["old", "red"]]
def qN(t:Th):Prop:=Nm t.n/\∃m∈CM,t.w=t.n::m
theorem rL(h:qN t):t.w=[t.n]\/t.w=[t.n,"red"]\/t.w=[t.n,"old", "red"]:=by
 obtain⟨_,m,hm,e⟩:=h;unfold CM at hm;simp only[aJ,bw,or_false]at hm;rcases hm with rfl|rfl|rfl
 ·exact .inl e
 ·exact .inr (.inl e)
 ·exact .inr (.inr e)
theorem zd(h:qN t){x:Str}(hx:x∈t.w):x=t.n\/x="red" \/ x="old" := by
 rcases rL h with e|e|e<;>rw[e]at hx<;>simp only[aJ,bw,or_false]at hx
 ·exact .inl hx
 ·rcases hx with h|h
  ·exact .inl h
  ·exact .inr (.inl h)
 ·rcases hx with h|h|h
  ·exact .inl h
  ·exact .inr (.inr h)
  ·exact .inr (.inl h)
theorem O2{x:Str}(h:Nm x):x≠"red" /\ x≠"old" := by have:=Ls h;exact⟨λz=>this (by rw[z];decide),λz=>this (by rw[z];decide)⟩
theorem DJ(h:qN t):wz [.tup (t.w.map D.str)]=some (.bl true):=by
 have hn:=h.1;obtain⟨n1,n2⟩:=O2 hn;have len:1<=t.w.length/\t.w.length<=4:=by rcases rL h with e|e|e<;>rw[e]<;>simp
 have nd:t.w.Nodup:=by
  rcases rL h with e|e|e<;>rw[e]
  ·simp
  ·simp[n1]
  ·simp[n1,n2];decide
 let ρ:List Sl:=[.im (.tup (t.w.map D.str))];refine o8 (ρ:=ρ) rfl ?_;unfold wy;have e1:qI sR sR (cC (.int 1)) (c1 qQ (cV 0)) (cC vp) ρ=some (.bl true,ρ):=yH (x:=1) (y:=t.w.length) (z:=4) rfl (ph rfl (by show some (D.int _)=_;rw[ah])) rfl (by omega) (by omega);refine(oA (ρ':=ρ) ((pL (ρ':=ρ) (xI (ρ1:=ρ) rfl (vg (qm e1)))).trans rfl)).trans ?_;refine pC ((qA (uJ D.str t.w (ρ1:=ρ) rfl (by omega) λx hx=>⟨_,_,rfl,oJ rfl ?_,rfl⟩)).trans (oJ rfl (F6 nd (by omega))));rcases zd h hx with rfl|rfl|rfl
 ·exact F5 hn
 ·exact ER
 ·exact ES
theorem Ga(t u:Th)(ht:qN t)(hu:qN u)(hne:u.n≠t.n):w9 [.tup (u.w.map D.str),.tup (t.w.map D.str)]=some (.bl false):=by
 obtain⟨n1,n2⟩:=O2 ht.1;have hl:t.w.length<=1000:=by rcases rL ht with e|e|e<;>rw[e]<;>simp
 let ρ:List Sl:=[.im (.tup (u.w.map D.str)),.im (.tup (t.w.map D.str))];refine o8 (ρ:=ρ) rfl ?_;refine pC (ph (pI (rK D.str (λx=>.bl (decide (x∈u.w))) t.w (ρ1:=ρ) rfl hl λx _=>⟨_,_,rfl,oT rfl rfl (EJ false x u.w),rfl⟩)) ?_);rw[DC];have:t.w.all (λx=>decide (x∈u.w))=false:=by
  rw[gm];intro z;have:=bP (aY.mp z t.n (by rcases rL ht with e|e|e<;>rw[e]<;>simp));rcases zd hu this with h|h|h
  ·exact hne h.symm
  ·exact n1 h
  ·exact n2 h
 rw[this]
theorem BS(P:List Th)(hl:P.length<=900)(hw:∀t∈P,qN t)(t:Th)(ht:qN t):sU [TL P,thD t]=some (.bl true):=by
 let O:=P.filter λu=>!decide (u.n=t.n);let ρ:List Sl:=[.im (TL P),.im (thD t),.im (TL O)];have hO:O.length<=900:=bM (eL _ _) hl;refine o8 (ρ:=ρ) rfl ?_;unfold sT;refine(oA (ρ':=ρ) ((pf (pI (t8 thD thD (λu=>!decide (u.n=t.n)) P (ρ1:=[.im (TL P),.im (thD t),.un]) rfl (by omega) λu _=>⟨[.im (thD u),.im (thD t)],[.im (thD u),.im (thD t)],rfl,qm (oT (ph rfl (sY u)) (ph rfl (sY t)) (wX true u.n t.n)),λ_=>⟨_,rfl,rfl⟩,λ_=>rfl⟩))).trans rfl)).trans ?_;have e:c1 AN (cL (oQ 1 [1] (iL (cV 2)) (gN 0) pF (oE w9 (aCons (c1 (oW qE "words") (cV 0)) (aCons (c1 (oW qE "words") (cV 1)) ox))))) ρ=some (.bl false,ρ):=
  Lp thD O rfl (by omega) λu hu=>⟨[.im (thD u),.im (thD t)],[.im (thD u),.im (thD t)],rfl,oJ (oB (ph rfl (DH u)) (oB (ph rfl (DH t)) rfl)) (Ga t u ht (hw u (bC.mp hu).1) (by simpa using (bC.mp hu).2)),rfl⟩
 refine pC ?_;unfold Dl;rw[e];rfl
theorem Bt(T:List Th)(hl:T.length<=900)(hw:∀t∈T,qN t):qj [TD T]=some .non:=by let P:=T.filter λt=>t.k.pl;have hP:P.length<=900:=bM (eL _ _) hl;have hwP:∀t∈P,qN t:=λt ht=>hw t (bC.mp ht).1;let ρ:List Sl:=[.im (TD T),.im (TL P)];refine wb (ρ:=ρ) rfl ?_;unfold qh;refine(oA (qJ (ρ1:=[.im (TD T),.un]) (uJ thD T rfl (by omega) λt ht=>⟨[.im (thD t)],[.im (thD t)],rfl,oJ (oB (ph rfl (DH t)) rfl) (DJ (hw t ht)),rfl⟩))).trans ?_;refine(oA (ρ':=ρ) ((pf (pI (oJ rfl (uK T (by omega))))).trans rfl)).trans ?_;exact qJ (ρ1:=ρ) (uJ thD P rfl (by omega) λt ht=>⟨[.im (thD t),.im (TL P)],[.im (thD t),.im (TL P)],rfl,oJ rfl (BS P hP hwP t (hwP t ht)),rfl⟩)
def xB(n f:Str)(j:L4.D):L4.D:=.obj 2 ["name", "others", "form", "joining"] [.str n,.tup [],.str f,j]
def o5:List L4.D:=[xB "take" "one" .non,xB "drop" "one" .non,xB "open" "one" .non,xB "shut" "one" .non,xB "light" "one" .non,xB "douse" "one" .non,xB "put" "two" (.str "in"),xB "go" "way" .non,xB "wait" "alone" .non]
theorem EV:qk []=some o5:=by kernel_rfl
def vN:List Str:=["take", "drop", "open", "shut", "light", "douse", "put", "go", "wait"]
def vI:List Str:=["take", "drop", "open", "shut", "light", "douse", "put", "go", "wait", "in"]
variable{e:FE}{ρ1:List Sl}
theorem Oe{b:Bool}(h:e ρ=some (.bl b,ρ1)):Dl e ρ=some (.bl !b,ρ1):=by unfold Dl;rw[h]
theorem Lw{l m:List Str}(hd:d=.lst (m.map D.str)\/d=.tup (m.map D.str))(hl:l.length<=900)(h:∀x∈l,x∉m):sN [.lst (l.map D.str),d]=some (.bl true):=by
 let ρ:List Sl:=[.im (.lst (l.map D.str)),.im d];refine o8 (ρ:=ρ) rfl ?_;have e:c1 AN (cL (oQ 1 [1] (iL (cV 0)) (gN 0) pF (c2 (dIn false) (cV 0) (cV 1)))) ρ=some (.bl false,ρ):=Lp D.str l rfl (by omega) λx hx=>⟨[.im (.str x),.im d],[.im (.str x),.im d],rfl,oT rfl rfl (by
  rcases hd with rfl|rfl
  ·rw[A7];simp[h x hx]
  ·rw[EJ];simp[h x hx]),rfl⟩
 exact pC (Oe e)
theorem Je(h:qN t):t.w.length<=3:=by rcases rL h with e|e|e<;>rw[e]<;>simp
theorem Bu{a b c s5 s6 s7:Sl}:∀(P:List Th) (acc:List Str) (s:Sl),acc.length+3 * P.length<=900->(∀t∈P,qN t)->
  ∃s',forL (gN 4) (pd (zw 3 (c1 (oW qE "words") (cV 4)))) (P.map thD) [a,b,c,.ls (acc.map D.str),s,s5,s6,s7]=some (.nx [a,b,c,.ls ((acc++P.flatMap Th.w).map D.str),s',s5,s6,s7])
 |[],acc,s,_,_=>⟨s,by simp;rfl⟩
 |t::P,acc,s,hl,hw=>by
  have h3:=Je (hw t aT);rw[aD]at hl;obtain⟨s',e⟩:=Bu P (acc++t.w) (.im (thD t)) (by rw[aI];omega) λu hu=>hw u (aZ _ hu);refine⟨s',?_⟩;rw[av];unfold forL;have e1:pd (zw 3 (c1 (oW qE "words") (cV 4))) [a,b,c,.ls (acc.map D.str),.im (thD t),s5,s6,s7]=some (.nx [a,b,c,.ls ((acc++t.w).map D.str),.im (thD t),s5,s6,s7]):=by refine(p8 (d:=.non) (ρ':=[a,b,c,.ls ((acc++t.w).map D.str),.im (thD t),s5,s6,s7]) ?_);unfold zw;show (if (acc.map D.str).length+(t.w.map D.str).length<=1000 then some (D.non,[a,b,c,.ls (acc.map D.str++t.w.map D.str),.im (thD t),s5,s6,s7])else none)=_;rw[aj (by rw[ah,ah];omega),aU]
  rw[show gN 4 (thD t) [a,b,c,.ls (acc.map D.str),s,s5,s6,s7]=some [a,b,c,.ls (acc.map D.str),.im (thD t),s5,s6,s7] from rfl];simp only[e1];rw[e,List.flatMap_cons,bp]
theorem Bv(T:List Th)(hl:T.length<=200)(hw:∀t∈T,qN t):qr [TD T,.lst [],.lst o5]=some .non:=by
 let P:=T.filter λt=>t.k.pl;have hP:P.length<=200:=bM (eL _ _) hl;have hwP:∀t∈P,qN t:=λt ht=>hw t (bC.mp ht).1;obtain⟨s',e1⟩:=Bu (a:=.im (TD T)) (b:=.im (.lst [])) (c:=.im (.lst o5)) (s5:=.un) (s6:=.un) (s7:=.un) P [] .un (by simp;omega) hwP;let O:=P.flatMap Th.w;let m1:Sl:=.ls (O.map D.str);let z:Sl:=.im (xB "wait" "alone" .non);refine wb (ρ:=[.im (TD T),.im (.lst []),.im (.lst o5),.im (.lst (O.map D.str)),s',.im (.lst (vN.map D.str)),z,.im (.lst [.str "in"])]) rfl ?_;unfold rA;refine(oA (ρ':=[.im (TD T),.im (.lst []),.im (.lst o5),.ls [],.un,.un,.un,.un]) rfl).trans ?_;refine(oA (ρ':=[.im (TD T),.im (.lst []),.im (.lst o5),m1,s',.un,.un,.un]) ((pY (ds:=P.map thD) (ρ1:=[.im (TD T),.im (.lst []),.im (.lst o5),.ls [],.un,.un,.un,.un]) ?_).trans e1)).trans ?_
 ·unfold iL;rw[pI (oJ (g:=qV) (ds:=[TD T]) (ρ1:=[.im (TD T),.im (.lst []),.im (.lst o5),.ls [],.un,.un,.un,.un]) rfl (uK T (by omega)))]
 refine(oA (ρ':=[.im (TD T),.im (.lst []),.im (.lst o5),m1,s',.ls [],.un,.un]) rfl).trans ?_;refine(oA (ρ':=[.im (TD T),.im (.lst []),.im (.lst o5),m1,s',.ls (vN.map D.str),z,.un]) (by kernel_rfl)).trans ?_;refine(oA (ρ':=[.im (TD T),.im (.lst []),.im (.lst o5),m1,s',.ls (vN.map D.str),z,.im (.lst [.str "in"])]) (by kernel_rfl)).trans ?_;refine(oA (qJ (ρ1:=[.im (TD T),.im (.lst []),.im (.lst o5),m1,s',.im (.lst (vN.map D.str)),z,.im (.lst [.str "in"])]) (by kernel_rfl))).trans ?_;have no:∀x∈vI,x∉O:=λx hx ho=>by
  obtain⟨t,ht,hxt⟩:=List.mem_flatMap.mp ho;have hn:=(hwP t ht).1;rcases zd (hwP t ht) hxt with rfl|rfl|rfl
  ·have sub:∀x∈vI,x∈(["red", "old", "take", "drop", "open", "shut", "light", "douse", "put", "go", "wait", "in", "the", "a", "undo", "restart"]:List Str):=by decide
   exact Ls hn (sub _ hx)
  ·exact ao hx (by decide)
  ·exact ao hx (by decide)
 have a1:=Lw (l:=vI) (m:=O) (.inl rfl) (by decide) no;refine(oA (qJ (ρ1:=[.im (TD T),.im (.lst []),.im (.lst o5),.im (.lst (O.map D.str)),s',.im (.lst (vN.map D.str)),z,.im (.lst [.str "in"])]) (oJ (oB (d:=.lst (vI.map D.str)) (ρ1:=[.im (TD T),.im (.lst []),.im (.lst o5),m1,s',.im (.lst (vN.map D.str)),z,.im (.lst [.str "in"])]) (by kernel_rfl) (oB rfl rfl)) a1))).trans ?_;refine(oA (qJ (ρ1:=[.im (TD T),.im (.lst []),.im (.lst o5),.im (.lst (O.map D.str)),s',.im (.lst (vN.map D.str)),z,.im (.lst [.str "in"])]) (by kernel_rfl))).trans ?_;exact qJ (by kernel_rfl)
structure Good(T:List Th)(M:List Mk)(dk:List Str):Prop where
 len:T.length<=200
 r1:1<=(T.filter λt=>decide (t.k=.room)).length
 r5:(T.filter λt=>decide (t.k=.room)).length<=5
 y1:(T.filter λt=>decide (t.k=.you)).length=1
 p7:(T.filter λt=>t.k.pl).length<=7
 m4:M.length<=4
 mo:∀m∈M,m.ok
 nm:∀x∈T.map Th.n++M.map Mk.n,Nm x
 nd:(T.map Th.n++M.map Mk.n).Nodup
 st:∀t∈T,uw T t
 rk:∃r,F9 T r
 wd:∀t∈T,qN t
 d0:dk.length<=5
 d1:dk.Nodup
 d2:∀x∈dk,x∈rmN T
variable{M:List Mk}{dk:List Str}
theorem Good.ndT(g:Good T M dk):(T.map Th.n).Nodup:=(bG.mp g.nd).1
theorem BU(T:List Th)(M:List Mk)(hl:T.length<=200)(hM:M.length<=4):∃l,qp [TD T,MD M]=some l:=by
 let ρ:List Sl:=[.im (TD T),.im (MD M)];refine⟨_,yV (ρ:=ρ) rfl (uf (sS (pI (t8 thD (λt=>D.str t.n) (λt=>t.k.mk) T (ρ1:=ρ) rfl (by omega) λt _=>⟨[.im (thD t)],[.im (thD t)],rfl,qm (qd (xs:=[.str t.n,.tup (t.w.map D.str),.str t.k.s,oS t.s]) (ys:=[]) rfl rfl rfl rfl (DI t)),λ_=>⟨_,ph rfl (sY t),rfl⟩,λ_=>rfl⟩))
  (pI (rK mkD (λt=>D.str t.n) M rfl (by omega) λt _=>⟨_,_,rfl,ph rfl (Ah t),rfl⟩)) ?_))⟩
 have:=eL (λt:Th=>t.k.mk) T;rw[ah,ah];omega
theorem Bw(k:DkO kd dk)(g:Good T M dk):uG [TD T,MD M,kd,.lst [],.lst [],.lst o5]=some .non:=by
 have hl:=g.len;have hdk:dk.length<=1000:=by have:=g.d0;omega
 obtain⟨r,hr⟩:=g.rk;obtain⟨mn,emn⟩:=BU T M hl g.m4;let ρ0:List Sl:=[.im (TD T),.im (MD M),.im kd,.im (.lst []),.im (.lst []),.im (.lst o5),.un];let ρ:List Sl:=[.im (TD T),.im (MD M),.im kd,.im (.lst []),.im (.lst []),.im (.lst o5),.im (.lst ((rmN T).map D.str))];refine wb (ρ:=ρ) rfl ?_;unfold uF;refine(oA (p8 (ρ':=ρ0) (oJ rfl (zU T (by omega) g.r1 g.r5 g.y1 g.p7)))).trans ?_;refine(oA (p8 (ρ':=ρ0) (oJ rfl (Bp M g.m4 g.mo)))).trans ?_;refine(oA (p8 (ρ':=ρ0) (oJ rfl (Br T M (by omega) (by have:=g.m4;omega) g.nm g.nd)))).trans ?_;refine(oA (p8 (ρ':=ρ0) (oJ rfl (zV T (by omega) g.ndT r hr g.st)))).trans ?_;refine(oA (p8 (ρ':=ρ0) (oJ rfl (Bt T (by omega) g.wd)))).trans ?_;refine(oA (ρ':=ρ) ((pf (pI (ET T (by omega) rfl))).trans rfl)).trans ?_;refine(oA (p8 (ρ':=ρ) (oJ rfl (BR dk (rmN T) k hdk g.d1 g.d2)))).trans ?_;have cw:vz [.lst [],.lst ((rmN T).map D.str),.lst mn]=some .non:=by kernel_rfl
 refine(oA (p8 (ρ':=ρ) (oJ (oB rfl (oB rfl (oB (pI (oJ (g:=qp) (ds:=[TD T,MD M]) rfl emn)) rfl))) cw))).trans ?_;refine(oA (p8 (ρ':=ρ) (oJ (g:=uE) (ds:=[.lst []]) (r:=.non) rfl (by kernel_rfl)))).trans ?_;exact p8 (ρ':=ρ) (oJ (g:=qr) (ds:=[TD T,.lst [],.lst o5]) rfl (Bv T hl g.wd))
theorem Gb(T:List Th)(hl:T.length<=900)(nd:(T.map Th.n).Nodup):y8 [TD T]=some (.dic (nK T) (T.map thD)):=by
 obtain⟨s',e1⟩:=sy (g:=gN 2) (i:=1) (fk:=c1 (oW oU "name") (cV 2)) (fv:=cV 2) thD Th.n thD (λks ds s=>[.im (TD T),.dk ks ds,s])
  (λt ks ds s=>⟨[.im (TD T),.dk ks ds,.im (thD t)],rfl,rfl,rfl,ph rfl (sY t),λks' ds'=>⟨_,rfl⟩⟩) T [] [] .un (by rw[ba];exact Hn nd) (by simp;omega) rfl
 refine o8 (ρ:=[.im (TD T),.im (.dic (nK T) (T.map thD)),s']) rfl ?_;unfold y7;refine(oA (ρ':=[.im (TD T),.dk [] [],.un]) rfl).trans ?_;refine(oA ((pY rfl).trans e1)).trans ?_;rw[ba,ba];rfl
theorem Of(m:Mk):oW tJ "most" (mkD m)=some (.int m.mo):=rfl
theorem Gc(T:List Th)(hl:T.length<=1000)(ns:List Str)(rest:List L4.D)(k:Kd):sW [.obj 14 ("kept_things" ::ns) (TL T::rest),.str k.s]=some (.lst ((T.filter λt=>decide (t.k=k)).map λt=>D.str t.n)):=by let ρ:List Sl:=[.im (.obj 14 ("kept_things" ::ns) (TL T::rest)),.im (.str k.s)];refine FW (ρ:=ρ) rfl ?_;exact uf (t8 thD (λt=>D.str t.n) (λt=>decide (t.k=k)) T (ρ1:=ρ) rfl hl λt _=>⟨[.im (thD t),.im (.str k.s)],[.im (thD t),.im (.str k.s)],rfl,qm (oT (ph rfl (wH t)) rfl (CL t.k k)),λ_=>⟨_,ph rfl (sY t),rfl⟩,λ_=>rfl⟩)
def shD(y:Str):List L4.D:=(qT [.str y,.lst []]).getD []
theorem UC(y:Str):qT [.str y,.lst []]=some (shD y):=by kernel_rfl
def vwD:L4.D:=(qC [.lst o5]).getD .non
def rbD(y:Str):L4.D:=(uX [.lst (shD y)]).getD .non
def wNs:List Str:=["kept_things", "kept_marks", "kept_dark", "kept_ways", "kept_verbs", "shared_verbs", "your_name", "things_by_name", "mosts_by_name", "verbs_by_word", "kept_rules", "shared_rules", "copied_rules", "rules_by_verb"]
def wDs(T:List Th)(M:List Mk)(dk:List Str)(y:Str)(mo:L4.D):List L4.D:=[TL T,ML M,.lst (dk.map D.str),.lst [],.lst [],.lst o5,.str y,.dic (nK T) (T.map thD),mo,vwD,.lst [],.lst (shD y),.lst [],rbD y]
abbrev wR(T:List Th)(M:List Mk)(kd:L4.D)(ns:List Str)(ds:List L4.D)(q:Sl):List Sl:=[.ob 14 ns ds,.im (TD T),.im (MD M),.im kd,.im (.lst []),.im (.lst []),.im (.lst []),q]
abbrev wL(T:List Th)(M:List Mk)(kd:L4.D)(ns:List Str)(ds:List L4.D)(q:Sl):List Sl:=[.im (.obj 14 ns ds),.im (TD T),.im (MD M),.im kd,.im (.lst []),.im (.lst []),.im (.lst []),xN q]
variable{ns:List Str}
section
variable{T:List Th}{M:List Mk}{dk:List Str}{kd:L4.D}
theorem yI{nm:Str}{q:Sl}(h1:e (wR T M kd ns ds q)=some (d,wR T M kd ns ds q))(h2:ns.contains nm=false)(h3:ds.length=ns.length)(h4:ns.length<900):pz 14 0 nm e (wR T M kd ns ds q)=some (.nx (wR T M kd (ns++[nm]) (ds++[d]) q)):=by unfold pz;rw[h1];show (if 14=14 then if ns.contains nm=true then none else if ds.length=ns.length then if ns.length<900 then some (Out.nx (wR T M kd (ns++[nm]) (ds++[d]) q))else none else none else none)=_;rw[aj rfl,h2,ai aP,aj h3,aj h4]
theorem Lx{q:Sl}{r:List Sl}(h1:e (wL T M kd ns ds q)=some (d,r))(h2:noC 15 14 d=true):ui 15 e (wR T M kd ns ds q)=some (d,wR T M kd ns ds q):=by
 unfold ui;show (match e (wL T M kd ns ds q)with
  |some (d,_)=>if (decide (14<15)&&noC 15 14 d)=true then some (d,wR T M kd ns ds q)else none
  |none=>none)=_
 rw[h1];simp only[h2];rfl
abbrev d6(T:List Th)(M:List Mk)(dk:List Str):List L4.D:=[TL T,ML M,.lst (dk.map D.str),.lst [],.lst [],.lst o5]
abbrev n6:List Str:=["kept_things", "kept_marks", "kept_dark", "kept_ways", "kept_verbs", "shared_verbs"]
theorem UD(y:Str)(hl:T.length<=1000)(hy:(T.filter λt=>decide (t.k=.you)).map Th.n=[y]):ui 15 (c2 dIx (pE sE "of_kind" (cV 0) (aCons (cC (.str "you")) ox)) (cC (.int 0))) (wR T M kd n6 (d6 T M dk) .un)=some (.str y,wR T M kd n6 (d6 T M dk) .un):=by
 refine Lx (r:=wL T M kd n6 (d6 T M dk) .un) (oT (qd (xs:=d6 T M dk) (ys:=[.str Kd.you.s]) (hh:=sW) rfl rfl rfl rfl (Gc T hl _ _ .you)) rfl ?_) rfl;have:((T.filter λt=>decide (t.k=.you)).map λt=>D.str t.n)=[.str y]:=by rw[show (λt:Th=>D.str t.n)=D.str∘Th.n from rfl,<- aC,hy];rfl
 rw[this];rfl
end
variable{mo:L4.D}
section
variable{T:List Th}{M:List Mk}{dk:List Str}{kd:L4.D}
theorem UE:qC [.lst o5]=some vwD:=by kernel_rfl
theorem UF(y:Str):uX [.lst (shD y)]=some (rbD y):=by kernel_rfl
theorem SC:noC 15 14 vwD=true:=by kernel_rfl
theorem SD(y:Str):noC 15 14 (rbD y)=true:=by kernel_rfl
theorem SE(y:Str):noC 15 14 (.lst (shD y))=true:=by kernel_rfl
theorem SF(y:Str):(shD y).length<=900:=Nat.le_of_ble_eq_true (by kernel_rfl)
abbrev n7:List Str:=["kept_things", "kept_marks", "kept_dark", "kept_ways", "kept_verbs", "shared_verbs", "your_name"]
abbrev d7(T:List Th)(M:List Mk)(dk:List Str)(y:Str):List L4.D:=[TL T,ML M,.lst (dk.map D.str),.lst [],.lst [],.lst o5,.str y]
theorem UG(ns:List Str)(ds:List L4.D):rU [.obj 14 (n6++ns) (d6 T M dk++ds)]=some (.lst o5):=by kernel_rfl
theorem Og(ns:List Str)(ds:List L4.D)(q:Sl)(hc:(n6++ns).contains "all_verbs" = false):ui 15 (oE qC (aCons (pE rg "all_verbs" (cV 0) ox) ox)) (wR T M kd (n6++ns) (d6 T M dk++ds) q)=some (vwD,wR T M kd (n6++ns) (d6 T M dk++ds) q):=
 Lx (r:=wL T M kd (n6++ns) (d6 T M dk++ds) q) (oJ (oB (qd (xs:=d6 T M dk++ds) (ys:=[]) (hh:=rU) rfl rfl hc rfl (UG ns ds)) rfl) UE) SC
theorem Ly(y:Str)(ns:List Str)(ds:List L4.D)(q:Sl):ui 15 (cL (pP qT (aCons (c1 (oW sC "your_name") (cV 0)) (aCons (cV 4) ox)))) (wR T M kd (n7++ns) (d7 T M dk y++ds) q)=some (.lst (shD y),wR T M kd (n7++ns) (d7 T M dk y++ds) q):=
 Lx (r:=wL T M kd (n7++ns) (d7 T M dk y++ds) q) (pI (oJ (ds:=[.str y,.lst []]) rfl (UC y))) (SE y)
abbrev n13:List Str:=["kept_things", "kept_marks", "kept_dark", "kept_ways", "kept_verbs", "shared_verbs", "your_name", "things_by_name", "mosts_by_name", "verbs_by_word", "kept_rules", "shared_rules", "copied_rules"]
theorem UZ(y:Str)(a b c d:L4.D)(q:Sl):ui 15 (oE uX (aCons (cL (q9 (c1 (oW sr "copied_rules") (cV 0)) (c1 (oW su "shared_rules") (cV 0)))) ox)) (wR T M kd n13 [TL T,ML M,.lst (dk.map D.str),.lst [],.lst [],.lst o5,.str y,a,b,c,d,.lst (shD y),.lst []] q)=some (rbD y,wR T M kd n13 [TL T,ML M,.lst (dk.map D.str),.lst [],.lst [],.lst o5,.str y,a,b,c,d,.lst (shD y),.lst []] q):=
 Lx (r:=wL T M kd n13 [TL T,ML M,.lst (dk.map D.str),.lst [],.lst [],.lst o5,.str y,a,b,c,d,.lst (shD y),.lst []] q) (oJ (oB (pI (sS (xs:=[]) (ys:=shD y) rfl rfl (by have:=SF y;simp;omega))) rfl) (UF y)) (SD y)
theorem EW(k:DkO kd dk)(g:Good T M dk)(y:Str)(hy:(T.filter λt=>decide (t.k=.you)).map Th.n=[y])(emo:qB [TD T,MD M]=some mo):qt [TD T,MD M,kd,.lst [],.lst [],.lst []]=some (wNs,wDs T M dk y mo):=by
 have hl:=g.len;have e:rV (wR T M kd [] [] .un)=some (.nx (wR T M kd wNs (wDs T M dk y mo) (.im (.bl true)))):=by unfold rV;refine(oA (p8 (ρ':=wR T M kd [] [] .un) (oJ (oB rfl (oB rfl (oB rfl (oB rfl (oB rfl (oB (pI (oJ (g:=qk) (ds:=[]) rfl EV)) rfl)))))) (Bw k g)))).trans ?_;refine(oA (ρ':=wR T M kd ["kept_things"] [TL T] .un) (yI (T:=T) (M:=M) (kd:=kd) (ns:=[]) (ds:=[]) (d:=TL T) (q:=.un) rfl rfl rfl (by decide))).trans ?_;refine(oA (ρ':=wR T M kd ["kept_things", "kept_marks"] [TL T,ML M] .un) (yI (T:=T) (M:=M) (kd:=kd) (ns:=["kept_things"]) (ds:=[TL T]) (d:=ML M) (q:=.un) rfl rfl rfl (by decide))).trans ?_;refine(oA (ρ':=wR T M kd ["kept_things", "kept_marks", "kept_dark"] [TL T,ML M,.lst (dk.map D.str)] .un) (yI (T:=T) (M:=M) (kd:=kd) (ns:=["kept_things", "kept_marks"]) (ds:=[TL T,ML M]) (d:=.lst (dk.map D.str)) (q:=.un) (pI (k.c rfl)) rfl rfl (by decide))).trans ?_;refine(oA (ρ':=wR T M kd ["kept_things", "kept_marks", "kept_dark", "kept_ways"] [TL T,ML M,.lst (dk.map D.str),.lst []] .un) (yI (T:=T) (M:=M) (kd:=kd) (ns:=["kept_things", "kept_marks", "kept_dark"]) (ds:=[TL T,ML M,.lst (dk.map D.str)]) (d:=.lst []) (q:=.un) rfl rfl rfl (by decide))).trans ?_;refine(oA (ρ':=wR T M kd ["kept_things", "kept_marks", "kept_dark", "kept_ways", "kept_verbs"] [TL T,ML M,.lst (dk.map D.str),.lst [],.lst []] .un) (yI (T:=T) (M:=M) (kd:=kd) (ns:=["kept_things", "kept_marks", "kept_dark", "kept_ways"]) (ds:=[TL T,ML M,.lst (dk.map D.str),.lst []]) (d:=.lst []) (q:=.un) rfl rfl rfl (by decide))).trans ?_;refine(oA (ρ':=wR T M kd ["kept_things", "kept_marks", "kept_dark", "kept_ways", "kept_verbs", "shared_verbs"] [TL T,ML M,.lst (dk.map D.str),.lst [],.lst [],.lst o5] .un) (yI (T:=T) (M:=M) (kd:=kd) (ns:=["kept_things", "kept_marks", "kept_dark", "kept_ways", "kept_verbs"]) (ds:=[TL T,ML M,.lst (dk.map D.str),.lst [],.lst []]) (d:=.lst o5) (q:=.un) (pI (oJ (g:=qk) (ds:=[]) rfl EV)) rfl rfl (by decide))).trans ?_;refine(oA (ρ':=wR T M kd ["kept_things", "kept_marks", "kept_dark", "kept_ways", "kept_verbs", "shared_verbs", "your_name"] [TL T,ML M,.lst (dk.map D.str),.lst [],.lst [],.lst o5,.str y] .un) (yI (T:=T) (M:=M) (kd:=kd) (ns:=["kept_things", "kept_marks", "kept_dark", "kept_ways", "kept_verbs", "shared_verbs"]) (ds:=[TL T,ML M,.lst (dk.map D.str),.lst [],.lst [],.lst o5]) (d:=.str y) (q:=.un) (UD y (by omega) hy) rfl rfl (by decide))).trans ?_;refine(oA (ρ':=wR T M kd ["kept_things", "kept_marks", "kept_dark", "kept_ways", "kept_verbs", "shared_verbs", "your_name", "things_by_name"] [TL T,ML M,.lst (dk.map D.str),.lst [],.lst [],.lst o5,.str y,.dic (nK T) (T.map thD)] .un) (yI (T:=T) (M:=M) (kd:=kd) (ns:=["kept_things", "kept_marks", "kept_dark", "kept_ways", "kept_verbs", "shared_verbs", "your_name"]) (ds:=[TL T,ML M,.lst (dk.map D.str),.lst [],.lst [],.lst o5,.str y]) (d:=.dic (nK T) (T.map thD)) (q:=.un) (oJ (ds:=[TD T]) rfl (Gb T (by omega) g.ndT)) rfl rfl (by decide))).trans ?_;refine(oA (ρ':=wR T M kd ["kept_things", "kept_marks", "kept_dark", "kept_ways", "kept_verbs", "shared_verbs", "your_name", "things_by_name", "mosts_by_name"] [TL T,ML M,.lst (dk.map D.str),.lst [],.lst [],.lst o5,.str y,.dic (nK T) (T.map thD),mo] .un) (yI (T:=T) (M:=M) (kd:=kd) (ns:=["kept_things", "kept_marks", "kept_dark", "kept_ways", "kept_verbs", "shared_verbs", "your_name", "things_by_name"]) (ds:=[TL T,ML M,.lst (dk.map D.str),.lst [],.lst [],.lst o5,.str y,.dic (nK T) (T.map thD)]) (d:=mo) (q:=.un) (oJ (ds:=[TD T,MD M]) rfl emo) rfl rfl (by decide))).trans ?_;refine(oA (ρ':=wR T M kd ["kept_things", "kept_marks", "kept_dark", "kept_ways", "kept_verbs", "shared_verbs", "your_name", "things_by_name", "mosts_by_name", "verbs_by_word"] [TL T,ML M,.lst (dk.map D.str),.lst [],.lst [],.lst o5,.str y,.dic (nK T) (T.map thD),mo,vwD] .un) (yI (T:=T) (M:=M) (kd:=kd) (ns:=["kept_things", "kept_marks", "kept_dark", "kept_ways", "kept_verbs", "shared_verbs", "your_name", "things_by_name", "mosts_by_name"]) (ds:=[TL T,ML M,.lst (dk.map D.str),.lst [],.lst [],.lst o5,.str y,.dic (nK T) (T.map thD),mo]) (d:=vwD) (q:=.un) (Og ["your_name", "things_by_name", "mosts_by_name"] [.str y,.dic (nK T) (T.map thD),mo] .un rfl) rfl rfl (by decide))).trans ?_;refine(oA (ρ':=wR T M kd ["kept_things", "kept_marks", "kept_dark", "kept_ways", "kept_verbs", "shared_verbs", "your_name", "things_by_name", "mosts_by_name", "verbs_by_word"] [TL T,ML M,.lst (dk.map D.str),.lst [],.lst [],.lst o5,.str y,.dic (nK T) (T.map thD),mo,vwD] (.im (.bl true))) ((pf (i:=7) (Lx (d:=.bl true) (r:=wL T M kd ["kept_things", "kept_marks", "kept_dark", "kept_ways", "kept_verbs", "shared_verbs", "your_name", "things_by_name", "mosts_by_name", "verbs_by_word"] [TL T,ML M,.lst (dk.map D.str),.lst [],.lst [],.lst o5,.str y,.dic (nK T) (T.map thD),mo,vwD] .un) rfl rfl)).trans rfl)).trans ?_;refine(oA (qJ (ρ1:=wR T M kd ["kept_things", "kept_marks", "kept_dark", "kept_ways", "kept_verbs", "shared_verbs", "your_name", "things_by_name", "mosts_by_name", "verbs_by_word"] [TL T,ML M,.lst (dk.map D.str),.lst [],.lst [],.lst o5,.str y,.dic (nK T) (T.map thD),mo,vwD] (.im (.bl true))) rfl)).trans ?_;refine(oA (ρ':=wR T M kd ["kept_things", "kept_marks", "kept_dark", "kept_ways", "kept_verbs", "shared_verbs", "your_name", "things_by_name", "mosts_by_name", "verbs_by_word", "kept_rules"] [TL T,ML M,.lst (dk.map D.str),.lst [],.lst [],.lst o5,.str y,.dic (nK T) (T.map thD),mo,vwD,.lst []] (.im (.bl true))) (yI (T:=T) (M:=M) (kd:=kd) (ns:=["kept_things", "kept_marks", "kept_dark", "kept_ways", "kept_verbs", "shared_verbs", "your_name", "things_by_name", "mosts_by_name", "verbs_by_word"]) (ds:=[TL T,ML M,.lst (dk.map D.str),.lst [],.lst [],.lst o5,.str y,.dic (nK T) (T.map thD),mo,vwD]) (d:=.lst []) (q:=(.im (.bl true))) rfl rfl rfl (by decide))).trans ?_;refine(oA (ρ':=wR T M kd ["kept_things", "kept_marks", "kept_dark", "kept_ways", "kept_verbs", "shared_verbs", "your_name", "things_by_name", "mosts_by_name", "verbs_by_word", "kept_rules", "shared_rules"] [TL T,ML M,.lst (dk.map D.str),.lst [],.lst [],.lst o5,.str y,.dic (nK T) (T.map thD),mo,vwD,.lst [],.lst (shD y)] (.im (.bl true))) (yI (T:=T) (M:=M) (kd:=kd) (ns:=["kept_things", "kept_marks", "kept_dark", "kept_ways", "kept_verbs", "shared_verbs", "your_name", "things_by_name", "mosts_by_name", "verbs_by_word", "kept_rules"]) (ds:=[TL T,ML M,.lst (dk.map D.str),.lst [],.lst [],.lst o5,.str y,.dic (nK T) (T.map thD),mo,vwD,.lst []]) (d:=.lst (shD y)) (q:=(.im (.bl true))) (Ly y ["things_by_name", "mosts_by_name", "verbs_by_word", "kept_rules"] [.dic (nK T) (T.map thD),mo,vwD,.lst []] (.im (.bl true))) rfl rfl (by decide))).trans ?_;refine(oA (ρ':=wR T M kd ["kept_things", "kept_marks", "kept_dark", "kept_ways", "kept_verbs", "shared_verbs", "your_name", "things_by_name", "mosts_by_name", "verbs_by_word", "kept_rules", "shared_rules", "copied_rules"] [TL T,ML M,.lst (dk.map D.str),.lst [],.lst [],.lst o5,.str y,.dic (nK T) (T.map thD),mo,vwD,.lst [],.lst (shD y),.lst []] (.im (.bl true))) (yI (T:=T) (M:=M) (kd:=kd) (ns:=["kept_things", "kept_marks", "kept_dark", "kept_ways", "kept_verbs", "shared_verbs", "your_name", "things_by_name", "mosts_by_name", "verbs_by_word", "kept_rules", "shared_rules"]) (ds:=[TL T,ML M,.lst (dk.map D.str),.lst [],.lst [],.lst o5,.str y,.dic (nK T) (T.map thD),mo,vwD,.lst [],.lst (shD y)]) (d:=.lst []) (q:=(.im (.bl true))) rfl rfl rfl (by decide))).trans ?_;exact yI (T:=T) (M:=M) (kd:=kd) (ns:=["kept_things", "kept_marks", "kept_dark", "kept_ways", "kept_verbs", "shared_verbs", "your_name", "things_by_name", "mosts_by_name", "verbs_by_word", "kept_rules", "shared_rules", "copied_rules"]) (ds:=[TL T,ML M,.lst (dk.map D.str),.lst [],.lst [],.lst o5,.str y,.dic (nK T) (T.map thD),mo,vwD,.lst [],.lst (shD y),.lst []]) (d:=rbD y) (q:=(.im (.bl true))) (UZ y _ _ _ _ (.im (.bl true))) rfl rfl (by decide)
 unfold qt fnI;rw[aj (show [TD T,MD M,kd,D.lst [],D.lst [],D.lst []].length=6 from rfl)];rw[show rV (stI 14 8 [TD T,MD M,kd,.lst [],.lst [],.lst []])=some (.nx (wR T M kd wNs (wDs T M dk y mo) (.im (.bl true)))) from e];rfl
end
def IL(ds:List L4.D):Prop:=∃xs:List Int,ds=xs.map D.int
theorem IL.nil:IL []:=⟨[],rfl⟩
theorem IL.snoc{ds:List L4.D}(h:IL ds)(i:Int):IL (ds++[.int i]):=by obtain⟨xs,rfl⟩:=h;exact⟨xs++[i],by rw[aU];rfl⟩
variable{es:List L4.D}
theorem IL.sub(h:IL ds)(hs:∀d∈es,d∈ds):IL es:=by
 induction es with
 |nil=>exact IL.nil
 |cons d es ih=>obtain⟨ys,rfl⟩:=ih λd hd=>hs d (aZ _ hd);obtain⟨xs,rfl⟩:=h;obtain⟨i,_,rfl⟩:=ay.mp (hs d aT);exact⟨i::ys,rfl⟩
theorem Oh{lo hi:Option Int}:∀d∈cutD ds lo hi,d∈ds:=λd hd=>by unfold cutD at hd;exact jO (List.mem_of_mem_take hd)
def Hr:FS:=(oI (pd (xG 2 (c2 rE (cV 3) (c2 zr (cC (.int 10)) (cC (.int 6))))))
 (px 3 (c2 xh (cV 3) (c2 zr (cC (.int 10)) (cC (.int 6))))))
def LA:FT:=zt (zp (cT (c2 Km (cV 3) (cC (.int 0)))) (cT (c2 Ek (c1 qQ (cV 2)) (cV 1))))
theorem zP(c:Int)(m:Nat)(hm:m<=110):∀(n:Nat) (ds:List L4.D) (r:Int),IL ds->ds.length<=m->m - ds.length<n->∃ds' r',IL ds'/\ds'.length<=m/\
  whL LA Hr n [.im (.int c),.im (.int m),.ls ds,.im (.int r),.un,.un,.un]=some (.nx [.im (.int c),.im (.int m),.ls ds',.im (.int r'),.un,.un,.un])
 |0,ds,r,_,_,h=>ao h (lg _)
 |n+1,ds,r,hi,hl,hn=>by
  have ht:LA [.im (.int c),.im (.int m),.ls ds,.im (.int r),.un,.un,.un]=some (decide (0<r)&&decide (ds.length<m),[.im (.int c),.im (.int m),.ls ds,.im (.int r),.un,.un,.un]):=by
   refine GZ (ρ1:=[.im (.int c),.im (.int m),.im (.lst ds),.im (.int r),.un,.un,.un]) ?_;show zp _ _ [.im (.int c),.im (.int m),.im (.lst ds),.im (.int r),.un,.un,.un]=_;unfold zp;rw[show cT (c2 Km (cV 3) (cC (.int 0))) [.im (.int c),.im (.int m),.im (.lst ds),.im (.int r),.un,.un,.un]=some (decide (0<r),[.im (.int c),.im (.int m),.im (.lst ds),.im (.int r),.un,.un,.un]) from rfl];cases decide (0<r)with
   |false=>rfl
   |true=>show cT (c2 Ek (c1 qQ (cV 2)) (cV 1)) _=some (decide (ds.length<m),_);rw[show cT (c2 Ek (c1 qQ (cV 2)) (cV 1)) [.im (.int c),.im (.int m),.im (.lst ds),.im (.int r),.un,.un,.un]=some (decide ((ds.length:Int)<m),[.im (.int c),.im (.int m),.im (.lst ds),.im (.int r),.un,.un,.un]) from rfl];simp only[Int.ofNat_lt]
  unfold whL;rw[ht];cases hq:(decide (0<r)&&decide (ds.length<m))with
  |false=>exact⟨ds,r,hi,hl,rfl⟩
  |true=>
   rw[aR,bu,bu]at hq;have e1:Hr [.im (.int c),.im (.int m),.ls ds,.im (.int r),.un,.un,.un]=some (.nx [.im (.int c),.im (.int m),.ls (ds++[.int (r % 1000000)]),.im (.int (r / 1000000)),.un,.un,.un]):=by unfold Hr;refine(oA (ρ':=[.im (.int c),.im (.int m),.ls (ds++[.int (r % 1000000)]),.im (.int r),.un,.un,.un]) ((p8 (AL (es0:=ds) (es:=ds) (ρ1:=[.im (.int c),.im (.int m),.ls ds,.im (.int r),.un,.un,.un]) rfl (oT rfl rfl (ug (by decide))) rfl (by omega))).trans rfl)).trans ?_;exact(pf (oT rfl rfl (div_pos (by decide) (by decide)))).trans rfl
   simp only[e1];exact zP c m hm n _ _ (hi.snoc _) (by rw[aI,bB];omega) (by rw[aI,bB];omega)
def fBody:FS:=(oI (px 4 (c2 rE (c2 sL (c2 pO (c2 pO (cV 4) (c2 sL (cC (.int 7919)) (cV 5))) (cC (.int 1))) (cC (.int 48271))) (cC (.int 2147483647))))
 (oI (px 6 (c2 rE (c2 sL (cV 4) (c2 pO (c2 xh (cV 4) (cC (.int 1009))) (cC (.int 69621)))) (cC (.int 2147483647))))
 (pd (xG 2 (c2 rE (c2 sL (cV 6) (c2 pO (c2 xh (cV 6) (cC (.int 2003))) (cC (.int 40692)))) (cC (.int 2147483399)))))))
theorem modS(a:Int):0<=a % 2147483647/\a % 2147483647<2147483647:=⟨lh _ (by decide),j5 _ (by decide)⟩
theorem CN(a b r:Sl):∀(l:List Int) (ds:List L4.D) (x:Int) (s5 s6:Sl),IL ds->ds.length+l.length<=900->∃ds' x' t5 t6,IL ds'/\
  forL (gN 5) fBody (l.map D.int) [a,b,.ls ds,r,.im (.int x),s5,s6]=some (.nx [a,b,.ls ds',r,.im (.int x'),t5,t6])
 |[],ds,x,s5,s6,hi,_=>⟨ds,x,s5,s6,hi,rfl⟩
 |k::l,ds,x,s5,s6,hi,hl=>by
  rw[aD]at hl;let y:=(x+7919 * k+1) * 48271 % 2147483647;let z:=y * (y / 1009+69621) % 2147483647;let v:=z * (z / 2003+40692) % 2147483399;have hy:=modS ((x+7919 * k+1) * 48271);have hz:=modS (y * (y / 1009+69621));have e1:fBody [a,b,.ls ds,r,.im (.int x),.im (.int k),s6]=some (.nx [a,b,.ls (ds++[.int v]),r,.im (.int y),.im (.int k),.im (.int z)]):=by unfold fBody;refine(oA (ρ':=[a,b,.ls ds,r,.im (.int y),.im (.int k),s6]) ((pf (oT (oT (oT (oT rfl (oT rfl rfl (tw (.inl (by decide)))) rfl) rfl rfl) rfl (tw (.inr (by decide)))) rfl (ug (by decide)))).trans rfl)).trans ?_;refine(oA (ρ':=[a,b,.ls ds,r,.im (.int y),.im (.int k),.im (.int z)]) ((pf (oT (oT rfl (oT (oT rfl rfl (div_pos (by decide) (by decide))) rfl rfl) (tw (.inl (Ep hy.1 hy.2)))) rfl (ug (by decide)))).trans rfl)).trans ?_;exact(p8 (AL (es0:=ds) (es:=ds) (ρ1:=[a,b,.ls ds,r,.im (.int y),.im (.int k),.im (.int z)]) rfl (oT (oT rfl (oT (oT rfl rfl (div_pos (by decide) (by decide))) rfl rfl) (tw (.inl (Ep hz.1 hz.2)))) rfl (ug (by decide))) rfl (by omega))).trans rfl
  obtain⟨ds',x',t5,t6,h1,h2⟩:=CN a b r l (ds++[.int v]) y (.im (.int k)) (.im (.int z)) (hi.snoc _) (by rw[aI,bB];omega);refine⟨ds',x',t5,t6,h1,?_⟩;rw[av];unfold forL;rw[show gN 5 (.int k) [a,b,.ls ds,r,.im (.int x),s5,s6]=some [a,b,.ls ds,r,.im (.int x),.im (.int k),s6] from rfl];simp only[e1];exact h2
theorem LB(c:Int)(m:Nat)(hm:m<=110):∃ds,IL ds/\vC [.int c,.int m]=some ds:=by
 have fin:∀r0:Int,∃ds,IL ds/\∃ρ,oI (whL LA Hr 200) (oI (px 4 (c2 rE (c2 sL (c2 pO (c2 rE (cV 0) (cC (.int 2147483647))) (cC (.int 1))) (cC (.int 48271))) (cC (.int 2147483647)))) (oI (rZ (iR1 (cV 1)) (gN 5) fBody) (qw (vU (cFz 2) oNo (oAt (cV 1)))))) [.im (.int c),.im (.int m),.ls [],.im (.int r0),.un,.un,.un]=some (.rn ds ρ):=λr0=>by obtain⟨ds,r,h1,h2,h3⟩:=zP c m hm 200 [] r0 IL.nil (bN _) (by simp;omega);let x:=(c % 2147483647+1) * 48271 % 2147483647;obtain⟨ds',x',t5,t6,h4,h5⟩:=CN (.im (.int c)) (.im (.int m)) (.im (.int r)) ((aX m).map λ(i:Nat)=>(0:Int)+(i:Int)) ds x .un .un h1 (by rw[ah,dU];omega);refine⟨cutD ds' none (some m),h4.sub Oh,[.im (.int c),.im (.int m),.im (.lst ds'),.im (.int r),.im (.int x'),t5,t6],?_⟩;refine(oA h3).trans ?_;refine(oA (ρ':=[.im (.int c),.im (.int m),.ls ds,.im (.int r),.im (.int x),.un,.un]) ((pf (oT (oT (oT (oT rfl rfl (ug (by decide))) rfl rfl) rfl (tw (.inr (by decide)))) rfl (ug (by decide)))).trans rfl)).trans ?_;refine(oA ((pY (ds:=((aX m).map λ(i:Nat)=>(0:Int)+(i:Int)).map D.int) (ρ1:=[.im (.int c),.im (.int m),.ls ds,.im (.int r),.im (.int x),.un,.un]) ?_).trans h5)).trans rfl;unfold iR1;show (if -1000000<=(m:Int)/\(m:Int)<=1000000 then some (yc 0 (m:Int).toNat,_)else none)=_;rw[aj (by omega),dS];unfold yc;rw[aC];rfl
 by_cases hc:(1000000000000000000:Int)<=c
 ·obtain⟨ds,h1,ρ,h2⟩:=fin (c - 1000000000000000000);refine⟨ds,h1,yV (ρ:=ρ) rfl ?_⟩;refine(oA (ρ':=[.im (.int c),.im (.int m),.ls [],.un,.un,.un,.un]) rfl).trans ((oA (ρ':=[.im (.int c),.im (.int m),.ls [],.im (.int 0),.un,.un,.un]) rfl).trans ((oA (ρ':=[.im (.int c),.im (.int m),.ls [],.im (.int (c - 1000000000000000000)),.un,.un,.un]) ((sA (ρ':=[.im (.int c),.im (.int m),.ls [],.im (.int 0),.un,.un,.un]) ?_).trans rfl)).trans h2));refine qm (oT (y:=.int 1000000000000000000) rfl rfl ?_);show some (D.bl (decide _))=_;rw[bg hc]
 ·obtain⟨ds,h1,ρ,h2⟩:=fin 0;refine⟨ds,h1,yV (ρ:=ρ) rfl ?_⟩;refine(oA (ρ':=[.im (.int c),.im (.int m),.ls [],.un,.un,.un,.un]) rfl).trans ((oA (ρ':=[.im (.int c),.im (.int m),.ls [],.im (.int 0),.un,.un,.un]) rfl).trans ((oA (ρ':=[.im (.int c),.im (.int m),.ls [],.im (.int 0),.un,.un,.un]) ((pL (ρ':=[.im (.int c),.im (.int m),.ls [],.im (.int 0),.un,.un,.un]) ?_).trans rfl)).trans h2));refine qm (oT (y:=.int 1000000000000000000) rfl rfl ?_);show some (D.bl (decide _))=_;rw[aN hc]
theorem CO:∀xs:List Int,yT (xs.map D.int)=some (xs.map L3.Dq.int)
 |[]=>rfl
 |x::xs=>by rw[av];unfold yT;rw[CO xs];rfl
theorem EX(x:Int)(xs:List Int):dEq false (.lst ((x::xs).map D.int)) (.lst [])=some (.bl false):=by
 have e0:BK false (.lst ((x::xs).map D.int)) (.lst [])=none:=rfl;have e1:toD (.lst ((x::xs).map D.int))=some (.lst ((x::xs).map L3.Dq.int)):=by unfold toD;rw[CO]
 have e2:∀ys:List Int,pT (ys.map L3.Dq.int)=0:=λys=>by
  induction ys with
  |nil=>rfl
  |cons y ys ih=>rw[av];unfold pT;rw[ih];unfold dpt;rfl
 have e3:dpt (.lst ((x::xs).map L3.Dq.int))=1:=by rw[dpt,e2]
 unfold dEq;rw[e0];show Fu false _ _=_;unfold Fu;rw[e1,show toD (.lst [])=some (.lst []) from rfl];show (if GE (.lst ((x::xs).map L3.Dq.int)) (.lst [])&&decide (dpt (.lst ((x::xs).map L3.Dq.int))<=20)&&decide (dpt (.lst [])<=20)then some (D.bl (eqD (.lst ((x::xs).map L3.Dq.int)) (.lst [])))else none)=_;rw[e3];rfl
theorem qY(h:IL es)(n:Int)(hn:0<n):∃r es',IL es'/\0<=r/\r<n/\oK es [.int n]=some (.int r,es'):=by
 obtain⟨xs,rfl⟩:=h;cases xs with
 |nil=>exact⟨0,[],IL.nil,mf _,hn,rfl⟩
 |cons x xs=>refine⟨x % n,xs.map D.int,⟨xs,rfl⟩,lh _ (by omega),j5 _ hn,?_⟩;refine Qw (ρ:=[.pm (xs.map D.int),.im (.int n)]) rfl ?_ rfl;refine(oA (ρ':=[.pm ((x::xs).map D.int),.im (.int n)]) ((pL (ρ':=[.pm ((x::xs).map D.int),.im (.int n)]) (GZ (ρ1:=[.im (.lst ((x::xs).map D.int)),.im (.int n)]) (qm (oT (x:=.lst ((x::xs).map D.int)) (y:=.lst []) rfl rfl (EX x xs))))).trans rfl)).trans ?_;exact pC (oT (x:=.int x) (ρ1:=[.pm (xs.map D.int),.im (.int n)]) rfl rfl (ug hn))
def lets:Str:="bcdefghijklmnopqrstuvwxyz"
theorem SG(i:Nat)(h:i<25):dIx (.str lets) (.int i)=some (.str ⟨#[98+i]⟩):=by
 have q:((aX 25).all λi=>match dIx (.str lets) (.int i)with|some (.str x)=>decide (x=⟨#[98+i]⟩)|_=>false)=true:=by kernel_rfl
 have:=aY.mp q i (bL.mpr h);revert this;split
 ·rename_i x e;intro z;rw[e,bP z]
 ·intro z;cases z
def UH:FE:=(c2 Es (c2 dIx (cV 1) (c2 rE (c2 pO (cV 3) (c2 sL (cC (.int 7)) (cV 0))) (cC (.int 25)))) (c2 pO (cC (.int 1)) (qf oK 2 (aCons (cC (.int 8)) ox))))
theorem Oi(h:IL es)(s k:Nat):∃c es',c<8/\IL es'/\UH [.im (.int k),.im (.str lets),.pm es,.im (.int s)]=some (.str (nmS ((s+7 * k) % 25) c),[.im (.int k),.im (.str lets),.pm es',.im (.int s)]):=by
 obtain⟨r,es',h1,h2,h3,h4⟩:=qY h 8 (by decide);obtain⟨c,rfl⟩:=cp h2;refine⟨c,es',by omega,h1,?_⟩;have hm:(s+7 * k) % 25<25:=ml _ (by decide);let ρ:List Sl:=[.im (.int k),.im (.str lets),.pm es,.im (.int s)];let ρ':List Sl:=[.im (.int k),.im (.str lets),.pm es',.im (.int s)];have e1:c2 dIx (cV 1) (c2 rE (c2 pO (cV 3) (c2 sL (cC (.int 7)) (cV 0))) (cC (.int 25))) ρ=some (.str ⟨#[98+(s+7 * k) % 25]⟩,ρ):=by
  refine oT (y:=.int (((s+7 * k) % 25:Nat):Int)) rfl (oT (oT rfl (oT rfl rfl (tw (.inl (by decide)))) rfl) rfl ((ug (by decide)).trans ?_)) (SG _ hm);have:((s:Int)+7 * k) % 25=(((s+7 * k) % 25:Nat):Int):=by omega
  rw[this]
 have e2:c2 pO (cC (.int 1)) (qf oK 2 (aCons (cC (.int 8)) ox)) ρ=some (.int (1+(c:Int)),ρ'):=oT rfl ((sk (es0:=es) (es:=es) (ρ1:=ρ) rfl rfl rfl h4).trans rfl) rfl;refine oT e1 e2 ?_;show (if 0<=1+(c:Int)/\1+(c:Int)<=1000/\mh ⟨#[98+(s+7 * k) % 25]⟩<=100 then some (D.str (fM ⟨#[98+(s+7 * k) % 25]⟩ (1+(c:Int))))else none)=_;rw[aj ⟨by omega,by omega,by show 1<=100;decide⟩];rfl
theorem EY(s:Nat):∀(l:List Nat) (es:List L4.D),IL es->∃cs es',cs.length=l.length/\(∀c∈cs,c<8)/\IL es'/\
  r9 1 [2,0,1] (gN 0) pF UH (l.map λ(k:Nat)=>D.int k) [.pm es,.im (.int s),.im (.str lets)]=some (cD (λ(k c:Nat)=>D.str (nmS ((s+7 * k) % 25) c)) l cs,[.pm es',.im (.int s),.im (.str lets)])
 |[],es,h=>⟨[],es,rfl,λc hc=>(bw hc).elim,h,rfl⟩
 |k::l,es,h=>by
  obtain⟨c,es1,h1,h2,h3⟩:=Oi h s k;obtain⟨cs,es',h4,h5,h6,h7⟩:=EY s l es1 h2;refine⟨c::cs,es',by rw[aD,aD,h4],λx hx=>?_,h6,?_⟩
  ·rcases aJ.mp hx with rfl|hx
   ·exact h1
   ·exact h5 x hx
  ·rw[av];unfold r9;rw[show gN 0 (.int k) (xb 1 [2,0,1] [.pm es,.im (.int s),.im (.str lets)])=some [.im (.int k),.im (.str lets),.pm es,.im (.int s)] from rfl];simp only[pF,h3];rw[show q8 [2,0,1] (([.im (.int k),.im (.str lets),.pm es1,.im (.int s)]:List Sl).drop 1) [.pm es,.im (.int s),.im (.str lets)]=some [.pm es1,.im (.int s),.im (.str lets)] from rfl];simp only[h7];rfl
theorem LC(s:Nat)(hs:s<25):∀(l cs:List Nat),cs.length=l.length->(∀c∈cs,c<8)->(l.map λk=>(s+7 * k) % 25).Nodup->∃N:List Str,N.length=l.length/\(∀x∈N,Nm x)/\N.Nodup/\(∀x∈N,∃k∈l,sg x=98+(s+7 * k) % 25)/\cD (λ(k c:Nat)=>D.str (nmS ((s+7 * k) % 25) c)) l cs=N.map D.str
 |[],[],_,_,_=>⟨[],rfl,λx h=>(bw h).elim,gH,λx h=>(bw h).elim,rfl⟩
 |[],c::cs,h,_,_=>by cases h
 |k::l,[],h,_,_=>by cases h
 |k::l,c::cs,h,hc,nd=>by
  rw[av,bU]at nd;obtain⟨N,h1,h2,h3,h4,h5⟩:=LC s hs l cs (by simpa using h) (λx hx=>hc x (aZ _ hx)) nd.2;have hm:(s+7 * k) % 25<25:=ml _ (by decide);have hsg:=UB hm (hc c aT);refine⟨nmS ((s+7 * k) % 25) c::N,by rw[aD,aD,h1],λx hx=>?_,?_,λx hx=>?_,?_⟩
  ·rcases aJ.mp hx with rfl|hx
   ·exact⟨_,_,hm,hc c aT,rfl⟩
   ·exact h2 x hx
  ·rw[bU];refine⟨λz=>?_,h3⟩;obtain⟨j,hj,e⟩:=h4 _ z;rw[hsg]at e;exact nd.1 (ay.mpr ⟨j,hj,by omega⟩)
  ·rcases aJ.mp hx with rfl|hx
   ·exact⟨k,aT,hsg⟩
   ·obtain⟨j,hj,e⟩:=h4 x hx;exact⟨j,aZ _ hj,e⟩
  ·rw[dm,h5];rfl
structure Nms(N:List Str):Prop where
 len:N.length=17
 nm:∀x∈N,Nm x
 nd:N.Nodup
theorem LD(h:IL es):∃N es',Nms N/\IL es'/\vF es []=some (.lst (N.map D.str),es'):=by
 obtain⟨r,es1,h1,h2,h3,h4⟩:=qY h 25 (by decide);obtain⟨s,rfl⟩:=cp h2;have hs:s<25:=by omega
 obtain⟨cs,es2,h5,h6,h7,h8⟩:=EY s (aX 17) es1 h1;have nd:((aX 17).map λk=>(s+7 * k) % 25).Nodup:=by
  have q:((aX 25).all λs=>decide ((aX 17).map λk=>(s+7 * k) % 25).Nodup)=true:=by decide +kernel
  exact bP (aY.mp q s (bL.mpr hs))
 obtain⟨N,n1,n2,n3,_,n5⟩:=LC s hs (aX 17) cs h5 h6 nd;refine⟨N,es2,⟨by rw[n1,dU],n2,n3⟩,h7,Qx (ρ:=[.pm es2,.im (.int s),.im (.str lets)]) rfl ?_ rfl⟩;unfold vE;refine(oA (ρ':=[.pm es1,.im (.int s),.un]) ((pf (sk (es0:=es) (es:=es) (ρ1:=[.pm es,.un,.un]) rfl rfl rfl h4)).trans rfl)).trans ?_;refine(oA (ρ':=[.pm es1,.im (.int s),.im (.str lets)]) rfl).trans ?_;refine uf ((yg (ds:=(aX 17).map λ(k:Nat)=>D.int k) (ρ1:=[.pm es1,.im (.int s),.im (.str lets)]) ?_ (by simp)).trans (by rw[<-n5];exact h8));unfold iR1;show (if _ then some (yc 0 17,_)else none)=_;rw[aj (by decide)];unfold yc;simp only[Int.zero_add]
structure Rw where
 n:Str
 k:Kd
 s:Option Str
def oV(r:Rw):L4.D:=.tup [.str r.n,.str r.k.s,oS r.s]
def DK(l:List Rw)(r:Rw):Prop:=(r.k=.room/\r.s=none)\/(r.k=.you/\∃u∈l,r.s=some u.n/\u.k=.room)\/(r.k.pl=true/\∃u∈l,r.s=some u.n/\u.k.hd=true)
inductive Ord:List Rw->Prop
 |nil:Ord []
 |snoc {l:List Rw} {r:Rw} (h:Ord l) (h':DK l r):Ord (l++[r])
theorem DK.mono{l l':List Rw}{r:Rw}(h:DK l r)(hs:∀u∈l,u∈l'):DK l' r:=by
 rcases h with h|⟨h1,u,h2,h3⟩|⟨h1,u,h2,h3⟩
 ·exact .inl h
 ·exact .inr (.inl ⟨h1,u,hs u h2,h3⟩)
 ·exact .inr (.inr ⟨h1,u,hs u h2,h3⟩)
theorem Ord.all{l:List Rw}(h:Ord l):∀r∈l,DK l r:=by
 induction h with
 |nil=>exact λr hr=>(bw hr).elim
 |snoc h h' ih=>
  intro r hr;rcases bT.mp hr with hr|hr
  ·exact(ih r hr).mono λu hu=>bJ _ hu
  ·rw[bj]at hr;subst hr;exact h'.mono λu hu=>bJ _ hu
theorem DK.start{l:List Rw}{r:Rw}(h:DK l r){p:Str}(hp:r.s=some p):∃u∈l,u.n=p:=by
 rcases h with ⟨_,h⟩|⟨_,u,h2,h3,_⟩|⟨_,u,h2,h3,_⟩
 ·rw[h]at hp;cases hp
 ·rw[h3]at hp;cases hp;exact⟨u,h2,rfl⟩
 ·rw[h3]at hp;cases hp;exact⟨u,h2,rfl⟩
theorem Ord.rank{l:List Rw}(h:Ord l):(l.map Rw.n).Nodup->∃rk:Str->Nat,∀t∈l,rk t.n<l.length/\∀p,t.s=some p->rk p<rk t.n/\∃u∈l,u.n=p:=by
 induction h with
 |nil=>exact λ_=>⟨λ_=>0,λt ht=>(bw ht).elim⟩
 |@snoc l r h h' ih=>
  intro nd;rw[aU,bG]at nd;obtain⟨rk,hk⟩:=ih nd.1;have ne:∀u∈l,u.n≠r.n:=λu hu z=>nd.2.2 _ (bS hu) _ (by simp) z;refine⟨λx=>if x=r.n then l.length else rk x,λt ht=>?_⟩;rw[aI,bB];dsimp only;rcases bT.mp ht with ht|ht
  ·obtain⟨h1,h2⟩:=hk t ht;rw[ai (ne t ht)];refine⟨by omega,λp hp=>?_⟩;obtain⟨h3,u,hu,rfl⟩:=h2 p hp;rw[ai (ne u hu)];exact⟨h3,u,bJ _ hu,rfl⟩
  ·rw[bj]at ht;subst ht;rw[aj rfl];refine⟨by omega,λp hp=>?_⟩;obtain⟨u,hu,rfl⟩:=h'.start hp;rw[ai (ne u hu)];exact⟨(hk u hu).1,u,bJ _ hu,rfl⟩
variable{j:Nat}
theorem u6{l:List Str}{x:Str}(h:l[j]?=some x):atI (l.map D.str) (j:Int)=some (.str x):=Gx (by rw[aW,h];rfl)
def kT:List Kd:=[.plain,.box,.lamp,.fixed,.box,.lamp,.box,.plain]
theorem UI(j:Nat)(h:j<8):∃k,k∈kT/\dIx (.lst [.str "plain", .str "box", .str "lamp", .str "fixed", .str "box", .str "lamp", .str "box", .str "plain"]) (.int j)=some (.str (Kd.s k)):=
 ⟨kT[j]'h,c5 _,u6 (l:=kT.map Kd.s) (by rw[aW,aH (show j<kT.length from h)];rfl)⟩
def LF:FS:=(oI (px 6 (c2 dIx (cL (pB (aCons (cC (.str "plain")) (aCons (cC (.str "box")) (aCons (cC (.str "lamp")) (aCons (cC (.str "fixed")) (aCons (cC (.str "box")) (aCons (cC (.str "lamp")) (aCons (cC (.str "box")) (aCons (cC (.str "plain")) ox)))))))))) (qf oK 2 (aCons (cC (.int 8)) ox))))
 (oI (pd (xG 3 (qe (aCons (cV 5) (aCons (cV 6) (aCons (Fs 4 (qf oK 2 (aCons (BM (c1 qQ (cV 4))) ox))) ox))))))
 (sIf (cT (c2 (dEq false) (cV 6) (cC (.str "box")))) (pd (xG 4 (cV 5))) pj)))
theorem SH{Hs:List Str}(h:IL es)(h0:Hs≠[])(hi:qz ρ i=some es)(hj:qz ρ j=some (Hs.map D.str))(hb:cV j (ρ.map Sl.bor)=some (.lst (Hs.map D.str),ρ.map Sl.bor))(hne:∀es',qz (putAt ρ i es') j=some (Hs.map D.str)):
  ∃x es',x∈Hs/\IL es'/\Fs j (qf oK i (aCons (BM (c1 qQ (cV j))) ox)) ρ=some (.str x,putAt ρ i es'):=by
 have hp:0<Hs.length:=List.length_pos_iff.mpr h0;obtain⟨r,es',h1,h2,h3,h4⟩:=qY h Hs.length (by omega);obtain⟨m,rfl⟩:=cp h2;have hm:m<Hs.length:=by omega
 refine⟨Hs[m],es',c5 hm,h1,?_⟩;have e1:BM (c1 qQ (cV j)) ρ=some (.int Hs.length,ρ):=Qv (ph hb (by show some (D.int _)=_;rw[ah])) rfl;have e2:qf oK i (aCons (BM (c1 qQ (cV j))) ox) ρ=some (.int m,putAt ρ i es'):=sk hi (oB e1 rfl) hi h4;unfold Fs;rw[hj];simp only[e2,hne es'];rw[show atI (Hs.map D.str) (m:Int)=some (.str Hs[m]) from u6 (aH hm)]
theorem zQ(a b:Sl)(B:List Rw):∀(l:List Str) (es:List L4.D) (O:List Rw) (Hs:List Str) (s5 s6:Sl),IL es->Hs≠[]->(∀x∈Hs,∃u∈B++O,u.n=x/\u.k.hd=true)->Ord (B++O)->O.length+l.length<=900->Hs.length+l.length<=900->
  ∃(es':List L4.D) (O':List Rw) (Hs':List Str) (t5 t6:Sl),IL es'/\Ord (B++(O++O'))/\O'.map Rw.n=l/\(∀r∈O',r.k.pl=true)/\
   forL (gN 5) LF (l.map D.str) [a,b,.pm es,.ls (O.map oV),.ls (Hs.map D.str),s5,s6]=some (.nx [a,b,.pm es',.ls ((O++O').map oV),.ls (Hs'.map D.str),t5,t6])
 |[],es,O,Hs,s5,s6,hi,_,_,ho,_,_=>⟨es,[],Hs,s5,s6,hi,by rw[br];exact ho,rfl,λr hr=>(bw hr).elim,by rw[br];rfl⟩
 |x::l,es,O,Hs,s5,s6,hi,h0,hH,ho,hl,hl'=>by
  rw[aD]at hl hl';obtain⟨r,es1,h1,h2,h3,h4⟩:=qY hi 8 (by decide);obtain⟨j,rfl⟩:=cp h2;obtain⟨k,hk,ek⟩:=UI j (by omega);let ρ1:List Sl:=[a,b,.pm es1,.ls (O.map oV),.ls (Hs.map D.str),.im (.str x),.im (.str k.s)];obtain⟨p,es2,hp,h5,e2⟩:=SH (ρ:=ρ1) (i:=2) (j:=4) h1 h0 rfl rfl rfl (λ_=>rfl);have hpl:k.pl=true:=by
   have:∀k∈kT,Kd.pl k=true:=by decide
   exact this k hk
  let rw0:Rw:=⟨x,k,some p⟩;obtain⟨u,hu,hun,huk⟩:=hH p hp;have ok:DK (B++O) rw0:=.inr (.inr ⟨hpl,u,hu,by rw[hun],huk⟩);let Hs1:List Str:=if k=.box then Hs++[x]else Hs
  have e3:LF [a,b,.pm es,.ls (O.map oV),.ls (Hs.map D.str),.im (.str x),s6]=some (.nx [a,b,.pm es2,.ls ((O++[rw0]).map oV),.ls (Hs1.map D.str),.im (.str x),.im (.str k.s)]):=by
   unfold LF;refine(oA (ρ':=ρ1) ((pf (oT (x:=.lst [.str "plain", .str "box", .str "lamp", .str "fixed", .str "box", .str "lamp", .str "box", .str "plain"]) (ρ1:=[a,b,.pm es,.ls (O.map oV),.ls (Hs.map D.str),.im (.str x),s6]) rfl (sk (es0:=es) (es:=es) (ρ1:=[a,b,.pm es,.ls (O.map oV),.ls (Hs.map D.str),.im (.str x),s6]) rfl rfl rfl h4) ek)).trans rfl)).trans ?_;let ρ2:List Sl:=[a,b,.pm es2,.ls (O.map oV),.ls (Hs.map D.str),.im (.str x),.im (.str k.s)];let ρ3:List Sl:=[a,b,.pm es2,.ls ((O++[rw0]).map oV),.ls (Hs.map D.str),.im (.str x),.im (.str k.s)];refine(oA (ρ':=ρ3) ((p8 (AL (es0:=O.map oV) (es:=O.map oV) (ρ1:=ρ2) (d:=oV rw0) rfl (Dp (oB rfl (oB rfl (oB e2 rfl))) (by show 3<=1000;decide)) rfl (by rw[ah];omega))).trans ?_)).trans ?_
   ·show some (Out.nx [a,b,.pm es2,.ls (O.map oV++[oV rw0]),.ls (Hs.map D.str),.im (.str x),.im (.str k.s)])=_;rw[show O.map oV++[oV rw0]=(O++[rw0]).map oV by rw[aU];rfl]
   ·have et:cT (c2 (dEq false) (cV 6) (cC (.str "box"))) ρ3=some (decide (k=.box),ρ3):=qm (oT rfl rfl (CL k .box));by_cases hb:k=.box
    ·rw[bg hb]at et;refine(sA et).trans ((p8 (AL (es0:=Hs.map D.str) (es:=Hs.map D.str) (ρ1:=ρ3) (d:=.str x) rfl rfl rfl (by rw[ah];omega))).trans ?_);show some (Out.nx [a,b,.pm es2,.ls ((O++[rw0]).map oV),.ls (Hs.map D.str++[.str x]),.im (.str x),.im (.str k.s)])=_;rw[show Hs1.map D.str=Hs.map D.str++[.str x] by rw[show Hs1=Hs++[x] from aj hb,aU];rfl]
    ·rw[aN hb]at et;refine(pL et).trans ?_;rw[show Hs1=Hs from ai hb];rfl
  have ho1:Ord (B++(O++[rw0])):=by rw[<-bp];exact ho.snoc ok
  have hH1:∀y∈Hs1,∃u∈B++(O++[rw0]),u.n=y/\u.k.hd=true:=λy hy=>by
   have old:y∈Hs->∃u∈B++(O++[rw0]),u.n=y/\u.k.hd=true:=λhy=>by obtain⟨v,hv,h⟩:=hH y hy;exact⟨v,by rw[<-bp];exact bJ _ hv,h⟩
   by_cases hb:k=.box
   ·rw[show Hs1=Hs++[x] from aj hb]at hy;rcases bT.mp hy with hy|hy
    ·exact old hy
    ·rw[bj]at hy;refine⟨rw0,by simp,hy.symm,?_⟩;show k.hd=true;rw[hb];rfl
   ·rw[show Hs1=Hs from ai hb]at hy;exact old hy
  have h01:Hs1≠[]:=by
   by_cases hb:k=.box
   ·rw[show Hs1=Hs++[x] from aj hb];simp
   ·rw[show Hs1=Hs from ai hb];exact h0
  have hl1:Hs1.length<=Hs.length+1:=by
   by_cases hb:k=.box
   ·rw[show Hs1=Hs++[x] from aj hb];simp
   ·rw[show Hs1=Hs from ai hb];omega
  obtain⟨es',O',Hs',t5,t6,g1,g2,g3,g4,g5⟩:=zQ a b B l es2 (O++[rw0]) Hs1 (.im (.str x)) (.im (.str k.s)) h5 h01 hH1 ho1 (by rw[aI,bB];omega) (by omega);refine⟨es',rw0::O',Hs',t5,t6,g1,by rw[bp]at g2;exact g2,by rw[av,g3],λr hr=>?_,?_⟩
  ·rcases aJ.mp hr with rfl|hr
   ·exact hpl
   ·exact g4 r hr
  ·rw[av];unfold forL;rw[show gN 5 (.str x) [a,b,.pm es,.ls (O.map oV),.ls (Hs.map D.str),s5,s6]=some [a,b,.pm es,.ls (O.map oV),.ls (Hs.map D.str),.im (.str x),s6] from rfl];simp only[e3];rw[g5,bp];rfl
theorem LG(k:Nat)(h:k<=ds.length):cutD ds none (some (k:Int))=ds.take k:=by unfold cutD;rw[HT.DX,HT.zZ,fo h,List.drop_zero,Nat.sub_zero]
theorem SI(k:Nat)(h:k<=ds.length):cutD ds (some (k:Int)) none=ds.drop k:=by unfold cutD;rw[HT.DX,HT.zZ,fo h,jD (by rw[cv];omega)]
theorem Ht(k m:Nat)(h:k+m<=ds.length):cutD ds (some (k:Int)) (some ((k+m:Nat):Int))=(ds.drop k).take m:=by unfold cutD;rw[HT.zZ,HT.zZ,fo h,fo (show k<=ds.length by omega)];congr 1;omega
variable{N:List Str}
theorem Jf{rooms:List Str}(hN:Nms N)(B:List Rw)(h:IL es)(hB:Ord B)(hr:rooms.length<=100)(hH:∀x∈rooms++[N[5]'(by rw[hN.len];decide)],∃u∈B,u.n=x/\u.k.hd=true):
  ∃(q:Nat) (es':List L4.D) (O:List Rw),q<8/\IL es'/\Ord (B++O)/\O.map Rw.n=(N.drop 6).take q/\(∀r∈O,r.k.pl=true)/\qH es [.lst (N.map D.str),.lst (rooms.map D.str)]=some (.lst (O.map oV),es'):=by
 have h5:5<N.length:=by rw[hN.len];decide
 obtain⟨r,es1,h1,h2,h3,h4⟩:=qY h 8 (by decide);obtain⟨q,rfl⟩:=cp h2;let Hs:=rooms++[N[5]];obtain⟨es',O,Hs',t5,t6,g1,g2,g3,g4,g5⟩:=zQ (.im (.lst (N.map D.str))) (.im (.lst (rooms.map D.str))) B ((N.drop 6).take q) es1 [] Hs .un .un h1 (by simp[Hs]) (λx hx=>by rw[br];exact hH x hx) (by rw[br];exact hB) (by rw[bq,cv,hN.len];simp;omega) (by rw[bq,cv,hN.len];simp[Hs];omega);rw[ba]at g2 g5;refine⟨q,es',O,by omega,g1,g2,g3,g4,?_⟩;have run:sH (stL 7 es [.lst (N.map D.str),.lst (rooms.map D.str)])=some (.rn (O.map oV) [.im (.lst (N.map D.str)),.im (.lst (rooms.map D.str)),.pm es',.un,.ls (Hs'.map D.str),t5,t6]):=by
  unfold sH;refine(oA (ρ':=[.im (.lst (N.map D.str)),.im (.lst (rooms.map D.str)),.pm es,.ls [],.un,.un,.un]) rfl).trans ?_;refine(oA (ρ':=[.im (.lst (N.map D.str)),.im (.lst (rooms.map D.str)),.pm es,.ls [],.ls (Hs.map D.str),.un,.un]) ((wQ (sS (xs:=rooms.map D.str) (ys:=[.str N[5]]) rfl (pI (Fy (oB (oT rfl rfl (u6 (j:=5) (aH h5))) rfl) (by show 1<=1000;decide))) (by rw[ah];simp;omega))).trans ?_)).trans ?_
  ·show some (Out.nx [_,_,_,_,.ls (rooms.map D.str++[.str N[5]]),_,_])=_;rw[show rooms.map D.str++[.str N[5]]=Hs.map D.str by simp[Hs]]
  ·refine(oA ((pY (ds:=((N.drop 6).take q).map D.str) (ρ1:=[.im (.lst (N.map D.str)),.im (.lst (rooms.map D.str)),.pm es1,.ls [],.ls (Hs.map D.str),.un,.un]) ?_).trans g5)).trans rfl;have e:vU (cV 0) (oAt (cC (.int 6))) (oAt (c2 pO (cC (.int 6)) (qf oK 2 (aCons (cC (.int 8)) ox)))) [.im (.lst (N.map D.str)),.im (.lst (rooms.map D.str)),.pm es,.ls [],.ls (Hs.map D.str),.un,.un]=some (((N.drop 6).take q).map D.str,[.im (.lst (N.map D.str)),.im (.lst (rooms.map D.str)),.pm es1,.ls [],.ls (Hs.map D.str),.un,.un]):=by
    have e1:c2 pO (cC (.int 6)) (qf oK 2 (aCons (cC (.int 8)) ox)) [.im (.lst (N.map D.str)),.im (.lst (rooms.map D.str)),.pm es,.ls [],.ls (Hs.map D.str),.un,.un]=some (.int ((6+q:Nat):Int),[.im (.lst (N.map D.str)),.im (.lst (rooms.map D.str)),.pm es1,.ls [],.ls (Hs.map D.str),.un,.un]):=oT rfl ((sk (es0:=es) (es:=es) (ρ1:=[.im (.lst (N.map D.str)),.im (.lst (rooms.map D.str)),.pm es,.ls [],.ls (Hs.map D.str),.un,.un]) rfl rfl rfl h4).trans rfl) (by show some (D.int (6+(q:Int)))=_;congr 2);have e2:oAt (c2 pO (cC (.int 6)) (qf oK 2 (aCons (cC (.int 8)) ox))) [.im (.lst (N.map D.str)),.im (.lst (rooms.map D.str)),.pm es,.ls [],.ls (Hs.map D.str),.un,.un]=some (some ((6+q:Nat):Int),[.im (.lst (N.map D.str)),.im (.lst (rooms.map D.str)),.pm es1,.ls [],.ls (Hs.map D.str),.un,.un]):=by unfold oAt;rw[e1]
    unfold vU;show (match oAt (c2 pO (cC (.int 6)) (qf oK 2 (aCons (cC (.int 8)) ox))) [.im (.lst (N.map D.str)),.im (.lst (rooms.map D.str)),.pm es,.ls [],.ls (Hs.map D.str),.un,.un]with
     |some (h,ρ3)=>some (cutD (N.map D.str) (some 6) h,ρ3)
     |none=>none)=_
    rw[e2];show some (cutD (N.map D.str) (some ((6:Nat):Int)) (some ((6+q:Nat):Int)),_)=_;rw[Ht 6 q (by rw[ah,hN.len];omega),fC,fz]
   unfold iL;rw[pI e]
 unfold qH fnL;rw[aj (show [D.lst (N.map D.str),D.lst (rooms.map D.str)].length=2 from rfl),run];rfl
def SJ:FS:=(oI (px 7 (qf oK 1 (aCons (c2 pO (c1 qQ (cV 5)) (cC (.int 1))) ox)))
 (px 5 (cL (q9 (cL (q9 (cL (vU (cV 5) oNo (oAt (cV 7)))) (cL (pB (aCons (cV 6) ox))))) (cL (vU (cV 5) (oAt (cV 7)) oNo))))))
theorem EZ{a b c d x8 x9 x10 x11 x12 x13:Sl}:∀(l:List Rw) (es:List L4.D) (R:List Rw) (s6 s7:Sl),IL es->R.length+l.length<=900->∃(es':List L4.D) (R':List Rw) (t6 t7:Sl),IL es'/\R'.Perm (R++l)/\
  forL (gN 6) SJ (l.map oV) [a,.ls es,b,c,d,.im (.lst (R.map oV)),s6,s7,x8,x9,x10,x11,x12,x13]=some (.nx [a,.ls es',b,c,d,.im (.lst (R'.map oV)),t6,t7,x8,x9,x10,x11,x12,x13])
 |[],es,R,s6,s7,hi,_=>⟨es,R,s6,s7,hi,by rw[br],rfl⟩
 |r::l,es,R,s6,s7,hi,hl=>by
  rw[aD]at hl;obtain⟨v,es1,h1,h2,h3,h4⟩:=qY hi ((R.map oV).length+1:Int) (by omega);obtain⟨k,rfl⟩:=cp h2;have hk:k<=(R.map oV).length:=by omega
  let R1:=R.take k++r::R.drop k;have p1:R1.Perm (R++[r]):=by have:=(List.perm_middle (a:=r) (l₁:=R.take k) (l₂:=R.drop k));rw[ie]at this;exact this.trans (List.perm_append_singleton r R).symm
  have hR1:R1.length=R.length+1:=p1.length_eq.trans (by simp);let ρ1:List Sl:=[a,.ls es1,b,c,d,.im (.lst (R.map oV)),.im (oV r),.im (.int k),x8,x9,x10,x11,x12,x13];have e1:SJ [a,.ls es,b,c,d,.im (.lst (R.map oV)),.im (oV r),s7,x8,x9,x10,x11,x12,x13]=some (.nx [a,.ls es1,b,c,d,.im (.lst (R1.map oV)),.im (oV r),.im (.int k),x8,x9,x10,x11,x12,x13]):=by
   unfold SJ;refine(oA (ρ':=ρ1) ((pf (i:=7) (sk (i:=1) (es0:=es) (es:=es) (ρ1:=[a,.ls es,b,c,d,.im (.lst (R.map oV)),.im (oV r),s7,x8,x9,x10,x11,x12,x13]) rfl (show aCons (c2 pO (c1 qQ (cV 5)) (cC (.int 1))) ox _=some ([.int ((R.map oV).length+1)],_) from rfl) rfl h4)).trans rfl)).trans ?_;have c1:vU (cV 5) oNo (oAt (cV 7)) ρ1=some ((R.map oV).take k,ρ1):=by show some (cutD (R.map oV) none (some (k:Int)),ρ1)=_;rw[LG k hk]
   have c2:vU (cV 5) (oAt (cV 7)) oNo ρ1=some ((R.map oV).drop k,ρ1):=by show some (cutD (R.map oV) (some (k:Int)) none,ρ1)=_;rw[SI k hk]
   refine(pf (pI (sS (pI (sS (pI c1) (pI (Fy (ds:=[oV r]) rfl (by show 1<=1000;decide))) ?_)) (pI c2) ?_))).trans ?_
   ·rw[bq,ah];simp;omega
   ·rw[aI,bq,cv,ah];simp;omega
   ·show some (Out.nx [a,.ls es1,b,c,d,.im (.lst ((R.map oV).take k++[oV r]++(R.map oV).drop k)),.im (oV r),.im (.int k),x8,x9,x10,x11,x12,x13])=_;rw[show (R.map oV).take k++[oV r]++(R.map oV).drop k=R1.map oV by simp[R1,fC,fz]]
  obtain⟨es',R',t6,t7,g1,g2,g3⟩:=EZ (a:=a) (b:=b) (c:=c) (d:=d) (x8:=x8) (x9:=x9) (x10:=x10) (x11:=x11) (x12:=x12) (x13:=x13) l es1 R1 (.im (oV r)) (.im (.int k)) h1 (by omega);refine⟨es',R',t6,t7,g1,g2.trans ((p1.append_right l).trans (by rw[bp];exact lr _)),?_⟩;rw[av];unfold forL;rw[show gN 6 (oV r) [a,.ls es,b,c,d,.im (.lst (R.map oV)),s6,s7,x8,x9,x10,x11,x12,x13]=some [a,.ls es,b,c,d,.im (.lst (R.map oV)),.im (oV r),s7,x8,x9,x10,x11,x12,x13] from rfl];simp only[e1];exact g3
def mkT(m:Mk):L4.D:=.tup [.str m.n,.int m.st,.int m.mo]
def mkB:FS:=(oI (px 10 (c2 pO (cC (.int 1)) (qf oK 1 (aCons (cC (.int 3)) ox))))
 (pd (xG 8 (qe (aCons (cV 9) (aCons (qf oK 1 (aCons (c2 pO (cV 10) (cC (.int 1))) ox)) (aCons (cV 10) ox)))))))
theorem Hu{a b c d x5 x6 x7 x11 x12 x13:Sl}:∀(l:List Str) (es:List L4.D) (M:List Mk) (s9 s10:Sl),IL es->M.length+l.length<=900->∃(es':List L4.D) (M':List Mk) (t9 t10:Sl),IL es'/\M'.map Mk.n=l/\(∀m∈M',m.ok)/\
  forL (gN 9) mkB (l.map D.str) [a,.ls es,b,c,d,x5,x6,x7,.ls (M.map mkT),s9,s10,x11,x12,x13]=some (.nx [a,.ls es',b,c,d,x5,x6,x7,.ls ((M++M').map mkT),t9,t10,x11,x12,x13])
 |[],es,M,s9,s10,hi,_=>⟨es,[],s9,s10,hi,rfl,λm hm=>(bw hm).elim,by rw[br];rfl⟩
 |x::l,es,M,s9,s10,hi,hl=>by
  rw[aD]at hl;obtain⟨v,es1,h1,h2,h3,h4⟩:=qY hi 3 (by decide);obtain⟨w,es2,h5,h6,h7,h8⟩:=qY h1 (1+v+1) (by omega);let m:Mk:=⟨x,w,1+v⟩;let ρ1:List Sl:=[a,.ls es1,b,c,d,x5,x6,x7,.ls (M.map mkT),.im (.str x),.im (.int (1+v)),x11,x12,x13];let ρ2:List Sl:=[a,.ls es2,b,c,d,x5,x6,x7,.ls (M.map mkT),.im (.str x),.im (.int (1+v)),x11,x12,x13];have e1:mkB [a,.ls es,b,c,d,x5,x6,x7,.ls (M.map mkT),.im (.str x),s10,x11,x12,x13]=some (.nx [a,.ls es2,b,c,d,x5,x6,x7,.ls ((M++[m]).map mkT),.im (.str x),.im (.int (1+v)),x11,x12,x13]):=by unfold mkB;refine(oA (ρ':=ρ1) ((pf (oT rfl (sk (es0:=es) (es:=es) (ρ1:=[a,.ls es,b,c,d,x5,x6,x7,.ls (M.map mkT),.im (.str x),s10,x11,x12,x13]) rfl rfl rfl h4) rfl)).trans rfl)).trans ?_;refine(p8 (AL (es0:=M.map mkT) (es:=M.map mkT) (ρ1:=ρ2) (d:=mkT m) rfl (Dp (oB rfl (oB ((sk (es0:=es1) (es:=es1) (ρ1:=ρ1) rfl (oB (oT rfl rfl rfl) rfl) rfl h8).trans rfl) rfl)) (by show 3<=1000;decide)) rfl (by rw[ah];omega))).trans ?_;show some (Out.nx [a,.ls es2,b,c,d,x5,x6,x7,.ls (M.map mkT++[mkT m]),.im (.str x),.im (.int (1+v)),x11,x12,x13])=_;rw[show M.map mkT++[mkT m]=(M++[m]).map mkT by rw[aU];rfl]
  obtain⟨es',M',t9,t10,g1,g2,g3,g4⟩:=Hu (a:=a) (b:=b) (c:=c) (d:=d) (x5:=x5) (x6:=x6) (x7:=x7) (x11:=x11) (x12:=x12) (x13:=x13) l es2 (M++[m]) (.im (.str x)) (.im (.int (1+v))) h5 (by rw[aI,bB];omega);refine⟨es',m::M',t9,t10,g1,by rw[av,g2],λy hy=>?_,?_⟩
  ·rcases aJ.mp hy with rfl|hy
   ·exact⟨by show 1<=1+v;omega,by show 1+v<=3;omega,h6,by show w<=1+v;omega⟩
   ·exact g3 y hy
  ·rw[av];unfold forL;rw[show gN 9 (.str x) [a,.ls es,b,c,d,x5,x6,x7,.ls (M.map mkT),s9,s10,x11,x12,x13]=some [a,.ls es,b,c,d,x5,x6,x7,.ls (M.map mkT),.im (.str x),s10,x11,x12,x13] from rfl];simp only[e1];rw[g4,bp];rfl
theorem CP{a b c d x5 x6 x7 x8 x9 x10 x11 x12 x13:Sl}:∀(l:List Str) (es:List L4.D),IL es->∃(dk:List Str) (es':List L4.D),dk.Sublist l/\IL es'/\
  r9 1 [1] (gN 0) (cT (c2 (dEq false) (qf oK 1 (aCons (cC (.int 2)) ox)) (cC (.int 1)))) (cV 0) (l.map D.str) [a,.ls es,b,c,d,x5,x6,x7,x8,x9,x10,x11,x12,x13]=some (dk.map D.str,[a,.ls es',b,c,d,x5,x6,x7,x8,x9,x10,x11,x12,x13])
 |[],es,h=>⟨[],es,gn _,h,rfl⟩
 |x::l,es,h=>by
  obtain⟨v,es1,h1,h2,h3,h4⟩:=qY h 2 (by decide);obtain⟨dk,es',g1,g2,g3⟩:=CP (a:=a) (b:=b) (c:=c) (d:=d) (x5:=x5) (x6:=x6) (x7:=x7) (x8:=x8) (x9:=x9) (x10:=x10) (x11:=x11) (x12:=x12) (x13:=x13) l es1 h1;have et:cT (c2 (dEq false) (qf oK 1 (aCons (cC (.int 2)) ox)) (cC (.int 1))) [.im (.str x),.pm es]=some (decide (v=1),[.im (.str x),.pm es1]):=qm (oT ((sk (es0:=es) (es:=es) (ρ1:=[.im (.str x),.pm es]) rfl rfl rfl h4).trans rfl) rfl (wY false v 1));have st:r9 1 [1] (gN 0) (cT (c2 (dEq false) (qf oK 1 (aCons (cC (.int 2)) ox)) (cC (.int 1)))) (cV 0) ((x::l).map D.str) [a,.ls es,b,c,d,x5,x6,x7,x8,x9,x10,x11,x12,x13]=some ((if v=1 then x::dk else dk).map D.str,[a,.ls es',b,c,d,x5,x6,x7,x8,x9,x10,x11,x12,x13]):=by
   rw[av];unfold r9;rw[show gN 0 (.str x) (xb 1 [1] [a,.ls es,b,c,d,x5,x6,x7,x8,x9,x10,x11,x12,x13])=some [.im (.str x),.pm es] from rfl];simp only[et];have un:q8 [1] (([.im (.str x),.pm es1]:List Sl).drop 1) [a,.ls es,b,c,d,x5,x6,x7,x8,x9,x10,x11,x12,x13]=some [a,.ls es1,b,c,d,x5,x6,x7,x8,x9,x10,x11,x12,x13]:=rfl;by_cases hv:v=1
   ·rw[aj hv,bg hv];simp only;simp only[show cV 0 [.im (.str x),.pm es1]=some (.str x,[.im (.str x),.pm es1]) from rfl,un,g3];rfl
   ·rw[ai hv,aN hv];simp only[un,g3]
  by_cases hv:v=1
  ·rw[aj hv]at st;exact⟨x::dk,es',g1.cons_cons x,g2,st⟩
  ·rw[ai hv]at st;exact⟨dk,es',g1.cons x,g2,st⟩
def moD:L4.D:=.lst [.tup [],.tup [.str "red"],.tup [.str "old", .str "red"]]
theorem Oj(j:Nat)(h:j<3):∃m∈CM,dIx moD (.int j)=some (.tup (m.map D.str)):=by
 match j,h with
 |0,_=>exact⟨[],by decide,rfl⟩
 |1,_=>exact⟨["red"],by decide,rfl⟩
 |2,_=>exact⟨["old", "red"],by decide,rfl⟩
def Th.rw(t:Th):Rw:=⟨t.n,t.k,t.s⟩
def wdD(t:Th):L4.D:=.tup (t.w.map D.str)
def SK:FE:=(zv (qe (aCons (cV 0) ox)) (c2 dIx (cV 3) (qf oK 4 (aCons (cC (.int 3)) ox))))
theorem By{a b c d x5 x6 x7 x8 x9 x10 x11 x13:Sl}:∀(R:List Rw) (es:List L4.D),IL es->∃(T:List Th) (es':List L4.D),T.map Th.rw=R/\(∀t∈T,∃m∈CM,t.w=t.n::m)/\IL es'/\
  r9 3 [12,1] (gT (oX (gN 0) (oX (gN 1) (oX (gN 2) qZ))) 3) pF SK (R.map oV) [a,.ls es,b,c,d,x5,x6,x7,x8,x9,x10,x11,.im moD,x13]=some (T.map wdD,[a,.ls es',b,c,d,x5,x6,x7,x8,x9,x10,x11,.im moD,x13])
 |[],es,h=>⟨[],es,rfl,λt ht=>(bw ht).elim,h,rfl⟩
 |r::R,es,h=>by
  obtain⟨v,es1,h1,h2,h3,h4⟩:=qY h 3 (by decide);obtain⟨j,rfl⟩:=cp h2;obtain⟨m,hm,em⟩:=Oj j (by omega);obtain⟨T,es',g1,g2,g3,g4⟩:=By (a:=a) (b:=b) (c:=c) (d:=d) (x5:=x5) (x6:=x6) (x7:=x7) (x8:=x8) (x9:=x9) (x10:=x10) (x11:=x11) (x13:=x13) R es1 h1;let t:Th:=⟨r.n,r.n::m,r.k,r.s⟩;have hml:m.length<=2:=by
   have:∀m∈CM,bH m<=2:=by decide
   exact this m hm
  refine⟨t::T,es',by rw[av,g1];rfl,λu hu=>?_,g3,?_⟩
  ·rcases aJ.mp hu with rfl|hu
   ·exact⟨m,hm,rfl⟩
   ·exact g2 u hu
  ·let ρ2:List Sl:=[.im (.str r.n),.im (.str r.k.s),.im (oS r.s),.im moD,.pm es];have e1:SK ρ2=some (wdD t,[.im (.str r.n),.im (.str r.k.s),.im (oS r.s),.im moD,.pm es1]):=by have e2:c2 dIx (cV 3) (qf oK 4 (aCons (cC (.int 3)) ox)) ρ2=some (.tup (m.map D.str),[.im (.str r.n),.im (.str r.k.s),.im (oS r.s),.im moD,.pm es1]):=oT rfl ((sk (es0:=es) (es:=es) (ρ1:=ρ2) rfl rfl rfl h4).trans rfl) em;unfold SK zv;rw[show qe (aCons (cV 0) ox) ρ2=some (.tup [.str r.n],ρ2) from rfl];simp only[e2];rw[aj (by rw[ah];simp;omega)];rfl
   rw[av];unfold r9;rw[show gT (oX (gN 0) (oX (gN 1) (oX (gN 2) qZ))) 3 (oV r) (xb 3 [12,1] [a,.ls es,b,c,d,x5,x6,x7,x8,x9,x10,x11,.im moD,x13])=some ρ2 from rfl];simp only[pF,e1];rw[show q8 [12,1] (([.im (.str r.n),.im (.str r.k.s),.im (oS r.s),.im moD,.pm es1]:List Sl).drop 3) [a,.ls es,b,c,d,x5,x6,x7,x8,x9,x10,x11,.im moD,x13]=some [a,.ls es1,b,c,d,x5,x6,x7,x8,x9,x10,x11,.im moD,x13] from rfl];simp only[g4];rfl
def sd(x:Str):Rw:=⟨x,.room,none⟩
theorem Ol(N:List Str)(h:N.length=17):∃x,N[5]?=some x/\N.take 5++([x]++((N.drop 6).take 7++N.drop 13))=N:=by refine⟨N[5],aH (by omega),?_⟩;rw[show N.drop 13=(N.drop 6).drop 7 by rw[List.drop_drop],ie,List.singleton_append,<- fR,ie]
theorem E1{α:Type}(l:List α){a b:Nat}(h:a<=b):(l.take a).Sublist (l.take b):=by
 have:l.take a=(l.take b).take a:=by rw[List.take_take,fo h]
 rw[this];exact gf _ _
variable{y:Str}{r q:Nat}
theorem Jg(h:N.length=17)(hy:N[5]?=some y){p:Nat}(hr:r<5)(hq:q<8):((N.take (1+r)++([y]++(N.drop 6).take q))++(N.drop 13).take p).Sublist N:=by obtain⟨x,h1,h2⟩:=Ol N h;rw[hy]at h1;cases h1;rw[bp,bp];have:=(E1 N (show 1+r<=5 by omega)).append ((gn [y]).append ((E1 (N.drop 6) (show q<=7 by omega)).append (gf p (N.drop 13))));rw[h2]at this;exact this
theorem SL{R:List Rw}(h:T.map Th.rw=R){u:Rw}(hu:u∈R):∃t∈T,t.rw=u:=by rw[<-h]at hu;exact ay.mp hu
theorem Om(T:List Th)(p:Kd->Bool):(T.filter λt=>p t.k).map Th.rw=(T.map Th.rw).filter λr=>p r.k:=by rw[List.filter_map];rfl
theorem On(hN:Nms N)(hy:N[5]?=some y){p:Nat}(hr:r<5)(hq:q<8)(hp:p<5){z:Str}(hz:z∈N.take (1+r)){O:List Rw}
  (ho:Ord (((N.take (1+r)).map sd++[⟨y,.you,some z⟩])++O)) (hO:O.map Rw.n=(N.drop 6).take q) (hOp:∀u∈O,u.k.pl=true) (hT:(T.map Th.rw).Perm (((N.take (1+r)).map sd++[⟨y,.you,some z⟩])++O)) (hw:∀t∈T,∃m∈CM,t.w=t.n::m)
  (hM:M.map Mk.n=(N.drop 13).take p) (hMo:∀m∈M,m.ok) (hd:dk.Sublist (N.take (1+r))):Good T M dk/\(T.filter λt=>decide (t.k=.you)).map Th.n=[y]:=by
 let B:List Rw:=((N.take (1+r)).map sd++[⟨y,.you,some z⟩])++O;have hl:(N.take (1+r)).length=1+r:=by rw[bq,hN.len];omega
 have hOl:O.length=q:=by have:=aL bH hO;rw[ah,bq,cv,hN.len]at this;omega
 have hMl:M.length=min p 4:=by have:=aL bH hM;rw[ah,bq,cv,hN.len]at this;exact this
 have hBl:B.length=1+r+1+q:=by simp only[B,aI,ah,hl,hOl,bB]
 have hTl:T.length=B.length:=by have:=hT.length_eq;rw[ah]at this;exact this
 have hBn:B.map Rw.n=N.take (1+r)++([y]++(N.drop 6).take q):=by simp only[B,aU,hO,aC,bp];rw[show (Rw.n∘sd)=id from rfl,eC];rfl
 have hTn:T.map Th.n=(T.map Th.rw).map Rw.n:=by rw[aC];rfl
 have perm:(T.map Th.n++M.map Mk.n).Perm ((N.take (1+r)++([y]++(N.drop 6).take q))++(N.drop 13).take p):=by rw[hTn,hM,<- hBn];exact(hT.map Rw.n).append_right _
 have sub:=Jg hN.len hy hr hq (p:=p);have nd:(T.map Th.n++M.map Mk.n).Nodup:=perm.nodup_iff.mpr (hN.nd.sublist sub);have nm:∀x∈T.map Th.n++M.map Mk.n,Nm x:=λx hx=>hN.nm x (sub.subset (perm.subset hx));have back:∀u∈B,∃t∈T,t.rw=u:=λu hu=>SL rfl (hT.mem_iff.mpr hu);have fwd:∀t∈T,DK B t.rw:=λt ht=>ho.all _ (hT.mem_iff.mp (bS ht));have filt:∀pp:Kd->Bool,((T.filter λt=>pp t.k).map Th.rw).Perm (B.filter λu=>pp u.k):=λpp=>by rw[Om];exact hT.filter _
 have fl:∀pp:Kd->Bool,(T.filter λt=>pp t.k).length=(B.filter λu=>pp u.k).length:=λpp=>by have:=(filt pp).length_eq;rw[ah]at this;exact this
 have allF:∀(pp:Kd->Bool) (l:List Rw),(∀u∈l,pp u.k=false)->(l.filter λu=>pp u.k)=[]:=λpp l h=>List.filter_eq_nil_iff.mpr λu hu=>by rw[h u hu];exact aP
 have rooms:∀(pp:Kd->Bool),∀u∈(N.take (1+r)).map sd,pp u.k=pp .room:=λpp u hu=>by obtain⟨x,_,rfl⟩:=ay.mp hu;rfl
 have oth:∀u∈O,decide (u.k=.room)=false/\decide (u.k=.you)=false:=λu hu=>by have:=hOp u hu;refine⟨aN λh=>?_,aN λh=>?_⟩<;>rw[h]at this<;>cases this
 have fB:∀pp:Kd->Bool,(B.filter λu=>pp u.k)=((N.take (1+r)).map sd).filter (λu=>pp u.k)++([⟨y,.you,some z⟩]:List Rw).filter (λu=>pp u.k)++O.filter (λu=>pp u.k):=λpp=>by simp only[B,List.filter_append]
 have one:∀(pp:Kd->Bool) (b:Bool),pp .you=b->([⟨y,.you,some z⟩]:List Rw).filter (λu=>pp u.k)=if b then [⟨y,.you,some z⟩]else []:=λpp b h=>by rw[bZ,List.filter_nil];show (if pp .you=true then _ else _)=_;rw[h]
 have gr:∀pp:Kd->Bool,pp .room=true->pp .you=false->(∀u∈O,pp u.k=false)->(B.filter λu=>pp u.k)=(N.take (1+r)).map sd:=λpp h1 h2 h3=>by rw[fB pp,allF pp O h3,iq.mpr λu hu=>(rooms pp u hu).trans h1,one pp false h2];simp
 have gy:∀pp:Kd->Bool,pp .room=false->pp .you=true->(∀u∈O,pp u.k=false)->(B.filter λu=>pp u.k)=[⟨y,.you,some z⟩]:=λpp h1 h2 h3=>by rw[fB pp,allF pp O h3,allF pp _ λu hu=>(rooms pp u hu).trans h1,one pp true h2];rfl
 have gp:∀pp:Kd->Bool,pp .room=false->pp .you=false->(∀u∈O,pp u.k=true)->(B.filter λu=>pp u.k)=O:=λpp h1 h2 h3=>by rw[fB pp,iq.mpr h3,allF pp _ λu hu=>(rooms pp u hu).trans h1,one pp false h2];rfl
 have fr:=gr (λk=>decide (k=.room)) rfl rfl λu hu=>(oth u hu).1;have fy:=gy (λk=>decide (k=.you)) rfl rfl λu hu=>(oth u hu).2;have fp:=gp Kd.pl rfl rfl hOp;have ndT:(T.map Th.n).Nodup:=(bG.mp nd).1;obtain⟨rk,hk⟩:=ho.rank ((hT.map Rw.n).nodup_iff.mp (by rw[<-hTn];exact ndT));have inR:∀x∈N.take (1+r),x∈rmN T:=λx hx=>by obtain⟨t,ht,e⟩:=back (sd x) (bJ _ (bJ _ (bS hx)));have h1:t.n=x:=aL Rw.n e;have h2:t.k=.room:=aL Rw.k e;exact ay.mpr ⟨t,bC.mpr ⟨ht,bg h2⟩,h1⟩
 refine⟨{
  len:=by omega
  r1:=by have:=fl λk=>decide (k=.room);rw[fr,ah,hl]at this;omega
  r5:=by have:=fl λk=>decide (k=.room);rw[fr,ah,hl]at this;omega
  y1:=by have:=fl λk=>decide (k=.you);rw[fy]at this;exact this
  p7:=by have:=fl Kd.pl;rw[fp,hOl]at this;omega
  m4:=by omega
  mo:=hMo
  nm:=nm
  nd:=nd
  st:=λt ht=>?_
  rk:=⟨rk,λt ht=>?_⟩
  wd:=λt ht=>⟨nm _ (bJ _ (bS ht)),hw t ht⟩
  d0:=by have:=hd.length_le;omega
  d1:=(hN.nd.sublist (gf _ _)).sublist hd
  d2:=λx hx=>inR x (hd.subset hx) },?_⟩
 ·obtain⟨n,w,k,s⟩:=t;rcases fwd _ ht with ⟨h1,h2⟩|⟨h1,u,hu,h2,h3⟩|⟨h1,u,hu,h2,h3⟩
  ·cases h1;cases h2;trivial
  ·cases h1;cases h2;obtain⟨t',ht',e⟩:=back u hu;refine ay.mpr ⟨t',bC.mpr ⟨ht',bg ?_⟩,aL Rw.n e⟩;rw[<-h3];exact aL Rw.k e
  ·obtain⟨t',ht',e⟩:=back u hu;have mem:u.n∈hdN T:=ay.mpr ⟨t',bC.mpr ⟨ht',by rw[<-h3];exact aL Kd.hd (aL Rw.k e)⟩,aL Rw.n e⟩;have h2':s=some u.n:=h2;subst h2';have h1':k.pl=true:=h1;cases k with
   |room=>cases h1'
   |you=>cases h1'
   |plain=>exact mem
   |fixed=>exact mem
   |box=>exact mem
   |lamp=>exact mem
 ·obtain⟨h1,h2⟩:=hk t.rw (hT.mem_iff.mp (bS ht));refine⟨by rw[hTl];exact h1,λpq hpq=>?_⟩;obtain⟨h3,u,hu,h4⟩:=h2 pq hpq;obtain⟨t',ht',e⟩:=back u hu;exact⟨h3,t',ht',by rw[<-h4,<- e];rfl⟩
 ·have h:=filt λk=>decide (k=.you);rw[fy]at h;have e:=List.perm_singleton.mp h;have:=aL (mx Rw.n) e;rw[aC]at this;exact this
def ux(T:List Th)(M:List Mk)(dk:List Str)(y:Str):L4.D:=.dic [kS "rows", kS "marks", kS "dark", kS "words", kS "you"] [.lst (T.map λt=>oV t.rw),.lst (M.map mkT),.lst (dk.map D.str),.lst (T.map wdD),.str y]
theorem Jh:∀l:List Str,Ord (l.map sd):=λl=>by
 suffices h:∀(l k:List Str),Ord (k.map sd)->Ord ((k++l).map sd) from h l [] .nil
 intro l
 induction l with
 |nil=>intro k h;rw[br];exact h
 |cons x l ih=>
  intro k h;have:=ih (k++[x]) (by rw[aU];exact h.snoc (.inl ⟨rfl,rfl⟩))
  rwa [bp]at this
theorem zR(h:e ρ=some (.lst ds,ρ1)):iL e ρ=some (ds,ρ1):=by unfold iL;rw[h]
variable{f:FE}{ρ2:List Sl}
theorem E2{x:Str}{r:List (Str×FE)}(h1:f ρ=some (d,ρ1))(h2:sm r ρ1=some (ds,ρ2)):sm ((x,f)::r) ρ=some (d::ds,ρ2):=by unfold sm;rw[h1];simp only[h2]
theorem Oo{kfs:List (Str×FE)}(h:sm kfs ρ=some (ds,ρ1)):Cj kfs ρ=some (.dic (kfs.map λq=>kS q.1) ds,ρ1):=by unfold Cj;rw[h];rfl
theorem UJ{es':List L4.D}{n v:Int}{a b2 b3 b4 b5 b6 b7 b8 b9 b10 b11 b12 b13:Sl}(h:oK es [.int n]=some (.int v,es')):qf oK 1 (aCons (cC (.int n)) ox) [a,.ls es,b2,b3,b4,b5,b6,b7,b8,b9,b10,b11,b12,b13]=some (.int v,[a,.ls es',b2,b3,b4,b5,b6,b7,b8,b9,b10,b11,b12,b13]):=
 (sk (es0:=es) (es:=es) (ρ1:=[a,.ls es,b2,b3,b4,b5,b6,b7,b8,b9,b10,b11,b12,b13]) rfl rfl rfl h).trans rfl
theorem Hv(c:Int):∃T M dk y,sO [.int c]=some (ux T M dk y)/\Good T M dk/\(T.filter λt=>decide (t.k=.you)).map Th.n=[y]:=by
 obtain⟨es0,i0,d0⟩:=LB c 110 (by decide);obtain⟨N,es1,hN,i1,d1⟩:=LD i0;obtain⟨r,es2,i2,r0,r1,d2⟩:=qY i1 5 (by decide);obtain⟨r,rfl⟩:=cp r0;have hr:r<5:=by omega
 let rooms:=N.take (1+r);have hl:rooms.length=1+r:=by simp only[rooms];rw[bq,hN.len];omega
 obtain⟨i,es3,i3,j0,j1,d3⟩:=qY i2 rooms.length (by omega);obtain⟨i,rfl⟩:=cp j0;have hi:i<rooms.length:=by omega
 have h5:5<N.length:=by rw[hN.len];decide
 let y:=N[5];let z:=rooms[i];have hz:z∈rooms:=c5 hi;let B:List Rw:=rooms.map sd++[⟨y,.you,some z⟩];have hB:Ord B:=(Jh rooms).snoc (.inr (.inl ⟨rfl,sd z,bS hz,rfl,rfl⟩));obtain⟨q,es4,O,hq,i4,hO,hOn,hOp,d4⟩:=Jf hN B i3 hB (rooms:=rooms) (by omega) λx hx=>by
  rcases bT.mp hx with hx|hx
  ·exact⟨sd x,bJ _ (bS hx),rfl,rfl⟩
  ·rw[bj]at hx;exact⟨⟨y,.you,some z⟩,bA _ (bj.mpr rfl),hx.symm,rfl⟩
 have hOl:O.length<=7:=by have:=aL bH hOn;rw[ah,bq]at this;omega
 have hBl:B.length<=6:=by simp only[B,aI,ah,bB];omega
 obtain⟨es5,R,t6,t7,i5,hR,d5⟩:=EZ (a:=.im (.int c)) (b:=.im (.lst (N.map D.str))) (c:=.im (.lst (rooms.map D.str))) (d:=.im (.lst (B.map oV))) (x8:=.un) (x9:=.un) (x10:=.un) (x11:=.un) (x12:=.un) (x13:=.un) (B++O) es4 [] .un .un i4 (by rw[aI];simp;omega);rw[ba]at hR;obtain⟨p,es6,i6,p0,p1,d6⟩:=qY i5 5 (by decide);obtain⟨p,rfl⟩:=cp p0;obtain⟨es7,M,t9,t10,i7,hMn,hMo,d7⟩:=Hu (a:=.im (.int c)) (b:=.im (.lst (N.map D.str))) (c:=.im (.lst (rooms.map D.str))) (d:=.im (.lst (B.map oV))) (x5:=.im (.lst (R.map oV))) (x6:=t6) (x7:=t7) (x11:=.un) (x12:=.un) (x13:=.un) ((N.drop 13).take p) es6 [] .un .un i6 (by rw[bq,cv,hN.len];simp;omega);rw[ba]at d7;obtain⟨dk,es8,hdk,i8,d8⟩:=CP (a:=.im (.int c)) (b:=.im (.lst (N.map D.str))) (c:=.im (.lst (rooms.map D.str))) (d:=.im (.lst (B.map oV))) (x5:=.im (.lst (R.map oV))) (x6:=t6) (x7:=t7) (x8:=.ls (M.map mkT)) (x9:=t9) (x10:=t10) (x11:=.un) (x12:=.un) (x13:=.un) rooms es7 i7;obtain⟨T,es9,hT,hw,i9,d9⟩:=By (a:=.im (.int c)) (b:=.im (.lst (N.map D.str))) (c:=.im (.lst (rooms.map D.str))) (d:=.im (.lst (B.map oV))) (x5:=.im (.lst (R.map oV))) (x6:=t6) (x7:=t7) (x8:=.ls (M.map mkT)) (x9:=t9) (x10:=t10) (x11:=.im (.lst (dk.map D.str))) (x13:=.un) R es8 i8;obtain⟨g1,g2⟩:=On hN (aH h5) hr hq (by omega) hz hO hOn hOp (hT▸hR) hw hMn hMo hdk;refine⟨T,M,dk,y,o8 (ρ:=[.im (.int c),.ls es9,.im (.lst (N.map D.str)),.im (.lst (rooms.map D.str)),.im (.lst (B.map oV)),.im (.lst (R.map oV)),t6,t7,.im (.lst (M.map mkT)),t9,t10,.im (.lst (dk.map D.str)),.im moD,.im (.lst (T.map wdD))]) rfl ?_,g1,g2⟩;unfold wG;refine(oA (ρ':=[.im (.int c),.ls es0,.un,.un,.un,.un,.un,.un,.un,.un,.un,.un,.un,.un]) ((wQ (oJ (ds:=[.int c,.int 110]) rfl d0)).trans rfl)).trans ?_;refine(oA (ρ':=[.im (.int c),.ls es1,.im (.lst (N.map D.str)),.un,.un,.un,.un,.un,.un,.un,.un,.un,.un,.un]) ((pf (sk (es0:=es0) (es:=es0) (ds:=[]) (ρ1:=[.im (.int c),.ls es0,.un,.un,.un,.un,.un,.un,.un,.un,.un,.un,.un,.un]) rfl rfl rfl d1)).trans rfl)).trans ?_;have cutE:∀{lo hi:FO} {ρ ρ1 ρ2:List Sl} {l h:Option Int},cV 2 ρ=some (.lst (N.map D.str),ρ)->lo ρ=some (l,ρ1)->hi ρ1=some (h,ρ2)->vU (cV 2) lo hi ρ=some (cutD (N.map D.str) l h,ρ2):=λ{lo hi ρ ρ1 ρ2 l h} h1 h2 h3=>by unfold vU;simp only[h1,h2,h3]
 have addE:∀{k:Nat} {v:Nat} {n:Int} {ρ ρ1:List Sl},qf oK 1 (aCons (cC (.int n)) ox) ρ=some (.int v,ρ1)->oAt (c2 pO (cC (.int k)) (qf oK 1 (aCons (cC (.int n)) ox))) ρ=some (some ((k+v:Nat):Int),ρ1):=λ{k v n ρ ρ1} h=>by unfold oAt;rw[oT (g:=pO) (x:=.int k) (z:=.int ((k+v:Nat):Int)) rfl h (by show some (D.int ((k:Int)+(v:Int)))=_;congr 2)]
 refine(oA (ρ':=[.im (.int c),.ls es2,.im (.lst (N.map D.str)),.im (.lst (rooms.map D.str)),.un,.un,.un,.un,.un,.un,.un,.un,.un,.un]) ((pf (pI (cutE rfl rfl (addE (k:=1) (v:=r) (UJ d2))))).trans ?_)).trans ?_
 ·rw[LG (1+r) (by rw[ah,hN.len];omega),<- fC];rfl
 let ρ3:List L4.D->List Sl:=λes=>[.im (.int c),.ls es,.im (.lst (N.map D.str)),.im (.lst (rooms.map D.str)),.un,.un,.un,.un,.un,.un,.un,.un,.un,.un];refine(oA (ρ':=[.im (.int c),.ls es3,.im (.lst (N.map D.str)),.im (.lst (rooms.map D.str)),.im (.lst (B.map oV)),.un,.un,.un,.un,.un,.un,.un,.un,.un]) ((pf (pI (sS (xs:=rooms.map λx=>oV (sd x)) (ys:=[oV ⟨y,.you,some z⟩]) (ρ1:=ρ3 es2) (ρ2:=ρ3 es3)
  (pI (rK D.str (λx=>oV (sd x)) rooms rfl (by omega) λx _=>⟨_,_,rfl,rfl,rfl⟩))
  (pI (Fy (oB (Dp (ds:=[.str y,.str "you", .str z]) (oB (oT rfl rfl (u6 (j:=5) (aH h5))) (oB rfl (oB (oT (ρ1:=ρ3 es2) (x:=.lst (rooms.map D.str)) (y:=.int i) rfl ((sk (i:=1) (es0:=es2) (es:=es2) (ρ1:=ρ3 es2) (ds:=[.int rooms.length]) rfl (by show some ([D.int ((rooms.map D.str).length:Nat)],_)=_;rw[ah]) rfl d3).trans rfl) (u6 (aH hi))) rfl))) (by show 3<=1000;decide)) rfl) (by show 1<=1000;decide))) (by rw[ah];simp;omega)))).trans ?_)).trans ?_
 ·show some (Out.nx [.im (.int c),.ls es3,.im (.lst (N.map D.str)),.im (.lst (rooms.map D.str)),.im (.lst ((rooms.map λx=>oV (sd x))++[oV ⟨y,.you,some z⟩])),.un,.un,.un,.un,.un,.un,.un,.un,.un])=_;rw[show (rooms.map λx=>oV (sd x))++[oV ⟨y,.you,some z⟩]=B.map oV by simp only[B,aU,aC];rfl]
 refine(oA (ρ':=[.im (.int c),.ls es3,.im (.lst (N.map D.str)),.im (.lst (rooms.map D.str)),.im (.lst (B.map oV)),.im (.lst []),.un,.un,.un,.un,.un,.un,.un,.un]) rfl).trans ?_;let ρ5:List L4.D->List Sl:=λes=>[.im (.int c),.ls es,.im (.lst (N.map D.str)),.im (.lst (rooms.map D.str)),.im (.lst (B.map oV)),.im (.lst []),.un,.un,.un,.un,.un,.un,.un,.un];refine(oA ((pY (ds:=(B++O).map oV) (ρ1:=ρ5 es4) ?_).trans d5)).trans ?_
 ·have em:AY qH 1 (aCons (cV 2) (aCons (cV 3) ox)) (ρ5 es3)=some (.lst (O.map oV),ρ5 es4):=by
   unfold AY;show (match qH es3 [.lst (N.map D.str),.lst (rooms.map D.str)]with
    |some (d,es')=>some (d,putAt (ρ5 es3) 1 es')
    |none=>none)=_
   rw[d4];rfl
  exact(zR (pI (sS (xs:=B.map oV) (ys:=O.map oV) rfl em (by rw[ah,ah];omega)))).trans (by rw[<-aU])
 refine(oA (ρ':=[.im (.int c),.ls es5,.im (.lst (N.map D.str)),.im (.lst (rooms.map D.str)),.im (.lst (B.map oV)),.im (.lst (R.map oV)),t6,t7,.ls [],.un,.un,.un,.un,.un]) rfl).trans ?_;refine(oA ((pY (ds:=((N.drop 13).take p).map D.str) (ρ1:=[.im (.int c),.ls es6,.im (.lst (N.map D.str)),.im (.lst (rooms.map D.str)),.im (.lst (B.map oV)),.im (.lst (R.map oV)),t6,t7,.ls [],.un,.un,.un,.un,.un]) ?_).trans d7)).trans ?_
 ·refine(zR (pI (cutE (l:=some ((13:Nat):Int)) rfl rfl (addE (k:=13) (v:=p) (UJ d6))))).trans ?_;have ec:cutD (N.map D.str) (some ((13:Nat):Int)) (some ((13+p:Nat):Int))=((N.drop 13).take p).map D.str:=by rw[Ht 13 p (by rw[ah,hN.len];omega),fC,fz]
  rw[ec]
 refine(oA (ρ':=[.im (.int c),.ls es8,.im (.lst (N.map D.str)),.im (.lst (rooms.map D.str)),.im (.lst (B.map oV)),.im (.lst (R.map oV)),t6,t7,.ls (M.map mkT),t9,t10,.im (.lst (dk.map D.str)),.un,.un]) ((pf (pI ((yg (ds:=rooms.map D.str) (ρ1:=[.im (.int c),.ls es7,.im (.lst (N.map D.str)),.im (.lst (rooms.map D.str)),.im (.lst (B.map oV)),.im (.lst (R.map oV)),t6,t7,.ls (M.map mkT),t9,t10,.un,.un,.un]) rfl (by rw[ah];omega)).trans d8))).trans rfl)).trans ?_;refine(oA (ρ':=[.im (.int c),.ls es8,.im (.lst (N.map D.str)),.im (.lst (rooms.map D.str)),.im (.lst (B.map oV)),.im (.lst (R.map oV)),t6,t7,.ls (M.map mkT),t9,t10,.im (.lst (dk.map D.str)),.im moD,.un]) rfl).trans ?_;have hRl:R.length<=900:=by have:=hR.length_eq;rw[aI]at this;omega
 refine(oA (ρ':=[.im (.int c),.ls es9,.im (.lst (N.map D.str)),.im (.lst (rooms.map D.str)),.im (.lst (B.map oV)),.im (.lst (R.map oV)),t6,t7,.ls (M.map mkT),t9,t10,.im (.lst (dk.map D.str)),.im moD,.im (.lst (T.map wdD))]) ((pf (pI ((yg (ds:=R.map oV) (ρ1:=[.im (.int c),.ls es8,.im (.lst (N.map D.str)),.im (.lst (rooms.map D.str)),.im (.lst (B.map oV)),.im (.lst (R.map oV)),t6,t7,.ls (M.map mkT),t9,t10,.im (.lst (dk.map D.str)),.im moD,.un]) rfl (by rw[ah];omega)).trans d9))).trans rfl)).trans ?_;refine pC ?_;have eN:c2 dIx (cV 2) (cC (.int 5)) [.im (.int c),.ls es9,.im (.lst (N.map D.str)),.im (.lst (rooms.map D.str)),.im (.lst (B.map oV)),.im (.lst (R.map oV)),t6,t7,.im (.lst (M.map mkT)),t9,t10,.im (.lst (dk.map D.str)),.im moD,.im (.lst (T.map wdD))]=some (.str y,[.im (.int c),.ls es9,.im (.lst (N.map D.str)),.im (.lst (rooms.map D.str)),.im (.lst (B.map oV)),.im (.lst (R.map oV)),t6,t7,.im (.lst (M.map mkT)),t9,t10,.im (.lst (dk.map D.str)),.im moD,.im (.lst (T.map wdD))]):=oT rfl rfl (u6 (j:=5) (aH h5));have eT:R.map oV=T.map λt=>oV t.rw:=by rw[<-hT,aC];rfl
 unfold ux;rw[<-eT];exact Oo (E2 rfl (E2 rfl (E2 rfl (E2 rfl (E2 eN rfl)))))
theorem Gd:∀T:List Th,vW (T.map λt=>oV t.rw) (T.map wdD)=T.map λt=>D.tup [oV t.rw,wdD t]
 |[]=>rfl
 |t::T=>by have:=Gd T;unfold vW at this ⊢;rw[av,av,dm,this];rfl
theorem u7{α:Type}(f:α->L4.D)(h:∀a,noFz (f a)=true):∀l:List α,noFzs (l.map f)=true
 |[]=>rfl
 |a::l=>by rw[av];unfold noFzs;rw[h a,u7 f h l];rfl
theorem Oq(o:Option Str):noFz (oS o)=true:=by cases o<;>rfl
theorem Os(t:Th):noFz (thD t)=true:=by have h:=u7 D.str (λ_=>rfl) t.w;unfold thD;simp only[noFz,noFzs,h,Oq,lS]
theorem LH(T:List Th)(M:List Mk)(dk:List Str)(y:Str)(V:List (Str×Int)):noFz (.obj 14 wNs (wDs T M dk y (.dic (V.map λq=>kS q.1) (V.map λq=>D.int q.2))))=true:=by
 have h1:=u7 thD Os T;have h2:=u7 mkD (λ_=>rfl) M;have h3:=u7 D.str (λ_=>rfl) dk;have h4:=u7 (λq:Str×Int=>D.int q.2) (λ_=>rfl) V;have v1:noFzs o5=true:=by kernel_rfl
 have v2:noFz vwD=true:=by kernel_rfl
 have v3:noFzs (shD y)=true:=by kernel_rfl
 have v4:noFz (rbD y)=true:=by kernel_rfl
 unfold wDs;simp only[noFz,noFzs,h1,h2,h3,h4,v1,v2,v3,v4,lS]
theorem LI(h:f (ρ.map Sl.fzL)=some (d,ρ1))(h1:ρ.all Sl.lfz=true)(h2:noFz d=true):cLndF f ρ=some (d,ρ):=by unfold cLndF;rw[aj h1,h];simp only[h2,if_true]
theorem LJ(g:Good T M dk)(hy:(T.filter λt=>decide (t.k=.you)).map Th.n=[y]){V:List (Str×Int)}(emo:qB [TD T,MD M]=some (.dic (V.map λq=>kS q.1) (V.map λq=>D.int q.2))):tq [ux T M dk y]=some (.obj 14 wNs (wDs T M dk y (.dic (V.map λq=>kS q.1) (V.map λq=>D.int q.2)))):=by
 have e:=EW (Sy dk) g y hy emo;have hl:=g.len;have hm:=g.m4;let sp:=ux T M dk y;let ρ:List Sl:=[.im sp,.ls (T.map thD),.ls (M.map mkD)];refine o8 (ρ:=ρ) rfl ?_;unfold vG;refine(oA (ρ':=[.im sp,.ls (T.map thD),.un]) ((wQ (rK (λt=>D.tup [oV t.rw,wdD t]) thD T (ρ1:=[.im sp,.un,.un]) ?_ (by omega) λt _=>⟨[.im (oV t.rw),.im (wdD t)],[.im (oV t.rw),.im (wdD t)],rfl,rfl,rfl⟩)).trans rfl)).trans ?_
 ·show some (vW (T.map λt=>oV t.rw) (T.map wdD),[Sl.im sp,.un,.un])=_;rw[Gd]
 refine(oA (ρ':=ρ) ((wQ (rK mkT mkD M (ρ1:=[.im sp,.ls (T.map thD),.un]) rfl (by omega) λm _=>⟨[.im (.str m.n),.im (.int m.st),.im (.int m.mo)],[.im (.str m.n),.im (.int m.st),.im (.int m.mo)],rfl,rfl,rfl⟩)).trans rfl)).trans ?_;exact pC (LI (ρ1:=ρ.map Sl.fzL) (Hg (g:=λds=>qt (ds++[])) (ds:=[TD T,MD M,.lst (dk.map D.str),.lst [],.lst [],.lst []]) rfl e) rfl (LH T M dk y V))
def nmK(T:List Th)(p:Kd->Bool):List Str:=(T.filter λt=>p t.k).map Th.n
theorem of_ok(hl:T.length<=900){K:L4.D}(p:Kd->Bool)(hp:∀k:Kd,dIn false (.str k.s) K=some (.bl (p k))):y9 [ux T M dk y,K]=some ((nmK T p).map D.str):=by
 let sp:=ux T M dk y;refine yV (ρ:=[.im sp,.im K]) rfl ?_;have:=t8 (k:=3) (cap:=[1]) (g:=gT (oX (gN 0) (oX (gN 1) (oX (gN 2) qZ))) 3) (ft:=cT (c2 (dIn false) (cV 1) (cV 3))) (fe:=cV 0) (s:=iL (c2 qL (cV 0) (cC (.str "rows")))) (λt:Th=>oV t.rw) (λt=>D.str t.n) (λt=>p t.k) T (ρ:=[.im sp,.im K]) (ρ1:=[.im sp,.im K]) rfl (by omega) λt _=>⟨[.im (.str t.n),.im (.str t.k.s),.im (oS t.s),.im K],[.im (.str t.n),.im (.str t.k.s),.im (oS t.s),.im K],rfl,qm (oT rfl rfl (hp t.k)),λ_=>⟨_,rfl,rfl⟩,λ_=>rfl⟩
 refine uf (this.trans ?_);unfold nmK;rw[aC];rfl
theorem UK(k:Kd):dIn false (.str k.s) (.lst [.str "box", .str "lamp"])=some (.bl k.mk):=by cases k<;>kernel_rfl
def Kd.ot:Kd->Bool
 |.plain=>true|.fixed=>true|.lamp=>true|_=>false
theorem rX(T:List Th)(p:Kd->Bool):(nmK T p).Sublist (T.map Th.n):=oo _ List.filter_sublist
abbrev dcI(V:List (Str×Int)):L4.D:=.dic (V.map λq=>kS q.1) (V.map λq=>D.int q.2)
def moL(T:List Th)(M:List Mk):List (Str×Int):=((nmK T Kd.mk).map λx=>(x,(1:Int)))++M.map λm=>(m.n,m.mo)
theorem LK(h:e ρ=some (.dic ks ds,ρ1)):iIt e ρ=some (vW (ks.map IJ) ds,ρ1):=by unfold iIt;rw[h]
abbrev atD(A:List (Str×Str)):L4.D:=.dic (A.map λq=>kS q.1) (A.map λq=>D.str q.2)
theorem SM{A:List (Str×Str)}{x:Str}(h:x∉A.map aG):kS x∉A.map λq=>kS q.1:=λz=>by obtain⟨q,hq,e⟩:=ay.mp z;exact h (ay.mpr ⟨q,hq,Lu e⟩)
abbrev dkA(A:List (Str×Str)):Sl:=.dk (A.map λq=>kS q.1) (A.map λq=>D.str q.2)
theorem LL(A:List (Str×Str))(x h:Str):Sl.dk ((A.map λq=>kS q.1)++[kS x]) ((A.map λq=>D.str q.2)++[.str h])=dkA (A++[(x,h)]):=by unfold dkA;rw[aU,aU];rfl
theorem LM(nd:(T.map Th.n).Nodup){u:Th}(ht:t∈T)(hu:u∈T)(e:t.n=u.n):t=u:=by
 induction T with
 |nil=>cases ht
 |cons a T ih=>
  rw[av,bU]at nd;rcases aJ.mp ht with h1|h1<;>rcases aJ.mp hu with h2|h2
  ·exact h1.trans h2.symm
  ·exact ao (show a.n∈T.map Th.n from h1▸e▸bS h2) nd.1
  ·exact ao (show a.n∈T.map Th.n from h2▸e▸bS h1) nd.1
  ·exact ih nd.2 h1 h2
variable{p:Kd->Bool}
theorem Hw{x:Str}(h:x∈nmK T p):∃t∈T,t.n=x/\p t.k=true:=by obtain⟨t,h1,h2⟩:=ay.mp h;obtain⟨h3,h4⟩:=bC.mp h1;exact⟨t,h3,h2,h4⟩
theorem SN{q:Kd->Bool}(h:∀k,p k=true->q k=true):(nmK T p).length<=(T.filter λt=>q t.k).length:=by unfold nmK;rw[ah,<- jo,<- jo];exact List.countP_mono_left λt _ ht=>h _ ht
structure SO(A:List (Str×Str))(y:Str):Prop where
 nd:(A.map aG).Nodup
 rk:∃rk:Str->Nat,∀q∈A,rk q.2<rk q.1/\rk q.1<40
 yo:∃r,(y,r)∈A
 ln:A.length<=20
theorem Ge{α β:Type}{f:α->β}(hf:∀a b,f a=f b->a=b){l:List α}(h:l.Nodup):(l.map f).Nodup:=oi f (λa b h e=>h (hf a b e)) h
abbrev Ky:=Str×Str
def prD(q:Ky×L4.D):L4.D:=.tup [.tup [.str q.1.1,.str q.1.2],q.2]
theorem Ot(a b c d:Str):dEq false (.tup [.str a,.str b]) (.tup [.str c,.str d])=some (.bl (decide ((a,b)=(c,d)))):=by have e0:BK false (.tup [.str a,.str b]) (.tup [.str c,.str d])=none:=rfl;have e1:Fu false (.tup [.str a,.str b]) (.tup [.str c,.str d])=some (.bl (L3.eqD (.tup [.str a,.str b]) (.tup [.str c,.str d]))):=rfl;unfold dEq;rw[e0];simp only;rw[e1];congr 2;rw[cN];simp[L3.eqD,L3.sQ]
theorem BA(p:Sl)(k:Ky):∀(S:List (Ky×L4.D)) (s:Sl),∃s',(∃d,(k,d)∈S/\forL (gN 2) (sIf (cT (c2 (dEq false) (c2 dIx (cV 2) (cC (.int 0))) (cV 1))) (pb (c2 dIx (cV 2) (cC (.int 1)))) pj) (S.map prD) [p,.im (.tup [.str k.1,.str k.2]),s]=some (.rt d [p,.im (.tup [.str k.1,.str k.2]),s']))\/
  (k∉S.map aG/\forL (gN 2) (sIf (cT (c2 (dEq false) (c2 dIx (cV 2) (cC (.int 0))) (cV 1))) (pb (c2 dIx (cV 2) (cC (.int 1)))) pj) (S.map prD) [p,.im (.tup [.str k.1,.str k.2]),s]=some (.nx [p,.im (.tup [.str k.1,.str k.2]),s']))
 |[],s=>⟨s,.inr ⟨bw,rfl⟩⟩
 |q::S,s=>by
  have ev:cT (c2 (dEq false) (c2 dIx (cV 2) (cC (.int 0))) (cV 1)) [p,.im (.tup [.str k.1,.str k.2]),.im (prD q)]=some (decide (q.1=k),[p,.im (.tup [.str k.1,.str k.2]),.im (prD q)]):=qm (oT (x:=.tup [.str q.1.1,.str q.1.2]) (y:=.tup [.str k.1,.str k.2]) rfl rfl (Ot _ _ _ _));rw[av];unfold forL;rw[show gN 2 (prD q) [p,.im (.tup [.str k.1,.str k.2]),s]=some [p,.im (.tup [.str k.1,.str k.2]),.im (prD q)] from rfl];by_cases h:q.1=k
  ·rw[bg h]at ev;refine⟨.im (prD q),.inl ⟨q.2,by rw[<-h];exact aT,?_⟩⟩;simp only[sA ev];rfl
  ·rw[aN h]at ev;obtain⟨s',h1⟩:=BA p k S (.im (prD q));simp only[pL ev];refine⟨s',?_⟩;rcases h1 with ⟨d,h1,h2⟩|⟨h1,h2⟩
   ·exact .inl ⟨d,aZ _ h1,h2⟩
   ·exact .inr ⟨λz=>by
     rw[av]at z;rcases aJ.mp z with z|z
     ·exact h z.symm
     ·exact h1 z,h2⟩
theorem yJ(S:List (Ky×L4.D))(k:Ky):(∃d,(k,d)∈S/\rB [.tup (S.map prD),.tup [.str k.1,.str k.2]]=some d)\/(k∉S.map aG/\rB [.tup (S.map prD),.tup [.str k.1,.str k.2]]=some .non):=by
 obtain⟨s',h⟩:=BA (.im (.tup (S.map prD))) k S .un;rcases h with ⟨d,h1,h2⟩|⟨h1,h2⟩
 ·refine .inl ⟨d,h1,o8 rfl (rF ((pY rfl).trans h2))⟩
 ·refine .inr ⟨h1,o8 rfl ((oA ((pY rfl).trans h2)).trans rfl)⟩
def bas(A:List (Str×Str))(V:List (Str×Int)):List (Ky×L4.D):=(A.map λq=>((("at", q.1):Ky),D.str q.2))++V.map λq=>((("mark", q.1):Ky),D.int q.2)
theorem E3:∀B:List (Ky×L4.D),v9 (B.map prD)=some (B.map λq=>[q.1.1,q.1.2])
 |[]=>rfl
 |q::B=>by rw[av];unfold v9;rw[E3 B];rfl
theorem BB{α:Type}(d:α):∀l:List α,(aX l.length).map (λi=>l.getD i d)=l:=λl=>by
 apply kJ
 ·rw[ah,dU]
 ·intro i h1 h2;rw[fi,List.getElem_range,bF,aH h2];rfl
theorem Ou(h:e ρ=some (.lst ds,ρ1))(h1:A2 ds=some es):A3 e ρ=some (es,ρ1):=by unfold A3;rw[h];simp only[h1]
structure LN(A:List (Str×Str))(V:List (Str×Int))(S:List (Ky×L4.D)):Prop where
 i:∀q∈A,((("at", q.1):Ky),D.str q.2)∈S
 o:∀x d,((("at", x):Ky),d)∈S->∃z,d=.str z/\(x,z)∈A
 mi:∀q∈V,((("mark", q.1):Ky),D.int q.2)∈S
 mo:∀x d,((("mark", x):Ky),d)∈S->∃z,d=.int z/\(x,z)∈V
inductive Ch(A:List (Str×Str)):Str->List Str->Prop
 |nil {x}:x∉A.map aG->Ch A x []
 |cons {x z l}:(x,z)∈A->Ch A z l->Ch A x (z::l)
theorem LO{A:List (Str×Str)}(a:SO A y)(x:Str):∃l,Ch A x l/\l.length<=40:=by
 obtain⟨rk,hr⟩:=a.rk;have gen:∀(n:Nat) (x:Str),(x∈A.map aG->rk x<n)->∃l,Ch A x l/\l.length<=n:=by
  intro n
  induction n with
  |zero=>intro x h;exact⟨[],.nil (λz=>ao (h z) (by omega)),by simp⟩
  |succ n ih=>
   intro x h;by_cases hx:x∈A.map aG
   ·obtain⟨q,hq,rfl⟩:=ay.mp hx;have:=h hx;obtain⟨l,h1,h2⟩:=ih q.2 λ_=>by have:=(hr q hq).1;omega
    exact⟨q.2::l,.cons hq h1,by rw[aD];omega⟩
   ·exact⟨[],.nil hx,by simp⟩
 exact gen 40 x λh=>by obtain⟨q,hq,rfl⟩:=ay.mp h;exact(hr q hq).2
theorem UL{A:List (Str×Str)}{rk:Str->Nat}(hr:∀q∈A,rk q.2<rk q.1){x:Str}{l:List Str}(c:Ch A x l):l.Nodup/\∀a∈l,rk a<rk x:=by
 induction c with
 |nil _=>exact⟨gH,λa h=>(bw h).elim⟩
 |@cons x z l h _ ih=>
  have hz:=hr _ h;refine⟨bU.mpr ⟨λw=>ao (ih.2 z w) (by omega),ih.1⟩,λa ha=>?_⟩;rcases aJ.mp ha with e|ha
  ·rw[e];exact hz
  ·have:=ih.2 a ha;have hz':rk z<rk x:=hz;omega
abbrev kL(k:Ky):List Str:=[k.1,k.2]
def kD(k:Ky):L4.D:=.tup [.str k.1,.str k.2]
def Gf(ks:List (List Str)):List (List Str):=(yp (λi j=>r6 (ks.getD i []) (ks.getD j [])) ks.length).map λi=>ks.getD i []
theorem getD_map{α β:Type}(f:α->β)(a:α)(b:β)(l:List α)(h:i<l.length):(l.map f).getD i b=f (l.getD i a):=by rw[bF,bF,aW,aH h];rfl
theorem LP(B:List (Ky×L4.D))(nd:(B.map aG).Nodup)(h0:0<B.length)(h1:B.length<64):∃S:List (Ky×L4.D),S.Perm B/\A2 (B.map prD)=some (S.map prD)/\S.map (λq=>kL q.1)=Gf (B.map λq=>kL q.1):=by
 let ks:=B.map λq=>kL q.1;have hn:ks.Nodup:=by
  have:ks=(B.map aG).map kL:=by rw[aC];rfl
  rw[this];exact Ge (λa b h=>by injection h with a1 a2;injection a2 with a2 _;exact jk a1 a2) nd
 let c:Nat->Nat->Bool:=λi j=>r6 (ks.getD i []) (ks.getD j []);refine⟨(yp c B.length).map λi=>B.getD i (("", ""),.non),?_,?_,?_⟩
 ·have:=(uQ c h0).map λi=>B.getD i (("", ""),.non);rw[BB]at this;exact this
 ·unfold A2;rw[E3];simp only[ah];rw[aj ⟨hn,h0,h1⟩,aC];congr 1;exact eP λi hi=>getD_map prD (("", ""),.non) .non B (uj c h0 i hi)
 ·unfold Gf;rw[aC,ah];exact eP λi hi=>(getD_map (λq:Ky×L4.D=>kL q.1) (("", ""),.non) [] B (uj c h0 i hi)).symm
theorem E4:∀P:List Ky,wc (P.map kD)=some (P.map kL)
 |[]=>rfl
 |q::P=>by rw[av];unfold wc;rw[E4 P];rfl
theorem LQ(P:List Ky)(h0:0<P.length)(h1:P.length<64):∃R:List Ky,vo (P.map kD)=some (R.map kD)/\R.map kL=Gf (P.map kL):=by
 let ks:=P.map kL;let c:Nat->Nat->Bool:=λi j=>r6 (ks.getD i []) (ks.getD j []);refine⟨(yp c P.length).map λi=>P.getD i ("", ""),?_,?_⟩
 ·unfold vo;rw[E4];simp only[ah];rw[aj ⟨h0,h1⟩,aC];congr 1;exact eP λi hi=>getD_map kD ("", "") .non P (uj c h0 i hi)
 ·unfold Gf;rw[aC,ah];exact eP λi hi=>(getD_map kL ("", "") [] P (uj c h0 i hi)).symm
theorem LR:∀{l m:List Ky},l.map kL=m.map kL->l=m
 |[],[],_=>rfl
 |[],_::_,h=>by cases h
 |_::_,[],h=>by cases h
 |a::l,b::m,h=>by rw[av,av]at h;injection h with h1 h2;injection h1 with a1 a2;injection a2 with a2 _;rw[LR h2,jk a1 a2]
def rM(T:List Th)(M:List Mk):List Ky:=((nmK T λk=>!decide (k=.room)).map λx=>(("at", x):Ky))++(nmK T Kd.mk++M.map Mk.n).map λx=>(("mark", x):Ky)
theorem BV(T:List Th)(M:List Mk)(hl:T.length<=200)(hM:M.length<=4):qp [TL T,ML M]=some ((nmK T Kd.mk++M.map Mk.n).map D.str):=by
 let ρ:List Sl:=[.im (TL T),.im (ML M)];have h:=eL (λt:Th=>t.k.mk) T;refine(yV (ρ:=ρ) rfl (uf (sS (pI (t8 thD (λt=>D.str t.n) (λt=>t.k.mk) T (ρ1:=ρ) rfl (by omega) λt _=>⟨[.im (thD t)],[.im (thD t)],rfl,qm (qd (xs:=[.str t.n,.tup (t.w.map D.str),.str t.k.s,oS t.s]) (ys:=[]) rfl rfl rfl rfl (DI t)),λ_=>⟨_,ph rfl (sY t),rfl⟩,λ_=>rfl⟩))
  (pI (rK mkD (λt=>D.str t.n) M rfl (by omega) λt _=>⟨_,_,rfl,ph rfl (Ah t),rfl⟩)) (by rw[ah,ah];omega)))).trans ?_
 unfold nmK;rw[aU,aC,aC];rfl
section
variable{A:List (Str×Str)}{V:List (Str×Int)}{y:Str}{T:List Th}{M:List Mk}{dk:List Str}{mo:L4.D}
abbrev wO(T:List Th)(M:List Mk)(dk:List Str)(y:Str)(mo:L4.D):L4.D:=.obj 14 wNs (wDs T M dk y mo)
theorem LS(t:Th):dEq true (.str t.k.s) (.str "room")=some (.bl (!decide (t.k=.room))):=by cases t.k<;>kernel_rfl
theorem E5(hT:T.length<=200)(hM:M.length<=4){R:List Ky}(h0:0<(rM T M).length)(h1:(rM T M).length<64)(e:vo ((rM T M).map kD)=some (R.map kD)):sG [wO T M dk y mo]=some (.lst (R.map kD)):=by
 let W:=wO T M dk y mo;let at':L4.D:=.lst ((nmK T λk=>!decide (k=.room)).map λx=>kD ("at", x));let mk':L4.D:=.lst ((nmK T Kd.mk++M.map Mk.n).map λx=>kD ("mark", x));let ρ:Sl->Sl->List Sl:=λp q=>[.im W,p,q];have hl1:(nmK T Kd.mk++M.map Mk.n).length<=1000:=by have:=(rX T Kd.mk).length_le;rw[ah]at this;rw[aI,ah];omega
 have e1:oQ 1 [] (iL (c1 (oW pQ "kept_things") (cV 0))) (gN 0) (cT (c2 (dEq true) (c1 (oW pD "kind") (cV 0)) (cC (.str "room")))) (qe (aCons (cC (.str "at")) (aCons (c1 (oW oU "name") (cV 0)) ox))) (ρ .un .un)=some ((T.filter λt=>!decide (t.k=.room)).map λt=>kD ("at", t.n),ρ .un .un):=
  t8 thD (λt=>kD ("at", t.n)) (λt=>!decide (t.k=.room)) T (ρ1:=ρ .un .un) rfl (by omega) λt _=>⟨[.im (thD t)],[.im (thD t)],rfl,qm (oT (ph rfl (wH t)) rfl (LS t)),λ_=>⟨_,rfl,rfl⟩,λ_=>rfl⟩
 have e2:oQ 1 [] (iL (cL (pP qp (aCons (c1 (oW pQ "kept_things") (cV 0)) (aCons (c1 (oW rS "kept_marks") (cV 0)) ox))))) (gN 0) pF (qe (aCons (cC (.str "mark")) (aCons (cV 0) ox))) (ρ (.im at') .un)=some ((nmK T Kd.mk++M.map Mk.n).map λx=>kD ("mark", x),ρ (.im at') .un):=
  rK D.str (λx=>kD ("mark", x)) (nmK T Kd.mk++M.map Mk.n) (ρ1:=ρ (.im at') .un) (zR (pI (oJ (oB rfl (oB rfl rfl)) (BV T M hT hM)))) hl1 λx _=>⟨[.im (.str x)],[.im (.str x)],rfl,rfl,rfl⟩
 have e3:y3 (cL (q9 (cV 1) (cV 2))) (ρ (.im at') (.im mk'))=some (R.map kD,ρ (.im at') (.im mk')):=by
  have q:cL (q9 (cV 1) (cV 2)) (ρ (.im at') (.im mk'))=some (.lst ((rM T M).map kD),ρ (.im at') (.im mk')):=by
   refine(pI (sS (xs:=(nmK T λk=>!decide (k=.room)).map λx=>kD ("at", x)) (ys:=(nmK T Kd.mk++M.map Mk.n).map λx=>kD ("mark", x)) rfl rfl ?_)).trans ?_
   ·rw[ah,ah];have:=(rX T λk=>!decide (k=.room)).length_le;rw[ah]at this;have h3:=(rX T Kd.mk).length_le;rw[ah]at h3;rw[aI,ah];omega
   ·have eq:(rM T M).map kD=((nmK T λk=>!decide (k=.room)).map λx=>kD ("at", x))++(nmK T Kd.mk++M.map Mk.n).map λx=>kD ("mark", x):=by unfold rM;generalize (nmK T Kd.mk++M.map Mk.n)=l;rw[aU,aC,aC];rfl
    rw[eq]
  unfold y3;rw[q];simp only[e]
 refine FW (ρ:=ρ (.im at') (.im mk')) rfl ?_;refine(oA (ρ':=ρ (.im at') .un) ((pf (pI e1)).trans ?_)).trans ((oA (ρ':=ρ (.im at') (.im mk')) ((pf (pI e2)).trans rfl)).trans (uf e3));show some (Out.nx [Sl.im W,.im (.lst ((T.filter λt=>!decide (t.k=.room)).map λt=>kD ("at", t.n))),.un])=some (Out.nx [Sl.im W,.im (.lst (((T.filter λt=>!decide (t.k=.room)).map Th.n).map λx=>kD ("at", x))),.un]);rw[aC];rfl
end
theorem LU:∀{l L:List Str},l.Nodup->(∀x∈l,x∈L)->l.length<=L.length
 |[],L,_,_=>bN _
 |a::l,L,nd,hs=>by rw[bU]at nd;have ha:=hs a aT;have:=LU (L:=L.erase a) nd.2 λz hz=>(List.mem_erase_of_ne (show z≠a from λw=>nd.1 (w▸hz))).mpr (hs z (aZ _ hz));rw[List.length_erase_of_mem ha]at this;have:=jF ha;rw[aD];omega
theorem Ov{A:List (Str×Str)}{x:Str}{l:List Str}(c:Ch A x l):∀a∈(x::l).dropLast,a∈A.map aG:=by
 induction c with
 |nil _=>intro a h;cases h
 |@cons x z l h c ih=>
  intro a ha;rw[List.dropLast_cons_of_ne_nil (by simp)]at ha;rcases aJ.mp ha with e|ha
  ·rw[e];exact ay.mpr ⟨_,h,rfl⟩
  ·exact ih a ha
theorem SQ{A:List (Str×Str)}{x:Str}{l:List Str}(a:SO A y)(c:Ch A x l):l.length<=A.length:=by obtain⟨rk,hr⟩:=a.rk;obtain⟨h1,h2⟩:=UL (λq hq=>(hr q hq).1) c;have nd:(x::l).Nodup:=bU.mpr ⟨λz=>ao (h2 x z) (cg _),h1⟩;have:=LU (nd.sublist (List.dropLast_sublist _)) (Ov c);rw[List.length_dropLast,aD,ah]at this;omega
section
variable{A:List (Str×Str)}{V:List (Str×Int)}{S:List (Ky×L4.D)}{y:Str}{T:List Th}{M:List Mk}{dk:List Str}{mo:L4.D}
abbrev sD(S:List (Ky×L4.D)):L4.D:=.tup (S.map prD)
theorem Ow{A:List (Str×Str)}(nd:(A.map aG).Nodup){x z z':Str}(h:(x,z)∈A)(h':(x,z')∈A):z=z':=by
 induction A with
 |nil=>cases h
 |cons a A ih=>
  rw[av,bU]at nd;rcases aJ.mp h with h1|h1<;>rcases aJ.mp h' with h2|h2
  ·rw[<-h1]at h2;exact(aL fK h2).symm
  ·exact ao (show a.1∈A.map aG from h1▸ay.mpr ⟨_,h2,rfl⟩) nd.1
  ·exact ao (show a.1∈A.map aG from h2▸ay.mpr ⟨_,h1,rfl⟩) nd.1
  ·exact ih nd.2 h1 h2
theorem DL(nd:(A.map aG).Nodup)(o:LN A V S){x z:Str}(h:(x,z)∈A):qW [sD S,.str x]=some (.str z):=by
 refine o8 (ρ:=[.im (sD S),.im (.str x)]) rfl (pC (oJ (ds:=[sD S,.tup [.str "at", .str x]]) (oB rfl (oB rfl rfl)) ?_));rcases yJ S ("at", x)with ⟨d,h1,h2⟩|⟨h1,h2⟩
 ·obtain⟨z',rfl,h3⟩:=o.o x d h1;rw[h2,Ow nd h3 h]
 ·exact ao (ay.mpr ⟨_,o.i _ h,rfl⟩) h1
theorem DM(o:LN A V S){x:Str}(h:x∉A.map aG):qW [sD S,.str x]=some .non:=by
 refine o8 (ρ:=[.im (sD S),.im (.str x)]) rfl (pC (oJ (ds:=[sD S,.tup [.str "at", .str x]]) (oB rfl (oB rfl rfl)) ?_));rcases yJ S ("at", x)with ⟨d,h1,h2⟩|⟨h1,h2⟩
 ·obtain⟨z',rfl,h3⟩:=o.o x d h1;exact ao (ay.mpr ⟨_,h3,rfl⟩) h
 ·exact h2
def Hy:FS:=(oI (sIf (cT (c2 yf (cV 2) (cC D.non))) (pb (cC (.bl true))) pj)
 (px 2 (oE qW (aCons (cV 0) (aCons (cV 2) ox)))))
theorem Ji(nd:(A.map aG).Nodup)(o:LN A V S)(nm:Sl){x:Str}{l:List Str}(c:Ch A x l):∀(rs:List L4.D) (ab:L4.D) (s3:Sl),qW [sD S,.str x]=some ab->l.length<=rs.length->∃s',forL (gN 3) Hy rs [.im (sD S),nm,.im ab,s3]=some (.rt (.bl true) [.im (sD S),nm,.im .non,s'])\/forL (gN 3) Hy rs [.im (sD S),nm,.im ab,s3]=some (.nx [.im (sD S),nm,.im .non,s']):=by
 induction c with
 |@nil x h=>
  intro rs ab s3 e _;rw[DM o h]at e;cases e;cases rs with
  |nil=>exact⟨s3,.inr rfl⟩
  |cons r rs=>exact⟨.im r,.inl rfl⟩
 |@cons x z l h c ih=>
  intro rs ab s3 e hl;rw[DL nd o h]at e;cases e;cases rs with
  |nil=>cases hl
  |cons r rs=>
   rw[aD,aD]at hl;obtain⟨ab',e'⟩:∃ab',qW [sD S,.str z]=some ab':=by
    cases c with
    |nil h=>exact⟨_,DM o h⟩
    |cons h _=>exact⟨_,DL nd o h⟩
   obtain⟨s',g⟩:=ih rs ab' (.im r) e' (by omega);refine⟨s',?_⟩;have ev:Hy [.im (sD S),nm,.im (.str z),.im r]=some (.nx [.im (sD S),nm,.im ab',.im r]):=by unfold Hy;exact(oA (ρ':=[.im (sD S),nm,.im (.str z),.im r]) rfl).trans ((pf (oJ (oB rfl (oB rfl rfl)) e')).trans rfl)
   unfold forL;rw[show gN 3 r [.im (sD S),nm,.im (.str z),s3]=some [.im (sD S),nm,.im (.str z),.im r] from rfl];simp only[ev];exact g
theorem SR{n:Nat}(h:e ρ=some (.int n,ρ1))(hn:n<=1000):∃rs:List L4.D,rs.length=n/\iR1 e ρ=some (rs,ρ1):=by
 refine⟨yc 0 n,?_,?_⟩
 ·unfold yc;simp
 ·unfold iR1;rw[h];show (if -1000000<=(n:Int)/\(n:Int)<=1000000 then some (yc 0 (n:Int).toNat,ρ1)else none)=_;rw[aj ⟨by omega,by omega⟩,dS]
theorem Ox(nd:(A.map aG).Nodup)(o:LN A V S){x:Str}{l:List Str}(c:Ch A x l)(hl:l.length<=S.length)(hS:S.length<=900):pG [sD S,.str x]=some (.bl true):=by
 obtain⟨ab,e⟩:∃ab,qW [sD S,.str x]=some ab:=by
  cases c with
  |nil h=>exact⟨_,DM o h⟩
  |cons h _=>exact⟨_,DL nd o h⟩
 let ρ:List Sl:=[.im (sD S),.im (.str x),.im ab,.un];obtain⟨rs,hr,er⟩:=SR (e:=c1 qQ (cV 0)) (ρ:=ρ) (ρ1:=ρ) (n:=S.length) (by show some (D.int ((S.map prD).length:Nat),ρ)=_;rw[ah]) (by omega);obtain⟨s',g⟩:=Ji nd o (.im (.str x)) c rs ab .un e (by omega);have e1:px 2 (oE qW (aCons (cV 0) (aCons (cV 1) ox))) [.im (sD S),.im (.str x),.un,.un]=some (.nx ρ):=(pf (oJ (oB rfl (oB rfl rfl)) e)).trans rfl;rcases g with g|g
 ·exact o8 rfl ((oA e1).trans (rF ((pY er).trans g)))
 ·exact o8 rfl ((oA e1).trans ((oA ((pY er).trans g)).trans rfl))
theorem LV(a b:L4.D):tW [.tup [a,b]]=some (.bl true):=rfl
theorem Hz(a:Str):ql [.str a,.str a]=some (.bl true):=by refine o8 (ρ:=[.im (.str a),.im (.str a)]) rfl (pC ((qA (ρ1:=[.im (.str a),.im (.str a)]) rfl).trans (oT (x:=.str a) (y:=.str a) rfl rfl ?_)));rw[wX];simp
theorem Oy(k:Ky):u0 [.tup [.str k.1,.str k.2],kD k]=some (.bl true):=by let ρ:List Sl:=[.im (.tup [.str k.1,.str k.2]),.im (kD k)];have e1:oE tW (aCons (cV 0) ox) ρ=some (.bl true,ρ):=oJ (oB rfl rfl) (LV _ _);have e2:oE ql (aCons (c2 dIx (cV 0) (cC (.int 0))) (aCons (c2 dIx (cV 1) (cC (.int 0))) ox)) ρ=some (.bl true,ρ):=oJ (ds:=[.str k.1,.str k.1]) (oB rfl (oB rfl rfl)) (Hz _);have e3:oE ql (aCons (c2 dIx (cV 0) (cC (.int 1))) (aCons (c2 dIx (cV 1) (cC (.int 1))) ox)) ρ=some (.bl true,ρ):=oJ (ds:=[.str k.2,.str k.2]) (oB rfl (oB rfl rfl)) (Hz _);exact o8 (ρ:=ρ) rfl (pC ((qA e1).trans ((qA e2).trans e3)))
theorem SU:zM [wO T M dk y mo]=some (.str y):=rfl
theorem E6(nd:(T.map Th.n).Nodup)(ht:t∈T):uZ [wO T M dk y mo,.str t.n]=some (thD t):=by refine o8 (ρ:=[.im (wO T M dk y mo),.im (.str t.n)]) rfl (pC (oT (x:=.dic (nK T) (T.map thD)) (y:=.str t.n) rfl rfl ?_));show some ((rb (nK T) (T.map thD) (kS t.n)).getD .non)=_;rw[uR (Hn nd) (d:=thD t) (by unfold nK;rw[fA];exact ay.mpr ⟨t,ht,rfl⟩)];rfl
theorem Oz(t:Th):dEq false (.str t.k.s) (.str "room")=some (.bl (decide (t.k=.room))):=by cases t.k<;>kernel_rfl
theorem Jj(nd:(T.map Th.n).Nodup)(ht:t∈T){x:Str}(h1:x=y->t.k=.room)(h2:t.k.hd=true):wD [wO T M dk y mo,.str x,.str t.n]=some (.bl true):=by
 let W:=wO T M dk y mo;let ρ:List Sl:=[.im W,.im (.str x),.im (.str t.n),.im (thD t)];have e1:px 3 (cIf (cT (c1 (p6 (pK "str")) (cV 2))) (pE pV "thing_of" (cV 0) (aCons (cV 2) ox)) (cC D.non)) [.im W,.im (.str x),.im (.str t.n),.un]=some (.nx ρ):=by
  have q:cIf (cT (c1 (p6 (pK "str")) (cV 2))) (pE pV "thing_of" (cV 0) (aCons (cV 2) ox)) (cC D.non) [.im W,.im (.str x),.im (.str t.n),.un]=some (thD t,[.im W,.im (.str x),.im (.str t.n),.un]):=by unfold cIf;show pE pV "thing_of" (cV 0) (aCons (cV 2) ox) [.im W,.im (.str x),.im (.str t.n),.un]=_;exact qd (m:="thing_of") (ns:=wNs) (xs:=wDs T M dk y mo) (ys:=[.str t.n]) rfl rfl rfl rfl (E6 nd ht)
  exact(pf q).trans rfl
 have e2:cT (c2 (dEq false) (cV 1) (pE xa "you" (cV 0) ox)) ρ=some (decide (x=y),ρ):=qm (oT (x:=.str x) (y:=.str y) rfl (qd (m:="you") (ns:=wNs) (xs:=wDs T M dk y mo) (ys:=[]) rfl rfl rfl rfl SU) (wX false x y));by_cases e:x=y
 ·rw[bg e]at e2;refine o8 (ρ:=ρ) rfl ((oA e1).trans ((oA (ρ':=ρ) rfl).trans (rF ((sA e2).trans (pC (oT (ph rfl (wH t)) rfl ?_))))));rw[Oz,bg (h1 e)]
 ·rw[aN e]at e2;refine o8 (ρ:=ρ) rfl ((oA e1).trans ((oA (ρ':=ρ) rfl).trans ((oA ((pL e2).trans rfl)).trans (pC (qd (m:="can_hold") (ns:=["name", "words", "kind", "start"]) (xs:=[.str t.n,.tup (t.w.map D.str),.str t.k.s,oS t.s]) (ys:=[]) rfl rfl rfl rfl ?_)))));rw[<-h2];exact Hm t
end
variable{m:Int}
section
variable{A:List (Str×Str)}{V:List (Str×Int)}{S:List (Ky×L4.D)}{y:Str}{T:List Th}{M:List Mk}{dk:List Str}
theorem E7(g:Good T M dk):qB [TD T,MD M]=some (dcI (moL T M)):=by
 have hl:=g.len;have hm:=g.m4;have nd:(nmK T Kd.mk++M.map Mk.n).Nodup:=g.nd.sublist ((rX T _).append (gn _));have ndk:(((nmK T Kd.mk).map kS)++M.map λm=>kS m.n).Nodup:=by have:=rG nd;rw[aU,aC]at this;exact this
 have hln:(nmK T Kd.mk).length<=200:=by have:=(rX T Kd.mk).length_le;rw[ah]at this;omega
 have g1:∀(l:List Th) (ks:List Key) (ds:List L4.D) (s:Sl),(ks++(nmK l Kd.mk).map kS).Nodup->ks.length+l.length<=900->ds.length=ks.length->∃s',forL (gN 3) (sIf (cT (pE qg "has_mark" (cV 3) ox)) (qo 2 (c1 (oW oU "name") (cV 3)) (cC (.int 1))) pj) (l.map thD) [.im (TD T),.im (MD M),.dk ks ds,s,.un]=some (.nx [.im (TD T),.im (MD M),.dk (ks++(nmK l Kd.mk).map kS) (ds++(nmK l Kd.mk).map λ_=>D.int 1),s',.un]):=by
  intro l
  induction l with
  |nil=>exact λks ds s _ _ _=>⟨s,by unfold nmK;simp;rfl⟩
  |cons t l ih=>
   intro ks ds s nd hk he;rw[aD]at hk;have em:cT (pE qg "has_mark" (cV 3) ox) [.im (TD T),.im (MD M),.dk ks ds,.im (thD t),.un]=some (t.k.mk,[.im (TD T),.im (MD M),.dk ks ds,.im (thD t),.un]):=qm (qd (xs:=[.str t.n,.tup (t.w.map D.str),.str t.k.s,oS t.s]) (ys:=[]) rfl rfl rfl rfl (DI t));cases q:t.k.mk with
   |true=>
    rw[q]at em;have e0:nmK (t::l) Kd.mk=t.n::nmK l Kd.mk:=by unfold nmK;rw[bZ,q,aj rfl,av]
    rw[e0,av]at nd;rw[e0,av,av];have hn:kS t.n∉ks:=λz=>by rw[bG]at nd;exact nd.2.2 _ z _ aT rfl
    obtain⟨s',h⟩:=ih (ks++[kS t.n]) (ds++[.int 1]) (.im (thD t)) (by rw[bp];exact nd) (by rw[aI,bB];omega) (by rw[aI,aI,he,bB,bB]);refine⟨s',?_⟩;rw[av];unfold forL;rw[show gN 3 (thD t) [.im (TD T),.im (MD M),.dk ks ds,s,.un]=some [.im (TD T),.im (MD M),.dk ks ds,.im (thD t),.un] from rfl];have ev:=(sA (f:=qo 2 (c1 (oW oU "name") (cV 3)) (cC (.int 1))) (g:=pj) em).trans (Bs (i:=2) (fk:=c1 (oW oU "name") (cV 3)) (fv:=cC (.int 1)) (ρ:=[.im (TD T),.im (MD M),.dk ks ds,.im (thD t),.un]) (x:=t.n) (d:=.int 1) rfl rfl (ph rfl (sY t)) hn (by omega) he);simp only[ev];refine h.trans ?_;rw[bp,bp];rfl
   |false=>
    rw[q]at em;have e0:nmK (t::l) Kd.mk=nmK l Kd.mk:=by unfold nmK;rw[bZ,q,ai (by decide)]
    rw[e0]at nd ⊢;obtain⟨s',h⟩:=ih ks ds (.im (thD t)) nd (by omega) he;refine⟨s',?_⟩;rw[av];unfold forL;rw[show gN 3 (thD t) [.im (TD T),.im (MD M),.dk ks ds,s,.un]=some [.im (TD T),.im (MD M),.dk ks ds,.im (thD t),.un] from rfl];have ev:=(pL (f:=qo 2 (c1 (oW oU "name") (cV 3)) (cC (.int 1))) (g:=pj) em);simp only[ev];exact h
 obtain⟨s1,e1⟩:=g1 T [] [] .un (by rw[ba];exact(bG.mp ndk).1) (by simp;omega) rfl;rw[ba,ba]at e1;obtain⟨s2,e2⟩:=sy (g:=gN 4) (i:=2) (fk:=c1 (oW oU "name") (cV 4)) (fv:=c1 (oW tJ "most") (cV 4)) mkD Mk.n (λm=>D.int m.mo) (λks ds s=>[.im (TD T),.im (MD M),.dk ks ds,s1,s])
  (λm ks ds s=>⟨[.im (TD T),.im (MD M),.dk ks ds,s1,.im (mkD m)],rfl,ph rfl (Of m),rfl,ph rfl (Ah m),λks' ds'=>⟨_,rfl⟩⟩) M ((nmK T Kd.mk).map kS) ((nmK T Kd.mk).map λ_=>D.int 1) .un ndk (by rw[ah];omega) (by rw[ah,ah])
 refine o8 (ρ:=[.im (TD T),.im (MD M),.im (dcI (moL T M)),s1,s2]) rfl ?_;unfold sV;refine(oA (ρ':=[.im (TD T),.im (MD M),.dk [] [],.un,.un]) rfl).trans ?_;refine(oA ((pY rfl).trans e1)).trans ((oA ((pY rfl).trans e2)).trans ?_);have q1:(moL T M).map (λq=>kS q.1)=(nmK T Kd.mk).map kS++M.map λm=>kS m.n:=by simp only[moL,aU,aC];rfl
 have q2:(moL T M).map (λq=>D.int q.2)=((nmK T Kd.mk).map λ_=>D.int 1)++M.map λm=>D.int m.mo:=by simp only[moL,aU,aC];rfl
 unfold dcI;rw[q1,q2];rfl
theorem OA:(moL T M).map aG=nmK T Kd.mk++M.map Mk.n:=by simp only[moL,aU,aC];rw[show (aG∘λx:Str=>(x,(1:Int)))=id from rfl,eC];rfl
abbrev wM(T:List Th)(M:List Mk)(dk:List Str)(y:Str):L4.D:=wO T M dk y (dcI (moL T M))
theorem SV{V:List (Str×Int)}(nv:(V.map aG).Nodup){x:Str}{z:Int}(h:(x,z)∈V):rb (V.map λq=>kS q.1) (V.map λq=>D.int q.2) (kS x)=some (.int z):=
 uR (by have:=rG nv;rw[aC]at this;exact this) (by rw[fA];exact ay.mpr ⟨_,h,rfl⟩)
theorem OB(nd:(nmK T Kd.mk++M.map Mk.n).Nodup){x:Str}(h:(x,m)∈moL T M):vS [wM T M dk y,.str x]=some (.int m):=by refine o8 (ρ:=[.im (wM T M dk y),.im (.str x)]) rfl (pC (oT (x:=dcI (moL T M)) (y:=.str x) rfl rfl ?_));show some ((rb _ _ (kS x)).getD .non)=_;rw[SV (by rw[OA];exact nd) h];rfl
theorem SW(nd:(T.map Th.n).Nodup)(ht:t∈T){x:Str}(h1:x=y->t.k=.room)(h2:t.k.hd=true):qa [wM T M dk y,kD ("at", x),.str t.n]=some (.bl true):=by let ρ:List Sl:=[.im (wM T M dk y),.im (kD ("at", x)),.im (.str t.n)];have e1:cT (c2 (dEq false) (c2 dIx (cV 1) (cC (.int 0))) (cC (.str "mark"))) ρ=some (false,ρ):=qm (oT (x:=.str "at") (y:=.str "mark") rfl rfl (by kernel_rfl));exact o8 (ρ:=ρ) rfl ((oA ((pL e1).trans rfl)).trans (pC (oJ (ds:=[wM T M dk y,.str x,.str t.n]) (oB rfl (oB rfl (oB rfl rfl))) (Jj nd ht h1 h2))))
theorem LW{g g':L4.D->L4.D->Option L4.D}{fa fb fc:FE}{ρ3:List Sl}{x y z w:L4.D}(h1:fa ρ=some (x,ρ1))(h2:fb ρ1=some (y,ρ2))(q1:g x y=some (.bl true))(h3:fc ρ2=some (z,ρ3))(q2:g' y z=some w):qI g g' fa fb fc ρ=some (w,ρ3):=by unfold qI;rw[h1];simp only[h2,q1,h3,q2]
theorem LX(nd:(nmK T Kd.mk++M.map Mk.n).Nodup){x:Str}{v:Int}(h:(x,m)∈moL T M)(h0:0<=v)(h1:v<=m):qa [wM T M dk y,kD ("mark", x),.int v]=some (.bl true):=by
 let ρ:List Sl:=[.im (wM T M dk y),.im (kD ("mark", x)),.im (.int v)];have e1:cT (c2 (dEq false) (c2 dIx (cV 1) (cC (.int 0))) (cC (.str "mark"))) ρ=some (true,ρ):=qm (oT (x:=.str "mark") (y:=.str "mark") rfl rfl (by kernel_rfl));have e2:oE tN (aCons (cV 2) ox) ρ=some (.bl true,ρ):=oJ (ds:=[.int v]) (oB rfl rfl) rfl;have e3:pE sF "most_of" (cV 0) (aCons (c2 dIx (cV 1) (cC (.int 1))) ox) ρ=some (.int m,ρ):=qd (m:="most_of") (ns:=wNs) (xs:=wDs T M dk y (dcI (moL T M))) (ys:=[.str x]) rfl rfl rfl rfl (OB nd h);refine o8 (ρ:=ρ) rfl (rF ((sA e1).trans (pC ((qA e2).trans ?_))));have q1:sR (.int 0) (.int v)=some (.bl true):=by show some (D.bl (decide ((0:Int)<=v)))=_;rw[bg h0]
 have q2:sR (.int v) (.int m)=some (.bl true):=by show some (D.bl (decide (v<=m)))=_;rw[bg h1]
 exact LW (ρ1:=ρ) (ρ2:=ρ) rfl rfl q1 e3 q2
end
section
variable{A:List (Str×Str)}{V:List (Str×Int)}{S:List (Ky×L4.D)}{y:Str}{T:List Th}{M:List Mk}{dk:List Str}
theorem SX{a:FA}(h:a ρ=some ([.tup ds,.lst es],ρ1))(hl:ds.length<=es.length):iZT a ρ=some (vW ds es,ρ1):=by unfold iZT;rw[h];simp only[hl,if_true]
theorem LY:∀S:List (Ky×L4.D),vW (S.map prD) (S.map λq=>kD q.1)=S.map λq=>D.tup [prD q,kD q.1]
 |[]=>rfl
 |q::S=>by have:=LY S;unfold vW at this ⊢;rw[av,av,dm,this];rfl
def LZ:FS:=(sIf (uz (qc (cT (oE tW (aCons (cV 3) ox)))) (uz (qc (cT (oE u0 (aCons (c2 dIx (cV 3) (cC (.int 0))) (aCons (cV 4) ox))))) (qc (cT (oE qa (aCons (cV 0) (aCons (cV 4) (aCons (c2 dIx (cV 3) (cC (.int 1))) ox)))))))) (pb (cC (.bl false))) pj)
theorem BC(W pt:L4.D):∀(l:List (Ky×L4.D)) (s3 s4:Sl),(∀q∈l,qa [W,kD q.1,q.2]=some (.bl true))->∃s3' s4',forL (gT (oX (gN 3) (oX (gN 4) qZ)) 2) LZ (l.map λq=>D.tup [prD q,kD q.1]) [.im W,.im (sD S),.im pt,s3,s4]=some (.nx [.im W,.im (sD S),.im pt,s3',s4'])
 |[],s3,s4,_=>⟨s3,s4,rfl⟩
 |q::l,s3,s4,h=>by
  obtain⟨s3',s4',g⟩:=BC W pt l (.im (prD q)) (.im (kD q.1)) λz hz=>h z (aZ _ hz);refine⟨s3',s4',?_⟩;let ρ:List Sl:=[.im W,.im (sD S),.im pt,.im (prD q),.im (kD q.1)];have e1:qc (cT (oE tW (aCons (cV 3) ox))) ρ=some (false,ρ):=vg (qm (oJ (ds:=[prD q]) (oB rfl rfl) (LV _ _)));have e2:qc (cT (oE u0 (aCons (c2 dIx (cV 3) (cC (.int 0))) (aCons (cV 4) ox)))) ρ=some (false,ρ):=vg (qm (oJ (ds:=[.tup [.str q.1.1,.str q.1.2],kD q.1]) (oB rfl (oB rfl rfl)) (Oy q.1)));have e3:qc (cT (oE qa (aCons (cV 0) (aCons (cV 4) (aCons (c2 dIx (cV 3) (cC (.int 1))) ox))))) ρ=some (false,ρ):=vg (qm (oJ (ds:=[W,kD q.1,q.2]) (oB rfl (oB rfl (oB rfl rfl))) (h q aT)));have ev:LZ ρ=some (.nx ρ):=by unfold LZ;exact(pL (xI e1 (xI e2 e3))).trans rfl
  rw[av];unfold forL;rw[show gT (oX (gN 3) (oX (gN 4) qZ)) 2 (D.tup [prD q,kD q.1]) [.im W,.im (sD S),.im pt,s3,s4]=some ρ from rfl];simp only[ev];exact g
theorem Jk(hT:T.length<=200):xu [wO T M dk y mo]=some (.lst (T.map λt=>D.str t.n)):=by let ρ:List Sl:=[.im (wO T M dk y mo)];exact FW (ρ:=ρ) rfl (uf (rK thD (λt=>D.str t.n) T (ρ1:=ρ) rfl (by omega) λt _=>⟨[.im (thD t)],[.im (thD t)],rfl,ph rfl (sY t),rfl⟩))
theorem Gg(hT:T.length<=200)(cr:Str->Bool)(hp:sG [wM T M dk y]=some (.lst (S.map λq=>kD q.1)))(hv:∀q∈S,qa [wM T M dk y,kD q.1,q.2]=some (.bl true))(hc:∀t∈T,pG [sD S,.str t.n]=some (.bl (cr t.n))):vB [wM T M dk y,sD S]=some (.bl (T.all λt=>cr t.n)):=by
 let W:=wM T M dk y;let pt:L4.D:=.lst (S.map λq=>kD q.1);let ρ:Sl->Sl->List Sl:=λa b=>[.im W,.im (sD S),.im pt,a,b];obtain⟨s3,s4,g⟩:=BC (S:=S) W pt S .un .un hv;have e1:px 2 (pE rH "parts" (cV 0) ox) [.im W,.im (sD S),.un,.un,.un]=some (.nx (ρ .un .un)):=(pf (qd (m:="parts") (ns:=wNs) (xs:=wDs T M dk y (dcI (moL T M))) (ys:=[]) rfl rfl rfl rfl hp)).trans rfl;have e2:uz (qc (cT (c1 (p6 (pK "tuple")) (cV 1)))) (cT (c2 (dEq true) (c1 qQ (cV 1)) (c1 qQ (cV 2)))) (ρ .un .un)=some (false,ρ .un .un):=by refine xI (ρ1:=ρ .un .un) rfl (qm (oT (x:=.int (S.map prD).length) (y:=.int (S.map λq=>kD q.1).length) rfl rfl ?_));rw[ah,ah,wY];simp
 have e3:iZT (aCons (cV 1) (aCons (cV 2) ox)) (ρ .un .un)=some (S.map λq=>D.tup [prD q,kD q.1],ρ .un .un):=by rw[<-LY];exact SX rfl (by rw[ah,ah];exact aA _)
 have e4:oQ 1 [1] (iL (pE ur "names" (cV 0) ox)) (gN 0) pF (oE pG (aCons (cV 1) (aCons (cV 0) ox))) (ρ s3 s4)=some (T.map λt=>D.bl (cr t.n),ρ s3 s4):=
  rK (λt:Th=>D.str t.n) (λt=>D.bl (cr t.n)) T (ρ1:=ρ s3 s4) (zR (qd (m:="names") (ns:=wNs) (xs:=wDs T M dk y (dcI (moL T M))) (ys:=[]) rfl rfl rfl rfl (Jk hT))) (by omega) λt ht=>⟨[.im (.str t.n),.im (sD S)],[.im (.str t.n),.im (sD S)],rfl,oJ (oB rfl (oB rfl rfl)) (hc t ht),rfl⟩
 refine o8 (ρ:=ρ s3 s4) rfl ((oA e1).trans ((oA ((pL e2).trans rfl)).trans ((oA ((pY e3).trans g)).trans (pC (ph (pI e4) (DC T λt=>cr t.n))))))
end
section
variable{A:List (Str×Str)}{V:List (Str×Int)}{S:List (Ky×L4.D)}{y:Str}{T:List Th}{M:List Mk}{dk:List Str}{R:List Ky}
abbrev nrm(T:List Th):List Str:=nmK T λk=>!decide (k=.room)
abbrev mks(T:List Th)(M:List Mk):List Str:=nmK T Kd.mk++M.map Mk.n
abbrev rms(T:List Th):List Str:=nmK T λk=>decide (k=.room)
structure Ok(T:List Th)(M:List Mk)(y:Str)(A:List (Str×Str))(V:List (Str×Int)):Prop where
 a:SO A y
 kA:A.map aG=nrm T
 hH:∀q∈A,q.2∈nmK T Kd.hd
 hY:∀r,(y,r)∈A->r∈rms T
 vn:V.map aG=mks T M
 vb:∀p∈V,∃q∈moL T M,p.1=q.1/\0<=p.2/\p.2<=q.2
theorem HA(ka:A.map aG=nrm T)(vn:V.map aG=mks T M):(bas A V).map aG=rM T M:=by unfold bas rM;rw[aU,aC,aC,show (nmK T λk=>!decide (k=.room))=_ from ka.symm,show nmK T Kd.mk++M.map Mk.n=_ from vn.symm,aC,aC];rfl
theorem ndM(g:Good T M dk):(mks T M).Nodup:=g.nd.sublist ((rX T _).append (gn _))
theorem ndP(g:Good T M dk):(rM T M).Nodup:=by unfold rM;rw[bG];refine⟨Ge (λa b h=>aL fK h) (g.ndT.sublist (rX T _)),Ge (λa b h=>aL fK h) (ndM g),λx hx z hz e=>?_⟩;obtain⟨_,_,rfl⟩:=ay.mp hx;obtain⟨_,_,rfl⟩:=ay.mp hz;exact ao (aL aG e) (by decide:¬(("at" : Str)="mark"))
theorem DN(g:Good T M dk):(nrm T).length<=8:=by
 have h:∀l:List Th,(l.filter λt=>!decide (t.k=.room)).length=(l.filter λt=>decide (t.k=.you)).length+(l.filter λt=>t.k.pl).length:=by
  intro l
  induction l with
  |nil=>rfl
  |cons t l ih=>rw[bZ,bZ,bZ];cases h:t.k<;>simp[Kd.pl,ih]<;>omega
 unfold nrm nmK;rw[ah,h,g.y1];have:=g.p7;omega
theorem HB(g:Good T M dk):(mks T M).length<=11:=by
 unfold mks;rw[aI,ah];have h2:=SN (T:=T) (p:=Kd.mk) (q:=Kd.pl) λk h=>by cases k<;>first|rfl|cases h
 have h3:=g.p7;have h4:=g.m4;omega
theorem Ai(g:Good T M dk):0<(rM T M).length/\(rM T M).length<=19:=by
 have h1:=DN g;have h2:=HB g;unfold rM;rw[aI,ah,ah];have:0<(nrm T).length:=by
  have:=g.y1;have h:(T.filter λt=>decide (t.k=.you))≠[]:=λz=>by rw[z]at this;cases this
  obtain⟨t,ht⟩:=List.exists_mem_of_ne_nil _ h;rw[bC]at ht;refine jF (a:=t.n) (ay.mpr ⟨t,bC.mpr ⟨ht.1,?_⟩,rfl⟩);rw[bP ht.2];rfl
 exact⟨by unfold nrm at this;omega,by unfold nrm at h1;unfold mks at h2;omega⟩
theorem OC{l m:List Ky}(h:(l.map kL).Perm (m.map kL)):l.Perm m:=by
 have inv:∀l:List Ky,(l.map kL).map (λz=>((z.getD 0 "", z.getD 1 ""):Ky))=l:=λl=>by
  rw[aC];have:((λz:List Str=>((z.getD 0 "", z.getD 1 ""):Ky))∘kL)=id:=by funext q;rfl
  rw[this,eC]
 have:=h.map (λz=>((z.getD 0 "", z.getD 1 ""):Ky));rw[inv,inv]at this;exact this
theorem OD(g:Good T M dk):∃R:List Ky,R.Perm (rM T M)/\vo ((rM T M).map kD)=some (R.map kD)/\R.map kL=Gf ((rM T M).map kL):=by obtain⟨h0,h1⟩:=Ai g;obtain⟨R,er,eR⟩:=LQ (rM T M) h0 (by omega);refine⟨R,OC ?_,er,eR⟩;rw[eR];unfold Gf;have p:=(uQ (λi j=>r6 (((rM T M).map kL).getD i []) (((rM T M).map kL).getD j [])) (n:=((rM T M).map kL).length) (by rw[ah];exact h0)).map λi=>((rM T M).map kL).getD i [];rw[BB]at p;exact p
structure Std(T:List Th)(M:List Mk)(R:List Ky)(y:Str)(A:List (Str×Str))(V:List (Str×Int))(S:List (Ky×L4.D)):Prop where
 ok:Ok T M y A V
 p:S.Perm (bas A V)
 e:S.map aG=R
theorem Std.o(s:Std T M R y A V S):LN A V S:=by
 have p:=s.p;refine⟨λq hq=>p.mem_iff.mpr (bJ _ (ay.mpr ⟨q,hq,rfl⟩)),λx d h=>?_,λq hq=>p.mem_iff.mpr (bA _ (ay.mpr ⟨q,hq,rfl⟩)),λx d h=>?_⟩
 ·rcases bT.mp (p.mem_iff.mp h)with h|h
  ·obtain⟨q,hq,e⟩:=ay.mp h;cases e;exact⟨_,rfl,hq⟩
  ·obtain⟨q,hq,e⟩:=ay.mp h;exact ao (aL (λz=>z.1.1) e) (by decide:¬(("mark" : Str)="at"))
 ·rcases bT.mp (p.mem_iff.mp h)with h|h
  ·obtain⟨q,hq,e⟩:=ay.mp h;exact ao (aL (λz=>z.1.1) e) (by decide:¬(("at" : Str)="mark"))
  ·obtain⟨q,hq,e⟩:=ay.mp h;cases e;exact⟨_,rfl,hq⟩
theorem Std.len(g:Good T M dk)(s:Std T M R y A V S):S.length=A.length+V.length/\A.length<=8/\V.length<=11:=by have h1:=aL bH s.ok.kA;have h2:=aL bH s.ok.vn;rw[ah]at h1 h2;have h3:=DN g;have h4:=HB g;refine⟨?_,by omega,by omega⟩;rw[s.p.length_eq];unfold bas;rw[aI,ah,ah]
theorem Std.is(g:Good T M dk)(eR:vo ((rM T M).map kD)=some (R.map kD))(s:Std T M R y A V S):vB [wM T M dk y,sD S]=some (.bl true):=by
 obtain⟨l1,l2,l3⟩:=s.len g;obtain⟨h0,h1⟩:=Ai g;have hp:sG [wM T M dk y]=some (.lst (S.map λq=>kD q.1)):=by have:=E5 (y:=y) (dk:=dk) (mo:=dcI (moL T M)) g.len g.m4 h0 (by omega) eR;rw[<-s.e,aC]at this;exact this
 have hv:∀q∈S,qa [wM T M dk y,kD q.1,q.2]=some (.bl true):=λq hq=>by
  rcases bT.mp (s.p.mem_iff.mp hq)with h|h
  ·obtain⟨b,hb,rfl⟩:=ay.mp h;obtain⟨t,t1,t2,t3⟩:=Hw (s.ok.hH b hb);show qa [wM T M dk y,kD ("at", b.1),.str b.2]=_;rw[<-t2];refine SW g.ndT t1 (λe=>?_) t3;have:=s.ok.hY b.2 (by rw[<-e];exact hb);obtain⟨u,u1,u2,u3⟩:=Hw this;have:=LM g.ndT u1 t1 (u2.trans t2.symm);subst this;exact bP u3
  ·obtain⟨b,hb,rfl⟩:=ay.mp h;obtain⟨m,m1,m2,m3,m4⟩:=s.ok.vb b hb;exact LX (ndM g) (m:=m.2) (by rw[m2];exact m1) m3 m4
 have z:=Gg g.len (λ_=>true) hp hv λt ht=>by obtain⟨l,hc,_⟩:=LO s.ok.a t.n;exact Ox s.ok.a.nd s.o hc (by have:=SQ s.ok.a hc;omega) (by omega)
 rw[show (T.all λt=>(λ_:Str=>true) t.n)=true by simp]at z;exact z
theorem keys_eq{S S':List (Ky×L4.D)}(p:S.Perm S')(e:S.map aG=S'.map aG)(nd:(S'.map aG).Nodup):S=S':=by
 have un:∀{k d d'},(k,d)∈S'->(k,d')∈S'->d=d':=λ{k d d'} h h'=>by obtain⟨i,hi,ei⟩:=eO h;obtain⟨j,hj,ej⟩:=eO h';have:i=j:=(gq (xs:=S'.map aG) (h₀:=by simpa using hi) (h₁:=by simpa using hj) nd).mp (by rw[fi,fi,ei,ej]);subst this;rw[ei]at ej;exact aL fK ej
 apply kJ p.length_eq;intro i h1 h2;have hk:S[i].1=S'[i].1:=by have:=List.getElem_of_eq e (i:=i) (by simpa using h1);rw[fi,fi]at this;exact this
 refine jk hk (un (k:=S[i].1) (p.mem_iff.mp (c5 h1)) ?_);rw[hk];exact c5 h2
end
def Flt(S:List (Ky×L4.D)):Prop:=∀q∈S,(∃z,q.2=.str z)\/∃n,q.2=.int n
theorem L0:∀{S:List (Ky×L4.D)},Flt S->∃l,yT (S.map prD)=some l/\pT l<=2
 |[],_=>⟨[],rfl,by unfold pT;omega⟩
 |q::S,h=>by
  obtain⟨l,e,hd⟩:=L0 (S:=S) λq hq=>h q (aZ _ hq);have:∃x,toD (prD q)=some x/\dpt x<=2:=by
   obtain⟨⟨a,b⟩,d⟩:=q;rcases h _ aT with ⟨z,rfl⟩|⟨n,rfl⟩
   ·exact⟨.tup [.tup [.str a,.str b],.str z],rfl,by simp[dpt,pT]⟩
   ·exact⟨.tup [.tup [.str a,.str b],.int n],rfl,by simp[dpt,pT]⟩
  obtain⟨x,e1,h1⟩:=this;refine⟨x::l,by rw[av];unfold yT;rw[e1];simp only[e],by rw[pT];omega⟩
theorem L1{S:List (Ky×L4.D)}(f:Flt S):dEq true (sD S) (sD S)=some (.bl false):=by
 obtain⟨l,e,hd⟩:=L0 f;have e0:BK true (sD S) (sD S)=none:=rfl;have e1:toD (sD S)=some (.tup l):=by unfold sD toD;rw[e]
 have e2:dpt (.tup l)=pT l+1:=by rw[dpt]
 unfold dEq;rw[e0];simp only;unfold Fu;rw[e1];simp only;rw[show GE (.tup l) (.tup l)=true from rfl,D9,e2,bg (by omega:pT l+1<=20)];rfl
section
variable{A:List (Str×Str)}{V:List (Str×Int)}{S:List (Ky×L4.D)}{y:Str}{T:List Th}{M:List Mk}{dk:List Str}{R:List Ky}
theorem Std.flt(s:Std T M R y A V S):Flt S:=λq hq=>by
 rcases bT.mp (s.p.mem_iff.mp hq)with h|h
 ·obtain⟨b,_,rfl⟩:=ay.mp h;exact .inl ⟨_,rfl⟩
 ·obtain⟨b,_,rfl⟩:=ay.mp h;exact .inr ⟨_,rfl⟩
theorem Std.nd(g:Good T M dk)(pR:R.Perm (rM T M))(s:Std T M R y A V S):(S.map aG).Nodup:=by rw[s.e];exact pR.nodup_iff.mpr (ndP g)
end
section
variable{A B:List (Str×Str)}{V:List (Str×Int)}{S:List (Ky×L4.D)}{y:Str}{T:List Th}{M:List Mk}{dk:List Str}{R:List Ky}
def stM(M:List Mk):List (Str×Int):=M.map λm=>(m.n,m.st)
def A0(T:List Th):List (Str×Str):=(T.filter λt=>!decide (t.k=.room)).map λt=>(t.n,t.s.getD "")
def V0(T:List Th)(M:List Mk):List (Str×Int):=((nmK T Kd.mk).map λx=>(x,(0:Int)))++stM M
theorem DO:uv [wM T M dk y]=some (ML M):=rfl
theorem Jl(g:Good T M dk):vA [wM T M dk y]=some (dcI (stM M)):=by
 let W:=wM T M dk y;have nd:((M.map λm=>kS m.n)).Nodup:=by have:=rG (bG.mp g.nd).2.1;rw[aC]at this;exact this
 have hm:=g.m4;obtain⟨s',e⟩:=sy (g:=gN 2) (i:=1) (fk:=c1 (oW oU "name") (cV 2)) (fv:=c1 (oW pJ "start") (cV 2)) mkD Mk.n (λm=>D.int m.st) (λks ds s=>[.im W,.dk ks ds,s])
  (λm ks ds s=>⟨[.im W,.dk ks ds,.im (mkD m)],rfl,rfl,rfl,rfl,λks' ds'=>⟨_,rfl⟩⟩) M [] [] .un (by rw[ba];exact nd) (by simp;omega) rfl
 rw[ba,ba]at e;refine o8 (ρ:=[.im W,.im (dcI (stM M)),s']) rfl ?_;refine(oA (ρ':=[.im W,.dk [] [],.un]) rfl).trans ?_;refine(oA ((pY (ds:=M.map mkD) (ρ1:=[.im W,.dk [] [],.un]) ?_).trans e)).trans ?_
 ·exact zR (qd (m:="own_marks") (ns:=wNs) (xs:=wDs T M dk y (dcI (moL T M))) (ys:=[]) rfl rfl rfl rfl DO)
 ·unfold stM dcI;rw[aC,aC];rfl
theorem L6(g:Good T M dk)(ht:t∈T)(st:L4.D):qG [wM T M dk y,st,kD ("at", t.n)]=some (oS t.s):=by let ρ:List Sl:=[.im (wM T M dk y),.im st,.im (kD ("at", t.n))];refine o8 (ρ:=ρ) rfl (rF ((sA (ρ':=ρ) (qm (oT (x:=.str "at") (y:=.str "at") rfl rfl (by rw[wX];rfl)))).trans (pC (ph (qd (m:="thing_of") (ns:=wNs) (xs:=wDs T M dk y (dcI (moL T M))) (ys:=[.str t.n]) rfl rfl rfl rfl (E6 g.ndT ht)) (Ag t)))))
theorem Gh(x:Str)(U:List (Str×Int)):qG [wM T M dk y,dcI U,kD ("mark", x)]=some ((rb (U.map λq=>kS q.1) (U.map λq=>D.int q.2) (kS x)).getD (.int 0)):=by let ρ:List Sl:=[.im (wM T M dk y),.im (dcI U),.im (kD ("mark", x))];refine o8 (ρ:=ρ) rfl ((oA (ρ':=ρ) ((pL (ρ':=ρ) (qm (oT (x:=.str "mark") (y:=.str "at") rfl rfl (by rw[wX];rfl)))).trans rfl)).trans rfl)
theorem xV:(A0 T).map aG=nrm T:=by unfold A0 nrm nmK;rw[aC];rfl
theorem L7:(V0 T M).map aG=mks T M:=by unfold V0 stM mks;rw[aU,aC,aC];rw[show (aG∘λx:Str=>(x,(0:Int)))=id from rfl,eC];rfl
theorem len_T(g:Good T M dk):T.length<=13:=by
 have h:∀l:List Th,l.length=(l.filter λt=>decide (t.k=.room)).length+(l.filter λt=>decide (t.k=.you)).length+(l.filter λt=>t.k.pl).length:=by
  intro l
  induction l with
  |nil=>rfl
  |cons t l ih=>rw[bZ,bZ,bZ,aD,ih];cases h:t.k<;>simp[Kd.pl]<;>omega
 rw[h];have h1:=g.r5;have h2:=g.y1;have h3:=g.p7;omega
theorem DP{q:Str×Str}(g:Good T M dk)(h:q∈A0 T):∃t∈T,t.n=q.1/\t.s=some q.2/\t.k≠.room/\uw T t:=by
 obtain⟨t,ht,rfl⟩:=ay.mp h;rw[bC]at ht;have nr:t.k≠.room:=λz=>by rw[z]at ht;exact ao ht.2 (by decide)
 have so:=g.st t ht.1;refine⟨t,ht.1,rfl,?_,nr,so⟩;have so':=so;unfold uw at so';cases e:t.s with
 |some p=>rfl
 |none=>rw[e]at so';cases k:t.k<;>rw[k]at so' nr<;>first|exact ao rfl nr|exact so'.elim
theorem ok0(g:Good T M dk)(hy:(T.filter λt=>decide (t.k=.you)).map Th.n=[y]):Ok T M y (A0 T) (V0 T M):=by
 obtain⟨r,hr⟩:=g.rk;have lT:=len_T g;have hyT:∀t∈T,t.n=y->t.k=.you:=λt ht e=>by
  have:y∈(T.filter λt=>decide (t.k=.you)).map Th.n:=by rw[hy];exact bj.mpr rfl
  obtain⟨u,hu,e2⟩:=ay.mp this;rw[bC]at hu;rw[LM g.ndT ht hu.1 (e.trans e2.symm)];exact bP hu.2
 refine⟨⟨by rw[xV];exact g.ndT.sublist (rX T _),⟨r,λq hq=>?_⟩,?_,?_⟩,xV,λq hq=>?_,λz hz=>?_,L7,λp hp=>?_⟩
 ·obtain⟨t,h1,h2,h3,_⟩:=DP g hq;obtain⟨h4,h5⟩:=hr t h1;rw[<-h2];exact⟨(h5 _ h3).1,by omega⟩
 ·have:y∈(A0 T).map aG:=by
   rw[xV];have:y∈(T.filter λt=>decide (t.k=.you)).map Th.n:=by rw[hy];exact bj.mpr rfl
   obtain⟨u,hu,e2⟩:=ay.mp this;rw[bC]at hu;exact ay.mpr ⟨u,bC.mpr ⟨hu.1,by rw[bP hu.2];rfl⟩,e2⟩
  obtain⟨q,hq,e⟩:=ay.mp this;exact⟨q.2,by rw[<-e];exact hq⟩
 ·have:=aL bH (xV (T:=T));rw[ah]at this;have:=DN g;omega
 ·obtain⟨t,h1,h2,h3,h4,h5⟩:=DP g hq;unfold uw at h5;rw[h3]at h5;have rh:q.2∈rmN T->q.2∈nmK T Kd.hd:=λh=>by obtain⟨u,hu,e⟩:=ay.mp h;rw[bC]at hu;exact ay.mpr ⟨u,bC.mpr ⟨hu.1,by rw[bP hu.2];rfl⟩,e⟩
  cases k:t.k<;>rw[k]at h5 h4<;>first|exact ao rfl h4|exact rh h5|exact h5
 ·obtain⟨t,h1,h2,h3,h4,h5⟩:=DP g hz;have k:=hyT t h1 h2;unfold uw at h5;rw[h3,k]at h5;exact h5
 ·unfold V0 at hp;rcases bT.mp hp with h|h
  ·obtain⟨x,hx,rfl⟩:=ay.mp h;exact⟨(x,1),bJ _ (ay.mpr ⟨x,hx,rfl⟩),rfl,mf _,(by decide:(0:Int)<=1)⟩
  ·obtain⟨m,hm,rfl⟩:=ay.mp h;have:=g.mo m hm;exact⟨(m.n,m.mo),bA _ (ay.mpr ⟨m,hm,rfl⟩),rfl,this.2.2.1,this.2.2.2⟩
def fvL(l:List (Ky×L4.D))(k:Ky):L4.D:=((l.find? λq=>decide (q.1=k)).map fK).getD .non
theorem yK:∀{l:List (Ky×L4.D)},(l.map aG).Nodup->∀{k d},(k,d)∈l->fvL l k=d
 |q::l,nd,k,d,h=>by
  rw[av,bU]at nd;unfold fvL;rw[cO];rcases aJ.mp h with e|h
  ·subst e;rw[bg rfl];rfl
  ·rw[aN (λz=>nd.1 (by rw[z];exact ay.mpr ⟨_,h,rfl⟩))];exact yK nd.2 h
theorem L8(g:Good T M dk)(hy:(T.filter λt=>decide (t.k=.you)).map Th.n=[y])(pR:R.Perm (rM T M))(eR:vo ((rM T M).map kD)=some (R.map kD)):∃S,uI [wM T M dk y]=some (sD S)/\Std T M R y (A0 T) (V0 T M) S:=by
 let b:=bas (A0 T) (V0 T M);have bf:b.map aG=rM T M:=HA xV L7;have nb:(b.map aG).Nodup:=by rw[bf];exact ndP g
 let S:List (Ky×L4.D):=R.map λk=>(k,fvL b k);have eb:(rM T M).map (λk=>(k,fvL b k))=b:=by rw[<-bf,aC];refine(eP λq hq=>?_).trans (eC b);show (q.1,fvL b q.1)=q;rw[yK nb (show (q.1,q.2)∈b from hq)]
 refine⟨S,?_,⟨ok0 g hy,by have h:=pR.map (λk=>(k,fvL b k));rw[eb]at h;exact h,by show (R.map _).map _=R;rw[aC];exact eC R⟩⟩;let W:=wM T M dk y;let st:=dcI (stM M);obtain⟨h0,h1⟩:=Ai g;have lR:=pR.length_eq;have val:∀k∈R,qG [W,st,kD k]=some (fvL b k):=λk hk=>by
  have hk':=pR.mem_iff.mp hk;rcases bT.mp hk' with h|h
  ·obtain⟨x,hx,rfl⟩:=ay.mp h;have hxa:x∈(A0 T).map aG:=by rw[xV];exact hx
   obtain⟨q,hq,rfl⟩:=ay.mp hxa;obtain⟨t,t1,t2,t3,_⟩:=DP g hq;rw[yK nb (bJ _ (ay.mpr ⟨q,hq,rfl⟩)),<- t2,L6 g t1,t3];rfl
  ·obtain⟨x,hx,rfl⟩:=ay.mp h;rw[Gh];have ndm:((stM M).map λq=>kS q.1).Nodup:=by have:=rG (bG.mp g.nd).2.1;unfold stM;rw[aC]at this ⊢;exact this
   rcases bT.mp hx with hx|hx
   ·rw[yK nb (bA _ (ay.mpr ⟨(x,0),bJ _ (ay.mpr ⟨x,hx,rfl⟩),rfl⟩)),yZ ?_]
    ·rfl
    ·intro z;obtain⟨q,hq,e⟩:=ay.mp z;obtain⟨m,hm,rfl⟩:=ay.mp hq;have e':m.n=x:=gS e;exact(bG.mp g.nd).2.2 _ ((rX T _).mem hx) _ (ay.mpr ⟨m,hm,rfl⟩) e'.symm
   ·obtain⟨m,hm,rfl⟩:=ay.mp hx;rw[yK nb (bA _ (ay.mpr ⟨(m.n,m.st),bA _ (ay.mpr ⟨m,hm,rfl⟩),rfl⟩)),uR ndm (by rw[fA];exact ay.mpr ⟨(m.n,m.st),ay.mpr ⟨m,hm,rfl⟩,rfl⟩)];rfl
 let ρ:List Sl:=[.im W,.im st];refine o8 (ρ:=ρ) rfl ((oA (ρ':=ρ) ((pf (oJ (oB rfl rfl) (Jl g))).trans rfl)).trans (pC ?_));have c:=rK (k:=1) (cap:=[0,1]) (g:=gN 0) (fe:=qe (aCons (cV 0) (aCons (oE qG (aCons (cV 1) (aCons (cV 2) (aCons (cV 0) ox)))) ox))) (s:=iL (pE rH "parts" (cV 0) ox)) (ρ:=ρ) (ρ1:=ρ) kD (λk=>prD (k,fvL b k)) R
  (zR (qd (m:="parts") (ns:=wNs) (xs:=wDs T M dk y (dcI (moL T M))) (ys:=[]) rfl rfl rfl rfl (E5 g.len g.m4 h0 (by omega) eR))) (by omega) λk hk=>⟨[.im (kD k),.im W,.im st],[.im (kD k),.im W,.im st],rfl,Dp (oB rfl (oB (oJ (oB rfl (oB rfl (oB rfl rfl))) (val k hk)) rfl)) (show 2<=1000 by decide),rfl⟩
 unfold AJ;rw[pI c];show some (D.tup (R.map λk=>prD (k,fvL b k)),ρ)=some (D.tup ((R.map λk=>(k,fvL b k)).map prD),ρ);rw[aC];rfl
end
section
variable{A:List (Str×Str)}{V:List (Str×Int)}{S:List (Ky×L4.D)}{y:Str}{T:List Th}{M:List Mk}{dk:List Str}{R:List Ky}
theorem UM(g:Good T M dk)(ht:t∈T)(nr:t.k≠.room):t.s=some (t.s.getD ""):=by
 have so:=g.st t ht;unfold uw at so;cases e:t.s with
 |some p=>rfl
 |none=>rw[e]at so;cases k:t.k<;>rw[k]at so nr<;>first|exact ao rfl nr|exact so.elim
def dTg:FG:=gT (oX (gN 2) (oX (gN 3) (oX (gN 4) qZ))) 3
def dBd:FS:=sIf (cT (c2 (dEq true) (cV 3) (cC (.str "room")))) (qo 1 (cV 2) (cV 4)) pj
theorem OE(t:Th)(l:List Th):A0 (t::l)=(if t.k=.room then []else [(t.n,t.s.getD "")])++A0 l:=by
 unfold A0;rw[bZ];by_cases h:t.k=.room
 ·rw[bg h,aj h,ai (by decide)];rfl
 ·rw[aN h,ai h];rfl
theorem BD(sp:Sl):∀(l:List Th) (B:List (Str×Str)) (s2 s3 s4:Sl),(∀t∈l,t.k≠.room->t.s=some (t.s.getD ""))->(B.map aG++(A0 l).map aG).Nodup->B.length+l.length<=900->
  ∃t2 t3 t4,forL dTg dBd (l.map λt=>oV t.rw) [sp,dkA B,s2,s3,s4,.un,.un]=some (.nx [sp,dkA (B++A0 l),t2,t3,t4,.un,.un])
 |[],B,s2,s3,s4,_,_,_=>⟨s2,s3,s4,by show some (Out.nx [sp,dkA B,s2,s3,s4,.un,.un])=some (Out.nx [sp,dkA (B++[]),s2,s3,s4,.un,.un]);rw[br]⟩
 |t::l,B,s2,s3,s4,hs,nd,hl=>by
  rw[aD]at hl;have hs':∀t∈l,t.k≠.room->t.s=some (t.s.getD ""):=λu hu=>hs u (aZ _ hu);rw[OE]at nd ⊢;let ρ:List Sl:=[sp,dkA B,.im (.str t.n),.im (.str t.k.s),.im (oS t.s),.un,.un];have g1:dTg (oV t.rw) [sp,dkA B,s2,s3,s4,.un,.un]=some ρ:=rfl;have ev:cT (c2 (dEq true) (cV 3) (cC (.str "room"))) ρ=some (!decide (t.k=.room),ρ):=qm (oT rfl rfl (LS t));rw[av];unfold forL;rw[g1];by_cases h:t.k=.room
  ·rw[aj h,ba]at nd ⊢;rw[bg h]at ev;obtain⟨t2,t3,t4,e⟩:=BD sp l B (.im (.str t.n)) (.im (.str t.k.s)) (.im (oS t.s)) hs' nd (by omega);have ev':dBd ρ=some (.nx ρ):=(pL ev).trans rfl;simp only[ev'];exact⟨t2,t3,t4,e⟩
  ·rw[ai h]at nd ⊢;rw[aN h]at ev;have hz:oS t.s=.str (t.s.getD ""):=by rw[hs t aT h];rfl
   have hn:t.n∉B.map aG:=λz=>(bG.mp nd).2.2 _ z _ aT rfl;obtain⟨t2,t3,t4,e⟩:=BD sp l (B++[(t.n,t.s.getD "")]) (.im (.str t.n)) (.im (.str t.k.s)) (.im (oS t.s)) hs' (by rw[aU,bp];rw[aU]at nd;exact nd) (by rw[aI,bB];omega);have ev':dBd ρ=some (.nx [sp,dkA (B++[(t.n,t.s.getD "")]),.im (.str t.n),.im (.str t.k.s),.im (oS t.s),.un,.un]):=by refine(sA ev).trans ?_;refine(Bs (i:=1) (fk:=cV 2) (fv:=cV 4) (ρ:=ρ) (x:=t.n) (d:=.str (t.s.getD "")) (aL (λd=>some (d,ρ)) hz) rfl rfl (SM hn) (by rw[ah];omega) (by rw[ah,ah])).trans ?_;show some (Out.nx [sp,Sl.dk ((B.map λq=>kS q.1)++[kS t.n]) ((B.map λq=>D.str q.2)++[.str (t.s.getD "")]),_,_,_,_,_])=_;rw[LL]
   simp only[ev'];refine⟨t2,t3,t4,e.trans ?_⟩;rw[bp]
theorem SY(g:Good T M dk):vH [ux T M dk y]=some (((A0 T).map λq=>kS q.1,(A0 T).map λq=>D.str q.2),((V0 T M).map λq=>kS q.1,(V0 T M).map λq=>D.int q.2)):=by
 let sp:=ux T M dk y;have hl:=g.len;have hm:=g.m4;have nm:=ndM g;have hln:(nmK T Kd.mk).length<=200:=by have:=(rX T Kd.mk).length_le;rw[ah]at this;omega
 obtain⟨t2,t3,t4,e1⟩:=BD (.im sp) T [] .un .un .un (λt ht=>UM g ht) (by rw[bV,ba,xV];exact g.ndT.sublist (rX T _)) (by simp;omega);rw[ba]at e1;have ndk:(((nmK T Kd.mk).map kS)++M.map λm=>kS m.n).Nodup:=by have:=rG nm;rw[aU,aC]at this;exact this
 obtain⟨s2,e2⟩:=sy (g:=gN 2) (i:=5) (fk:=cV 2) (fv:=cC (.int 0)) D.str (λx:Str=>x) (λ_=>D.int 0) (λks ds (s:Sl)=>[.im sp,dkA (A0 T),s,t3,t4,.dk ks ds,.un])
  (λx ks ds s=>⟨[.im sp,dkA (A0 T),.im (.str x),t3,t4,.dk ks ds,.un],rfl,rfl,rfl,rfl,λks' ds'=>⟨_,rfl⟩⟩) (nmK T Kd.mk) [] [] t2 (by rw[ba];exact(bG.mp ndk).1) (by simp;omega) rfl
 rw[ba,ba]at e2;obtain⟨s3,e3⟩:=sy (g:=gT (oX (gN 2) (oX (gN 4) (oX (gN 6) qZ))) 3) (i:=5) (fk:=cV 2) (fv:=cV 4) mkT Mk.n (λm=>D.int m.st) (λks ds (s:Sl×Sl×Sl)=>[.im sp,dkA (A0 T),s.1,t3,s.2.1,.dk ks ds,s.2.2])
  (λm ks ds s=>⟨[.im sp,dkA (A0 T),.im (.str m.n),t3,.im (.int m.st),.dk ks ds,.im (.int m.mo)],rfl,rfl,rfl,rfl,λks' ds'=>⟨(_,_,_),rfl⟩⟩) M ((nmK T Kd.mk).map kS) ((nmK T Kd.mk).map λ_=>D.int 0) (s2,t4,.un) ndk (by rw[ah];omega) (by rw[ah,ah])
 have q1:(V0 T M).map (λq=>kS q.1)=(nmK T Kd.mk).map kS++M.map λm=>kS m.n:=by simp only[V0,stM,aU,aC];rfl
 have q2:(V0 T M).map (λq=>D.int q.2)=((nmK T Kd.mk).map λ_=>D.int 0)++M.map λm=>D.int m.st:=by simp only[V0,stM,aU,aC];rfl
 have e:tZ (stE 7 [sp])=some (.nx [.im sp,dkA (A0 T),s3.1,t3,s3.2.1,.dk ((nmK T Kd.mk).map kS++M.map λm=>kS m.n) (((nmK T Kd.mk).map λ_=>D.int 0)++M.map λm=>D.int m.st),s3.2.2]):=by unfold tZ;refine(oA (ρ':=[.im sp,.dk [] [],.un,.un,.un,.un,.un]) rfl).trans ?_;refine(oA ((pY rfl).trans e1)).trans ?_;refine(oA (ρ':=[.im sp,dkA (A0 T),t2,t3,t4,.dk [] [],.un]) rfl).trans ?_;refine(oA ((pY (ds:=(nmK T Kd.mk).map D.str) (ρ1:=[.im sp,dkA (A0 T),t2,t3,t4,.dk [] [],.un]) (zR (pI (oJ (ds:=[sp,.lst [.str "box", .str "lamp"]]) rfl (of_ok (by omega) Kd.mk UK))))).trans e2)).trans ?_;exact(oA ((pY (ds:=M.map mkT) (ρ1:=[.im sp,dkA (A0 T),s2,t3,t4,.dk ((nmK T Kd.mk).map λx=>kS x) ((nmK T Kd.mk).map λ_=>D.int 0),.un]) rfl).trans e3)).trans rfl
 unfold vH fnP;rw[aj (show [ux T M dk y].length=1 from rfl),q1,q2,show tZ (stE 7 [ux T M dk y])=_ from e];rfl
end
section
variable{A:List (Str×Str)}{V:List (Str×Int)}{S:List (Ky×L4.D)}{y:Str}{T:List Th}{M:List Mk}{dk:List Str}{R:List Ky}
theorem OF{f:List L4.D->Option Dk2}{a:FA}{d1 d2:List L4.D}{k1 k2:List Key}(h1:a ρ=some (ds,ρ1))(h2:f ds=some ((k1,d1),(k2,d2))):Cv i j f a ρ=some (.nx ((ρ1.set i (.dk k1 d1)).set j (.dk k2 d2))):=by unfold Cv;rw[h1];simp only[h2]
theorem Gi{β:Type}(f:β->L4.D):∀V:List (Str×β),vW ((V.map λq=>kS q.1).map IJ) (V.map λq=>f q.2)=V.map λq=>D.tup [.str q.1,f q.2]
 |[]=>rfl
 |q::V=>by have:=Gi f V;unfold vW at this ⊢;rw[av,av,av,dm,this];rfl
theorem Std.srt(g:Good T M dk)(pR:R.Perm (rM T M))(eR:R.map kL=Gf ((rM T M).map kL))(s:Std T M R y A V S):A2 ((bas A V).map prD)=some (S.map prD):=by
 have bf:(bas A V).map aG=rM T M:=HA s.ok.kA s.ok.vn;have nb:((bas A V).map aG).Nodup:=by rw[bf];exact ndP g
 obtain⟨l1,l2,l3⟩:=s.len g;have l0:0<(bas A V).length:=by have:=aL bH bf;rw[ah]at this;have:=(Ai g).1;omega
 obtain⟨S2,p2,e2,k2⟩:=LP (bas A V) nb l0 (by rw[<-s.p.length_eq];omega);have e:S2.map aG=S.map aG:=by apply LR;rw[s.e,eR,<- bf,aC,aC];exact k2
 rw[keys_eq (p2.trans s.p.symm) e (s.nd g pR)]at e2;exact e2
theorem get_none{β:Type}(f:β->L4.D){V:List (Str×β)}{x:Str}(h:x∉V.map aG):uO (.dic (V.map λq=>kS q.1) (V.map λq=>f q.2)) (.str x)=some .non:=by show some ((rb _ _ (kS x)).getD .non)=_;rw[yZ λz=>h (by obtain⟨q,hq,e⟩:=ay.mp z;exact ay.mpr ⟨q,hq,Lu e⟩)];rfl
theorem get_some{β:Type}(f:β->L4.D){V:List (Str×β)}(nd:(V.map aG).Nodup){x:Str}{z:β}(h:(x,z)∈V):uO (.dic (V.map λq=>kS q.1) (V.map λq=>f q.2)) (.str x)=some (f z):=by show some ((rb _ _ (kS x)).getD .non)=_;rw[uR (by have:=rG nd;rw[aC]at this;exact this) (by rw[fA];exact ay.mpr ⟨_,h,rfl⟩)];rfl
theorem HC(S:List (Ky×L4.D)){x:Str}(h:rB [sD S,kD ("at", x)]=some d):qW [sD S,.str x]=some d:=o8 (ρ:=[.im (sD S),.im (.str x)]) rfl (pC (oJ (ds:=[sD S,.tup [.str "at", .str x]]) (oB rfl (oB rfl rfl)) h))
theorem CQ(S:List (Ky×L4.D)){x:Str}(h:rB [sD S,kD ("mark", x)]=some d):rJ [sD S,.str x]=some d:=o8 (ρ:=[.im (sD S),.im (.str x)]) rfl (pC (oJ (ds:=[sD S,.tup [.str "mark", .str x]]) (oB rfl (oB rfl rfl)) h))
theorem OG(g:Good T M dk)(s:Std T M R y A V S)(x:Str):∃d,qW [sD S,.str x]=some d/\uO (atD A) (.str x)=some d/\dEq true d d=some (.bl false):=by
 rcases yJ S ("at", x)with ⟨d,h,e⟩|⟨h,e⟩
 ·obtain⟨z,rfl,hz⟩:=s.o.o _ _ h;exact⟨_,HC S e,get_some D.str s.ok.a.nd hz,by rw[wX];simp⟩
 ·exact⟨_,HC S e,get_none D.str λz=>h (by obtain⟨q,hq,e⟩:=ay.mp z;subst e;exact ay.mpr ⟨_,s.o.i q hq,rfl⟩),rfl⟩
theorem Jm(g:Good T M dk)(s:Std T M R y A V S)(x:Str):∃d,rJ [sD S,.str x]=some d/\uO (dcI V) (.str x)=some d/\dEq true d d=some (.bl false)/\p6 (pK "bool") d=some (.bl false):=by
 rcases yJ S ("mark", x)with ⟨d,h,e⟩|⟨h,e⟩
 ·obtain⟨z,rfl,hz⟩:=s.o.mo _ _ h;exact⟨_,CQ S e,get_some D.int (by rw[s.ok.vn];exact ndM g) hz,by rw[wY];simp,rfl⟩
 ·exact⟨_,CQ S e,get_none D.int λz=>h (by obtain⟨q,hq,e⟩:=ay.mp z;subst e;exact ay.mpr ⟨_,s.o.mi q hq,rfl⟩),rfl,rfl⟩
def rBd:FS:=(sIf (uz (cT (c2 (dEq true) (oE rJ (aCons (cV 4) (aCons (cV 7) ox))) (c2 uO (cV 3) (cV 7)))) (cT (c1 (p6 (pK "bool")) (oE rJ (aCons (cV 4) (aCons (cV 7) ox)))))) (pb (cC (.bl false))) pj)
theorem none_of{α:Type}{k:Nat}{cap:List Nat}{g:FG}{ft:FT}{fe:FE}{s:FA}(dd:α->L4.D)(l:List α)(hs:s ρ=some (l.map dd,ρ1))(hl:l.length<=1000)
  (st:∀a∈l,∃ρ2 ρ3,g (dd a) (xb k cap ρ1)=some ρ2/\ft ρ2=some (false,ρ3)/\q8 cap (ρ3.drop k) ρ1=some ρ1):oQ k cap s g ft fe ρ=some ([],ρ1):=by
 have h:=t8 (k:=k) (cap:=cap) (g:=g) (ft:=ft) (fe:=fe) dd (λ_=>D.non) (λ_=>false) l hs hl λa ha=>by obtain⟨r2,r3,h1,h2,h3⟩:=st a ha;exact⟨r2,r3,h1,h2,λz=>ao z aP,λ_=>h3⟩
 rw[h];simp
theorem E8(g:Good T M dk)(hy:(T.filter λt=>decide (t.k=.you)).map Th.n=[y]):qX [wM T M dk y,ux T M dk y]=some (.bl true):=by
 obtain⟨R,pR,eR,oR⟩:=OD g;obtain⟨S,ef,s⟩:=L8 g hy pR eR;obtain⟨l1,l2,l3⟩:=s.len g;have hl:=g.len;have hm:=g.m4;let A:=A0 T;let V:=V0 T M;have lA:A.length<=8:=l2;have lV:V.length<=11:=l3;let W:=wM T M dk y;let sp:=ux T M dk y;let N:List Str:=T.map Th.n;have hN:N.length<=200:=by show (T.map Th.n).length<=200;rw[ah];exact hl
 let ρ:Sl->Sl->Sl->Sl->List Sl:=λa b c d=>[.im W,.im sp,a,b,.im (sD S),c,d,.un];let at':=A.map λq=>prD ((("at", q.1):Ky),D.str q.2);let mk':=V.map λq=>prD ((("mark", q.1):Ky),D.int q.2);have cA:oQ 2 [] (iIt (cFz 2)) (gT (oX (gN 0) (oX (gN 1) qZ)) 2) pF (qe (aCons (qe (aCons (cC (.str "at")) (aCons (cV 0) ox))) (aCons (cV 1) ox))) (ρ (dkA A) (.dk (V.map λq=>kS q.1) (V.map λq=>D.int q.2)) .un .un)=some (at',ρ (.im (atD A)) (.dk (V.map λq=>kS q.1) (V.map λq=>D.int q.2)) .un .un):=
  rK (λq:Str×Str=>D.tup [.str q.1,.str q.2]) (λq=>prD ((("at", q.1):Ky),D.str q.2)) A ((LK (ρ1:=ρ (.im (atD A)) (.dk (V.map λq=>kS q.1) (V.map λq=>D.int q.2)) .un .un) rfl).trans (by rw[Gi D.str])) (by omega) λq _=>⟨[.im (.str q.1),.im (.str q.2)],[.im (.str q.1),.im (.str q.2)],rfl,rfl,rfl⟩
 have cMk:oQ 2 [] (iIt (cFz 3)) (gT (oX (gN 0) (oX (gN 1) qZ)) 2) pF (qe (aCons (qe (aCons (cC (.str "mark")) (aCons (cV 0) ox))) (aCons (cV 1) ox))) (ρ (.im (atD A)) (.dk (V.map λq=>kS q.1) (V.map λq=>D.int q.2)) (.im (.lst at')) .un)=some (mk',ρ (.im (atD A)) (.im (dcI V)) (.im (.lst at')) .un):=
  rK (λq:Str×Int=>D.tup [.str q.1,.int q.2]) (λq=>prD ((("mark", q.1):Ky),D.int q.2)) V ((LK (ρ1:=ρ (.im (atD A)) (.im (dcI V)) (.im (.lst at')) .un) rfl).trans (by rw[Gi D.int])) (by omega) λq _=>⟨[.im (.str q.1),.im (.int q.2)],[.im (.str q.1),.im (.int q.2)],rfl,rfl,rfl⟩
 have eb:at'++mk'=(bas A V).map prD:=by unfold bas;rw[aU,aC,aC];rfl
 let ρ1:=ρ (.im (atD A)) (.im (dcI V)) (.im (.lst ((bas A V).map prD))) .un;let ρ2:Sl->List Sl:=λq=>[.im W,.im sp,.im (atD A),.im (dcI V),.im (sD S),.im (.lst ((bas A V).map prD)),.im (.lst (N.map D.str)),q];have loop:∀(l:List Str) (q:Sl),∃q',forL (gN 7) rBd (l.map D.str) (ρ2 q)=some (.nx (ρ2 q')):=by
  intro l
  induction l with
  |nil=>exact λq=>⟨q,rfl⟩
  |cons x l ih=>intro q;obtain⟨q',h⟩:=ih (.im (.str x));refine⟨q',?_⟩;obtain⟨d,d1,d2,d3,d4⟩:=Jm g s x;have cm:oE rJ (aCons (cV 4) (aCons (cV 7) ox)) (ρ2 (.im (.str x)))=some (d,ρ2 (.im (.str x))):=oJ (oB rfl (oB rfl rfl)) d1;have ev:rBd (ρ2 (.im (.str x)))=some (.nx (ρ2 (.im (.str x)))):=(pL (xI (qm (oT cm (oT (x:=dcI V) (y:=.str x) rfl rfl d2) d3)) (qm (ph cm d4)))).trans rfl;rw[av];unfold forL;rw[show gN 7 (.str x) (ρ2 q)=some (ρ2 (.im (.str x))) from rfl];simp only[ev];exact h
 obtain⟨q',el⟩:=loop (N++M.map Mk.n) .un;refine o8 (ρ:=ρ2 q') rfl ?_;unfold vJ;refine(oA (ρ':=[.im W,.im sp,dkA A,.dk (V.map λq=>kS q.1) (V.map λq=>D.int q.2),.un,.un,.un,.un]) ((OF (oB rfl rfl) (SY g)).trans rfl)).trans ?_;refine(oA (ρ':=ρ (dkA A) (.dk (V.map λq=>kS q.1) (V.map λq=>D.int q.2)) .un .un) ((pf (oJ (oB rfl rfl) ef)).trans rfl)).trans ?_;refine(oA (ρ':=ρ (.im (atD A)) (.dk (V.map λq=>kS q.1) (V.map λq=>D.int q.2)) (.im (.lst at')) .un) ((pf (pI cA)).trans rfl)).trans ?_;refine(oA (ρ':=ρ1) ((pf (pI (sS (xs:=at') (ys:=mk') rfl (pI cMk) (by simp only[at',mk',ah];omega)))).trans (by rw[eb];rfl))).trans ?_;refine(oA (ρ':=ρ1) ((pL (ρ':=ρ1) (xI (ρ1:=ρ1) (vg (b:=true) (qm rfl)) (xI (ρ1:=ρ1) (qm (oT (x:=sD S) (y:=sD S) (ρ1:=ρ1) rfl ?_ (L1 s.flt))) (qm (oT (x:=.bl true) (y:=.bl true) (ρ1:=ρ1) (oJ (oB rfl (oB rfl rfl)) (s.is g eR)) rfl rfl))))).trans rfl)).trans ?_
 ·unfold AJ;rw[pI (Ou (ds:=(bas A V).map prD) (ρ1:=ρ1) rfl (s.srt g pR oR))]
 refine(oA (ρ':=ρ1) ((pL (ρ':=ρ1) (qm (oT (x:=.lst []) (y:=.lst []) (ρ1:=ρ1) (pI (none_of prD S rfl (by omega) λq _=>⟨[.im (prD q)],[.im (prD q)],rfl,rfl,rfl⟩)) rfl rfl))).trans rfl)).trans ?_;refine(oA (ρ':=ρ2 .un) ((pf (pI (rK (λt:Th=>oV t.rw) (λt=>D.str t.n) T (ρ1:=ρ1) rfl (by omega) λt _=>⟨[.im (oV t.rw)],[.im (oV t.rw)],rfl,rfl,rfl⟩))).trans (by show some (Out.nx [.im W,.im sp,.im (atD A),.im (dcI V),.im (sD S),.im (.lst ((bas A V).map prD)),.im (.lst (T.map λt=>D.str t.n)),.un])=some (Out.nx [.im W,.im sp,.im (atD A),.im (dcI V),.im (sD S),.im (.lst ((bas A V).map prD)),.im (.lst ((T.map Th.n).map D.str)),.un]);rw[aC];rfl))).trans ?_;refine(oA (ρ':=ρ2 .un) ((pL (ρ':=ρ2 .un) (qm (oT (x:=.lst []) (y:=.lst []) (ρ1:=ρ2 .un) (pI (none_of D.str N rfl (by omega) λx _=>?_)) rfl rfl))).trans rfl)).trans ?_
 ·obtain⟨d,d1,d2,d3⟩:=OG g s x;exact⟨[.im (.str x),.im (sD S),.im (atD A)],[.im (.str x),.im (sD S),.im (atD A)],rfl,qm (oT (oJ (oB rfl (oB rfl rfl)) d1) (oT (x:=atD A) (y:=.str x) rfl rfl d2) d3),rfl⟩
 refine(oA ((pY (ds:=(N++M.map Mk.n).map D.str) (ρ1:=ρ2 .un) ?_).trans el)).trans rfl;refine zR ((pI (sS (xs:=N.map D.str) (ys:=M.map λm=>D.str m.n) rfl (pI (rK mkT (λm=>D.str m.n) M rfl (by omega) λm _=>⟨[.im (mkT m)],[.im (mkT m)],rfl,rfl,rfl⟩)) (by simp only[ah];omega))).trans ?_);rw[aU,aC (f:=Mk.n)];rfl
end
theorem OH(ns:List Int)(k:Nat):∃c,tY [.fzl (ns.map D.int),.int k]=some (.int c):=by
 let ρ:List Sl:=[.im (.fzl (ns.map D.int)),.im (.int k)];have ev:cT (c2 Ek (cV 1) (c1 qQ (cV 0))) ρ=some (decide ((k:Int)<((ns.map D.int).length:Nat)),ρ):=rfl;rw[ah]at ev;by_cases h:k<ns.length
 ·rw[bg (by omega)]at ev;refine⟨ns[k],o8 (ρ:=ρ) rfl (rF ((sA ev).trans (pC (oT (x:=.fzl (ns.map D.int)) (y:=.int k) rfl rfl ?_))))⟩;exact Gx (by rw[aW,aH h];rfl)
 ·rw[aN (by omega)]at ev;exact⟨0,o8 (ρ:=ρ) rfl ((oA ((pL ev).trans rfl)).trans rfl)⟩
def lB:FS:=(oI (px 7 (oE sO (aCons (cV 6) ox)))
 (sIf (qc (cT (oE qX (aCons (oE tq (aCons (cV 7) ox)) (aCons (cV 7) ox))))) (pb (cC (.bl false))) pj))
theorem SZ(ns:List Int)(hl:ns.length<=63):O0 [.fzl (ns.map D.int)]=some (.bl true):=by
 obtain⟨c0,e0⟩:=OH ns 0;obtain⟨T,M,dk,y,es,g,hy⟩:=Hv c0;have ew:=EW (SA dk) g y hy (E7 g);have er:=E8 g hy;have lT:=g.len;have lM:=g.m4;have lD:=g.d0;let sc:=D.fzl (ns.map D.int);let W:=wM T M dk y;let sp:=ux T M dk y;let ρ:Sl->Sl->List Sl:=λa b=>[.im sc,.im sp,.ls [],.ls [],.ls [],.im W,a,b];have loop:∀(l:List Int) (a b:Sl),∃a' b',forL (gN 6) lB (l.map D.int) (ρ a b)=some (.nx (ρ a' b')):=by
  intro l
  induction l with
  |nil=>exact λa b=>⟨a,b,rfl⟩
  |cons c l ih=>
   intro a b;obtain⟨T,M,dk,y,es,g,hy⟩:=Hv c;let sp:=ux T M dk y;obtain⟨a',b',h⟩:=ih (.im (.int c)) (.im sp);refine⟨a',b',?_⟩;have ev:lB (ρ (.im (.int c)) b)=some (.nx (ρ (.im (.int c)) (.im sp))):=by unfold lB;refine(oA (ρ':=ρ (.im (.int c)) (.im sp)) ((pf (oJ (oB rfl rfl) es)).trans rfl)).trans ?_;exact(pL (vg (b:=true) (qm (oJ (oB (oJ (oB rfl rfl) (LJ g hy (E7 g))) (oB rfl rfl)) (E8 g hy))))).trans rfl
   rw[av];unfold forL;rw[show gN 6 (.int c) (ρ a b)=some (ρ (.im (.int c)) b) from rfl];simp only[ev];exact h
 let cs:List Int:=(ns.drop (HT.sIx ns.length 0 (some 1))).take (HT.sIx ns.length ns.length (some 9) - HT.sIx ns.length 0 (some 1));have ec:cutD (ns.map D.int) (some 1) (some 9)=cs.map D.int:=by unfold cutD;rw[ah,<- fz,<- fC]
 obtain⟨a',b',e⟩:=loop cs .un .un;refine o8 (ρ:=ρ a' b') rfl ?_;unfold Hl;refine(oA (ρ':=[.im sc,.im sp,.un,.un,.un,.un,.un,.un]) ((pf (oJ (oB (oJ (oB rfl (oB rfl rfl)) e0) rfl) es)).trans rfl)).trans ?_;refine(oA (ρ':=[.im sc,.im sp,.ls (T.map thD),.un,.un,.un,.un,.un]) ((wQ (rK (λt=>D.tup [oV t.rw,wdD t]) thD T (ρ1:=[.im sc,.im sp,.un,.un,.un,.un,.un,.un]) ?_ (by omega) λt _=>⟨[.im (oV t.rw),.im (wdD t)],[.im (oV t.rw),.im (wdD t)],rfl,rfl,rfl⟩)).trans rfl)).trans ?_
 ·show some (vW (T.map λt=>oV t.rw) (T.map wdD),[Sl.im sc,.im sp,.un,.un,.un,.un,.un,.un])=_;rw[Gd]
 refine(oA (ρ':=[.im sc,.im sp,.ls (T.map thD),.ls (M.map mkD),.un,.un,.un,.un]) ((wQ (rK mkT mkD M (ρ1:=[.im sc,.im sp,.ls (T.map thD),.un,.un,.un,.un,.un]) rfl (by omega) λm _=>⟨[.im (.str m.n),.im (.int m.st),.im (.int m.mo)],[.im (.str m.n),.im (.int m.st),.im (.int m.mo)],rfl,rfl,rfl⟩)).trans rfl)).trans ?_;refine(oA (ρ':=[.im sc,.im sp,.ls (T.map thD),.ls (M.map mkD),.ls (dk.map D.str),.un,.un,.un]) rfl).trans ?_;let ρ0:List Sl:=[.im sc,.im sp,.ls (T.map thD),.ls (M.map mkD),.ls (dk.map D.str),.un,.un,.un];refine(oA (ρ':=[.im sc,.im sp,.ls (T.map thD),.ls (M.map mkD),.ls (dk.map D.str),.im W,.un,.un]) ((pf (LI (ρ:=ρ0) (ρ1:=ρ0.map Sl.fzL) (Hg (g:=λds=>qt (ds++[])) (ds:=[TD T,MD M,.fzl (dk.map D.str),.lst [],.lst [],.lst []]) rfl ew) rfl (LH T M dk y (moL T M)))).trans rfl)).trans ?_;refine(oA (ρ':=[.im sc,.im sp,.ls (T.map thD),.ls (M.map mkD),.ls (dk.map D.str),.im W,.un,.un]) ((pL (vg (b:=true) (qm (oJ (oB rfl (oB rfl rfl)) er)))).trans rfl)).trans ?_;refine(oA (ρ':=[.im sc,.im sp,.ls [],.ls (M.map mkD),.ls (dk.map D.str),.im W,.un,.un]) rfl).trans ?_;refine(oA (ρ':=[.im sc,.im sp,.ls [],.ls [],.ls (dk.map D.str),.im W,.un,.un]) rfl).trans ?_;refine(oA (ρ':=ρ .un .un) rfl).trans ?_;refine(oA ((pY (ds:=cs.map D.int) (ρ1:=ρ .un .un) ?_).trans e)).trans ?_
 ·exact(show _=some (cutD (ns.map D.int) (some 1) (some 9),ρ .un .un) from rfl).trans (by rw[ec])
 exact pC (oJ (oB rfl (oB rfl rfl)) er)
end K11x
namespace K11x
open PySem L2 L3 L4
open PySem.W (nsIn)
structure Fx(K:ak)(C0 C1 C2 C3 C4 C5 C6 C7 C8 C9 C10 C11 C12 C13 C14:Addr):Prop where
 a0:nsIn K aK "Thing" = some (some (.ref C0))
 a1:nsIn K aK "Mark" = some (some (.ref C1))
 a2:nsIn K aK "Verb" = some (some (.ref C2))
 a3:nsIn K aK "At" = some (some (.ref C3))
 a4:nsIn K aK "Has" = some (some (.ref C4))
 a5:nsIn K aK "Seen" = some (some (.ref C5))
 a6:nsIn K aK "Marked" = some (some (.ref C6))
 a7:nsIn K aK "Kind" = some (some (.ref C7))
 a8:nsIn K aK "Word" = some (some (.ref C8))
 a9:nsIn K aK "Not" = some (some (.ref C9))
 a10:nsIn K aK "Both" = some (some (.ref C10))
 a11:nsIn K aK "Move" = some (some (.ref C11))
 a12:nsIn K aK "Put" = some (some (.ref C12))
 a13:nsIn K aK "Rule" = some (some (.ref C13))
 a14:nsIn K aK "World" = some (some (.ref C14))
 k0:CF K C0 ["kind", "name", "start", "words"]
 k1:CF K C1 ["most", "name", "start"]
 k2:CF K C2 ["joining", "name", "others", "form"]
 k3:CF K C3 ["place", "term"]
 k4:CF K C4 ["term"]
 k5:CF K C5 []
 k6:CF K C6 ["term", "value"]
 k7:CF K C7 ["kind", "term"]
 k8:CF K C8 []
 k9:CF K C9 ["inner"]
 k10:CF K C10 []
 k11:CF K C11 ["place", "term"]
 k12:CF K C12 ["term", "value"]
 k13:CF K C13 ["verb", "deeds", "refuses", "tests", "text"]
 k14:CF K C14 ["copied_rules", "kept_marks", "kept_things", "kept_verbs", "mosts_by_name", "shared_rules", "shared_verbs", "things_by_name", "your_name", "kept_dark", "kept_rules", "kept_ways", "rules_by_verb", "verbs_by_word"]
 i_Mark:Ad K [C0,C1,C2,C3,C4,C5,C6,C7,C8,C9,C10,C11,C12,C13,C14] C1 1=true
 i_Thing:Ad K [C0,C1,C2,C3,C4,C5,C6,C7,C8,C9,C10,C11,C12,C13,C14] C0 0=true
 nd:decide ([C0,C1,C2,C3,C4,C5,C6,C7,C8,C9,C10,C11,C12,C13,C14]:List Addr).Nodup=true
 e:((["all", "any", "bool", "int", "isinstance", "len", "list", "range", "set", "sorted", "str", "tuple", "zip"]:List Str).all λx=>match nsIn K aK x with|some none=>true|_=>false)=true
 g0:GS K "KINDS" ["room", "plain", "fixed", "box", "lamp", "you"]
 g1:GS K "KINDS_APART" ["room", "you"]
 g2:GS K "KINDS_THAT_HOLD" ["room", "box", "you"]
 g3:GS K "KINDS_WITH_MARK" ["box", "lamp"]
 g4:GC K "MOST_BESIDE" 7
 g5:GC K "MOST_IN_NAME" 8
 g6:GC K "MOST_IN_WORD" 12
 g7:GC K "MOST_MARKS" 4
 g8:GC K "MOST_OF_MARK" 3
 g9:GC K "MOST_ROOMS" 5
 g10:GC K "MOST_RULES" 20
 g11:GC K "MOST_VERBS" 6
 g12:GC K "MOST_WAYS" 10
 g13:GC K "MOST_WORDS" 4
 g14:GS K "NO_NAMES" ["it", "other", "here", "the", "a", "undo", "restart"]
 g15:GS K "NO_WORDS" ["the", "a"]
 g16:GS K "NO_WORDS_OF_ROWS" ["the", "a", "undo", "restart"]
 q17:GD K "is_small_letters" (top 6)
 q18:GD K "is_name" (top 7)
 q19:GD K "is_word" (top 8)
 q20:GD K "is_one_of" (top 10)
 q21:GD K "is_whole" (top 11)
 q22:GD K "is_list_up_to" (top 12)
 q23:GD K "own_list" (top 107)
 q24:GJ K C0 "Thing.__init__" (inClass (top 33) 0) [V.non]
 q25:GM K C1 "__init__" "Mark.__init__" (inClass (top 34) 0)
 q26:GJ K C2 "Verb.__init__" (inClass (top 35) 0) [V.non,(V.str "one"),V.non]
 q27:GM K C3 "__init__" "At.__init__" (inClass (top 84) 0)
 q28:GM K C4 "__init__" "Has.__init__" (inClass (top 85) 0)
 q29:GM K C6 "__init__" "Marked.__init__" (inClass (top 87) 0)
 q30:GM K C7 "__init__" "Kind.__init__" (inClass (top 88) 0)
 q31:GM K C9 "__init__" "Not.__init__" (inClass (top 91) 0)
 q32:GM K C11 "__init__" "Move.__init__" (inClass (top 98) 0)
 q33:GM K C12 "__init__" "Put.__init__" (inClass (top 99) 0)
 q34:GJ K C13 "Rule.__init__" (inClass (top 106) 0) [(V.bl false)]
 q35:GM K C0 "can_hold" "Thing.can_hold" (inClass (top 33) 1)
 q36:GM K C0 "has_mark" "Thing.has_mark" (inClass (top 33) 2)
 q37:GM K C0 "is_plainly" "Thing.is_plainly" (inClass (top 33) 3)
 q38:GD K "refuse_unless" (top 48)
 q39:GD K "count_of" (top 51)
 q40:GD K "plain_ones" (top 52)
 q41:GD K "is_mark" (top 54)
 q42:GD K "check_things" (top 50)
 q43:GD K "check_marks" (top 53)
 q44:GD K "are_unlike" (top 56)
 q45:GD K "check_names" (top 55)
 q46:GD K "mark_names" (top 57)
 q47:GD K "is_start" (top 59)
 q48:GDa K "comes_to_room_checks" "comes_to_room" (top 60)
 q49:GD K "check_starts" (top 58)
 q50:GD K "are_words" (top 63)
 q51:GD K "has_all" (top 65)
 q52:GD K "is_told_apart" (top 64)
 q53:GD K "check_words_of_things" (top 62)
 q54:GD K "check_dark" (top 66)
 q55:GD K "check_ways" (top 67)
 q56:GD K "check_verbs" (top 69)
 q57:GD K "are_apart" (top 72)
 q58:GD K "check_vocabulary" (top 71)
 q59:GD K "check_parts" (top 49)
 q60:GD K "does" (top 130)
 q61:GD K "refuses" (top 131)
 q62:GD K "hand_rules" (top 132)
 q63:GD K "put_rules" (top 133)
 q64:GD K "lid_rules" (top 134)
 q65:GD K "flame_rules" (top 135)
 q66:GD K "go_rules" (top 136)
 q67:GD K "wait_rules" (top 138)
 q68:GD K "common_rules" (top 129)
 q69:GD K "common_verbs" (top 128)
 q70:GD K "by_name" (top 142)
 q71:GD K "mosts_by_name" (top 143)
 q72:GD K "verbs_by_word" (top 144)
 q73:GD K "by_verb" (top 145)
 q74:GM K C14 "of_kind" "World.of_kind" (inClass (top 141) 3)
 q75:GM K C14 "all_verbs" "World.all_verbs" (inClass (top 141) 13)
 q76:GM K C14 "__init__" "World.__init__" (inClass (top 141) 0)
 q77:GD K "is_same_text" (top 9)
 q78:GM K C14 "you" "World.you" (inClass (top 141) 4)
 q79:GM K C14 "names" "World.names" (inClass (top 141) 1)
 q80:GM K C14 "thing_of" "World.thing_of" (inClass (top 141) 2)
 q81:GM K C14 "most_of" "World.most_of" (inClass (top 141) 6)
 q82:GM K C14 "own_marks" "World.own_marks" (inClass (top 141) 7)
 q83:GM K C14 "parts" "World.parts" (inClass (top 141) 18)
 q84:GD K "own_starts" (top 15)
 q85:GD K "first_value" (top 16)
 q86:GD K "first_stand" (top 14)
 q87:GD K "value_of" (top 17)
 q88:GD K "at_of" (top 18)
 q89:GD K "mark_of" (top 19)
 q90:GDa K "comes_to_room_stands" "comes_to_room" (top 25)
 q91:GD K "is_two" (top 21)
 q92:GD K "is_part" (top 22)
 q93:GD K "is_holder" (top 24)
 q94:GD K "is_value" (top 23)
 q95:GD K "is_stand" (top 20)
 q96:GD K "_law_cell_at" (top 147)
 q97:GD K "_law_draws" (top 148)
 q98:GD K "_law_take" (top 149)
 q99:GD K "_law_names" (top 150)
 q100:GD K "_law_others" (top 151)
 q101:GD K "_law_spec" (top 152)
 q102:GD K "_law_world" (top 153)
 q103:GD K "_law_of" (top 154)
 q104:GD K "_law_due" (top 156)
 q105:GD K "_law_right" (top 157)
 q106:GD K "law" (top 158)
class Yx(B:Bz):Prop where
 y:Yw B.P B.w B.mg B.base B.G
 f:Fx B.G.K (B.G.ca 0) (B.G.ca 1) (B.G.ca 2) (B.G.ca 3) (B.G.ca 4) (B.G.ca 5) (B.G.ca 6) (B.G.ca 7) (B.G.ca 8) (B.G.ca 9) (B.G.ca 10) (B.G.ca 11) (B.G.ca 12) (B.G.ca 13) (B.G.ca 14)
section
variable{B:Bz}[Y:Yx B]
instance:Yb B:=⟨Y.y⟩
instance:Nb B "all" := ⟨Y.y.n Y.f.e 0 rfl⟩
instance:Nb B "any" := ⟨Y.y.n Y.f.e 1 rfl⟩
instance:Nb B "bool" := ⟨Y.y.n Y.f.e 2 rfl⟩
instance:Nb B "int" := ⟨Y.y.n Y.f.e 3 rfl⟩
instance:Nb B "isinstance" := ⟨Y.y.n Y.f.e 4 rfl⟩
instance:Nb B "len" := ⟨Y.y.n Y.f.e 5 rfl⟩
instance:Nb B "list" := ⟨Y.y.n Y.f.e 6 rfl⟩
instance:Nb B "range" := ⟨Y.y.n Y.f.e 7 rfl⟩
instance:Nb B "set" := ⟨Y.y.n Y.f.e 8 rfl⟩
instance:Nb B "sorted" := ⟨Y.y.n Y.f.e 9 rfl⟩
instance:Nb B "str" := ⟨Y.y.n Y.f.e 10 rfl⟩
instance:Nb B "tuple" := ⟨Y.y.n Y.f.e 11 rfl⟩
instance:Nb B "zip" := ⟨Y.y.n Y.f.e 12 rfl⟩
instance:Co B "KINDS" DG:=⟨Y.y.cs Y.f.g0⟩
instance:Co B "KINDS_APART" xk:=⟨Y.y.cs Y.f.g1⟩
instance:Co B "KINDS_THAT_HOLD" um:=⟨Y.y.cs Y.f.g2⟩
instance:Co B "KINDS_WITH_MARK" uo:=⟨Y.y.cs Y.f.g3⟩
instance:Co B "MOST_BESIDE" xl:=⟨Y.y.ci Y.f.g4⟩
instance:Co B "MOST_IN_NAME" wj:=⟨Y.y.ci Y.f.g5⟩
instance:Co B "MOST_IN_WORD" wm:=⟨Y.y.ci Y.f.g6⟩
instance:Co B "MOST_MARKS" tm:=⟨Y.y.ci Y.f.g7⟩
instance:Co B "MOST_OF_MARK" wo:=⟨Y.y.ci Y.f.g8⟩
instance:Co B "MOST_ROOMS" yq:=⟨Y.y.ci Y.f.g9⟩
instance:Co B "MOST_RULES" yu:=⟨Y.y.ci Y.f.g10⟩
instance:Co B "MOST_VERBS" yt:=⟨Y.y.ci Y.f.g11⟩
instance:Co B "MOST_WAYS" zz:=⟨Y.y.ci Y.f.g12⟩
instance:Co B "MOST_WORDS" vp:=⟨Y.y.ci Y.f.g13⟩
instance:Co B "NO_NAMES" Bb:=⟨Y.y.cs Y.f.g14⟩
instance:Co B "NO_WORDS" Bc:=⟨Y.y.cs Y.f.g15⟩
instance:Co B "NO_WORDS_OF_ROWS" tL:=⟨Y.y.cs Y.f.g16⟩
instance:Ff B sr "copied_rules" := ⟨vX (Y.f.k14.at 0 rfl)⟩
instance:Ff B we "joining" := ⟨vX (Y.f.k2.at 0 rfl)⟩
instance:Ff B rS "kept_marks" := ⟨vX (Y.f.k14.at 1 rfl)⟩
instance:Ff B pQ "kept_things" := ⟨vX (Y.f.k14.at 2 rfl)⟩
instance:Ff B wg "kept_verbs" := ⟨vX (Y.f.k14.at 3 rfl)⟩
instance:Ff B pD "kind" := ⟨orQ (vX (Y.f.k0.at 0 rfl)) (Y.f.k7.at 0 rfl)⟩
instance:Ff B tJ "most" := ⟨vX (Y.f.k1.at 0 rfl)⟩
instance:Ff B uk "mosts_by_name" := ⟨vX (Y.f.k14.at 4 rfl)⟩
instance:Ff B oU "name" := ⟨orQ (orQ (vX (Y.f.k0.at 1 rfl)) (Y.f.k1.at 1 rfl)) (Y.f.k2.at 1 rfl)⟩
instance:Ff B xQ "others" := ⟨vX (Y.f.k2.at 2 rfl)⟩
instance:Ff B su "shared_rules" := ⟨vX (Y.f.k14.at 5 rfl)⟩
instance:Ff B uS "shared_verbs" := ⟨vX (Y.f.k14.at 6 rfl)⟩
instance:Ff B pJ "start" := ⟨orQ (vX (Y.f.k0.at 2 rfl)) (Y.f.k1.at 2 rfl)⟩
instance:Ff B tK "things_by_name" := ⟨vX (Y.f.k14.at 7 rfl)⟩
instance:Ff B EN "verb" := ⟨vX (Y.f.k13.at 0 rfl)⟩
instance:Ff B qE "words" := ⟨vX (Y.f.k0.at 3 rfl)⟩
instance:Ff B sC "your_name" := ⟨vX (Y.f.k14.at 8 rfl)⟩
instance:Af B 0 ["kind", "name", "start", "words"]:=⟨Y.f.k0⟩
instance:Af B 1 ["most", "name", "start"]:=⟨Y.f.k1⟩
instance:Af B 2 ["joining", "name", "others", "form"]:=⟨Y.f.k2⟩
instance:Af B 3 ["place", "term"]:=⟨Y.f.k3⟩
instance:Af B 4 ["term"]:=⟨Y.f.k4⟩
instance:Af B 6 ["term", "value"]:=⟨Y.f.k6⟩
instance:Af B 7 ["kind", "term"]:=⟨Y.f.k7⟩
instance:Af B 9 ["inner"]:=⟨Y.f.k9⟩
instance:Af B 11 ["place", "term"]:=⟨Y.f.k11⟩
instance:Af B 12 ["term", "value"]:=⟨Y.f.k12⟩
instance:Af B 13 ["verb", "deeds", "refuses", "tests", "text"]:=⟨Y.f.k13⟩
instance:Af B 14 ["copied_rules", "kept_marks", "kept_things", "kept_verbs", "mosts_by_name", "shared_rules", "shared_verbs", "things_by_name", "your_name", "kept_dark", "kept_rules", "kept_ways", "rules_by_verb", "verbs_by_word"]:=⟨Y.f.k14⟩
instance:Ic B "Mark" Ln:=⟨1,Cs Y.f.i_Mark rfl (Oa 15 _) (Jd.at ⟨Y.f.k0.ci,Y.f.k1.ci,Y.f.k2.ci,Y.f.k3.ci,Y.f.k4.ci,Y.f.k5.ci,Y.f.k6.ci,Y.f.k7.ci,Y.f.k8.ci,Y.f.k9.ci,Y.f.k10.ci,Y.f.k11.ci,Y.f.k12.ci,Y.f.k13.ci,Y.f.k14.ci,trivial⟩),Y.y.g Y.f.a1⟩
instance:Ic B "Thing" Hh:=⟨0,Cs Y.f.i_Thing rfl (Oa 15 _) (Jd.at ⟨Y.f.k0.ci,Y.f.k1.ci,Y.f.k2.ci,Y.f.k3.ci,Y.f.k4.ci,Y.f.k5.ci,Y.f.k6.ci,Y.f.k7.ci,Y.f.k8.ci,Y.f.k9.ci,Y.f.k10.ci,Y.f.k11.ci,Y.f.k12.ci,Y.f.k13.ci,Y.f.k14.ci,trivial⟩),Y.y.g Y.f.a0⟩
instance:Ij B 15:=⟨UY Y.f.nd⟩
local macro_rules|`(tactic|trivial)=>do let x:=("zr_lnF Uy Uo Um Up Uq Ll Uu Q4 RV Ur Q2 R7 RU QN QO RW RY RP Q8 RG Re R8 QU QV QW QX QR RZ Uv R9 QS Q6 Sb Sd RX Sq Q5 Q3 Q1 QM Rm Ro Us Sf QZ Q0 QY Uw Ux Ru QP QQ Rv QT Sm Sn So Se Sg Ut Q9 Rb Sh Si Rx Rf Rg RD RE RF Sj Sk N8 N7 N9 RH RI RJ RK Rl RM RN Rp zr_clI Rq Rr Rt RB RA Ry Q7 RS RT N6 Sa Rk Rh Rj Ss Sx Sv Sw N5 Sr R0".splitOn " ").toArray.map fun s=>Lean.mkIdent (.mkSimple s);`(tactic|repeat' first|(with_reducible apply eqI);(first|rfl|kernel_rfl)|((with_reducible first|apply RQ|apply RR);rotate_left 7;rfl)|(with_reducible first $[|apply $x]*)|(with_reducible intro _)|exact lj)
instance:Df B 1 "is_small_letters" (spF B.G ro):=gF4 rfl Y.f.q17 rfl (by unfold tM;trivial)
instance:Df B 2 "is_name" (spF B.G wZ):=gF4 rfl Y.f.q18 rfl (by unfold Cw;trivial)
instance:Df B 2 "is_word" (spF B.G tD):=gF4 rfl Y.f.q19 rfl (by unfold Cy;trivial)
instance:Df B 1 "is_one_of" (spF B.G p9):=gF4 rfl Y.f.q20 rfl (by unfold zA;trivial)
instance:Df B 1 "is_whole" (spF B.G tN):=gF4 rfl Y.f.q21 rfl (by unfold Bd;trivial)
instance:Df B 1 "is_list_up_to" (spF B.G pZ):=gF4 rfl Y.f.q22 rfl (by unfold vM;trivial)
instance:Df B 1 "own_list" (spF B.G xR):=gF4 rfl Y.f.q23 rfl (by unfold Be;trivial)
instance:Kf B 1 "Thing" 0 vq []:=gJ4 (dds:=[D.non]) Y.f.k0 Y.f.a0 rfl Y.f.q24 rfl rfl (by unfold yw;trivial) 1
instance:Kf B 1 "Mark" 1 wq []:=gI4 Y.f.k1 Y.f.a1 rfl Y.f.q25 rfl rfl (by unfold zB;trivial)
theorem vK:Bdz B (nmO (inClass (top 35) 0)) "Verb.__init__" (inClass (top 35) 0) (o9 (inClass (top 35) 0)) 0 wu:=by
 unfold wu;refine Ll ?_ ?_
 all_goals trivial
instance:Kf B 1 "Verb" 2 qR [D.non,(D.str "one"),D.non]:=gJ4 (dds:=[D.non,(D.str "one"),D.non]) Y.f.k2 Y.f.a2 rfl Y.f.q26 rfl rfl vK 0
instance:Kf B 1 "Verb" 2 qR [D.non]:=gJ4 (dds:=[D.non,(D.str "one"),D.non]) Y.f.k2 Y.f.a2 rfl Y.f.q26 rfl rfl vK 2
instance:Kf B 1 "Verb" 2 qR []:=gJ4 (dds:=[D.non,(D.str "one"),D.non]) Y.f.k2 Y.f.a2 rfl Y.f.q26 rfl rfl vK 3
instance:Kf B 1 "At" 3 CB []:=gI4 Y.f.k3 Y.f.a3 rfl Y.f.q27 rfl rfl (by unfold CA;trivial)
instance:Kf B 1 "Has" 4 xS []:=gI4 Y.f.k4 Y.f.a4 rfl Y.f.q28 rfl rfl (by unfold Bf;trivial)
instance:Kf B 1 "Marked" 6 qF []:=gI4 Y.f.k6 Y.f.a6 rfl Y.f.q29 rfl rfl (by unfold xm;trivial)
instance:Kf B 1 "Kind" 7 qS []:=gI4 Y.f.k7 Y.f.a7 rfl Y.f.q30 rfl rfl (by unfold zC;trivial)
instance:Kf B 1 "Not" 9 rq []:=gI4 Y.f.k9 Y.f.a9 rfl Y.f.q31 rfl rfl (by unfold Bh;trivial)
instance:Kf B 1 "Move" 11 sM []:=gI4 Y.f.k11 Y.f.a11 rfl Y.f.q32 rfl rfl (by unfold zD;trivial)
instance:Kf B 1 "Put" 12 tP []:=gI4 Y.f.k12 Y.f.a12 rfl Y.f.q33 rfl rfl (by unfold Bi;trivial)
instance:Kf B 2 "Rule" 13 wx []:=gJ4 (dds:=[(D.bl false)]) Y.f.k13 Y.f.a13 rfl Y.f.q34 rfl rfl (by unfold zF;trivial) 1
instance:Mf B 9 "can_hold" pU:=⟨λc h e=>by
 unfold pU at e;split at e
 ·cases e;exact hF4 (k:=8) Y.f.k0 rfl Y.f.q35 rfl (by unfold uT;trivial)
 ·cases e⟩
instance:Mf B 9 "has_mark" qg:=⟨λc h e=>by
 unfold qg at e;split at e
 ·cases e;exact hF4 (k:=8) Y.f.k0 rfl Y.f.q36 rfl (by unfold uV;trivial)
 ·cases e⟩
instance:Mf B 9 "is_plainly" sv:=⟨λc h e=>by
 unfold sv at e;split at e
 ·cases e;exact hF4 (k:=8) Y.f.k0 rfl Y.f.q37 rfl (by unfold tQ;trivial)
 ·cases e⟩
instance:Df B 1 "refuse_unless" (spF B.G oN):=gF4 rfl Y.f.q38 rfl (by unfold vO;trivial)
instance:Df B 1 "count_of" (spF B.G vt):=gF4 rfl Y.f.q39 rfl (by unfold Bj;trivial)
instance:Df B 10 "plain_ones" (spN B.G qV):=gN4 rfl Y.f.q40 rfl (by unfold yx;trivial)
instance:Df B 2 "is_mark" (spF B.G y6):=gF4 rfl Y.f.q41 rfl (by unfold y4;trivial)
instance:Df B 11 "check_things" (spF B.G tT):=gF4 rfl Y.f.q42 rfl (by unfold tS;trivial)
instance:Df B 3 "check_marks" (spF B.G uB):=gF4 rfl Y.f.q43 rfl (by unfold uA;trivial)
instance:Df B 1 "are_unlike" (spF B.G pM):=gF4 rfl Y.f.q44 rfl (by unfold yy;trivial)
instance:Df B 3 "check_names" (spF B.G uD):=gF4 rfl Y.f.q45 rfl (by unfold uC;trivial)
instance:Df B 10 "mark_names" (spN B.G qp):=gN4 rfl Y.f.q46 rfl (by unfold yz;trivial)
instance:Df B 10 "is_start" (spF B.G xU):=gF4 rfl Y.f.q47 rfl (by unfold xT;trivial)
instance:Df B 1 "comes_to_room_checks" (spF B.G qq):=gA4 rfl Y.f.q48 rfl (by unfold rT;trivial)
instance:Df B 11 "check_starts" (spF B.G tV):=gF5 ["things", "starts", "thing"] rfl Y.f.q49 rfl (by unfold tU;trivial)
instance:Df B 3 "are_words" (spF B.G wz):=gF4 rfl Y.f.q50 rfl (by unfold wy;trivial)
instance:Df B 1 "has_all" (spF B.G w9):=gF4 rfl Y.f.q51 rfl (by unfold CC;trivial)
instance:Df B 2 "is_told_apart" (spF B.G sU):=gF4 rfl Y.f.q52 rfl (by unfold sT;trivial)
instance:Df B 11 "check_words_of_things" (spF B.G qj):=gF4 rfl Y.f.q53 rfl (by unfold qh;trivial)
instance:Df B 2 "check_dark" (spF B.G vw):=gF4 rfl Y.f.q54 rfl (by unfold vv;trivial)
instance:Df B 2 "check_ways" (spF B.G vz):=gF4 rfl Y.f.q55 rfl (by unfold yA;trivial)
instance:Df B 2 "check_verbs" (spF B.G uE):=gF4 rfl Y.f.q56 rfl (by unfold xn;trivial)
instance:Df B 1 "are_apart" (spF B.G sN):=gF4 rfl Y.f.q57 rfl (by unfold zG;trivial)
instance:Df B 11 "check_vocabulary" (spF B.G qr):=gF4 rfl Y.f.q58 rfl (by unfold rA;trivial)
instance:Df B 12 "check_parts" (spF B.G uG):=gF4 rfl Y.f.q59 rfl (by unfold uF;trivial)
instance:Df B 4 "does" (spF B.G uH):=gF4 rfl Y.f.q60 rfl (by unfold Lo;trivial)
instance:Df B 4 "refuses" (spF B.G pH):=gF4 rfl Y.f.q61 rfl (by unfold CD;trivial)
instance:Df B 5 "hand_rules" (spN B.G yC):=gN4 rfl Y.f.q62 rfl (by unfold yB;trivial)
instance:Df B 5 "put_rules" (spN B.G zI):=gN4 rfl Y.f.q63 rfl (by unfold zH;trivial)
instance:Df B 5 "lid_rules" (spN B.G zK):=gN4 rfl Y.f.q64 rfl (by unfold zJ;trivial)
instance:Df B 5 "flame_rules" (spN B.G xq):=gN4 rfl Y.f.q65 rfl (by unfold xp;trivial)
instance:Df B 5 "go_rules" (spN B.G Bl):=gN4 rfl Y.f.q66 rfl (by unfold Bk;trivial)
instance:Df B 5 "wait_rules" (spN B.G yE):=gN4 rfl Y.f.q67 rfl (by unfold yD;trivial)
instance:Df B 6 "common_rules" (spN B.G qT):=gN4 rfl Y.f.q68 rfl (by unfold wA;trivial)
instance:Df B 3 "common_verbs" (spN B.G qk):=gN4 rfl Y.f.q69 rfl (by unfold wB;trivial)
instance:Df B 1 "by_name" (spF B.G y8):=gF4 rfl Y.f.q70 rfl (by unfold y7;trivial)
instance:Df B 10 "mosts_by_name" (spF B.G qB):=gF4 rfl Y.f.q71 rfl (by unfold sV;trivial)
instance:Df B 1 "verbs_by_word" (spF B.G qC):=gF4 rfl Y.f.q72 rfl (by unfold vP;trivial)
instance:Df B 1 "by_verb" (spF B.G uX):=gF4 rfl Y.f.q73 rfl (by unfold CG;refine⟨IK (stW (by kernel_rfl) D3 rfl) (Jv lj rfl (Ei (Ea B.G.K (Fq (pvI (by kernel_rfl))))) (pgI (by kernel_rfl)) (zX (Gk (JZ B.G.K eZ iu j4 yM (KW (pvI (by kernel_rfl)) (Kb (Fq (pvI (by kernel_rfl))) (Ff.p (B:=B))) (JF uy) ⟨rfl,rfl,rfl,rfl⟩) (qK (pvI (by kernel_rfl)) uy))))) (CV (PE.ghost (pvI (by kernel_rfl))))⟩)
instance:Mf B 9 "of_kind" sE:=⟨λc h e=>by
 unfold sE at e;split at e
 ·cases e;exact hF4 (k:=8) Y.f.k14 rfl Y.f.q74 rfl (by unfold vQ;trivial)
 ·cases e⟩
instance:Mf B 9 "all_verbs" rg:=⟨λc h e=>by
 unfold rg at e;split at e
 ·cases e;exact hF4 (k:=8) Y.f.k14 rfl Y.f.q75 rfl (by unfold uq;trivial)
 ·cases e⟩
instance:Kf B 13 "World" 14 qt []:=gI4 Y.f.k14 Y.f.a14 rfl Y.f.q76 rfl rfl (by unfold rV;trivial)
instance:Df B 1 "is_same_text" (spF B.G ql):=gF4 rfl Y.f.q77 rfl (by unfold wC;trivial)
instance:Mf B 9 "you" xa:=⟨λc h e=>by
 unfold xa at e;split at e
 ·cases e;exact hF4 (k:=8) Y.f.k14 rfl Y.f.q78 rfl (by unfold zL;trivial)
 ·cases e⟩
instance:Mf B 9 "names" ur:=⟨λc h e=>by
 unfold ur at e;split at e
 ·cases e;exact hF4 (k:=8) Y.f.k14 rfl Y.f.q79 rfl (by unfold xt;trivial)
 ·cases e⟩
instance:Mf B 9 "thing_of" pV:=⟨λc h e=>by
 unfold pV at e;split at e
 ·cases e;exact hF4 (k:=8) Y.f.k14 rfl Y.f.q80 rfl (by unfold uY;trivial)
 ·cases e⟩
instance:Mf B 9 "most_of" sF:=⟨λc h e=>by
 unfold sF at e;split at e
 ·cases e;exact hF4 (k:=8) Y.f.k14 rfl Y.f.q81 rfl (by unfold vR;trivial)
 ·cases e⟩
instance:Mf B 9 "own_marks" sX:=⟨λc h e=>by
 unfold sX at e;split at e
 ·cases e;exact hF4 (k:=8) Y.f.k14 rfl Y.f.q82 rfl (by unfold uu;trivial)
 ·cases e⟩
instance:Mf B 12 "parts" rH:=⟨λc h e=>by
 unfold rH at e;split at e
 ·cases e;exact hF4 (k:=11) Y.f.k14 rfl Y.f.q83 rfl (by unfold xw;trivial)
 ·cases e⟩
instance:Df B 10 "own_starts" (spF B.G vA):=gF4 rfl Y.f.q84 rfl (by unfold yF;trivial)
instance:Df B 10 "first_value" (spF B.G qG):=gF4 rfl Y.f.q85 rfl (by unfold xy;trivial)
instance:Df B 13 "first_stand" (spF B.G uI):=gF4 rfl Y.f.q86 rfl (by unfold xA;trivial)
instance:Df B 1 "value_of" (spF B.G rB):=gF4 rfl Y.f.q87 rfl (by unfold Bm;trivial)
instance:Df B 2 "at_of" (spF B.G qW):=gF4 rfl Y.f.q88 rfl (by unfold Hk;trivial)
instance:Df B 2 "mark_of" (spF B.G rJ):=gF4 rfl Y.f.q89 rfl (by unfold CH;trivial)
instance:Df B 3 "comes_to_room_stands" (spF B.G pG):=gA4 rfl Y.f.q90 rfl (by unfold rW;trivial)
instance:Df B 1 "is_two" (spF B.G tW):=gF4 rfl Y.f.q91 rfl (by unfold EO;trivial)
instance:Df B 2 "is_part" (spF B.G u0):=gF4 rfl Y.f.q92 rfl (by unfold CJ;trivial)
instance:Df B 10 "is_holder" (spF B.G wD):=gF4 rfl Y.f.q93 rfl (by unfold zN;trivial)
instance:Df B 11 "is_value" (spF B.G qa):=gF4 rfl Y.f.q94 rfl (by unfold Bn;trivial)
instance:Df B 13 "is_stand" (spF B.G vB):=gF4 rfl Y.f.q95 rfl (by unfold Bo;trivial)
instance:Df B 1 "_law_cell_at" (spF B.G tY):=gF4 rfl Y.f.q96 rfl (by unfold wF;trivial)
instance:Df B 1 "_law_draws" (spN B.G vC):=gN4 rfl Y.f.q97 rfl (by unfold yG;trivial)
instance:Df B 1 "_law_take" (spM B.G oK):=gM4 rfl Y.f.q98 rfl rfl (by unfold zO;trivial)
instance:Df B 2 "_law_names" (spM B.G vF):=gM4 rfl Y.f.q99 rfl rfl (by unfold vE;trivial)
instance:Df B 2 "_law_others" (spL B.G qH):=gL4 rfl Y.f.q100 rfl (by unfold sH;trivial)
instance:Df B 3 "_law_spec" (spF B.G sO):=gF4 rfl Y.f.q101 rfl (by unfold wG;trivial)
instance:Df B 15 "_law_world" (spF B.G tq):=gF4 rfl Y.f.q102 rfl (by unfold vG;trivial)
instance:Df B 1 "_law_of" (spN B.G y9):=gN4 rfl Y.f.q103 rfl (by unfold CK;trivial)
instance:Df B 2 "_law_due" (spP B.G vH):=gP4 rfl rfl Y.f.q104 rfl (by unfold tZ;trivial)
instance:Df B 14 "_law_right" (spF B.G qX):=gF5 ["_law_world_here", "_law_spec_here", "_law_at", "_law_marks", "_law_stand", "_law_pairs", "_law_names_here", "_law_name"] rfl Y.f.q105 rfl (by unfold vJ;trivial)
theorem L9:Bdz B (nmO (top 158)) "law" (top 158) (o9 (top 158)) 15 Hl:=by
 unfold Hl;refine Ll ?_ ?_
 all_goals trivial
end
end K11x
namespace K11x
open PySem L2 L3 L4
def HD(K:ak):Sp:=λvs H Q _=>∃(a:Addr) (ns:List Int),vs=[.ref a]/\SqL K H a (ns.map V.int)/\ns.length<=63/\∀H',Q (.bl true) H'
theorem CS{G:Bg}{H:Hp}:∀ns:List Int,Reps G H (ns.map D.int) (ns.map V.int)
 |[]=>o7
 |n::ns=>o6 (rf n) (CS ns)
theorem OI{G:Bg}:∀vs H Q E,HD G.K vs H Q E->spF G O0 vs H Q E:=λvs H Q E h=>by obtain⟨a,ns,rfl,hs,hl,k⟩:=h;refine⟨H,[.fzl (ns.map D.int)],.bl true,oM.refl _,o6 (by unfold L4.Rep;exact⟨a,_,rfl,hs,CS ns⟩) o7,SZ ns hl,λv H0' H' _ _ _ _ r=>?_⟩;unfold L4.Rep at r;subst r;exact k H'
section
variable{K:ak}{x m q:Str}{st:Stmt}{f C:Addr}{oc:aa}{od:Option Addr}{kV doc pm:aa}{an:Option Addr}{cdv ct:aa}{osl:Array (Option aa)}
theorem Ma(lk:K.lookup f=some ⟨oc,od,.func (cX x q (rN st) (o9 st) (oO st) .none kV doc pm an cdv ct),osl⟩)(hc:eD K cdv q=true)(kp:cF K (.ref f)=true):∃fd,Fun K x q st f fd:=⟨_,⟨_,_,_,_,_,_,_,_,_,rfl,lk,hc⟩,kp⟩
theorem gd_mk(h:eG K aK x=some (some (.ref f)))(lk:K.lookup f=some ⟨oc,od,.func (cX x x (rN st) (o9 st) (oO st) .none kV doc pm an cdv ct),osl⟩)(hc:eD K cdv x=true)(kp:cF K (.ref f)=true):GD K x st:=⟨f,(Ma lk hc kp).imp λ_ F=>⟨h,F⟩⟩
theorem gm_mk(h:cb K (.ref C) m=some (some (.ref f)))(hf:ib K (.ref f)=true)(lk:K.lookup f=some ⟨oc,od,.func (cX m q (rN st) (o9 st) (oO st) .none kV doc pm an cdv ct),osl⟩)(hc:eD K cdv q=true)(kp:cF K (.ref f)=true):GM K C m q st:=⟨f,(Ma lk hc kp).imp λ_ F=>⟨h,hf,F⟩⟩
end
theorem all_mk{l:eE}{w:aq}{K:ak}{h:Heap}{mg:Str->Option aa}{fa:Addr}(X:K.In h)(Gn:h.Ns aK mg)(hfa:mg "law" = some (.ref fa)){C0 C1 C2 C3 C4 C5 C6 C7 C8 C9 C10 C11 C12 C13 C14:Addr}(F:Fx K C0 C1 C2 C3 C4 C5 C6 C7 C8 C9 C10 C11 C12 C13 C14):
  ∃fd:bb,(∀(s:ae) (v:aa),eF s fd ⟨[v],[]⟩ [("_law_script", v)])/\∀base:Heap,K.In base->base.Ns aK mg->se l.prog w K mg base CX0 16 fa fd ["_law_script"] (HD K):=by
 have gen:∃B:Bg,B.K=K/\B.ca 0=C0/\B.ca 1=C1/\B.ca 2=C2/\B.ca 3=C3/\B.ca 4=C4/\B.ca 5=C5/\B.ca 6=C6/\B.ca 7=C7/\B.ca 8=C8/\B.ca 9=C9/\B.ca 10=C10/\B.ca 11=C11/\B.ca 12=C12/\B.ca 13=C13/\B.ca 14=C14:=⟨⟨K,λc=>[C0,C1,C2,C3,C4,C5,C6,C7,C8,C9,C10,C11,C12,C13,C14].getD c 0⟩,rfl,rfl,rfl,rfl,rfl,rfl,rfl,rfl,rfl,rfl,rfl,rfl,rfl,rfl,rfl,rfl⟩;obtain⟨B,rfl,rfl,rfl,rfl,rfl,rfl,rfl,rfl,rfl,rfl,rfl,rfl,rfl,rfl,rfl,rfl⟩:=gen;have Z:∀base,Yx ⟨l.prog,w,mg,base,B⟩:=λbase=>⟨⟨h,X,Gn⟩,F⟩;obtain⟨f,fd,a,FF⟩:=F.q106;have e:=hfa.symm.trans (ia X Gn a);cases e;obtain⟨oc,od,kV,doc,pm,an,cdv,ct,osl,rfl,lk,hcd⟩:=FF.ex;exact⟨_,λs v=>.of_eq rfl,λbase _ _=>(GY rfl rfl rfl FF (okk (N:=nmO (top 158)) (ps:=["_law_script"]) (np:=1) (n:=8) (by kernel_rfl)).1 ((@L9 _ (Z base)).ok rfl _)).imp (OI (G:=B))⟩
theorem walk{l:eE}{q:au}{loose:List Str}{XP:(Str->Option aa)->Heap->Prop}{YP:aq->Heap->Prop}{d:DefRec}{K:fO->ak}(hn:l.most=some 63)(hdf:d.params.defaults=[])
  (hY:∀(w:aq) (h:Heap),YP w h->(K w.params).In h)
  (F:∀(w:aq) (mg:Str->Option aa) (fa:Addr) (h:Heap),(K w.params).In h->h.Ns aK mg->mg d.name=some (.ref fa)->
   ∃fd:bb,(∀(s:ae) (u:aa),eF s fd ⟨[u],[]⟩ [("_law_script", u)])/\∀base:Heap,(K w.params).In base->base.Ns aK mg->se l.prog w (K w.params) mg base CX0 16 fa fd ["_law_script"] (HD (K w.params))):
  W.WalkO q loose XP YP l.row.toRowW d [] (λf vs=>jf f vs):=
 L2.MJ (n:=63) (k:=16) (x:="_law_script") (CX:=λ_=>CX0) (sp:=λw=>HD (K w.params)) hn (by decide) hdf ⟨rfl,by decide,by decide⟩ hY F (λ_ _ a ns hl _ hS=>⟨a,ns,rfl,hS,hl,λ_=>rfl⟩) λ_ _ _ _ _ z=>z
end K11x
set_option maxHeartbeats 0
open PySem PySem.W PyProof.Rows
theorem PySem.Challenge.cw_tellworld_k11_first_stands_holds : PySem.Challenge.rw_tellworld_k11_first_stands.Holds := by
 refine hd ?_
 k_fill
 refine K11x.walk (l:=PySem.Challenge.rw_tellworld_k11_first_stands) rfl rfl (λw h Y=>Y) ?F
 case F=>
  intro w mg fa h KX G hmg;refine' K11x.all_mk KX G hmg ?Q
  case Q=>
   constructor
   all_goals as_aux_lemma=>first
   |k_is
   |kernel_rfl
   |exact⟨⟨⟨by k_is,by k_is,by k_is,by k_is⟩,by k_is,by k_is,by k_is,by k_is⟩,by k_is,by k_is,by kernel_rfl⟩
   |exact⟨_,by k_is⟩
   |exact K11x.gd_mk (by k_is) (by k_is) (by k_is) (by k_is)
   |exact⟨_,_,by k_is,⟨_,_,_,_,_,_,_,_,_,rfl,by k_is,by k_is⟩,by k_is⟩
   |exact K11x.gm_mk (by k_is) (by k_is) (by k_is) (by k_is) (by k_is)
   |exact⟨_,_,_,_,by k_is,by k_is,by rfl,by rfl,by simp,by repeat' first|exact .nil|exact .cons rfl .nil|refine .cons rfl ?_⟩
   |exact⟨_,_,_,_,[_],_,by k_is,by k_is,⟨⟨_,_,_,_,_,_,_,_,_,rfl,by k_is,by k_is⟩,by k_is⟩,by k_is,by rfl,.cons (by first|rfl|exact⟨_,rfl⟩) .nil⟩
   |exact⟨_,_,_,_,[_,_,_],_,by k_is,by k_is,⟨⟨_,_,_,_,_,_,_,_,_,rfl,by k_is,by k_is⟩,by k_is⟩,by k_is,by rfl,.cons (by first|rfl|exact⟨_,rfl⟩) (.cons (by first|rfl|exact⟨_,rfl⟩) (.cons (by first|rfl|exact⟨_,rfl⟩) .nil))⟩
end
