import PyProof.Rows.All
import Open.Pieces
import OpenK.KLine
import PySem.Challenge.RW_tellworld_k19_whole_stands_that_go_on
import Wide.All
import OpenK.AllK
import Wide.FinOn
import PyProof.EqAt
import PyProof.EqKinds
import PyProof.TupleCall
import PyProof.StrWalks
import PyProof.ConsumeWalk
import PyProof.NeKinds
import PyProof.Rows.SetFrom
import KE.KIsAll
import PyProof.WalksMore
import PyProof.TupleKey
import PyProof.DictWalks
import PyProof.Rows.ZipGen
import KE.KDictLaws
import PyProof.DictItems
import KE.KSortTup
import PyProof.TupleOfSeq
import PyProof.Rows.SortStr
import PyProof.Rows.StrInSeq3
import PyProof.TupleIter
import KE.KDictOf
import PyProof.CollectWalk
import PyProof.Rows.SeqMore
set_option compiler.extract_closed false
noncomputable section
open List renaming length_map->ah,length_append->aJ,map_cons->ay,mem_map->av,getElem?_eq_getElem->aS,length_cons->aI,map_map->aF,mem_cons->aL,mem_cons_self->aW,mem_cons_of_mem->bj,map_append->aT,size_toArray->aX,length_singleton->bt,getElem?_map->bc,append_assoc->bo,getElem?_eq_some_iff->bN,mem_singleton->bx,append_nil->bp,nil_append->bq,all_eq_true->bw,mem_append_right->bO,getElem?_set->bG,mem_filter->bA,length_take->bH,not_mem_nil->bI,mem_append_left->bT,getD_eq_getElem?_getD->cB,nodup_append->bK,length_replicate->cg,mem_of_getElem?->cj,mem_map_of_mem->cp,range->br,getElem?_append_right->c6,filter_cons->bX,getElem?_append_left->c7,nodup_cons->ck,mem_range->bY,length->bL,map_nil->bS,mem_append->cq,length_drop->cR,zipWith_cons_cons->dW,map_congr_left->dA,length_filter_le->dX,getElem?_drop->dB,zip_cons_cons->dD,find?_cons->c8,lookup_cons->dE,getElem?_replicate->fM,length_set->dF,countP_eq_length_filter->gY,zipWith->cW,lookup->cJ,all_cons->de,any_eq_true->eB,map_id->cX,any_cons->dG,getElem_mem->eW,filter_cons_of_pos->hG,getElem?_set_self->hJ,length_zip->eZ,getElem?_eq_none->hZ,length_range->fW,drop_eq_getElem_cons->jj,map_take->fj,length_nil->f6,mem_filterMap->il,mem_singleton_self->jk,replicate->f7,take_sublist->ip,getElem?_zipWith->jm,map_drop->gf,zip_map'->gj,getElem?_set_ne->jn,mem_iff_getElem->jo,of_mem_zip->iz,filter_nil->iB,filterMap_cons->jr,length_zipWith->js,getElem_of_mem->jt,filter_eq_self->ju,mergeSort_perm->jv,nodup_nil->iF,idxOf_lt_length_iff->lu,getElem_inj->jE,getElem?_cons_succ->lA,filter_cons_of_neg->lC,drop_eq_nil_of_le->lE,take_of_length_le->lF,length_pos_of_mem->lH,forIn_cons->jI,contains_iff_mem->lK,countP_mono_left->lL,mem_of_mem_drop->lQ,getElem?_range->lV,length_pos_iff->lW,contains_cons->l5,filter_append->md,filter_filter->me,ne_nil_of_mem->mf,ext_getElem?->mh,any_eq_false->mj,map_fst_zip->mL,zipIdx_cons->mM,zip_append->mR,foldl_cons->mS,idxOf_cons->mU,zipIdx_nil->mV,filter_map->mY,forIn_nil->m9,drop_zero->ng,drop_nil->nz,all_map->nE,map->kF
open PySem.Heap renaming get?_push_of_some->aG,lt_size->aM,get?_push_size->ba,size_push->cv,get?_update_other->fO,get?_update_self->ib,SameBut->eG
open PySem renaming wpAny_bind->ai,Value->aa,Shared->af,wpAny_pure->aB,Program->aD,Around->aH,World->aw,sizeLine_eq->bC,Spec->nZ,wpAny_mono->bM,wpAny_truthy_bool->cO,FuncData->bD,wpAny_holding->cE,codeAny_builtin->c9,wpAny_Call_Name_kw->dZ,wpAny_seqItems->dc,wpAny_field->cF,IsPair->bE,wpAny_passesOwn->eE,wpAny_pyIter_list->eS,mem_of_lookup->fQ,wpAny_call_entry->eX,wpAny_callSpecial?_slot->hE,tupleKind_room_in1->fR,wpAny_setField_rec->fS,wpAny_setState_of->fV,plainId_quiet->fi,codeAny_mono->fm,NameKind->cZ,wpAny_newObj_type->iq,wpAny_pyIter_zip->iw,wpAny_execs_nil->iy,call_meetsIn->gm,wpAny_pyIter_tuple->jw,IsZip->bU,ZipApart->dN,wpAny_letOwnedTupleGo_zip->lp,wpAny_Call_method->jC,Builtin->di,Paired->eI,CmpOp->cn,wpAny_forIn_list->jF,Keyword->dO,call_meets->gu,Scope->cy,wpAny_specialOf->jH,wpAny_updateSeq->jK,wpAny_isTrue_Compare1->lI,wpAny_eqIsQuiet_tuple->lJ,isSubtype_type->jM,wpAny_updateSeq_pair->lP,wpAny_newList->jS,wpAny_onRaise->jT,Result->dP,wpAny_pyHash_tuple->l7,wpAny_rule->iN,Within->jW,GenState->gw,BindsTo->fA,slot_list_getitem->mm,wpAny_typeOf->j4,wpAny_pyIter_dict->mx,PassesOwn->iO,wpAny_Name->kr,Operator->iP,wpAny_call->ku,PlainAttrs->ky,call->kz,SetTable->iR,boot_len->m6,Params->gB
open Prod renaming fst->au,snd->eJ
open Bool renaming false_ne_true->bb,and_eq_true->aY,eq_iff_iff->cD,false_eq_true->ee,not_eq_true'->eV,eq_false_iff->ir,or_eq_false_iff->jq,or_eq_true->jJ,and_comm->jU,and_false->m5,or_false->ni,false_or->nu,rec->kE
open Nat renaming le_refl->aK,ne_of_lt->aU,lt_of_lt_of_le->bR,le_trans->bQ,lt_succ_of_lt->cP,zero_le->bZ,lt_irrefl->cU,lt_of_succ_lt_succ->fP,lt_succ_self->eA,le_add_right->eC,ne_of_gt->dH,min_eq_left->fg,ble_eq->dg,le_of_lt->eF,min_self->fo,le_succ->fq,lt_of_le_of_lt->jA,ble->dj,beq->eK,add_right_comm->lX,beq_refl->jV,le_of_eq->jX,sub_self->j6,le_of_not_lt->mH,not_lt_zero->mW
open PySem.W renaming Frag->ar,kia_one->cm,emptyDict->df,findIn->cG,kitOne->cH,keepIn->cY,instObj->dM,fnOf->dm,codeIn->fw,OpenLaw->fz,plainGet_of->jO,plainGet->iJ,callWith_K->j3,cellsFrom_some->mE,methodObj->j7,hasDictIn->j8,kitx_list->j9,kitx_dict->kj,methodCall_KW->mQ,lookIn->iQ,kas_sort->iU,nsIn->fC,takerIn->kC,kas_ask->iV,mg_of->iW
open Option.some renaming inj->bP
open Int renaming eq_ofNat_of_zero_le->cI,toNat_natCast->eU,emod_lt_of_pos->ma,le_refl->kq,emod_nonneg->mX
open PyProof.Rows.F renaming plain_set_update_loop->dv,entry_set_update_loop->fN
open PySem.Builtin.SmallTypes renaming nextOf->dU,ownedTupleIsFree->gX,ownedTupleHandOut->kW
open PySem.SetTable.probe renaming go->cQ
open PySem.Around renaming under_plainId->dw,under->jY
open PySem.Calls renaming spliced_cons->dY,callWith_builtin->hU,spliced_nil->fT,evalArgs_plain->ie,Name_function_global->lh,call_function_entry->lq
open PySem.Builtin.List renaming listTooLong->fL,listExtendWith->kZ,listLengthHint->lg,listSameRef->ly
open PyProof.Rows renaming StrsAre->eQ,AllBare->dh,subscriptTail_builtinR->lD,listUpdate_at->jR,SortKind->gx,seqEpoch_at->km,boot_sorted->ko,IntsAre->gz,Subscript_->kx,IsTup->fD
open PySem.SetTable renaming insertAt->eh,below->f9,has->gn,Probe->iC,fresh->iE,bits->iG,runEnd->jL,fill->jP,put->j5,gaveWay->mJ,tooFull->mK,slot->ny
open False renaming elim->cx
open PySem.F renaming slot_tuple_iterator_next->gZ,called_set->dJ,slot_dict_get->eY,plainAttrs_list->fX,entry_dict_get->iu,args_tuple_iterator_next_1->kX,slot_zip_next->iA,entry_tuple_iterator_next->kY,slot_list_append->jy,slot_list_extend->jz,plainAttrs_dict->jD,slot_dict_setdefault->lG,args_list_extend_2->lM,sub_list_frozenset->lN,entry_list_extend->lU,args_tuple_add_2->l4,type_list_append->l9,entry_tuple_add->ml,args_dict_get_2->mr,args_dict_get_3->mw,slot_list_index->my,args_zip_next_1->mB,plain_list_iadd->mC,slot_tuple_add->mF,entry_zip_next->mN,slot_list_pop->mO,type_dict_get->mP,plain_set_new->mT
open Option renaming map_some->eD,isSome_map->mq,getD_none->mG,getD_some->mI
open PySem.Obj renaming mapSeq->cK,data_mapFields->l8,putSet->kB
open Classical renaming choose_spec->ic,choose->fZ
open PySem.SetTable.below renaming go->fU
open List.Sublist renaming refl->fY
open Array renaming length_toList->ig,getElem?_toList->jl,perm_iff_toList_perm->lj,forIn_toList->l6,toList->nD
open PySem.Heap.SameBut renaming update->ik
open Ne renaming symm->cM
open Nat.succ renaming inj->gq
open PySem.SeqAt.EqAt renaming str_str->jx,of_refs->jB,same->jG,int_str->lY,str_int->lZ
open PySem.AutoSeq1 renaming wpAny_loadPart'->lr
open PySem.Str renaming ofString->iH
open Sum.inr renaming inj->iI
open LawfulBEq renaming eq_of_beq->gv
open PySem.Paired renaming length->jN,snoc->nH
open PySem.Shared renaming TypeIs->jQ,heap->nI
open PySem.SeqAt renaming EqAt->iK
open PySem.Walks renaming list->iM,dictKeys->m7
open PySem.Code renaming isFrame->jZ
open PySem.Moved renaming trans->kl
open PySem.Builtin.Frozenset renaming updateFrom->nW,newClass->nX
open PySem.PassesOwn renaming never->mZ
open PySem.Txt renaming mul->gA
open List.Perm renaming refl->m8
open PySem.Value renaming isStrOf->nh,isInt->nG
open Prod.mk renaming inj->nF
open PySem.Heap.IsSliceOf renaming new->nY
open PySem.W.WShape renaming has->nJ
def aj:=@if_pos
def ak:=@if_neg
def aR:=@decide_eq_false
def ao:=@absurd
def bu:=@decide_eq_true_eq
def aZ:=@decide_eq_true
def bz:=@of_decide_eq_true
def aP:=@congrArg
abbrev bW:=List (PySem.Addr×PySem.Obj)
abbrev aE:=List PySem.Str
set_option Elab.async false
set_option linter.all false
namespace L5
open PySem PySem.W
noncomputable def pick(l:List Obj):Nat->List Addr->List Obj:=
 @List.rec Obj (λ_=>Nat->List Addr->List Obj) (λ_ _=>[])
  (λo _ ih i as=>@List.rec Addr (λ_=>List Obj) [] (λa r _=>@kE (λ_=>List Obj) (ih (Nat.succ i) as) (o::ih (Nat.succ i) r) (eK a i)) as) l
theorem KJ(i:Nat)(as:List Addr):pick [] i as=[]:=rfl
theorem NY(o:Obj)(l:List Obj)(i:Nat)(r:List Addr):pick (o::l) i (i::r)=o::pick l (i+1) r:=by show @kE (λ_=>List Obj) _ _ (eK i i)=_;rw[jV];rfl
theorem NZ(o:Obj)(l:List Obj)(i a:Nat)(r:List Addr)(h:a≠i):pick (o::l) i (a::r)=pick l (i+1) (a::r):=by
 show @kE (λ_=>List Obj) _ _ (eK a i)=_;have:eK a i=false:=by
  cases q:eK a i with
  |false=>rfl
  |true=>exact ao (Nat.eq_of_beq_eq_true q) h
 rw[this];rfl
theorem D7:∀(l:List Obj) (i:Nat) (as:List Addr),(pick l i as).length=as.length->∀j (hj:j<as.length),∃b,as[j]=i+b/\l[b]?=(pick l i as)[j]?
 |[],i,as,h,j,hj=>by rw[KJ]at h;simp at h;omega
 |o::l,i,[],h,j,hj=>by simp at hj
 |o::l,i,a::r,h,j,hj=>by
  by_cases q:a=i
  ·subst q;rw[NY]at h ⊢;cases j with
   |zero=>exact⟨0,rfl,rfl⟩
   |succ j=>obtain⟨b,e1,e2⟩:=D7 l (a+1) r (by simpa using h) j (by simpa using hj);exact⟨b+1,by rw[List.getElem_cons_succ,e1];exact lX a 1 b,by simpa using e2⟩
  ·rw[NZ _ _ _ _ _ q]at h ⊢;obtain⟨b,e1,e2⟩:=D7 l (i+1) (a::r) h j hj;exact⟨b+1,by rw[e1];exact lX i 1 b,by simpa using e2⟩
def live(o:Obj):Bool:=match o with|⟨_,_,.freed,_⟩=>false|_=>true
theorem N0{h:Heap}{as:List Addr}{K:Frag}(e:as=K.map (·.1))(x:(pick h.objs.toList 0 as,K.all λp=>live p.2)=(K.map (·.2),true)):K.In h:=by
 obtain⟨x1,x2⟩:=nF x;refine Frag.in_of e (mh λj=>?_);rw[bc,bc];by_cases hj:j<as.length
 ·have hl:(pick h.objs.toList 0 as).length=as.length:=by rw[x1,e,ah,ah]
  obtain⟨b,e1,e2⟩:=D7 _ _ _ hl j hj;have hk:j<K.length:=by rw[e,ah]at hj;exact hj
  rw[aS hj,aS hk,eD,eD,e1,Nat.zero_add];have e3:h.objs[b]?=some (K[j].2):=by rw[<-jl,e2,x1,bc,aS hk];rfl
  have lv:live K[j].2=true:=bw.mp x2 _ (eW hk);refine aP some ?_;unfold Heap.get?;rw[e3];revert lv;cases K[j].2 with
  |mk c d data sl=>cases data<;>intro lv<;>first|rfl|cases lv
 ·rw[hZ (by omega),hZ (by rw[e,ah]at hj;omega)];rfl
noncomputable def Vn(K:gB->Frag) (as:List Addr) (e:∀P,as=(K P).map (·.1)):Hook:=
 ⟨List Obj×Bool,λs=>(pick s.heap.objs.toList 0 as,true),λw=>((K w.params).map (·.2),(K w.params).all λp=>live p.2),InK K,λw s x=>N0 (e w.params) (by
  obtain⟨x1,x2⟩:=nF x;rw[x1,<- x2]),InK.keeps⟩
end L5
section
open PySem PySem.W PyProof.Rows
local macro_rules|`(tactic|o_head ($f:ident $k $as $e))=>`(tactic|o_head ((L5.Vn $k $as (fun _=>by kernel_rfl)):W.Hook))
local macro_rules|`(command|#where)=>do
 let mut r:=#[]
 for n in [43:1664] do
  let x:=Lean.mkIdent (.mkSimple s!"tw{((Lean.Name.mkSimple "hd").str s!"o_{n}").hash}")
  r:=r.push ((<-`(command|noncomputable def $x:ident:=0)).raw.rewriteBottomUp (·.setInfo .none))
 return Lean.mkNullNode r
noncomputable section
namespace PySem.W.Fast
def tw12077474154388239109:=0
def tw17755456524704518848:=0
def tw7926312261625145857:=0
def tw4848542546449845794:=0
def tw8479686402777554851:=0
def tw690539893999619301:=0
def tw10784835557568832518:=0
def tw12050088829047553478:=0
def tw1510512221939157255:=0
def tw9493307185956880263:=0
def tw10618743133412781800:=0
def tw10936866684095244136:=0
def tw10374632558016547081:=0
def tw7865408815302691273:=0
def tw206458477050631689:=0
def tw938635154573522699:=0
def tw7143520056324069004:=0
def tw8726500145642417389:=0
def tw5607698405151115213:=0
def tw16828129974981846989:=0
def tw7774113678449685934:=0
def tw5023916636826838767:=0
def tw5119592772111757363:=0
def tw861502493610598483:=0
def tw4549447344703680948:=0
def tw14910613300190220630:=0
def tw705470853714331063:=0
def tw1917735166467751639:=0
def tw8941563568301809816:=0
def tw5966552467048675640:=0
def tw11002120707571147929:=0
def tw750218472590112377:=0
def tw9156113097813270425:=0
def tw5344885176932410299:=0
def tw7108796968134382751:=0
def tw1116146690788884255:=0
def tw6224317950195768104:=0
def tw8367103232821184762:=0
def tw9823988804889866712:=0
def tw16734282123248807945:=0
def tw15251899222009183613:=0
def tw13016657774998077994:=0
def tw17642094074435816589:=0
def tw13347621489011750686:=0
def tw8997383693586321770:=0
def tw13322777563574152365:=0
def tw9832848269775039430:=0
def tw5180337823426109992:=0
def tw752118400600539990:=0
def tw14545308433070355010:=0
#where
end PySem.W.Fast
end
set_option maxRecDepth 100000 in
set_option maxHeartbeats 0 in
open_top hd for PySem.Challenge.rw_tellworld_k19_whole_stands_that_go_on
end
set_option maxRecDepth 100000
namespace L2
open PySem PySem.Spec PyProof.Rows
abbrev Key:=Sum Int Str
def CY:Key->aa->Bool
 |.inl k,v=>nG k v
 |.inr x,v=>nh x v
def WY(w:aw):Key->Int
 |.inl k=>hashInt k
 |.inr x=>hashStr w x
theorem pP:∀{k:Key} {v:aa},CY k v=true->(∃i t,k=Sum.inl i/\v=Value.int i t)\/(∃x t,k=Sum.inr x/\v=Value.str x t)
 |.inl i,v,h=>by obtain⟨t,e⟩:=Value.isInt_shape (k:=i) (v:=v) h;exact .inl ⟨i,t,rfl,e⟩
 |.inr x,v,h=>by obtain⟨t,e⟩:=Value.isStrOf_shape (x:=x) (v:=v) h;exact .inr ⟨x,t,rfl,e⟩
theorem Jr(i:Int)(t:Tok):CY (.inl i) (.int i t)=true:=by simp[CY,nG]
theorem Js(x:Str)(t:Tok):CY (.inr x) (.str x t)=true:=by simp[CY,nh]
theorem Q2(a b:Int):decide ((Sum.inl a:Key)=Sum.inl b)=(a==b):=by
 by_cases e:a=b
 ·subst e;simp
 ·have h:¬(Sum.inl a:Key)=Sum.inl b:=λq=>e (Sum.inl.inj q);rw[aR h];exact(beq_eq_false_iff_ne.mpr e).symm
theorem Q3(a b:Str):decide ((Sum.inr a:Key)=Sum.inr b)=decide (a=b):=by
 by_cases e:a=b
 ·subst e;simp
 ·have h:¬(Sum.inr a:Key)=Sum.inr b:=λq=>e (iI q);rw[aR h,aR e]
theorem Q4(a:Int)(b:Str):decide ((Sum.inl a:Key)=Sum.inr b)=false:=aR (λq=>nomatch q)
theorem Q5(a:Str)(b:Int):decide ((Sum.inr a:Key)=Sum.inl b)=false:=aR (λq=>nomatch q)
def oO(prog:aD)(w:aw):PySem.KeyKind prog w Key where
 is:=CY
 hash:=WY w
 inj:=λv a b ha hb=>by
  rcases pP ha with ⟨i,t,rfl,rfl⟩|⟨x,t,rfl,rfl⟩
  ·rcases pP hb with ⟨j,u,rfl,e⟩|⟨y,u,rfl,e⟩
   ·injection e with e1 _;rw[e1]
   ·exact nomatch e
  ·rcases pP hb with ⟨j,u,rfl,e⟩|⟨y,u,rfl,e⟩
   ·exact nomatch e
   ·injection e with e1 _;rw[e1]
 byValue:=λk v h=>by rcases pP h with ⟨i,t,rfl,rfl⟩|⟨x,t,rfl,rfl⟩<;>rfl
 pyHash:=λhv h=>by
  rcases pP hv with ⟨i,t,rfl,rfl⟩|⟨x,t,rfl,rfl⟩
  ·exact wpAny_pyHash_int h
  ·exact wpAny_pyHash_str h
 eqBool:=λhu hv h=>by
  rcases pP hu with ⟨i,t,rfl,rfl⟩|⟨x,t,rfl,rfl⟩
  ·rcases pP hv with ⟨j,u,rfl,rfl⟩|⟨y,u,rfl,rfl⟩
   ·rw[Q2]at h;exact wpAny_eqBool_int h
   ·rw[Q4]at h;exact lY i t y u _ _ _ _ h
  ·rcases pP hv with ⟨j,u,rfl,rfl⟩|⟨y,u,rfl,rfl⟩
   ·rw[Q5]at h;exact lZ x t j u _ _ _ _ h
   ·rw[Q3]at h;exact wpAny_eqBool_str h
 «strs»:=λk x t v h=>by
  rcases pP h with ⟨i,u,rfl,e⟩|⟨y,u,rfl,e⟩
  ·exact nomatch e
  ·injection e with e1 _;subst e1;cases v<;>rfl
theorem EZ(prog:aD)(w:aw)(i:Int)(t:Tok):(oO prog w).is (.inl i) (.int i t)=true:=Jr i t
theorem E1(prog:aD)(w:aw)(x:Str)(t:Tok):(oO prog w).is (.inr x) (.str x t)=true:=Js x t
inductive V where
 |non|bl (b:Bool)|int (i:Int)|str (x:Str)|byt (b:Array UInt8)|flt (b:UInt64)|ref (a:Addr)|ty (n:String)
 deriving DecidableEq
abbrev bh:=List V
def RelV:V->aa->Prop
 |.non,u=>u=Value.none
 |.bl b,u=>u=Value.bool b
 |.int i,u=>∃t,u=Value.int i t
 |.str x,u=>∃t,u=Value.str x t
 |.byt b,u=>∃t,u=Value.bytes b t
 |.flt b,u=>∃t,u=Value.float b t
 |.ref a,u=>u=Value.ref a
 |.ty n,u=>u=Value.type n
abbrev Vals:bh->List aa->Prop:=eI RelV
variable{us:List aa}
theorem Vals.length{xs:bh}(r:Vals xs us):xs.length=us.length:=jN r
theorem Vals.get:∀{xs:bh} {us:List aa} {i:Nat} {x:V},Vals xs us->xs[i]?=some x->∃u,us[i]?=some u/\RelV x u
 |_,_,_,_,.nil,e=>by simp at e
 |_,_,0,_,.cons r _,e=>by simp at e;subst e;exact⟨_,rfl,r⟩
 |_,_,i+1,x,.cons _ t,e=>by obtain⟨u,h1,h2⟩:=Vals.get (i:=i) (x:=x) t (by simpa using e);exact⟨u,by simpa using h1,h2⟩
variable{u:aa}
theorem Vals.set{x:V}(r:RelV x u):∀{xs:bh} {us:List aa} (i:Nat),Vals xs us->Vals (xs.set i x) (us.set i u)
 |_,_,_,.nil=>.nil
 |_,_,0,.cons _ t=>.cons r t
 |_,_,i+1,.cons q t=>.cons q (Vals.set r i t)
theorem Vals.append:∀{xs ys:bh} {us ws:List aa},Vals xs us->Vals ys ws->Vals (xs++ys) (us++ws)
 |_,_,_,_,.nil,s=>s
 |_,_,_,_,.cons r t,s=>.cons r (Vals.append t s)
theorem Vals.take:∀{xs:bh} {us:List aa} (n:Nat),Vals xs us->Vals (xs.take n) (us.take n)
 |_,_,0,_=>.nil
 |_,_,_+1,.nil=>.nil
 |_,_,n+1,.cons r t=>.cons r (Vals.take n t)
theorem Vals.drop:∀{xs:bh} {us:List aa} (n:Nat),Vals xs us->Vals (xs.drop n) (us.drop n)
 |_,_,0,r=>r
 |_,_,_+1,.nil=>.nil
 |_,_,n+1,.cons _ t=>Vals.drop n t
def wC:Option V->Option aa->Prop
 |some v,some u=>RelV v u
 |none,none=>True
 |_,_=>False
def KV{κ:Type}:List (κ×V)->List (κ×aa)->Prop:=eI λ(p:κ×V) (q:κ×aa)=>p.1=q.1/\RelV p.2 q.2
def kV:Key->V
 |.inl i=>.int i
 |.inr x=>.str x
inductive HO where
 |lst (xs:bh)
 |tup (xs:bh)
 |dK (kvs:List (Key×V))|dT (kvs:List (List Key×V))
 |set (S:Int->Bool) (n:Nat)
 |ins (C dx:Addr) (fs:List (Str×V))
 |own (x:Addr)
 |xd (fs:List (Str×V))
 |met (f x:Addr)
 |rng (lo hi:Int)
 |frz (o:Obj) (u:HO)
 |tbl (ps:Array aa)
 |ext (φ:Heap->Prop)
abbrev Hp:=Addr->Option HO
def upd(H:Hp)(a:Addr)(o:HO):Hp:=λb=>if b=a then some o else H b
variable{a:Addr}
theorem oq{H:Hp}{o:HO}:upd H a o a=some o:=by unfold upd;rw[aj rfl]
variable{b:Addr}
theorem oo{H:Hp}{o:HO}(h:b≠a):upd H a o b=H b:=by unfold upd;rw[ak h]
theorem Vo{H:Hp}{o u:HO}(h:H a=some o)(h':H b=some u)(d:o≠u):a≠b:=by intro e;subst e;rw[h]at h';exact d (bP h')
theorem qW{H:Hp}{o:HO}(h:H a=some o)(h':H b=none):a≠b:=by intro e;subst e;rw[h]at h';cases h'
section
variable(P:aD)(w:aw)
def pI(H:Hp)(h:Heap)(a:Addr):HO->Prop
 |.lst xs=>xs.length<=sizeLine/\∃(its:List aa) (n:Nat),Vals xs its/\h.get? a=some { cls:=.type "list", data:=.seq its.toArray n }
 |.tup xs=>xs.length<=sizeLine/\∃its:List aa,Vals xs its/\fD h a its.toArray
 |.dK kvs=>kvs.length<=sizeLine/\(a==sysModules)=false/\∃vs,KV kvs vs/\h.DictOf (oO P w) a vs
 |.dT kvs=>kvs.length<=sizeLine/\(a==sysModules)=false/\∃xs:List (List Key×Addr×aa),
   eI (λ(p:List Key×V) (q:List Key×Addr×aa)=>p.1=q.1/\H q.2.1=some (.tup (p.1.map kV))/\RelV p.2 q.2.2) kvs xs/\
   ∃o es ep,h.get? a=some o/\o.ExactDict/\o.data=.dict es ep/\es.toList=xs.map (entryOfKey (tupleKind (oO P w)))/\(xs.map (·.1)).Nodup
 |.set S n=>h.SetOf (intKind P w) a S n
 |.ins C dx fs=>H dx=some (.own a)/\fs.length<=1000/\dx≠a/\h.get? a=some (dM C dx)/\
   ∃mA,h.Ns1 dx mA/\(∀f,wC (fs.lookup f) (mA f))/\jW mA (fs.map (·.1))
 |.own _=>∃o,h.get? a=some o
 |.xd fs=>∃mA,h.Ns1 a mA/\∀f,wC (fs.lookup f) (mA f)
 |.rng lo hi=>∃t u v,h.get? a=some { cls:=.type "range", data:=.fields #[.int lo t,.int hi u,.int 1 v] }
 |.frz o u=>h.get? a=some o/\pI H h a u
 |.tbl ps=>h.get? a=some { cls:=.none,data:=.fields ps }
 |.met f x=>h.get? a=some (j7 (.ref f) (.ref x))
 |.ext φ=>φ h/\(∃o,h.get? a=some o)/\∀h1 h2:Heap,φ h1->(∀o,h1.get? a=some o->h2.get? a=some o)->φ h2
def HOk(H:Hp)(h:Heap):Prop:=∀a o,H a=some o->pI P w H h a o
end
section
variable{P:aD}{w:aw}{H H':Hp}{h h':Heap}{a:Addr}{o:HO}
theorem pI.lt(x:pI P w H h a o):a<h.objs.size:=by
 cases o with
 |lst xs=>obtain⟨_,_,_,_,e⟩:=x;exact aM e
 |tup xs=>obtain⟨_,_,_,p⟩:=x;exact p.lt
 |dK kvs=>obtain⟨_,_,_,_,o,_,_,e,_⟩:=x;exact aM e
 |dT kvs=>obtain⟨_,_,_,_,o,_,_,e,_⟩:=x;exact aM e
 |set S n=>obtain⟨o,_,_,_,e,_⟩:=x;exact aM e
 |ins C dx fs=>obtain⟨_,_,_,e,_⟩:=x;exact aM e
 |own y=>obtain⟨_,e⟩:=x;exact aM e
 |xd fs=>obtain⟨_,⟨_,_,_,e,_⟩,_⟩:=x;exact aM e
 |rng lo hi=>obtain⟨_,_,_,e⟩:=x;exact aM e
 |frz ob u=>obtain⟨e,_⟩:=x;exact aM e
 |tbl ps=>exact aM (show h.get? a=some _ from x)
 |met f y=>exact aM (show h.get? a=some _ from x)
 |ext φ=>obtain⟨_,⟨_,e⟩,_⟩:=x;exact aM e
theorem Paired.mapP{α β:Type}{F G:α->β->Prop}:∀{l₁:List α} {l₂:List β},eI F l₁ l₂->(∀a b,F a b->G a b)->eI G l₁ l₂
 |_,_,.nil,_=>.nil
 |_,_,.cons r t,f=>.cons (f _ _ r) (Paired.mapP t f)
theorem pI.stay(x:pI P w H h a o)(k:∀b u,(b=a\/H b=some (.own a))->h.get? b=some u->h'.get? b=some u)
  (ho:∀b,H b=some (.own a)->H' b=some (.own a)) (ht:∀b xs,H b=some (.tup xs)->H' b=some (.tup xs)):pI P w H' h' a o:=by
 induction o with
 |lst xs=>obtain⟨z,its,n,r,e⟩:=x;exact⟨z,its,n,r,k _ _ (.inl rfl) e⟩
 |tup xs=>obtain⟨z,its,r,ob,e,c⟩:=x;exact⟨z,its,r,ob,k _ _ (.inl rfl) e,c⟩
 |dK kvs=>obtain⟨z,y,vs,r,ob,es,ep,e,c⟩:=x;exact⟨z,y,vs,r,ob,es,ep,k _ _ (.inl rfl) e,c⟩
 |dT kvs=>obtain⟨z,y,xs,r,ob,es,ep,e,c⟩:=x;exact⟨z,y,xs,Paired.mapP r λp q z=>⟨z.1,ht _ _ z.2.1,z.2.2⟩,ob,es,ep,k _ _ (.inl rfl) e,c⟩
 |set S n=>obtain⟨ob,es,ep,t,e,c⟩:=x;exact⟨ob,es,ep,t,k _ _ (.inl rfl) e,c⟩
 |ins C dx fs=>obtain⟨d,z,ne,e,mA,⟨od,es,ep,e2,c⟩,r⟩:=x;exact⟨ho _ d,z,ne,k _ _ (.inl rfl) e,mA,⟨od,es,ep,k _ _ (.inr d) e2,c⟩,r⟩
 |own y=>obtain⟨ob,e⟩:=x;exact⟨ob,k _ _ (.inl rfl) e⟩
 |xd fs=>obtain⟨mA,⟨od,es,ep,e,c⟩,r⟩:=x;exact⟨mA,⟨od,es,ep,k _ _ (.inl rfl) e,c⟩,r⟩
 |rng lo hi=>obtain⟨t,u,v,e⟩:=x;exact⟨t,u,v,k _ _ (.inl rfl) e⟩
 |frz ob u ih=>obtain⟨e,q⟩:=x;exact⟨k _ _ (.inl rfl) e,ih q⟩
 |tbl ps=>have e:h.get? a=some { cls:=.none,data:=.fields ps }:=x;show h'.get? a=some { cls:=.none,data:=.fields ps };exact k a _ (.inl rfl) e
 |met f y=>have e:h.get? a=some (j7 (.ref f) (.ref y)):=x;show h'.get? a=some (j7 (.ref f) (.ref y));exact k a _ (.inl rfl) e
 |ext φ=>obtain⟨p,⟨o,e⟩,st⟩:=x;exact⟨st _ _ p λo q=>k _ _ (.inl rfl) q,⟨o,k _ _ (.inl rfl) e⟩,st⟩
theorem HOk.lt(x:HOk P w H h)(e:H a=some o):a<h.objs.size:=(x a o e).lt
theorem HOk.fresh(x:HOk P w H h)(e:h.objs.size<=a):H a=none:=by
 cases q:H a with
 |none=>rfl
 |some u=>exact ao (bR (x.lt q) e) (cU _)
theorem HOk.kept(x:HOk P w H h)(k:∀b u,h.get? b=some u->h'.get? b=some u):HOk P w H h':=λa o e=>
 (x a o e).stay (λb u _ q=>k b u q) (λ_ q=>q) λ_ _ q=>q
theorem HOk.laid(x:HOk P w H h)(k:∀b u,h.get? b=some u->h'.get? b=some u)(hp:h.objs.size<=a)(new:pI P w (upd H a o) h' a o):HOk P w (upd H a o) h':=λb u e=>by
 have hn:=x.fresh hp;by_cases hb:b=a
 ·subst hb;rw[oq]at e;cases e;exact new
 ·rw[oo hb]at e;exact(x b u e).stay (λc v _ q=>k c v q) (λc q=>by rw[oo (qW q hn)];exact q) λc xs q=>by rw[oo (qW q hn)];exact q
end
def Rd(H:Hp)(a:Addr)(u:HO):Prop:=H a=some u\/∃o,H a=some (.frz o u)
theorem Rd.ok{P:aD}{w:aw}{H:Hp}{h:Heap}{u:HO}(r:Rd H a u)(x:HOk P w H h):pI P w H h a u:=by
 rcases r with r|⟨o,r⟩
 ·exact x a u r
 ·obtain⟨_,q⟩:=x a _ r;exact q
def Mut:Option HO->Prop
 |some (.lst _)=>True
 |some (.dK _)=>True
 |some (.dT _)=>True
 |some (.set _ _)=>True
 |some (.ins _ _ _)=>True
 |some (.ext _)=>True
 |_=>False
section
variable{P:aD}{w:aw}{H:Hp}{h h':Heap}{x e:Addr}{o':HO}
theorem HOk.write(ok:HOk P w H h)(mu:Mut (H x))(he:e=x\/H e=some (.own x))(k:∀b u,b≠e->h.get? b=some u->h'.get? b=some u)(heo:∃u,h'.get? e=some u)
  (new:pI P w (upd H x o') h' x o'):HOk P w (upd H x o') h':=λb u q=>by
 have nown:∀c y,H c=some (.own y)->c≠x:=λc y r z=>by subst z;rw[r]at mu;exact mu
 have ntup:∀c xs,H c=some (.tup xs)->c≠x:=λc xs r z=>by subst z;rw[r]at mu;exact mu
 by_cases hb:b=x
 ·subst hb;rw[oq]at q;cases q;exact new
 ·rw[oo hb]at q;by_cases hbe:b=e
  ·have q':H b=some (.own x):=by
    rcases he with z|z
    ·exact ao (hbe.trans z) hb
    ·rw[hbe];exact z
   rw[q]at q';cases q';obtain⟨v,hv⟩:=heo;exact⟨v,by rw[hbe];exact hv⟩
  ·refine(ok b u q).stay (λc v hc r=>k c v ?_ r) (λc r=>by rw[oo (nown c b r)];exact r) λc xs r=>by rw[oo (ntup c xs r)];exact r
   rcases hc with rfl|hc
   ·exact hbe
   ·rintro rfl;rcases he with z|z
    ·exact nown c b hc z
    ·rw[hc]at z;cases z;exact hb rfl
end
structure Un(fs ex:List Addr)(H H':Hp)(h h':Heap):Prop where
 keep:∀b o,h.get? b=some o->H b=none->b∉fs->b∉ex->h'.get? b=some o
 slot:∀b o,h.get? b=some o->H b=none->b∈fs->b∉ex->∃sl,h'.get? b=some { o with slots:=sl }
 free:∀b o,h.get? b=some o->H b=none->b∉ex->H' b=none
 there:∀b o,h.get? b=some o->b∉ex->∃o',h'.get? b=some o'
 tups:∀b xs,H b=some (.tup xs)->H' b=some (.tup xs)
 frzs:∀b o u,H b=some (.frz o u)->H' b=some (.frz o u)
 tbls:∀b ps,H b=some (.tbl ps)->∃more,H' b=some (.tbl (ps++more))
section
variable{fs fs' ex ex':List Addr}{H H1 H2:Hp}{h h1 h2 h':Heap}{a x e:Addr}{o:HO}
theorem Un.any(u:Un fs ex H H1 h h1){ob:Obj}(q:h.get? b=some ob)(n:H b=none)(hx:b∉ex):∃sl,h1.get? b=some { ob with slots:=sl }:=by
 by_cases hb:b∈fs
 ·exact u.slot b ob q n hb hx
 ·exact⟨ob.slots,u.keep b ob q n hb hx⟩
theorem Un.kept(k:∀b u,h.get? b=some u->h'.get? b=some u):Un fs ex H H h h':=
 ⟨λb ob q _ _ _=>k b ob q,λb ob q _ _ _=>⟨ob.slots,k b ob q⟩,λ_ _ _ n _=>n,λb ob q _=>⟨ob,k b ob q⟩,λ_ _ q=>q,λ_ _ _ q=>q,λ_ ps q=>⟨#[],by rw[q];simp⟩⟩
theorem Un.refl:Un fs ex H H h h:=Un.kept λ_ _ q=>q
theorem Un.laid(k:∀b u,h.get? b=some u->h'.get? b=some u)(hp:h.objs.size<=a)(hn:H a=none):Un fs ex H (upd H a o) h h' where
 keep:=λb u q _ _ _=>k b u q
 slot:=λb u q _ _ _=>⟨u.slots,k b u q⟩
 free:=λb u q n _=>by rw[oo (aU (bR (aM q) hp))];exact n
 there:=λb u q _=>⟨u,k b u q⟩
 tups:=λb xs q=>by rw[oo (qW q hn)];exact q
 frzs:=λb u xs q=>by rw[oo (qW q hn)];exact q
 tbls:=λb ps q=>⟨#[],by rw[oo (qW q hn),q];simp⟩
theorem Un.write(mu:Mut (H x))(he:e=x\/H e=some (.own x))(k:∀b u,b≠e->h.get? b=some u->h'.get? b=some u)(heo:∃u,h'.get? e=some u):Un fs ex H (upd H x o) h h':=by
 have hx:∀b,H b=none->b≠x:=λb n z=>by subst z;rw[n]at mu;exact mu
 have hb:∀b,H b=none->b≠e:=λb n z=>by
  subst z;rcases he with r|r
  ·exact hx b n r
  ·rw[n]at r;cases r
 have hm:∀b u,H b=some u->¬Mut (some u)->b≠x:=λb u q nm z=>by subst z;rw[q]at mu;exact nm mu
 refine⟨λb u q n _ _=>k b u (hb b n) q,λb u q n _ _=>⟨u.slots,k b u (hb b n) q⟩,λb u q n _=>by rw[oo (hx b n)];exact n,λb u q _=>?_,
  λb xs q=>by rw[oo (hm b _ q λz=>z)];exact q,λb u xs q=>by rw[oo (hm b _ q λz=>z)];exact q,λb ps q=>⟨#[],by rw[oo (hm b _ q λz=>z),q];simp⟩⟩
 by_cases hbe:b=e
 ·subst hbe;exact heo
 ·exact⟨u,k b u hbe q⟩
end
def trk(h:Heap)(H:Hp):List Addr:=(br h.objs.size).filter λa=>(H a).isSome
def D8(h:Heap)(H:Hp):Heap:=W.hideAll h (trk h H)
theorem Jt(h:Heap)(H:Hp):(D8 h H).objs.size=h.objs.size:=W.hideAll_size _ _
theorem KL{h:Heap}{H:Hp}{o:Obj}(e:h.get? b=some o)(n:H b=none):(D8 h H).get? b=some o:=
 W.hideAll_get _ e λhm=>by have q:(H b).isSome=true:=(bA.mp hm).2;rw[n]at q;simp at q
theorem N1{h:Heap}{H:Hp}{o:Obj}(e:(D8 h H).get? b=some o):h.get? b=some o/\H b=none:=by
 have e':h.get? b=some o:=W.of_hideAll (trk h H) e;refine⟨e',?_⟩;cases q:H b with
 |none=>rfl
 |some x=>have hm:b∈trk h H:=bA.mpr ⟨bY.mpr (aM e'),by simp[q]⟩;have z:(D8 h H).get? b=none:=W.hideAll_none (trk h H) hm;rw[z]at e;cases e
def N2(g h:Heap)(L:Addr):bW:=(br h.objs.size).filterMap λa=>if a=L\/(g.get? a).isSome=true then none else (h.get? a).map λo=>(a,o)
def rest(g h:Heap)(L d:Addr):bW:=(N2 g h L).filter λp=>decide (p.1≠d)
structure Mod(K:ar)(mg:Str->Option aa)(base:Heap):Prop where
 kin:K.In base
 glob:base.Ns mainGlobals mg
 blt:∃mb,base.Ns builtinsNs mb/\∀x:Str,x≠"__name__" -> mb x=bootBuiltins x
 nolimit:base.NoLimit
structure Cx where
 prog:aD
 w:aw
 K:ar
 mg:Str->Option aa
 base:Heap
 A:aH
 N:aE
 s₀:af
 H₀:Hp
 env:Env
 outer:List Env
 stack:List Env
 ex:List Addr
 fn:Str->Bool
 calm:Bool
 pn:bW
 xe:aa->af->Prop
def frs(l:List Env):List Addr:=l.filterMap (·.frame)
abbrev Cx.fs(X:Cx):List Addr:=frs X.outer
def Vis(sc:cy)(x:Str):Prop:=sc.names.lookup x=some .local\/sc.names.lookup x=some .cell\/sc.names.lookup x=some .free
def Loc(sc:cy)(x:Str):Prop:=sc.names.lookup x=some .local\/sc.names.lookup x=some .cell
def Look(env:Env)(h:Heap)(m:Str->Option aa)(x:Str)(u:aa):Prop:=
 (env.kindOf x=some .local/\m x=some u)\/((env.kindOf x=some .cell\/env.kindOf x=some .free)/\∃c,env.cells.lookup x=some c/\h.IsCell c (some u))
structure Cx.Ok(X:Cx):Prop where
 mod:Mod X.K X.mg X.base
 kind:X.env.scope.kind=.function
 glob:X.env.globals=mainGlobals
 blt:X.env.builtins=builtinsNs
 above:X.s₀.heap.objs.size<=X.env.locals
 inj:∀x y c,X.env.cells.lookup x=some c->X.env.cells.lookup y=some c->x=y
 has:∀x,(X.env.kindOf x=some .cell\/X.env.kindOf x=some .free)->∃c,X.env.cells.lookup x=some c
 cab:∀x c,X.fn x=true->X.env.cells.lookup x=some c->X.s₀.heap.objs.size<=c
 hd:X.calm=true->X.A.handled=none
 frames:X.A.frames=some X.stack
 stk:X.stack=X.outer\/(X.stack=X.env::X.outer/\X.env.frame=some X.env.locals)
 exf:∀b∈X.ex,b≠X.env.locals/\∀x c,X.env.cells.lookup x=some c->c≠b
 bs:∀b o,X.base.get? b=some o->X.s₀.heap.get? b=some o/\X.H₀ b=none
 bsz:X.base.objs.size<=X.s₀.heap.objs.size
 noex:∀b o,X.base.get? b=some o->b∉X.ex
 exfs:∀b∈X.ex,b∉X.fs
 funs:X.s₀.heap.FunFrames X.base X.outer
 frf:∀b∈X.fs,X.H₀ b=none
structure Inv(X:Cx)(pins:bW)(σ:List (Option V))(H:Hp)(s:af):Prop where
 ok:X.Ok
 os:s.os=X.s₀.os
 bare:dh s.gens
 base:Un X.fs X.ex X.H₀ H X.s₀.heap s.heap
 loc:∃m,s.heap.Ns X.env.locals m/\∀(i:Nat) (x:Str) (v:V),X.N[i]?=some x->σ[i]?=some (some v)->Vis X.env.scope x->∃u,RelV v u/\Look X.env s.heap m x u
 cell:∀x c,X.env.cells.lookup x=some c->∃v,s.heap.IsCell c v
 free:H X.env.locals=none
 freeC:∀x c,X.env.cells.lookup x=some c->H c=none
 pin:∀p∈X.pn++pins,s.heap.get? p.1=some p.2/\H p.1=none/\p.1≠X.env.locals/\p.1∉X.fs/\∀v,p.2.data≠.cell v
 hok:HOk X.prog X.w H s.heap
 len:σ.length=X.N.length
variable{g':Array gw}{t' i j:Nat}{d':Drawn}{ch:List Addr}{it:Addr}{N:aE}{M:Model}{E:aa->af->Prop}{s':af}
section
variable{X:Cx}{pins:bW}{σ:List (Option V)}{H H':Hp}{s:af}{h':Heap}
theorem Cx.Ok.nofr(ok:X.Ok){o:Obj}(e:X.base.get? b=some o):b∉X.fs:=λhb=>by have:=(ok.funs.mem hb).1;rw[e]at this;cases this
theorem Inv.bs(I:Inv X pins σ H s):∀b o,X.base.get? b=some o->s.heap.get? b=some o/\H b=none:=λb o e=>
 ⟨I.base.keep b o (I.ok.bs b o e).1 (I.ok.bs b o e).2 (I.ok.nofr e) (I.ok.noex b o e),I.base.free b o (I.ok.bs b o e).1 (I.ok.bs b o e).2 (I.ok.noex b o e)⟩
theorem Inv.bk(I:Inv X pins σ H s):∀b o,X.base.get? b=some o->s.heap.get? b=some o:=λb o e=>(I.bs b o e).1
theorem Inv.mod(I:Inv X pins σ H s):Mod X.K X.mg X.base:=I.ok.mod
theorem Inv.kIn(I:Inv X pins σ H s):X.K.In s.heap:=I.ok.mod.kin.keeps I.bk
theorem Inv.fr(I:Inv X pins σ H s):∃m,Fr X.base X.env.locals s.heap m:=
 let ⟨m,hn,_⟩:=I.loc
 ⟨m,hn,I.bk,bQ I.ok.bsz I.ok.above⟩
theorem Inv.lt(I:Inv X pins σ H s):X.env.locals<s.heap.objs.size:=let ⟨_,hn,_⟩:=I.loc;hn.lt
theorem Inv.sz(I:Inv X pins σ H s):X.s₀.heap.objs.size<=s.heap.objs.size:=bQ I.ok.above (eF I.lt)
theorem Inv.nofs(I:Inv X pins σ H s)(h:s.heap.objs.size<=a):a∉X.fs:=λhb=>by obtain⟨_,o,ho,_⟩:=I.ok.funs.mem hb;exact ao (bR (aM ho) (bQ I.sz h)) (cU _)
theorem Inv.cne(I:Inv X pins σ H s):∀x c,X.env.cells.lookup x=some c->c≠X.env.locals:=λx c e z=>by obtain⟨v,o,ho,hd⟩:=I.cell x c e;obtain⟨m,⟨o',es,ep,ho',hd',_⟩,_⟩:=I.loc;rw[z,ho']at ho;cases ho;rw[hd']at hd;cases hd
theorem Inv.funs(I:Inv X pins σ H s):s.heap.FunFrames X.base X.outer:=by
 have all:∀(l:List Env),(∀b∈frs l,b∈X.fs)->X.s₀.heap.FunFrames X.base l->s.heap.FunFrames X.base l:=by
  intro l
  induction l with
  |nil=>intro _ _;trivial
  |cons env r ih=>intro hs hl;obtain⟨hk,⟨L,o,hf,hn,ho,hd⟩,hr⟩:=hl;have hL:L∈X.fs:=hs L (by unfold frs;rw[jr,hf];exact aW);obtain⟨sl,e⟩:=I.base.slot L o ho (I.ok.frf L hL) hL λz=>I.ok.exfs L z hL;exact⟨hk,⟨L,_,hf,hn,e,hd⟩,ih (λb hb=>hs b (by unfold frs;rw[jr,hf];exact bj _ hb)) hr⟩
 exact all X.outer (λ_ hb=>hb) I.ok.funs
theorem Inv.stack(I:Inv X pins σ H s):s.heap.FunFrames X.base X.stack:=by
 rcases I.ok.stk with e|⟨e,hf⟩
 ·rw[e];exact I.funs
 ·rw[e];obtain⟨m,hn,_⟩:=I.loc;refine .cons (by rw[I.ok.kind];decide) hf hn ?_ I.funs;exact Heap.get?_none_of_le (bQ I.ok.bsz I.ok.above)
theorem Inv.stkSub(I:Inv X pins σ H s):∀b∈frs X.stack,b∈X.env.locals::X.fs:=λb hb=>by
 rcases I.ok.stk with e|⟨e,hf⟩
 ·rw[e]at hb;exact bj _ hb
 ·rw[e]at hb;unfold frs at hb;rw[jr,hf]at hb;exact hb
theorem Inv.stkFree(I:Inv X pins σ H s):∀b∈frs X.stack,H b=none:=λb hb=>by
 rcases aL.mp (I.stkSub b hb)with e|hb
 ·rw[e];exact I.free
 ·obtain⟨_,o,ho,_⟩:=I.ok.funs.mem hb;exact I.base.free b o ho (I.ok.frf b hb) λz=>I.ok.exfs b z hb
theorem Inv.step(I:Inv X pins σ H s)
  (hch:∀b∈ch,(b∈X.ex\/X.s₀.heap.objs.size<=b)/\b≠X.env.locals/\(∀x c,X.env.cells.lookup x=some c->c≠b)/\∀p∈X.pn++pins,p.1≠b)
  (keep:∀b o,b≠X.env.locals->b∉X.fs->b∉ch->s.heap.get? b=some o->H b=none->h'.get? b=some o)
  (slot:∀b o,b≠X.env.locals->b∈X.fs->b∉ch->s.heap.get? b=some o->H b=none->∃sl,h'.get? b=some { o with slots:=sl }) (free:∀b o,b∉ch->s.heap.get? b=some o->H b=none->H' b=none)
  (there:∀b o,b∉ch->s.heap.get? b=some o->∃o',h'.get? b=some o')
  (tups:∀b xs,H b=some (.tup xs)->H' b=some (.tup xs)) (frzs:∀b o u,H b=some (.frz o u)->H' b=some (.frz o u)) (tbls:∀b ps,H b=some (.tbl ps)->∃more,H' b=some (.tbl (ps++more)))
  (ns:∀m,s.heap.Ns X.env.locals m->h'.Ns X.env.locals m) (hok:HOk X.prog X.w H' h') (hg:dh g'):
  Inv X pins σ H' { s with heap:=h',gens:=g',drawn:=d',toks:=t' }:=by
 have neL:∀b o,X.s₀.heap.get? b=some o->b≠X.env.locals:=λb o e=>aU (bR (aM e) I.ok.above);have neC:∀b o,X.s₀.heap.get? b=some o->b∉X.ex->b∉ch:=λb o e hx hb=>by
  rcases(hch b hb).1 with z|z
  ·exact hx z
  ·exact ao (bR (aM e) z) (cU _)
 have cellK:∀x c,X.env.cells.lookup x=some c->∀v,s.heap.IsCell c v->h'.IsCell c v:=λx c e v ⟨o,ho,hd⟩=>by
  have nch:c∉ch:=λz=>(hch c z).2.2.1 x c e rfl;by_cases hc:c∈X.fs
  ·obtain⟨sl,q⟩:=slot c o (I.cne x c e) hc nch ho (I.freeC x c e);exact⟨_,q,hd⟩
  ·exact⟨o,keep c o (I.cne x c e) hc nch ho (I.freeC x c e),hd⟩
 refine⟨I.ok,I.os,hg,⟨λb o e n hb hx=>?_,λb o e n hb hx=>?_,λb o e n hx=>?_,λb o e hx=>?_,λb xs e=>tups b xs (I.base.tups b xs e),λb o xs e=>frzs b o xs (I.base.frzs b o xs e),λb ps e=>?_⟩,?_,λx c e=>?_,?_,λx c e=>?_,λp hp=>?_,hok,I.len⟩
 ·exact keep b o (neL b o e) hb (neC b o e hx) (I.base.keep b o e n hb hx) (I.base.free b o e n hx)
 ·obtain⟨sl,e1⟩:=I.base.slot b o e n hb hx;obtain⟨sl',e2⟩:=slot b _ (neL b o e) hb (neC b o e hx) e1 (I.base.free b o e n hx);exact⟨sl',e2⟩
 ·obtain⟨o',e1⟩:=I.base.there b o e hx;exact free b o' (neC b o e hx) e1 (I.base.free b o e n hx)
 ·obtain⟨o',e1⟩:=I.base.there b o e hx;exact there b o' (neC b o e hx) e1
 ·obtain⟨m1,e1⟩:=I.base.tbls b ps e;obtain⟨m2,e2⟩:=tbls b _ e1;exact⟨m1++m2,by rw[e2,Array.append_assoc]⟩
 ·obtain⟨m,hn,hl⟩:=I.loc;refine⟨m,ns m hn,λi x v e1 e2 e3=>?_⟩;obtain⟨u,r,l⟩:=hl i x v e1 e2 e3;refine⟨u,r,?_⟩;rcases l with l|⟨k,c,e,z⟩
  ·exact .inl l
  ·exact .inr ⟨k,c,e,cellK x c e _ z⟩
 ·obtain⟨v,z⟩:=I.cell x c e;exact⟨v,cellK x c e v z⟩
 ·obtain⟨m,⟨o,_,_,ho,_⟩,_⟩:=I.loc;exact free _ o (λz=>(hch _ z).2.1 rfl) ho I.free
 ·obtain⟨v,o,ho,hd⟩:=I.cell x c e;exact free c o (λz=>(hch c z).2.2.1 x c e rfl) ho (I.freeC x c e)
 ·obtain⟨e,n,ne,nf,d⟩:=I.pin p hp;have nch:p.1∉ch:=λz=>(hch p.1 z).2.2.2 p hp rfl;exact⟨keep p.1 p.2 ne nf nch e n,free p.1 p.2 nch e n,ne,nf,d⟩
theorem Inv.un(I:Inv X pins σ H s)(u:Un X.fs [] H H' s.heap h')(hok:HOk X.prog X.w H' h'):Inv X pins σ H' { s with heap:=h',toks:=t' }:=by
 obtain⟨m,⟨o,es,ep,ho,r⟩,_⟩:=id I.loc;obtain⟨sl,hL⟩:=u.any ho I.free (by simp);exact I.step (g':=s.gens) (d':=s.drawn) (ch:=[]) (λ_ z=>nomatch z) (λb o _ hb _ e n=>u.keep b o e n hb (by simp)) (λb o _ hb _ e n=>u.slot b o e n hb (by simp)) (λb o _ e n=>u.free b o e n (by simp)) (λb o _ e=>u.there b o e (by simp)) u.tups u.frzs u.tbls (λm' hm=>by
  obtain⟨o',es',ep',ho',r'⟩:=hm;rw[ho]at ho';cases ho';exact⟨_,es',ep',hL,r'⟩) hok I.bare
theorem Inv.call(I:Inv X pins σ H s)(u:Un (frs X.stack) ch H H' s.heap h')(hok:HOk X.prog X.w H' h')(hg:dh g')
  (hch:∀b∈ch,(b∈X.ex\/X.s₀.heap.objs.size<=b)/\b≠X.env.locals/\(∀x c,X.env.cells.lookup x=some c->c≠b)/\∀p∈X.pn++pins,p.1≠b):
  Inv X pins σ H' { s with heap:=h',gens:=g',drawn:=d',toks:=t' }:=by
 obtain⟨m,⟨o,es,ep,ho,r⟩,_⟩:=id I.loc;obtain⟨sl,hL⟩:=u.any ho I.free λz=>(hch _ z).2.1 rfl;exact I.step (ch:=ch) hch (λb o hL hb hc e n=>u.keep b o e n (λz=>(aL.mp (I.stkSub b z)).elim hL hb) hc) (λb o _ _ hc e n=>u.any e n hc) (λb o hc e n=>u.free b o e n hc) (λb o hc e=>u.there b o e hc) u.tups u.frzs u.tbls (λm' hm=>by
  obtain⟨o',es',ep',ho',r'⟩:=hm;rw[ho]at ho';cases ho';exact⟨_,es',ep',hL,r'⟩) hok hg
theorem Inv.turned(I:Inv X pins σ H s)(k:∀b o,b≠it->s.heap.get? b=some o->h'.get? b=some o)(hn:H it=none)(hL:it≠X.env.locals)
  (h1:it∈X.ex\/X.s₀.heap.objs.size<=it) (h2:∀x c,X.env.cells.lookup x=some c->c≠it) (h3:∀p∈X.pn++pins,p.1≠it):Inv X pins σ H { s with heap:=h',toks:=t' }:=by
 have nit:∀b u,H b=some u->b≠it:=λb u e z=>by rw[z,hn]at e;cases e
 refine I.step (g':=s.gens) (d':=s.drawn) (ch:=[it]) (λb hb=>?_) (λb o _ _ hc e _=>k b o (λz=>hc (by simp[z])) e) (λb o _ _ hc e _=>⟨o.slots,k b o (λz=>hc (by simp[z])) e⟩) (λ_ _ _ _ n=>n)
  (λb o hc e=>⟨o,k b o (λz=>hc (by simp[z])) e⟩) (λ_ _ e=>e) (λ_ _ _ e=>e) (λb ps e=>⟨#[],by rw[e];simp⟩) (λm hm=>?_) (λb u e=>?_) I.bare
 ·have e:b=it:=by simpa using hb
  subst e;exact⟨h1,hL,h2,h3⟩
 ·obtain⟨o,es,ep,ho,r⟩:=hm;exact⟨o,es,ep,k _ o (cM hL) ho,r⟩
 ·refine(I.hok b u e).stay (λc v hc q=>k c v ?_ q) (λ_ q=>q) λ_ _ q=>q;rcases hc with z|z
  ·rw[z];exact nit b u e
  ·exact nit c _ z
theorem Inv.tok(I:Inv X pins σ H s)(t:Nat):Inv X pins σ H { s with toks:=t }:=I.un (h':=s.heap) (t':=t) Un.refl I.hok
theorem Inv.kept(I:Inv X pins σ H s)(k:∀b u,s.heap.get? b=some u->h'.get? b=some u):Inv X pins σ H { s with heap:=h',toks:=t' }:=I.un (Un.kept k) (I.hok.kept k)
theorem Inv.laid{o:HO}(I:Inv X pins σ H s)(k:∀b u,s.heap.get? b=some u->h'.get? b=some u)(hp:s.heap.objs.size<=a)(new:pI X.prog X.w (upd H a o) h' a o):
  Inv X pins σ (upd H a o) { s with heap:=h',toks:=t' }:=I.un (Un.laid k hp (I.hok.fresh hp)) (I.hok.laid k hp new)
theorem Inv.write{x e:Addr}{o:HO}(I:Inv X pins σ H s)(mu:Mut (H x))(he:e=x\/H e=some (.own x))(k:∀b u,b≠e->s.heap.get? b=some u->h'.get? b=some u)(heo:∃u,h'.get? e=some u)
  (new:pI X.prog X.w (upd H x o) h' x o):Inv X pins σ (upd H x o) { s with heap:=h',toks:=t' }:=I.un (Un.write mu he k heo) (I.hok.write mu he k heo new)
theorem Inv.weak{σ':List (Option V)}(I:Inv X pins σ H s)(hl:σ'.length=σ.length)(w:∀(i:Nat) v,σ'[i]?=some (some v)->σ[i]?=some (some v)):Inv X pins σ' H s:=
 ⟨I.ok,I.os,I.bare,I.base,let ⟨m,hn,hl'⟩:=I.loc;⟨m,hn,λi x v e1 e2 e3=>hl' i x v e1 (w i v e2) e3⟩,I.cell,I.free,I.freeC,I.pin,I.hok,hl.trans I.len⟩
theorem Inv.pins_of{pins':bW}(I:Inv X pins σ H s)(h:∀p∈pins',s.heap.get? p.1=some p.2/\H p.1=none/\p.1≠X.env.locals/\p.1∉X.fs/\∀v,p.2.data≠.cell v):Inv X pins' σ H s:=
 ⟨I.ok,I.os,I.bare,I.base,I.loc,I.cell,I.free,I.freeC,λp hp=>(cq.mp hp).elim (λz=>I.pin p (bT _ z)) (h p),I.hok,I.len⟩
theorem E2(hN:N.Nodup){x:Str}(a:N[i]?=some x)(b:N[j]?=some x):i=j:=by obtain⟨h1,e1⟩:=bN.mp a;obtain⟨h2,e2⟩:=bN.mp b;exact(jE hN).mp (e1.trans e2.symm)
theorem Ju{A:aH}{x:Str}{v:V}{Q:Unit->af->Prop}(I:Inv X pins σ H s)(hN:X.N.Nodup)(hi:X.N[i]?=some x)(hx:Loc X.env.scope x)(r:RelV v u)
  (h:∀s',Inv X pins (σ.set i (some v)) H s'->(∃a,eG a s.heap s'.heap/\(a=X.env.locals\/X.env.cells.lookup x=some a))->Q () s') (hf:X.fn x=true\/X.env.scope.names.lookup x=some .local:=by first|exact .inl rfl|exact .inr rfl|assumption):wpAny M A (storeName X.env x u) Q E s:=by
 obtain⟨m,hn,hl⟩:=id I.loc;have hcls:(X.env.scope.kind==.class||(X.env.scope.kind==.module&&X.env.locals != X.env.globals))=false:=by rw[I.ok.kind];rfl
 have hiσ:i<σ.length:=by rw[I.len];exact(bN.mp hi).1
 have cne:=I.cne;have tracked:∀{a:Addr} {h':Heap},(∃o,s.heap.get? a=some o/\H a=none)->eG a s.heap h'->HOk X.prog X.w H h':=λ{a h'} ha hs b ob e=>by
  obtain⟨_,_,hfree⟩:=ha;refine(I.hok b ob e).stay (λc w' hc q=>(hs.2 c ?_).trans q) (λ_ q=>q) λ_ _ q=>q;rintro rfl;rcases hc with rfl|hc
  ·rw[hfree]at e;cases e
  ·rw[hfree]at hc;cases hc
 rcases hx with hk|hk
 ·refine wpAny_storeName_local hk hn (λh' hn' hs=>?_) hcls;obtain⟨oL,_,_,hoL,_⟩:=id hn;refine h _ ⟨I.ok,I.os,I.bare,⟨λb o e n hb hx=>?_,λb o e n hb hx=>?_,I.base.free,λb o e hx=>?_,I.base.tups,I.base.frzs,I.base.tbls⟩,⟨_,hn',λj y v' e1 e2 e3=>?_⟩,λy c e=>?_,I.free,I.freeC,λp hp=>?_,tracked ⟨oL,hoL,I.free⟩ hs,by simpa using I.len⟩ ⟨_,hs,.inl rfl⟩
  ·exact(hs.2 b (aU (bR (aM e) I.ok.above))).trans (I.base.keep b o e n hb hx)
  ·obtain⟨sl,e1⟩:=I.base.slot b o e n hb hx;exact⟨sl,(hs.2 b (aU (bR (aM e) I.ok.above))).trans e1⟩
  ·obtain⟨o',e1⟩:=I.base.there b o e hx;exact⟨o',(hs.2 b (aU (bR (aM e) I.ok.above))).trans e1⟩
  ·by_cases hj:j=i
   ·subst hj;rw[hi]at e1;cases e1;rw[hJ hiσ]at e2;cases e2;exact⟨u,r,.inl ⟨hk,by simp⟩⟩
   ·rw[jn (cM hj)]at e2;obtain⟨u',r',q⟩:=hl j y v' e1 e2 e3;refine⟨u',r',?_⟩;rcases q with ⟨k,e⟩|⟨k,c,e,z⟩
    ·refine .inl ⟨k,?_⟩;have:y≠x:=λe=>hj (E2 hN e1 (e▸hi));simp[this,e]
    ·exact .inr ⟨k,c,e,z.sameBut hs (cne y c e)⟩
  ·obtain⟨w',z⟩:=I.cell y c e;exact⟨w',z.sameBut hs (cne y c e)⟩
  ·obtain⟨e,n,ne,nf,d⟩:=I.pin p hp;exact⟨(hs.2 p.1 ne).trans e,n,ne,nf,d⟩
 ·have hfn:X.fn x=true:=by
   rcases hf with z|z
   ·exact z
   ·rw[z]at hk;cases hk
  obtain⟨c,hc⟩:=I.ok.has x (.inl hk);obtain⟨w',z⟩:=I.cell x c hc;refine wpAny_storeName_cell I.ok.kind hk hc z (λh' hc' hs=>?_);obtain⟨oc,hoc,hocd⟩:=id z;refine h { s with heap:=h' } ⟨I.ok,I.os,I.bare,⟨λb o e n hb hx=>?_,λb o e n hb hx=>?_,I.base.free,λb o e hx=>?_,I.base.tups,I.base.frzs,I.base.tbls⟩,⟨m,hn.sameBut hs (cM (cne x c hc)),λj y v' e1 e2 e3=>?_⟩,λy c' e=>?_,I.free,I.freeC,λp hp=>?_,tracked ⟨oc,hoc,I.freeC x c hc⟩ hs,by simpa using I.len⟩ ⟨c,hs,.inr hc⟩
  ·exact(hs.2 b (aU (bR (aM e) (I.ok.cab x c hfn hc)))).trans (I.base.keep b o e n hb hx)
  ·obtain⟨sl,e1⟩:=I.base.slot b o e n hb hx;exact⟨sl,(hs.2 b (aU (bR (aM e) (I.ok.cab x c hfn hc)))).trans e1⟩
  ·obtain⟨o',e1⟩:=I.base.there b o e hx;exact⟨o',(hs.2 b (aU (bR (aM e) (I.ok.cab x c hfn hc)))).trans e1⟩
  ·by_cases hj:j=i
   ·subst hj;rw[hi]at e1;cases e1;rw[hJ hiσ]at e2;cases e2;exact⟨u,r,.inr ⟨.inl hk,c,hc,hc'⟩⟩
   ·rw[jn (cM hj)]at e2;obtain⟨u',r',q⟩:=hl j y v' e1 e2 e3;refine⟨u',r',?_⟩;rcases q with q|⟨k,c',e,z'⟩
    ·exact .inl q
    ·refine .inr ⟨k,c',e,z'.sameBut hs ?_⟩;rintro rfl;exact hj (E2 hN e1 (I.ok.inj _ _ _ e hc▸hi))
  ·by_cases hcc:c'=c
   ·subst hcc;exact⟨_,hc'⟩
   ·obtain⟨w2,z2⟩:=I.cell y c' e;exact⟨w2,z2.sameBut hs hcc⟩
  ·obtain⟨e,n,ne,nf,d⟩:=I.pin p hp;refine⟨(hs.2 p.1 ?_).trans e,n,ne,nf,d⟩;intro q;rw[q,hoc]at e;have q':oc=p.2:=bP e;exact d w' (by rw[<-q'];exact hocd)
theorem E3{A:aH}{x:Str}{v:V}{Q:Unit->af->Prop}(I:Inv X pins σ H s)(hN:X.N.Nodup)(hi:X.N[i]?=some x)(hx:Loc X.env.scope x)(r:RelV v u)
  (h:∀s',Inv X pins (σ.set i (some v)) H s'->Q () s') (hf:X.fn x=true\/X.env.scope.names.lookup x=some .local:=by first|exact .inl rfl|exact .inr rfl|assumption):wpAny M A (storeName X.env x u) Q E s:=
 Ju I hN hi hx r (λs' I' _=>h s' I') hf
theorem Inv.call'(I:Inv X pins σ H s)(ho:s'.os=s.os)(u:Un (frs X.stack) ch H H' s.heap s'.heap)(hok:HOk X.prog X.w H' s'.heap)(hg:dh s'.gens)
  (hch:∀b∈ch,(b∈X.ex\/X.s₀.heap.objs.size<=b)/\b≠X.env.locals/\(∀x c,X.env.cells.lookup x=some c->c≠b)/\∀p∈X.pn++pins,p.1≠b):Inv X pins σ H' s':=by
 obtain⟨h',g',d',t',o'⟩:=s';have e:o'=s.os:=ho;subst e;exact I.call (g':=g') (t':=t') (d':=d') u hok hg hch
end
abbrev XK:=aa->Option Addr->Hp->Prop
abbrev St:=List (Option V)
abbrev VK:=V->Hp->Prop
abbrev TE:=St->Hp->VK->Prop
abbrev TT:=St->Hp->(Bool->Hp->Prop)->Prop
abbrev TA:=St->Hp->(bh->Hp->Prop)->Prop
structure Ends where
 nx:St->Hp->Prop
 rt:VK
 bk:St->Hp->Prop:=λ_ _=>False
 ct:St->Hp->Prop:=λ_ _=>False
abbrev TS:=Ends->St->Hp->Prop
def EP(X:Cx)(pins:bW)(σ:St)(Q:VK)(u:aa)(s':af):Prop:=∃v H',Inv X pins σ H' s'/\RelV v u/\Q v H'
def TP(X:Cx)(pins:bW)(σ:St)(Q:Bool->Hp->Prop)(b:Bool)(s':af):Prop:=∃H',Inv X pins σ H' s'/\Q b H'
def AP(X:Cx)(pins:bW)(σ:St)(Q:bh->Hp->Prop)(us:List aa)(s':af):Prop:=∃vs H',Inv X pins σ H' s'/\Vals vs us/\Q vs H'
def SP(X:Cx)(pins:bW)(D:Ends)(f:Flow)(s':af):Prop:=
 match f with
 |.next=>∃σ' H',Inv X pins σ' H' s'/\D.nx σ' H'
 |.brk=>∃σ' H',Inv X pins σ' H' s'/\D.bk σ' H'
 |.cont=>∃σ' H',Inv X pins σ' H' s'/\D.ct σ' H'
 |.ret u=>∃v σ' H',Inv X pins σ' H' s'/\RelV v u/\D.rt v H'
def PE(X:Cx)(e:Expr)(t:TE):Prop:=
 ∀(pins:bW) (s:af) (σ:St) (H:Hp) (Q:VK),Inv X pins σ H s->t σ H Q->wpAny (model X.prog X.w) X.A (eval e X.env) (EP X pins σ Q) X.xe s
def PT(X:Cx)(e:Expr)(t:TT):Prop:=
 ∀(pins:bW) (s:af) (σ:St) (H:Hp) (Q:Bool->Hp->Prop),Inv X pins σ H s->t σ H Q->wpAny (model X.prog X.w) X.A (isTrue e X.env (eval e X.env)) (TP X pins σ Q) X.xe s
def PW(X:Cx)(e:Expr)(t:TT):Prop:=
 ∀(whole:Sem aa) (pins:bW) (s:af) (σ:St) (H:Hp) (Q:Bool->Hp->Prop),Inv X pins σ H s->t σ H Q->wpAny (model X.prog X.w) X.A (isTrue e X.env whole) (TP X pins σ Q) X.xe s
variable{X:Cx}{e:Expr}
theorem PW.pt{t:TT}(h:PW X e t):PT X e t:=h _
def PA(X:Cx)(es:List Expr)(t:TA):Prop:=
 ∀(pos:Pos) (pins:bW) (s:af) (σ:St) (H:Hp) (Q:bh->Hp->Prop),Inv X pins σ H s->t σ H Q->wpAny (model X.prog X.w) X.A (spliced (backTo pos (starEach es X.env))) (AP X pins σ Q) X.xe s
def PS(X:Cx)(st:Stmt)(t:TS):Prop:=
 ∀(pins:bW) (s:af) (σ:St) (H:Hp) (D:Ends),Inv X pins σ H s->t D σ H->wpAny (model X.prog X.w) X.A (exec st X.env) (SP X pins D) X.xe s
def PSs(X:Cx)(st:List Stmt)(t:TS):Prop:=
 ∀(pins:bW) (s:af) (σ:St) (H:Hp) (D:Ends),Inv X pins σ H s->t D σ H->wpAny (model X.prog X.w) X.A (execs st X.env) (SP X pins D) X.xe s
theorem thn{α:Type}{t:Sem α}{Q Q':α->af->Prop}{A:aH}{s:af}(h:wpAny M A t Q E s)(hQ:∀a s,Q a s->Q' a s):wpAny M A t Q' E s:=bM h hQ λ_ _ x=>x
variable{pins:bW}{σ:St}{R:V->V->Hp->Prop}{pos:Pos}{Q:aa->af->Prop}{t:TE}{c:Expr}
section
variable{X:Cx}
theorem bin{a b:Expr}{ta tb:TE}(ha:PE X a ta)(hb:PE X b tb){s:af}{H:Hp}(I:Inv X pins σ H s)(h:ta σ H λx H1=>tb σ H1 λy H2=>R x y H2)
  {α:Type} {Q:α->af->Prop} {f:aa->aa->Sem α}
  (hf:∀v u s2 x y H2,Inv X pins σ H2 s2->RelV x v->RelV y u->R x y H2->wpAny (model X.prog X.w) X.A (f v u) Q X.xe s2):
  wpAny (model X.prog X.w) X.A (eval a X.env) (λv s₁=>wpAny (model X.prog X.w) X.A (eval b X.env) (λu s₂=>wpAny (model X.prog X.w) X.A (f v u) Q X.xe s₂) X.xe s₁) X.xe s:=by
 refine thn (ha pins s σ H _ I h) λv s1 ⟨x,H1,I1,r1,q1⟩=>?_;refine thn (hb pins s1 σ H1 _ I1 q1) λu s2 ⟨y,H2,I2,r2,q2⟩=>?_;exact hf v u s2 x y H2 I2 r1 r2 q2
def uN(i:Nat):TE:=λσ H Q=>∃v,σ[i]?=some (some v)/\Q v H
def tC(v:V):TE:=λ_ H Q=>Q v H
theorem Q6{x:Str}(hN:X.N[i]?=some x)(hv:Vis X.env.scope x)(hd:(x==("__debug__" : Str))=false:=by decide)(hcd:(x==("__classdict__" : Str))=false:=by decide):PE X (.Name x pos) (uN i):=by
 intro pins s σ H Q I h;obtain⟨v,e,h⟩:=h;obtain⟨m,hn,hl⟩:=I.loc;obtain⟨u,r,l⟩:=hl i x v hN e hv;have fin:EP X pins σ Q u s:=⟨v,H,I,r,h⟩;rcases l with ⟨hk,hm⟩|⟨hk,c,hc,hcell⟩
 ·exact kr (wpAny_loadName_local I.ok.kind hk hn hm fin) hd
 ·rcases hk with hk|hk
  ·exact kr (wpAny_loadName_cell I.ok.kind hk hc hcell fin) hd
  ·exact kr (wpAny_loadName_free I.ok.kind hk hc hcell fin hcd) hd
theorem GF{i j pos}:PE X (.Constant (.int i) j pos) (tC (.int i)):=λ_ _ _ H _ I h=>wpAny_Constant_int ⟨.int i,H,I.tok _,⟨_,rfl⟩,h⟩
theorem Vp{b j pos}:PE X (.Constant (.bool b) j pos) (tC (.bl b)):=λ_ _ _ H _ I h=>Constant_bool ⟨.bl b,H,I,rfl,h⟩
theorem Q7{j pos}:PE X (.Constant .none j pos) (tC .non):=λ_ _ _ H _ I h=>Constant_none ⟨.non,H,I,rfl,h⟩
theorem KM{x j pos}:PE X (.Constant (.str x) j pos) (tC (.str x)):=λ_ _ _ H _ I h=>Calls.Constant_str ⟨.str x,H,I.tok _,⟨_,rfl⟩,h⟩
def Gl(X:Cx)(x:Str):Prop:=X.env.kindOf x=some .globalImplicit
theorem AZ{s:af}{H:Hp}{x:Str}(I:Inv X pins σ H s)(hg:Gl X x)(hm:X.mg x=some u)(h:Q u s)
  (hd:(x==("__debug__" : Str))=false:=by decide):wpAny (model X.prog X.w) X.A (eval (.Name x pos) X.env) Q E s:=
 lh I.ok.kind hg (Calls.loadGlobal_global (by rw[I.ok.glob];exact I.mod.glob.keeps I.bk) hm h) hd
theorem wG{s:af}{H:Hp}{x:Str}(I:Inv X pins σ H s)(hg:Gl X x)(hm:X.mg x=none)(hv:bootBuiltins x=some u)(h:Q u s)
  (hn:x≠"__name__" := by decide) (hd:(x==("__debug__" : Str))=false:=by decide):wpAny (model X.prog X.w) X.A (eval (.Name x pos) X.env) Q E s:=by
 obtain⟨mb,h1,h2⟩:=I.mod.blt;exact lh I.ok.kind hg (Calls.loadGlobal_builtin (by rw[I.ok.glob];exact I.mod.glob.keeps I.bk) hm (by rw[I.ok.blt];exact h1.keeps I.bk) ((h2 x hn).trans hv) h) hd
theorem HU{x:Str}{v:V}(hg:Gl X x)(hm:X.mg x=some u)(r:RelV v u)(hd:(x==("__debug__" : Str))=false:=by decide):PE X (.Name x pos) (tC v):=
 λ_ _ _ H _ I h=>AZ I hg hm ⟨v,H,I,r,h⟩ hd
theorem N3{x:Str}{v:V}(hg:Gl X x)(hm:X.mg x=none)(hv:bootBuiltins x=some u)(r:RelV v u)(hn:x≠"__name__" := by decide)(hd:(x==("__debug__" : Str))=false:=by decide):PE X (.Name x pos) (tC v):=
 λ_ _ _ H _ I h=>wG I hg hm hv ⟨v,H,I,r,h⟩ hn hd
variable{a b:Expr}{ta tb:TE}{pos:Pos}
def PC(X:Cx)(op:cn)(a b:Expr)(t:TE):Prop:=
 ∀(pins:bW) (s:af) (σ:St) (H:Hp) (Q:VK),Inv X pins σ H s->t σ H Q->
  wpAny (model X.prog X.w) X.A (eval a X.env) (λv s₁=>wpAny (model X.prog X.w) X.A (eval b X.env) (λu s₂=>wpAny (model X.prog X.w) X.A (compareOp op v u) (EP X pins σ Q) X.xe s₂) X.xe s₁) X.xe s
def tB(t:TE):TT:=λσ H Q=>t σ H λx H1=>∃c,x=.bl c/\Q c H1
theorem Q8{op:cn}(h:PC X op a b t)(h1:behindInMarks op b=false:=by first|exact nobehind _ (by decide) (by decide)|rfl):PT X (.Compare a [op] [b] pos) (tB t):=by intro pins s σ H Q I hw;refine lI (thn (h pins s σ H _ I hw) λv s1 h1=>thn h1 λu s2 h2=>thn h2 λc s3 ⟨x,H1,I1,r1,q1⟩=>?_) h1;obtain⟨d,rfl,q⟩:=q1;cases r1;exact cO ⟨H1,I1,q⟩
theorem Q9(h:PE X e t)(he:∀whole,isTrue e X.env whole=(do let v<-whole;standAt e.pos;holding [v] (truthy v)):=by intro _;rfl):PT X e (tB t):=by intro pins s σ H Q I hw;refine isTrue_plain (thn (h pins s σ H _ I hw) λv s1 ⟨x,H1,I1,r1,q1⟩=>?_) (he _);obtain⟨d,rfl,q⟩:=q1;cases r1;exact cO ⟨H1,I1,q⟩
variable{tA tB':TT}{rest:List Expr}
def Vq(t u:TT):TT:=λσ H Q=>t σ H λc H1=>if c=true then u σ H1 Q else Q false H1
def tOr(t u:TT):TT:=λσ H Q=>t σ H λc H1=>if c=true then Q true H1 else u σ H1 Q
def WZ(t:TT):TT:=λσ H Q=>t σ H λc H1=>Q (!c) H1
theorem N4(ha:PT X a tA):PW X (.BoolOp .And [a] pos) tA:=by
 intro wh pins s σ H Q I h;refine isTrue_and (thn (ha pins s σ H Q I h) λc s1 e=>?_);cases c with
 |true=>exact isTrue_and_nil e
 |false=>exact e
theorem Rb(ha:PT X a tA):PW X (.BoolOp .Or [a] pos) tA:=by
 intro wh pins s σ H Q I h;refine isTrue_or (thn (ha pins s σ H Q I h) λc s1 e=>?_);cases c with
 |false=>exact isTrue_or_nil e
 |true=>exact e
theorem Re(ha:PT X a tA)(hb:PW X (.BoolOp .And (b::rest) pos) tB'):PW X (.BoolOp .And (a::b::rest) pos) (Vq tA tB'):=by
 intro wh pins s σ H Q I h;refine isTrue_and (thn (ha pins s σ H _ I h) λc s1 ⟨H1,I1,q1⟩=>?_);cases c with
 |true=>exact hb wh pins s1 σ H1 Q I1 q1
 |false=>exact⟨H1,I1,q1⟩
theorem Vr(ha:PT X a tA)(hb:PW X (.BoolOp .Or (b::rest) pos) tB'):PW X (.BoolOp .Or (a::b::rest) pos) (tOr tA tB'):=by
 intro wh pins s σ H Q I h;refine isTrue_or (thn (ha pins s σ H _ I h) λc s1 ⟨H1,I1,q1⟩=>?_);cases c with
 |true=>exact⟨H1,I1,q1⟩
 |false=>exact hb wh pins s1 σ H1 Q I1 q1
theorem Rf(ha:PT X a tA):PT X (.UnaryOp .Not a pos) (WZ tA):=by intro pins s σ H Q I h;exact isTrue_not (ha pins s σ H (λc H1=>Q (!c) H1) I h)
def Vs(ta tb:TE):TE:=λσ H Q=>ta σ H λx H1=>∃c,x=.bl c/\if c=true then tb σ H1 Q else Q (.bl false) H1
def Vt(ta:TE):TE:=λσ H Q=>ta σ H λx H1=>∃c,x=.bl c/\Q (.bl (!c)) H1
theorem Rg{op}(h:PE X a t):PE X (.BoolOp op [a] pos) t:=λpins s σ H Q I hw=>BoolOp_one (h pins s σ H Q I hw)
theorem Rh(ha:PE X a ta)(hb:PE X (.BoolOp .And (b::rest) pos) tb):PE X (.BoolOp .And (a::b::rest) pos) (Vs ta tb):=by
 intro pins s σ H Q I h;refine BoolOp_and (thn (ha pins s σ H _ I h) λv s1 ⟨x,H1,I1,r1,q1⟩=>?_);obtain⟨c,rfl,q1⟩:=q1;cases r1;refine cO ?_;cases c with
 |true=>exact hb pins s1 σ H1 Q I1 q1
 |false=>exact⟨.bl false,H1,I1,rfl,q1⟩
theorem Rj(ha:PE X a ta):PE X (.UnaryOp .Not a pos) (Vt ta):=by intro pins s σ H Q I h;refine UnaryOp_ (thn (ha pins s σ H _ I h) λv s1 ⟨x,H1,I1,r1,q1⟩=>?_);obtain⟨c,rfl,q1⟩:=q1;cases r1;exact not_of (cO ⟨.bl (!c),H1,I1,rfl,q1⟩)
def tIf(t:TT)(ta tb:TE):TE:=λσ H Q=>t σ H λc H1=>if c=true then ta σ H1 Q else tb σ H1 Q
theorem KN(hc:PT X c tA)(ha:PE X a ta)(hb:PE X b tb):PE X (.IfExp c a b pos) (tIf tA ta tb):=by
 intro pins s σ H Q I h;refine wpAny_IfExp (thn (hc pins s σ H _ I h) λd s1 ⟨H1,I1,q1⟩=>?_);cases d with
 |true=>exact ha pins s1 σ H1 Q I1 q1
 |false=>exact hb pins s1 σ H1 Q I1 q1
end
def SqL(K:ar)(H:Hp)(a:Addr)(xs:bh):Prop:=
 Rd H a (.lst xs)\/
  ∃(o:Obj) (its:Array aa) (n:Nat),K.lookup a=some o/\o.cls=.type "list" /\ o.dict=none/\o.data=.seq its n/\its.size<=sizeLine/\Vals xs its.toList
def SqT(K:ar)(H:Hp)(a:Addr)(xs:bh):Prop:=
 Rd H a (.tup xs)\/
  ∃(o:Obj) (its:Array aa) (n:Nat),K.lookup a=some o/\o.cls=.type "tuple" /\ o.data=.seq its n/\its.size<=sizeLine/\Vals xs its.toList
def W0:aa->Option V
 |.none=>some .non
 |.bool b=>some (.bl b)
 |.int i _=>some (.int i)
 |.str x _=>some (.str x)
 |.bytes b _=>some (.byt b)
 |.float b _=>some (.flt b)
 |.ref a=>some (.ref a)
 |.type n=>some (.ty n)
 |_=>none
theorem RelV.abs{x:V}(r:RelV x u):W0 u=some x:=by
 cases x with
 |non=>cases r;rfl
 |bl _=>cases r;rfl
 |int _=>obtain⟨t,rfl⟩:=r;rfl
 |str _=>obtain⟨t,rfl⟩:=r;rfl
 |byt _=>obtain⟨t,rfl⟩:=r;rfl
 |flt _=>obtain⟨t,rfl⟩:=r;rfl
 |ref _=>cases r;rfl
 |ty _=>cases r;rfl
variable{y:V}
theorem RelV.inj{x:V}(r:RelV x u)(q:RelV y u):x=y:=bP (r.abs.symm.trans q.abs)
theorem Vals.inj:∀{xs ys:bh} {us:List aa},Vals xs us->Vals ys us->xs=ys
 |_,_,_,.nil,.nil=>rfl
 |_,_,_,.cons r t,.cons r' t'=>by rw[r.inj r',Vals.inj t t']
section
variable{X:Cx}{pins:bW}{σ:St}{H:Hp}{s:af}{a:Addr}{xs ys:bh}
theorem SqL.of{K:ar}(h:H a=some (.lst xs)):SqL K H a xs:=.inl (.inl h)
theorem SqT.of{K:ar}(h:H a=some (.tup xs)):SqT K H a xs:=.inl (.inl h)
theorem Inv.list(I:Inv X pins σ H s)(h:SqL X.K H a xs):∃its:List aa,Vals xs its/\PlainL s.heap a its.toArray/\xs.length<=sizeLine:=by
 rcases h with h|⟨o,its,n,hk,hc,hd,hs,hz,r⟩
 ·obtain⟨z,its,n,r,e⟩:=h.ok I.hok;exact⟨its,r,⟨_,n,e,rfl,rfl,rfl⟩,z⟩
 ·refine⟨its.toList,r,⟨o,n,I.kIn a o hk,hc,hd,by simpa using hs⟩,?_⟩;have e:=r.length;simp only[ig]at e;omega
theorem Inv.tuple(I:Inv X pins σ H s)(h:SqT X.K H a xs):∃its:List aa,Vals xs its/\fD s.heap a its.toArray/\xs.length<=sizeLine:=by
 rcases h with h|⟨o,its,n,hk,hc,hs,hz,r⟩
 ·obtain⟨z,its,r,p⟩:=h.ok I.hok;exact⟨its,r,p,z⟩
 ·refine⟨its.toList,r,⟨o,I.kIn a o hk,hc,n,by simpa using hs⟩,?_⟩;have e:=r.length;simp only[ig]at e;omega
theorem Inv.list_inj(I:Inv X pins σ H s)(h:SqL X.K H a xs)(h':SqL X.K H a ys):xs=ys:=by
 obtain⟨its,r,⟨o,n,e,_,_,d⟩,_⟩:=I.list h;obtain⟨its',r',⟨o',n',e',_,_,d'⟩,_⟩:=I.list h';rw[e]at e';cases e';rw[d]at d';injection d' with d1 _;have:its=its':=by simpa using aP nD d1
 subst this;exact r.inj r'
theorem Inv.tuple_inj(I:Inv X pins σ H s)(h:SqT X.K H a xs)(h':SqT X.K H a ys):xs=ys:=by
 obtain⟨its,r,⟨o,e,_,n,d⟩,_⟩:=I.tuple h;obtain⟨its',r',⟨o',e',_,n',d'⟩,_⟩:=I.tuple h';rw[e]at e';cases e';rw[d]at d';injection d' with d1 _;have:its=its':=by simpa using aP nD d1
 subst this;exact r.inj r'
end
abbrev Cx.wish(X:Cx)(E:aa->af->Prop):Cx:={ X with xe:=E }
abbrev Cx.nox(X:Cx):Cx:=X.wish λ_ _=>False
theorem Cx.Ok.wish(ok:X.Ok)(E:aa->af->Prop):(X.wish E).Ok:=
 ⟨ok.mod,ok.kind,ok.glob,ok.blt,ok.above,ok.inj,ok.has,ok.cab,ok.hd,ok.frames,ok.stk,ok.exf,ok.bs,ok.bsz,ok.noex,ok.exfs,ok.funs,ok.frf⟩
theorem Cx.Ok.unwish(ok:(X.wish E).Ok):X.Ok:=
 ⟨ok.mod,ok.kind,ok.glob,ok.blt,ok.above,ok.inj,ok.has,ok.cab,ok.hd,ok.frames,ok.stk,ok.exf,ok.bs,ok.bsz,ok.noex,ok.exfs,ok.funs,ok.frf⟩
section
variable{X:Cx}{pins:bW}{σ:St}{H:Hp}{s:af}{E:aa->af->Prop}
theorem Inv.wish(I:Inv X pins σ H s)(E:aa->af->Prop):Inv (X.wish E) pins σ H s:=⟨I.ok.wish E,I.os,I.bare,I.base,I.loc,I.cell,I.free,I.freeC,I.pin,I.hok,I.len⟩
theorem Inv.unwish(I:Inv (X.wish E) pins σ H s):Inv X pins σ H s:=⟨I.ok.unwish,I.os,I.bare,I.base,I.loc,I.cell,I.free,I.freeC,I.pin,I.hok,I.len⟩
theorem SP.unwish{D:Ends}{f:Flow}(h:SP (X.wish E) pins D f s'):SP X pins D f s':=by
 cases f with
 |next=>obtain⟨σ',H',I,q⟩:=h;exact⟨σ',H',I.unwish,q⟩
 |brk=>obtain⟨σ',H',I,q⟩:=h;exact⟨σ',H',I.unwish,q⟩
 |cont=>obtain⟨σ',H',I,q⟩:=h;exact⟨σ',H',I.unwish,q⟩
 |ret u=>obtain⟨v,σ',H',I,r,q⟩:=h;exact⟨v,σ',H',I.unwish,r,q⟩
theorem PSs.nox{st:List Stmt}{t:TS}(h:PSs X.nox st t):PSs X st t:=λpins s σ H D I hw=>
 bM (h pins s σ H D (I.wish _) hw) (λ_ _ q=>q.unwish) λ_ _ z=>cx z
end
variable{tc:TT}
section
variable{X:Cx}{st:Stmt}{rest:List Stmt}{t u:TS}{e:Expr}{te:TE}{pos:Pos}
def Vu:TS:=λD σ H=>D.nx σ H
def W1(t u:TS):TS:=λD σ H=>t { D with nx:=u D } σ H
theorem N5:PSs X [] Vu:=λ_ _ σ H _ I h=>iy ⟨σ,H,I,h⟩
theorem yI(h1:PS X st t)(h2:PSs X rest u):PSs X (st::rest) (W1 t u):=by
 intro pins s σ H D I h;refine wpAny_execs_cons (thn (h1 pins s σ H { D with nx:=u D } I h) λf s1 q=>?_);cases f with
 |next=>obtain⟨σ',H',I',q⟩:=q;exact h2 pins s1 σ' H' D I' q
 |ret v=>exact q
 |brk=>exact q
 |cont=>exact q
theorem A3(h1:PS X st t):PSs X [st] t:=by
 intro pins s σ H D I h;refine wpAny_execs_cons (thn (h1 pins s σ H D I h) λf s1 q=>?_);cases f with
 |next=>exact iy q
 |ret v=>exact q
 |brk=>exact q
 |cont=>exact q
theorem Inv.quiet{H:Hp}{s:af}(I:Inv X pins σ H s):interactive X.env=false:=by simp[interactive,I.ok.kind]
def QG(te:TE):TS:=λD σ H=>te σ H λ_ H1=>D.nx σ H1
theorem HV(he:PE X e te)(hs:swapsWith e none pos.line X.env=pure false:=by rfl):PS X (.Expr e pos) (QG te):=by intro pins s σ H D I h;exact wpAny_Expr_any (thn (he pins s σ H _ I h) λv s1 ⟨x,H1,I1,r1,q1⟩=>⟨σ,H1,I1,q1⟩) I.quiet hs
def Vv(te:TE):TS:=λD σ H=>te σ H D.rt
theorem D9(he:PE X e te):PS X (.Return (some e) pos) (Vv te):=by intro pins s σ H D I h;exact wpAny_Return_some (thn (he pins s σ H _ I h) λv s1 ⟨x,H1,I1,r1,q1⟩=>⟨x,σ,H1,I1,r1,q1⟩)
def W2(c:TT)(t u:TS):TS:=λD σ H=>c σ H λb H1=>if b=true then t D σ H1 else u D σ H1
theorem Vw{a b:List Stmt}(hc:PT X c tc)(ha:PSs X a t)(hb:PSs X b u):PS X (.If c a b pos) (W2 tc t u):=by
 intro pins s σ H D I h;refine wpAny_If (thn (hc pins s σ H _ I h) λd s1 ⟨H1,I1,q1⟩=>?_);cases d with
 |true=>exact ha pins s1 σ H1 D I1 q1
 |false=>exact hb pins s1 σ H1 D I1 q1
end
abbrev TG:=V->St->Hp->(St->Hp->Prop)->Prop
abbrev TGs:=bh->St->Hp->(St->Hp->Prop)->Prop
def PG(X:Cx)(target:Expr)(t:TG):Prop:=
 ∀(pins:bW) (s:af) (σ:St) (H:Hp) (v:V) (u:aa) (Q:St->Hp->Prop),Inv X pins σ H s->RelV v u->t v σ H Q->
  wpAny (model X.prog X.w) X.A (assign target X.env u) (λ_ s'=>∃σ' H',Inv X pins σ' H' s'/\Q σ' H') X.xe s
def PGs(X:Cx)(ts:List Expr)(t:TGs):Prop:=
 ∀(pins:bW) (s:af) (σ:St) (H:Hp) (vs:bh) (us:List aa) (Q:St->Hp->Prop),Inv X pins σ H s->Vals vs us->t vs σ H Q->
  wpAny (model X.prog X.w) X.A (assignInOrder ((assignEach ts X.env).map (·.2)) us) (λ_ s'=>∃σ' H',Inv X pins σ' H' s'/\Q σ' H') X.xe s
variable{es:List Expr}{tg:Expr}{te:TE}
section
variable{X:Cx}{pos:Pos}
def t8(i:Nat):TG:=λv σ H Q=>Q (σ.set i (some v)) H
theorem HW{x:Str}(hN:X.N.Nodup)(hi:X.N[i]?=some x)(hx:Loc X.env.scope x)(hf:X.fn x=true\/X.env.scope.names.lookup x=some .local:=by first|exact .inl rfl|exact .inr rfl|assumption):PG X (.Name x pos) (t8 i):=by intro pins s σ H v u Q I r h;exact wpAny_assign_Name (E3 I hN hi hx r (λs' I'=>⟨_,H,I',h⟩) hf)
def Rk:TGs:=λvs σ H Q=>vs=[]/\Q σ H
def HX(t:TG)(u:TGs):TGs:=λvs σ H Q=>∃v r,vs=v::r/\t v σ H λσ' H'=>u r σ' H' Q
theorem HY:PGs X [] Rk:=by intro pins s σ H vs us Q I r h;obtain⟨e,h⟩:=h;subst e;cases r;exact assignInOrder_nil ⟨σ,H,I,h⟩
theorem Bi{t:TG}{u:TGs}(h1:PG X e t)(h2:PGs X es u)
  (hs:(assignEach (e::es) X.env).map (·.2)=assign e X.env::(assignEach es X.env).map (·.2):=by rfl):PGs X (e::es) (HX t u):=by
 intro pins s σ H vs us Q I r h;obtain⟨v,vr,e1,h⟩:=h;subst e1;cases r with
 |cons r rr=>rw[hs];refine assignInOrder_cons (thn (h1 pins s σ H _ _ _ I r h) λ_ s1 ⟨σ1,H1,I1,q1⟩=>?_);exact h2 pins s1 σ1 H1 _ _ Q I1 rr q1
def N6(K:ar)(n:Nat)(t:TGs):TG:=λv σ H Q=>∃a xs,v=.ref a/\SqT K H a xs/\xs.length=n/\t xs σ H Q
theorem Rl{k:Nat}{t:TGs}{n:Nat}(hc:X.calm=true)(h:PGs X es t)
  (hn:(assignEach es X.env).length=n:=by rfl) (hst:(assignEach es X.env).findIdx? (·.1)=none:=by rfl):PG X (.Tuple es k pos) (N6 X.K n t):=by
 intro pins s σ H v u Q I r hw;obtain⟨a,xs,e1,hq,hl,hw⟩:=hw;subst e1;cases r;obtain⟨its,rv,ht,hz⟩:=I.tuple hq;refine assign_Tuple_tuple (I.ok.hd hc) ht (by simp[hn,<- hl,rv.length]) hst λh' hx=>?_;have I1:Inv X pins σ H { s with heap:=h' }:=I.kept (t':=s.toks) λb o e=>hx b o (aU (aM e)) e;exact h pins _ σ H xs _ Q I1 (by simpa using rv) hw
def yJ(te:TE)(g:TG):TS:=λD σ H=>te σ H λx H1=>g x σ H1 D.nx
theorem KO{g:TG}(he:PE X e te)(hg:PG X tg g)(hs:swapsWithSole [tg] e pos.line X.env=pure false:=by rfl)(hw:swappedStores [tg] e X.env=pure none:=by rfl)
  (h1:(assignEach [tg] X.env).map (·.2)=[assign tg X.env]:=by rfl):PS X (.Assign [tg] e pos) (yJ te g):=by
 intro pins s σ H D I h;refine wpAny_Assign_stores (thn (he pins s σ H _ I h) λv s1 ⟨x,H1,I1,r1,q1⟩=>?_) hs hw;rw[h1];exact thn (hg pins s1 σ H1 x v _ I1 r1 q1) λ_ s2 q=>q
theorem Rm{x:Str}{pos':Pos}(hN:X.N.Nodup)(hi:X.N[i]?=some x)(hx:Loc X.env.scope x)(he:PE X e te)(hs:swapsWith e (some (.Name x pos')) pos.line X.env=pure false:=by rfl)(hf:X.fn x=true\/X.env.scope.names.lookup x=some .local:=by first|exact .inl rfl|exact .inr rfl|assumption):
  PS X (.Assign [.Name x pos'] e pos) (yJ te (t8 i)):=by
 intro pins s σ H D I h;refine wpAny_Assign_Name (thn (he pins s σ H _ I h) λv s1 ⟨y,H1,I1,r1,q1⟩=>?_) hs;exact E3 I1 hN hi hx r1 (λs2 I2=>⟨_,H1,I2,q1⟩) hf
end
variable{body:List Stmt}{tb:TS}
section
variable{X:Cx}{pos:Pos}
def KP(c:TT)(tb:TS):TS:=λD σ H=>∃W:Nat->St->Hp->Prop,(∃m,W m σ H)/\∀m σ H,W m σ H->
 c σ H λb H1=>if b=true then ∃N:St->Hp->Prop,(∀σ' H',N σ' H'->∃m',m'<m/\W m' σ' H')/\tb { D with nx:=N,ct:=N,bk:=D.nx } σ H1 else D.nx σ H1
theorem KQ(hp:iO (model X.prog X.w) X.A X.env X.xe)(hc:PT X c tc)(hb:PSs X body tb):PS X (.While c body [] pos) (KP tc tb):=by
 intro pins s σ H D I h;obtain⟨W,⟨m0,w0⟩,turn⟩:=h;refine wpAny_While (codeAny_whileLoop (λn s'=>∃σ' H',Inv X pins σ' H' s'/\W n σ' H') ?_ m0 ⟨σ,H,I,w0⟩);rintro n s1 ⟨σ1,H1,I1,w1⟩;refine eE hp (thn (hc pins s1 σ1 H1 _ I1 (turn n σ1 H1 w1)) λb s2 ⟨H2,I2,q2⟩=>?_);cases b with
 |true=>
  obtain⟨N,hN,q2⟩:=q2;rw[aj rfl];refine eE hp (thn (hb pins s2 σ1 H2 _ I2 q2) λf s3 q3=>?_);cases f with
  |next=>obtain⟨σ3,H3,I3,n3⟩:=q3;obtain⟨m',hm,w3⟩:=hN σ3 H3 n3;exact⟨m',hm,σ3,H3,I3,w3⟩
  |cont=>obtain⟨σ3,H3,I3,n3⟩:=q3;obtain⟨m',hm,w3⟩:=hN σ3 H3 n3;exact⟨m',hm,σ3,H3,I3,w3⟩
  |brk=>exact q3
  |ret v=>exact q3
 |false=>rw[ak bb];exact iy ⟨σ1,H2,I2,q2⟩
end
structure It where
 go:Nat->Hp->Prop
 yld:Nat->Hp->V->Hp->Prop
 stop:Nat->Hp->Prop
def CD(X:Cx)(pins:bW)(H:Hp)(b:Addr):Prop:=
 H b=none/\b≠X.env.locals/\b∉X.fs/\(b∈X.ex\/X.s₀.heap.objs.size<=b)/\(∀x c,X.env.cells.lookup x=some c->c≠b)/\∀p∈X.pn++pins,p.1≠b
theorem Inv.fpOk{H H':Hp}{s:af}(I:Inv X pins σ H s)(hb:s.heap.objs.size<=b)(hn:H' b=none):CD X pins H' b:=by
 refine⟨hn,dH (bR I.lt hb),I.nofs hb,.inr (bQ I.sz hb),λx c e z=>?_,λp hp z=>?_⟩
 ·obtain⟨v,q⟩:=I.cell x c e;exact ao (bR q.lt (by rw[z];exact hb)) (cU _)
 ·exact ao (bR (aM (I.pin p hp).1) (by rw[z];exact hb)) (cU _)
structure Turn(P:aD)(w:aw)(K:ar)(tg:Expr)(J:It)(fp:List Addr)(it:Addr)(tn:Nat->Heap->Prop):Prop where
 mem:it∈fp
 obj:∀i h,tn i h->∀b∈fp,∃o,h.get? b=some o/\∀v,o.data≠.cell v
 keep:∀i h h',tn i h->(∀b∈fp,∀o,h.get? b=some o->h'.get? b=some o)->tn i h'
 item:∀(X:Cx),X.prog=P->X.w=w->X.K=K->X.calm=true->∀(i:Nat) (pins:bW) (s:af) (σ:St) (H:Hp) (E:aa->af->Prop),Inv X pins σ H s->(∀b∈fp,CD X pins H b)->tn i s.heap->J.go i H->
  wpAny (model P w) X.A (pyNext (.ref it)) (λr s1=>∃u,r=some u/\
   wpAny (model P w) X.A (letOwnedTupleGo tg (.ref it) u) (λ_ s2=>∃x H',Inv X pins σ H' s2/\RelV x u/\J.yld i H x H'/\tn (i+1) s2.heap/\∀b∈fp,H' b=none) E s1) E s
 done:∀(X:Cx),X.prog=P->X.w=w->X.K=K->X.calm=true->∀(i:Nat) (pins:bW) (s:af) (σ:St) (H:Hp) (E:aa->af->Prop),Inv X pins σ H s->(∀b∈fp,CD X pins H b)->tn i s.heap->J.stop i H->
  wpAny (model P w) X.A (pyNext (.ref it)) (λr s1=>r=none/\Inv X pins σ H s1) E s
 self:∀(A:aH) (i:Nat) (s:af) (Q:aa->af->Prop) (E:aa->af->Prop),tn i s.heap->Q (.ref it) s->wpAny (model P w) A (pyIter (.ref it)) Q E s
abbrev TI:=St->Hp->(It->Hp->Prop)->Prop
def PIE(X:Cx)(pins:bW)(σ:St)(tg:Expr)(R:It->Hp->Prop)(itv:aa)(s2:af):Prop:=
 ∃(it:Addr) (fp:List Addr) (tn:Nat->Heap->Prop) (J:It) (H':Hp),itv=.ref it/\Inv X pins σ H' s2/\Turn X.prog X.w X.K tg J fp it tn/\tn 0 s2.heap/\(∀b∈fp,CD X pins H' b)/\R J H'
def PI(X:Cx)(tg iter:Expr)(wi:TI):Prop:=
 ∀(pins:bW) (s:af) (σ:St) (H:Hp) (R:It->Hp->Prop),Inv X pins σ H s->wi σ H R->
  wpAny (model X.prog X.w) X.A (eval iter X.env) (λv s1=>wpAny (model X.prog X.w) X.A (pyIter v) (PIE X pins σ tg R) X.xe s1) X.xe s
theorem HZ{A:aH}{s:af}{o:Obj}{n:String}{vs:Array aa}{Q:Unit->af->Prop}(ho:s.heap.get? it=some o)(hc:o.cls=.type n)(hd:o.data=.fields vs)
  (hn:["enumerate", "zip", "dict_itemiterator", "dict_reverseitemiterator", "odict_iterator", "itertools.zip_longest", "itertools.pairwise"].contains n=false) (hQ:Q () s):wpAny M A (letOwnedTupleGo tg (.ref it) u) Q E s:=by
 unfold letOwnedTupleGo;cases tg<;>first
  |exact aB hQ
  |(cases u<;>first
    |exact aB hQ
    |(refine ai (wpAny_load ho ?_)
      rw[hc,hd];show wpAny M A (if (["enumerate", "zip", "dict_itemiterator", "dict_reverseitemiterator", "odict_iterator", "itertools.zip_longest", "itertools.pairwise"].contains n&&vs[0]?==some (rawInt _))=true then _ else _) Q E s;rw[ak (by intro h;rw[hn,Bool.false_and]at h;cases h)];exact aB hQ))
def Itl(K:ar)(a:Addr):It:=
 ⟨λi H=>∃xs x,SqL K H a xs/\xs[i]?=some x,λi H x H'=>H'=H/\∀xs,SqL K H a xs->xs[i]?=some x,λi H=>∃xs,SqL K H a xs/\xs.length<=i⟩
def Itt(K:ar)(a:Addr):It:=
 ⟨λi H=>∃xs x,SqT K H a xs/\xs[i]?=some x,λi H x H'=>H'=H/\∀xs,SqT K H a xs->xs[i]?=some x,λi H=>∃xs,SqT K H a xs/\xs.length<=i⟩
def Itr(lo:Int)(n:Nat):It:=⟨λi _=>i<n,λi H x H'=>H'=H/\x=.int (lo+i),λi _=>n<=i⟩
theorem Jv{P:aD}{w:aw}{K:ar}(a it:Addr):Turn P w K tg (Itl K a) [it] it (λi h=>h.IsListIter it a i) where
 mem:=by simp
 obj:=λi h st b hb=>by
  have e:b=it:=by simpa using hb
  subst e;obtain⟨o,e,c,d⟩:=st;exact⟨o,e,λv z=>by rw[d]at z;cases z⟩
 keep:=λi h h' st k=>st.at λo e=>k it (by simp) o e
 item:=by intro X hP hw hK hc i pins s σ H E I hf st hg;subst hP hw hK;obtain⟨xs,x,hq,hx⟩:=hg;obtain⟨its,rv,p,hz⟩:=I.list hq;obtain⟨u,hu,ru⟩:=rv.get hx;obtain⟨f0,f1,f2,f3,f4,f5⟩:=hf it (by simp);refine wpAny_pyNext_list_item st p.isList (x:=u) (by simpa using hu) λh' st' sb=>?_;have I1:Inv X pins σ H { s with heap:=h' }:=I.turned (t':=s.toks) (λb o hb e=>(sb.2 b hb).trans e) f0 f1 f3 f4 f5;obtain⟨o,e,c,d⟩:=id st';exact⟨u,rfl,HZ (s:={ s with heap:=h' }) e c d (by decide) ⟨x,H,I1,ru,⟨rfl,λys hy=>by rw[I.list_inj hy hq];exact hx⟩,st',λb hb=>(hf b hb).1⟩⟩
 done:=by intro X hP hw hK hc i pins s σ H E I hf st hg;subst hP hw hK;obtain⟨xs,hq,hx⟩:=hg;obtain⟨its,rv,p,hz⟩:=I.list hq;obtain⟨f0,f1,f2,f3,f4,f5⟩:=hf it (by simp);have hl:=rv.length;exact wpAny_pyNext_list_end (I.ok.hd hc) st p.isList (by simp;omega) λh' eb=>⟨rfl,I.turned (t':=s.toks) (λb o hb e=>eb b o hb e) f0 f1 f3 f4 f5⟩
 self:=λ_ _ _ _ _ st h=>wpAny_pyIter_listiter st h
theorem GH{P:aD}{w:aw}{K:ar}(a it:Addr):Turn P w K tg (Itt K a) [it] it (λi h=>h.IsTupleIter it a i) where
 mem:=by simp
 obj:=λi h st b hb=>by
  have e:b=it:=by simpa using hb
  subst e;obtain⟨o,e,c,d⟩:=st;exact⟨o,e,λv z=>by rw[d]at z;cases z⟩
 keep:=λi h h' st k=>st.at λo e=>k it (by simp) o e
 item:=by intro X hP hw hK hc i pins s σ H E I hf st hg;subst hP hw hK;obtain⟨xs,x,hq,hx⟩:=hg;obtain⟨its,rv,p,hz⟩:=I.tuple hq;obtain⟨u,hu,ru⟩:=rv.get hx;obtain⟨f0,f1,f2,f3,f4,f5⟩:=hf it (by simp);refine wpAny_pyNext_tuple_item st (show s.heap.IsTuple a its.toArray from p) (x:=u) (by simpa using hu) λh' st' sb=>?_;have I1:Inv X pins σ H { s with heap:=h' }:=I.turned (t':=s.toks) (λb o hb e=>(sb.2 b hb).trans e) f0 f1 f3 f4 f5;obtain⟨o,e,c,d⟩:=id st';exact⟨u,rfl,HZ (s:={ s with heap:=h' }) e c d (by decide) ⟨x,H,I1,ru,⟨rfl,λys hy=>by rw[I.tuple_inj hy hq];exact hx⟩,st',λb hb=>(hf b hb).1⟩⟩
 done:=by intro X hP hw hK hc i pins s σ H E I hf st hg;subst hP hw hK;obtain⟨xs,hq,hx⟩:=hg;obtain⟨its,rv,p,hz⟩:=I.tuple hq;obtain⟨f0,f1,f2,f3,f4,f5⟩:=hf it (by simp);have hl:=rv.length;exact wpAny_pyNext_tuple_end (I.ok.hd hc) st (show s.heap.IsTuple a its.toArray from p) (by simp;omega) λh' eb=>⟨rfl,I.turned (t':=s.toks) (λb o hb e=>eb b o hb e) f0 f1 f3 f4 f5⟩
 self:=λ_ _ _ _ _ st h=>wpAny_pyIter_tupleiter st h
theorem GI{P:aD}{w:aw}{K:ar}(it:Addr)(lo:Int)(n:Nat):Turn P w K tg (Itr lo n) [it] it (λi h=>IsRangeIter h it (lo+(i:Nat) * 1) ((n:Int) - (i:Nat)) 1) where
 mem:=by simp
 obj:=λi h st b hb=>by
  have e:b=it:=by simpa using hb
  subst e;exact⟨_,st,λv z=>by
   have z':Data.fields _=Data.cell v:=z;cases z'⟩
 keep:=λi h h' st k=>k it (by simp) _ st
 item:=by intro X hP hw hK hc i pins s σ H E I hf st hg;subst hP hw hK;obtain⟨f0,f1,f2,f3,f4,f5⟩:=hf it (by simp);have W:=Walks.range (prog:=X.prog) (w:=X.w) (I.ok.hd hc) it lo 1 n;refine W.item i s _ _ hg st λv h' tk hv st' kk=>?_;obtain⟨t,rfl⟩:=hv;have I1:Inv X pins σ H { s with heap:=h',toks:=tk }:=I.turned (λb o hb e=>kk b o (by simpa using hb) e) f0 f1 f3 f4 f5;refine⟨_,rfl,HZ (s:={ s with heap:=h',toks:=tk }) (n:="range_iterator") st' rfl rfl (by decide) ⟨.int (lo+i),H,I1,⟨t,?_⟩,⟨rfl,rfl⟩,st',λb hb=>(hf b hb).1⟩⟩;rw[Int.mul_one]
 done:=by intro X hP hw hK hc i pins s σ H E I hf st hg;subst hP hw hK;obtain⟨f0,f1,f2,f3,f4,f5⟩:=hf it (by simp);exact wpAny_pyNext_range_end (I.ok.hd hc) st (by have:n<=i:=hg;omega) λh' eb=>⟨rfl,I.turned (t':=s.toks) (λb o hb e=>eb b o hb e) f0 f1 f3 f4 f5⟩
 self:=λ_ _ _ _ _ st h=>wpAny_pyIter_rangeiter st h
variable{tl:TE}
section
variable{X:Cx}{tg:Expr}
def KR(K:ar)(tl:TE):TI:=λσ H R=>tl σ H λx H1=>∃a,x=.ref a/\(∃xs,SqL K H1 a xs)/\R (Itl K a) H1
def Ro(K:ar)(tl:TE):TI:=λσ H R=>tl σ H λx H1=>∃a,x=.ref a/\(∃xs,SqT K H1 a xs)/\R (Itt K a) H1
theorem N7{l:Expr}(hl:PE X l tl):PI X tg l (KR X.K tl):=by
 intro pins s σ H R I h;refine thn (hl pins s σ H _ I h) λv s1 ⟨x,H1,I1,r1,q1⟩=>?_;obtain⟨a,e,⟨xs,hq⟩,q⟩:=q1;subst e;cases r1;obtain⟨its,rv,p,hz⟩:=I1.list hq;refine eS p.isList ?_;refine⟨s1.heap.objs.size,[s1.heap.objs.size],_,_,H1,rfl,I1.kept (t':=s1.toks) λb o e=>aG _ e,Jv a _,⟨_,ba _ rfl,rfl,rfl⟩,λb hb=>?_,q⟩;have e:b=s1.heap.objs.size:=by simpa using hb
 subst e;exact I1.fpOk (aK _) (I1.hok.fresh (aK _))
theorem Rp{l:Expr}(hl:PE X l tl):PI X tg l (Ro X.K tl):=by
 intro pins s σ H R I h;refine thn (hl pins s σ H _ I h) λv s1 ⟨x,H1,I1,r1,q1⟩=>?_;obtain⟨a,e,⟨xs,hq⟩,q⟩:=q1;subst e;cases r1;obtain⟨its,rv,p,hz⟩:=I1.tuple hq;refine jw (show s1.heap.IsTuple a its.toArray from p) ?_;refine⟨s1.heap.objs.size,[s1.heap.objs.size],_,_,H1,rfl,I1.kept (t':=s1.toks) λb o e=>aG _ e,GH a _,⟨_,ba _ rfl,rfl,rfl⟩,λb hb=>?_,q⟩;have e:b=s1.heap.objs.size:=by simpa using hb
 subst e;exact I1.fpOk (aK _) (I1.hok.fresh (aK _))
theorem KU{H:Hp}{s:af}{R:It->Hp->Prop}{lo hi:Int}{t u v:Tok}{tk:Nat}(I:Inv X pins σ H s)(h1:-(2 ^ 62)<=lo)(h2:lo<2 ^ 62)(h3:-(2 ^ 62)<=hi)(h4:hi<2 ^ 62)
  (q:R (Itr lo (hi - lo).toNat) H):wpAny (model X.prog X.w) X.A (pyIter (.ref s.heap.objs.size)) (PIE X pins σ tg R) E { s with heap:=s.heap.push { cls:=.type "range", data:=.fields #[.int lo t,.int hi u,.int 1 v] },toks:=tk }:=by
 refine wpAny_pyIter_range (IsRange.new ..) (small_one h1 h2 h3 h4) ?_;have I1:Inv X pins σ H { s with heap:=s.heap.push { cls:=.type "range", data:=.fields #[.int lo t,.int hi u,.int 1 v] },toks:=tk }:=I.kept λb o e=>aG _ e;refine⟨(s.heap.push { cls:=.type "range", data:=.fields #[.int lo t,.int hi u,.int 1 v] }).objs.size,[(s.heap.push { cls:=.type "range", data:=.fields #[.int lo t,.int hi u,.int 1 v] }).objs.size],_,_,H,rfl,
  I1.kept (t':=tk) λb o e=>aG _ e,GI _ lo (hi - lo).toNat,?_,λb hb=>?_,q⟩
 ·have e1:lo+((0:Nat):Int) * 1=lo:=by simp
  have e2:(((hi - lo).toNat:Nat):Int) - ((0:Nat):Int)=Builtin.Range.rangeSize lo hi 1:=by rw[rangeSize_one];split<;>omega
  show IsRangeIter _ _ (lo+((0:Nat):Int) * 1) ((((hi - lo).toNat:Nat):Int) - ((0:Nat):Int)) 1;rw[e1,e2];exact ba _ rfl
 ·have e:b=(s.heap.push { cls:=.type "range", data:=.fields #[.int lo t,.int hi u,.int 1 v] }).objs.size:=by simpa using hb
  subst e;exact I1.fpOk (aK _) (I1.hok.fresh (aK _))
def QH(ta:TA):TI:=λσ H R=>ta σ H λvs H1=>∃j:Int,vs=[.int j]/\-(2 ^ 62)<=j/\j<2 ^ 62/\R (Itr 0 j.toNat) H1
theorem Jw{a:Expr}{ta:TA}{p:Pos}(hg:Gl X "range")(hm:X.mg "range" = none)(ha:PA X [a] ta)(hs:starEach [a] X.env=[(false,eval a X.env)]:=by rfl):PI X tg (.Call (.Name "range" p) [a] [] pos) (QH ta):=by
 intro pins s σ H R I h;refine Call_ (wG I hg hm boot_range (callWith_type1 (thn (ha pos pins s σ H _ I h) λus s1 ⟨vs,H1,I1,r1,q1⟩=>?_) hs rfl));obtain⟨j,e,q1,q2,q⟩:=q1;subst e;cases r1 with
 |cons r rr=>cases rr;obtain⟨t,rfl⟩:=r;exact call_range_1 (KU I1 (by omega) (by omega) q1 q2 (by simpa using q))
def Rq(wi:TI)(g:TG)(tb:TS):TS:=λD σ H=>wi σ H λJ H1=>∃W:Nat->Nat->St->Hp->Prop,(∃m,W 0 m σ H1)/\∀i m σ H,W i m σ H->
 (J.stop i H/\D.nx σ H)\/(J.go i H/\∃N:St->Hp->Prop,(∀σ' H',N σ' H'->∃m',m'<m/\W (i+1) m' σ' H')/\∀x H',J.yld i H x H'->g x σ H' λσ2 H2=>tb { D with nx:=N,ct:=N,bk:=D.nx } σ2 H2)
def Bj(fp:List Addr)(h:Heap):bW:=fp.filterMap λb=>(h.get? b).map λo=>(b,o)
theorem ua{fp:List Addr}{h:Heap}{o:Obj}(hb:b∈fp)(e:h.get? b=some o):(b,o)∈Bj fp h:=il.mpr ⟨b,hb,by rw[e];rfl⟩
theorem Jx{fp:List Addr}{h:Heap}{p:Addr×Obj}(hp:p∈Bj fp h):p.1∈fp/\h.get? p.1=some p.2:=by
 obtain⟨b,hb,e⟩:=il.mp hp;cases q:h.get? b with
 |none=>rw[q]at e;cases e
 |some o=>rw[q]at e;have e':(b,o)=p:=bP e;subst e';exact⟨hb,q⟩
theorem Inv.pinned{H:Hp}{s:af}{fp:List Addr}(I:Inv X pins σ H s)(hf:∀b∈fp,CD X pins H b)(ho:∀b∈fp,∃o,s.heap.get? b=some o/\∀v,o.data≠.cell v):Inv X (pins++Bj fp s.heap) σ H s:=
 I.pins_of λp hp=>(cq.mp hp).elim (λz=>I.pin p (bO _ z)) λz=>by obtain⟨hb,e⟩:=Jx z;obtain⟨f0,f1,f2,_⟩:=hf p.1 hb;obtain⟨o,e',d⟩:=ho p.1 hb;rw[e]at e';cases e';exact⟨e,f0,f1,f2,d⟩
theorem Inv.unpinned{pl:bW}{H:Hp}{s:af}(I:Inv X (pins++pl) σ H s):Inv X pins σ H s:=I.pins_of λp hp=>I.pin p (bO _ (bT _ hp))
theorem KW{iter:Expr}{wi:TI}{g:TG}(hp:iO (model X.prog X.w) X.A X.env X.xe)(hc:X.calm=true)(hi:PI X tg iter wi)(hg:PG X tg g)(hb:PSs X body tb)
  (hs:∀x,foldedSetIterable iter X.env x=pure x:=by intro _;rfl):PS X (.For tg iter body [] pos) (Rq wi g tb):=by
 intro pins s σ H D I h;refine wpAny_For (thn (hi pins s σ H _ I h) λv s1 h1=>thn h1 λitv s2 h2=>?_) hs;obtain⟨it,fp,tn,J,H2,e,I2,T,st2,f2,W,⟨m0,w0⟩,turn⟩:=h2;subst e;have stat:∀{H':Hp},(∀b∈fp,H' b=none)->∀b∈fp,CD X pins H' b:=λhn b hb=>⟨hn b hb,(f2 b hb).2⟩;refine codeAny_forLoop_any (λn s'=>∃i σ' H',Inv X pins σ' H' s'/\tn i s'.heap/\(∀b∈fp,H' b=none)/\W i n σ' H') ?_ m0 ⟨0,σ,H2,I2,st2,λb hb=>(f2 b hb).1,w0⟩;rintro n s3 ⟨i,σ3,H3,I3,st3,fr3,w3⟩;rcases turn i n σ3 H3 w3 with ⟨stop,qn⟩|⟨go,N,hN,step⟩
 ·refine eE hp (thn (T.done X rfl rfl rfl hc i pins s3 σ3 H3 X.xe I3 (stat fr3) st3 stop) λr s4 ⟨hr,I4⟩=>?_);subst hr;exact iy ⟨σ3,H3,I4,qn⟩
 ·refine eE hp (thn (T.item X rfl rfl rfl hc i pins s3 σ3 H3 X.xe I3 (stat fr3) st3 go) λr s4 ⟨u,hr,h4⟩=>?_);subst hr;refine eE hp (thn h4 λ_ s5 ⟨x,H5,I5,r5,y5,st5,fr5⟩=>?_);have I5':=I5.pinned (stat fr5) (T.obj _ _ st5);refine eE hp (thn (hg _ s5 σ3 H5 x u _ I5' r5 (step x H5 y5)) λ_ s6 ⟨σ6,H6,I6,q6⟩=>?_);refine eE hp (thn (hb _ s6 σ6 H6 _ I6 q6) λf s7 q7=>?_);have again:∀{σ7:St} {H7:Hp},Inv X (pins++Bj fp s5.heap) σ7 H7 s7->N σ7 H7->∃m,m<n/\∃i σ' H',Inv X pins σ' H' s7/\tn i s7.heap/\(∀b∈fp,H' b=none)/\W i m σ' H':=λ{σ7 H7} I7 n7=>by obtain⟨m',hm,w7⟩:=hN σ7 H7 n7;refine⟨m',hm,i+1,σ7,H7,I7.unpinned,T.keep _ _ _ st5 λb hb o e=>(I7.pin (b,o) (bO _ (bO _ (ua hb e)))).1,λb hb=>?_,w7⟩;obtain⟨o,e,d⟩:=T.obj _ _ st5 b hb;exact(I7.pin (b,o) (bO _ (bO _ (ua hb e)))).2.1
  cases f with
  |next=>obtain⟨σ7,H7,I7,n7⟩:=q7;exact again I7 n7
  |cont=>obtain⟨σ7,H7,I7,n7⟩:=q7;exact again I7 n7
  |brk=>obtain⟨σ7,H7,I7,q7⟩:=q7;exact⟨σ7,H7,I7.unpinned,q7⟩
  |ret v=>obtain⟨x7,σ7,H7,I7,r7,q7⟩:=q7;exact⟨x7,σ7,H7,I7.unpinned,r7,q7⟩
end
abbrev R2:=V->V->Hp->VK->Prop
def OpR(X:Cx)(f:aa->aa->Sem aa)(r:R2):Prop:=
 ∀(pins:bW) (s:af) (σ:St) (H:Hp) (x y:V) (v u:aa) (Q:VK),Inv X pins σ H s->RelV x v->RelV y u->r x y H Q->
  wpAny (model X.prog X.w) X.A (f v u) (EP X pins σ Q) X.xe s
def qf(X:Cx)(f:aa)(r:bh->Hp->VK->Prop):Prop:=
 ∀(pins:bW) (s:af) (σ:St) (H:Hp) (xs:bh) (us:List aa) (Q:VK),Inv X pins σ H s->Vals xs us->r xs H Q->
  wpAny (model X.prog X.w) X.A (call f us) (EP X pins σ Q) X.xe s
def tOp(r:R2)(ta tb:TE):TE:=λσ H Q=>ta σ H λx H1=>tb σ H1 λy H2=>r x y H2 Q
def rI(C:Int->Int->Prop)(g:Int->Int->V):R2:=λx y H Q=>∃i j,x=.int i/\y=.int j/\C i j/\Q (g i j) H
def rI0(g:Int->Int->V):R2:=λx y H Q=>∃i j,x=.int i/\y=.int j/\Q (g i j) H
variable{f:aa->aa->Sem aa}{r:R2}
section
variable{X:Cx}{a b c:Expr}{ta tb tc:TE}{pos:Pos}
theorem Rr(ha:PE X a ta)(hb:PE X b tb){s:af}{H:Hp}(I:Inv X pins σ H s)
  (h:ta σ H λx H1=>tb σ H1 λy H2=>R x y H2)
  (hf:∀v u s2 x y H2,Inv X pins σ H2 s2->RelV x v->RelV y u->R x y H2->wpAny (model X.prog X.w) X.A (f v u) Q X.xe s2):
  wpAny (model X.prog X.w) X.A (eval a X.env) (λv s₁=>wpAny (model X.prog X.w) X.A (eval b X.env) (λu s₂=>wpAny (model X.prog X.w) X.A (f v u) Q X.xe s₂) X.xe s₁) X.xe s:=by
 refine thn (ha pins s σ H _ I h) λv s1 ⟨x,H1,I1,r1,q1⟩=>?_;refine thn (hb pins s1 σ H1 _ I1 q1) λu s2 ⟨y,H2,I2,r2,q2⟩=>?_;exact hf v u s2 x y H2 I2 r1 r2 q2
theorem KY{op:iP}(ho:OpR X (binaryOp op) r)(ha:PE X a ta)(hb:PE X b tb):PE X (.BinOp a op b pos) (tOp r ta tb):=by intro pins s σ H Q I h;exact wpAny_BinOp (Rr ha hb I h λv u s2 x y H2 I2 rx ry q=>ho pins s2 σ H2 x y v u Q I2 rx ry q)
theorem opI{C:Int->Int->Prop}{g:Int->Int->Int}
  (rule:∀(i j:Int) (t u:Tok) (s:af) (Q:aa->af->Prop) (E:aa->af->Prop),C i j->Q (.int (g i j) s.toks) { s with toks:=s.toks+1 }->wpAny (model X.prog X.w) X.A (f (.int i t) (.int j u)) Q E s):
  OpR X f (rI C λi j=>.int (g i j)):=by
 intro pins s σ H x y v u Q I rx ry h;obtain⟨i,j,rfl,rfl,hc,q⟩:=h;obtain⟨t,rfl⟩:=rx;obtain⟨t',rfl⟩:=ry;exact rule i j t t' s _ _ hc ⟨.int (g i j),H,I.tok _,⟨_,rfl⟩,q⟩
theorem Vx{g:Int->Int->Int}
  (rule:∀(i j:Int) (t u:Tok) (s:af) (Q:aa->af->Prop) (E:aa->af->Prop),Q (.int (g i j) s.toks) { s with toks:=s.toks+1 }->wpAny (model X.prog X.w) X.A (f (.int i t) (.int j u)) Q E s):
  OpR X f (rI0 λi j=>.int (g i j)):=by
 intro pins s σ H x y v u Q I rx ry h;obtain⟨i,j,rfl,rfl,q⟩:=h;obtain⟨t,rfl⟩:=rx;obtain⟨t',rfl⟩:=ry;exact rule i j t t' s _ _ ⟨.int (g i j),H,I.tok _,⟨_,rfl⟩,q⟩
theorem N8{g:Int->Int->Bool}
  (rule:∀(i j:Int) (t u:Tok) (s:af) (Q:aa->af->Prop) (E:aa->af->Prop),Q (.bool (g i j)) s->wpAny (model X.prog X.w) X.A (f (.int i t) (.int j u)) Q E s):
  OpR X f (rI0 λi j=>.bl (g i j)):=by
 intro pins s σ H x y v u Q I rx ry h;obtain⟨i,j,rfl,rfl,q⟩:=h;obtain⟨t,rfl⟩:=rx;obtain⟨t',rfl⟩:=ry;exact rule i j t t' s _ _ ⟨.bl (g i j),H,I,rfl,q⟩
def Rt(i j:Int):Prop:=0<j/\j<1073741824
def Vy(i j:Int):Prop:=0<=j/\j<=1000000/\i.natAbs<2 ^ 64
def N9(i j:Int):Prop:=(-(2 ^ 64)<i/\i<2 ^ 64)\/(-(2 ^ 64)<j/\j<2 ^ 64)
theorem N9.ok{i j:Int}(h:N9 i j):IntMulOk i j:=by
 rcases h with ⟨h1,h2⟩|⟨h1,h2⟩
 ·exact .of_left (intBits_le_64 h1 h2)
 ·exact .of_right (intBits_le_64 h1 h2)
theorem Ru:OpR X (binaryOp .Add) (rI0 λi j=>.int (i+j)):=Vx λ_ _ _ _ _ _ _ q=>add_int q
theorem Rv:OpR X (binaryOp .Sub) (rI0 λi j=>.int (i - j)):=Vx λ_ _ _ _ _ _ _ q=>sub_int q
theorem Rx:OpR X (binaryOp .Mult) (rI N9 λi j=>.int (i * j)):=opI λ_ _ _ _ _ _ _ hc q=>mul_int q hc.ok
theorem Oa:OpR X (binaryOp .FloorDiv) (rI Rt λi j=>.int (i / j)):=opI λi j _ _ _ _ _ hc q=>by have h1:(0:Int)<j:=hc.1;have h2:j<1073741824:=hc.2;exact floordiv_int (by omega) (by rw[Int.fdiv_eq_ediv_of_nonneg i (by omega)];exact q) (.inl (PyProof.noPylong_small (by omega)))
theorem Ry:OpR X (binaryOp .Mod) (rI (λ_ j=>0<j) λi j=>.int (i % j)):=opI λi j _ _ _ _ _ hc q=>by have h1:(0:Int)<j:=hc;exact mod_int' (by omega) (by rw[Int.fmod_eq_emod_of_nonneg i (by omega)];exact q)
theorem RA:OpR X (binaryOp .Pow) (rI Vy λi j=>.int (i ^ j.toNat)):=opI λ_ _ _ _ _ _ _ hc q=>pow_int_small hc.1 hc.2.1 hc.2.2 q
end
def KZ:V->V->Bool
 |.non,.non=>true|.non,.int _=>true|.int _,.non=>true|.non,.bl _=>true|.bl _,.non=>true|.non,.str _=>true|.str _,.non=>true
 |.int _,.int _=>true|.bl _,.bl _=>true|.str _,.str _=>true|.byt _,.byt _=>true
 |.int _,.str _=>true|.str _,.int _=>true|.bl _,.str _=>true|.str _,.bl _=>true
 |_,_=>false
def rEq:R2:=λx y H Q=>KZ x y=true/\Q (.bl (decide (x=y))) H
def rNe:R2:=λx y H Q=>KZ x y=true/\Q (.bl (!decide (x=y))) H
theorem Ia{i j:Int}:decide (V.int i=V.int j)=(i==j):=by rw[cD];simp
theorem K0{i j:Bool}:decide (V.bl i=V.bl j)=(i==j):=by rw[cD];simp
theorem Ib{i j:Str}:decide (V.str i=V.str j)=(i==j):=by rw[cD];simp
theorem Ie{i j:Array UInt8}:decide (V.byt i=V.byt j)=(i.toList==j.toList):=by rw[cD];cases i;cases j;simp
variable{op':cn}{r':R2}
section
variable{X:Cx}{a b c:Expr}{ta tb tc:TE}{pos:Pos}
theorem pf{H:Hp}{s:af}{Q:VK}{k k':Bool}(I:Inv X pins σ H s)(q:Q (.bl k) H)(e:k=k'):EP X pins σ Q (.bool k') s:=by subst e;exact⟨.bl k,H,I,rfl,q⟩
theorem Vz:OpR X (compareOp .Eq) rEq:=by
 intro pins s σ H x y v u Q I rx ry h;obtain⟨hs,q⟩:=h;cases x with
 |non=>
  cases rx;cases y with
  |non=>cases ry;exact PySem.EqNone.eq_none_none (pf I q (by simp))
  |bl j=>cases ry;exact PySem.EqNone.eq_none_bool (pf I q (by simp))
  |int j=>obtain⟨t',rfl⟩:=ry;exact PySem.EqNone.eq_none_int (pf I q (by simp))
  |str j=>obtain⟨t',rfl⟩:=ry;exact PySem.EqNone.eq_none_str (pf I q (by simp))
  |_=>exact ao (show false=true from hs) bb
 |bl i=>
  cases rx;cases y with
  |non=>cases ry;exact PySem.EqNone.eq_bool_none (pf I q (by simp))
  |bl j=>cases ry;exact eq_bool (pf I q K0)
  |str j=>obtain⟨t',rfl⟩:=ry;exact PySem.EqMixed.eq_bool_str (pf I q (by simp))
  |_=>exact ao (show false=true from hs) bb
 |int i=>
  obtain⟨t,rfl⟩:=rx;cases y with
  |non=>cases ry;exact PySem.EqNone.eq_int_none (pf I q (by simp))
  |int j=>obtain⟨t',rfl⟩:=ry;exact eq_int (pf I q Ia)
  |str j=>obtain⟨t',rfl⟩:=ry;exact PySem.EqMixed.eq_int_str (pf I q (by simp))
  |_=>exact ao (show false=true from hs) bb
 |str i=>
  obtain⟨t,rfl⟩:=rx;cases y with
  |non=>cases ry;exact PySem.EqNone.eq_str_none (pf I q (by simp))
  |bl j=>cases ry;exact PySem.EqMixed.eq_str_bool (pf I q (by simp))
  |int j=>obtain⟨t',rfl⟩:=ry;exact PySem.EqMixed.eq_str_int (pf I q (by simp))
  |str j=>obtain⟨t',rfl⟩:=ry;exact eq_str (pf I q Ib)
  |_=>exact ao (show false=true from hs) bb
 |byt i=>
  obtain⟨t,rfl⟩:=rx;cases y with
  |byt j=>obtain⟨t',rfl⟩:=ry;exact W.eq_bytes (pf I q Ie)
  |_=>exact ao (show false=true from hs) bb
 |_=>cases y<;>exact ao (show false=true from hs) bb
theorem VA:OpR X (compareOp .NotEq) rNe:=by
 intro pins s σ H x y v u Q I rx ry h;obtain⟨hs,q⟩:=h;cases x with
 |non=>
  cases rx;cases y with
  |non=>cases ry;exact PySem.EqNone.ne_none_none (pf I q (by simp))
  |bl j=>cases ry;exact PySem.EqNone.ne_none_bool (pf I q (by simp))
  |int j=>obtain⟨t',rfl⟩:=ry;exact PySem.EqNone.ne_none_int (pf I q (by simp))
  |str j=>obtain⟨t',rfl⟩:=ry;exact PySem.EqNone.ne_none_str (pf I q (by simp))
  |_=>exact ao (show false=true from hs) bb
 |bl i=>
  cases rx;cases y with
  |non=>cases ry;exact PySem.EqNone.ne_bool_none (pf I q (by simp))
  |bl j=>cases ry;exact ne_bool (pf I q (aP not K0))
  |str j=>obtain⟨t',rfl⟩:=ry;exact PySem.EqMixed.ne_bool_str (pf I q (by simp))
  |_=>exact ao (show false=true from hs) bb
 |int i=>
  obtain⟨t,rfl⟩:=rx;cases y with
  |non=>cases ry;exact PySem.EqNone.ne_int_none (pf I q (by simp))
  |int j=>obtain⟨t',rfl⟩:=ry;exact ne_int (pf I q (aP not Ia))
  |str j=>obtain⟨t',rfl⟩:=ry;exact PySem.EqMixed.ne_int_str (pf I q (by simp))
  |_=>exact ao (show false=true from hs) bb
 |str i=>
  obtain⟨t,rfl⟩:=rx;cases y with
  |non=>cases ry;exact PySem.EqNone.ne_str_none (pf I q (by simp))
  |bl j=>cases ry;exact PySem.EqMixed.ne_str_bool (pf I q (by simp))
  |int j=>obtain⟨t',rfl⟩:=ry;exact PySem.EqMixed.ne_str_int (pf I q (by simp))
  |str j=>obtain⟨t',rfl⟩:=ry;exact ne_str (pf I q (aP not Ib))
  |_=>exact ao (show false=true from hs) bb
 |byt i=>
  obtain⟨t,rfl⟩:=rx;cases y with
  |byt j=>obtain⟨t',rfl⟩:=ry;exact W.ne_bytes (pf I q (aP not Ie))
  |_=>exact ao (show false=true from hs) bb
 |_=>cases y<;>exact ao (show false=true from hs) bb
theorem VB:OpR X (compareOp .Lt) (rI0 λi j=>.bl (decide (i<j))):=N8 λ_ _ _ _ _ _ _ q=>lt_int q
theorem VC:OpR X (compareOp .LtE) (rI0 λi j=>.bl (decide (i<=j))):=N8 λ_ _ _ _ _ _ _ q=>le_int q
theorem VD:OpR X (compareOp .Gt) (rI0 λi j=>.bl (decide (j<i))):=N8 λ_ _ _ _ _ _ _ q=>gt_int q
theorem VE:OpR X (compareOp .GtE) (rI0 λi j=>.bl (decide (j<=i))):=N8 λ_ _ _ _ _ _ _ q=>ge_int q
theorem RB:OpR X (compareOp .Is) (λx y H Q=>y=.non/\Q (.bl (decide (x=.non))) H):=by
 intro pins s σ H x y v u Q I rx ry h;obtain⟨rfl,q⟩:=h;cases ry;refine is_none_gen (pf I q ?_);cases x<;>first
  |(cases rx;rfl)
  |(obtain⟨t,rfl⟩:=rx;rfl)
theorem Ob:OpR X (compareOp .IsNot) (λx y H Q=>y=.non/\Q (.bl (!decide (x=.non))) H):=by
 intro pins s σ H x y v u Q I rx ry h;obtain⟨rfl,q⟩:=h;cases ry;refine isnot_none_gen (pf I q ?_);cases x<;>first
  |(cases rx;rfl)
  |(obtain⟨t,rfl⟩:=rx;rfl)
theorem Oc{op:cn}(ho:OpR X (compareOp op) r)(ha:PE X a ta)(hb:PE X b tb)(hm:behindInMarks op b=false):PE X (.Compare a [op] [b] pos) (tOp r ta tb):=by intro pins s σ H Q I h;exact wpAny_Compare1 (Rr ha hb I h λv u s2 x y H2 I2 rx ry q=>ho pins s2 σ H2 x y v u Q I2 rx ry q) hm
def K1(t:TE):TT:=λσ H Q=>t σ H λx H'=>∃k,x=.bl k/\Q k H'
theorem Od{op:cn}(ho:OpR X (compareOp op) r)(ha:PE X a ta)(hb:PE X b tb)(hm:behindInMarks op b=false):PT X (.Compare a [op] [b] pos) (K1 (tOp r ta tb)):=by
 intro pins s σ H Q I h;refine lI (thn (ha pins s σ H _ I h) λv s1 ⟨x,H1,I1,r1,q1⟩=>thn (hb pins s1 σ H1 _ I1 q1) λu s2 ⟨y,H2,I2,r2,q2⟩=>
  thn (ho pins s2 σ H2 x y v u _ I2 r1 r2 q2) λc s3 ⟨z,H3,I3,r3,k,e,q3⟩=>?_) hm
 subst e;cases r3;exact cO ⟨H3,I3,q3⟩
def GK(r r':R2)(ta tb tc:TE):TE:=λσ H Q=>ta σ H λx H1=>tb σ H1 λy H2=>r x y H2 λz H3=>∃k,z=.bl k/\
 (if k=true then tc σ H3 λw' H4=>r' y w' H4 Q else Q (.bl false) H3)
theorem K2{op:cn}(ho:OpR X (compareOp op) r)(ho':OpR X (compareOp op') r')(ha:PE X a ta)(hb:PE X b tb)(hc:PE X c tc)
  (hm:lastMarks [op,op'] [b,c]=false:=by with_unfolding_all rfl):PE X (.Compare a [op,op'] [b,c] pos) (GK r r' ta tb tc):=by
 intro pins s σ H Q I h;refine Compare_chain (thn (ha pins s σ H _ I h) λv s1 ⟨x,H1,I1,r1,q1⟩=>chain_link (thn (hb pins s1 σ H1 _ I1 q1) λu s2 ⟨y,H2,I2,r2,q2⟩=>
  thn (ho pins s2 σ H2 x y v u _ I2 r1 r2 q2) λd s3 ⟨z,H3,I3,r3,k,e,q3⟩=>?_)) hm
 subst e;cases r3;refine cO ?_;cases k with
 |false=>exact ite_ff ⟨.bl false,H3,I3,rfl,q3⟩
 |true=>exact ite_tt (chain_last (thn (hc pins s3 σ H3 _ I3 q3) λw' s4 ⟨z',H4,I4,r4,q4⟩=>ho' pins s4 σ H4 y z' u w' Q I4 r2 r4 q4))
theorem K4{op:cn}(ho:OpR X (compareOp op) r)(ho':OpR X (compareOp op') r')(ha:PE X a ta)(hb:PE X b tb)(hc:PE X c tc)
  (hm:lastMarks [op,op'] [b,c]=false:=by with_unfolding_all rfl):PT X (.Compare a [op,op'] [b,c] pos) (K1 (GK r r' ta tb tc)):=by
 intro pins s σ H Q I h;refine isTrue_chain (thn (ha pins s σ H _ I h) λv s1 ⟨x,H1,I1,r1,q1⟩=>test_link (thn (hb pins s1 σ H1 _ I1 q1) λu s2 ⟨y,H2,I2,r2,q2⟩=>
  thn (ho pins s2 σ H2 x y v u _ I2 r1 r2 q2) λd s3 ⟨z,H3,I3,r3,k,e,q3⟩=>?_)) hm
 subst e;cases r3;refine cO ?_;cases k with
 |false=>obtain⟨k',e',q'⟩:=q3;cases e';exact ite_ff ⟨H3,I3,q'⟩
 |true=>refine ite_tt (test_last (thn (hc pins s3 σ H3 _ I3 q3) λw' s4 ⟨z',H4,I4,r4,q4⟩=>thn (ho' pins s4 σ H4 y z' u w' _ I4 r2 r4 q4) λd' s5 ⟨z2,H5,I5,r5,k2,e2,q5⟩=>?_));subst e2;cases r5;exact cO ⟨H5,I5,q5⟩
theorem Bk:(sizeLine:Nat)<2 ^ 63:=by rw[bC];decide
theorem vals1{x:V}(r:Vals [x] us):∃u,us=[u]/\RelV x u:=by
 cases r with
 |cons r1 r2=>cases r2;exact⟨_,rfl,r1⟩
theorem vals2{x:V}(r:Vals [x,y] us):∃u w',us=[u,w']/\RelV x u/\RelV y w':=by
 cases r with
 |cons r1 r2=>
  cases r2 with
  |cons r3 r4=>cases r4;exact⟨_,_,rfl,r1,r3⟩
end
structure GL(h:Heap)(x dx C:Addr)(mA:Str->Option aa):Prop where
 obj:h.get? x=some (dM C dx)
 ns:h.Ns1 dx mA
 ne:dx≠x
variable{dx:Addr}{mA:Str->Option aa}
theorem Jy{h:Heap}(n:h.Ns1 dx mA):∃od,h.get? dx=some od/\∀name,iQ name od=some (mA name):=by
 obtain⟨o,es,ep,ho,hd,hk,_,hm⟩:=n;refine⟨o,ho,λname=>?_⟩;have e:=hm name;unfold nsFind findBy at e;rw[<-Array.find?_toList]at e;unfold iQ;rw[hd];dsimp only;split
 ·rename_i y q;rw[q]at e;exact aP some e
 ·rename_i q;rw[q]at e;have a:es.toList.any (·.refKey)=false:=by rw[mj];intro y hy;obtain⟨z,t,hkey⟩:=hk y (Array.mem_toList_iff.mp hy);simp[DictEntry.refKey,hkey]
  have a':¬es.toList.any (·.refKey)=true:=by rw[a];exact bb
  rw[ak a'];exact aP some e
variable{C:Addr}
theorem GL.look{h:Heap}{x:Addr}(I:GL h x dx C mA):∃od,W.InstAt h x (dM C dx) C (some od)/\∀name,iQ name od=some (mA name):=
 let ⟨od,ho,hl⟩:=Jy I.ns
 ⟨od,⟨I.obj,rfl,rfl,ho⟩,hl⟩
variable{kw:List (Str×aa)}
section
variable{prog:aD}{w:aw}{A:aH}{E:aa->af->Prop}{s:af}{K:ar}{x dx C f:Addr}{mA:Str->Option aa}{name:Str}{v:aa}
theorem get_map{expr:Bool}(X:K.In s.heap)(I:GL s.heap x dx C mA)(hg:iJ K C name=true)(hh:j8 K C=true)
  (ha:cG K (.ref C) name=some none) (hv:mA name=some v) (hv':W.handedIn v=true) (h:Q v { s with toks:=s.toks+1 }):
  wpAny (model prog w) A (getAttr (.ref x) name expr) Q E s:=by
 obtain⟨od,J,hl⟩:=I.look;exact W.get_value X J (jO hg).1 (W.findObj_own hh ha rfl (by rw[hl,hv])) hv' h
theorem K5{pl:Sem Bool}{Q:aa×List aa->af->Prop}(X:K.In s.heap)(I:GL s.heap x dx C mA)(hg:iJ K C name=true)
  (hf:cG K (.ref C) name=some (some (.ref f))) (ht:W.isFn K (.ref f)=true) (hv:mA name=none) (h:Q (.ref f,[.ref x]) s):
  wpAny (model prog w) A (getMethod (.ref x) name pl) Q E s:=by
 obtain⟨od,J,hl⟩:=I.look;exact W.method_fn X J (jO hg).1 (jO hg).2 hf (beq_iff_eq.mp ht) (by show (iQ name od).map (·.isSome)=some false;rw[hl,hv];rfl) h
theorem Oe{ns:aE}{Q:Unit->af->Prop}(X:K.In s.heap)(I:GL s.heap x dx C mA)
  (hs:cG K (.ref C) "__setattr__" = some (some (.builtin "object.__setattr__"))) (hp:W.plainOver K C=true) (ht:kC K C name=some none) (hh:j8 K C=true)
  (hw:jW mA ns) (hsz:ns.length<=sizeLine)
  (h:∀h',GL h' x dx C (λy=>if y=name then some v else mA y)->eG dx s.heap h'->Q () { s with heap:=h',toks:=s.toks+2 }):
  wpAny (model prog w) A (setAttr (.ref x) name v) Q E s:=by
 obtain⟨od,J,hl⟩:=I.look;refine W.set_plain X J hs (W.osa_open (s:={ s with toks:=s.toks+1 }) (r:=none) X J hp ht λb=>?_);obtain⟨cd,hc,hd'⟩:=W.any_some hh;have hx:s.heap.get? x=some ⟨.ref C,some dx,.plain,#[]⟩:=I.obj;refine ai (aB (ai (ai (wpAny_loadPart hx (ai (W.Looks.here (s:={ s with toks:=s.toks+1 }) (W.looks_clsIn X hc) ?_))))));rw[hd'];refine aB (a:=some dx) (ai (aB (ai ?_)));refine wpAny_nsSet1 (s:={ s with toks:=s.toks+1 }) I.ns λh' hn2 hs2=>?_;obtain⟨oD,esD,epD,hoD,hdD,hcD⟩:=hn2.count (PySem.Within.cons name v hw);refine ai (wpAny_lookBehind hoD (by rw[hdD];exact pastItsLine_dict (bQ hcD (by rw[aI];omega))) ?_);exact aB (h _ ⟨(hs2.2 _ (cM I.ne)).trans I.obj,hn2,I.ne⟩ hs2)
theorem K6{R:dP->af->Prop}{vs:List aa}(X:K.In s.heap)(hm:W.makesIn K C=true)
  (hi:cG K (.ref C) "__init__" = some (some (.ref f))) (hf:W.typeIn K (.ref f)=some (.type "function"))
  (h:codeAny (model prog w) (A.under (.builtin "type.__call__" ⟨.ref C::vs,kw⟩)) (.call (.ref f) ⟨.ref (s.heap.objs.size+1)::vs,kw⟩) (W.InitBack (s.heap.objs.size+1) R)
   { s with heap:=(s.heap.push df).push (dM C s.heap.objs.size) }):
  codeAny (model prog w) A (.call (.ref C) ⟨vs,kw⟩) R s:=by
 obtain⟨hh,g,d,t,os⟩:=s;exact W.make_core (W.makes_of X hm) (W.looks_findIn X hi) (λself=>W.bind_fn X self hf) (.inl rfl) h
end
def u7(f:Str)(v:V):List (Str×V)->List (Str×V)
 |[]=>[(f,v)]
 |(g,x)::r=>if g=f then (g,v)::r else (g,x)::u7 f v r
theorem Aa(f g:Str)(v:V):∀fs:List (Str×V),(u7 f v fs).lookup g=if g=f then some v else fs.lookup g
 |[]=>by
  show cJ g [(f,v)]=_;by_cases h:g=f
  ·have hb:(g==f)=true:=beq_iff_eq.mpr h;simp only[cJ,hb,aj h]
  ·have hb:(g==f)=false:=beq_eq_false_iff_ne.mpr h;simp only[cJ,hb,ak h]
 |(k,x)::r=>by
  have ih:=Aa f g v r;rw[show u7 f v ((k,x)::r)=(if k=f then (k,v)::r else (k,x)::u7 f v r) from rfl];by_cases hk:k=f
  ·rw[aj hk];by_cases h:g=k
   ·have hb:(g==k)=true:=beq_iff_eq.mpr h;simp only[cJ,hb,aj (h.trans hk)]
   ·have hb:(g==k)=false:=beq_eq_false_iff_ne.mpr h;simp only[cJ,hb,ak (λe:g=f=>h (e.trans hk.symm))]
  ·rw[ak hk];by_cases h:g=k
   ·have hb:(g==k)=true:=beq_iff_eq.mpr h;simp only[cJ,hb,ak (λe:g=f=>hk (h.symm.trans e))]
   ·have hb:(g==k)=false:=beq_eq_false_iff_ne.mpr h;simp only[cJ,hb];exact ih
theorem zC(f:Str)(v:V):∀fs:List (Str×V),f∈(u7 f v fs).map (·.1)/\∀g,g∈fs.map (·.1)->g∈(u7 f v fs).map (·.1)
 |[]=>⟨by simp[u7],λg h=>by simp at h⟩
 |(k,x)::r=>by
  obtain⟨i1,i2⟩:=zC f v r;rw[show u7 f v ((k,x)::r)=(if k=f then (k,v)::r else (k,x)::u7 f v r) from rfl];by_cases hk:k=f
  ·rw[aj hk];subst hk;exact⟨by simp,λg h=>by simpa using h⟩
  ·rw[ak hk];refine⟨?_,λg h=>?_⟩
   ·rw[ay];exact bj _ i1
   ·rw[ay]at h ⊢;rcases aL.mp h with e|e
    ·exact aL.mpr (.inl e)
    ·exact bj _ (i2 g e)
theorem Ab(f:Str)(v:V):∀fs:List (Str×V),(u7 f v fs).length<=fs.length+1
 |[]=>by simp[u7]
 |(k,x)::r=>by
  have ih:=Ab f v r;rw[show u7 f v ((k,x)::r)=(if k=f then (k,v)::r else (k,x)::u7 f v r) from rfl];by_cases hk:k=f
  ·rw[aj hk,aI,aI];omega
  ·rw[ak hk,aI,aI];omega
theorem wC.some_of{v:V}{o:Option aa}(r:wC (some v) o):∃u,o=some u/\RelV v u:=by
 cases o with
 |none=>exact(show False from r).elim
 |some u=>exact⟨u,rfl,r⟩
theorem wC.none_of{o:Option aa}(r:wC none o):o=none:=by
 cases o with
 |none=>rfl
 |some u=>exact(show False from r).elim
theorem Jz{v:V}(r:RelV v u):W.handedIn u=true:=by
 cases v with
 |non=>cases (show u=Value.none from r);rfl
 |bl b=>cases (show u=Value.bool b from r);rfl
 |int i=>obtain⟨t,e⟩:=(show ∃t,u=Value.int i t from r);cases e;rfl
 |str x=>obtain⟨t,e⟩:=(show ∃t,u=Value.str x t from r);cases e;rfl
 |byt b=>obtain⟨t,e⟩:=(show ∃t,u=Value.bytes b t from r);cases e;rfl
 |flt b=>obtain⟨t,e⟩:=(show ∃t,u=Value.float b t from r);cases e;rfl
 |ref a=>cases (show u=Value.ref a from r);rfl
 |ty n=>cases (show u=Value.type n from r);rfl
section
variable{P:aD}{w:aw}{H H':Hp}{h h':Heap}{a C dx:Addr}{fs fs':List (Str×V)}
theorem A4(hok:HOk P w H h)(e:H a=some (.ins C dx fs)):∃mA,GL h a dx C mA/\(∀f,wC (fs.lookup f) (mA f))/\jW mA (fs.map (·.1))/\fs.length<=1000/\H dx=some (.own a):=by obtain⟨d,z,ne,ob,mA,n,r,q⟩:=(show pI P w H h a (.ins C dx fs) from hok a _ e);exact⟨mA,⟨ob,n,ne⟩,r,q,z,d⟩
end
structure Cls(K:ar)(C:Addr):Prop where
 pg:iJ K C Str.empty=true
 hd:j8 K C=true
 po:W.plainOver K C=true
 sa:cG K (.ref C) "__setattr__" = some (some (.builtin "object.__setattr__"))
theorem Cls.get{K:ar}(c:Cls K C)(f:Str):iJ K C f=true:=c.pg
def ub(K:ar)(C:Addr)(f:Str):Prop:=cG K (.ref C) f=some none
theorem ub.taker{K:ar}{f:Str}(n:ub K C f):kC K C f=some none:=by unfold kC;rw[show cG K (.ref C) f=some none from n];rfl
structure Meth(K:ar)(C:Addr)(m:Str)(f:Addr):Prop where
 at_:cG K (.ref C) m=some (some (.ref f))
 fn:W.isFn K (.ref f)=true
 kp:cY K (.ref f)=true
section
variable{X:Cx}{pins:bW}{σ:St}{H:Hp}{s:af}{a C dx:Addr}{fs:List (Str×V)}{f:Str}{v:V}{A:aH}{E:aa->af->Prop}
theorem GN{b:Bool}(I:Inv X pins σ H s)(e:H a=some (.ins C dx fs))(c:Cls X.K C)(n:ub X.K C f)(l:fs.lookup f=some v)
  (h:∀u s',Inv X pins σ H s'->RelV v u->Q u s'):wpAny (model X.prog X.w) A (getAttr (.ref a) f b) Q E s:=by
 obtain⟨mA,O,r,_,_,_⟩:=A4 I.hok e;obtain⟨u,hu,ru⟩:=wC.some_of (v:=v) (o:=mA f) (by rw[<-l];exact r f);exact get_map I.kIn O (c.get f) c.hd n hu (Jz ru) (h u _ (I.tok _) ru)
theorem Bl{m:Str}{g:Addr}{pl:Sem Bool}{Q:aa×List aa->af->Prop}(I:Inv X pins σ H s)(e:H a=some (.ins C dx fs))(c:Cls X.K C)(k:Meth X.K C m g)(l:fs.lookup m=none)
  (h:Q (.ref g,[.ref a]) s):wpAny (model X.prog X.w) A (getMethod (.ref a) m pl) Q E s:=by
 obtain⟨mA,O,r,_,_,_⟩:=A4 I.hok e;have hn:mA m=none:=wC.none_of (by rw[<-l];exact r m);exact K5 I.kIn O (c.get m) k.at_ k.fn hn h
theorem GO{Q:Unit->af->Prop}(I:Inv X pins σ H s)(e:H a=some (.ins C dx fs))(c:Cls X.K C)(n:ub X.K C f)(hl:fs.length<1000)(ry:RelV y u)
  (h:∀s',Inv X pins σ (upd H a (.ins C dx (u7 f y fs))) s'->Q () s'):wpAny (model X.prog X.w) A (setAttr (.ref a) f u) Q E s:=by
 obtain⟨mA,O,r,wi,_,ho⟩:=A4 I.hok e;have hz:(fs.map (·.1)).length<=sizeLine:=by rw[ah,bC];omega
 refine Oe I.kIn O c.sa c.po n.taker c.hd wi hz λh' O' sb=>h _ ?_;have hd:∃o,h'.get? dx=some o:=let ⟨o,_,_,e',_⟩:=O'.ns;⟨o,e'⟩;refine I.write (x:=a) (e:=dx) (by rw[e];exact True.intro) (.inr ho) (λb q hb z=>(sb.2 b hb).trans z) hd ?_;refine⟨by rw[oo O.ne];exact ho,?_,O.ne,O'.obj,_,O'.ns,λg=>?_,λg hg=>?_⟩
 ·have:=Ab f y fs;omega
 ·show wC ((u7 f y fs).lookup g) (if g=f then some u else mA g);rw[Aa];by_cases q:g=f
  ·rw[aj q,aj q];exact ry
  ·rw[ak q,ak q];exact r g
 ·by_cases q:g=f
  ·rw[q];exact(zC f y fs).1
  ·refine(zC f y fs).2 g (wi g λz=>hg ?_);show (if g=f then some u else mA g)=none;rw[ak q];exact z
theorem Inv.made(I:Inv X pins σ H s):Inv X pins σ (upd (upd H s.heap.objs.size (.own (s.heap.objs.size+1))) (s.heap.objs.size+1) (.ins C s.heap.objs.size []))
  { s with heap:=(s.heap.push df).push (dM C s.heap.objs.size) }:=by
 have e1:(s.heap.push df).get? s.heap.objs.size=some df:=ba s.heap rfl;have e2:((s.heap.push df).push (dM C s.heap.objs.size)).get? (s.heap.objs.size+1)=some (dM C s.heap.objs.size):=by
  have:=ba (s.heap.push df) (o:=dM C s.heap.objs.size) rfl
  rwa [cv]at this
 have e3:(s.heap.push df).Ns s.heap.objs.size (λ_=>none):=⟨df,#[],_,e1,rfl,(λe he=>ao he (by simp)),λ_=>rfl⟩;have I1:=I.laid (a:=s.heap.objs.size) (o:=.own (s.heap.objs.size+1)) (h':=s.heap.push df) (t':=s.toks) (λb u q=>aG _ q) (aK _) ⟨_,e1⟩;refine I1.laid (a:=s.heap.objs.size+1) (o:=.ins C s.heap.objs.size []) (t':=s.toks) (λb u q=>aG _ q) (jX (cv _ _)) ?_;have ne:s.heap.objs.size≠s.heap.objs.size+1:=aU (eA _);refine⟨by rw[oo ne,oq],bZ _,ne,e2,λ_=>none,(Heap.Ns1.of_empty e3).at λo q=>aG _ q,λ_=>True.intro,λy hy=>ao rfl hy⟩
theorem Of{prog:aD}{w:aw}{env:Env}{f:Str}{s:af}(hb:attributeBase e f env (eval e env)=eval e env)
  (h:wpAny (model prog w) A (eval e env) (λo s₁=>wpAny (model prog w) A (getAttr o f true) Q E s₁) E s):wpAny (model prog w) A (eval (.Attribute e f pos) env) Q E s:=
 Attribute_any_ h (by rw[arm_eval_Attribute,hb])
end
def W3(K:ar)(ta:TE)(f:Str):TE:=λσ H Q=>ta σ H λx H1=>∃a C dx fs v,x=.ref a/\H1 a=some (.ins C dx fs)/\Cls K C/\ub K C f/\fs.lookup f=some v/\Q v H1
def VF(K:ar)(ta tv:TE)(f:Str):TS:=λD σ H=>tv σ H λy H1=>ta σ H1 λx H2=>∃a C dx fs,x=.ref a/\H2 a=some (.ins C dx fs)/\Cls K C/\ub K C f/\fs.length<1000/\
 D.nx σ (upd H2 a (.ins C dx (u7 f y fs)))
section
variable{X:Cx}{o e value:Expr}{f:Str}{pos pos' tpos:Pos}{ta tv:TE}
theorem RD(he:PE X e ta)(hb:attributeBase e f X.env (eval e X.env)=eval e X.env):PE X (.Attribute e f pos) (W3 X.K ta f):=by intro pins s σ H Q I h;refine Of hb (thn (he pins s σ H _ I h) λu s1 ⟨x,H1,I1,rx,a,C,dx,fs,v,ex,ea,c,n,l,q⟩=>?_);subst ex;obtain rfl:u=Value.ref a:=rx;exact GN I1 ea c n l λu' s2 I2 ru=>⟨v,H1,I2,ru,q⟩
theorem RE(ha:PE X o ta)(hv:PE X value tv)(hs:swapsWith value (some (.Attribute o f pos')) pos.line X.env=pure false):PS X (.Assign [.Attribute o f pos'] value pos) (VF X.K ta tv f):=by intro pins s σ H D I h;refine plainObj_wpAny_Assign_Attribute (thn (hv pins s σ H _ I h) λu s1 ⟨y,H1,I1,ry,q⟩=>thn (ha pins s1 σ H1 _ I1 q) λov s2 ⟨x,H2,I2,rx,a,C,dx,fs,ex,ea,c,n,l,q2⟩=>?_) hs;subst ex;obtain rfl:ov=Value.ref a:=rx;exact GO I2 ea c n l ry λs3 I3=>⟨σ,_,I3,q2⟩
end
section
variable{X:Cx}{pins:bW}{σ:St}{H:Hp}{s:af}{A:aH}{E:aa->af->Prop}{Q:aa->af->Prop}{c:aa}{b:Bool}
inductive AR(K:ar) (H:Hp):V->aa->Prop where
 |non:AR K H .non (.type "NoneType")
 |bl (x:Bool):AR K H (.bl x) (.type "bool")
 |int (i:Int):AR K H (.int i) (.type "int")
 |str (x:Str):AR K H (.str x) (.type "str")
 |flt (x:UInt64):AR K H (.flt x) (.type "float")
 |lst {a:Addr} {xs:bh} (e:H a=some (.lst xs)):AR K H (.ref a) (.type "list")
 |frz {a:Addr} {o:Obj} {xs:bh} (e:H a=some (.frz o (.lst xs))):AR K H (.ref a) (.type "list")
 |tup {a:Addr} {xs:bh} (e:H a=some (.tup xs)):AR K H (.ref a) (.type "tuple")
 |dK {a:Addr} {kvs:List (Key×V)} (e:H a=some (.dK kvs)):AR K H (.ref a) (.type "dict")
 |dT {a:Addr} {kvs:List (List Key×V)} (e:H a=some (.dT kvs)):AR K H (.ref a) (.type "dict")
 |ins {a C dx:Addr} {fs:List (Str×V)} (e:H a=some (.ins C dx fs)) (cl:Cls K C) (ha:cG K (.ref C) "__class__" = some (some (.builtin "object.__class__")))
   (hn:W.specialIn K (.builtin "object.__class__") "__get__" = some (some (.builtin "getset_descriptor.__get__"))) (htk:W.takesIn K (.builtin "object.__class__")=some true)
   (hm:W.mroIn K C (.type "object")=some true):AR K H (.ref a) (.ref C)
theorem tW{x:V}{t:aa}(I:Inv X pins σ H s)(rx:RelV x u)(ty:AR X.K H x t)(e:cH X.K t c=some b)(h:∀tk,Q (.bool b) { s with toks:=tk }):
  wpAny (model X.prog X.w) A (call (.builtin "isinstance") [u,c]) Q E s:=by
 cases ty with
 |non=>cases (show u=Value.none from rx);exact cm W.kitx_none I.kIn True.intro e (λz=>nomatch z) h
 |bl y=>cases (show u=Value.bool y from rx);exact cm W.kitx_bool I.kIn True.intro e (λz=>nomatch z) h
 |int i=>obtain⟨t,q⟩:=(show ∃t,u=Value.int i t from rx);cases q;exact cm W.kitx_int I.kIn True.intro e (λz=>nomatch z) h
 |str y=>obtain⟨t,q⟩:=(show ∃t,u=Value.str y t from rx);cases q;exact cm W.kitx_str I.kIn True.intro e (λz=>nomatch z) h
 |flt y=>obtain⟨t,q⟩:=(show ∃t,u=Value.float y t from rx);cases q;exact cm W.kitx_float I.kIn True.intro e (λz=>nomatch z) h
 |@lst a xs ea=>cases (show u=Value.ref a from rx);obtain⟨_,_,n,_,h1⟩:=(show pI X.prog X.w H s.heap a (.lst xs) from I.hok a _ ea);exact cm j9 I.kIn ⟨_,h1,rfl⟩ e (λz=>nomatch z) h
 |@frz a ob xs ea=>cases (show u=Value.ref a from rx);obtain⟨_,_,_,n,_,h1⟩:=(show pI X.prog X.w H s.heap a (.frz ob (.lst xs)) from I.hok a _ ea);exact cm j9 I.kIn ⟨_,h1,rfl⟩ e (λz=>nomatch z) h
 |@tup a xs ea=>cases (show u=Value.ref a from rx);obtain⟨_,_,_,p⟩:=(show pI X.prog X.w H s.heap a (.tup xs) from I.hok a _ ea);obtain⟨o,h1,h2,_⟩:=p;exact cm W.kitx_tuple I.kIn ⟨o,h1,h2⟩ e (λz=>nomatch z) h
 |@dK a kvs ea=>cases (show u=Value.ref a from rx);obtain⟨_,_,vs,_,p⟩:=(show pI X.prog X.w H s.heap a (.dK kvs) from I.hok a _ ea);obtain⟨o,es,ep,h1,h2,_⟩:=p;exact cm kj I.kIn ⟨o,h1,h2.1⟩ e (λz=>nomatch z) h
 |@dT a kvs ea=>cases (show u=Value.ref a from rx);obtain⟨_,_,xs,_,o,es,ep,h1,h2,_⟩:=(show pI X.prog X.w H s.heap a (.dT kvs) from I.hok a _ ea);exact cm kj I.kIn ⟨o,h1,h2.1⟩ e (λz=>nomatch z) h
 |@ins a C dx fs ea cl ha hn htk hm=>cases (show u=Value.ref a from rx);obtain⟨mA,O,_⟩:=A4 I.hok ea;obtain⟨od,J,_⟩:=O.look;exact cm (W.kitx_own (cl.get _) cl.hd ha hn htk hm) I.kIn J e (λz=>nomatch z) h
end
structure qc(k:Nat)(A:aH):Prop where
 hd:A.handled=none
 dp:A.depth+3 * k+5<recursionLimit
 un:A.units+16 * k+200<cLine
theorem qc.mono{k:Nat}{A:aH}(r:qc k A)(h:j<=k):qc j A:=⟨r.hd,by have:=r.dp;omega,by have:=r.un;omega⟩
theorem qc.deeper{k:Nat}{A:aH}(r:qc (k+1) A)(env:Env):qc k (A.deeper env):=
 ⟨r.hd,by have:=r.dp;show A.depth+1+3 * k+5<_;omega,by have:=r.un;show A.units+3+16 * k+200<_;omega⟩
theorem GP{A:aH}:(A.under (.builtin "type.__call__" ⟨.ref C::us,kw⟩)).depth=A.depth+1:=by
 first|rfl|simp[jY,Code.weight,Code.isCreation,Code.isGuard,Code.isCaller,Code.frames,jZ,guardIds]
theorem GQ{A:aH}:(A.under (.builtin "type.__call__" ⟨.ref C::us,kw⟩)).units=A.units+1:=by
 first|rfl|simp[jY,Code.cUnits,Code.frames,jZ]
theorem qc.make{k:Nat}{A:aH}(r:qc (k+1) A)(C:Addr)(us:List aa)(kw:List (Str×aa)):qc k (A.under (.builtin "type.__call__" ⟨.ref C::us,kw⟩)):=
 ⟨r.hd,by have:=r.dp;rw[GP];omega,by have:=r.un;rw[GQ];omega⟩
theorem qc.depth{k:Nat}{A:aH}(r:qc k A):A.depth<recursionLimit:=by have:=r.dp;omega
theorem qc.units{k:Nat}{A:aH}(r:qc k A):A.units+64<cLine:=by have:=r.un;omega
def E4:TA:=λ_ H Q=>Q [] H
def Bm(ta:TE)(tr:TA):TA:=λσ H Q=>ta σ H λx H1=>tr σ H1 λxs H2=>Q (x::xs) H2
section
variable{X:Cx}{e:Expr}{es:List Expr}{te:TE}{t:TA}{pos:Pos}
theorem uO:PA X [] E4:=λ_ _ _ _ H Q I h=>fT ⟨[],H,I,.nil,h⟩
theorem qS(ha:PE X e te)(hr:PA X es t)(hs:starEach (e::es) X.env=(false,eval e X.env)::starEach es X.env:=by rfl):PA X (e::es) (Bm te t):=by intro pos pins s σ H Q I h;rw[hs];show wpAny _ _ (spliced ((false,eval e X.env)::backTo pos (starEach es X.env))) _ _ s;refine dY (thn (ha pins s σ H _ I h) λu s1 ⟨x,H1,I1,r1,q1⟩=>?_);exact thn (hr pos pins s1 σ H1 _ I1 q1) λus s2 ⟨xs,H2,I2,r2,q2⟩=>⟨x::xs,H2,I2,.cons r1 r2,q2⟩
def W4(t:TA):TE:=λσ H Q=>t σ H λxs H1=>xs.length<=sizeLine/\∀p,H1 p=none->Q (.ref p) (upd H1 p (.tup xs))
def VG(t:TA):TE:=λσ H Q=>t σ H λxs H1=>xs.length<=sizeLine/\∀p,H1 p=none->Q (.ref p) (upd H1 p (.lst xs))
theorem K7{x1}(h:PA X es t):PE X (.Tuple es x1 pos) (W4 t):=by intro pins s σ H Q I hq;refine wpAny_Tuple_spliced (thn (h pos pins s σ H _ I hq) λus s1 ⟨xs,H1,I1,r,z,q⟩=>⟨by rw[<-r.length];exact z,?_⟩);have hf:H1 s1.heap.objs.size=none:=I1.hok.fresh (aK _);refine⟨.ref s1.heap.objs.size,upd H1 s1.heap.objs.size (.tup xs),I1.laid (t':=s1.toks) (λb u e=>aG _ e) (aK _) ?_,rfl,q _ hf⟩;exact⟨z,us,r,⟨_,ba _ rfl,rfl,_,rfl⟩⟩
theorem K8(h:PA X es t):PE X (.List es pos) (VG t):=by intro pins s σ H Q I hq;refine wpAny_List_spliced (thn (h pos pins s σ H _ I hq) λus s1 ⟨xs,H1,I1,r,z,q⟩=>⟨by rw[<-r.length];exact z,?_⟩);have hf:H1 s1.heap.objs.size=none:=I1.hok.fresh (aK _);refine⟨.ref s1.heap.objs.size,upd H1 s1.heap.objs.size (.lst xs),I1.laid (t':=s1.toks) (λb u e=>aG _ e) (aK _) ?_,rfl,q _ hf⟩;exact⟨z,us,0,r,ba _ rfl⟩
end
abbrev Sp:=bh->Hp->VK->XK->Prop
abbrev CXT:=List Env->Hp->af->XK->aa->af->Prop
structure GR(P:aD)(w:aw)(K:ar)(mg:Str->Option aa)(base:Heap)(A:aH)(outer:List Env)(s:af)(H:Hp):Prop where
 frames:A.frames=some outer
 mod:Mod K mg base
 bs:∀b o,base.get? b=some o->s.heap.get? b=some o/\H b=none
 bsz:base.objs.size<=s.heap.objs.size
 funs:s.heap.FunFrames base outer
 frf:∀b∈frs outer,H b=none
 hok:HOk P w H s.heap
 bare:dh s.gens
def CE(outer:List Env)(P:aD)(w:aw)(H:Hp)(s:af)(Q:VK)(u:aa)(s':af):Prop:=
 ∃v H',s'.os=s.os/\dh s'.gens/\Un (frs outer) [] H H' s.heap s'.heap/\HOk P w H' s'.heap/\RelV v u/\Q v H'
def CR(CX:CXT)(outer:List Env)(P:aD)(w:aw)(H:Hp)(s:af)(Q:VK)(E:XK)(r:dP)(s':af):Prop:=
 match r with
 |.ok (.ret u)=>CE outer P w H s Q u s'
 |.ok _=>False
 |.error e=>CX outer H s E e s'
structure sE(P:aD)(w:aw)(K:ar)(mg:Str->Option aa)(base:Heap)(CX:CXT)(k:Nat)(f:Addr)(fd:bD)(ps:aE)(sp:Sp):Prop where
 len:∀vs H Q E,sp vs H Q E->vs.length=ps.length
 run:∀(A:aH) (outer:List Env) (s:af) (H:Hp) (args:Args) (us:List aa) (vs:bh) (Q:VK) (E:XK),qc k A->GR P w K mg base A outer s H->fA s fd args (ps.zip us)->Vals vs us->sp vs H Q E->
  codeAny (model P w) A (.call (.ref f) args) (CR CX outer P w H s Q E) s
variable{mg:Str->Option aa}{base:Heap}{CX:CXT}{fd:bD}{ps:aE}{sp:Sp}
theorem sE.imp{P:aD}{w:aw}{K:ar}{k:Nat}{f:Addr}{sp':Sp}(F:sE P w K mg base CX k f fd ps sp)
  (h:∀vs H Q E,sp' vs H Q E->sp vs H Q E):sE P w K mg base CX k f fd ps sp':=
 ⟨λvs H Q E q=>F.len vs H Q E (h _ _ _ _ q),λA outer s H args us vs Q E hr he hb hv hs=>F.run A outer s H args us vs Q E hr he hb hv (h _ _ _ _ hs)⟩
variable{outer:List Env}
theorem GR.make{P:aD}{w:aw}{K:ar}{A:aH}{s:af}{H:Hp}(e:GR P w K mg base A outer s H)(C:Addr)(us:List aa)(kw:List (Str×aa)):
  GR P w K mg base (A.under (.builtin "type.__call__" ⟨.ref C::us,kw⟩)) outer s H:=⟨by first|exact e.frames|(simpa [jY,Code.envs,jZ,pushEnvs]using e.frames),e.mod,e.bs,e.bsz,e.funs,e.frf,e.hok,e.bare⟩
section
variable{X:Cx}{pins:bW}{σ:St}{H:Hp}{s s':af}
theorem Inv.env0(I:Inv X pins σ H s):GR X.prog X.w X.K X.mg X.base X.A X.stack s H:=
 ⟨I.ok.frames,I.ok.mod,I.bs,bQ I.ok.bsz I.sz,I.stack,I.stkFree,I.hok,I.bare⟩
theorem Inv.after{Q:VK}(I:Inv X pins σ H s)(h:CE X.stack X.prog X.w H s Q u s'):EP X pins σ Q u s':=by obtain⟨v,H',os,bare,un,hok,r,q⟩:=h;obtain⟨hh,g,d,t,os'⟩:=s';obtain rfl:os'=s.os:=os;exact⟨v,H',I.call (h':=hh) (g':=g) (d':=d) (t':=t) (ch:=[]) un hok bare (λb z=>ao z (by simp)),r,q⟩
end
def xP(sp:Sp)(dvs:bh)(E:XK)(t:TA):TE:=λσ H Q=>t σ H λvs H1=>sp (vs++dvs) H1 Q E
def QI(C:Addr)(sp:Sp)(dvs:bh)(E:XK)(t:TA):TE:=λσ H Q=>t σ H λvs H1=>∀x dx,H1 x=none->H1 dx=none->dx≠x->
 sp (.ref x::(vs++dvs)) (upd (upd H1 dx (.own x)) x (.ins C dx [])) (λv H2=>v=.non/\Q (.ref x) H2) E
def Binds(K:ar)(fd:bD)(ps:aE)(ds:List aa):Prop:=
 ∀(s:af) (us:List aa),K.In s.heap->(us++ds).length=ps.length->fA s fd ⟨us,[]⟩ (ps.zip (us++ds))
theorem Binds.all{K:ar}(h:∀us:List aa,us.length=ps.length->bindArgs fd ⟨us,[]⟩=pure (ps.zip us)):Binds K fd ps []:=λs us _ hl=>by rw[bp]at hl ⊢;exact .of_eq (h us hl)
def Passes(CX:CXT)(X:Cx)(E:XK):Prop:=∀(pins:bW) (σ:St) (H:Hp) (s:af) (e:aa) (s':af),Inv X pins σ H s->CX X.stack H s E e s'->X.xe e s'
variable{vs:bh}
section
variable{X:Cx}{CX:CXT}{k:Nat}{f C:Addr}{fd:bD}{ps:aE}{sp:Sp}{dvs:bh}{ds:List aa}{E:XK}{x m:Str}{p pos apos:Pos}{e o:Expr}{es:List Expr}{ta:TE}{t:TA}
theorem Ea{H:Hp}{s:af}{Q:VK}(F:sE X.prog X.w X.K X.mg X.base CX k f fd ps sp)(hr:qc k X.A)(hb:Binds X.K fd ps ds)(hd:Vals dvs ds)(hx:Passes CX X E)
  (I:Inv X pins σ H s) (r:Vals vs us) (h:sp (vs++dvs) H Q E):wpAny (model X.prog X.w) X.A (call (.ref f) us) (EP X pins σ Q) X.xe s:=by
 have r2:Vals (vs++dvs) (us++ds):=r.append hd;have hl:(us++ds).length=ps.length:=by rw[<-r2.length];exact F.len _ _ _ _ h
 refine ku (fm (F.run X.A X.stack s H ⟨us,[]⟩ (us++ds) (vs++dvs) Q E hr I.env0 (hb s us I.kIn hl) r2 h) λr s' hq=>?_);cases r with
 |error e=>exact hx pins σ H s e s' I hq
 |ok fl=>
  cases fl with
  |ret u=>exact I.after hq
  |next=>exact cx hq
  |brk=>exact cx hq
  |cont=>exact cx hq
theorem yK(F:sE X.prog X.w X.K X.mg X.base CX k f fd ps sp)(hr:qc k X.A)(hg:Gl X x)(hm:X.mg x=some (.ref f))(hk:cY X.K (.ref f)=true)(hb:Binds X.K fd ps ds)(hd:Vals dvs ds)(hx:Passes CX X E)
  (ha:PA X (e::es) t) (hdb:(x==("__debug__" : Str))=false:=by decide) (he:starEach (e::es) X.env=(false,eval e X.env)::starEach es X.env:=by rfl) (hpl:(backTo pos (starEach es X.env)).any (·.1)=false:=by rfl):
  PE X (.Call (.Name x p) (e::es) [] pos) (xP sp dvs E t):=by
 intro pins s σ H Q I h;refine dZ (AZ I hg hm ?_ hdb);refine j3 (h₀:=X.base) I.ok.mod.kin hk (thn (ha pos pins s σ H _ I h) λus s1 ⟨vs,H1,I1,r,q⟩=>⟨I1.kIn,?_⟩) he hpl;exact Ea F hr hb hd hx I1 r q
theorem K9(F:sE X.prog X.w X.K X.mg X.base CX k f fd ps sp)(hr:qc k X.A)(hg:Gl X x)(hm:X.mg x=some (.ref f))(hk:cY X.K (.ref f)=true)(hb:Binds X.K fd ps ds)(hd:Vals dvs ds)(hx:Passes CX X E)
  (hdb:(x==("__debug__" : Str))=false:=by decide):PE X (.Call (.Name x p) [] [] pos) (xP sp dvs E E4):=by
 intro pins s σ H Q I h;refine dZ (AZ I hg hm ?_ hdb);exact W.callWith_K0 I.kIn hk (Ea (us:=[]) F hr hb hd hx I .nil h)
structure Mk(K:ar)(C f:Addr):Prop where
 makes:W.makesIn K C=true
 init:cG K (.ref C) "__init__" = some (some (.ref f))
 fn:W.isFn K (.ref f)=true
 kp:cY K (.ref C)=true
theorem La{H:Hp}{s:af}{Q:VK}(M:Mk X.K C f)(F:sE X.prog X.w X.K X.mg X.base CX k f fd ps sp)(hr:qc (k+1) X.A)(hb:Binds X.K fd ps ds)(hd:Vals dvs ds)
  (hx:Passes CX X E) (I:Inv X pins σ H s) (r:Vals vs us)
  (h:∀x dx,H x=none->H dx=none->dx≠x->sp (.ref x::(vs++dvs)) (upd (upd H dx (.own x)) x (.ins C dx [])) (λv H2=>v=.non/\Q (.ref x) H2) E):
  wpAny (model X.prog X.w) X.A (call (.ref C) us) (EP X pins σ Q) X.xe s:=by
 have hq:=h (s.heap.objs.size+1) s.heap.objs.size (I.hok.fresh (fq _)) (I.hok.fresh (aK _)) (aU (eA _));have I2:=Inv.made (C:=C) I;have r2:Vals (V.ref (s.heap.objs.size+1)::(vs++dvs)) (Value.ref (s.heap.objs.size+1)::(us++ds)):=.cons rfl (r.append hd);have hl:(Value.ref (s.heap.objs.size+1)::us++ds).length=ps.length:=by have e:=r2.length;rw[F.len _ _ _ _ hq]at e;exact e.symm
 refine ku (K6 (f:=f) I.kIn M.makes M.init (beq_iff_eq.mp M.fn) (fm (F.run _ X.stack _ _ ⟨Value.ref (s.heap.objs.size+1)::us,[]⟩ (Value.ref (s.heap.objs.size+1)::(us++ds)) _ _ E (hr.make C us [])
  (I2.env0.make C us []) (hb _ (Value.ref (s.heap.objs.size+1)::us) I2.kIn hl) r2 hq) λr s' hq'=>?_))
 cases r with
 |error e=>exact hx pins σ _ _ e s' I2 hq'
 |ok fl=>
  cases fl with
  |ret u=>obtain⟨v,H',I3,rv,ev,q3⟩:=I2.after hq';subst ev;exact⟨rv,⟨V.ref (s.heap.objs.size+1),H',I3,rfl,q3⟩⟩
  |next=>exact cx hq'
  |brk=>exact cx hq'
  |cont=>exact cx hq'
theorem Og(M:Mk X.K C f)(F:sE X.prog X.w X.K X.mg X.base CX k f fd ps sp)(hr:qc (k+1) X.A)(hg:Gl X x)(hm:X.mg x=some (.ref C))(hb:Binds X.K fd ps ds)(hd:Vals dvs ds)(hx:Passes CX X E)
  (ha:PA X (e::es) t) (hdb:(x==("__debug__" : Str))=false:=by decide) (he:starEach (e::es) X.env=(false,eval e X.env)::starEach es X.env:=by rfl) (hpl:(backTo pos (starEach es X.env)).any (·.1)=false:=by rfl):
  PE X (.Call (.Name x p) (e::es) [] pos) (QI C sp dvs E t):=by
 intro pins s σ H Q I h;refine dZ (AZ I hg hm ?_ hdb);refine j3 (h₀:=X.base) I.ok.mod.kin M.kp (thn (ha pos pins s σ H _ I h) λus s1 ⟨vs,H1,I1,r,q⟩=>⟨I1.kIn,?_⟩) he hpl;exact La M F hr hb hd hx I1 r q
end
structure pY(N P:aE)(sc:cy):Prop where
 kind:sc.kind=.function
 co:sc.isCoroutine=false
 gen:sc.isGenerator=false
 nd:N.Nodup
 pre:N.take P.length=P
 par:∀x∈P,sc.names.lookup x=some .local\/sc.names.lookup x=some .cell
 nofree:∀y∈sc.names,y.2≠.free
theorem CZ{kindOf:Str->Option cZ}{x:Str}:∀{binds:List (Str×aa)} {m:Str->Option aa},(∀v,(x,v)∉binds)->bindL kindOf binds m x=m x
 |[],_,_=>rfl
 |(n,v)::r,m,h=>by
  unfold bindL;rw[CZ λw hw=>h w (bj _ hw)];split
  ·have:x≠n:=by rintro rfl;exact h v aW
   simp[this]
  ·rfl
theorem Da{kindOf:Str->Option cZ}{x:Str}:∀{binds:List (Str×aa)} {m:Str->Option aa},(∀v,(x,v)∉binds)->bindC kindOf binds m x=m x
 |[],_,_=>rfl
 |(n,v)::r,m,h=>by
  unfold bindC;rw[Da λw hw=>h w (bj _ hw)];split
  ·rfl
  ·have:x≠n:=by rintro rfl;exact h v aW
   simp[this]
theorem Dc{kindOf:Str->Option cZ}{x:Str}{v:aa}:∀{P:aE} {vs:List aa} {i:Nat} {m:Str->Option aa},P.Nodup->P[i]?=some x->vs[i]?=some v->kindOf x=some .local->
  bindL kindOf (P.zip vs) m x=some v
 |[],_,_,_,_,h,_,_=>by simp at h
 |_::_,[],_,_,_,_,h,_=>by simp at h
 |p::P,w::vs,0,m,nd,h1,h2,hk=>by simp at h1 h2;subst h1;subst h2;show bindL kindOf ((p,w)::P.zip vs) m p=_;unfold bindL;rw[CZ λv hv=>(ck.mp nd).1 (iz hv).1,aj hk];simp
 |p::P,w::vs,i+1,m,nd,h1,h2,hk=>by show bindL kindOf ((p,w)::P.zip vs) m x=_;unfold bindL;exact Dc (i:=i) (ck.mp nd).2 (by simpa using h1) (by simpa using h2) hk
theorem Dd{kindOf:Str->Option cZ}{x:Str}{v:aa}:∀{P:aE} {vs:List aa} {i:Nat} {m:Str->Option aa},P.Nodup->P[i]?=some x->vs[i]?=some v->kindOf x≠some .local->
  bindC kindOf (P.zip vs) m x=some v
 |[],_,_,_,_,h,_,_=>by simp at h
 |_::_,[],_,_,_,_,h,_=>by simp at h
 |p::P,w::vs,0,m,nd,h1,h2,hk=>by simp at h1 h2;subst h1;subst h2;show bindC kindOf ((p,w)::P.zip vs) m p=_;unfold bindC;rw[Da λv hv=>(ck.mp nd).1 (iz hv).1,ak hk];simp
 |p::P,w::vs,i+1,m,nd,h1,h2,hk=>by show bindC kindOf ((p,w)::P.zip vs) m x=_;unfold bindC;exact Dd (i:=i) (ck.mp nd).2 (by simpa using h1) (by simpa using h2) hk
def start(N:aE)(vs:bh):St:=vs.map some++f7 (N.length - vs.length) none
def E5(CX:CXT)(P:aD)(w:aw)(K:ar)(mg:Str->Option aa)(base:Heap)(N:aE)(qual:Str)(scope:cy)(f:Addr)(cd:aa)(A:aH)(outer:List Env)(s:af)(H:Hp)(E:XK):Cx where
 prog:=P
 w:=w
 K:=K
 mg:=mg
 base:=base
 A:=A.deeper (envOfC qual scope s.heap.objs.size f cd)
 N:=N
 s₀:=s
 H₀:=H
 env:=envOfC qual scope s.heap.objs.size f cd
 outer:=outer
 stack:=envOfC qual scope s.heap.objs.size f cd::outer
 ex:=[]
 calm:=true
 fn:=λ_=>true
 pn:=[]
 xe:=λe s'=>wpAny (model P w) (A.deeper (envOfC qual scope s.heap.objs.size f cd)) (leaving (envOfC qual scope s.heap.objs.size f cd) e) (λ_ s''=>CX outer H s E e s'') (λe' s''=>CX outer H s E e' s'') s'
theorem E6{sc:cy}{n:Nat}{x:Str}(h:sc.names.lookup x=some .cell):∃c,(cellsFrom n sc.names []).lookup x=some c:=by have q:=mE sc.names n [] (.inl h);exact Option.isSome_iff_exists.mp q
variable{qual:Str}{scope:cy}
theorem JA{P:aD}{w:aw}{K:ar}{f:Addr}{cd:aa}{A:aH}{s s1:af}{H:Hp}{E:XK}
  (S:pY N ps scope) (hd:A.handled=none) (e0:GR P w K mg base A outer s H) (hl:vs.length=ps.length) (r:Vals vs us)
  (x:InCallC s s.heap.objs.size (bindL (envOfC qual scope s.heap.objs.size f cd).kindOf (ps.zip us) λ_=>none) (cellsFrom (s.heap.objs.size+1) scope.names []) (bindC (envOfC qual scope s.heap.objs.size f cd).kindOf (ps.zip us) λ_=>none) s1):
  Inv (E5 CX P w K mg base N qual scope f cd A outer s H E) [] (start N vs) H s1:=by
 have hpl:ps.length<=N.length:=by have:=aP bL S.pre;rw[bH]at this;omega
 obtain⟨h1,tk,rfl,hk⟩:=x.done;have noA:∀b:Addr,b∉(E5 CX P w K mg base N qual scope f cd A outer s H E).ex:=λb z=>ao (show b∈([]:List Addr) from z) (by simp);refine⟨⟨e0.mod,S.kind,rfl,rfl,aK _,λy z c h1 h2=>?_,λy hy=>?_,λy c _ h=>?_,λ_=>hd,Around.frames_deeper e0.frames,.inr ⟨rfl,rfl⟩,λb z=>ao z (noA b),e0.bs,e0.bsz,λb _ _=>noA b,λb z=>ao z (noA b),e0.funs,e0.frf⟩,
  rfl,e0.bare,Un.kept hk,⟨_,x.toInCall.ns,λi y v h1 h2 h3=>?_⟩,λy c h=>⟨_,x.cell y c h⟩,e0.hok.fresh (aK _),λy c h=>?_,λp hp=>ao (show p∈([]:bW) from hp) (by simp),e0.hok.kept hk,?_⟩
 ·exact name_of_addr x.apart (fQ h1) (fQ h2)
 ·have hy:scope.names.lookup y=some .cell\/scope.names.lookup y=some .free:=hy;rcases hy with hy|hy
  ·exact E6 hy
  ·exact ao rfl (S.nofree _ (fQ hy))
 ·exact eF (x.above y c (fQ h))
 ·have hi:i<vs.length:=by
   unfold start at h2;by_cases hi:i<vs.length
   ·exact hi
   ·rw[c6 (by simpa using hi)]at h2;rw[fM]at h2;split at h2<;>cases h2
  have ha:vs[i]?=some v:=by
   unfold start at h2;rw[c7 (by simpa using hi),bc]at h2;cases e:vs[i]? with
   |none=>rw[e]at h2;cases h2
   |some a=>rw[e]at h2;cases h2;rfl
  obtain⟨u,hu,rv⟩:=r.get ha;have hp:ps[i]?=some y:=by rw[<-S.pre,List.getElem?_take_of_lt (by omega)];exact h1
  have ndP:ps.Nodup:=by rw[<-S.pre];exact S.nd.sublist (ip _ _)
  refine⟨u,rv,?_⟩;rcases S.par y (cj hp)with k|k
  ·exact .inl ⟨k,Dc ndP hp hu k⟩
  ·obtain⟨c,e⟩:=E6 (n:=s.heap.objs.size+1) k;refine .inr ⟨.inl k,c,e,?_⟩;have q:=x.cell y c e;rw[Dd ndP hp hu (by show scope.names.lookup y≠_;rw[k];decide)]at q;exact q
 ·exact e0.hok.fresh (eF (x.above y c (fQ h)))
 ·unfold start;show _=N.length;rw[aJ,ah,cg];omega
theorem QJ{P:aD}{w:aw}{K:ar}{k:Nat}{f:Addr}{name:Str}{params:Arguments}{dV kV doc pm cdv ct oc:aa}{an od:Option Addr}
  {osl:Array (Option aa)} (lk:K.lookup f=some ⟨oc,od,.func (dm name qual params body scope dV kV doc pm an cdv ct),osl⟩) (hcd:fw K cdv qual=true) (S:pY N ps scope)
  (len:∀vs H Q E,sp vs H Q E->vs.length=ps.length)
  (hbody:∀(A:aH) (outer:List Env) (s:af) (H:Hp) (vs:bh) (Q:VK) (E:XK),qc k (A.deeper (envOfC qual scope s.heap.objs.size f cdv))->sp vs H Q E->
   ∃t,PSs (E5 CX P w K mg base N qual scope f cdv A outer s H E) body t/\t { nx:=λ_ H'=>Q .non H',rt:=Q } (start N vs) H):
  sE P w K mg base CX (k+1) f (dm name qual params body scope dV kV doc pm an cdv ct) ps sp:=by
 refine⟨len,λA outer s H args us vs Q E hr e0 hb r hsp=>?_⟩;have hl:=len _ _ _ _ hsp;have KX:K.In s.heap:=e0.mod.kin.keeps λb o e=>(e0.bs b o e).1;have lim:s.heap.NoLimit:=e0.mod.nolimit.keeps λb o e=>(e0.bs b o e).1;have hkind:∀y∈ps.zip us,scope.names.lookup y.1=some .local\/(scope.names.lookup y.1=some .cell/\((cellsFrom (s.heap.objs.size+1) scope.names []).lookup y.1).isSome=true):=λ⟨n,v⟩ hy=>by
  rcases S.par n (iz hy).1 with q|q
  ·exact .inl q
  ·exact .inr ⟨q,mE _ _ _ (.inl q)⟩
 refine codeAny_call_function hr.depth (KX _ _ lk) rfl S.co S.gen rfl (W.codeRec_of KX hcd) (hb _ _ _ _ ?_);refine wpAny_newFunctionEnv_cells S.kind hkind λenv he s1 x=>?_;subst he;refine⟨lim.keeps x.toInCall.keep,codeAny_func ?_⟩;obtain⟨t,ht,hq⟩:=hbody A outer s H vs Q E (hr.deeper _) hsp;have I:Inv (E5 CX P w K mg base N qual scope f cdv A outer s H E) [] (start N vs) H s1:=JA S hr.hd e0 hl r x;refine bM (ht [] s1 (start N vs) H _ I hq) (λfl s' hs=>?_) λe s' hs=>hs;have fin:∀{σ':St} {H':Hp} {v:V} {u:aa},Inv (E5 CX P w K mg base N qual scope f cdv A outer s H E) [] σ' H' s'->RelV v u->Q v H'->CE outer P w H s Q u s':=
  λ{σ' H' v u} J rv q=>⟨v,H',J.os,J.bare,J.base,J.hok,rv,q⟩
 cases fl with
 |ret u=>obtain⟨v,σ',H',J,rv,q⟩:=hs;exact fin J rv q
 |next=>obtain⟨σ',H',J,q⟩:=hs;exact fin (v:=V.non) (u:=Value.none) J rfl q
 |brk=>obtain⟨_,_,_,q⟩:=hs;exact cx q
 |cont=>obtain⟨_,_,_,q⟩:=hs;exact cx q
section
variable{X:Cx}{x:Str}{p pos:Pos}{e:Expr}{es:List Expr}{t:TA}{id T:String}{r:bh->Hp->VK->Prop}
def tCB(r:bh->Hp->VK->Prop)(t:TA):TE:=λσ H Q=>t σ H λvs H1=>r vs H1 Q
theorem Bn(hc:qf X (.builtin id) r)(hg:Gl X x)(hm:X.mg x=none)(hv:bootBuiltins x=some (.builtin id))(ha:PA X (e::es) t)(hn:x≠"__name__" := by decide)(hdb:(x==("__debug__" : Str))=false:=by decide)
  (he:starEach (e::es) X.env=(false,eval e X.env)::starEach es X.env:=by rfl) (hpl:(backTo pos (starEach es X.env)).any (·.1)=false:=by rfl):PE X (.Call (.Name x p) (e::es) [] pos) (tCB r t):=by
 intro pins s σ H Q I h;refine dZ (wG I hg hm hv ?_ hn hdb);exact callWith_builtin1 (thn (ha pos pins s σ H _ I h) λus s1 ⟨vs,H1,I1,r1,q1⟩=>hc pins s1 σ H1 vs us Q I1 r1 q1) he hpl
theorem JB(hc:qf X (.type T) r)(hg:Gl X x)(hm:X.mg x=none)(hv:bootBuiltins x=some (.type T))(ha:PA X (e::es) t)(hn:x≠"__name__" := by decide)(hdb:(x==("__debug__" : Str))=false:=by decide)
  (he:starEach (e::es) X.env=(false,eval e X.env)::starEach es X.env:=by rfl) (hpl:(backTo pos (starEach es X.env)).any (·.1)=false:=by rfl):PE X (.Call (.Name x p) (e::es) [] pos) (tCB r t):=by
 intro pins s σ H Q I h;refine dZ (wG I hg hm hv ?_ hn hdb);exact callWith_type1 (thn (ha pos pins s σ H _ I h) λus s1 ⟨vs,H1,I1,r1,q1⟩=>hc pins s1 σ H1 vs us Q I1 r1 q1) he hpl
end
end L2
namespace HT
open PySem PyProof.Rows
section
variable{prog:aD}{w:aw}{A:aH}{E:aa->af->Prop}{s:af}
theorem Oh{t b:Addr}{vs ws:List aa}{Q:aa->af->Prop}(ht:fD s.heap t vs.toArray)(hb:fD s.heap b ws.toArray)(hv:vs≠[])
  (h1:ws=[]->Q (.ref t) s) (h2:ws≠[]->Q (.ref s.heap.objs.size) { s with heap:=s.heap.push { cls:=.type "tuple", data:=.seq (vs++ws).toArray } })
  (hsz:vs.length+ws.length<=sizeLine):wpAny (model prog w) A (binaryOp .Add (.ref t) (.ref b)) Q E s:=by
 obtain⟨⟨cls,dd,data,sl⟩,ho,hc,n,hd⟩:=id ht;obtain⟨⟨cls2,dd2,data2,sl2⟩,ho2,hc2,n2,hd2⟩:=id hb;simp only at hc hd hc2 hd2;subst hc hd hc2 hd2;have e:vs.toArray++ws.toArray=(vs++ws).toArray:=by simp
 by_cases hw:ws=[]
 ·exact concat_meets ⟨_,ho,rfl⟩ ⟨_,ho2,rfl⟩ noFill_tuple_add seq_tuple_add mF ml (l4 _ _)
   (tuple_addW1 t b vs.toArray ws.toArray n n2 dd dd2 sl sl2 (by simpa using hv) (by simp[hw])) ⟨ho,ho2,h1 hw⟩
 ·refine concat_meets ⟨_,ho,rfl⟩ ⟨_,ho2,rfl⟩ noFill_tuple_add seq_tuple_add mF ml (l4 _ _)
   (tuple_addW2 t b vs.toArray ws.toArray n n2 dd dd2 sl sl2 (by simpa using hv) (by simpa using hw) (by rw[aX,aX];exact hsz)) ⟨ho,ho2,?_⟩
  rw[e];exact h2 hw
def sIx(n d:Nat):Option Int->Nat
 |none=>d
 |some v=>if v<0 then (v+(n:Int)).toNat else min v.toNat n
theorem Bo(n d:Nat):sIx n d none=d:=rfl
theorem yL(n d k:Nat):sIx n d (some (k:Int))=min k n:=by show (if (k:Int)<0 then ((k:Int)+(n:Int)).toNat else min (k:Int).toNat n)=min k n;rw[ak (by omega),eU]
end
end HT
namespace L2
open PySem PySem.Spec PyProof.Rows
abbrev TO:=St->Hp->(Option Int->Hp->Prop)->Prop
def PO(X:Cx)(e:Option Expr)(t:TO):Prop:=
 ∀(pins:bW) (s:af) (σ:St) (H:Hp) (Q:Option Int->Hp->Prop),Inv X pins σ H s->t σ H Q->
  wpAny (model X.prog X.w) X.A (evalPart e X.env) (λu s'=>∃o H',Inv X pins σ H' s'/\IsPart u o/\Q o H') X.xe s
def Oi:TO:=λ_ H Q=>Q none H
def VH(t:TE):TO:=λσ H Q=>t σ H λx H1=>∃i,x=.int i/\Q (some i) H1
section
variable{X:Cx}{e:Expr}{te:TE}{lo hi:Option Expr}{tl th:TO}{pos p2:Pos}
theorem Oj:PO X none Oi:=by intro pins s σ H Q I h;rw[evalPart_none];exact aB ⟨none,H,I,.none,h⟩
theorem Ig(h:PE X e te):PO X (some e) (VH te):=by intro pins s σ H Q I hw;rw[evalPart_some];refine thn (h pins s σ H _ I hw) λu s1 ⟨x,H1,I1,r1,q1⟩=>?_;obtain⟨i,rfl,q⟩:=q1;obtain⟨t,rfl⟩:=r1;exact⟨some i,H1,I1,.int i t,q⟩
def SlR(X:Cx)(r:V->Option Int->Option Int->Hp->VK->Prop):Prop:=
 ∀(pins:bW) (s:af) (σ:St) (H:Hp) (x:V) (v vl vu:aa) (lo hi:Option Int) (sl:Addr) (Q:VK),Inv X pins σ H s->RelV x v->s.heap.IsSliceOf sl vl vu .none->IsPart vl lo->IsPart vu hi->r x lo hi H Q->
  ∃T id,typeLookup (.type T) "__getitem__" = pure (some (.builtin id))/\s.TypeIs v T/\wpAny (model X.prog X.w) X.A (getItem v (.ref sl)) (EP X pins σ Q) X.xe s
def tSl(r:V->Option Int->Option Int->Hp->VK->Prop)(te:TE)(tl th:TO):TE:=λσ H Q=>te σ H λx H1=>tl σ H1 λl H2=>th σ H2 λu H3=>r x l u H3 Q
theorem E7{r:V->Option Int->Option Int->Hp->VK->Prop}(hr:SlR X r)(he:PE X e te)(hl:PO X lo tl)(hu:PO X hi th):PE X (.Subscript e (.Slice lo hi none p2) pos) (tSl r te tl th):=by intro pins s σ H Q I h;refine kx (thn (he pins s σ H _ I h) λv s1 ⟨x,H1,I1,r1,q1⟩=>?_);refine wpAny_Slice (thn (hl pins s1 σ H1 _ I1 q1) λvl s2 ⟨l,H2,I2,pl,q2⟩=>thn (hu pins s2 σ H2 _ I2 q2) λvu s3 ⟨u,H3,I3,pu,q3⟩=>?_);rw[evalPart_none];refine aB ?_;have I4:Inv X pins σ H3 { s3 with heap:=s3.heap.push { cls:=.type "slice", data:=.fields #[vl,vu,.none] } }:=I3.kept (t':=s3.toks) λb ob q=>aG _ q;obtain⟨T,id,hT,ht,hg⟩:=hr pins { s3 with heap:=s3.heap.push { cls:=.type "slice", data:=.fields #[vl,vu,.none] } } σ H3 x v vl vu l u s3.heap.objs.size Q I4 r1 (nY ..) pl pu q3;show wpAny (model X.prog X.w) X.A (subscriptTail e (.Slice lo hi none p2) v (.ref s3.heap.objs.size)) (EP X pins σ Q) X.xe { s3 with heap:=s3.heap.push { cls:=.type "slice", data:=.fields #[vl,vu,.none] } };exact tail_any (ops:=[.ref s3.heap.objs.size,v]) ht hT hg (by with_unfolding_all rfl)
def JC(xs:bh)(lo hi:Option Int):bh:=(xs.drop (HT.sIx xs.length 0 lo)).take (HT.sIx xs.length xs.length hi - HT.sIx xs.length 0 lo)
theorem E8(xs:bh)(lo hi:Option Int):(JC xs lo hi).length<=xs.length:=by unfold JC;rw[bH,cR];omega
def VI(K:ar):R2:=λx y H Q=>∃a b xs ys,x=.ref a/\y=.ref b/\SqT K H a xs/\SqT K H b ys/\xs≠[]/\xs.length+ys.length<=sizeLine/\
 (ys=[]->Q (.ref a) H)/\(ys≠[]->∀p,H p=none->Q (.ref p) (upd H p (.tup (xs++ys))))
theorem Vals.nil_iff{xs:bh}{us:List aa}(r:Vals xs us):us=[] ↔ xs=[]:=by
 cases r with
 |nil=>simp
 |cons _ _=>simp
theorem Ol:OpR X (binaryOp .Add) (VI X.K):=by intro pins s σ H x y v u Q I rx ry h;obtain⟨a,b,xs,ys,rfl,rfl,ha,hb,hx,hz,q1,q2⟩:=h;cases rx;cases ry;obtain⟨its,r1,p1,_⟩:=I.tuple ha;obtain⟨its2,r2,p2,_⟩:=I.tuple hb;refine HT.Oh p1 p2 (λz=>hx (r1.nil_iff.mp z)) (λz=>⟨.ref a,H,I,rfl,q1 (r2.nil_iff.mp z)⟩) (λz=>?_) (by rw[<-r1.length,<- r2.length];exact hz);refine⟨.ref s.heap.objs.size,_,I.laid (t':=s.toks) (o:=.tup (xs++ys)) (λb ob q=>aG _ q) (aK _) ?_,rfl,q2 (λw=>z (r2.nil_iff.mpr w)) _ (I.hok.fresh (aK _))⟩;exact⟨by rw[aJ];exact hz,_,r1.append r2,IsTup.new _ _⟩
end
def ixN(n:Nat)(i:Int):Option Nat:=if 0<=i then (if i<n then some i.toNat else none)else if -(n:Int)<=i then some (i+n).toNat else none
def atI{α:Type}(xs:List α)(i:Int):Option α:=(ixN xs.length i).bind λj=>xs[j]?
variable{j:Nat}
theorem Om{n:Nat}{i:Int}(h:ixN n i=some j):seqIndex? i n=some j/\j<n/\-(n:Int)<=i/\i<n:=by
 unfold ixN at h;by_cases h0:0<=i
 ·rw[aj h0]at h;by_cases h1:i<n
  ·rw[aj h1]at h;have e:i.toNat=j:=bP h;exact⟨by rw[seqIndex_of h0 h1,e],by omega,by omega,h1⟩
  ·rw[ak h1]at h;cases h
 ·rw[ak h0]at h;by_cases h1:-(n:Int)<=i
  ·rw[aj h1]at h;have e:(i+n).toNat=j:=bP h;exact⟨by rw[seqIndex_neg (by omega) h1,e],by omega,h1,by omega⟩
  ·rw[ak h1]at h;cases h
theorem Eb{α:Type}{xs:List α}{i:Int}{v:α}(h:atI xs i=some v):∃j,seqIndex? i xs.length=some j/\xs[j]?=some v/\j<xs.length/\-(xs.length:Int)<=i/\i<xs.length:=by
 unfold atI at h;cases e:ixN xs.length i with
 |none=>rw[e]at h;cases h
 |some j=>rw[e]at h;obtain⟨h1,h2,h3,h4⟩:=Om e;exact⟨j,h1,h,h2,h3,h4⟩
theorem Ih{α:Type}{xs:List α}{v:α}(h:xs[j]?=some v):atI xs (j:Int)=some v:=by
 have hj:j<xs.length:=(bN.mp h).1;have e:ixN xs.length (j:Int)=some j:=by unfold ixN;rw[aj (by omega),aj (by omega)];simp
 unfold atI;rw[e];exact h
def Ii(b:Expr):Prop:=∀o i,subscripted b false o i=operate [o,i] (getItem o i)
def IxR(X:Cx)(r:R2):Prop:=
 ∀(value slice:Expr) (pins:bW) (s:af) (σ:St) (H:Hp) (x y:V) (v u:aa) (Q:VK),Inv X pins σ H s->RelV x v->RelV y u->r x y H Q->
  subscripted slice false v u=operate [v,u] (getItem v u)->wpAny (model X.prog X.w) X.A (subscriptTail value slice v u) (EP X pins σ Q) X.xe s
def MtR(X:Cx)(id:String)(r:V->bh->Hp->VK->Prop):Prop:=
 ∀(pins:bW) (s:af) (σ:St) (H:Hp) (x:V) (xs:bh) (v:aa) (us:List aa) (Q:VK),Inv X pins σ H s->RelV x v->Vals xs us->r x xs H Q->
  wpAny (model X.prog X.w) X.A (call (.builtin id) (v::us)) (EP X pins σ Q) X.xe s
variable{r:R2}{y:V}{u:aa}{pins:bW}{σ:St}{T:String}
section
variable{X:Cx}{a b:Expr}{ta tb:TE}{pos:Pos}
theorem IxR.or{r':R2}(h:IxR X r)(h':IxR X r'):IxR X (λx y H Q=>r x y H Q\/r' x y H Q):=by
 intro value slice pins s σ H x y v u Q I rx ry q hs;rcases q with q|q
 ·exact h value slice pins s σ H x y v u Q I rx ry q hs
 ·exact h' value slice pins s σ H x y v u Q I rx ry q hs
theorem QK(hr:IxR X r)(ha:PE X a ta)(hb:PE X b tb)(hs:Ii b):PE X (.Subscript a b pos) (tOp r ta tb):=by intro pins s σ H Q I h;exact kx (Rr ha hb I h λv u s2 x y H2 I2 rx ry q=>hr a b pins s2 σ H2 x y v u Q I2 rx ry q (hs _ _))
def On(K:ar):R2:=λx y H Q=>∃p xs i v,x=.ref p/\y=.int i/\SqL K H p xs/\atI xs i=some v/\Q v H
def VJ(K:ar):R2:=λx y H Q=>∃p xs i v,x=.ref p/\y=.int i/\SqT K H p xs/\atI xs i=some v/\Q v H
def VL:R2:=λx y H Q=>∃z i c,x=.str z/\y=.int i/\z.length<=sizeLine/\atI z.cps.toList i=some c/\Q (.str ⟨#[c]⟩) H
theorem Ik:IxR X (On X.K):=by
 intro value slice pins s σ H x y v u Q I rx ry h hs;obtain⟨p,xs,i,z,rfl,rfl,hq,he,q⟩:=h;cases rx;obtain⟨t,rfl⟩:=ry;obtain⟨its,r,pl,hz⟩:=I.list hq;obtain⟨j,h1,h2,h3,h4,h5⟩:=Eb he;obtain⟨w,ew,rw'⟩:=r.get h2;have hl:=r.length;have hn:=Bk;have fin:EP X pins σ Q w s:=⟨z,H,I,rw',q⟩;by_cases h0:0<=i
 ·have hj:i.toNat=j:=by rw[seqIndex_of h0 h5]at h1;exact bP h1
  exact item_listR pl.isList h0 (by omega) (by rw[hj];simpa using ew) fin hs
 ·have hj:(i+(its.toArray.size:Int)).toNat=j:=by rw[seqIndex_neg (by omega) h4]at h1;rw[aX,<- hl];exact bP h1
  exact lD (x:=w) pl.isList.typeIs mm.lookup
   (wpAny_getItem_list_neg (Q:=λr s'=>r=w/\EP X pins σ Q r s') pl.isList (by omega) (by rw[aX]<;>omega) (by omega) (by rw[hj];simpa using ew) ⟨rfl,fin⟩) hs
theorem RF:IxR X (VJ X.K):=by
 intro value slice pins s σ H x y v u Q I rx ry h hs;obtain⟨p,xs,i,z,rfl,rfl,hq,he,q⟩:=h;cases rx;obtain⟨t,rfl⟩:=ry;obtain⟨its,r,pl,hz⟩:=I.tuple hq;obtain⟨j,h1,h2,h3,h4,h5⟩:=Eb he;obtain⟨w,ew,rw'⟩:=r.get h2;have hl:=r.length;have hn:=Bk;have fin:EP X pins σ Q w s:=⟨z,H,I,rw',q⟩;exact lD (x:=w) pl.typeIs slot_tuple_getitem.lookup
  (getItem_tuple (j:=j) (Q:=λr s'=>r=w/\EP X pins σ Q r s') pl (by omega) (by omega) (by rw[aX,<- hl];exact h1) (by simpa using ew) ⟨rfl,fin⟩) hs
theorem RG:IxR X VL:=by
 intro value slice pins s σ H x y v u Q I rx ry h hs;obtain⟨z,i,c,rfl,rfl,hz,he,q⟩:=h;obtain⟨t,rfl⟩:=rx;obtain⟨t',rfl⟩:=ry;obtain⟨j,h1,h2,h3,h4,h5⟩:=Eb he;have hl:z.cps.toList.length=z.length:=by simp[Str.length]
 rw[hl]at h1 h4 h5;have hn:=Bk;exact tail_any (typeIs_str s z t) slot_str_getitem.lookup (getItem_str (c:=c) (by
  have e1:decide (i < -(2 ^ 63:Int))=false:=aR (by omega);have e2:decide (i >= 2 ^ 63)=false:=aR (by omega);rw[e1,e2,ni]) (by rw[h1];simpa using h2) ⟨.str ⟨#[c]⟩,H,I.tok _,⟨_,rfl⟩,q⟩) hs
def rIx(K:ar):R2:=λx y H Q=>On K x y H Q\/VJ K x y H Q\/VL x y H Q
theorem RH:IxR X (rIx X.K):=Ik.or (RF.or RG)
theorem Ec(lo hi:Option Int)(n:Nat):(sliceBounds lo hi none n).1=((HT.sIx n 0 lo:Nat):Int)/\(sliceBounds lo hi none n).2.1=((HT.sIx n n hi:Nat):Int)/\(sliceBounds lo hi none n).2.2=1:=by
 refine⟨?_,?_,rfl⟩
 ·cases lo with
  |none=>simp[sliceBounds,HT.sIx]
  |some i=>
   simp only[sliceBounds,HT.sIx,mG,show (1:Int) > 0 by decide,if_true];by_cases h:i<0
   ·simp only[h,if_true]<;>omega
   ·simp only[h,if_false]<;>omega
 ·cases hi with
  |none=>simp[sliceBounds,HT.sIx]
  |some i=>
   simp only[sliceBounds,HT.sIx,mG,show (1:Int) > 0 by decide,if_true];by_cases h:i<0
   ·simp only[h,if_true]<;>omega
   ·simp only[h,if_false]<;>omega
theorem CG(its:List aa)(lo hi:Option Int):slicePick its.toArray lo hi none=((its.drop (HT.sIx its.length 0 lo)).take (HT.sIx its.length its.length hi - HT.sIx its.length 0 lo)).toArray:=by obtain⟨h1,h2,h3⟩:=Ec lo hi its.toArray.size;unfold slicePick;rw[h1,h2,h3];simp only[sliceRange_one,pick_run,aX]<;>rfl
def JD(K:ar):V->Option Int->Option Int->Hp->VK->Prop:=λx lo hi H Q=>∃a xs,x=.ref a/\SqL K H a xs/\∀p,H p=none->Q (.ref p) (upd H p (.lst (JC xs lo hi)))
theorem Oo:SlR X (JD X.K):=by intro pins s σ H x v vl vu lo hi sl Q I rx hs pl pu h;obtain⟨a,xs,rfl,hx,q⟩:=h;cases rx;obtain⟨its,r,ht,hz⟩:=I.list hx;have hlen:=r.length;refine⟨"list", _,mm.lookup,ht.isList.typeIs,?_⟩;refine wpAny_getItem_list_slice ht.isList hs pl pu .none (by simp) ?_ (by rw[aX]<;>omega);rw[CG,<- hlen];refine⟨.ref s.heap.objs.size,_,I.laid (t':=s.toks) (o:=.lst (JC xs lo hi)) (λb ob q=>aG _ q) (aK _) ?_,rfl,q _ (I.hok.fresh (aK _))⟩;exact⟨bQ (E8 xs lo hi) hz,_,0,(r.drop (HT.sIx xs.length 0 lo)).take (HT.sIx xs.length xs.length hi - HT.sIx xs.length 0 lo),ba _ rfl⟩
def xQ:V->Bool
 |.non=>true
 |.bl _=>true
 |.int _=>true
 |.str _=>true
 |_=>false
def eqV:V->V->Bool
 |.non,.non=>true
 |.bl a,.bl b=>a==b
 |.bl a,.int b=>(if a then 1 else 0)==b
 |.int a,.bl b=>a==(if b then 1 else 0)
 |.int a,.int b=>a==b
 |.str a,.str b=>a==b
 |_,_=>false
theorem Bp{A:aH}{s:af}{x:V}{v:aa}(ry:RelV y u)(rx:RelV x v)(fy:xQ y=true)(fx:xQ x=true):iK A s u v (eqV y x):=by
 cases y with
 |non=>
  cases ry;cases x with
  |non=>cases rx;exact jG _
  |bl b=>cases rx;exact SeqAt.EqAt.none_bool b
  |int b=>obtain⟨t,rfl⟩:=rx;exact SeqAt.EqAt.none_int b t
  |str b=>obtain⟨t,rfl⟩:=rx;exact SeqAt.EqAt.none_str b t
  |_=>exact ao (show false=true from fx) bb
 |bl a=>
  cases ry;cases x with
  |non=>cases rx;exact SeqAt.EqAt.bool_none a
  |bl b=>cases rx;exact SeqAt.EqAt.bool_bool a b
  |int b=>obtain⟨t,rfl⟩:=rx;exact SeqAt.EqAt.bool_int a b t
  |str b=>obtain⟨t,rfl⟩:=rx;exact SeqAt.EqAt.bool_str a b t
  |_=>exact ao (show false=true from fx) bb
 |int a=>
  obtain⟨t',rfl⟩:=ry;cases x with
  |non=>cases rx;exact SeqAt.EqAt.int_none a t'
  |bl b=>cases rx;exact SeqAt.EqAt.int_bool a t' b
  |int b=>obtain⟨t,rfl⟩:=rx;exact SeqAt.EqAt.int_int a t' b t
  |str b=>obtain⟨t,rfl⟩:=rx;exact lY a t' b t
  |_=>exact ao (show false=true from fx) bb
 |str a=>
  obtain⟨t',rfl⟩:=ry;cases x with
  |non=>cases rx;exact SeqAt.EqAt.str_none a t'
  |bl b=>cases rx;exact SeqAt.EqAt.str_bool a t' b
  |int b=>obtain⟨t,rfl⟩:=rx;exact lZ a t' b t
  |str b=>obtain⟨t,rfl⟩:=rx;exact jx a t' b t
  |_=>exact ao (show false=true from fx) bb
 |_=>exact ao (show false=true from fy) bb
def eqU(x:V)(u:aa):Bool:=match u with
 |.none=>eqV .non x
 |.bool b=>eqV (.bl b) x
 |.int i _=>eqV (.int i) x
 |.str z _=>eqV (.str z) x
 |_=>false
theorem Lb{x:V}(r:RelV y u)(f:xQ y=true):eqU x u=eqV y x:=by
 cases y with
 |non=>cases r;rfl
 |bl b=>cases r;rfl
 |int i=>obtain⟨t,rfl⟩:=r;rfl
 |str z=>obtain⟨t,rfl⟩:=r;rfl
 |_=>exact ao (show false=true from f) bb
theorem yM{x:V}:∀{xs:bh} {us:List aa},Vals xs us->xs.all xQ=true->us.any (eqU x)=xs.any λy=>eqV y x
 |_,_,.nil,_=>rfl
 |y::xs,u::us,.cons r t,f=>by rw[de,aY]at f;rw[dG,dG,Lb r f.1,yM t f.2]
theorem wH{A:aH}{s:af}{x:V}{v:aa}(rx:RelV x v)(fx:xQ x=true):∀{xs:bh} {us:List aa},Vals xs us->xs.all xQ=true->∀u∈us,iK A s u v (eqU x u)
 |_,_,.nil,_=>λu hu=>by cases hu
 |y::xs,u::us,.cons r t,f=>λu' hu=>by
  rw[de,aY]at f;rcases aL.mp hu with rfl|hu
  ·rw[Lb r f.1];exact Bp r rx f.1 fx
  ·exact wH rx fx t f.2 u' hu
def inV(x:V)(xs:bh):Bool:=xs.any λy=>eqV y x
def rIn(K:ar)(neg:Bool):R2:=λx y H Q=>∃p xs,y=.ref p/\(SqL K H p xs\/SqT K H p xs)/\xQ x=true/\xs.all xQ=true/\Q (.bl (if neg then !inV x xs else inV x xs)) H
theorem JE:OpR X (compareOp .In) (rIn X.K false):=by
 intro pins s σ H x y v u Q I rx ry h;obtain⟨p,xs,rfl,hq,fx,fs,q⟩:=h;cases ry;rcases hq with hq|hq
 ·obtain⟨its,r,pl,hz⟩:=I.list hq;refine SeqAt.in_listAt (eqU x) pl.isList (λw hw=>wH rx fx r fs w (by simpa using hw)) ⟨.bl _,H,I,rfl,?_⟩;rw[show its.toArray.any (eqU x)=its.any (eqU x) by simp,yM r fs];exact q
 ·obtain⟨its,r,pl,hz⟩:=I.tuple hq;refine SeqAt.in_tupleAt (eqU x) pl (λw hw=>wH rx fx r fs w (by simpa using hw)) ⟨.bl _,H,I,rfl,?_⟩;rw[show its.toArray.any (eqU x)=its.any (eqU x) by simp,yM r fs];exact q
theorem Ed:OpR X (compareOp .NotIn) (rIn X.K true):=by
 intro pins s σ H x y v u Q I rx ry h;obtain⟨p,xs,rfl,hq,fx,fs,q⟩:=h;cases ry;rcases hq with hq|hq
 ·obtain⟨its,r,pl,hz⟩:=I.list hq;refine SeqAt.notIn_listAt (eqU x) pl.isList (λw hw=>wH rx fx r fs w (by simpa using hw)) ⟨.bl _,H,I,rfl,?_⟩;rw[show its.toArray.any (eqU x)=its.any (eqU x) by simp,yM r fs];exact q
 ·obtain⟨its,r,pl,hz⟩:=I.tuple hq;refine SeqAt.notIn_tupleAt (eqU x) pl (λw hw=>wH rx fx r fs w (by simpa using hw)) ⟨.bl _,H,I,rfl,?_⟩;rw[show its.toArray.any (eqU x)=its.any (eqU x) by simp,yM r fs];exact q
theorem Ee:qf X (.builtin "len") (λxs H Q=>∃p ys,xs=[.ref p]/\(SqL X.K H p ys\/SqT X.K H p ys)/\Q (.int ys.length) H):=by
 intro pins s σ H xs us Q I r h;obtain⟨p,ys,rfl,hq,q⟩:=h;obtain⟨u,rfl,rx⟩:=vals1 r;cases rx;have hn:=Bk;rcases hq with hq|hq
 ·obtain⟨its,r',pl,hz⟩:=I.list hq;have hlen:=r'.length;exact Calls.call_len_list pl.isList (by simp only[aX]<;>omega) ⟨.int ys.length,H,I.tok _,⟨s.toks+1,by rw[aX,hlen]⟩,q⟩
 ·obtain⟨its,r',pl,hz⟩:=I.tuple hq;have hlen:=r'.length;exact len_tuple pl (by simp only[aX]<;>omega) ⟨.int ys.length,H,I.tok _,⟨s.toks+1,by rw[aX,hlen]⟩,q⟩
theorem Ef:qf X (.builtin "len") (λxs H Q=>∃z,xs=[.str z]/\z.length<=sizeLine/\Q (.int z.length) H):=by intro pins s σ H xs us Q I r h;obtain⟨z,rfl,hz,q⟩:=h;obtain⟨u,rfl,t,rfl⟩:=vals1 r;have hn:=Bk;exact len_str (by omega) ⟨.int z.length,H,I.tok _,⟨_,rfl⟩,q⟩
theorem Eg:qf X (.type "list") (λxs H Q=>∃p ys,xs=[.ref p]/\(SqL X.K H p ys\/SqT X.K H p ys)/\∀l,H l=none->Q (.ref l) (upd H l (.lst ys))):=by
 intro pins s σ H xs us Q I r h;obtain⟨p,ys,rfl,hq,q⟩:=h;obtain⟨u,rfl,rx⟩:=vals1 r;cases rx;have fin:∀(its:List aa),Vals ys its->ys.length<=sizeLine->∀(h':Heap) (c':Nat),(∀b o',s.heap.get? b=some o'->h'.get? b=some o')->
   h'.get? s.heap.objs.size=some { cls:=.type "list", dict:=none,data:=.seq its.toArray c',slots:=#[] }->EP X pins σ Q (.ref s.heap.objs.size) { s with heap:=h' }:=λits r' hz h' c' kp e=>
  ⟨.ref s.heap.objs.size,_,I.laid (t':=s.toks) kp (aK _) (show pI X.prog X.w _ h' _ (.lst ys) from⟨hz,its,c',r',e⟩),rfl,q _ (I.hok.fresh (aK _))⟩
 rcases hq with hq|hq
 ·obtain⟨its,r',pl,hz⟩:=I.list hq;have hlen:=r'.length;obtain⟨o,ho,hc,n,hd⟩:=pl.isList;exact call_list_seq p (.inl rfl) ho hc hd (λh' c' kp e=>fin its r' hz h' c' kp e) (by simp only[aX]<;>omega)
 ·obtain⟨its,r',pl,hz⟩:=I.tuple hq;have hlen:=r'.length;obtain⟨o,ho,hc,n,hd⟩:=pl;exact call_list_seq p (.inr rfl) ho hc hd (λh' c' kp e=>fin its r' hz h' c' kp e) (by simp only[aX]<;>omega)
theorem CH:qf X (.type "tuple") (λxs H Q=>∃p ys,xs=[.ref p]/\((SqL X.K H p ys/\∀l,H l=none->Q (.ref l) (upd H l (.tup ys)))\/(SqT X.K H p ys/\Q (.ref p) H))):=by
 intro pins s σ H xs us Q I r h;obtain⟨p,ys,rfl,h⟩:=h;obtain⟨u,rfl,rx⟩:=vals1 r;cases rx;rcases h with ⟨hq,q⟩|⟨hq,q⟩
 ·obtain⟨its,r',pl,hz⟩:=I.list hq;have hlen:=r'.length;refine call_tuple_list pl.isList (λh' kp=>?_) (by simp only[aX]<;>omega);have I1:Inv X pins σ H { s with heap:=h' }:=I.kept (t':=s.toks) kp;have I2:Inv X pins σ (upd H h'.objs.size (.tup ys)) { s with heap:=h'.push { cls:=.type "tuple", data:=.seq its.toArray } }:=
   I1.laid (t':=s.toks) (λb o e=>aG _ e) (aK _) (show pI X.prog X.w _ _ _ (.tup ys) from⟨hz,its,r',IsTup.new _ _⟩)
  exact⟨.ref h'.objs.size,_,I2,rfl,q _ (I1.hok.fresh (aK _))⟩
 ·obtain⟨its,r',pl,hz⟩:=I.tuple hq;exact call_tuple_same pl ⟨.ref p,H,I,rfl,q⟩
def tyV(K:ar)(T:String)(x:V)(H:Hp):Prop:=match x with
 |.str _=>T="str"
 |.int _=>T="int"
 |.ref p=>(T="list" /\ ∃xs,SqL K H p xs)\/(T="tuple" /\ ∃o,K.lookup p=some o/\o.cls=.type "tuple" /\ o.dict=none)\/
   (T="dict" /\ ((∃kvs,H p=some (.dK kvs))\/∃kvs,H p=some (.dT kvs)))\/(T="set" /\ ∃S n,H p=some (.set S n))
 |_=>False
theorem RI{H:Hp}{s:af}{x:V}{v:aa}(I:Inv X pins σ H s)(r:RelV x v)(ty:tyV X.K T x H):
  s.TypeIs v T/\∀a,v=.ref a->∃ob,s.heap.get? a=some ob/\ob.dict=none:=by
 cases x with
 |str z=>obtain⟨t,rfl⟩:=r;cases (show T="str" from ty);exact⟨typeIs_str s z t,λ_ e=>nomatch e⟩
 |int i=>obtain⟨t,rfl⟩:=r;cases (show T="int" from ty);exact⟨typeIs_int s i t,λ_ e=>nomatch e⟩
 |ref p=>
  cases r;rcases ty with ⟨rfl,xs,hq⟩|⟨rfl,o,hk,hc,hd⟩|⟨rfl,hk⟩|⟨rfl,S,n,hk⟩
  ·obtain⟨its,_,pl,_⟩:=I.list hq;refine⟨pl.isList.typeIs,λa e=>?_⟩;cases e;obtain⟨o,n,e,c,hd,_⟩:=pl;exact⟨o,e,hd⟩
  ·refine⟨⟨o,I.kIn p o hk,hc⟩,λa e=>?_⟩;cases e;exact⟨o,I.kIn _ o hk,hd⟩
  ·have z:∃o,s.heap.get? p=some o/\o.ExactDict:=by
    rcases hk with ⟨kvs,hk⟩|⟨kvs,hk⟩
    ·obtain⟨_,_,_,_,o,_,_,e,ex,_⟩:=I.hok p _ hk;exact⟨o,e,ex⟩
    ·obtain⟨_,_,_,_,o,_,_,e,ex,_⟩:=I.hok p _ hk;exact⟨o,e,ex⟩
   obtain⟨o,e,ex⟩:=z;refine⟨⟨o,e,ex.1⟩,λa e2=>?_⟩;cases e2;exact⟨o,e,ex.2.1⟩
  ·obtain⟨o,_,_,_,e,ex,_⟩:=I.hok p _ hk;refine⟨⟨o,e,ex.1⟩,λa e2=>?_⟩;cases e2;exact⟨o,e,ex.2.1⟩
 |_=>exact cx ty
def tBM(K:ar)(T:String)(r:V->bh->Hp->VK->Prop)(to:TE)(t:TA):TE:=λσ H Q=>to σ H λx H1=>tyV K T x H1/\t σ H1 λxs H2=>r x xs H2 Q
variable{o e:Expr}{es:List Expr}{to:TE}{t:TA}{name:Str}{apos cpos:Pos}{T id:String}{r:V->bh->Hp->VK->Prop}
theorem VM(pa:ky T)(slot:Slot T name id)(hty:typeOf (.builtin id)=pure (.type "method_descriptor"))(hm:MtR X id r)(ho:PE X o to)(ha:PA X (e::es) t)
  (hbase:attributeBase o name X.env (eval o X.env)=eval o X.env:=by rfl)
  (hfew:((backTo cpos (starEach (e::es) X.env)).all (λx=>!x.1)&&(backToKw cpos (keywordEach [] X.env)).all (λx=>x.1.isSome)
   && decide ((e::es).length+([]:List dO).length+(if ([]:List dO).isEmpty then 0 else 1)<30))=true:=by rfl)
  (hline:(apos.endLine==cpos.line)=true:=by rfl) (hs:starEach (e::es) X.env=(false,eval e X.env)::starEach es X.env:=by rfl) (hplain:(backTo cpos (starEach es X.env)).any (·.1)=false:=by rfl):
  PE X (.Call (.Attribute o name apos) (e::es) [] cpos) (tBM X.K T r to t):=by
 intro pins s σ H Q I h;refine wpAny_Call_method_late hbase hfew hline rfl (thn (ho pins s σ H _ I h) λv s1 ⟨x,H1,I1,r1,ty,q1⟩=>?_);obtain⟨h1,h2⟩:=RI I1 r1 ty;refine⟨T,id,pa,slot,hty,h1,h2,?_⟩;have hA:=ha cpos pins s1 σ H1 _ I1 q1;rw[hs]at hA ⊢;refine hU (by show (false||(backTo cpos (starEach es X.env)).any (·.1))=false;rw[hplain]<;>rfl) (ie ?_)
 exact thn hA λus s2 ⟨vs,H2,I2,r2,q2⟩=>hm pins s2 σ H2 x vs v us Q I2 r1 r2 q2
end
def MtM(X:Cx)(id:String)(r:V->bh->Hp->VK->Prop):Prop:=
 ∀(pins:bW) (s:af) (σ:St) (H:Hp) (x:V) (xs:bh) (v:aa) (us:List aa) (Q:VK),Inv X pins σ H s->RelV x v->Vals xs us->r x xs H Q->
  wpAny (model X.prog X.w) X.A (call (.builtin id) (v::us)) (EP X pins σ Q) X.xe s
theorem Vals.one:∀{x:V} {us:List aa},Vals [x] us->∃u,us=[u]/\RelV x u
 |_,_,.cons r .nil=>⟨_,rfl,r⟩
theorem Vals.eraseIdx:∀{xs:bh} {us:List aa} (i:Nat),Vals xs us->Vals (xs.eraseIdx i) (us.eraseIdx i)
 |_,_,_,.nil=>.nil
 |_,_,0,.cons _ t=>t
 |_,_,i+1,.cons r t=>.cons r (Vals.eraseIdx i t)
theorem De{α:Type}:∀(l:List α) (i:Nat),(l.eraseIdx i).length<=l.length
 |[],_=>aK _
 |_::_,0=>fq _
 |_::r,i+1=>Nat.succ_le_succ (De r i)
variable{its:List aa}{t':Nat}
section
variable{X:Cx}{pins:bW}{σ:St}{H:Hp}{s:af}{l b:Addr}{xs ys zs:bh}
theorem Inv.lset{its':List aa}{n:Nat}{f:Array aa->Array aa}(I:Inv X pins σ H s)(hH:H l=some (.lst xs))
  (e:s.heap.get? l=some { cls:=.type "list", data:=.seq its.toArray n }) (hf:f its.toArray=its'.toArray) (hv:Vals ys its') (hz:ys.length<=sizeLine):
  Inv X pins σ (upd H l (.lst ys)) { s with heap:=s.heap.update l (cK f),toks:=t' }:=by
 have q:=PySem.IsL.update e f;rw[hf]at q;refine I.write (x:=l) (e:=l) (by rw[hH];exact trivial) (.inl rfl) (λb' u hb hu=>(fO s.heap (cK f) (cM hb)).trans hu) ⟨_,q⟩ ?_;exact⟨hz,its',_,hv,q⟩
theorem Inv.lnew(I:Inv X pins σ H s)(hv:Vals ys its)(hz:ys.length<=sizeLine):
  Inv X pins σ (upd H s.heap.objs.size (.lst ys)) { s with heap:=s.heap.push { cls:=.type "list", data:=.seq its.toArray },toks:=t' }:=
 I.laid (λ_ _ q=>aG _ q) (aK _) ⟨hz,its,0,hv,ba _ rfl⟩
theorem Inv.fresh(I:Inv X pins σ H s):H s.heap.objs.size=none:=I.hok.fresh (aK _)
theorem Inv.lstM(I:Inv X pins σ H s)(hH:H l=some (.lst xs)):xs.length<=sizeLine/\∃(its:List aa) (n:Nat),Vals xs its/\xs.length=its.length/\s.heap.get? l=some { cls:=.type "list", data:=.seq its.toArray n }:=by obtain⟨z,its,n,r,e⟩:=I.hok l _ hH;exact⟨z,its,n,r,r.length,e⟩
theorem E9{n:Nat}(h:n<=sizeLine):fL n=false:=by unfold fL;exact aR (by omega)
end
section
variable{X:Cx}
def Eh:V->bh->Hp->VK->Prop:=λx vs H Q=>∃l xs y,x=.ref l/\vs=[y]/\H l=some (.lst xs)/\xs.length<sizeLine/\Q .non (upd H l (.lst (xs++[y])))
theorem zD:MtM X "list.append" Eh:=by intro pins s σ H x vs v us Q I rx rv h;obtain⟨l,xs,y,rfl,rfl,hH,hz,q⟩:=h;cases rx;obtain⟨u,rfl,ru⟩:=rv.one;obtain⟨z,its,n,r,hl,e⟩:=I.lstM hH;refine gu jy ⟨_,e,rfl⟩ F.entry_list_append (F.args_list_append_2 _ _) (PySem.list_append l its.toArray n u (by rw[aX];omega)) ⟨e,?_⟩;refine⟨.non,_,I.lset (its':=its++[u]) hH e (by simp) (r.append (.cons ru .nil)) ?_,rfl,q⟩;rw[aJ,bt];omega
def Oq:V->bh->Hp->VK->Prop:=λx vs H Q=>∃l b xs zs,x=.ref l/\vs=[.ref b]/\H l=some (.lst xs)/\H b=some (.lst zs)/\xs.length+zs.length<=sizeLine/\Q .non (upd H l (.lst (xs++zs)))
theorem Vm:MtM X "list.extend" Oq:=by
 intro pins s σ H x vs v us Q I rx rv h;obtain⟨l,b,xs,zs,rfl,rfl,hH,hB,hz,q⟩:=h;cases rx;obtain⟨u,rfl,ru⟩:=rv.one;cases ru;obtain⟨z,its,n,r,hl,e⟩:=I.lstM hH;obtain⟨z2,its2,n2,r2,hl2,e2⟩:=I.lstM hB;have hsz:its.toArray.size+its2.toArray.size<=sizeLine:=by rw[aX,aX];omega
 have hlong:¬(!its.toArray.isEmpty&&fL (its.toArray.size+its2.toArray.size))=true:=by rw[E9 hsz,m5];exact bb
 refine gu jz ⟨_,e,rfl⟩ lU (lM _ _)
  (AutoSeq1.list_extend_list_list_0 l its.toArray n b its2.toArray n2 hlong (by rw[aX];omega) (by omega)) ⟨e,e2,?_⟩
 refine⟨.non,_,I.lset (its':=its++its2) hH e (by simp) (r.append r2) ?_,rfl,q⟩;rw[aJ];omega
def Lc:V->bh->Hp->VK->Prop:=λx vs H Q=>∃l xs i k y,x=.ref l/\vs=[.int i]/\H l=some (.lst xs)/\-(2 ^ 63)<=i/\i<2 ^ 63/\seqIndex? i xs.length=some k/\xs[k]?=some y/\Q y (upd H l (.lst (xs.eraseIdx k)))
theorem Ld:MtM X "list.pop" Lc:=by
 intro pins s σ H x vs v us Q I rx rv h;obtain⟨l,xs,i,k,y,rfl,rfl,hH,h1,h2,hk,hy,q⟩:=h;cases rx;obtain⟨u,rfl,ru⟩:=rv.one;obtain⟨t,rfl⟩:=ru;obtain⟨z,its,n,r,hl,e⟩:=I.lstM hH;obtain⟨w,hw,rw'⟩:=r.get hy;refine gu mO ⟨_,e,rfl⟩ F.entry_list_pop (F.args_list_pop_2 _ _)
  (MeetsSeq.list_pop_at l its.toArray n i t k w (fitsIndex_both h1 h2) (by rw[aX,<- hl];exact hk) (by rw[<-jl];exact hw) (by rw[aX];omega)) ⟨e,?_⟩
 refine⟨y,_,I.lset (its':=its.eraseIdx k) hH e ?_ (r.eraseIdx k) ?_,rw',q⟩
 ·show its.toArray.eraseIdxIfInBounds k=(its.eraseIdx k).toArray;rw[List.eraseIdxIfInBounds_toArray]
 ·have:=De xs k;omega
def W5:R2:=λx y H Q=>∃l b xs zs,x=.ref l/\y=.ref b/\H l=some (.lst xs)/\H b=some (.lst zs)/\xs.length+zs.length<=sizeLine/\∀p,H p=none->Q (.ref p) (upd H p (.lst (xs++zs)))
theorem RJ:OpR X (binaryOp .Add) W5:=by
 intro pins s σ H x y v u Q I rx ry h;obtain⟨l,b,xs,zs,rfl,rfl,hH,hB,hz,q⟩:=h;cases rx;cases ry;obtain⟨z,its,n,r,hl,e⟩:=I.lstM hH;obtain⟨z2,its2,n2,r2,hl2,e2⟩:=I.lstM hB;refine PySem.P.add_list e e2 ?_ (by rw[aX,aX];omega);have ea:its.toArray++its2.toArray=(its++its2).toArray:=by simp
 rw[ea];exact⟨.ref _,_,I.lnew (t':=s.toks) (r.append r2) (by rw[aJ];omega),rfl,q _ I.fresh⟩
end
section
variable{prog:aD}{w:aw}{A:aH}{E:aa->af->Prop}{s:af}
set_option maxRecDepth 100000 in
end
section
variable{κ:Type}[DecidableEq κ]
def rU(kvs:List (κ×V))(k:κ):Option V:=(kvs.find? λkv=>decide (kv.1=k)).map (·.2)
def putK(kvs:List (κ×V))(k:κ)(v:V):List (κ×V):=
 if (kvs.any λkv=>decide (kv.1=k))=true then kvs.map (λkv=>if kv.1=k then (kv.1,v)else kv)else kvs++[(k,v)]
theorem yN{p:κ×V}{r:List (κ×V)}{k:κ}(e:p.1=k):rU (p::r) k=some p.2:=by simp[rU,c8,e]
theorem yO{p:κ×V}{r:List (κ×V)}{k:κ}(e:¬p.1=k):rU (p::r) k=rU r k:=by simp[rU,c8,e]
theorem Bq(k:κ):∀kvs:List (κ×V),(kvs.any λkv=>decide (kv.1=k))=(rU kvs k).isSome
 |[]=>rfl
 |p::r=>by
  rw[dG];by_cases e:p.1=k
  ·simp only[yN e,aZ e,Bool.true_or,Option.isSome_some]
  ·rw[yO e,aR e,nu];exact Bq k r
theorem uA(kvs:List (κ×V))(k:κ)(v:V):(putK kvs k v).length<=kvs.length+1:=by
 unfold putK;split
 ·rw[ah];omega
 ·rw[aJ,aI,f6];omega
theorem Le{kvs:List (κ×V)}{k:κ}(v:V)(h:rU kvs k=none):putK kvs k v=kvs++[(k,v)]:=by unfold putK;rw[Bq,h];exact ak (by decide)
theorem wC.isSome_eq{o:Option V}{u:Option aa}(r:wC o u):o.isSome=u.isSome:=by
 cases o with
 |none=>cases u with
  |none=>rfl
  |some _=>exact(show False from r).elim
 |some _=>cases u with
  |none=>exact(show False from r).elim
  |some _=>rfl
theorem wC.getD{o:Option V}{u:Option aa}{d:V}{d':aa}(r:wC o u)(rd:RelV d d'):RelV (o.getD d) (u.getD d'):=by
 cases o with
 |none=>cases u with
  |none=>exact rd
  |some _=>exact(show False from r).elim
 |some _=>cases u with
  |none=>exact(show False from r).elim
  |some _=>exact r
theorem KV.val{kvs:List (κ×V)}{vs:List (κ×aa)}(r:KV kvs vs)(k:κ):wC (rU kvs k) (valueAt vs k):=by
 unfold KV at r
 induction r with
 |nil=>exact True.intro
 |@cons p q ps qs h t ih=>
  obtain⟨h1,h2⟩:=h;by_cases e:p.1=k
  ·have e':q.1=k:=h1.symm.trans e;have b:valueAt (q::qs) k=some q.2:=by simp[valueAt,c8,e']
   rw[yN e,b];exact h2
  ·have e':¬q.1=k:=λz=>e (h1.trans z);have b:valueAt (q::qs) k=valueAt qs k:=by simp[valueAt,c8,e']
   rw[yO e,b];exact ih
theorem KV.any{kvs:List (κ×V)}{vs:List (κ×aa)}(r:KV kvs vs)(k:κ):(kvs.any λkv=>decide (kv.1=k))=vs.any λkv=>decide (kv.1=k):=by
 unfold KV at r
 induction r with
 |nil=>rfl
 |cons h t ih=>rw[dG,dG,ih,h.1]
theorem KV.repl{kvs:List (κ×V)}{vs:List (κ×aa)}(r:KV kvs vs)(k:κ)(ry:RelV y u):
  KV (kvs.map λkv=>if kv.1=k then (kv.1,y)else kv) (vs.map λkv=>if kv.1=k then (kv.1,u)else kv):=by
 unfold KV at r ⊢
 induction r with
 |nil=>exact .nil
 |@cons p q ps qs h t ih=>
  rw[ay,ay];refine .cons ?_ ih;obtain⟨h1,h2⟩:=h;by_cases e:p.1=k
  ·rw[aj e,aj (h1.symm.trans e)];exact⟨h1,ry⟩
  ·rw[ak e,ak (λz=>e (h1.trans z))];exact⟨h1,h2⟩
theorem KV.put{kvs:List (κ×V)}{vs:List (κ×aa)}(r:KV kvs vs)(k:κ)(ry:RelV y u):KV (putK kvs k y) (stored vs k u):=by
 unfold putK stored;rw[r.any k];by_cases e:(vs.any λkv=>decide (kv.1=k))=true
 ·rw[aj e,aj e];exact r.repl k ry
 ·rw[ak e,ak e];exact nH r ⟨rfl,ry⟩
theorem KV.length{kvs:List (κ×V)}{vs:List (κ×aa)}(r:KV kvs vs):kvs.length=vs.length:=jN r
end
theorem xR{P:aD}{w:aw}{k:Key}(r:RelV (kV k) u):(oO P w).is k u=true:=by
 cases k with
 |inl i=>obtain⟨t,e⟩:=(show ∃t,u=Value.int i t from r);subst e;exact EZ P w i t
 |inr x=>obtain⟨t,e⟩:=(show ∃t,u=Value.str x t from r);subst e;exact E1 P w x t
theorem Dg{P:aD}{w:aw}:∀{ks:List Key} {us:List aa},Vals (ks.map kV) us->ItemsAre (oO P w) ks us
 |[],_,r=>by rw[bS]at r;cases r;exact .nil
 |k::ks,_,r=>by
  rw[ay]at r;cases r with
  |cons h t=>exact .cons (xR h) (Dg t)
abbrev KT(H:Hp):List (List Key×V)->List (List Key×Addr×aa)->Prop:=eI λp q=>p.1=q.1/\H q.2.1=some (.tup (p.1.map kV))/\RelV p.2 q.2.2
variable{kvs:List (List Key×V)}{xs:List (List Key×Addr×aa)}
theorem KT.val{H:Hp}(r:KT H kvs xs)(k:List Key):wC (rU kvs k) ((atKey xs k).map (·.2)):=by
 induction r with
 |nil=>exact True.intro
 |@cons p q ps qs h t ih=>
  obtain⟨h1,_,h2⟩:=h;by_cases e:p.1=k
  ·have e':q.1=k:=h1.symm.trans e;have b:atKey (q::qs) k=some q.2:=by simp[atKey,c8,e']
   rw[yN e,b];exact h2
  ·have e':¬q.1=k:=λz=>e (h1.trans z);have b:atKey (q::qs) k=atKey qs k:=by simp[atKey,c8,e']
   rw[yO e,b];exact ih
theorem KT.repl{H:Hp}(r:KT H kvs xs)(k:List Key)(ry:RelV y u):
  KT H (kvs.map λkv=>if kv.1=k then (kv.1,y)else kv) (xs.map (putAt k u)):=by
 induction r with
 |nil=>exact .nil
 |@cons p q ps qs h t ih=>
  rw[ay,ay];refine .cons ?_ ih;obtain⟨h1,h2,h3⟩:=h;unfold putAt;by_cases e:p.1=k
  ·rw[aj e,aj (h1.symm.trans e)];exact⟨h1,h2,ry⟩
  ·rw[ak e,ak (λz=>e (h1.trans z))];exact⟨h1,h2,h3⟩
theorem KT.put{H:Hp}(r:KT H kvs xs)(k:List Key){b:Addr}(hb:H b=some (.tup (k.map kV)))(ry:RelV y u):
  KT H (putK kvs k y) (storedH xs k b u):=by
 have e:(kvs.any λkv=>decide (kv.1=k))=(atKey xs k).isSome:=by rw[Bq,(r.val k).isSome_eq,mq]
 unfold putK storedH;rw[e];by_cases q:(atKey xs k).isSome=true
 ·rw[aj q,aj q];exact r.repl k ry
 ·rw[ak q,ak q];exact nH r ⟨rfl,hb,ry⟩
variable{H':Hp}
theorem KT.keeps{H:Hp}(r:KT H kvs xs)(ht:∀b ys,H b=some (.tup ys)->H' b=some (.tup ys)):KT H' kvs xs:=
 Paired.mapP r λ_ _ z=>⟨z.1,ht _ _ z.2.1,z.2.2⟩
section
variable{P:aD}{w:aw}{H:Hp}{h:Heap}{a:Addr}
theorem QL{u:HO}(ok:HOk P w H h)(e:Rd H a u):pI P w H h a u:=e.ok ok
theorem Ac{kvs:List (Key×V)}(ok:HOk P w H h)(e:Rd H a (.dK kvs)):kvs.length<=sizeLine/\(a==sysModules)=false/\∃vs,KV kvs vs/\h.DictOf (oO P w) a vs:=
 show pI P w H h a (.dK kvs) from QL ok e
theorem Lf{kvs:List (Key×V)}(ok:HOk P w H h)(e:H a=some (.dK kvs)):kvs.length<=sizeLine/\(a==sysModules)=false/\∃vs,KV kvs vs/\h.DictOf (oO P w) a vs:=Ac ok (.inl e)
theorem zE{ks:List Key}(ok:HOk P w H h)(e:H a=some (.tup (ks.map kV))):(tupleKind (oO P w)).is h ks a:=by obtain⟨_,its,r,o,h1,h2,n,h3⟩:=(show pI P w H h a (.tup (ks.map kV)) from ok a _ e);exact⟨o,its.toArray,n,h1,h2,h3,by simpa using Dg r⟩
theorem Br(ok:HOk P w H h)(e:Rd H a (.dT kvs)):kvs.length<=sizeLine/\(a==sysModules)=false/\
  ∃xs,KT H kvs xs/\h.DictOfH (tupleKind (oO P w)) a xs:=by
 obtain⟨z,y,xs,r,o,es,ep,h1,h2,h3,h4,h5⟩:=(show pI P w H h a (.dT kvs) from QL ok e);refine⟨z,y,xs,r,o,es,ep,h1,h2,h3,h4,λx hx=>?_,h5⟩;have all:∀{l:List (List Key×V)} {m:List (List Key×Addr×aa)},KT H l m->∀x∈m,(tupleKind (oO P w)).is h x.1 x.2.1:=by
  intro l m q
  induction q with
  |nil=>intro x hx;exact nomatch hx
  |@cons p q ps qs hq t ih=>
   intro x hx;rcases aL.mp hx with e|hx
   ·subst e;exact zE ok (by rw[<-hq.1];exact hq.2.1)
   ·exact ih x hx
 exact all r x hx
theorem VN(ok:HOk P w H h)(e:H a=some (.dT kvs)):kvs.length<=sizeLine/\(a==sysModules)=false/\
  ∃xs,KT H kvs xs/\h.DictOfH (tupleKind (oO P w)) a xs:=Br ok (.inl e)
end
def DGet(H:Hp)(a:Addr)(y:V)(r:Option V):Prop:=
 (∃kvs k,Rd H a (.dK kvs)/\y=kV k/\r=rU kvs k)\/∃kvs k b,Rd H a (.dT kvs)/\y=.ref b/\H b=some (.tup (k.map kV))/\r=rU kvs k
def Lg(H:Hp)(a:Addr)(y v:V)(H':Hp):Prop:=
 (∃kvs k,H a=some (.dK kvs)/\y=kV k/\kvs.length<sizeLine/\H'=upd H a (.dK (putK kvs k v)))\/
 ∃kvs k b,H a=some (.dT kvs)/\y=.ref b/\H b=some (.tup (k.map kV))/\kvs.length<sizeLine/\H'=upd H a (.dT (putK kvs k v))
theorem Lg.k{H:Hp}{a:Addr}{kvs:List (Key×V)}{k:Key}{v:V}(e:H a=some (.dK kvs))(hl:kvs.length<sizeLine):Lg H a (kV k) v (upd H a (.dK (putK kvs k v))):=.inl ⟨kvs,k,e,rfl,hl,rfl⟩
variable{Q:aa->af->Prop}{h':Heap}
section
variable{X:Cx}{pins:bW}{σ:St}{H:Hp}{s:af}{a:Addr}{y v:V}{u r:aa}{o:Option V}{A:aH}{E:aa->af->Prop}
theorem Inv.big(I:Inv X pins σ H s):sysModules<s.heap.objs.size:=by have h:mainGlobals<s.heap.objs.size:=(I.mod.glob.keeps I.bk).lt;exact Nat.lt_trans (by decide) h
theorem JF(hu:A.units+1<cLine)(I:Inv X pins σ H s)(g:DGet H a y (some v))(ry:RelV y u)(h:∀w' s',Inv X pins σ H s'->RelV v w'->Q w' s'):
  wpAny (model X.prog X.w) A (getItem (.ref a) u) Q E s:=by
 rcases g with ⟨kvs,k,e,ey,l⟩|⟨kvs,k,b,e,ey,eb,l⟩
 ·subst ey;obtain⟨z,hd,vs,rel,dd⟩:=Ac I.hok e;obtain⟨w',hw,rw'⟩:=wC.some_of (v:=v) (o:=valueAt vs k) (by rw[l];exact rel.val k);exact wpAny_getItem_of (xR ry) dd.mapOf hw (h w' _ (I.tok _) rw')
 ·subst ey;cases (show u=Value.ref b from ry);obtain⟨z,hd,xs,rel,dd⟩:=Br I.hok e;obtain⟨w',hw,rw'⟩:=wC.some_of (v:=v) (o:=(atKey xs k).map (·.2)) (by rw[l];exact rel.val k)
  obtain⟨p,hp,hp2⟩:=Option.map_eq_some_iff.mp hw;refine wpAny_getItem_heap (fR hu) (zE I.hok eb) dd hp ?_;rw[hp2];exact h w' _ (I.tok _) rw'
theorem W6(hu:A.units+1<cLine)(I:Inv X pins σ H s)(g:DGet H a y o)(ry:RelV y u)(h:∀s',Inv X pins σ H s'->Q (.bool o.isSome) s'):
  wpAny (model X.prog X.w) A (compareOp .In u (.ref a)) Q E s:=by
 rcases g with ⟨kvs,k,e,ey,l⟩|⟨kvs,k,b,e,ey,eb,l⟩
 ·subst ey;obtain⟨z,hd,vs,rel,dd⟩:=Ac I.hok e;refine wpAny_in_of (xR ry) hd dd.mapOf ?_;rw[<-(rel.val k).isSome_eq,<- l];exact h _ (I.tok _)
 ·subst ey;cases (show u=Value.ref b from ry);obtain⟨z,hd,xs,rel,dd⟩:=Br I.hok e;refine wpAny_in_heap (fR hu) (zE I.hok eb) hd dd ?_;have q:=(rel.val k).isSome_eq;rw[mq]at q;rw[<-q,<- l];exact h _ (I.tok _)
theorem A5{ob:HO}(I:Inv X pins σ H s)(mu:Mut (H a))(hs:eG a s.heap h')(he:∃q,h'.get? a=some q)(new:pI X.prog X.w (upd H a ob) h' a ob):
  Inv X pins σ (upd H a ob) { s with heap:=h',toks:=t' }:=
 I.write (x:=a) (e:=a) mu (.inl rfl) (λb q hb z=>(hs.2 b hb).trans z) he new
theorem GT{P:aD}{w:aw}{kvs:List (Key×V)}{vs:List (Key×aa)}(z:kvs.length<=sizeLine)(hd:(a==sysModules)=false)(rel:KV kvs vs)(dd:h'.DictOf (oO P w) a vs):
  pI P w H' h' a (.dK kvs):=⟨z,hd,vs,rel,dd⟩
theorem JG{Q:Unit->af->Prop}(hu:A.units+1<cLine)(I:Inv X pins σ H s)(g:Lg H a y v H')(ry:RelV y u)(rv:RelV v r)(h:∀s',Inv X pins σ H' s'->Q () s'):
  wpAny (model X.prog X.w) A (setItem (.ref a) u r) Q E s:=by
 rcases g with ⟨kvs,k,e,ey,l,eH⟩|⟨kvs,k,b,e,ey,eb,l,eH⟩
 ·subst ey eH;obtain⟨z,hd,vs,rel,dd⟩:=Lf I.hok e;have hz:vs.length<=sizeLine:=by rw[<-rel.length];exact z
  have hl:(putK kvs k v).length<=sizeLine:=by have:=uA kvs k v;omega
  refine wpAny_setItem_pairs (hsz:=hz) (xR ry) dd λh' dd' hs=>h _ ?_;have he:∃q,h'.get? a=some q:=let ⟨q,_,_,hq,_⟩:=dd';⟨q,hq⟩;exact A5 I (by rw[e];exact True.intro) hs he (GT hl hd (rel.put k rv) dd')
 ·subst ey eH;cases (show u=Value.ref b from ry);obtain⟨z,hd,xs,rel,dd⟩:=VN I.hok e;have hz:xs.length<=sizeLine:=by rw[<-jN rel];exact z
  have hl:(putK kvs k v).length<=sizeLine:=by have:=uA kvs k v;omega
  refine wpAny_setItem_heap (hsz:=hz) (fR hu) (zE I.hok eb) dd λh' dd' hs=>h _ ?_;obtain⟨q,es,ep,hq,h2,h3,h4,_,h5⟩:=dd';refine A5 I (by rw[e];exact True.intro) hs ⟨q,hq⟩ ⟨hl,hd,_,(rel.put k eb rv).keeps λc ys ec=>?_,q,es,ep,hq,h2,h3,h4,h5⟩;rw[oo (Vo ec e (λz=>nomatch z))];exact ec
end
section
variable{X:Cx}{pins:bW}{σ:St}{H:Hp}{s:af}{a:Addr}{kvs:List (Key×V)}{k:Key}{u:aa}{A:aH}{E:aa->af->Prop}
theorem VO(I:Inv X pins σ H s)(e:Rd H a (.dK kvs))(h:∀t s',Inv X pins σ H s'->Q (.int kvs.length t) s'):wpAny (model X.prog X.w) A (call (.builtin "len") [.ref a]) Q E s:=by obtain⟨z,hd,vs,rel,dd⟩:=Ac I.hok e;refine call_len_dict hd dd (by rw[<-rel.length];rw[bC]at z;omega) ?_;rw[<-rel.length];exact h _ _ (I.tok _)
end
def RK(i:Expr):Prop:=∀ov iv,subscripted i false ov iv=operate [ov,iv] (getItem ov iv)
variable{pos:Pos}
theorem Os{prog:aD}{w:aw}{A:aH}{E:aa->af->Prop}{s:af}{env:Env}{value slice:Expr}{id:String}
  (hl:typeLookup (.type T) "__getitem__" = pure (some (.builtin id))) (hs:RK slice)
  (h:wpAny (model prog w) A (eval value env) (λo s₁=>wpAny (model prog w) A (eval slice env) (λi s₂=>s₂.TypeIs o T/\wpAny (model prog w) A (getItem o i) Q E s₂) E s₁) E s):
  wpAny (model prog w) A (eval (.Subscript value slice pos) env) Q E s:=by
 refine kx (bM h (λo s₁ h₁=>bM h₁ (λi s₂ h₂=>?_) λ_ _ x=>x) λ_ _ x=>x);obtain⟨hT,h₂⟩:=h₂;unfold subscriptTail;refine ai ?_;rw[getitemInPython_of_ne hT.not_modules];refine ai (jH hT hl ?_);have fin:wpAny (model prog w) A (subscripted slice false o i) (λr s₃=>wpAny (model prog w) A (letTemporaryGo value o r>>=λ_=>pure r) Q E s₃) E s₂:=by rw[hs o i];exact wpAny_operating (bM h₂ (λr s₃ h₃=>ai (wpAny_letTemporaryGo (aB h₃))) λ_ _ x=>x)
 first
  |exact aB (ai fin)
  |exact ai (aB (ai fin))
  |exact ai fin
variable{X:Cx}{a:Addr}
theorem Fb{H:Hp}{s:af}{o:Option V}(I:Inv X pins σ H s)(g:DGet H a y o):s.TypeIs (.ref a) "dict" := by
 rcases g with ⟨kvs,k,e,_,_⟩|⟨kvs,k,b,e,_,_,_⟩
 ·obtain⟨_,_,vs,_,dd⟩:=Ac I.hok e;exact dd.typeIs
 ·obtain⟨_,_,xs,_,dd⟩:=Br I.hok e;exact dd.typeIs
def VP(td ty:TE):TE:=λσ H Q=>td σ H λx H1=>ty σ H1 λy H2=>∃a v,x=.ref a/\DGet H2 a y (some v)/\Q v H2
def VQ(ty td:TE):TE:=λσ H Q=>ty σ H λy H1=>td σ H1 λx H2=>∃a o,x=.ref a/\DGet H2 a y o/\Q (.bl o.isSome) H2
def QM(td ty tv:TE):TS:=λD σ H=>tv σ H λv H1=>td σ H1 λx H2=>ty σ H2 λy H3=>∃a H4,x=.ref a/\Lg H3 a y v H4/\D.nx σ H4
section
variable{X:Cx}{o i e value:Expr}{pos pos' tpos:Pos}{td ty tv:TE}
theorem Ot(hu:X.A.units+1<cLine)(ho:PE X o td)(hi:PE X i ty)(hs:RK i):PE X (.Subscript o i pos) (VP td ty):=by intro pins s σ H Q I h;refine Os F.slot_dict_getitem.lookup hs (thn (ho pins s σ H _ I h) λu s1 ⟨x,H1,I1,rx,q1⟩=>thn (hi pins s1 σ H1 _ I1 q1) λiv s2 ⟨y,H2,I2,ry,a,v,ex,g,q2⟩=>?_);subst ex;obtain rfl:u=Value.ref a:=rx;exact⟨Fb I2 g,JF hu I2 g ry λw' s3 I3 rw'=>⟨v,H2,I3,rw',q2⟩⟩
theorem RM(hu:X.A.units+1<cLine)(hi:PE X i ty)(ho:PE X o td):PC X .In i o (VQ ty td):=by intro pins s σ H Q I h;refine thn (hi pins s σ H _ I h) λiv s1 ⟨y,H1,I1,ry,q1⟩=>thn (ho pins s1 σ H1 _ I1 q1) λu s2 ⟨x,H2,I2,rx,a,ov,ex,g,q2⟩=>?_;subst ex;obtain rfl:u=Value.ref a:=rx;exact W6 hu I2 g ry λs3 I3=>⟨.bl ov.isSome,H2,I3,rfl,q2⟩
theorem Ou(hu:X.A.units+1<cLine)(ho:PE X o td)(hi:PE X i ty)(hv:PE X value tv)(hs:swapsWith value (some (.Subscript o i pos')) pos.line X.env=pure false):
  PS X (.Assign [.Subscript o i pos'] value pos) (QM td ty tv):=by
 intro pins s σ H D I h;refine wpAny_Assign_Subscript (thn (hv pins s σ H _ I h) λr s1 ⟨v,H1,I1,rv,q1⟩=>thn (ho pins s1 σ H1 _ I1 q1) λu s2 ⟨x,H2,I2,rx,q2⟩=>thn (hi pins s2 σ H2 _ I2 q2) λiv s3 ⟨y,H3,I3,ry,a,H4,ex,g,q3⟩=>?_) hs;subst ex;obtain rfl:u=Value.ref a:=rx;exact JG hu I3 g ry rv λs4 I4=>⟨σ,H4,I4,q3⟩
end
theorem Fc{P:aD}{w:aw}{H:Hp}(h:Heap)(hb:sysModules<h.objs.size):pI P w H (h.push { cls:=.type "dict", data:=.dict #[] }) h.objs.size (.dK []):=
 ⟨bZ _,beq_eq_false_iff_ne.mpr (cM (aU hb)),[],.nil,Heap.DictOf.new h⟩
def GU:TE:=λ_ H Q=>∀p,H p=none->Q (.ref p) (upd H p (.dK []))
section
variable{X:Cx}{pos:Pos}
theorem Fd:PE X (.Dict [] [] pos) GU:=λpins s σ H Q I h=>
 wpAny_Dict_empty ⟨.ref s.heap.objs.size,_,I.laid (a:=s.heap.objs.size) (o:=.dK []) (t':=s.toks) (λ_ _ q=>aG _ q) (aK _) (Fc s.heap I.big),rfl,h _ (I.hok.fresh (aK _))⟩
end
def Ei:List (TE×TE)->St->Hp->(List (V×V)->Hp->Prop)->Prop
 |[],_,H,Q=>Q [] H
 |(tk,tv)::r,σ,H,Q=>tk σ H λx H1=>tv σ H1 λy H2=>Ei r σ H2 λps H3=>Q ((x,y)::ps) H3
abbrev VV:List (V×V)->List (aa×aa)->Prop:=eI λp q=>RelV p.1 q.1/\RelV p.2 q.2
def PPs(X:Cx)(pos:Pos)(keys:List (Option Expr))(values:List Expr)(trs:List (TE×TE)):Prop:=
 ∀(pins:bW) (s:af) (σ:St) (H:Hp) (Q:List (V×V)->Hp->Prop),Inv X pins σ H s->Ei trs σ H Q->
  wpAny (model X.prog X.w) X.A (evalPairs (pairTrees keys values X.env pos)) (λvs s'=>∃ps H',Inv X pins σ H' s'/\VV ps vs/\Q ps H') X.xe s
theorem Ov:PPs X pos [] [] []:=λpins s σ H Q I h=>pairTrees_nil_walk ⟨[],H,I,.nil,h⟩
variable{trs:List (TE×TE)}
theorem Lh{k v:Expr}{ks:List (Option Expr)}{vs:List Expr}{tk tv:TE}(hk:PE X k tk)(hv:PE X v tv)(hr:PPs X pos ks vs trs):
  PPs X pos (some k::ks) (v::vs) ((tk,tv)::trs):=λpins s σ H Q I h=>
 pairTrees_cons_walk (thn (hk pins s σ H _ I h) λu s1 ⟨x,H1,I1,rx,q1⟩=>thn (hv pins s1 σ H1 _ I1 q1) λw2 s2 ⟨y,H2,I2,ry,q2⟩=>
  thn (hr pins s2 σ H2 _ I2 q2) λws s3 ⟨ps,H3,I3,rel,q3⟩=>⟨(x,y)::ps,H3,I3,.cons ⟨rx,ry⟩ rel,q3⟩)
def yi(kvs more:List (Key×V)):List (Key×V):=more.foldl (λacc kv=>putK acc kv.1 kv.2) kvs
theorem KV.merge:∀{more:List (Key×V)} {rs:List (Key×aa)} {kvs:List (Key×V)} {vs:List (Key×aa)},KV more rs->KV kvs vs->KV (yi kvs more) (merged vs rs):=by
 intro more rs kvs vs r;unfold KV at r
 induction r generalizing kvs vs with
 |nil=>intro q;exact q
 |@cons p q ps qs h t ih=>
  intro r0;have e:KV (putK kvs p.1 p.2) (stored vs q.1 q.2):=by have:=r0.put p.1 h.2;rw[<-h.1];exact this
  exact ih e
theorem xS:∀(more kvs:List (Key×V)),(yi kvs more).length<=kvs.length+more.length
 |[],kvs=>by show kvs.length<=kvs.length+0;omega
 |p::r,kvs=>by have h1:=xS r (putK kvs p.1 p.2);have h2:=uA kvs p.1 p.2;show (yi (putK kvs p.1 p.2) r).length<=_;rw[aI];omega
theorem Bs{P:aD}{w:aw}:∀{kvs:List (Key×V)} {ws:List (aa×aa)},VV (kvs.map λkv=>(kV kv.1,kv.2)) ws->∃rs,Carries (oO P w) ws rs/\KV kvs rs
 |[],_,r=>by rw[bS]at r;cases r;exact⟨[],True.intro,.nil⟩
 |p::kvs,_,r=>by
  rw[ay]at r;cases r with
  |@cons a b as bs h t=>obtain⟨rs,c,q⟩:=Bs (P:=P) (w:=w) t;obtain⟨b1,b2⟩:=b;exact⟨(p.1,b2)::rs,⟨xR h.1,rfl,c⟩,.cons ⟨rfl,h.2⟩ q⟩
def QN(trs:List (TE×TE)):TE:=λσ H Q=>∀p,H p=none->Ei trs σ (upd H p (.dK [])) λps H2=>H2 p=some (.dK [])/\∃kvs:List (Key×V),ps=kvs.map (λkv=>(kV kv.1,kv.2))/\kvs.length<=15/\Q (.ref p) (upd H2 p (.dK (yi [] kvs)))
theorem Ow{keys:List (Option Expr)}{values:List Expr}(h:PPs X pos keys values trs)(hall:keys.all (·.isSome)=true)(hl:keys.length=values.length)(h0:keys≠[])
  (h15:keys.length<=15):PE X (.Dict keys values pos) (QN trs):=by
 intro pins s σ H Q I q;have hn:=I.hok.fresh (aK s.heap.objs.size);have I1:=I.laid (a:=s.heap.objs.size) (o:=.dK []) (h':=s.heap.push { cls:=.type "dict", data:=.dict #[] }) (t':=s.toks) (λ_ _ q=>aG _ q) (aK _) (Fc s.heap I.big);refine wpAny_Dict_walk (knd:=oO X.prog X.w) hall hl h0 h15 (thn (h pins _ σ _ _ I1 (q _ hn)) λws s2 ⟨ps,H2,I2,rel,e,kvs,ep,lk,q2⟩=>?_);subst ep;obtain⟨rs,c,rk⟩:=Bs (P:=X.prog) (w:=X.w) rel;obtain⟨z,hd,vs0,r0,dd⟩:=Lf I2.hok e;cases r0;refine⟨rs,c,dd,λh' dd' hs=>⟨.ref s.heap.objs.size,_,?_,rfl,q2⟩⟩;have hz:(yi [] kvs).length<=sizeLine:=by have h1:=xS kvs [];rw[f6]at h1;rw[bC];omega
 have he:∃q,h'.get? s.heap.objs.size=some q:=let ⟨q,_,_,hq,_⟩:=dd';⟨q,hq⟩;exact A5 I2 (by rw[e];exact True.intro) hs he (GT hz hd (rk.merge .nil) dd')
structure M1(X:Cx)(o:Expr)(m:Str)(apos:Pos)(e:Expr)(cpos:Pos):Prop where
 base:attributeBase o m X.env (eval o X.env)=eval o X.env
 few:((backTo cpos (starEach [e] X.env)).all (λx=>!x.1)&&(backToKw cpos (keywordEach [] X.env)).all (λx=>x.1.isSome)
  && decide (([e]:List Expr).length+([]:List dO).length+(if ([]:List dO).isEmpty then 0 else 1)<30))=true
 line:(apos.endLine==cpos.line)=true
 trees:backTo cpos (starEach [e] X.env)=[(false,eval e X.env)]
structure M2(X:Cx)(o:Expr)(m:Str)(apos:Pos)(e f:Expr)(cpos:Pos):Prop where
 base:attributeBase o m X.env (eval o X.env)=eval o X.env
 few:((backTo cpos (starEach [e,f] X.env)).all (λx=>!x.1)&&(backToKw cpos (keywordEach [] X.env)).all (λx=>x.1.isSome)
  && decide (([e,f]:List Expr).length+([]:List dO).length+(if ([]:List dO).isEmpty then 0 else 1)<30))=true
 line:(apos.endLine==cpos.line)=true
 trees:backTo cpos (starEach [e,f] X.env)=[(false,eval e X.env),(false,eval f X.env)]
def IsD(H:Hp)(a:Addr):Prop:=(∃kvs,Rd H a (.dK kvs))\/∃kvs,Rd H a (.dT kvs)
theorem GV{H:Hp}{s:af}(I:Inv X pins σ H s)(d:IsD H a):
  s.TypeIs (.ref a) "dict" /\ (∀b,Value.ref a=.ref b->∃ob,s.heap.get? b=some ob/\ob.dict=none)/\(a==sysModules)=false:=by
 rcases d with ⟨kvs,e⟩|⟨kvs,e⟩
 ·obtain⟨_,hd,vs,_,dd⟩:=Ac I.hok e;refine⟨dd.typeIs,λb q=>?_,hd⟩;cases q;obtain⟨ob,_,_,h1,h2,_⟩:=dd;exact⟨ob,h1,h2.2.1⟩
 ·obtain⟨_,hd,xs,_,dd⟩:=Br I.hok e;refine⟨dd.typeIs,λb q=>?_,hd⟩;cases q;obtain⟨ob,_,_,h1,h2,_⟩:=dd;exact⟨ob,h1,h2.2.1⟩
section
variable{X:Cx}{pins:bW}{σ:St}{H:Hp}{s:af}{a:Addr}{y d:V}{u r:aa}{o:Option V}{A:aH}{E:aa->af->Prop}
theorem RN(hu:A.units+1<cLine)(I:Inv X pins σ H s)(g:DGet H a y o)(ry:RelV y u)(h:∀w' s',Inv X pins σ H s'->RelV (o.getD .non) w'->Q w' s'):
  wpAny (model X.prog X.w) A (call (.builtin "dict.get") [.ref a,u]) Q E s:=by
 rcases g with ⟨kvs,k,e,ey,l⟩|⟨kvs,k,b,e,ey,eb,l⟩
 ·subst ey;obtain⟨z,hd,vs,rel,dd⟩:=Ac I.hok e;refine gm eY dd.typeIs iu (mr _ _) (meets_dict_get (oO X.prog X.w) a (xR ry) hd) ⟨_,dd.mapOf,h _ _ (I.tok _) ?_⟩;rw[l];exact(rel.val k).getD rfl
 ·subst ey;cases (show u=Value.ref b from ry);obtain⟨z,hd,xs,rel,dd⟩:=Br I.hok e;refine gm eY dd.typeIs iu (mr _ _) (meetsH_dict_get (tupleKind (oO X.prog X.w)) a b hd) ⟨fR hu,k,xs,zE I.hok eb,dd,h _ _ (I.tok _) ?_⟩;rw[l];exact(rel.val k).getD rfl
theorem RO(hu:A.units+1<cLine)(I:Inv X pins σ H s)(g:DGet H a y o)(ry:RelV y u)(rd:RelV d r)(h:∀w' s',Inv X pins σ H s'->RelV (o.getD d) w'->Q w' s'):
  wpAny (model X.prog X.w) A (call (.builtin "dict.get") [.ref a,u,r]) Q E s:=by
 rcases g with ⟨kvs,k,e,ey,l⟩|⟨kvs,k,b,e,ey,eb,l⟩
 ·subst ey;obtain⟨z,hd,vs,rel,dd⟩:=Ac I.hok e;refine gm eY dd.typeIs iu (mw _ _ _) (meets_dict_get_default (oO X.prog X.w) a (xR ry) hd r) ⟨_,dd.mapOf,h _ _ (I.tok _) ?_⟩;rw[l];exact(rel.val k).getD rd
 ·subst ey;cases (show u=Value.ref b from ry);obtain⟨z,hd,xs,rel,dd⟩:=Br I.hok e;refine gm eY dd.typeIs iu (mw _ _ _) (meetsH_dict_get_default (tupleKind (oO X.prog X.w)) a b hd r) ⟨fR hu,k,xs,zE I.hok eb,dd,h _ _ (I.tok _) ?_⟩;rw[l];exact(rel.val k).getD rd
end
def RP(td ty:TE):TE:=λσ H Q=>td σ H λx H1=>∃a,x=.ref a/\IsD H1 a/\ty σ H1 λy H2=>∃o,DGet H2 a y o/\Q (o.getD .non) H2
def RQ(td ty tx:TE):TE:=λσ H Q=>td σ H λx H1=>∃a,x=.ref a/\IsD H1 a/\ty σ H1 λy H2=>tx σ H2 λz H3=>∃o,DGet H3 a y o/\Q (o.getD z) H3
section
variable{X:Cx}{o e f:Expr}{apos cpos:Pos}{td ty tx:TE}
theorem Li(hu:X.A.units+1<cLine)(ho:PE X o td)(he:PE X e ty)(m:M1 X o "get" apos e cpos):PE X (.Call (.Attribute o "get" apos) [e] [] cpos) (RP td ty):=by intro pins s σ H Q I h;refine jC m.base m.few m.line jD eY mP (thn (ho pins s σ H _ I h) λu s1 ⟨x,H1,I1,rx,a,ex,d,q1⟩=>?_);subst ex;obtain rfl:u=Value.ref a:=rx;obtain⟨t1,t2,_⟩:=GV I1 d;refine⟨t1,t2,?_⟩;rw[m.trees];refine hU rfl (ie (dY (thn (he pins s1 σ H1 _ I1 q1) λiv s2 ⟨y,H2,I2,ry,ov,g,q2⟩=>fT ?_)));exact RN hu I2 g ry λw' s3 I3 rw'=>⟨_,H2,I3,rw',q2⟩
theorem Lj(hu:X.A.units+1<cLine)(ho:PE X o td)(he:PE X e ty)(hf:PE X f tx)(m:M2 X o "get" apos e f cpos):PE X (.Call (.Attribute o "get" apos) [e,f] [] cpos) (RQ td ty tx):=by
 intro pins s σ H Q I h;refine jC m.base m.few m.line jD eY mP (thn (ho pins s σ H _ I h) λu s1 ⟨x,H1,I1,rx,a,ex,d,q1⟩=>?_);subst ex;obtain rfl:u=Value.ref a:=rx;obtain⟨t1,t2,_⟩:=GV I1 d;refine⟨t1,t2,?_⟩;rw[m.trees];refine hU rfl (ie (dY (thn (he pins s1 σ H1 _ I1 q1) λiv s2 ⟨y,H2,I2,ry,q2⟩=>
  dY (thn (hf pins s2 σ H2 _ I2 q2) λfv s3 ⟨z,H3,I3,rz,ov,g,q3⟩=>fT ?_))))
 exact RO hu I3 g ry rz λw' s4 I4 rw'=>⟨_,H3,I4,rw',q3⟩
end
end L2
namespace Att
open PySem PySem.W PySem.Calls PyProof.Rows
theorem AS{P:gB}{h:Heap}:∀(ns:List Int) (vs:List aa),WellAll P h vs (ns.map WData.int)->gz vs ns:=by
 intro ns
 induction ns with
 |nil=>intro vs w;rw[bS]at w;cases w;exact .nil
 |cons n ns ih=>
  intro vs w;rw[ay]at w;cases w with
  |cons a b=>cases a;exact .cons _ _ (ih _ b)
theorem JH{l:fz}{n:Nat}(hn:l.most=some n){P:gB}{h:Heap}{args:List WData}{vals:List aa}
  (hpre:l.row.toRowW.claim.pre args=true) (hwl:WellAll P h vals args):
  ∃a vs ns,vals=[Value.ref a]/\args=[WData.list (ns.map WData.int)]/\h.get? a=some { cls:=.type "list", data:=.seq vs.toArray }/\gz vs ns/\ns.length<=n:=by
 have hsh:WShape.hasAll [] args [.list .int]=true:=(pre_splitW hpre).1;have hc:l.pre.holds [] { args:=args }=true:=(pre_splitW hpre).2;obtain⟨d,r,rfl,h1,h2⟩:=hasAllW_cons hsh;obtain rfl:=hasAllW_nil h2;obtain⟨xs,rfl,h3⟩:=hasW_list h1;obtain⟨ns,rfl⟩:=items_int h3;have hlen:ns.length<=n:=by
  unfold OpenLaw.pre at hc;have h4:(WTm.not (.lt (.lit (.int (n:Int))) (.len (.arg 0)))).holds [] { args:=[.list (ns.map .int)] }=true:=by have h4:=(holds_andW hc).1;rw[hn]at h4;exact h4
  have h5:=condW_of h4 (w_not (w_lt w_lit (w_len_list (w_arg rfl))));rw[ah]at h5;refine mH λq=>?_;have q':(n:Int)<((ns.length:Nat):Int):=by omega
  first
   |(rw[aZ q']at h5;exact ao h5 (by decide))
   |(simp at h5;omega)
 cases hwl with
 |cons w1 w2=>
  cases w2;cases w1 with
  |list ho hall=>exact⟨_,_,ns,rfl,rfl,ho,AS ns _ hall,hlen⟩
theorem JI(l:fz)(args:List WData):l.row.toRowW.claim.post args (.bool true) args=true:=
 postW_of (r:=l.row.toRowW) (X:=(true==true))
  (show nJ [] (.bool true) .bool=true by first|rfl|decide|simp[nJ,WShape.arms,WShape.armsAll])
  (show (WTm.eq .res (.lit (.bool true))).value [] { args:=args,res:=some (.bool true),after:=args }=some (.bool (true==true)) from w_eq_bool (w_res rfl) w_lit) rfl
theorem attach_call{l:fz}{n:Nat}{q:aD}{loose:aE}{XP:(Str->Option aa)->Heap->Prop}{YP:aw->Heap->Prop}{d:DefRec}
  (hn:l.most=some n) (hdf:d.params.defaults=[])
  (call:∀(w:aw) (s₀ s₁:af) (mg mb:Str->Option aa) (fa:Addr) (o:Obj) (pm cd doc:aa) (a:Addr) (vs:List aa) (ns:List Int),
   Ground q loose [] XP w s₀ mg mb s₁.heap->YP w s₁.heap->
   s₁.heap.get? fa=some o->o.data=.func (docDef d.name d.params d.body d.scope pm cd doc)->s₁.heap.CodeRec cd d.name->mg d.name=some (.ref fa)->
   s₁.heap.get? a=some { cls:=.type "list", data:=.seq vs.toArray }->gz vs ns->ns.length<=n->s₁.gens=#[]->
   codeAny (model l.prog w) callerA (.call (.ref fa) ⟨[.ref a],[]⟩) (λr s'=>r=.ok (.ret (.bool true))/\OldK s₁.heap s'.heap/\s'.os=s₁.os/\dh s'.gens) s₁):
  WalkO q loose XP YP l.row.toRowW d [] (λf vs=>kz f vs):=by
 intro w s₀ s₁ mg mb G Y fa o pm cd doc dV kV ho hd hcd hD hmg hg args vals as hpre hlay hrd hwl hlo;obtain rfl:dV=.none:=Dflts.none hD hdf;obtain rfl:kV=.none:=Dflts.noKw hD;obtain⟨a,vs,ns,rfl,rfl,hobj,hints,hlen⟩:=JH hn hpre hwl;refine enter_call (fm (call w s₀ s₁ mg mb fa o pm cd doc a vs ns G Y ho (fd_plain hd) hcd hmg hobj hints hlen hg) λr s' hq=>?_);obtain⟨rfl,h2,h3,h4⟩:=hq;exact⟨.inl ⟨.bool true,.bool true,[],rfl,λ_=>rfl,.bool true,JI l _,λ_=>⟨List.Pairwise.nil,λ_ hm=>(nomatch hm)⟩⟩,h2,h3,h4⟩
end Att
namespace L2
open PySem PySem.Spec PyProof.Rows
theorem Dh:∀{vs:List aa} {ns:List Int},gz vs ns->Vals (ns.map V.int) vs
 |_,_,.nil=>.nil
 |_,_,.cons n t h=>.cons ⟨t,rfl⟩ (Dh h)
def RR(H:Hp):Prop:=∀b,H b=none\/∃o xs,H b=some (.frz o (.lst xs))
variable{a:Addr}{fd:bD}{sp:Sp}
theorem Lk{P:aD}{w:aw}{K:ar}{mg mb:Str->Option aa}{CX:CXT}{k:Nat}{fa:Addr}{x:Str}{s₁:af}{vs:List aa}{ns:List Int}
  (KX:K.In s₁.heap) (hns:s₁.heap.Ns mainGlobals mg) (hb:s₁.heap.Ns builtinsNs mb) (hbb:∀x:Str,x≠"__name__" -> mb x=bootBuiltins x) (hlim:s₁.heap.NoLimit) (hg:s₁.gens=#[])
  (ha:s₁.heap.get? a=some { cls:=.type "list", data:=.seq vs.toArray }) (hi:gz vs ns) (hl:ns.length<=sizeLine) (hr:qc k callerA)
  (F:∀base:Heap,K.In base->base.Ns mainGlobals mg->sE P w K mg base CX k fa fd [x] sp) (hbind:∀(s:af) (u:aa),fA s fd ⟨[u],[]⟩ [(x,u)])
  (hsp:∀H:Hp,RR H->SqL K H a (ns.map V.int)->sp [.ref a] H (λv _=>v=.bl true) λ_ _ _=>False)
  (hCX:∀H e s',CX [] H s₁ (λ_ _ _=>False) e s'->False):
  codeAny (model P w) callerA (.call (.ref fa) ⟨[.ref a],[]⟩) (λr s'=>r=.ok (.ret (.bool true))/\OldK s₁.heap s'.heap/\s'.os=s₁.os/\dh s'.gens) s₁:=by
 have rv:=Dh hi;have lenV:=hi.length;have core:∀H:Hp,RR H->SqL K H a (ns.map V.int)->HOk P w H s₁.heap->(∀b,H b≠none->b=a)->(H a≠none->K.lookup a=none)->
   codeAny (model P w) callerA (.call (.ref fa) ⟨[.ref a],[]⟩) (λr s'=>r=.ok (.ret (.bool true))/\OldK s₁.heap s'.heap/\s'.os=s₁.os/\dh s'.gens) s₁:=by
  intro H hO hS hok hA hK;have base_of:∀{b:Addr} {o:Obj},s₁.heap.get? b=some o->H b=none->(D8 s₁.heap H).get? b=some o:=λe n=>KL e n;have noA:∀{b:Addr} {o:Obj} {es:Array DictEntry} {ep:Nat},s₁.heap.get? b=some o->o.data=.dict es ep->H b=none:=λ{b o es ep} e d=>by
   cases q:H b with
   |none=>rfl
   |some u=>have e':b=a:=hA b (by rw[q];simp);subst e';rw[ha]at e;cases e;have d':Data.seq vs.toArray _=Data.dict es ep:=d;cases d'
  have nsK:∀{b:Addr} {m:Str->Option aa},s₁.heap.Ns b m->(D8 s₁.heap H).Ns b m:=λ{b m} ⟨o,es,ep,e,d,r⟩=>⟨o,es,ep,base_of e (noA e d),d,r⟩;have hKb:K.In (D8 s₁.heap H):=λb o e=>base_of (KX b o e) (by
   cases q:H b with
   |none=>rfl
   |some u=>
    have e':b=a:=hA b (by rw[q];simp);subst e';rw[hK (by rw[q];simp)]at e;cases e)
  have hM:Mod K mg (D8 s₁.heap H):=⟨hKb,nsK hns,⟨mb,nsK hb,hbb⟩,let ⟨mc,h1,h2⟩:=hlim;⟨mc,nsK h1,h2⟩⟩;have e0:GR P w K mg (D8 s₁.heap H) callerA [] s₁ H:=⟨rfl,hM,λb o e=>N1 e,jX (Jt _ _),trivial,λb hb=>ao (show b∈([]:List Addr) from hb) (by simp),hok,.of_eq hg⟩;refine fm ((F _ hKb (nsK hns)).run callerA [] s₁ H ⟨[.ref a],[]⟩ [.ref a] [.ref a] _ _ hr e0 (hbind s₁ (.ref a)) (.cons rfl .nil) (hsp H hO hS)) λr s' h=>?_;cases r with
  |error e=>exact(hCX H e s' h).elim
  |ok fl=>
   cases fl with
   |next=>exact cx h
   |brk=>exact cx h
   |cont=>exact cx h
   |ret u=>
    obtain⟨v,H',os,bare,un,hok',r',q⟩:=h;have q':v=.bl true:=q;subst q';obtain rfl:u=Value.bool true:=r';refine⟨rfl,OldK.of_keep λb o e=>?_,os,bare⟩;cases q:H b with
    |none=>exact un.keep b o e q (by intro z;exact ao (show b∈([]:List Addr) from z) (by simp)) (by simp)
    |some u=>
     rcases hO b with z|⟨ob,xs,z⟩
     ·rw[q]at z;cases z
     ·have z2:=un.frzs b ob _ z;obtain⟨e1,_⟩:=hok b _ z;obtain⟨e2,_⟩:=hok' b _ z2;rw[e]at e1;cases e1;exact e2
 cases hk:K.lookup a with
 |some o=>have e:=KX a o hk;rw[ha]at e;cases e;refine core (λ_=>none) (λ_=>.inl rfl) (.inr ⟨_,vs.toArray,_,hk,rfl,rfl,rfl,by rw[aX,lenV];exact hl,by simpa using rv⟩) (λb u z=>by have z':(none:Option HO)=some u:=z;cases z') (λb z=>ao rfl z) λz=>ao rfl z
 |none=>
  refine core (λb=>if b=a then some (.frz { cls:=.type "list", data:=.seq vs.toArray } (.lst (ns.map V.int)))else none) (λb=>?_) (.inl (.inr ⟨{ cls:=.type "list", data:=.seq vs.toArray },aj rfl⟩)) (λb u z=>?_) (λb z=>?_) λ_=>hk
  ·by_cases hb:b=a
   ·exact .inr ⟨_,_,aj hb⟩
   ·exact .inl (ak hb)
  ·by_cases hb:b=a
   ·have z':=(aj hb).symm.trans z;cases z';subst hb;exact⟨ha,by rw[ah];exact hl,vs,_,rv,ha⟩
   ·have z':=(ak hb).symm.trans z;cases z'
  ·by_cases hb:b=a
   ·exact hb
   ·exact ao (ak hb) z
theorem Ox{l:fz}{n k:Nat}{q:aD}{loose:aE}{XP:(Str->Option aa)->Heap->Prop}{YP:aw->Heap->Prop}{d:DefRec}{K:gB->ar}{CX:aw->CXT}{sp:aw->Sp}{x:Str}
  (hn:l.most=some n) (hn2:n<=sizeLine) (hdf:d.params.defaults=[]) (hr:qc k callerA)
  (hY:∀(w:aw) (h:Heap),YP w h->(K w.params).In h)
  (F:∀(w:aw) (mg:Str->Option aa) (fa:Addr) (h:Heap),(K w.params).In h->h.Ns mainGlobals mg->mg d.name=some (.ref fa)->
   ∃fd:bD,(∀(s:af) (u:aa),fA s fd ⟨[u],[]⟩ [(x,u)])/\
    ∀base:Heap,(K w.params).In base->base.Ns mainGlobals mg->sE l.prog w (K w.params) mg base (CX w) k fa fd [x] (sp w))
  (hsp:∀(w:aw) (H:Hp) (a:Addr) (ns:List Int),ns.length<=n->RR H->SqL (K w.params) H a (ns.map V.int)->sp w [.ref a] H (λv _=>v=.bl true) λ_ _ _=>False)
  (hCX:∀(w:aw) (H:Hp) (s:af) (e:aa) (s':af),CX w [] H s (λ_ _ _=>False) e s'->False):
  W.WalkO q loose XP YP l.row.toRowW d [] (λf vs=>kz f vs):=by
 refine Att.attach_call hn hdf λw s₀ s₁ mg mb fa o pm cd doc a vs ns G Y ho hd hcd hmg hobj hints hlen hg=>?_;have KX:=hY w _ Y;obtain⟨fd,hb,hF⟩:=F w mg fa _ KX G.T.g hmg;exact Lk KX G.T.g G.T.b G.T.builtins G.T.nolimit hg hobj hints (bQ hlen hn2) hr hF hb (λH hO hS=>hsp w H a ns hlen hO hS) λH e s'=>hCX w H s₁ e s'
def inClass(s:Stmt)(j:Nat):Stmt:=match s with
 |.ClassDef _ _ _ body _ _ _ _ _ _ _=>body.getD j (.Pass ⟨0,0,0,0⟩)
 |_=>.Pass ⟨0,0,0,0⟩
def rV(s:Stmt):Arguments:=match s with
 |.FunctionDef _ a _ _ _ _ _ _ _ _=>a
 |_=>{ posonlyargs:=[],args:=[],vararg:=none,kwonlyargs:=[],kw_defaults:=[],kwarg:=none,defaults:=[] }
def o8(s:Stmt):List Stmt:=match s with
 |.FunctionDef _ _ b _ _ _ _ _ _ _=>b
 |_=>[]
def oE(s:Stmt):cy:=match s with
 |.FunctionDef _ _ _ _ _ _ sc _ _ _=>sc
 |_=>{ kind:=.function,names:=[],isGenerator:=false,isCoroutine:=false }
abbrev CX0:CXT:=λ_ _ _ _ _ _=>False
abbrev E0:XK:=λ_ _ _=>False
theorem Ad{X:Cx}:Passes CX0 X E0:=λ_ _ _ _ _ _ _ h=>h.elim
structure Fun(K:ar)(x qual:Str)(st:Stmt)(f:Addr)(fd:bD):Prop where
 ex:∃(oc:aa) (od:Option Addr) (kV doc pm:aa) (an:Option Addr) (cdv ct:aa) (osl:Array (Option aa)),
  fd=dm x qual (rV st) (o8 st) (oE st) .none kV doc pm an cdv ct/\K.lookup f=some ⟨oc,od,.func fd,osl⟩/\fw K cdv qual=true
 kp:cY K (.ref f)=true
variable{qual:Str}{st:Stmt}{ps:aE}
section
variable{P:aD}{w:aw}{K:ar}{mg:Str->Option aa}{base:Heap}
theorem Fun.ok{x:Str}{f:Addr}{N:aE}{k:Nat}(F:Fun K x qual st f fd)(S:pY N ps (oE st))(len:∀vs H Q E,sp vs H Q E->vs.length=ps.length)
  (hbody:∀(cdv:aa) (A:aH) (outer:List Env) (s:af) (H:Hp) (vs:bh) (Q:VK) (E:XK),qc k (A.deeper (envOfC qual (oE st) s.heap.objs.size f cdv))->sp vs H Q E->
   ∃t,PSs (E5 CX0 P w K mg base N qual (oE st) f cdv A outer s H E).nox (o8 st) t/\t { nx:=λ_ H'=>Q .non H',rt:=Q } (start N vs) H):sE P w K mg base CX0 (k+1) f fd ps sp:=by
 obtain⟨oc,od,kV,doc,pm,an,cdv,ct,osl,rfl,lk,hcd⟩:=F.ex;refine QJ lk hcd S len λA outer s H vs Q E hr hsp=>?_;obtain⟨t,h,q⟩:=hbody cdv A outer s H vs Q E hr hsp;exact⟨t,h.nox,q⟩
theorem Fun.binds{x:Str}{f:Addr}(F:Fun K x qual st f fd)
  (h:∀(kV doc pm:aa) (an:Option Addr) (cdv ct:aa) (us:List aa),us.length=ps.length->bindArgs (dm x qual (rV st) (o8 st) (oE st) .none kV doc pm an cdv ct) ⟨us,[]⟩=pure (ps.zip us)):Binds K fd ps []:=by
 obtain⟨oc,od,kV,doc,pm,an,cdv,ct,osl,rfl,lk,hcd⟩:=F.ex;exact .all (h kV doc pm an cdv ct)
end
theorem Fe{A:aH}{k:Nat}(hr:qc k A):A.units+1<cLine:=jA (Nat.add_le_add_left (by decide:1<=64) _) hr.units
theorem xE{n:Nat}(h:n<=1000):n<sizeLine:=jA h (by decide)
section
variable{X:Cx}
theorem pv(i:Nat){x:Str}{pos:Pos}(hN:X.N[i]?=some x:=by rfl)(hv:Vis X.env.scope x:=by first|exact Or.inl rfl|exact Or.inr (Or.inl rfl)|exact Or.inr (Or.inr rfl))(hd:(x==("__debug__" : Str))=false:=by decide)
  (hcd:(x==("__classdict__" : Str))=false:=by decide):PE X (.Name x pos) (uN i):=Q6 hN hv hd hcd
end
variable{B:Prop}
theorem Fg{A:Prop}(h:B):if false=true then A else B:=by rw[ak bb];exact h
theorem Fh{A:Prop}(h:A):if true=true then A else B:=by rw[aj rfl];exact h
def ox(H H':Hp):Prop:=∀b o,H b=some o->H' b=some o
theorem ox.refl(H:Hp):ox H H:=λ_ _ h=>h
theorem ox.trans{H H1 H2:Hp}(a:ox H H1)(b:ox H1 H2):ox H H2:=λc o h=>b c o (a c o h)
theorem ox.seq{K:ar}{H H':Hp}{xs:bh}(e:ox H H')(h:SqL K H a xs):SqL K H' a xs:=by
 rcases h with (h|⟨o,h⟩)|h
 ·exact .inl (.inl (e _ _ h))
 ·exact .inl (.inr ⟨o,e _ _ h⟩)
 ·exact .inr h
end L2
set_option maxHeartbeats 4000000
namespace L3
open PySem PySem.Spec PyProof.Rows L2
abbrev St:=L2.St
theorem Bt{α β:Type}{f:α->β->Sem (ForInStep β)}{g:β->α->β}:∀(l:List α) (b:β),(∀x∈l,∀c,f x c=pure (ForInStep.yield (g c x)))->(forIn l b f:Sem β)=pure (l.foldl g b)
 |[],b,_=>by simp
 |x::r,b,h=>by rw[jI,h x aW b];show (forIn r (g b x) f:Sem β)=_;rw[Bt r (g b x) λy hy c=>h y (bj _ hy) c];rfl
def wj(cells:List (Str×Addr))(cs:List (Str×Addr))(x:Str×cZ):List (Str×Addr):=if (x.2==NameKind.free)=true then (x.1,(cells.lookup x.1).getD 0)::cs else cs
def tG(cells:List (Str×Addr))(names:List (Str×cZ)):List (Str×Addr):=names.foldl (wj cells) []
variable{scope:cy}{env:Env}
theorem CI(h:∀x∈scope.names,x.2=.free->∃c,env.cells.lookup x.1=some c):
  closureFor scope env=pure (tG env.cells scope.names):=by
 simp only[closureFor];rw[Bt (g:=wj env.cells) scope.names [] λx hx c=>by
  obtain⟨n,k⟩:=x;by_cases hk:k=.free
  ·subst hk;obtain⟨a,e⟩:=h _ hx rfl;have e':env.cells.lookup n=some a:=e;simp only[wj,cellOf,e',beq_self_eq_true,if_true,mI];rfl
  ·have hb:(k==NameKind.free)=false:=by simpa using hk
   simp only[wj,hb,ee,if_false]]
 rfl
theorem Fi{cells:List (Str×Addr)}:∀(names:List (Str×cZ)) (acc:List (Str×Addr)),(∀x∈names,x.2=.free->∃c,cells.lookup x.1=some c)->(∀x c,acc.lookup x=some c->cells.lookup x=some c)->
  ∀x c,(names.foldl (wj cells) acc).lookup x=some c->cells.lookup x=some c
 |[],acc,_,ha,x,c,e=>ha x c e
 |y::r,acc,h,ha,x,c,e=>by
  refine Fi r (wj cells acc y) (λz hz=>h z (bj _ hz)) (λz d ez=>?_) x c e;obtain⟨n,k⟩:=y;unfold wj at ez;split at ez
  ·rename_i hk;obtain⟨a,ea⟩:=h (n,k) aW (by simpa using hk);have ea':cells.lookup n=some a:=ea;rw[dE]at ez;cases hb:z==n with
   |true=>rw[hb]at ez;have ez':some ((cells.lookup n).getD 0)=some d:=ez;rw[ea']at ez';rw[gv hb,ea'];exact ez'
   |false=>rw[hb]at ez;exact ha z d ez
  ·exact ha z d ez
theorem Di{cells:List (Str×Addr)}:∀(names:List (Str×cZ)) (acc:List (Str×Addr)) (x:Str),(∃c,acc.lookup x=some c)->∃c,(names.foldl (wj cells) acc).lookup x=some c
 |[],_,_,h=>h
 |y::r,acc,x,h=>by
  refine Di r (wj cells acc y) x ?_;unfold wj;split
  ·rw[dE];cases x==y.1 with
   |true=>exact⟨_,rfl⟩
   |false=>exact h
  ·exact h
theorem Bu{cells:List (Str×Addr)}:∀(names:List (Str×cZ)) (acc:List (Str×Addr)) (x:Str),(x,NameKind.free)∈names->∃c,(names.foldl (wj cells) acc).lookup x=some c
 |[],_,_,h=>by cases h
 |y::r,acc,x,h=>by
  rcases aL.mp h with e|h
  ·subst e;refine Di r _ x ?_;unfold wj;rw[aj (by simp),dE];simp
  ·exact Bu r _ x h
theorem vH{env:Env}(x:Str):∀(names:List (Str×cZ)),
  (names.map λ(n,k)=>if (k==NameKind.free&&env.scope.kind==.function&&env.kindOf n==some .cell)then (n,NameKind.cell)else (n,k)).lookup x=
   (names.lookup x).map λk=>if (k==NameKind.free&&env.scope.kind==.function&&env.kindOf x==some .cell)=true then NameKind.cell else k
 |[]=>rfl
 |(n,k)::r=>by
  have ih:=vH (env:=env) x r;rw[ay,dE (k:=n)];show cJ x ((if (k==NameKind.free&&env.scope.kind==.function&&env.kindOf n==some .cell)=true then (n,NameKind.cell)else (n,k))::_)=_;cases hx:x==n with
  |true=>
   have e:=gv hx;subst e;split
   ·rename_i hc;simp only[dE,hx,eD,hc,if_true]
   ·rename_i hc;simp only[dE,hx,eD];rw[ak hc]
  |false=>
   rw[<-ih];split
   ·simp only[dE,hx]
   ·simp only[dE,hx]
theorem GW{x:Str}(hcell:∀y∈scope.names,y.2≠.cell)(h:(relabel scope env).names.lookup x=some .cell\/(relabel scope env).names.lookup x=some .free):(x,NameKind.free)∈scope.names:=by
 have e:=vH (env:=env) x scope.names;have h':(scope.names.lookup x).map (λk=>if (k==NameKind.free&&env.scope.kind==.function&&env.kindOf x==some .cell)=true then NameKind.cell else k)=some .cell\/
   (scope.names.lookup x).map (λk=>if (k==NameKind.free&&env.scope.kind==.function&&env.kindOf x==some .cell)=true then NameKind.cell else k)=some .free:=by
  rw[<-e];exact h
 cases q:scope.names.lookup x with
 |none=>rw[q]at h';rcases h' with z|z<;>cases z
 |some k=>
  rw[q]at h';have hm:=mem_of_lookup q;have hc:=hcell _ hm;cases k with
  |free=>exact hm
  |cell=>exact ao rfl hc
  |_=>rcases h' with z|z<;>cases z
theorem CJ{x:Str}(h:scope.names.lookup x=some .free):(relabel scope env).names.lookup x=some .cell\/(relabel scope env).names.lookup x=some .free:=by
 have e:=vH (env:=env) x scope.names;have e':(relabel scope env).names.lookup x=(scope.names.lookup x).map λk=>if (k==NameKind.free&&env.scope.kind==.function&&env.kindOf x==some .cell)=true then NameKind.cell else k:=e
 rw[e',h,eD];split
 ·exact .inl rfl
 ·exact .inr rfl
def qd(X:Cx)(N':aE)(scope:cy)(cl:List (Str×Addr))(C:Addr)(fp:List Addr)(s:af)(H:Hp):Cx:=
 { X with N:=N',s₀:=s,H₀:=H,env:=compEnvC scope cl C X.env,outer:=X.stack,ex:=fp,fn:=λ_=>false,pn:=[],xe:=λ_ _=>False }
def PIf(X:Cx)(ifs:List Expr)(t:TT):Prop:=
 ∀(pins:bW) (s:af) (σ:St) (H:Hp) (Q:Bool->Hp->Prop),Inv X pins σ H s->t σ H Q->
  wpAny (model X.prog X.w) X.A (forIn ifs true λc r=>if r=true then do let ok<-isTrue c X.env (eval c X.env);pure (ForInStep.yield ok)else pure (ForInStep.yield r)) (TP X pins σ Q) X.xe s
def W7:TT:=λ_ H Q=>Q true H
variable{X:Cx}
theorem Oy:PIf X [] W7:=λ_ _ _ H _ I h=>wpAny_tests_nil ⟨H,I,h⟩
theorem Oz{c:Expr}{t:TT}(h:PT X c t):PIf X [c] t:=λpins s σ H Q I hq=>wpAny_tests_one (h pins s σ H Q I hq)
variable{elt iter:Expr}{ifs:List Expr}{pos:Pos}
section
variable{prog:aD}{w:aw}{A:aH}{R:dP->af->Prop}{s:af}
theorem Ej{target:Expr}{it acc:aa}(J:Nat->af->Prop)
  (turn:∀n s,J n s->wpAny (model prog w) A (pyNext it) (λr s₁=>match r with
   |none=>R (.ok .next) s₁
   |some v=>wpAny (model prog w) A (letOwnedTupleGo target it v) (λ_ s₁'=>wpAny (model prog w) A (assign target env v) (λ_ s₂=>
     wpAny (model prog w) A (forIn ifs true λc r=>if r=true then do let ok<-isTrue c env (eval c env);pure (ForInStep.yield ok)else pure (ForInStep.yield r)) (λok s₃=>
      if ok=true then wpAny (model prog w) A (eval elt env) (λx s₄=>
       wpAny (model prog w) A (call (.builtin "list.append") [acc,x]) (λ_ s₅=>∃m,m<n/\J m s₅) (notedBy (model prog w) A env λe s'=>R (.error e) s') s₄) (notedBy (model prog w) A env λe s'=>R (.error e) s') s₃
      else ∃m,m<n/\J m s₃) (notedBy (model prog w) A env λe s'=>R (.error e) s') s₂) (notedBy (model prog w) A env λe s'=>R (.error e) s') s₁')
      (notedBy (model prog w) A env λe s'=>R (.error e) s') s₁) (notedBy (model prog w) A env λe s'=>R (.error e) s') s)
  (n:Nat) (h:J n s):
  codeAny (model prog w) A (.compLoop (.ListComp elt [⟨target,iter,ifs,0⟩] scope pos) 0 it acc env) R s:=by
 refine codeAny_loop rfl J (λn s hI=>?_) n h;show wpAny _ A ((compTurn (.ListComp elt [⟨target,iter,ifs,0⟩] scope pos) 0 it acc env).onRaise (λx=>do noteFrame x env;theTreesLotGoes x)) _ _ s;refine wpAny_noted ?_;rw[compTurn_list];refine ai (wpAny_standAt (ai (bM (turn n s hI) (λr s₁ h₁=>?_) λ_ _ h'=>h')));cases r with
 |none=>exact aB h₁
 |some v=>
  refine ai (bM h₁ (λ_ s₁' h₁'=>?_) λ_ _ h'=>h');refine ai (bM h₁' (λ_ s₂ h₂=>ai (bM h₂ (λok s₃ h₃=>?_) λ_ _ h'=>h')) λ_ _ h'=>h');cases ok with
  |false=>exact aB ⟨rfl,h₃⟩
  |true=>exact ai (ai (bM h₃ (λx s₄ h₄=>ai (bM h₄ (λ_ s₅ h₅=>aB (aB ⟨rfl,h₅⟩)) λ_ _ h'=>h')) λ_ _ h'=>h'))
end
def rW(k:Nat)(cap:List Nat)(σ:St):St:=f7 k none++cap.map λj=>(σ[j]?).join
variable{σ:St}{i:Nat}
theorem Dj{k:Nat}{cap:List Nat}{v:V}(h:(rW k cap σ)[i]?=some (some v)):k<=i:=by
 by_cases hi:k<=i
 ·exact hi
 ·unfold rW at h;rw[c7 (by rw[cg];omega),fM]at h;split at h<;>cases h
variable{N N':aE}
theorem JJ{k:Nat}{cap:List Nat}{v:V}{x:Str}(hcap:(N'.drop k).map some=cap.map λj=>N[j]?)(hx:N'[i]?=some x)(h:(rW k cap σ)[i]?=some (some v)):
  ∃j:Nat,N[j]?=some x/\σ[j]?=some (some v)/\x∈N'.drop k:=by
 have hi:=Dj h;unfold rW at h;rw[c6 (by rw[cg];exact hi),cg,bc]at h;have hd:(N'.drop k)[i - k]?=some x:=by rw[dB,show k+(i - k)=i by omega];exact hx
 have e:=aP (λl=>l[i - k]?) hcap;simp only[bc,hd,eD]at e;cases q:cap[i - k]? with
 |none=>rw[q]at h;cases h
 |some j=>
  rw[q]at h e;simp only[eD,Option.some.injEq]at h e;refine⟨j,e.symm,?_,cj hd⟩;cases z:σ[j]? with
  |none=>rw[z]at h;cases h
  |some o=>rw[z]at h;have h':o=some v:=h;rw[h']
def Bv(wi:TI)(g:TG)(tt:TT)(te:TE)(k:Nat)(cap:List Nat):TE:=λσ H Q=>wi σ H λJ H1=>∀p,H1 p=none->
 ∃W:Nat->Nat->bh->Hp->Prop,(∃m,W 0 m [] (upd H1 p (.lst [])))/\∀i m acc H2,W i m acc H2->
  (J.stop i H2/\Q (.ref p) H2)\/
   (J.go i H2/\∀x H3,J.yld i H2 x H3->g x (rW k cap σ) H3 λσ4 H4=>σ4.drop k=(rW k cap σ).drop k/\tt σ4 H4 λb H5=>
    if b=true then te σ4 H5 λy H6=>∃acc',H6 p=some (.lst acc')/\acc'.length<sizeLine/\∃m',m'<m/\W (i+1) m' (acc'++[y]) (upd H6 p (.lst (acc'++[y])))
    else ∃m',m'<m/\W (i+1) m' acc H5)
variable{tg:Expr}{wi:TI}{tt:TT}{te:TE}
theorem Dk{pins:bW}{s:af}{H:Hp}{use:Option (aa->Sem Unit)}{P:aa->af->Prop}{Q:V->Hp->Prop}{k:Nat}{cap:List Nat}{g:TG}
  (hc:X.calm=true) (hi:PI X tg iter wi)
  (body:∀(cl:List (Str×Addr)) (C:Addr) (fp:List Addr) (s:af) (H:Hp),PG (qd X N' scope cl C fp s H) tg g/\PIf (qd X N' scope cl C fp s H) ifs tt/\PE (qd X N' scope cl C fp s H) elt te)
  (hkind:scope.kind=.function) (hcell:(scope.names.all λy=>y.2 != .cell)=true)
  (hloc:(scope.names.all λy=>y.2 != .local||scope.names.lookup y.1==some .local)=true)
  (hfree:(scope.names.all λy=>y.2 != .free||(X.env.kindOf y.1==some .cell||X.env.kindOf y.1==some .free))=true)
  (hlen:N'.length=k+cap.length) (hcap:(N'.drop k).map some=cap.map λj=>X.N[j]?)
  (hcf:((N'.drop k).all λx=>scope.names.lookup x==some .free)=true)
  (hs:∀x,foldedSetIterable iter X.env x=pure x)
  (I:Inv X pins σ H s) (h:Bv wi g tt te k cap σ H Q)
  (fin:∀a C m u s4 H3,s4.heap.Ns C m->Inv X pins σ H3 s4->CD X pins H3 C->Q (.ref a) H3->compPost (model X.prog X.w) X.A X.xe use P (.ref a) C (.ok u) s4):
  wpAny (model X.prog X.w) X.A (comprehension (.ListComp elt [⟨tg,iter,ifs,0⟩] scope pos) scope X.env (firstIterPos [⟨tg,iter,ifs,0⟩] pos) (newList []) false (eval iter X.env) use) P X.xe s:=by
 have hcell':∀y∈scope.names,y.2≠.cell:=λy hy e=>by have z:=bw.mp hcell y hy;rw[e]at z;exact ao z (by decide)
 have hloc':∀y∈scope.names,y.2=.local->scope.names.lookup y.1=some .local:=λy hy e=>by have z:=bw.mp hloc y hy;rw[e]at z;simpa using z
 have hfree':∀y∈scope.names,y.2=.free->X.env.kindOf y.1=some .cell\/X.env.kindOf y.1=some .free:=λy hy e=>by have z:=bw.mp hfree y hy;rw[e]at z;simpa using z
 have hcl:∀y∈scope.names,y.2=.free->∃c,X.env.cells.lookup y.1=some c:=λy hy e=>I.ok.has y.1 (hfree' y hy e);refine wpAny_comprehension_free rfl hs (CI hcl) hkind hloc' (thn (hi pins s σ H _ I h) λxv s₁ h₁=>thn h₁ λit s₂ h₂=>?_);obtain⟨ita,fp,tn,J,H2,e,I2,T,st2,f2,R2⟩:=h₂;subst e;obtain⟨W,⟨m0,w0⟩,turn⟩:=R2 s₂.heap.objs.size (I2.hok.fresh (aK _));refine iq (wpAny_newFunctionEnv hcell' (by intro y hy;simp at hy) (λh₁ hns₁ hsb₁=>?_) hkind);dsimp only at hns₁ hsb₁ ⊢;generalize hp:s₂.heap.push { cls:=.type "list", dict:=none,data:=.seq ([]:List aa).toArray }=hpL at hns₁ hsb₁ ⊢;have hsz:hpL.objs.size=s₂.heap.objs.size+1:=by rw[<-hp,cv]
 have I3:Inv X pins σ (upd H2 s₂.heap.objs.size (.lst [])) { s₂ with heap:=hpL }:=by rw[<-hp];exact I2.laid (t':=s₂.toks) (λb u e=>aG _ e) (aK _) ⟨bZ _,[],0,.nil,ba _ rfl⟩
 have old:∀b o,hpL.get? b=some o->h₁.get? b=some o:=λb o e=>hsb₁.extBut b o (aU (aM e)) (aG _ e);have older:∀b o,s₂.heap.get? b=some o->hpL.get? b=some o:=λb o e=>by rw[<-hp];exact aG _ e
 have hfpS:∀b∈fp,b<s₂.heap.objs.size:=λb hb=>let ⟨o,e,_⟩:=T.obj _ _ st2 b hb;aM e;have sub:∀x c,(tG X.env.cells scope.names).lookup x=some c->X.env.cells.lookup x=some c:=Fi scope.names [] hcl (λx c e=>by cases e);have ok':(qd X N' scope (tG X.env.cells scope.names) hpL.objs.size fp { s₂ with heap:=hpL } (upd H2 s₂.heap.objs.size (.lst []))).Ok:={
  mod:=I3.ok.mod
  kind:=hkind
  glob:=I3.ok.glob
  blt:=I3.ok.blt
  above:=aK _
  inj:=λx y c h1 h2=>I3.ok.inj x y c (sub x c h1) (sub y c h2)
  has:=λx hx=>Bu scope.names [] x (GW hcell' hx)
  cab:=λx c hf _=>ao (show false=true from hf) bb
  hd:=I3.ok.hd
  frames:=I3.ok.frames
  stk:=.inl rfl
  exf:=λb hb=>⟨(by
   show b≠hpL.objs.size;rw[hsz];exact aU (cP (hfpS b hb))),λx c e=>(f2 b hb).2.2.2.2.1 x c (sub x c e)⟩
  bs:=I3.bs
  bsz:=bQ I3.ok.bsz I3.sz
  noex:=λb o e hb=>by
   rcases(f2 b hb).2.2.2.1 with z|z
   ·exact I3.ok.noex b o e z
   ·exact ao (bR (aM e) (bQ I3.ok.bsz z)) (cU _)
  exfs:=λb hb z=>(aL.mp (I3.stkSub b z)).elim (f2 b hb).2.1 (f2 b hb).2.2.1
  funs:=I3.stack
  frf:=I3.stkFree }
 have IX:Inv (qd X N' scope (tG X.env.cells scope.names) hpL.objs.size fp { s₂ with heap:=hpL } (upd H2 s₂.heap.objs.size (.lst []))) [] (rW k cap σ) (upd H2 s₂.heap.objs.size (.lst []))
   { s₂ with heap:=h₁,toks:=s₂.toks+([]:List (Str×aa)).length }:={
  ok:=ok'
  os:=rfl
  bare:=I3.bare
  base:=Un.kept old
  loc:=⟨_,hns₁,λi x v e1 e2 _=>by
   obtain⟨j,hj,hσ,hm⟩:=JJ hcap e1 e2;have hx:scope.names.lookup x=some .free:=by simpa using bw.mp hcf x hm
   have hk:=hfree' (x,.free) (mem_of_lookup hx) rfl;obtain⟨m,hn,hl⟩:=I3.loc;obtain⟨u,r,lk⟩:=hl j x v hj hσ (hk.elim (λz=>.inr (.inl z)) λz=>.inr (.inr z));refine⟨u,r,.inr ⟨CJ hx,?_⟩⟩;rcases lk with ⟨z,_⟩|⟨_,c,e,o,ho,hd⟩
   ·rcases hk with y|y
    ·rw[y]at z;cases z
    ·rw[y]at z;cases z
   ·obtain⟨c',e'⟩:=Bu (cells:=X.env.cells) scope.names [] x (mem_of_lookup hx);have ec:=sub x c' e';rw[e]at ec;have ec':c=c':=bP ec;subst ec';exact⟨c,e',o,old _ _ ho,hd⟩⟩
  cell:=λx c e=>by obtain⟨v,o,ho,hd⟩:=I3.cell x c (sub x c e);exact⟨v,o,old _ _ ho,hd⟩
  free:=I3.hok.fresh (aK _)
  freeC:=λx c e=>I3.freeC x c (sub x c e)
  pin:=λp hp=>ao (show p∈([]:bW) from hp) (by simp)
  hok:=I3.hok.kept old
  len:=by
   show (rW k cap σ).length=N'.length;rw[hlen];unfold rW;rw[aJ,cg,ah] }
 have stat:∀{H':Hp},(∀b∈fp,H' b=none)->∀b∈fp,CD (qd X N' scope (tG X.env.cells scope.names) hpL.objs.size fp { s₂ with heap:=hpL } (upd H2 s₂.heap.objs.size (.lst []))) [] H' b:=λhn b hb=>⟨hn b hb,(ok'.exf b hb).1,ok'.exfs b hb,.inl hb,(ok'.exf b hb).2,λp hp=>ao (show p∈([]:bW) from hp) (by simp)⟩
 have st4:tn 0 h₁:=T.keep _ _ _ st2 λb _ o e=>old b o (older b o e);have loop:codeAny (model X.prog X.w) X.A (.compLoop (.ListComp elt [⟨tg,iter,ifs,0⟩] scope pos) 0 (.ref ita) (.ref s₂.heap.objs.size) (compEnvC scope (tG X.env.cells scope.names) hpL.objs.size X.env))
   (compPost (model X.prog X.w) X.A X.xe use P (.ref s₂.heap.objs.size) hpL.objs.size) { s₂ with heap:=h₁,toks:=s₂.toks+([]:List (Str×aa)).length }:=by
  refine Ej (λn s'=>∃i acc H',Inv (qd X N' scope (tG X.env.cells scope.names) hpL.objs.size fp { s₂ with heap:=hpL } (upd H2 s₂.heap.objs.size (.lst []))) [] (rW k cap σ) H' s'/\tn i s'.heap/\(∀b∈fp,H' b=none)/\W i n acc H')
   ?_ m0 ⟨0,[],_,IX,st4,λb hb=>?_,w0⟩
  ·rintro n s3 ⟨i,acc,H3,I4,st3,fr3,w3⟩;rcases turn i n acc H3 w3 with ⟨stop,qn⟩|⟨go,step⟩
   ·refine thn (T.done (qd X N' scope (tG X.env.cells scope.names) hpL.objs.size fp { s₂ with heap:=hpL } (upd H2 s₂.heap.objs.size (.lst []))) rfl rfl rfl hc i [] s3 _ H3 _ I4 (stat fr3) st3 stop) λr s4 ⟨hr,I5⟩=>?_;subst hr;obtain⟨m,hn,_⟩:=id I5.loc;have U:=I5.base;refine fin _ _ m _ _ _ hn (I3.call' (s':=s4) (ch:=fp) I5.os ⟨λb o e n hb hx=>U.keep b o e n hb hx,λb o e n hb hx=>U.slot b o e n hb hx,U.free,λb o e hx=>U.there b o e hx,U.tups,U.frzs,U.tbls⟩ I5.hok I5.bare
     λb hb=>⟨(f2 b hb).2.2.2.1,(f2 b hb).2.1,(f2 b hb).2.2.2.2.1,(f2 b hb).2.2.2.2.2⟩) (I3.fpOk (aK _) I5.free) qn
   ·refine thn (T.item (qd X N' scope (tG X.env.cells scope.names) hpL.objs.size fp { s₂ with heap:=hpL } (upd H2 s₂.heap.objs.size (.lst []))) rfl rfl rfl hc i [] s3 _ H3 _ I4 (stat fr3) st3 go) λr s4 ⟨u,hr,h4⟩=>?_;subst hr;refine thn h4 λ_ s5 ⟨x,H5,I5,r5,y5,st5,fr5⟩=>?_;have I5':=I5.pinned (stat fr5) (T.obj _ _ st5);have again:∀{H8:Hp} {s8:af} {σ8:St} {acc8:bh} {m':Nat},Inv (qd X N' scope (tG X.env.cells scope.names) hpL.objs.size fp { s₂ with heap:=hpL } (upd H2 s₂.heap.objs.size (.lst []))) ([]++Bj fp s5.heap) σ8 H8 s8->σ8.drop k=(rW k cap σ).drop k->m'<n->W (i+1) m' acc8 H8->
      ∃m,m<n/\∃i acc H',Inv (qd X N' scope (tG X.env.cells scope.names) hpL.objs.size fp { s₂ with heap:=hpL } (upd H2 s₂.heap.objs.size (.lst []))) [] (rW k cap σ) H' s8/\tn i s8.heap/\(∀b∈fp,H' b=none)/\W i m acc H':=λ{H8 s8 σ8 acc8 m'} I8 hd8 hm8 w8=>by
     refine⟨m',hm8,i+1,acc8,H8,I8.unpinned.weak (IX.len.trans I8.len.symm) (λj v e=>?_),T.keep _ _ _ st5 λb hb o e=>(I8.pin (b,o) (bO _ (bO _ (ua hb e)))).1,λb hb=>?_,w8⟩
     ·have hj:=Dj e;have q:(σ8.drop k)[j - k]?=((rW k cap σ).drop k)[j - k]?:=by rw[hd8]
      rw[dB,dB,show k+(j - k)=j by omega]at q;rw[q];exact e
     ·obtain⟨o,e,d⟩:=T.obj _ _ st5 b hb;exact(I8.pin (b,o) (bO _ (bO _ (ua hb e)))).2.1
    refine bM ((body _ _ _ _ _).1 _ s5 _ H5 x u _ I5' r5 (step x H5 y5)) (λ_ s6 h6=>?_) λ_ _ f=>f.elim;obtain⟨σ6,H6,I6,hd6,q6⟩:=h6;refine bM ((body _ _ _ _ _).2.1 _ s6 σ6 H6 _ I6 q6) (λb s7 h7=>?_) λ_ _ f=>f.elim;obtain⟨H7,I7,q7⟩:=h7;cases b with
    |false=>rw[ak bb]at q7;rw[ak bb];obtain⟨m',hm',w7⟩:=q7;exact again I7 hd6 hm' w7
    |true=>rw[aj rfl]at q7;rw[aj rfl];refine bM ((body _ _ _ _ _).2.2 _ s7 σ6 H7 _ I7 q7) (λyv s8 h8=>?_) λ_ _ f=>f.elim;obtain⟨y,H8,I8,r8,acc',hp8,hl8,m',hm',w8⟩:=h8;refine bM (zD (X:=qd X N' scope (tG X.env.cells scope.names) hpL.objs.size fp { s₂ with heap:=hpL } (upd H2 s₂.heap.objs.size (.lst []))) _ s8 σ6 H8 (.ref s₂.heap.objs.size) [y] (.ref s₂.heap.objs.size) [yv] (λ_ Hx=>Hx=upd H8 s₂.heap.objs.size (.lst (acc'++[y]))) I8 rfl (.cons r8 .nil) ⟨_,acc',y,rfl,rfl,hp8,hl8,rfl⟩) (λ_ s9 h9=>?_) λ_ _ f=>f.elim;obtain⟨_,H9,I9,_,e9⟩:=h9;subst e9;exact again I9 hd6 hm' w8
  ·have z:b≠s₂.heap.objs.size:=aU (hfpS b hb);rw[oo z];exact(f2 b hb).1
 exact codeAny_compStart_list loop (T.self _ 0 _ _ _ st4 loop)
theorem OA{k:Nat}{cap:List Nat}{g:TG}
  (hc:X.calm=true) (hi:PI X tg iter wi)
  (body:∀(cl:List (Str×Addr)) (C:Addr) (fp:List Addr) (s:af) (H:Hp),PG (qd X N' scope cl C fp s H) tg g/\PIf (qd X N' scope cl C fp s H) ifs tt/\PE (qd X N' scope cl C fp s H) elt te)
  (hkind:scope.kind=.function:=by rfl) (hcell:(scope.names.all λy=>y.2 != .cell)=true:=by rfl)
  (hloc:(scope.names.all λy=>y.2 != .local||scope.names.lookup y.1==some .local)=true:=by rfl)
  (hfree:(scope.names.all λy=>y.2 != .free||(X.env.kindOf y.1==some .cell||X.env.kindOf y.1==some .free))=true:=by rfl)
  (hlen:N'.length=k+cap.length:=by rfl) (hcap:(N'.drop k).map some=cap.map λj=>X.N[j]?:=by rfl)
  (hcf:((N'.drop k).all λx=>scope.names.lookup x==some .free)=true:=by rfl)
  (hs:∀x,foldedSetIterable iter X.env x=pure x:=by intro _;rfl):
  PE X (.ListComp elt [⟨tg,iter,ifs,0⟩] scope pos) (Bv wi g tt te k cap):=by
 intro pins s σ H Q I h;exact Dk hc hi body hkind hcell hloc hfree hlen hcap hcf hs I h λa C m u s4 H3 hn back fpC qn=>⟨m,hn,λh' hs'=>⟨.ref a,H3,back.turned (t':=s4.toks) (λb o hb e=>(hs'.2 b hb).trans e) fpC.1 fpC.2.1 fpC.2.2.2.1 fpC.2.2.2.2.1 fpC.2.2.2.2.2,rfl,qn⟩⟩
def Its(x:Str):It:=⟨λi _=>i<x.cps.size,λi H v H'=>H'=H/\∃c,x.cps[i]?=some c/\v=.str ⟨#[c]⟩,λi _=>i=x.cps.size⟩
theorem RS{M:Model}{A:aH}{E:aa->af->Prop}{s:af}{it:Addr}{c:Str}{t:Tok}{Q:Unit->af->Prop}(hQ:Q () s):wpAny M A (letOwnedTupleGo tg (.ref it) (.str c t)) Q E s:=by unfold letOwnedTupleGo;cases tg<;>exact aB hQ
theorem Fj{P:aD}{w:aw}{K:ar}(it:Addr)(ty:String)(x:Str)(t:Tok)
  (hW:∀A:aH,A.handled=none->Walks P w A it [it] [it] x.cps.size (SignAt x) (λi h=>h.IsStrIter it ty x t i))
  (hS:∀(A:aH) (i:Nat) (s:af) (Q:aa->af->Prop) (E:aa->af->Prop),s.heap.IsStrIter it ty x t i->Q (.ref it) s->wpAny (model P w) A (pyIter (.ref it)) Q E s):
  Turn P w K tg (Its x) [it] it (λi h=>h.IsStrIter it ty x t i) where
 mem:=by simp
 obj:=λi h st b hb=>by
  have e:b=it:=by simpa using hb
  subst e;obtain⟨o,e,c,d⟩:=st;exact⟨o,e,λv z=>by rw[d]at z;cases z⟩
 keep:=λi h h' st k=>by obtain⟨o,e,r⟩:=st;exact⟨o,k it (by simp) o e,r⟩
 item:=by intro X hP hw hK hc i pins s σ H E I hf st hg;subst hP hw hK;obtain⟨f0,f1,f2,f3,f4,f5⟩:=hf it (by simp);refine(hW _ (I.ok.hd hc)).item i s _ _ hg st λv h' tk hv st' kk=>?_;obtain⟨c,t',hc',rfl⟩:=hv;have I1:Inv X pins σ H { s with heap:=h',toks:=tk }:=I.turned (λb o hb e=>kk b o (by simpa using hb) e) f0 f1 f3 f4 f5;exact⟨_,rfl,RS ⟨.str ⟨#[c]⟩,H,I1,⟨t',rfl⟩,⟨rfl,c,hc',rfl⟩,st',λb hb=>(hf b hb).1⟩⟩
 done:=by intro X hP hw hK hc i pins s σ H E I hf st hg;subst hP hw hK;obtain⟨f0,f1,f2,f3,f4,f5⟩:=hf it (by simp);have hg':i=x.cps.size:=hg;subst hg';exact(hW _ (I.ok.hd hc)).done s _ _ st λh' tk kk=>⟨rfl,I.turned (λb o hb e=>kk b o (by simpa using hb) e) f0 f1 f3 f4 f5⟩
 self:=hS
variable{tl:TE}
section
variable{X:Cx}{tg:Expr}
def VR(tl:TE):TI:=λσ H R=>tl σ H λv H1=>∃x,v=.str x/\R (Its x) H1
theorem RT{l:Expr}(hl:PE X l tl):PI X tg l (VR tl):=by
 intro pins s σ H R I h;refine thn (hl pins s σ H _ I h) λv s1 ⟨x,H1,I1,r1,q1⟩=>?_;obtain⟨z,e,q⟩:=q1;subst e;obtain⟨t,rfl⟩:=r1;have fp:∀b∈[s1.heap.objs.size],CD X pins H1 b:=λb hb=>by
  have e:b=s1.heap.objs.size:=by simpa using hb
  subst e;exact I1.fpOk (aK _) (I1.hok.fresh (aK _))
 cases ha:z.cps.all (· < 128)
 ·refine wpAny_pyIter_wide ha ⟨s1.heap.objs.size,[s1.heap.objs.size],_,_,H1,rfl,I1.kept (t':=s1.toks) λb o e=>aG _ e,Fj _ "str_iterator" z t (λA hA=>Walks.strWide hA _ z t) (λA i s Q E st hQ=>wpAny_pyIter_striter_wide st hQ),⟨_,ba _ rfl,rfl,rfl⟩,fp,q⟩
 ·refine wpAny_pyIter_ascii ha ⟨s1.heap.objs.size,[s1.heap.objs.size],_,_,H1,rfl,I1.kept (t':=s1.toks) λb o e=>aG _ e,Fj _ "str_ascii_iterator" z t (λA hA=>Walks.strAscii hA _ z t) (λA i s Q E st hQ=>wpAny_pyIter_striter_ascii st hQ),⟨_,ba _ rfl,rfl,rfl⟩,fp,q⟩
end
section
variable{X:Cx}
theorem JK:OpR X (compareOp .LtE) (λx y H Q=>∃i j,x=.str i/\y=.str j/\Q (.bl (!decide (j.cps.toList<i.cps.toList))) H):=by intro pins s σ H x y v u Q I rx ry h;obtain⟨i,j,rfl,rfl,q⟩:=h;obtain⟨t,rfl⟩:=rx;obtain⟨t',rfl⟩:=ry;exact PySem.P.le_str (pf I q rfl)
theorem Ll(hc:X.calm=true):qf X (.builtin "all") (λxs H Q=>∃(p:Addr) (bs:List Bool),xs=[.ref p]/\SqL X.K H p (bs.map V.bl)/\Q (.bl (bs.all id)) H):=by
 intro pins s σ H xs us Q I r h;obtain⟨p,bs,rfl,hq,q⟩:=h;obtain⟨u,rfl,ru⟩:=vals1 r;cases ru;obtain⟨its,rv,pl,hz⟩:=I.list hq;have hlt:p<s.heap.objs.size:=by obtain⟨o,ho,_⟩:=pl.isList;exact aM ho
 have hl:bs.length=its.length:=by have:=rv.length;rw[ah]at this;exact this
 refine call_all_walk (eS pl.isList ⟨s.heap.objs.size,_,_,_,_,_,λi=>(bs[i]?).getD true,rfl,iM (show X.A.in1.handled=none from I.ok.hd hc) _ p (aU hlt) its.toArray,⟨⟨_,ba _ rfl,rfl,rfl⟩,?_⟩,?_,λh' tk hk=>?_⟩)
 ·exact pl.isList.at λo e=>aG _ e
 ·intro i v s' Q' E' hv hQ';have hv':its[i]?=some v:=by simpa using hv
  have hi:i<its.length:=(bN.mp hv').1;have hb:(bs.map V.bl)[i]?=some (.bl (bs[i]'(by omega))):=by simp[show i<bs.length by omega]
  obtain⟨u,hu,ru⟩:=rv.get hb;rw[hv']at hu;cases hu;cases ru;refine cO ?_;have e:(bs[i]?).getD true=bs[i]'(by omega):=by simp[show i<bs.length by omega]
  rw[<-e];exact hQ'
 ·refine⟨.bl (bs.all id),H,?_,?_,q⟩
  ·exact I.kept (t':=tk) λb o e=>hk b o (by simp;exact aU (aM e)) (aG _ e)
  ·show Value.bool _=Value.bool _;congr 1;rw[aX,<- hl];rw[cD];simp only[bw,bY,id];constructor
   ·intro hh b hb;obtain⟨i,hi,rfl⟩:=jo.mp hb;have:=hh i hi;simpa [hi]using this
   ·intro hh i hi;simp only[aS hi,mI];exact hh _ (eW hi)
end
inductive Dq where
 |non|bl (b:Bool)|int (i:Int)|str (x:Str)|tup (ds:List Dq)|lst (ds:List Dq)
mutual
def Rep(K:ar)(H:Hp):Dq->V->Prop
 |.non,v=>v=.non
 |.bl b,v=>v=.bl b
 |.int i,v=>v=.int i
 |.str x,v=>v=.str x
 |.tup ds,v=>∃a xs,v=.ref a/\SqT K H a xs/\oi K H ds xs
 |.lst ds,v=>∃a xs,v=.ref a/\SqL K H a xs/\oi K H ds xs
def oi(K:ar)(H:Hp):List Dq->bh->Prop
 |[],xs=>xs=[]
 |d::ds,xs=>∃v r,xs=v::r/\Rep K H d v/\oi K H ds r
end
mutual
def eqD:Dq->Dq->Bool
 |.non,.non=>true
 |.bl a,.bl b=>a==b
 |.bl a,.int b=>(if a then 1 else 0)==b
 |.int a,.bl b=>a==(if b then 1 else 0)
 |.int a,.int b=>a==b
 |.str a,.str b=>a==b
 |.tup a,.tup b=>u9 a b
 |.lst a,.lst b=>u9 a b
 |_,_=>false
def u9:List Dq->List Dq->Bool
 |[],[]=>true
 |a::r,b::q=>eqD a b&&u9 r q
 |_,_=>false
end
mutual
def dpt:Dq->Nat
 |.tup ds=>qo ds+1
 |.lst ds=>qo ds+1
 |_=>0
def qo:List Dq->Nat
 |[]=>0
 |d::r=>max (dpt d) (qo r)
end
mutual
theorem Fk:∀d:Dq,eqD d d=true
 |.non=>by unfold eqD;rfl
 |.bl b=>by unfold eqD;simp
 |.int i=>by unfold eqD;simp
 |.str x=>by unfold eqD;simp
 |.tup ds=>by unfold eqD;exact zF ds
 |.lst ds=>by unfold eqD;exact zF ds
theorem zF:∀ds:List Dq,u9 ds ds=true
 |[]=>by unfold u9;rfl
 |d::r=>by unfold u9;rw[Fk d,zF r];rfl
end
theorem om{K:ar}{H:Hp}:∀{ds:List Dq} {xs:bh},oi K H ds xs->ds.length=xs.length
 |[],xs,h=>by unfold oi at h;subst h;rfl
 |d::ds,xs,h=>by unfold oi at h;obtain⟨v,r,rfl,_,h2⟩:=h;rw[aI,aI,om h2]
def eAt(ds ds':List Dq)(j:Nat):Bool:=match ds[j]?,ds'[j]? with
 |some a,some b=>eqD a b
 |_,_=>true
theorem Bw:∀(ds ds':List Dq),u9 ds ds'=true ↔ ds.length=ds'.length/\∀j,j<ds.length->eAt ds ds' j=true
 |[],[]=>by simp[u9]
 |[],b::q=>by simp[u9]
 |a::r,[]=>by simp[u9]
 |a::r,b::q=>by
  have ih:=Bw r q;unfold u9;rw[aY,ih,aI,aI];constructor
  ·rintro⟨h1,h2,h3⟩;refine⟨by omega,λj hj=>?_⟩;cases j with
   |zero=>exact h1
   |succ j=>exact h3 j (by omega)
  ·rintro⟨h1,h2⟩;exact⟨h2 0 (by omega),by omega,λj hj=>h2 (j+1) (by omega)⟩
variable{ds ds':List Dq}
theorem vJ{n m:Nat}(hn:ds.length=n)(hm:ds'.length=m):((br (min n m)).all (eAt ds ds')&&n==m)=u9 ds ds':=by
 rw[cD,Bw,aY,bw];subst hn hm;constructor
 ·rintro⟨h1,h2⟩;have e:ds.length=ds'.length:=by simpa using h2
  exact⟨e,λj hj=>h1 j (bY.mpr (by omega))⟩
 ·rintro⟨e,h⟩;exact⟨λj hj=>h j (by have:=bY.mp hj;omega),by simpa using e⟩
theorem wI{n:Nat}(hn:ds.length=n)(hm:ds'.length=n):(br n).all (eAt ds ds')=u9 ds ds':=by rw[<-vJ hn hm];simp
theorem Bx(h:ds.length≠ds'.length):u9 ds ds'=false:=by
 cases e:u9 ds ds' with
 |false=>rfl
 |true=>exact ao ((Bw ds ds').mp e).1 h
section
variable{X:Cx}{pins:bW}{σ:St}{H:Hp}{s:af}
theorem QO(I:Inv X pins σ H s){a:Addr}{xs ys:bh}(h:SqL X.K H a xs)(h':SqT X.K H a ys):False:=by obtain⟨its,_,p,_⟩:=I.list h;obtain⟨its',_,p',_⟩:=I.tuple h';exact SeqAt.ne_of_list_tuple p.isList (show s.heap.IsTuple a its'.toArray from p') rfl
mutual
theorem By(I:Inv X pins σ H s):∀(d d':Dq) (v:V),Rep X.K H d v->Rep X.K H d' v->eqD d d'=true
 |.non,d',v,h,h'=>by unfold Rep at h;subst h;cases d'<;>unfold Rep at h'<;>first|rfl|(exact nomatch h')|(obtain⟨_,_,e,_⟩:=h';exact nomatch e)
 |.bl b,d',v,h,h'=>by unfold Rep at h;subst h;cases d'<;>unfold Rep at h'<;>first|(obtain⟨_,_,e,_⟩:=h';cases e)|(cases h'<;>simp[eqD])
 |.int b,d',v,h,h'=>by unfold Rep at h;subst h;cases d'<;>unfold Rep at h'<;>first|(obtain⟨_,_,e,_⟩:=h';cases e)|(cases h'<;>simp[eqD])
 |.str b,d',v,h,h'=>by unfold Rep at h;subst h;cases d'<;>unfold Rep at h'<;>first|(obtain⟨_,_,e,_⟩:=h';cases e)|(cases h'<;>simp[eqD])
 |.tup ds,d',v,h,h'=>by
  unfold Rep at h;obtain⟨a,xs,rfl,hq,hr⟩:=h;cases d' with
  |tup ds'=>unfold Rep at h';obtain⟨a',xs',e,hq',hr'⟩:=h';cases e;have ex:=I.tuple_inj hq hq';subst ex;unfold eqD;exact zG I ds ds' xs hr hr'
  |lst ds'=>unfold Rep at h';obtain⟨a',xs',e,hq',hr'⟩:=h';cases e;exact(QO I hq' hq).elim
  |_=>unfold Rep at h';exact nomatch h'
 |.lst ds,d',v,h,h'=>by
  unfold Rep at h;obtain⟨a,xs,rfl,hq,hr⟩:=h;cases d' with
  |lst ds'=>unfold Rep at h';obtain⟨a',xs',e,hq',hr'⟩:=h';cases e;have ex:=I.list_inj hq hq';subst ex;unfold eqD;exact zG I ds ds' xs hr hr'
  |tup ds'=>unfold Rep at h';obtain⟨a',xs',e,hq',hr'⟩:=h';cases e;exact(QO I hq hq').elim
  |_=>unfold Rep at h';exact nomatch h'
theorem zG(I:Inv X pins σ H s):∀(ds ds':List Dq) (xs:bh),oi X.K H ds xs->oi X.K H ds' xs->u9 ds ds'=true
 |[],ds',xs,h,h'=>by
  unfold oi at h;subst h;cases ds' with
  |nil=>rfl
  |cons d r=>unfold oi at h';obtain⟨_,_,e,_⟩:=h';exact nomatch e
 |d::ds,ds',xs,h,h'=>by
  unfold oi at h;obtain⟨v,r,rfl,h1,h2⟩:=h;cases ds' with
  |nil=>unfold oi at h';exact nomatch h'
  |cons d' r'=>unfold oi at h';obtain⟨v',q,e,h1',h2'⟩:=h';cases e;unfold u9;rw[By I d d' v h1 h1',zG I ds r' r h2 h2'];rfl
end
mutual
theorem RU(I:Inv X pins σ H s):∀(d d':Dq) (x y:V) (u v:aa) (A:aH),Rep X.K H d x->Rep X.K H d' y->RelV x u->RelV y v->A.units+dpt d+dpt d'<cLine->iK A s u v (eqD d d')
 |.tup ds,d',x,y,u,v,A,hx,hy,ru,rv,hu=>by
  unfold Rep at hx;obtain⟨a,xs,rfl,hq,hr⟩:=hx;cases ru;obtain⟨its,rx,p,_⟩:=I.tuple hq;have p:s.heap.IsTuple a its.toArray:=p;cases d' with
  |non=>unfold Rep at hy;subst hy;cases rv;exact SeqAt.EqAt.tuple_none p (by omega)
  |bl b=>unfold Rep at hy;subst hy;cases rv;exact SeqAt.EqAt.tuple_bool b p (by omega)
  |int b=>unfold Rep at hy;subst hy;obtain⟨t,rfl⟩:=rv;exact SeqAt.EqAt.tuple_int b t p (by omega)
  |str b=>unfold Rep at hy;subst hy;obtain⟨t,rfl⟩:=rv;exact SeqAt.EqAt.tuple_str b t p (by omega)
  |lst ds'=>unfold Rep at hy;obtain⟨b,ys,rfl,hq',hr'⟩:=hy;cases rv;obtain⟨its',ry,p',_⟩:=I.list hq';exact SeqAt.EqAt.tuple_list p p'.isList (by omega)
  |tup ds'=>
   have hy0:=hy;unfold Rep at hy;obtain⟨b,ys,rfl,hq',hr'⟩:=hy;cases rv;obtain⟨its',ry,p',_⟩:=I.tuple hq';have p':s.heap.IsTuple b its'.toArray:=p';by_cases hab:a=b
   ·subst hab;have e:eqD (.tup ds) (.tup ds')=true:=By I _ _ (.ref a) (by unfold Rep;exact⟨a,xs,rfl,hq,hr⟩) hy0;rw[e];exact jG _
   ·have hd:dpt (.tup ds)=qo ds+1:=by rw[dpt]
    have hd':dpt (.tup ds')=qo ds'+1:=by rw[dpt]
    have q:=SeqAt.RcAt.tuples (A:=A) (e:=eAt ds ds') p p' (by omega) λj h1 h2=>by have z:=vK I ds ds' xs ys its its' A.in1 hr hr' rx ry (by show A.units+1+qo ds+qo ds'<cLine;omega) j (by simpa using h1) (by simpa using h2);simpa using z
    rw[vJ (by rw[om hr,rx.length];simp) (by rw[om hr',ry.length];simp)]at q;exact jB hab (by unfold eqD;exact q)
 |.lst ds,d',x,y,u,v,A,hx,hy,ru,rv,hu=>by
  unfold Rep at hx;obtain⟨a,xs,rfl,hq,hr⟩:=hx;cases ru;obtain⟨its,rx,p,_⟩:=I.list hq;have p:=p.isList;cases d' with
  |non=>unfold Rep at hy;subst hy;cases rv;exact SeqAt.EqAt.list_none p (by omega)
  |bl b=>unfold Rep at hy;subst hy;cases rv;exact SeqAt.EqAt.list_bool b p (by omega)
  |int b=>unfold Rep at hy;subst hy;obtain⟨t,rfl⟩:=rv;exact SeqAt.EqAt.list_int b t p (by omega)
  |str b=>unfold Rep at hy;subst hy;obtain⟨t,rfl⟩:=rv;exact SeqAt.EqAt.list_str b t p (by omega)
  |tup ds'=>unfold Rep at hy;obtain⟨b,ys,rfl,hq',hr'⟩:=hy;cases rv;obtain⟨its',ry,p',_⟩:=I.tuple hq';exact SeqAt.EqAt.list_tuple p (show s.heap.IsTuple b its'.toArray from p') (by omega)
  |lst ds'=>
   have hy0:=hy;unfold Rep at hy;obtain⟨b,ys,rfl,hq',hr'⟩:=hy;cases rv;obtain⟨its',ry,p',_⟩:=I.list hq';have p':=p'.isList;by_cases hab:a=b
   ·subst hab;have e:eqD (.lst ds) (.lst ds')=true:=By I _ _ (.ref a) (by unfold Rep;exact⟨a,xs,rfl,hq,hr⟩) hy0;rw[e];exact jG _
   ·have hd:dpt (.lst ds)=qo ds+1:=by rw[dpt]
    have hd':dpt (.lst ds')=qo ds'+1:=by rw[dpt]
    by_cases hl:its.length=its'.length
    ·have q:=SeqAt.RcAt.lists (A:=A) (e:=eAt ds ds') p p' (by simpa using hl) (by omega) λj h1 h2=>by have z:=vK I ds ds' xs ys its its' A.in1 hr hr' rx ry (by show A.units+1+qo ds+qo ds'<cLine;omega) j (by simpa using h1) (by simpa using h2);simpa using z
     rw[wI (by rw[om hr,rx.length];simp) (by rw[om hr',ry.length,<- hl];simp)]at q;exact jB hab (by unfold eqD;exact q)
    ·have e:eqD (.lst ds) (.lst ds')=false:=by unfold eqD;exact Bx (by rw[om hr,om hr',rx.length,ry.length];exact hl)
     rw[e];exact jB hab (SeqAt.RcAt.lists_lengths p p' (by simpa using hl) (by omega))
 |.non,d',x,y,u,v,A,hx,hy,ru,rv,hu=>by
  unfold Rep at hx;subst hx;cases d' with
  |tup ds'=>unfold Rep at hy;obtain⟨b,ys,rfl,hq',hr'⟩:=hy;cases rv;cases ru;obtain⟨its',ry,p',_⟩:=I.tuple hq';exact SeqAt.EqAt.none_tuple (show s.heap.IsTuple b its'.toArray from p') (by omega)
  |lst ds'=>unfold Rep at hy;obtain⟨b,ys,rfl,hq',hr'⟩:=hy;cases rv;cases ru;obtain⟨its',ry,p',_⟩:=I.list hq';exact SeqAt.EqAt.none_list p'.isList (by omega)
  |_=>unfold Rep at hy;subst hy;exact Bp ru rv rfl rfl
 |.bl c,d',x,y,u,v,A,hx,hy,ru,rv,hu=>by
  unfold Rep at hx;subst hx;cases d' with
  |tup ds'=>unfold Rep at hy;obtain⟨b,ys,rfl,hq',hr'⟩:=hy;cases rv;cases ru;obtain⟨its',ry,p',_⟩:=I.tuple hq';exact SeqAt.EqAt.bool_tuple c (show s.heap.IsTuple b its'.toArray from p') (by omega)
  |lst ds'=>unfold Rep at hy;obtain⟨b,ys,rfl,hq',hr'⟩:=hy;cases rv;cases ru;obtain⟨its',ry,p',_⟩:=I.list hq';exact SeqAt.EqAt.bool_list c p'.isList (by omega)
  |_=>unfold Rep at hy;subst hy;exact Bp ru rv rfl rfl
 |.int c,d',x,y,u,v,A,hx,hy,ru,rv,hu=>by
  unfold Rep at hx;subst hx;cases d' with
  |tup ds'=>unfold Rep at hy;obtain⟨b,ys,rfl,hq',hr'⟩:=hy;cases rv;obtain⟨t,rfl⟩:=ru;obtain⟨its',ry,p',_⟩:=I.tuple hq';exact SeqAt.EqAt.int_tuple c t (show s.heap.IsTuple b its'.toArray from p') (by omega)
  |lst ds'=>unfold Rep at hy;obtain⟨b,ys,rfl,hq',hr'⟩:=hy;cases rv;obtain⟨t,rfl⟩:=ru;obtain⟨its',ry,p',_⟩:=I.list hq';exact SeqAt.EqAt.int_list c t p'.isList (by omega)
  |_=>unfold Rep at hy;subst hy;exact Bp ru rv rfl rfl
 |.str c,d',x,y,u,v,A,hx,hy,ru,rv,hu=>by
  unfold Rep at hx;subst hx;cases d' with
  |tup ds'=>unfold Rep at hy;obtain⟨b,ys,rfl,hq',hr'⟩:=hy;cases rv;obtain⟨t,rfl⟩:=ru;obtain⟨its',ry,p',_⟩:=I.tuple hq';exact SeqAt.EqAt.str_tuple c t (show s.heap.IsTuple b its'.toArray from p') (by omega)
  |lst ds'=>unfold Rep at hy;obtain⟨b,ys,rfl,hq',hr'⟩:=hy;cases rv;obtain⟨t,rfl⟩:=ru;obtain⟨its',ry,p',_⟩:=I.list hq';exact SeqAt.EqAt.str_list c t p'.isList (by omega)
  |_=>unfold Rep at hy;subst hy;exact Bp ru rv rfl rfl
theorem vK(I:Inv X pins σ H s):∀(ds ds':List Dq) (xs ys:bh) (us vs:List aa) (A:aH),oi X.K H ds xs->oi X.K H ds' ys->Vals xs us->Vals ys vs->A.units+qo ds+qo ds'<cLine->
  ∀(j:Nat) (h1:j<us.length) (h2:j<vs.length),iK A s us[j] vs[j] (eAt ds ds' j)
 |[],ds',xs,ys,us,vs,A,hx,hy,ru,rv,hu,j,h1,h2=>by
  have:=om hx;have:=ru.length;simp only[f6]at *
  omega
 |d::ds,[],xs,ys,us,vs,A,hx,hy,ru,rv,hu,j,h1,h2=>by
  have:=om hy;have:=rv.length;simp only[f6]at *
  omega
 |d::ds,d'::ds',xs,ys,us,vs,A,hx,hy,ru,rv,hu,j,h1,h2=>by
  unfold oi at hx hy;obtain⟨x,xr,rfl,hx1,hx2⟩:=hx;obtain⟨y,yr,rfl,hy1,hy2⟩:=hy;have e1:qo (d::ds)=max (dpt d) (qo ds):=by rw[qo]
  have e2:qo (d'::ds')=max (dpt d') (qo ds'):=by rw[qo]
  cases ru with
  |cons r1 r2=>
   cases rv with
   |cons q1 q2=>
    cases j with
    |zero=>exact RU I d d' x y _ _ A hx1 hy1 r1 q1 (by omega)
    |succ j=>exact vK I ds ds' xr yr _ _ A hx2 hy2 r2 q2 (by omega) j (by simpa using h1) (by simpa using h2)
end
def Il:Dq->Dq->Bool
 |.tup _,.tup _=>true
 |.lst _,.lst _=>true
 |_,_=>false
def GX(K:ar)(neg:Bool):R2:=λx y H Q=>∃d d',Rep K H d x/\Rep K H d' y/\Il d d'=true/\dpt d<=20/\dpt d'<=20/\Q (.bl (if neg then !eqD d d' else eqD d d')) H
theorem RV(hu:X.A.units+64<cLine):OpR X (compareOp .Eq) (GX X.K false):=by
 intro pins s σ H x y u v Q I ru rv h;obtain⟨d,d',hx,hy,hd,h1,h2,q⟩:=h;cases d with
 |tup ds=>
  cases d' with
  |tup ds'=>
   have hd1:dpt (.tup ds)=qo ds+1:=by rw[dpt]
   have hd2:dpt (.tup ds')=qo ds'+1:=by rw[dpt]
   unfold Rep at hx hy;obtain⟨a,xs,rfl,hq,hr⟩:=hx;obtain⟨b,ys,rfl,hq',hr'⟩:=hy;cases ru;cases rv;obtain⟨its,rx,p,_⟩:=I.tuple hq;obtain⟨its',ry,p',_⟩:=I.tuple hq';refine SeqAt.eq_tupleAt (e:=eAt ds ds') (show s.heap.IsTuple a its.toArray from p) (show s.heap.IsTuple b its'.toArray from p') (by omega) (λj h1 h2=>?_) ?_
   ·have z:=vK I ds ds' xs ys its its' X.A.in1 hr hr' rx ry (by show X.A.units+1+qo ds+qo ds'<cLine;omega) j (by simpa using h1) (by simpa using h2);simpa using z
   ·rw[vJ (by rw[om hr,rx.length];simp) (by rw[om hr',ry.length];simp)];unfold eqD at q;exact pf I q rfl
  |_=>exact nomatch hd
 |lst ds=>
  cases d' with
  |lst ds'=>
   have hd1:dpt (.lst ds)=qo ds+1:=by rw[dpt]
   have hd2:dpt (.lst ds')=qo ds'+1:=by rw[dpt]
   unfold Rep at hx hy;obtain⟨a,xs,rfl,hq,hr⟩:=hx;obtain⟨b,ys,rfl,hq',hr'⟩:=hy;cases ru;cases rv;obtain⟨its,rx,p,_⟩:=I.list hq;obtain⟨its',ry,p',_⟩:=I.list hq';by_cases hl:its.length=its'.length
   ·refine SeqAt.eq_listAt (e:=eAt ds ds') p.isList p'.isList (by simpa using hl) (by omega) (λj h1 h2=>?_) ?_
    ·have z:=vK I ds ds' xs ys its its' X.A.in1 hr hr' rx ry (by show X.A.units+1+qo ds+qo ds'<cLine;omega) j (by simpa using h1) (by simpa using h2);simpa using z
    ·rw[wI (by rw[om hr,rx.length];simp) (by rw[om hr',ry.length,<- hl];simp)];unfold eqD at q;exact pf I q rfl
   ·refine SeqAt.eq_list_lengthsAt p.isList p'.isList (by simpa using hl) (by omega) ?_;have e:u9 ds ds'=false:=Bx (by rw[om hr,om hr',rx.length,ry.length];exact hl);unfold eqD at q;rw[e]at q;exact pf I q rfl
  |_=>exact nomatch hd
 |_=>exact nomatch hd
theorem RW(hu:X.A.units+64<cLine):OpR X (compareOp .NotEq) (GX X.K true):=by
 intro pins s σ H x y u v Q I ru rv h;obtain⟨d,d',hx,hy,hd,h1,h2,q⟩:=h;cases d with
 |tup ds=>
  cases d' with
  |tup ds'=>
   have hd1:dpt (.tup ds)=qo ds+1:=by rw[dpt]
   have hd2:dpt (.tup ds')=qo ds'+1:=by rw[dpt]
   unfold Rep at hx hy;obtain⟨a,xs,rfl,hq,hr⟩:=hx;obtain⟨b,ys,rfl,hq',hr'⟩:=hy;cases ru;cases rv;obtain⟨its,rx,p,_⟩:=I.tuple hq;obtain⟨its',ry,p',_⟩:=I.tuple hq';have w:=SeqAt.RcNeAt.tuples (A:=X.A) (e:=eAt ds ds') (show s.heap.IsTuple a its.toArray from p) (show s.heap.IsTuple b its'.toArray from p') (by omega) (λj h1 h2=>by
    have z:=vK I ds ds' xs ys its its' X.A.in1 hr hr' rx ry (by show X.A.units+1+qo ds+qo ds'<cLine;omega) j (by simpa using h1) (by simpa using h2);simpa using z)
   rw[vJ (by rw[om hr,rx.length];simp) (by rw[om hr',ry.length];simp)]at w;unfold eqD at q;exact w X.prog X.w X.xe _ (pf I q rfl)
  |_=>exact nomatch hd
 |lst ds=>
  cases d' with
  |lst ds'=>
   have hd1:dpt (.lst ds)=qo ds+1:=by rw[dpt]
   have hd2:dpt (.lst ds')=qo ds'+1:=by rw[dpt]
   unfold Rep at hx hy;obtain⟨a,xs,rfl,hq,hr⟩:=hx;obtain⟨b,ys,rfl,hq',hr'⟩:=hy;cases ru;cases rv;obtain⟨its,rx,p,_⟩:=I.list hq;obtain⟨its',ry,p',_⟩:=I.list hq';by_cases hl:its.length=its'.length
   ·have w:=SeqAt.RcNeAt.lists (A:=X.A) (e:=eAt ds ds') p.isList p'.isList (by simpa using hl) (by omega) (λj h1 h2=>by
     have z:=vK I ds ds' xs ys its its' X.A.in1 hr hr' rx ry (by show X.A.units+1+qo ds+qo ds'<cLine;omega) j (by simpa using h1) (by simpa using h2);simpa using z)
    rw[wI (by rw[om hr,rx.length];simp) (by rw[om hr',ry.length,<- hl];simp)]at w;unfold eqD at q;exact w X.prog X.w X.xe _ (pf I q rfl)
   ·have e:u9 ds ds'=false:=Bx (by rw[om hr,om hr',rx.length,ry.length];exact hl);unfold eqD at q;rw[e]at q;exact SeqAt.RcNeAt.lists_lengths p.isList p'.isList (by simpa using hl) (by omega) X.prog X.w X.xe _ (pf I q rfl)
  |_=>exact nomatch hd
 |_=>exact nomatch hd
end
theorem JL{K:ar}{H:Hp}:∀l:aE,oi K H (l.map Dq.str) (l.map V.str)
 |[]=>by rw[bS,bS];unfold oi;rfl
 |x::r=>by rw[ay,ay];unfold oi;exact⟨_,_,rfl,(by unfold Rep;rfl),JL r⟩
theorem zH:∀l:aE,qo (l.map Dq.str)=0
 |[]=>by rw[bS,qo]
 |x::r=>by rw[ay];unfold qo;rw[zH r];unfold dpt;rfl
inductive uB:List Expr->bh->Prop
 |nil:uB [] []
 |cons {x:Str} {j:Nat} {pos:Pos} {es:List Expr} {vs:bh} (h:uB es vs):uB (.Constant (.str x) j pos::es) (.str x::vs)
theorem sF{n:Nat}(h:n<=1000):n<=sizeLine:=eF (xE h)
theorem ox.new{p:Addr}{H H1:Hp}(x:ox H H1)(hp:H1 p=none)(o:HO):ox H (upd H1 p o):=λb u e=>by have z:=x b u e;rw[oo (qW z hp)];exact z
structure JM(K:ar)(x qual:Str)(st:Stmt)(f:Addr)(fd:bD)(T:Addr):Prop where
 ex:∃(oc:aa) (od:Option Addr) (kV doc pm:aa) (an:Option Addr) (cdv ct:aa) (osl:Array (Option aa)),
  fd=dm x qual (rV st) (o8 st) (oE st) (.ref T) kV doc pm an cdv ct/\K.lookup f=some ⟨oc,od,.func fd,osl⟩/\fw K cdv qual=true
 kp:cY K (.ref f)=true
variable{qual:Str}{st:Stmt}{f T:Addr}{fd:bD}{ps:aE}
section
variable{P:aD}{w:aw}{K:ar}{mg:Str->Option aa}{base:Heap}
theorem JM.ok{x:Str}{k:Nat}{sp:Sp}(F:JM K x qual st f fd T)(S:pY N ps (oE st))(len:∀vs H Q E,sp vs H Q E->vs.length=ps.length)
  (hbody:∀(cdv:aa) (A:aH) (outer:List Env) (s:af) (H:Hp) (vs:bh) (Q:VK) (E:XK),qc k (A.deeper (envOfC qual (oE st) s.heap.objs.size f cdv))->sp vs H Q E->
   ∃t,PSs (E5 CX0 P w K mg base N qual (oE st) f cdv A outer s H E).nox (o8 st) t/\t { nx:=λ_ H'=>Q .non H',rt:=Q } (L2.start N vs) H):sE P w K mg base CX0 (k+1) f fd ps sp:=by
 obtain⟨oc,od,kV,doc,pm,an,cdv,ct,osl,rfl,lk,hcd⟩:=F.ex;refine QJ lk hcd S len λA outer s H vs Q E hr hsp=>?_;obtain⟨t,h,q⟩:=hbody cdv A outer s H vs Q E hr hsp;exact⟨t,h.nox,q⟩
end
theorem JM.binds{K:ar}{x:Str}{ds:List aa}{o:Obj}{items:Array aa}{n:Nat}(F:JM K x qual st f fd T)(ho:K.lookup T=some o)(hs:o.data=.seq items n)
  (h:∀(kV doc pm:aa) (an:Option Addr) (cdv ct:aa) (us:List aa),us.length=ps.length - ds.length->∃k,bindArgs (dm x qual (rV st) (o8 st) (oE st) (.ref T) kV doc pm an cdv ct) ⟨us,[]⟩=seqItems? (.ref T)>>=k/\k (some items)=pure (ps.zip (us++ds))):Binds K fd ps ds:=by
 obtain⟨oc,od,kV,doc,pm,an,cdv,ct,osl,rfl,lk,hcd⟩:=F.ex;intro s us KX hl;obtain⟨k,h1,h2⟩:=h kV doc pm an cdv ct us (by rw[aJ]at hl;omega);exact BindsTo.of_defaults (k:=k) rfl (KX _ _ ho) hs h1 h2
section
variable{X:Cx}
theorem GY:OpR X (binaryOp .Mult) (λx y H Q=>∃z n,x=.str z/\y=.int n/\MulOk z n/\Q (.str (gA z n)) H):=by intro pins s σ H x y v u Q I rx ry h;obtain⟨z,n,rfl,rfl,hm,q⟩:=h;obtain⟨t,rfl⟩:=rx;obtain⟨t',rfl⟩:=ry;exact SB.mul hm λt2 k=>⟨.str _,H,I.tok _,⟨t2,rfl⟩,q⟩
end
section
variable{X:Cx}(K:ar)
theorem Lm(hK:X.K=K:=by rfl):IxR X (On K):=by subst hK;exact Ik
theorem Fl{l:Expr}(hl:PE X l tl)(hK:X.K=K:=by rfl):PI X tg l (KR K tl):=by subst hK;exact N7 hl
theorem OB{l:Expr}(hl:PE X l tl)(hK:X.K=K:=by rfl):PI X tg l (Ro K tl):=by subst hK;exact Rp hl
theorem Im{es:List Expr}{k:Nat}{t:TGs}{n:Nat}(hc:X.calm=true)(h:PGs X es t)(hn:(assignEach es X.env).length=n:=by rfl)(hst:(assignEach es X.env).findIdx? (·.1)=none:=by rfl)(hK:X.K=K:=by rfl):PG X (.Tuple es k pos) (N6 K n t):=by subst hK;exact Rl hc h hn hst
variable{o e:Expr}{es:List Expr}{to:TE}{t:TA}{name:Str}{apos cpos:Pos}{T id:String}{r:V->bh->Hp->VK->Prop}
theorem Ln(pa:ky T)(slot:Slot T name id)(hty:typeOf (.builtin id)=pure (.type "method_descriptor"))(hm:MtR X id r)(ho:PE X o to)(ha:PA X (e::es) t)
  (hbase:attributeBase o name X.env (eval o X.env)=eval o X.env:=by rfl)
  (hfew:((backTo cpos (starEach (e::es) X.env)).all (λx=>!x.1)&&(backToKw cpos (keywordEach [] X.env)).all (λx=>x.1.isSome)
   && decide ((e::es).length+([]:List dO).length+(if ([]:List dO).isEmpty then 0 else 1)<30))=true:=by rfl)
  (hline:(apos.endLine==cpos.line)=true:=by rfl) (hs:starEach (e::es) X.env=(false,eval e X.env)::starEach es X.env:=by rfl) (hplain:(backTo cpos (starEach es X.env)).any (·.1)=false:=by rfl) (hK:X.K=K:=by rfl):
  PE X (.Call (.Attribute o name apos) (e::es) [] cpos) (tBM K T r to t):=by subst hK;exact VM pa slot hty hm ho ha hbase hfew hline hs hplain
end
end L3
namespace L2
open PySem PySem.Spec PyProof.Rows
variable{a:Addr}
section
variable{X:Cx}{pins:bW}{σ:St}{H:Hp}{s:af}
theorem va{H:Hp}{c:Addr}{u v:HO}(e:H a=some u)(q:H c=some v)(d:u≠v)(n:HO):upd H a n c=some v:=by rw[oo (λz=>by subst z;rw[e]at q;exact d (bP q))];exact q
theorem Inv.freeze{kvs:List (Key×V)}(I:Inv X pins σ H s)(e:H a=some (.dK kvs)):∃o,Inv X pins σ (upd H a (.frz o (.dK kvs))) s:=by
 obtain⟨z,y,vs,r,ob,es,ep,e1,c⟩:=(show pI X.prog X.w H s.heap a (.dK kvs) from I.hok a _ e);refine⟨ob,?_⟩;have I':=I.step (H':=upd H a (.frz ob (.dK kvs))) (h':=s.heap) (g':=s.gens) (d':=s.drawn) (t':=s.toks) (ch:=[]) (λ_ z=>nomatch z) (λb o _ _ _ q _=>q) (λb o _ _ _ q _=>⟨o.slots,q⟩)
  (λb o _ _ n=>by rw[oo (λz=>by subst z;rw[e]at n;cases n)];exact n) (λb o _ q=>⟨o,q⟩) (λb xs q=>va e q (λz=>nomatch z) _) (λb o u q=>va e q (λz=>nomatch z) _)
  (λb ps q=>⟨#[],by rw[va e q (λz=>nomatch z) _];simp⟩) (λm q=>q) ?_ I.bare
 ·obtain⟨h,g,d,t,os⟩:=s;exact I'
 ·intro b u q;have st:∀{b:Addr} {u:HO},pI X.prog X.w H s.heap b u->pI X.prog X.w (upd H a (.frz ob (.dK kvs))) s.heap b u:=λ{b u} x=>x.stay (λ_ _ _ q=>q) (λc q=>va e q (λz=>nomatch z) _) λc xs q=>va e q (λz=>nomatch z) _
  by_cases hb:b=a
  ·subst hb;rw[oq]at q;cases q;exact⟨e1,st (I.hok b _ e)⟩
  ·rw[oo hb]at q;exact st (I.hok b u q)
theorem PE.ghost{e:Expr}{t:TE}(h:PE X e t):PE X e (λσ H Q=>t σ H λx H1=>Q x H1\/∃a kvs,H1 a=some (.dK kvs)/\∀o,Q x (upd H1 a (.frz o (.dK kvs)))):=λpins s σ H Q I hq=>
 thn (h pins s σ H _ I hq) λu s1 ⟨x,H1,I1,r1,q1⟩=>by
  rcases q1 with q|⟨a,kvs,e,q⟩
  ·exact⟨x,H1,I1,r1,q⟩
  ·obtain⟨o,I2⟩:=I1.freeze e;exact⟨x,_,I2,r1,q o⟩
end
end L2
namespace L4
open PySem PySem.Spec PyProof.Rows L2 L3
abbrev St:=L2.St
inductive D where
 |non|bl (b:Bool)|int (i:Int)|str (x:Str)
 |tup (ds:List D)|lst (ds:List D)
 |fzl (ds:List D)
 |obj (c:Nat) (ns:aE) (ds:List D)
 |dic (ks:List Key) (ds:List D)
abbrev aC:=List D
structure Bg where
 K:ar
 ca:Nat->Addr
mutual
def Rep(G:Bg)(H:Hp):D->V->Prop
 |.non,v=>v=.non
 |.bl b,v=>v=.bl b
 |.int i,v=>v=.int i
 |.str x,v=>v=.str x
 |.tup ds,v=>∃a xs,v=.ref a/\SqT G.K H a xs/\oi G H ds xs
 |.lst ds,v=>∃a xs,v=.ref a/\H a=some (.lst xs)/\oi G H ds xs
 |.fzl ds,v=>∃a xs,v=.ref a/\SqL G.K H a xs/\oi G H ds xs
 |.obj c ns ds,v=>∃a dx xs,v=.ref a/\H a=some (.ins (G.ca c) dx (ns.zip xs))/\ns.length=xs.length/\oi G H ds xs
 |.dic ks ds,v=>∃a o xs,v=.ref a/\H a=some (.frz o (.dK (ks.zip xs)))/\ks.length=xs.length/\oi G H ds xs
def oi(G:Bg)(H:Hp):aC->bh->Prop
 |[],xs=>xs=[]
 |d::ds,xs=>∃v r,xs=v::r/\Rep G H d v/\oi G H ds r
end
variable{H':Hp}{a:Addr}{xs:bh}
theorem SqT.mono{K:ar}{H:Hp}(e:ox H H')(h:SqT K H a xs):SqT K H' a xs:=by
 rcases h with (h|⟨o,h⟩)|h
 ·exact .inl (.inl (e _ _ h))
 ·exact .inl (.inr ⟨o,e _ _ h⟩)
 ·exact .inr h
mutual
theorem Rep.mono{G:Bg}{H H':Hp}(e:ox H H'):∀(d:D) (v:V),Rep G H d v->Rep G H' d v
 |.non,v,h=>by unfold Rep at h ⊢;exact h
 |.bl b,v,h=>by unfold Rep at h ⊢;exact h
 |.int i,v,h=>by unfold Rep at h ⊢;exact h
 |.str x,v,h=>by unfold Rep at h ⊢;exact h
 |.tup ds,v,h=>by unfold Rep at h ⊢;obtain⟨a,xs,rfl,h1,h2⟩:=h;exact⟨a,xs,rfl,SqT.mono e h1,oi.mono e ds xs h2⟩
 |.lst ds,v,h=>by unfold Rep at h ⊢;obtain⟨a,xs,rfl,h1,h2⟩:=h;exact⟨a,xs,rfl,e _ _ h1,oi.mono e ds xs h2⟩
 |.fzl ds,v,h=>by unfold Rep at h ⊢;obtain⟨a,xs,rfl,h1,h2⟩:=h;exact⟨a,xs,rfl,e.seq h1,oi.mono e ds xs h2⟩
 |.obj c ns ds,v,h=>by unfold Rep at h ⊢;obtain⟨a,dx,xs,rfl,h1,h2,h3⟩:=h;exact⟨a,dx,xs,rfl,e _ _ h1,h2,oi.mono e ds xs h3⟩
 |.dic ks ds,v,h=>by unfold Rep at h ⊢;obtain⟨a,o,xs,rfl,h1,h2,h3⟩:=h;exact⟨a,o,xs,rfl,e _ _ h1,h2,oi.mono e ds xs h3⟩
theorem oi.mono{G:Bg}{H H':Hp}(e:ox H H'):∀(ds:aC) (xs:bh),oi G H ds xs->oi G H' ds xs
 |[],xs,h=>by unfold oi at h ⊢;exact h
 |d::ds,xs,h=>by unfold oi at h ⊢;obtain⟨v,r,rfl,h1,h2⟩:=h;exact⟨v,r,rfl,Rep.mono e d v h1,oi.mono e ds r h2⟩
end
variable{d:D}{ds:aC}
section
variable{G:Bg}{H:Hp}
theorem o5:oi G H [] []:=by unfold oi;rfl
theorem oZ{v:V}(h:Rep G H d v)(r:oi G H ds xs):oi G H (d::ds) (v::xs):=by unfold oi;exact⟨v,xs,rfl,h,r⟩
theorem om:∀{ds:aC} {xs:bh},oi G H ds xs->ds.length=xs.length
 |[],xs,h=>by unfold oi at h;subst h;rfl
 |d::ds,xs,h=>by unfold oi at h;obtain⟨v,r,rfl,_,h2⟩:=h;rw[aI,aI,om h2]
theorem qF:∀{ds es:aC} {xs ys:bh},oi G H ds xs->oi G H es ys->oi G H (ds++es) (xs++ys)
 |[],es,xs,ys,h,h'=>by unfold oi at h;subst h;exact h'
 |d::ds,es,xs,ys,h,h'=>by unfold oi at h;obtain⟨v,r,rfl,h1,h2⟩:=h;exact oZ h1 (qF h2 h')
theorem qp:∀{ds:aC} {xs:bh} {i:Nat} {d:D},oi G H ds xs->ds[i]?=some d->∃v,xs[i]?=some v/\Rep G H d v
 |[],xs,i,d,h,e=>by simp at e
 |d'::ds,xs,i,d,h,e=>by
  unfold oi at h;obtain⟨v,r,rfl,h1,h2⟩:=h;cases i with
  |zero=>simp at e;subst e;exact⟨v,rfl,h1⟩
  |succ i=>simpa using qp (i:=i) (d:=d) h2 (by simpa using e)
theorem Dl:∀{ds:aC} {xs:bh} (n:Nat),oi G H ds xs->oi G H (ds.drop n) (xs.drop n)
 |ds,xs,0,h=>h
 |[],xs,n+1,h=>by unfold oi at h;subst h;exact o5
 |d::ds,xs,n+1,h=>by unfold oi at h;obtain⟨v,r,rfl,h1,h2⟩:=h;exact Dl n h2
theorem Dm:∀{ds:aC} {xs:bh} (n:Nat),oi G H ds xs->oi G H (ds.take n) (xs.take n)
 |ds,xs,0,h=>o5
 |[],xs,n+1,h=>by unfold oi at h;subst h;exact o5
 |d::ds,xs,n+1,h=>by unfold oi at h;obtain⟨v,r,rfl,h1,h2⟩:=h;exact oZ h1 (Dm n h2)
theorem xF(h:SqT G.K H a xs)(r:oi G H ds xs):Rep G H (.tup ds) (.ref a):=by unfold Rep;exact⟨a,xs,rfl,h,r⟩
theorem sQ(h:H a=some (.lst xs))(r:oi G H ds xs):Rep G H (.lst ds) (.ref a):=by unfold Rep;exact⟨a,xs,rfl,h,r⟩
theorem rf(i:Int):Rep G H (.int i) (.int i):=by unfold Rep;rfl
theorem rp(i:Bool):Rep G H (.bl i) (.bl i):=by unfold Rep;rfl
theorem vL(i:Str):Rep G H (.str i) (.str i):=by unfold Rep;rfl
theorem yP:Rep G H .non .non:=by unfold Rep;rfl
end
inductive Sl where
 |un
 |im (d:D)
 |ls (ds:aC)
 |pm (ds:aC)
 |dk (ks:List Key) (ds:aC)
 |ob (c:Nat) (ns:aE) (ds:aC)
abbrev aV:=List Sl
def Sl.own:Sl->Bool
 |.ls _=>true
 |.pm _=>true
 |.dk _ _=>true
 |.ob _ _ _=>true
 |_=>false
structure Fr where
 B0:Hp
 B:Hp
 A:List Addr
def yj(G:Bg)(F:Fr)(H0 H:Hp)(o:Option V):Sl->Prop
 |.un=>True
 |.im d=>∃v,o=some v/\Rep G H0 d v
 |.ls ds=>∃a xs,o=some (.ref a)/\H a=some (.lst xs)/\H0 a=none/\F.B a=none/\oi G H0 ds xs
 |.pm ds=>∃a xs,o=some (.ref a)/\H a=some (.lst xs)/\H0 a=none/\a∈F.A/\oi G H0 ds xs
 |.dk ks ds=>∃a xs,o=some (.ref a)/\H a=some (.dK (ks.zip xs))/\H0 a=none/\F.B a=none/\ks.length=xs.length/\oi G H0 ds xs
 |.ob c ns ds=>∃a dx xs,o=some (.ref a)/\H a=some (.ins (G.ca c) dx (ns.zip xs))/\H0 a=none/\a∈F.A/\ns.length=xs.length/\oi G H0 ds xs
structure oA(G:Bg)(F:Fr)(σ:St)(ρ:aV)(H0 H:Hp):Prop where
 sub:ox H0 H
 g0:ox F.B0 H0
 keep:∀b o,F.B b=some o->b∉F.A->H b=some o
 fr:∀b o,H0 b=some o->F.B0 b=some o\/F.B b=none
 am:∀a∈F.A,∃o,H a=some o
 len:σ.length=ρ.length
 sl:∀(i:Nat) (s:Sl),ρ[i]?=some s->yj G F H0 H (σ[i]?).join s
 ap:∀(i j:Nat) (s t:Sl) (a:Addr),i≠j->ρ[i]?=some s->ρ[j]?=some t->s.own=true->t.own=true->(σ[i]?).join=some (.ref a)->(σ[j]?).join=some (.ref a)->False
variable{G:Bg}{F:Fr}{H0:Hp}
theorem yj.at{H:Hp}{o:Option V}{s:Sl}(h:yj G F H0 H o s)(e:s.own=true):∃a u,o=some (.ref a)/\H a=some u/\H0 a=none/\(F.B a=none\/a∈F.A):=by
 cases s with
 |un=>cases e
 |im d=>cases e
 |ls ds=>obtain⟨a,xs,h1,h2,h3,h4,_⟩:=h;exact⟨a,_,h1,h2,h3,.inl h4⟩
 |pm ds=>obtain⟨a,xs,h1,h2,h3,h4,_⟩:=h;exact⟨a,_,h1,h2,h3,.inr h4⟩
 |dk ks ds=>obtain⟨a,xs,h1,h2,h3,h4,_⟩:=h;exact⟨a,_,h1,h2,h3,.inl h4⟩
 |ob c ns ds=>obtain⟨a,dx,xs,h1,h2,h3,h4,_⟩:=h;exact⟨a,_,h1,h2,h3,.inr h4⟩
variable{H0':Hp}
theorem yj.grow{H:Hp}{o:Option V}{s:Sl}(h:yj G F H0 H o s)(h0:ox H0 H0')(hk:∀a u,o=some (.ref a)->s.own=true->H a=some u->H' a=some u)
  (hn:∀a u,o=some (.ref a)->s.own=true->H a=some u->H0 a=none->H0' a=none):yj G F H0' H' o s:=by
 cases s with
 |un=>trivial
 |im d=>obtain⟨v,h1,h2⟩:=h;exact⟨v,h1,Rep.mono h0 _ _ h2⟩
 |ls ds=>obtain⟨a,xs,h1,h2,h3,h4,h5⟩:=h;exact⟨a,xs,h1,hk _ _ h1 rfl h2,hn _ _ h1 rfl h2 h3,h4,oi.mono h0 _ _ h5⟩
 |pm ds=>obtain⟨a,xs,h1,h2,h3,h4,h5⟩:=h;exact⟨a,xs,h1,hk _ _ h1 rfl h2,hn _ _ h1 rfl h2 h3,h4,oi.mono h0 _ _ h5⟩
 |dk ks ds=>obtain⟨a,xs,h1,h2,h3,h4,h5,h6⟩:=h;exact⟨a,xs,h1,hk _ _ h1 rfl h2,hn _ _ h1 rfl h2 h3,h4,h5,oi.mono h0 _ _ h6⟩
 |ob c ns ds=>obtain⟨a,dx,xs,h1,h2,h3,h4,h5,h6⟩:=h;exact⟨a,dx,xs,h1,hk _ _ h1 rfl h2,hn _ _ h1 rfl h2 h3,h4,h5,oi.mono h0 _ _ h6⟩
variable{p:Addr}{i j:Nat}
section
variable{G:Bg}{F:Fr}{σ:St}{ρ:aV}{H0 H H0' H':Hp}
theorem oA.bNone(R:oA G F σ ρ H0 H){b:Addr}(h:H b=none):F.B b=none:=by
 cases e:F.B b with
 |none=>rfl
 |some o=>
  by_cases ha:b∈F.A
  ·obtain⟨xs,q⟩:=R.am b ha;rw[q]at h;cases h
  ·have q:=R.keep b o e ha;rw[q]at h;cases h
theorem oA.grow(R:oA G F σ ρ H0 H)(hs:ox H H')(h0:ox H0 H0')(sub':ox H0' H')(hf:∀b o,H0' b=some o->H0 b=some o\/H b=none):oA G F σ ρ H0' H' where
 sub:=sub'
 g0:=R.g0.trans h0
 keep:=λb o e n=>hs _ _ (R.keep b o e n)
 fr:=λb o e=>by
  rcases hf b o e with q|q
  ·exact R.fr b o q
  ·exact .inr (R.bNone q)
 am:=λa ha=>let ⟨xs,q⟩:=R.am a ha;⟨xs,hs _ _ q⟩
 len:=R.len
 sl:=λi s e=>(R.sl i s e).grow h0 (λa u _ _ q=>hs _ _ q) λa u _ _ q q0=>by
  cases z:H0' a with
  |none=>rfl
  |some o=>
   rcases hf a o z with y|y
   ·rw[y]at q0;cases q0
   ·rw[y]at q;cases q
 ap:=R.ap
theorem oI{H:Hp}(hp:H p=none)(o:HO):ox H (upd H p o):=ox.new (ox.refl H) hp o
theorem oA.h0none(R:oA G F σ ρ H0 H)(hp:H p=none):H0 p=none:=by
 cases e:H0 p with
 |none=>rfl
 |some o=>have:=R.sub _ _ e;rw[this]at hp;cases hp
theorem Lo{H0 H:Hp}(s:ox H0 H)(p:Addr)(o:HO):ox (upd H0 p o) (upd H p o):=λb u e=>by
 by_cases hb:b=p
 ·subst hb;rw[oq]at e ⊢;exact e
 ·rw[oo hb]at e ⊢;exact s _ _ e
theorem oA.newIm(R:oA G F σ ρ H0 H)(hp:H p=none)(o:HO):oA G F σ ρ (upd H0 p o) (upd H p o):=
 R.grow (oI hp o) (oI (R.h0none hp) o) (Lo R.sub p o) λb u e=>by
  by_cases hb:b=p
  ·subst hb;exact .inr hp
  ·rw[oo hb]at e;exact .inl e
theorem oA.newOwn(R:oA G F σ ρ H0 H)(hp:H p=none)(o:HO):oA G F σ ρ H0 (upd H p o):=
 R.grow (oI hp o) (ox.refl _) (λb u e=>by rw[oo (qW (R.sub _ _ e) hp)];exact R.sub _ _ e) λb u e=>.inl e
def Apart(σ:St)(ρ:aV)(p:Addr):Prop:=∀(i:Nat) (s:Sl),ρ[i]?=some s->s.own=true->(σ[i]?).join≠some (.ref p)
theorem oA.apart(R:oA G F σ ρ H0 H)(hp:H p=none):Apart σ ρ p:=λi s e so z=>by obtain⟨a,u,h1,h2,_⟩:=(R.sl i s e).at so;rw[z]at h1;cases h1;rw[hp]at h2;cases h2
theorem oA.freeze(R:oA G F σ ρ H0 H){o:HO}(hp:H p=some o)(h0:H0 p=none)(hb:F.B p=none)(ap:Apart σ ρ p):oA G F σ ρ (upd H0 p o) H where
 sub:=λb u e=>by
  by_cases hb:b=p
  ·subst hb;rw[oq]at e;cases e;exact hp
  ·rw[oo hb]at e;exact R.sub _ _ e
 g0:=R.g0.trans (oI h0 o)
 keep:=R.keep
 fr:=λb u e=>by
  by_cases hb':b=p
  ·subst hb';exact .inr hb
  ·rw[oo hb']at e;exact R.fr _ _ e
 am:=R.am
 len:=R.len
 sl:=λi s e=>(R.sl i s e).grow (oI h0 o) (λa u _ _ q=>q) λa u z so q q0=>by rw[oo (λy=>ap i s e so (by rw[z,y]))];exact q0
 ap:=R.ap
theorem Fm{σ:St}{v:Option V}(hi:i<σ.length):((σ.set i v)[j]?).join=if j=i then v else (σ[j]?).join:=by
 rw[bG];by_cases h:i=j
 ·subst h;simp[hi]
 ·rw[ak h,ak (λz=>h z.symm)]
theorem oA.set(R:oA G F σ ρ H0 H){v:V}{s:Sl}(hs:yj G F H0 H (some v) s)(ap:s.own=true->∀a,v=.ref a->∀(j:Nat) (t:Sl),j≠i->ρ[j]?=some t->t.own=true->(σ[j]?).join≠some (.ref a)):
  oA G F (σ.set i (some v)) (ρ.set i s) H0 H where
 sub:=R.sub
 g0:=R.g0
 keep:=R.keep
 fr:=R.fr
 am:=R.am
 len:=by rw[dF,dF,R.len]
 sl:=λj t e=>by
  rw[bG]at e;by_cases h:i=j
  ·subst h;rw[aj rfl]at e;split at e
   ·rename_i hi;cases e;rw[Fm (by rw[R.len];exact hi),aj rfl];exact hs
   ·cases e
  ·rw[ak h]at e;have hh:=R.sl j t e;rw[bG,ak h];exact hh
 ap:=λj k t u a hjk ej ek tj tk vj vk=>by
  have gen:∀{m:Nat} {x:Sl},(ρ.set i s)[m]?=some x->m≠i->ρ[m]?=some x/\((σ.set i (some v))[m]?).join=(σ[m]?).join:=λ{m x} e hm=>by rw[bG,ak (λz=>hm z.symm)]at e;exact⟨e,by rw[bG,ak (λz=>hm z.symm)]⟩
  have self:∀{x:Sl},(ρ.set i s)[i]?=some x->x=s/\((σ.set i (some v))[i]?).join=some v:=λ{x} e=>by
   rw[bG,aj rfl]at e;split at e
   ·rename_i hi;cases e;exact⟨rfl,by rw[Fm (by rw[R.len];exact hi),aj rfl]⟩
   ·cases e
  by_cases hj:j=i
  ·subst hj;obtain⟨rfl,ev⟩:=self ej;rw[ev]at vj;cases vj;obtain⟨e2,e3⟩:=gen ek (λz=>hjk z.symm);rw[e3]at vk;exact ap tj a rfl k u (λz=>hjk z.symm) e2 tk vk
  ·obtain⟨e2,e3⟩:=gen ej hj;by_cases hk:k=i
   ·subst hk;obtain⟨rfl,ev⟩:=self ek;rw[ev]at vk;cases vk;rw[e3]at vj;exact ap tk a rfl j t hj e2 tj vj
   ·obtain⟨e4,e5⟩:=gen ek hk;rw[e3]at vj;rw[e5]at vk;exact R.ap j k t u a hjk e2 e4 tj tk vj vk
theorem oA.setIm(R:oA G F σ ρ H0 H)(i:Nat){v:V}(h:Rep G H0 d v):oA G F (σ.set i (some v)) (ρ.set i (.im d)) H0 H:=R.set ⟨v,rfl,h⟩ λz=>by cases z
theorem oA.setLs(R:oA G F σ ρ H0 H)(i:Nat)(hp:H p=some (.lst xs))(h0:H0 p=none)(hb:F.B p=none)(ap:Apart σ ρ p)(h:oi G H0 ds xs):oA G F (σ.set i (some (.ref p))) (ρ.set i (.ls ds)) H0 H:=
 R.set ⟨p,xs,rfl,hp,h0,hb,h⟩ λ_ a e j t _ ej tj=>by cases e;exact ap j t ej tj
theorem oA.mut(R:oA G F σ ρ H0 H){s s':Sl}{o:HO}(hi:ρ[i]?=some s)(so:s.own=true)(ha:(σ[i]?).join=some (.ref a))(ok:∀H',H' a=some o->yj G F H0 H' (some (.ref a)) s')
  (so':s'.own=true):oA G F σ (ρ.set i s') H0 (upd H a o):=by
 obtain⟨a',u,e1,e2,e3,e4⟩:=(R.sl i s hi).at so;rw[ha]at e1;cases e1;exact {
  sub:=λb w e=>by rw[oo (λz=>by rw[z,e3]at e;cases e)];exact R.sub _ _ e
  g0:=R.g0
  keep:=λb w e n=>by
   have nb:b≠a:=λz=>by
    subst z;rcases e4 with q|q
    ·rw[q]at e;cases e
    ·exact n q
   rw[oo nb];exact R.keep b w e n
  fr:=R.fr
  am:=λb hb=>by
   by_cases z:b=a
   ·subst z;exact⟨o,oq⟩
   ·rw[oo z];exact R.am b hb
  len:=by rw[dF];exact R.len
  sl:=λj t e=>by
   rw[bG]at e;by_cases h:i=j
   ·subst h;rw[aj rfl]at e;split at e
    ·cases e;rw[ha];exact ok _ oq
    ·cases e
   ·rw[ak h]at e;refine(R.sl j t e).grow (ox.refl _) (λb w z to q=>?_) λb w _ _ _ q=>q;rw[oo (λy=>by subst y;exact R.ap j i t s b (λy=>h y.symm) e hi to so z ha)];exact q
  ap:=λj k t u b hjk ej ek tj tk vj vk=>by
   have gen:∀{m:Nat} {x:Sl},(ρ.set i s')[m]?=some x->∃y,ρ[m]?=some y/\(x.own=true->y.own=true):=λ{m x} e=>by
    rw[bG]at e;by_cases h:i=m
    ·subst h;exact⟨s,hi,λ_=>so⟩
    ·rw[ak h]at e;exact⟨x,e,λq=>q⟩
   obtain⟨y,ey,oy⟩:=gen ej;obtain⟨z,ez,oz⟩:=gen ek;exact R.ap j k y z b hjk ey ez (oy tj) (oz tk) vj vk }
end
abbrev FE:=aV->Option (D×aV)
abbrev FT:=aV->Option (Bool×aV)
abbrev FA:=aV->Option (aC×aV)
def tF(G:Bg)(f:FE):TE:=λσ H Q=>∃F ρ H0 d ρ',oA G F σ ρ H0 H/\f ρ=some (d,ρ')/\∀v H0' H',ox H0 H0'->oA G F σ ρ' H0' H'->Rep G H0' d v->Q v H'
def tFT(G:Bg)(f:FT):TT:=λσ H Q=>∃F ρ H0 d ρ',oA G F σ ρ H0 H/\f ρ=some (d,ρ')/\∀H0' H',ox H0 H0'->oA G F σ ρ' H0' H'->Q d H'
def tFA(G:Bg)(f:FA):TA:=λσ H Q=>∃F ρ H0 ds ρ',oA G F σ ρ H0 H/\f ρ=some (ds,ρ')/\∀xs H0' H',ox H0 H0'->oA G F σ ρ' H0' H'->oi G H0' ds xs->Q xs H'
def tFN(G:Bg)(f:FA):TE:=λσ H Q=>∃F ρ H0 ds ρ',oA G F σ ρ H0 H/\f ρ=some (ds,ρ')/\∀p xs H0' H',ox H0 H0'->oA G F σ ρ' H0' H'->H' p=some (.lst xs)->H0' p=none->F.B p=none->Apart σ ρ' p->oi G H0' ds xs->Q (.ref p) H'
variable{X:Cx}{e:Expr}
theorem PE.weak{t t':TE}(h:PE X e t)(w:∀σ H Q,t' σ H Q->t σ H Q):PE X e t':=λpins s σ H Q I hq=>h pins s σ H Q I (w _ _ _ hq)
variable{t':TT}
theorem PT.weak{t:TT}(h:PT X e t)(w:∀σ H Q,t' σ H Q->t σ H Q):PT X e t':=λpins s σ H Q I hq=>h pins s σ H Q I (w _ _ _ hq)
theorem PW.weak{t:TT}(h:PW X e t)(w:∀σ H Q,t' σ H Q->t σ H Q):PW X e t':=λwh pins s σ H Q I hq=>h wh pins s σ H Q I (w _ _ _ hq)
theorem PA.weak{e:List Expr}{t t':TA}(h:PA X e t)(w:∀σ H Q,t' σ H Q->t σ H Q):PA X e t':=λpos pins s σ H Q I hq=>h pos pins s σ H Q I (w _ _ _ hq)
noncomputable def cC(d:D):FE:=λρ=>some (d,ρ)
noncomputable def cV(i:Nat):FE:=λρ=>match ρ[i]? with
 |some (.im d)=>some (d,ρ)
 |_=>none
noncomputable def c1(g:D->Option D) (f:FE):FE:=λρ=>match f ρ with
 |some (d,ρ')=>match g d with
  |some x=>some (x,ρ')
  |none=>none
 |none=>none
noncomputable def c2(g:D->D->Option D) (f f':FE):FE:=λρ=>match f ρ with
 |some (x,ρ1)=>match f' ρ1 with
  |some (y,ρ2)=>match g x y with
   |some z=>some (z,ρ2)
   |none=>none
  |none=>none
 |none=>none
variable{f:FE}{ρ ρ':aV}
theorem A6{g:D->Option D}{z:D}(h:c1 g f ρ=some (z,ρ')):∃d,f ρ=some (d,ρ')/\g d=some z:=by
 unfold c1 at h;cases e:f ρ with
 |none=>rw[e]at h;cases h
 |some p=>
  obtain⟨d,ρ1⟩:=p;rw[e]at h;cases e2:g d with
  |none=>simp only[e2]at h;cases h
  |some x=>simp only[e2]at h;cases h;exact⟨d,rfl,e2⟩
variable{f':FE}
theorem yQ{g:D->D->Option D}{z:D}(h:c2 g f f' ρ=some (z,ρ')):∃x y ρ1,f ρ=some (x,ρ1)/\f' ρ1=some (y,ρ')/\g x y=some z:=by
 unfold c2 at h;cases e:f ρ with
 |none=>rw[e]at h;cases h
 |some p=>
  obtain⟨x,ρ1⟩:=p;simp only[e]at h;cases e2:f' ρ1 with
  |none=>simp only[e2]at h;cases h
  |some q=>
   obtain⟨y,ρ2⟩:=q;simp only[e2]at h;cases e3:g x y with
   |none=>simp only[e3]at h;cases h
   |some w=>simp only[e3]at h;cases h;exact⟨x,y,ρ1,rfl,e2,e3⟩
variable{b:Expr}{pos:Pos}{es:List Expr}
section
variable{X:Cx}{G:Bg}
theorem RX{i j pos}:PE X (.Constant (.int i) j pos) (tF G (cC (.int i))):=PE.weak GF λσ H Q h=>by obtain⟨F,ρ,H0,d,ρ',R,e,k⟩:=h;cases e;exact k _ _ _ (ox.refl _) R (rf i)
theorem VS{i j pos}:PE X (.Constant (.bool i) j pos) (tF G (cC (.bl i))):=PE.weak Vp λσ H Q h=>by obtain⟨F,ρ,H0,d,ρ',R,e,k⟩:=h;cases e;exact k _ _ _ (ox.refl _) R (rp i)
theorem RY{i j pos}:PE X (.Constant (.str i) j pos) (tF G (cC (.str i))):=PE.weak KM λσ H Q h=>by obtain⟨F,ρ,H0,d,ρ',R,e,k⟩:=h;cases e;exact k _ _ _ (ox.refl _) R (vL i)
theorem RZ{j pos}:PE X (.Constant .none j pos) (tF G (cC .non)):=PE.weak Q7 λσ H Q h=>by obtain⟨F,ρ,H0,d,ρ',R,e,k⟩:=h;cases e;exact k _ _ _ (ox.refl _) R yP
theorem OC(h:cV i ρ=some (d,ρ')):ρ[i]?=some (.im d)/\ρ'=ρ:=by
 unfold cV at h;split at h
 ·rename_i e;cases h;exact⟨e,rfl⟩
 ·cases h
theorem qG{α:Type}{o:Option (Option α)}{v:α}(h:o.join=some v):o=some (some v):=by
 cases o with
 |none=>cases h
 |some u=>cases u with
  |none=>cases h
  |some w=>cases h;rfl
theorem GZ(h:PE X e (uN i)):PE X e (tF G (cV i)):=PE.weak h λσ H Q hh=>by obtain⟨F,ρ,H0,d,ρ',R,e,k⟩:=hh;obtain⟨e1,rfl⟩:=OC e;obtain⟨v,e2,e3⟩:=R.sl i _ e1;exact⟨v,qG e2,k _ _ _ (ox.refl _) R e3⟩
theorem OD{v:V}(h:PE X e (tC v))(r:∀H,Rep G H d v):PE X e (tF G (cC d)):=PE.weak h λσ H Q hh=>by obtain⟨F,ρ,H0,d',ρ',R,e,k⟩:=hh;cases e;exact k _ _ _ (ox.refl _) R (r _)
def OpD(G:Bg)(r:R2)(g:D->D->Option D):Prop:=∀x y z H0 H v u (Q:VK),g x y=some z->ox H0 H->Rep G H0 x v->Rep G H0 y u->(∀w,(∀H0',ox H0 H0'->Rep G H0' z w)->Q w H)->r v u H Q
theorem Io{r:R2}{g:D->D->Option D}(ho:OpD G r g):∀σ H Q,tF G (c2 g f f') σ H Q->tOp r (tF G f) (tF G f') σ H Q:=λσ H Q hh=>by obtain⟨F,ρ,H0,d,ρ',R,e,k⟩:=hh;obtain⟨x,y,ρ1,e1,e2,e3⟩:=yQ e;refine⟨F,ρ,H0,x,ρ1,R,e1,λv H1 H1' s1 R1 r1=>⟨F,ρ1,H1,y,ρ',R1,e2,λu H2 H2' s2 R2 r2=>?_⟩⟩;exact ho x y d H2 H2' v u Q e3 R2.sub (Rep.mono s2 _ _ r1) r2 λw hw=>k w H2 H2' (s1.trans s2) R2 (hw _ (ox.refl _))
theorem VT{a:Expr}{op:iP}{r:R2}{g:D->D->Option D}(hr:OpR X (binaryOp op) r)(ho:OpD G r g)(ha:PE X a (tF G f))(hb:PE X b (tF G f')):PE X (.BinOp a op b pos) (tF G (c2 g f f')):=PE.weak (KY hr ha hb) (Io ho)
theorem R0{a:Expr}{op:cn}{r:R2}{g:D->D->Option D}(hr:OpR X (compareOp op) r)(ho:OpD G r g)(ha:PE X a (tF G f))(hb:PE X b (tF G f'))(hm:behindInMarks op b=false):PE X (.Compare a [op] [b] pos) (tF G (c2 g f f')):=PE.weak (Oc hr ha hb hm) (Io ho)
theorem VU{a:Expr}{r:R2}{g:D->D->Option D}(hr:IxR X r)(ho:OpD G r g)(ha:PE X a (tF G f))(hb:PE X b (tF G f'))(hs:Ii b):PE X (.Subscript a b pos) (tF G (c2 g f f')):=PE.weak (QK hr ha hb hs) (Io ho)
def cT(f:FE):FT:=λρ=>match f ρ with
 |some (.bl b,ρ')=>some (b,ρ')
 |_=>none
theorem Ip{b:Bool}(h:cT f ρ=some (b,ρ')):f ρ=some (.bl b,ρ'):=by
 unfold cT at h;split at h
 ·rename_i e;cases h;exact e
 ·cases h
theorem Ek:∀σ H Q,tFT G (cT f) σ H Q->K1 (tF G f) σ H Q:=λσ H Q hh=>by obtain⟨F,ρ,H0,d,ρ',R,e,k⟩:=hh;refine⟨F,ρ,H0,_,ρ',R,Ip e,λv H0' H' s R' r=>?_⟩;unfold Rep at r;exact⟨d,r,k _ _ s R'⟩
theorem OE{a:Expr}{op:cn}{r:R2}{g:D->D->Option D}(hr:OpR X (compareOp op) r)(ho:OpD G r g)(ha:PE X a (tF G f))(hb:PE X b (tF G f'))(hm:behindInMarks op b=false):
  PT X (.Compare a [op] [b] pos) (tFT G (cT (c2 g f f'))):=PT.weak (Od hr ha hb hm) λσ H Q hh=>by
 obtain⟨F,ρ,H0,d,ρ',R,e,k⟩:=Ek σ H Q hh;exact Io ho σ H _ ⟨F,ρ,H0,d,ρ',R,e,k⟩
theorem OF(h:PE X e (tF G f))(he:∀whole,isTrue e X.env whole=(do let v<-whole;standAt e.pos;holding [v] (truthy v)):=by intro _;rfl):PT X e (tFT G (cT f)):=PT.weak (Q9 h he) λσ H Q hh=>by obtain⟨F,ρ,H0,d,ρ',R,e,k⟩:=hh;refine⟨F,ρ,H0,_,ρ',R,Ip e,λv H0' H' s R' r=>?_⟩;unfold Rep at r;exact⟨d,r,k _ _ s R'⟩
def p5(f:FT):FT:=λρ=>match f ρ with
 |some (b,ρ')=>some (!b,ρ')
 |none=>none
def vc(f g:FT):FT:=λρ=>match f ρ with
 |some (true,ρ')=>g ρ'
 |r=>r
def sy(f g:FT):FT:=λρ=>match f ρ with
 |some (false,ρ')=>g ρ'
 |r=>r
theorem OG{a:Expr}{f:FT}(h:PT X a (tFT G f)):PT X (.UnaryOp .Not a pos) (tFT G (p5 f)):=PT.weak (Rf h) λσ H Q hh=>by
 obtain⟨F,ρ,H0,d,ρ',R,e,k⟩:=hh;unfold p5 at e;cases e1:f ρ with
 |none=>simp only[e1]at e;cases e
 |some p=>obtain⟨b,ρ1⟩:=p;simp only[e1]at e;cases e;exact⟨F,ρ,H0,b,_,R,e1,λH0' H' s R'=>k _ _ s R'⟩
theorem R7{f g:FT}:∀σ H Q,tFT G (vc f g) σ H Q->Vq (tFT G f) (tFT G g) σ H Q:=λσ H Q hh=>by
 obtain⟨F,ρ,H0,d,ρ',R,e,k⟩:=hh;unfold vc at e;cases e1:f ρ with
 |none=>simp only[e1]at e;cases e
 |some p=>
  obtain⟨b,ρ1⟩:=p;cases b with
  |true=>simp only[e1]at e;exact⟨F,ρ,H0,true,ρ1,R,e1,λH0' H' s R'=>Fh ⟨F,ρ1,H0',d,ρ',R',e,λH2 H2' s2 R2=>k _ _ (s.trans s2) R2⟩⟩
  |false=>simp only[e1]at e;cases e;exact⟨F,ρ,H0,false,_,R,e1,λH0' H' s R'=>Fg (k _ _ s R')⟩
theorem VW{f g:FT}:∀σ H Q,tFT G (sy f g) σ H Q->tOr (tFT G f) (tFT G g) σ H Q:=λσ H Q hh=>by
 obtain⟨F,ρ,H0,d,ρ',R,e,k⟩:=hh;unfold sy at e;cases e1:f ρ with
 |none=>simp only[e1]at e;cases e
 |some p=>
  obtain⟨b,ρ1⟩:=p;cases b with
  |false=>simp only[e1]at e;exact⟨F,ρ,H0,false,ρ1,R,e1,λH0' H' s R'=>Fg ⟨F,ρ1,H0',d,ρ',R',e,λH2 H2' s2 R2=>k _ _ (s.trans s2) R2⟩⟩
  |true=>simp only[e1]at e;cases e;exact⟨F,ρ,H0,true,_,R,e1,λH0' H' s R'=>Fh (k _ _ s R')⟩
theorem Lp{a:Expr}{f:FT}(h:PT X a (tFT G f)):PW X (.BoolOp .And [a] pos) (tFT G f):=N4 h
theorem OH{a:Expr}{f:FT}(h:PT X a (tFT G f)):PW X (.BoolOp .Or [a] pos) (tFT G f):=Rb h
theorem OI{a:Expr}{rest:List Expr}{f g:FT}(ha:PT X a (tFT G f))(hb:PW X (.BoolOp .And (b::rest) pos) (tFT G g)):PW X (.BoolOp .And (a::b::rest) pos) (tFT G (vc f g)):=PW.weak (Re ha hb) R7
theorem Lq{a:Expr}{rest:List Expr}{f g:FT}(ha:PT X a (tFT G f))(hb:PW X (.BoolOp .Or (b::rest) pos) (tFT G g)):PW X (.BoolOp .Or (a::b::rest) pos) (tFT G (sy f g)):=PW.weak (Vr ha hb) VW
def qz(f g:FE):FE:=λρ=>match f ρ with
 |some (.bl true,ρ')=>g ρ'
 |some (.bl false,ρ')=>some (.bl false,ρ')
 |_=>none
def CK(f:FE):FE:=λρ=>match f ρ with
 |some (.bl b,ρ')=>some (.bl !b,ρ')
 |_=>none
def cIf(c:FT)(f g:FE):FE:=λρ=>match c ρ with
 |some (true,ρ')=>f ρ'
 |some (false,ρ')=>g ρ'
 |none=>none
theorem R8{a:Expr}{op}(h:PE X a (tF G f)):PE X (.BoolOp op [a] pos) (tF G f):=Rg h
theorem Lr:(∃ρ1,f ρ=some (.bl true,ρ1))\/(∃ρ1,f ρ=some (.bl false,ρ1))\/(∀b ρ1,f ρ≠some (.bl b,ρ1)):=by
 by_cases h1:∃ρ1,f ρ=some (.bl true,ρ1)
 ·exact .inl h1
 by_cases h2:∃ρ1,f ρ=some (.bl false,ρ1)
 ·exact .inr (.inl h2)
 refine .inr (.inr λb ρ1 z=>?_);cases b with
 |true=>exact h1 ⟨ρ1,z⟩
 |false=>exact h2 ⟨ρ1,z⟩
theorem JN{g:FE}(h:∀b ρ1,f ρ≠some (.bl b,ρ1)):qz f g ρ=none:=by
 unfold qz;split
 ·rename_i e;exact ao e (h _ _)
 ·rename_i e;exact ao e (h _ _)
 ·rfl
theorem R9{a:Expr}{rest:List Expr}{g:FE}(ha:PE X a (tF G f))(hb:PE X (.BoolOp .And (b::rest) pos) (tF G g)):PE X (.BoolOp .And (a::b::rest) pos) (tF G (qz f g)):=PE.weak (Rh ha hb) λσ H Q hh=>by
 obtain⟨F,ρ,H0,d,ρ',R,e,k⟩:=hh;rcases Lr (f:=f) (ρ:=ρ)with ⟨ρ1,e1⟩|⟨ρ1,e1⟩|e1
 ·have e':g ρ1=some (d,ρ'):=by unfold qz at e;simp only[e1]at e;exact e
  refine⟨F,ρ,H0,_,ρ1,R,e1,λv H1 H1' s R' r=>?_⟩;unfold Rep at r;refine⟨true,r,?_⟩;exact Fh ⟨F,ρ1,H1,d,ρ',R',e',λv H2 H2' s2 R2 r2=>k _ _ _ (s.trans s2) R2 r2⟩
 ·have e':some (D.bl false,ρ1)=some (d,ρ'):=by unfold qz at e;simp only[e1]at e;exact e
  cases e';refine⟨F,ρ,H0,_,_,R,e1,λv H1 H1' s R' r=>?_⟩;have r':=r;unfold Rep at r';refine⟨false,r',?_⟩;exact Fg (k _ _ _ s R' (rp false))
 ·rw[JN e1]at e;cases e
theorem Sa{a:Expr}(ha:PE X a (tF G f)):PE X (.UnaryOp .Not a pos) (tF G (CK f)):=PE.weak (Rj ha) λσ H Q hh=>by
 obtain⟨F,ρ,H0,d,ρ',R,e,k⟩:=hh;unfold CK at e;split at e
 ·rename_i b ρ1 e1;cases e;refine⟨F,ρ,H0,_,_,R,e1,λv H1 H1' s R' r=>?_⟩;unfold Rep at r;exact⟨b,r,k _ _ _ s R' (rp _)⟩
 ·cases e
theorem VX{c a:Expr}{h:FT}{g:FE}(hc:PT X c (tFT G h))(ha:PE X a (tF G f))(hb:PE X b (tF G g)):PE X (.IfExp c a b pos) (tF G (cIf h f g)):=PE.weak (KN hc ha hb) λσ H Q hh=>by
 obtain⟨F,ρ,H0,d,ρ',R,e,k⟩:=hh;unfold cIf at e;cases e1:h ρ with
 |none=>simp only[e1]at e;cases e
 |some p=>
  obtain⟨b,ρ1⟩:=p;refine⟨F,ρ,H0,b,ρ1,R,e1,λH1 H1' s R'=>?_⟩;cases b with
  |true=>simp only[e1]at e;exact Fh ⟨F,ρ1,H1,d,ρ',R',e,λv H2 H2' s2 R2 r2=>k _ _ _ (s.trans s2) R2 r2⟩
  |false=>simp only[e1]at e;exact Fg ⟨F,ρ1,H1,d,ρ',R',e,λv H2 H2' s2 R2 r2=>k _ _ _ (s.trans s2) R2 r2⟩
noncomputable def oF:FA:=λρ=>some ([],ρ)
noncomputable def n4(f:FE) (g:FA):FA:=λρ=>match f ρ with
 |some (d,ρ1)=>match g ρ1 with
  |some (ds,ρ2)=>some (d::ds,ρ2)
  |none=>none
 |none=>none
theorem BA{g:FA}(h:n4 f g ρ=some (ds,ρ')):∃d r ρ1,f ρ=some (d,ρ1)/\g ρ1=some (r,ρ')/\ds=d::r:=by
 unfold n4 at h;cases e:f ρ with
 |none=>rw[e]at h;cases h
 |some p=>
  obtain⟨x,ρ1⟩:=p;simp only[e]at h;cases e2:g ρ1 with
  |none=>simp only[e2]at h;cases h
  |some q=>obtain⟨y,ρ2⟩:=q;simp only[e2]at h;cases h;exact⟨x,y,ρ1,rfl,e2,rfl⟩
theorem sR:PA X [] (tFA G oF):=PA.weak uO λσ H Q hh=>by obtain⟨F,ρ,H0,d,ρ',R,e,k⟩:=hh;cases e;exact k _ _ _ (ox.refl _) R o5
theorem rB{g:FA}(ha:PE X e (tF G f))(hr:PA X es (tFA G g))(hs:starEach (e::es) X.env=(false,eval e X.env)::starEach es X.env:=by rfl):PA X (e::es) (tFA G (n4 f g)):=PA.weak (qS ha hr hs) λσ H Q hh=>by obtain⟨F,ρ,H0,d,ρ',R,e,k⟩:=hh;obtain⟨x,r,ρ1,e1,e2,rfl⟩:=BA e;exact⟨F,ρ,H0,x,ρ1,R,e1,λv H1 H1' s R' rv=>⟨F,ρ1,H1,r,ρ',R',e2,λxs H2 H2' s2 R2 rs=>k _ _ _ (s.trans s2) R2 (oZ (Rep.mono s2 _ _ rv) rs)⟩⟩
def qm(g:FA):FE:=λρ=>match g ρ with
 |some (ds,ρ')=>if ds.length<=1000 then some (.tup ds,ρ')else none
 |none=>none
def pb(g:FA):FA:=λρ=>match g ρ with
 |some (ds,ρ')=>if ds.length<=1000 then some (ds,ρ')else none
 |none=>none
theorem Sb{x1}{g:FA}(h:PA X es (tFA G g)):PE X (.Tuple es x1 pos) (tF G (qm g)):=PE.weak (K7 h) λσ H Q hh=>by
 obtain⟨F,ρ,H0,d,ρ',R,e,k⟩:=hh;unfold qm at e;cases e1:g ρ with
 |none=>simp only[e1]at e;cases e
 |some p=>
  obtain⟨ds,ρ1⟩:=p;simp only[e1]at e;split at e
  ·rename_i hl;cases e;refine⟨F,ρ,H0,_,_,R,e1,λxs H1 H1' s R' rs=>⟨by rw[<-om rs];exact sF hl,λp hp=>?_⟩⟩;exact k _ _ _ (s.trans (oI (R'.h0none hp) _)) (R'.newIm hp _) (xF (SqT.of oq) (oi.mono (oI (R'.h0none hp) _) _ _ rs))
  ·cases e
theorem OJ{g:FA}(h:PA X es (tFA G g)):PE X (.List es pos) (tFN G (pb g)):=PE.weak (K8 h) λσ H Q hh=>by
 obtain⟨F,ρ,H0,d,ρ',R,e,k⟩:=hh;unfold pb at e;cases e1:g ρ with
 |none=>simp only[e1]at e;cases e
 |some p=>
  obtain⟨ds,ρ1⟩:=p;simp only[e1]at e;split at e
  ·rename_i hl;cases e;refine⟨F,ρ,H0,_,_,R,e1,λxs H1 H1' s R' rs=>⟨by rw[<-om rs];exact sF hl,λp hp=>?_⟩⟩;exact k _ _ _ _ s (R'.newOwn hp _) oq (R'.h0none hp) (R'.bNone hp) (R'.apart hp) rs
  ·cases e
def cL(g:FA):FE:=λρ=>match g ρ with
 |some (ds,ρ')=>some (.lst ds,ρ')
 |none=>none
theorem OK{g:FA}(h:cL g ρ=some (d,ρ')):∃ds,g ρ=some (ds,ρ')/\d=.lst ds:=by
 unfold cL at h;cases e:g ρ with
 |none=>simp only[e]at h;cases h
 |some p=>obtain⟨ds,ρ1⟩:=p;simp only[e]at h;cases h;exact⟨ds,rfl,rfl⟩
theorem VY{g:FA}:∀σ H Q,tF G (cL g) σ H Q->tFN G g σ H Q:=λσ H Q hh=>by obtain⟨F,ρ,H0,d,ρ',R,e,k⟩:=hh;obtain⟨ds,e1,rfl⟩:=OK e;refine⟨F,ρ,H0,ds,ρ',R,e1,λp xs H1 H1' s R' hp h0 hb ap rs=>?_⟩;exact k _ _ _ (s.trans (oI h0 _)) (R'.freeze hp h0 hb ap) (sQ oq (oi.mono (oI h0 _) _ _ rs))
theorem Sd{g:FA}(h:PE X e (tFN G g)):PE X e (tF G (cL g)):=PE.weak h VY
end
inductive Out where
 |nx (ρ:aV)|bk (ρ:aV)|ct (ρ:aV)
 |rt (d:D) (ρ:aV)
 |rn (ds:aC) (ρ:aV)
abbrev FS:=aV->Option Out
def Iq(G:Bg)(F:Fr)(H0:Hp)(E:Ends):Out->Prop
 |.nx ρ'=>∀σ' H0' H',ox H0 H0'->oA G F σ' ρ' H0' H'->E.nx σ' H'
 |.bk ρ'=>∀σ' H0' H',ox H0 H0'->oA G F σ' ρ' H0' H'->E.bk σ' H'
 |.ct ρ'=>∀σ' H0' H',ox H0 H0'->oA G F σ' ρ' H0' H'->E.ct σ' H'
 |.rt d ρ'=>∀v σ' H0' H',ox H0 H0'->oA G F σ' ρ' H0' H'->Rep G H0' d v->E.rt v H'
 |.rn ds ρ'=>∀p xs σ' H0' H',ox H0 H0'->oA G F σ' ρ' H0' H'->H' p=some (.lst xs)->H0' p=none->F.B p=none->Apart σ' ρ' p->oi G H0' ds xs->E.rt (.ref p) H'
def tFS(G:Bg)(f:FS):TS:=λE σ H=>∃F ρ H0 o,oA G F σ ρ H0 H/\f ρ=some o/\Iq G F H0 E o/\(∀p,E.rt p=E.rt p)
variable{H1:Hp}
theorem Iq.back{E:Ends}{o:Out}(h:Iq G F H0 E o)(s:ox H0 H1):Iq G F H1 E o:=by
 cases o with
 |nx ρ=>exact λσ' H0' H' s' R=>h σ' H0' H' (s.trans s') R
 |bk ρ=>exact λσ' H0' H' s' R=>h σ' H0' H' (s.trans s') R
 |ct ρ=>exact λσ' H0' H' s' R=>h σ' H0' H' (s.trans s') R
 |rt d ρ=>exact λv σ' H0' H' s' R=>h v σ' H0' H' (s.trans s') R
 |rn ds ρ=>exact λp xs σ' H0' H' s' R=>h p xs σ' H0' H' (s.trans s') R
theorem PS.weak{e:Stmt}{t t':TS}(h:PS X e t)(w:∀E σ H,t' E σ H->t E σ H):PS X e t':=λpins s σ H D I hq=>h pins s σ H D I (w _ _ _ hq)
theorem PSs.weak{e:List Stmt}{t t':TS}(h:PSs X e t)(w:∀E σ H,t' E σ H->t E σ H):PSs X e t':=λpins s σ H D I hq=>h pins s σ H D I (w _ _ _ hq)
def oV:FS:=λρ=>some (.nx ρ)
noncomputable def oh(f g:FS):FS:=λρ=>match f ρ with
 |some (.nx ρ')=>g ρ'
 |r=>r
variable{σ:St}{st:Stmt}{tg:Expr}{gs:aC->aV->Option aV}{N:aE}{vs:bh}{np:Nat}
section
variable{X:Cx}{G:Bg}
theorem Se{E:Ends}{H:Hp}(h:tFS G oV E σ H):E.nx σ H:=by obtain⟨F,ρ,H0,o,R,e,k,_⟩:=h;cases e;exact k _ _ _ (ox.refl _) R
theorem OL:PSs X [] (tFS G oV):=PSs.weak N5 λE σ H h=>Se h
theorem Ls{rest:List Stmt}{f g:FS}(h1:PS X st (tFS G f))(h2:PSs X rest (tFS G g)):PSs X (st::rest) (tFS G (oh f g)):=PSs.weak (yI h1 h2) λE σ H h=>by
 obtain⟨F,ρ,H0,o,R,e,k,k2⟩:=h;unfold oh at e;cases e1:f ρ with
 |none=>simp only[e1]at e;cases e
 |some o1=>
  cases o1 with
  |nx ρ1=>simp only[e1]at e;exact⟨F,ρ,H0,_,R,e1,λσ' H0' H' s R'=>⟨F,ρ1,H0',o,R',e,k.back s,k2⟩,k2⟩
  |bk ρ1=>simp only[e1]at e;cases e;exact⟨F,ρ,H0,_,R,e1,k,k2⟩
  |ct ρ1=>simp only[e1]at e;cases e;exact⟨F,ρ,H0,_,R,e1,k,k2⟩
  |rt d ρ1=>simp only[e1]at e;cases e;exact⟨F,ρ,H0,_,R,e1,k,k2⟩
  |rn d ρ1=>simp only[e1]at e;cases e;exact⟨F,ρ,H0,_,R,e1,k,k2⟩
theorem OM{f:FS}(h1:PS X st (tFS G f)):PSs X [st] (tFS G f):=A3 h1
noncomputable def oT(f:FE):FS:=λρ=>match f ρ with
 |some (d,ρ')=>some (.rt d ρ')
 |none=>none
noncomputable def qg(f:FA):FS:=λρ=>match f ρ with
 |some (d,ρ')=>some (.rn d ρ')
 |none=>none
theorem oP{α:Type}{f:aV->Option (α×aV)}:f ρ=none\/∃d ρ',f ρ=some (d,ρ'):=by
 cases e:f ρ with
 |none=>exact .inl rfl
 |some p=>exact .inr ⟨p.1,p.2,rfl⟩
theorem ON(h:PE X e (tF G f)):PS X (.Return (some e) pos) (tFS G (oT f)):=PS.weak (D9 h) λE σ H hh=>by
 obtain⟨F,ρ,H0,o,R,e,k,k2⟩:=hh;unfold oT at e;rcases oP (f:=f) (ρ:=ρ)with e1|⟨d,ρ',e1⟩<;>simp only[e1]at e
 ·cases e
 ·cases e;exact⟨F,ρ,H0,d,ρ',R,e1,λv H0' H' s R' r=>k _ _ _ _ s R' r⟩
theorem Lu{f:FA}(h:PE X e (tFN G f)):PS X (.Return (some e) pos) (tFS G (qg f)):=PS.weak (D9 h) λE σ H hh=>by
 obtain⟨F,ρ,H0,o,R,e,k,k2⟩:=hh;unfold qg at e;rcases oP (f:=f) (ρ:=ρ)with e1|⟨d,ρ',e1⟩<;>simp only[e1]at e
 ·cases e
 ·cases e;exact⟨F,ρ,H0,d,ρ',R,e1,λp xs H0' H' s R' h1 h2 h3 h4 h5=>k _ _ _ _ _ s R' h1 h2 h3 h4 h5⟩
noncomputable def o6(f:FE):FS:=λρ=>match f ρ with
 |some (_,ρ')=>some (.nx ρ')
 |none=>none
theorem Lv(h:PE X e (tF G f))(hs:swapsWith e none pos.line X.env=pure false:=by rfl):PS X (.Expr e pos) (tFS G (o6 f)):=PS.weak (HV h hs) λE σ H hh=>by
 obtain⟨F,ρ,H0,o,R,e,k,k2⟩:=hh;unfold o6 at e;rcases oP (f:=f) (ρ:=ρ)with e1|⟨d,ρ',e1⟩<;>simp only[e1]at e
 ·cases e
 ·cases e;exact⟨F,ρ,H0,d,ρ',R,e1,λv H0' H' s R' r=>k _ _ _ s R'⟩
noncomputable def sIf(c:FT) (f g:FS):FS:=λρ=>match c ρ with
 |some (true,ρ')=>f ρ'
 |some (false,ρ')=>g ρ'
 |none=>none
theorem Sf{c:Expr}{a b:List Stmt}{h:FT}{f g:FS}(hc:PT X c (tFT G h))(ha:PSs X a (tFS G f))(hb:PSs X b (tFS G g)):PS X (.If c a b pos) (tFS G (sIf h f g)):=PS.weak (Vw hc ha hb) λE σ H hh=>by
 obtain⟨F,ρ,H0,o,R,e,k,k2⟩:=hh;unfold sIf at e;rcases oP (f:=h) (ρ:=ρ)with e1|⟨d,ρ',e1⟩
 ·simp only[e1]at e;cases e
 ·refine⟨F,ρ,H0,d,ρ',R,e1,λH0' H' s R'=>?_⟩;cases d with
  |true=>simp only[e1]at e;exact Fh ⟨F,ρ',H0',o,R',e,k.back s,k2⟩
  |false=>simp only[e1]at e;exact Fg ⟨F,ρ',H0',o,R',e,k.back s,k2⟩
abbrev FG:=D->aV->Option aV
def tFG(G:Bg)(n:Nat)(g:FG):TG:=λv σ H Q=>∃F ρ H0 d ρ',oA G F σ ρ H0 H/\Rep G H0 d v/\g d ρ=some ρ'/\∀σ',σ'.drop n=σ.drop n->oA G F σ' ρ' H0 H->Q σ' H
def Lw(G:Bg)(n:Nat)(g:aC->aV->Option aV):TGs:=λvs σ H Q=>∃F ρ H0 ds ρ',oA G F σ ρ H0 H/\oi G H0 ds vs/\g ds ρ=some ρ'/\∀σ',σ'.drop n=σ.drop n->oA G F σ' ρ' H0 H->Q σ' H
theorem PG.weak{t t':TG}(h:PG X e t)(w:∀v σ H Q,t' v σ H Q->t v σ H Q):PG X e t':=λpins s σ H x u Q I r hq=>h pins s σ H x u Q I r (w _ _ _ _ hq)
theorem PGs.weak{e:List Expr}{t t':TGs}(h:PGs X e t)(w:∀v σ H Q,t' v σ H Q->t v σ H Q):PGs X e t':=λpins s σ H x u Q I r hq=>h pins s σ H x u Q I r (w _ _ _ _ hq)
def gN(i:Nat):FG:=λd ρ=>some (ρ.set i (.im d))
theorem Fn{α:Type}{l:List α}{n:Nat}{x:α}(h:i<n):(l.set i x).drop n=l.drop n:=by apply mh;intro j;rw[dB,dB,bG,ak (by omega)]
theorem Lx(n:Nat)(h:PG X tg (t8 i))(hi:i<n):PG X tg (tFG G n (gN i)):=PG.weak h λv σ H Q hh=>by obtain⟨F,ρ,H0,d,ρ',R,r,e,k⟩:=hh;cases e;exact k _ (Fn hi) (R.setIm i r)
def qA:aC->aV->Option aV:=λds ρ=>match ds with
 |[]=>some ρ
 |_=>none
def oG(g:FG)(gs:aC->aV->Option aV):aC->aV->Option aV:=λds ρ=>match ds with
 |d::r=>match g d ρ with
  |some ρ'=>gs r ρ'
  |none=>none
 |[]=>none
theorem OO{n:Nat}(h:PGs X [] Rk):PGs X [] (Lw G n qA):=PGs.weak h λv σ H Q hh=>by
 obtain⟨F,ρ,H0,ds,ρ',R,r,e,k⟩:=hh;cases ds with
 |nil=>cases e;unfold oi at r;exact⟨r,k _ rfl R⟩
 |cons d ds=>cases e
theorem Ly{n:Nat}{g:FG}(h:PGs X (e::es) (HX (tFG G n g) (Lw G n gs))):PGs X (e::es) (Lw G n (oG g gs)):=PGs.weak h λv σ H Q hh=>by
 obtain⟨F,ρ,H0,ds,ρ',R,r,e,k⟩:=hh;cases ds with
 |nil=>cases e
 |cons d ds=>
  unfold oi at r;obtain⟨v1,r1,rfl,q1,q2⟩:=r;unfold oG at e;cases e1:g d ρ with
  |none=>simp only[e1]at e;cases e
  |some ρ1=>simp only[e1]at e;exact⟨v1,r1,rfl,F,ρ,H0,d,ρ1,R,q1,e1,λσ' s R'=>⟨F,ρ1,H0,ds,ρ',R',q2,e,λσ'' s' R''=>k _ (s'.trans s) R''⟩⟩
def gT(gs:aC->aV->Option aV)(n:Nat):FG:=λd ρ=>match d with
 |.tup ds=>if ds.length=n then gs ds ρ else none
 |_=>none
theorem OP{n m:Nat}{k:Nat}(h:PG X (.Tuple es k pos) (N6 G.K m (Lw G n gs))):PG X (.Tuple es k pos) (tFG G n (gT gs m)):=PG.weak h λv σ H Q hh=>by
 obtain⟨F,ρ,H0,d,ρ',R,r,e,k⟩:=hh;cases d with
 |tup ds=>
  unfold gT at e;simp only at e;split at e
  ·rename_i hl;unfold Rep at r;obtain⟨a,xs,rfl,h1,h2⟩:=r;exact⟨a,xs,rfl,SqT.mono R.sub h1,by rw[<-om h2];exact hl,F,ρ,H0,ds,ρ',R,h2,e,k⟩
  ·cases e
 |_=>cases e
def G0(f:FE)(g:FG):FS:=λρ=>match f ρ with
 |some (d,ρ')=>match g d ρ' with
  |some ρ2=>some (.nx ρ2)
  |none=>none
 |none=>none
theorem OQ{g:FG}{n:Nat}(h:PS X st (yJ (tF G f) (tFG G n g))):PS X st (tFS G (G0 f g)):=PS.weak h λE σ H hh=>by
 obtain⟨F,ρ,H0,o,R,e,k,k2⟩:=hh;unfold G0 at e;rcases oP (f:=f) (ρ:=ρ)with e1|⟨d,ρ',e1⟩<;>simp only[e1]at e
 ·cases e
 ·cases e2:g d ρ' with
  |none=>simp only[e2]at e;cases e
  |some ρ2=>simp only[e2]at e;cases e;exact⟨F,ρ,H0,d,ρ',R,e1,λv H0' H' s R' r=>⟨F,ρ',H0',d,ρ2,R',r,e2,λσ' _ R2=>k _ _ _ s R2⟩⟩
def oQ(i:Nat)(f:FE):FS:=λρ=>match f ρ with
 |some (d,ρ')=>some (.nx (ρ'.set i (.im d)))
 |none=>none
theorem Ir(h:PS X st (yJ (tF G f) (t8 i))):PS X st (tFS G (oQ i f)):=PS.weak h λE σ H hh=>by
 obtain⟨F,ρ,H0,o,R,e,k,k2⟩:=hh;unfold oQ at e;rcases oP (f:=f) (ρ:=ρ)with e1|⟨d,ρ',e1⟩<;>simp only[e1]at e
 ·cases e
 ·cases e;exact⟨F,ρ,H0,d,ρ',R,e1,λv H0' H' s R' r=>k _ _ _ s (R'.setIm i r)⟩
def tm(i:Nat)(f:FA):FS:=λρ=>match f ρ with
 |some (d,ρ')=>some (.nx (ρ'.set i (.ls d)))
 |none=>none
theorem LA{f:FA}(h:PS X st (yJ (tFN G f) (t8 i))):PS X st (tFS G (tm i f)):=PS.weak h λE σ H hh=>by
 obtain⟨F,ρ,H0,o,R,e,k,k2⟩:=hh;unfold tm at e;rcases oP (f:=f) (ρ:=ρ)with e1|⟨d,ρ',e1⟩<;>simp only[e1]at e
 ·cases e
 ·cases e;exact⟨F,ρ,H0,d,ρ',R,e1,λp xs H0' H' s R' h1 h2 h3 h4 h5=>k _ _ _ s (R'.setLs i h1 h2 h3 h4 h5)⟩
def stE(n:Nat)(ds:aC):aV:=ds.map Sl.im++f7 (n - ds.length) .un
def fnD(np n:Nat)(f:FS):aC->Option D:=λds=>if ds.length=np then match f (stE n ds)with
 |some (.rt d _)=>some d
 |some (.rn ds _)=>some (.lst ds)
 |some (.nx _)=>some .non
 |_=>none
 else none
def fnN(np n:Nat)(f:FS):aC->Option aC:=λds=>if ds.length=np then match f (stE n ds)with
 |some (.rn ds _)=>some ds
 |_=>none
 else none
def spF(G:Bg)(g:aC->Option D):Sp:=λvs H Q _=>∃H0 ds d,ox H0 H/\oi G H0 ds vs/\g ds=some d/\
 ∀v H0' H',ox H0 H0'->ox H0' H'->ox H H'->(∀b o,H0' b=some o->H0 b=some o\/H b=none)->Rep G H0' d v->Q v H'
def spN(G:Bg)(g:aC->Option aC):Sp:=λvs H Q _=>∃H0 ds d,ox H0 H/\oi G H0 ds vs/\g ds=some d/\
 ∀p xs H0' H',ox H0 H0'->ox H0' H'->ox H H'->(∀b o,H0' b=some o->H0 b=some o\/H b=none)->H p=none->H' p=some (.lst xs)->H0' p=none->oi G H0' d xs->Q (.ref p) H'
theorem A7{n:Nat}{s:Sl}(h:(stE n ds)[i]?=some s):s=.un\/∃d,ds[i]?=some d/\s=.im d:=by
 unfold stE at h;by_cases hi:i<ds.length
 ·rw[c7 (by simpa using hi),bc,aS hi]at h;cases h;exact .inr ⟨_,aS hi,rfl⟩
 ·rw[c6 (by simpa using hi),fM]at h;split at h
  ·cases h;exact .inl rfl
  ·cases h
theorem sG{v:V}(h:vs[i]?=some v):((L2.start N vs)[i]?).join=some v:=by unfold L2.start;have hi:=(bN.mp h).1;rw[c7 (by simpa using hi),bc,h];rfl
theorem zI{H:Hp}(s:ox H0 H)(r:oi G H0 ds vs)(hl:vs.length<=N.length):oA G ⟨H0,H,[]⟩ (L2.start N vs) (stE N.length ds) H0 H where
 sub:=s
 g0:=ox.refl _
 keep:=λb o e _=>e
 fr:=λb o e=>.inl e
 am:=λa h=>by cases h
 len:=by unfold L2.start stE;rw[aJ,aJ,ah,ah,cg,cg,om r]
 sl:=λi t e=>by
  rcases A7 e with rfl|⟨d,e1,rfl⟩
  ·trivial
  ·obtain⟨v,e2,e3⟩:=qp r e1;exact⟨v,sG e2,e3⟩
 ap:=λi j t u a _ e _ ht=>by rcases A7 e with rfl|⟨d,_,rfl⟩<;>cases ht
theorem Fo{n:Nat}{f:FS}(h:fnD np n f ds=some d):ds.length=np/\((∃ρ,f (stE n ds)=some (.rt d ρ))\/(∃xs ρ,f (stE n ds)=some (.rn xs ρ)/\d=.lst xs)\/∃ρ,f (stE n ds)=some (.nx ρ)/\d=.non):=by
 unfold fnD at h;split at h
 ·rename_i hl;refine⟨hl,?_⟩;split at h
  ·rename_i e;cases h;exact .inl ⟨_,e⟩
  ·rename_i e;cases h;exact .inr (.inl ⟨_,_,e,rfl⟩)
  ·rename_i e;cases h;exact .inr (.inr ⟨_,e,rfl⟩)
  ·cases h
 ·cases h
theorem Fp{n:Nat}{f:FS}{xs:aC}(h:fnN np n f ds=some xs):ds.length=np/\∃ρ,f (stE n ds)=some (.rn xs ρ):=by
 unfold fnN at h;split at h
 ·rename_i hl;refine⟨hl,?_⟩;split at h
  ·rename_i e;cases h;exact⟨_,e⟩
  ·cases h
 ·cases h
end
variable{E:XK}
theorem OR{f:FS}{H:Hp}{Q:VK}(hN:np<=N.length)(h:spF G (fnD np N.length f) vs H Q E):tFS G f { nx:=λ_ H'=>Q .non H',rt:=Q } (L2.start N vs) H:=by
 obtain⟨H0,ds,d,s,r,e,k⟩:=h;obtain⟨hl,e'⟩:=Fo e;clear e;have R:=zI (N:=N) s r (by rw[<-om r,hl];exact hN);have fin:∀{σ':St} {ρ':aV} {H0' H':Hp},oA G ⟨H0,H,[]⟩ σ' ρ' H0' H'->ox H H'/\ox H0' H'/\∀b o,H0' b=some o->H0 b=some o\/H b=none:=λR'=>⟨λb o e=>R'.keep b o e (by simp),R'.sub,R'.fr⟩;rcases e' with ⟨ρ,e⟩|⟨xs,ρ,e,rfl⟩|⟨ρ,e,rfl⟩
 ·refine⟨_,_,H0,_,R,e,λv σ' H0' H' s' R' rv=>?_,λ_=>rfl⟩;obtain⟨h1,h2,h3⟩:=fin R';exact k v H0' H' s' h2 h1 h3 rv
 ·refine⟨_,_,H0,_,R,e,λp ys σ' H0' H' s' R' hp h0 hb ap rs=>?_,λ_=>rfl⟩;have R2:=R'.freeze hp h0 hb ap;obtain⟨h1,h2,h3⟩:=fin R2;exact k _ _ H' (s'.trans (oI h0 _)) h2 h1 h3 (sQ oq (oi.mono (oI h0 _) _ _ rs))
 ·refine⟨_,_,H0,_,R,e,λσ' H0' H' s' R'=>?_,λ_=>rfl⟩;obtain⟨h1,h2,h3⟩:=fin R';exact k _ H0' H' s' h2 h1 h3 yP
theorem OS{f:FS}{H:Hp}{Q:VK}(hN:np<=N.length)(h:spN G (fnN np N.length f) vs H Q E):tFS G f { nx:=λ_ H'=>Q .non H',rt:=Q } (L2.start N vs) H:=by obtain⟨H0,ds,d,s,r,e,k⟩:=h;obtain⟨hl,ρ,e⟩:=Fp e;have R:=zI (N:=N) s r (by rw[<-om r,hl];exact hN);refine⟨_,_,H0,_,R,e,λp ys σ' H0' H' s' R' hp h0 hb ap rs=>?_,λ_=>rfl⟩;exact k p ys H0' H' s' R'.sub (λb o e=>R'.keep b o e (by simp)) R'.fr hb hp h0 rs
theorem VZ{g:aC->Option D}(hg:∀ds d,g ds=some d->ds.length=np):∀vs H Q E,spF G g vs H Q E->vs.length=np:=λvs H Q E h=>by obtain⟨H0,ds,d,_,r,e,_⟩:=h;rw[<-om r];exact hg _ _ e
theorem V1{g:aC->Option aC}(hg:∀ds d,g ds=some d->ds.length=np):∀vs H Q E,spN G g vs H Q E->vs.length=np:=λvs H Q E h=>by obtain⟨H0,ds,d,_,r,e,_⟩:=h;rw[<-om r];exact hg _ _ e
theorem OT{n:Nat}{f:FS}:∀ds d,fnD np n f ds=some d->ds.length=np:=λ_ _ h=>(Fo h).1
theorem OU{n:Nat}{f:FS}:∀ds d,fnN np n f ds=some d->ds.length=np:=λ_ _ h=>(Fp h).1
def zJ{α:Type}(g:aC->Option α)(a:FA):aV->Option (α×aV):=λρ=>match a ρ with
 |some (ds,ρ')=>match g ds with
  |some d=>some (d,ρ')
  |none=>none
 |none=>none
abbrev oa(g:aC->Option D)(a:FA):FE:=zJ g a
abbrev oX(g:aC->Option aC)(a:FA):FA:=zJ g a
theorem yk{α:Type}{g:aC->Option α}{a:FA}{d:α}(h:zJ g a ρ=some (d,ρ')):∃ds,a ρ=some (ds,ρ')/\g ds=some d:=by
 unfold zJ at h;rcases oP (f:=a) (ρ:=ρ)with e1|⟨ds,ρ1,e1⟩<;>simp only[e1]at h
 ·cases h
 ·cases e2:g ds with
  |none=>simp only[e2]at h;cases h
  |some x=>simp only[e2]at h;cases h;exact⟨ds,e1,e2⟩
variable{dvs:bh}{dds:aC}
section
variable{X:Cx}{G:Bg}
theorem OV{g:aC->Option D}{a:FA}(hd:∀H,oi G H dds dvs):∀σ H Q,tF G (oa (λds=>g (ds++dds)) a) σ H Q->xP (spF G g) dvs E (tFA G a) σ H Q:=λσ H Q hh=>by obtain⟨F,ρ,H0,d,ρ',R,e,k⟩:=hh;obtain⟨ds,e1,e2⟩:=yk e;refine⟨F,ρ,H0,ds,ρ',R,e1,λxs H1 H1' s R' rs=>⟨H1,ds++dds,d,R'.sub,qF rs (hd _),e2,λv H2 H2' s1 s2 s3 fr rv=>?_⟩⟩;exact k v H2 H2' (s.trans s1) (R'.grow s3 s1 s2 fr) rv
theorem OW{g:aC->Option aC}{a:FA}(hd:∀H,oi G H dds dvs):∀σ H Q,tFN G (oX (λds=>g (ds++dds)) a) σ H Q->xP (spN G g) dvs E (tFA G a) σ H Q:=λσ H Q hh=>by obtain⟨F,ρ,H0,d,ρ',R,e,k⟩:=hh;obtain⟨ds,e1,e2⟩:=yk e;refine⟨F,ρ,H0,ds,ρ',R,e1,λxs H1 H1' s R' rs=>⟨H1,ds++dds,d,R'.sub,qF rs (hd _),e2,λp ys H2 H2' s1 s2 s3 fr hn hp h0 rv=>?_⟩⟩;exact k p ys H2 H2' (s.trans s1) (R'.grow s3 s1 s2 fr) hp h0 (R'.bNone hn) (R'.apart hn) rv
end
variable{ff:FE}{m:Str}{ta:TE}{apos:Pos}{c:Nat}
section
variable{X:Cx}{G:Bg}
theorem OX{g:aC->Option D}{a:FA}(hd:∀H,oi G H dds dvs)(h:PE X e (xP (spF G g) dvs E (tFA G a))):PE X e (tF G (oa (λds=>g (ds++dds)) a)):=PE.weak h (OV hd)
theorem LB{g:aC->Option aC}{a:FA}(hd:∀H,oi G H dds dvs)(h:PE X e (xP (spN G g) dvs E (tFA G a))):PE X e (tFN G (oX (λds=>g (ds++dds)) a)):=PE.weak h (OW hd)
theorem JO{g:aC->Option aC}(h:PE X e (xP (spN G g) [] E E4)):PE X e (tFN G (oX g oF)):=PE.weak h λσ H Q hh=>by obtain⟨F,ρ,H0,d,ρ',R,e,k⟩:=hh;obtain⟨ds,e1,e2⟩:=yk e;cases e1;exact⟨H0,[],d,R.sub,o5,e2,λp ys H2 H2' s1 s2 s3 fr hn hp h0 rv=>k p ys H2 H2' s1 (R.grow s3 s1 s2 fr) hp h0 (R.bNone hn) (R.apart hn) rv⟩
def JP:aE->aC->Str->Option D
 |n::ns,d::ds,f=>if n=f then some d else JP ns ds f
 |_,_,_=>none
theorem Dn{H:Hp}:∀{ns:aE} {ds:aC} {xs:bh} {f:Str} {d:D},oi G H ds xs->JP ns ds f=some d->∃v,(ns.zip xs).lookup f=some v/\Rep G H d v
 |[],ds,xs,f,d,r,e=>by simp[JP]at e
 |n::ns,[],xs,f,d,r,e=>by simp[JP]at e
 |n::ns,d'::ds,xs,f,d,r,e=>by
  unfold oi at r;obtain⟨v,q,rfl,h1,h2⟩:=r;unfold JP at e;by_cases hn:n=f
  ·rw[aj hn]at e;cases e;subst hn;exact⟨v,by simp[cJ],h1⟩
  ·rw[ak hn]at e;obtain⟨w,e1,e2⟩:=Dn h2 e;refine⟨w,?_,e2⟩;have hb:(f==n)=false:=beq_eq_false_iff_ne.mpr λz=>hn z.symm;simp only[dD,cJ,hb];exact e1
def oN(ok:Nat->Bool)(f:Str):D->Option D
 |.obj c ns ds=>if ok c=true then JP ns ds f else none
 |_=>none
theorem LC{f:Str}{ok:Nat->Bool}(he:PE X e (tF G ff))(hc:∀c,ok c=true->Cls X.K (G.ca c)/\ub X.K (G.ca c) f)(hb:attributeBase e f X.env (eval e X.env)=eval e X.env:=by rfl):PE X (.Attribute e f pos) (tF G (c1 (oN ok f) ff)):=PE.weak (RD he hb) λσ H Q hh=>by
 obtain⟨F,ρ,H0,d,ρ',R,e,k⟩:=hh;obtain⟨x,e1,e2⟩:=A6 e;cases x with
 |obj c ns ds=>
  unfold oN at e2;simp only at e2;split at e2
  ·rename_i hk;refine⟨F,ρ,H0,_,ρ',R,e1,λv H1 H1' s R' r=>?_⟩;unfold Rep at r;obtain⟨a,dx,xs,rfl,h1,h2,h3⟩:=r;obtain⟨w,l1,l2⟩:=Dn h3 e2;exact⟨a,_,dx,_,w,rfl,R'.sub _ _ h1,(hc c hk).1,(hc c hk).2,l1,k _ _ _ s R' l2⟩
  ·cases e2
 |_=>cases e2
def MOk(X:Cx)(C:Addr)(m:Str)(sp:Sp)(dvs:bh)(E:XK):Prop:=∃(k:Nat) (f:Addr) (fd:bD) (ps:aE) (ds:List aa),Cls X.K C/\Meth X.K C m f/\sE X.prog X.w X.K X.mg X.base CX0 k f fd ps sp/\qc k X.A/\Binds X.K fd ps ds/\Vals dvs ds/\Passes CX0 X E
def o9(g:Nat->Option (aC->Option D))(m:Str)(f:FE)(a:FA):FE:=λρ=>match f ρ with
 |some (.obj c ns ds,ρ1)=>match g c with
  |some h=>if ns.contains m=true then none else match a ρ1 with
   |some (es,ρ2)=>match h (.obj c ns ds::es)with
    |some d=>some (d,ρ2)
    |none=>none
   |none=>none
  |none=>none
 |_=>none
theorem BB{g:Nat->Option (aC->Option D)}{a:FA}(h:o9 g m f a ρ=some (d,ρ')):
  ∃c ns ds ρ1 hh es,f ρ=some (.obj c ns ds,ρ1)/\g c=some hh/\ns.contains m=false/\a ρ1=some (es,ρ')/\hh (.obj c ns ds::es)=some d:=by
 unfold o9 at h;split at h
 ·rename_i c ns ds ρ1 e1;cases e2:g c with
  |none=>simp only[e2]at h;cases h
  |some hh=>
   simp only[e2]at h;cases e3:ns.contains m with
   |true=>simp only[e3,if_true]at h;cases h
   |false=>
    simp only[e3,ee,if_false]at h;rcases oP (f:=a) (ρ:=ρ1)with e4|⟨es,ρ2,e4⟩<;>simp only[e4]at h
    ·cases h
    ·cases e5:hh (.obj c ns ds::es)with
     |none=>simp only[e5]at h;cases h
     |some x=>simp only[e5]at h;cases h;exact⟨c,ns,ds,ρ1,hh,es,e1,e2,e3,e4,e5⟩
 ·cases h
theorem ym{m:Str}:∀{ns:aE} {xs:bh},ns.contains m=false->(ns.zip xs).lookup m=none
 |[],xs,h=>rfl
 |n::ns,[],h=>rfl
 |n::ns,x::xs,h=>by rw[l5,jq]at h;simp only[dD,cJ,h.1];exact ym h.2
theorem LD{o:Expr}{t:TA}{pl:Sem Bool}(T:Addr->Sp->Prop)(hT:∀C sp,T C sp->MOk X C m sp dvs E)(he:PE X o ta)(ha:PA X (e::es) t)
  (hst:starEach (e::es) X.env=(false,eval e X.env)::starEach es X.env:=by rfl) (hpl:(backTo pos (starEach es X.env)).any (·.1)=false:=by rfl)
  (ht:eval (.Call (.Attribute o m apos) (e::es) [] pos) X.env=(do
   let ov<-eval o X.env
   standAt apos.atName
   let (f,first)<-holding [ov] (getMethod ov m pl)
   callWith pos f first (backTo pos (starEach (e::es) X.env)) (backToKw pos (keywordEach [] X.env))):=by rfl):
  PE X (.Call (.Attribute o m apos) (e::es) [] pos) (λσ H Q=>ta σ H λx H1=>∃a C dx fs sp,x=.ref a/\H1 a=some (.ins C dx fs)/\T C sp/\fs.lookup m=none/\t σ H1 λvs H2=>sp (x::(vs++dvs)) H2 Q E):=by
 intro pins s σ H Q I h;refine mQ (pl:=pl) (thn (he pins s σ H _ I h) λu s1 ⟨x,H1,I1,rx,a,C,dx,fs,sp,ex,ea,ht,l,q⟩=>?_) ht;obtain⟨k,f,fd,ps,ds,c,hm,F,hr,hb,hd,hx⟩:=hT C sp ht;subst ex;obtain rfl:u=Value.ref a:=rx;refine Bl I1 ea c hm l ?_;refine j3 (first:=[.ref a]) (h₀:=X.base) I.ok.mod.kin hm.kp (thn (ha pos pins s1 σ H1 _ I1 q) λus s2 ⟨vs,H2,I2,r,q2⟩=>⟨I2.kIn,?_⟩) hst hpl;exact Ea (us:=.ref a::us) (vs:=.ref a::vs) F hr hb hd hx I2 (.cons rfl r) q2
theorem JQ{o:Expr}{pl:Sem Bool}(T:Addr->Sp->Prop)(hT:∀C sp,T C sp->MOk X C m sp dvs E)(he:PE X o ta)
  (ht:eval (.Call (.Attribute o m apos) [] [] pos) X.env=(do
   let ov<-eval o X.env
   standAt apos.atName
   let (f,first)<-holding [ov] (getMethod ov m pl)
   callWith pos f first (backTo pos (starEach [] X.env)) (backToKw pos (keywordEach [] X.env))):=by rfl):
  PE X (.Call (.Attribute o m apos) [] [] pos) (λσ H Q=>ta σ H λx H1=>∃a C dx fs sp,x=.ref a/\H1 a=some (.ins C dx fs)/\T C sp/\fs.lookup m=none/\sp (x::dvs) H1 Q E):=by
 intro pins s σ H Q I h;refine mQ (pl:=pl) (thn (he pins s σ H _ I h) λu s1 ⟨x,H1,I1,rx,a,C,dx,fs,sp,ex,ea,ht,l,q⟩=>?_) ht;obtain⟨k,f,fd,ps,ds,c,hm,F,hr,hb,hd,hx⟩:=hT C sp ht;subst ex;obtain rfl:u=Value.ref a:=rx;refine Bl I1 ea c hm l ?_;exact W.callWith_K0 (first:=[.ref a]) I1.kIn hm.kp (Ea (us:=[.ref a]) (vs:=[.ref a]) F hr hb hd hx I1 (.cons rfl .nil) q)
def MT(G:Bg)(g:Nat->Option (aC->Option D)):Addr->Sp->Prop:=λC sp=>∃c h,g c=some h/\C=G.ca c/\sp=spF G h
theorem OY{o:Expr}{a:FA}{g:Nat->Option (aC->Option D)}(h:PE X (.Call (.Attribute o m apos) (e::es) [] pos) (λσ H Q=>tF G f σ H λx H1=>∃a' C dx fs sp,x=.ref a'/\H1 a'=some (.ins C dx fs)/\MT G g C sp/\fs.lookup m=none/\tFA G a σ H1 λvs H2=>sp (x::(vs++[])) H2 Q E)):
  PE X (.Call (.Attribute o m apos) (e::es) [] pos) (tF G (o9 g m f a)):=PE.weak h λσ H Q hh=>by
 obtain⟨F,ρ,H0,d,ρ',R,e,k⟩:=hh;obtain⟨c,ns,ds,ρ1,hh,es',e1,e2,e3,e4,e5⟩:=BB e;refine⟨F,ρ,H0,_,ρ1,R,e1,λv H1 H1' s R' r=>?_⟩;have r0:=r;unfold Rep at r;obtain⟨a',dx,xs,rfl,h1,h2,h3⟩:=r;refine⟨a',_,dx,_,_,rfl,R'.sub _ _ h1,⟨c,hh,e2,rfl,rfl⟩,ym e3,F,ρ1,H1,es',ρ',R',e4,λys H2 H2' s2 R2 rs=>?_⟩;show spF G hh (V.ref a'::(ys++[])) H2' Q E;rw[bp];exact⟨H2,_,d,R2.sub,oZ (Rep.mono s2 _ _ r0) rs,e5,λv H3 H3' t1 t2 t3 fr rv=>k v H3 H3' (s.trans (s2.trans t1)) (R2.grow t3 t1 t2 fr) rv⟩
theorem LF{o:Expr}{g:Nat->Option (aC->Option D)}(h:PE X (.Call (.Attribute o m apos) [] [] pos) (λσ H Q=>tF G f σ H λx H1=>∃a' C dx fs sp,x=.ref a'/\H1 a'=some (.ins C dx fs)/\MT G g C sp/\fs.lookup m=none/\sp (x::[]) H1 Q E)):
  PE X (.Call (.Attribute o m apos) [] [] pos) (tF G (o9 g m f oF)):=PE.weak h λσ H Q hh=>by
 obtain⟨F,ρ,H0,d,ρ',R,e,k⟩:=hh;obtain⟨c,ns,ds,ρ1,hh,es',e1,e2,e3,e4,e5⟩:=BB e;cases e4;refine⟨F,ρ,H0,_,_,R,e1,λv H1 H1' s R' r=>?_⟩;have r0:=r;unfold Rep at r;obtain⟨a',dx,xs,rfl,h1,h2,h3⟩:=r;refine⟨a',_,dx,_,_,rfl,R'.sub _ _ h1,⟨c,hh,e2,rfl,rfl⟩,ym e3,?_⟩;exact⟨H1,_,d,R'.sub,oZ r0 o5,e5,λv H3 H3' t1 t2 t3 fr rv=>k v H3 H3' (s.trans t1) (R'.grow t3 t1 t2 fr) rv⟩
def spI(G:Bg)(c:Nat)(g:aC->Option (aE×aC)):Sp:=λvs H Q _=>∃(p dx:Addr) (us:bh) (H0:Hp) (ds:aC) (ns:aE) (es:aC),vs=.ref p::us/\H p=some (.ins (G.ca c) dx [])/\H0 p=none/\ox H0 H/\oi G H0 ds us/\g ds=some (ns,es)/\
 ∀ys dx' H0' H',ox H0 H0'->ox H0' H'->(∀b o,H b=some o->b≠p->H' b=some o)->(∀b o,H0' b=some o->H0 b=some o\/H b=none)->H0' p=none->H' p=some (.ins (G.ca c) dx' (ns.zip ys))->ns.length=ys.length->oi G H0' es ys->Q .non H'
def pD(c:Nat)(g:aC->Option (aE×aC))(a:FA):FE:=λρ=>match a ρ with
 |some (ds,ρ')=>match g ds with
  |some (ns,es)=>some (.obj c ns es,ρ')
  |none=>none
 |none=>none
theorem OZ{g:aC->Option (aE×aC)}{a:FA}(hd:∀H,oi G H dds dvs)(h:PE X e (QI (G.ca c) (spI G c g) dvs E (tFA G a))):PE X e (tF G (pD c (λds=>g (ds++dds)) a)):=PE.weak h λσ H Q hh=>by
 obtain⟨F,ρ,H0,d,ρ',R,e,k⟩:=hh;unfold pD at e;rcases oP (f:=a) (ρ:=ρ)with e1|⟨ds,ρ1,e1⟩<;>simp only[e1]at e
 ·cases e
 ·cases e2:g (ds++dds)with
  |none=>simp only[e2]at e;cases e
  |some q=>
   obtain⟨ns,es⟩:=q;simp only[e2]at e;cases e;refine⟨F,ρ,H0,ds,ρ',R,e1,λxs H1 H1' s R' rs x dx hx hdx ne=>?_⟩;have hx2:(upd H1' dx (.own x)) x=none:=by rw[oo (λz=>ne z.symm)];exact hx
   have sx:ox H1' (upd (upd H1' dx (.own x)) x (.ins (G.ca c) dx [])):=(oI hdx _).trans (oI hx2 _);refine⟨x,dx,_,H1,ds++dds,ns,es,rfl,oq,R'.h0none hx,R'.sub.trans sx,qF rs (hd _),e2,λys dx' H2 H2' t1 t2 t3 fr h0 hp hl ry=>⟨rfl,?_⟩⟩;have t4:ox H1' H2':=λb o e=>t3 b o (sx b o e) (qW e hx);have fr1:∀b o,H2 b=some o->H1 b=some o\/H1' b=none:=λb o e=>by
    rcases fr b o e with q|q
    ·exact .inl q
    ·cases z:H1' b with
     |none=>exact .inr rfl
     |some u=>rw[sx b u z]at q;cases q
   have R2:=R'.grow t4 t1 t2 fr1;have hb:F.B x=none:=R'.bNone hx;have R3:=R2.freeze hp h0 hb (λi t ei to z=>R'.apart hx i t ei to z);refine k _ _ _ (s.trans (t1.trans (oI h0 _))) R3 ?_;unfold Rep;exact⟨x,dx',ys,rfl,oq,hl,oi.mono (oI h0 _) _ _ ry⟩
def pz(c0:Nat)(i:Nat)(f:Str)(ff:FE):FS:=λρ=>match ff ρ with
 |some (d,ρ1)=>match ρ1[i]? with
  |some (.ob c ns ds)=>if c=c0 then if ns.contains f=true then none else if ds.length=ns.length then if ns.length<900 then some (.nx (ρ1.set i (.ob c (ns++[f]) (ds++[d]))))else none else none else none
  |_=>none
 |none=>none
theorem Fq{f:Str}{v:V}:∀{ns:aE} {xs:bh},ns.contains f=false->ns.length=xs.length->u7 f v (ns.zip xs)=(ns++[f]).zip (xs++[v])
 |[],[],h,l=>rfl
 |[],x::xs,h,l=>by cases l
 |n::ns,[],h,l=>by cases l
 |n::ns,x::xs,h,l=>by
  rw[l5,jq]at h;have hn:¬n=f:=λz=>by rw[z]at h;simp at h
  have ih:=Fq (f:=f) (v:=v) (ns:=ns) (xs:=xs) h.2 (by simpa using l);show u7 f v ((n,x)::ns.zip xs)=_;rw[show u7 f v ((n,x)::ns.zip xs)=(if n=f then (n,v)::ns.zip xs else (n,x)::u7 f v (ns.zip xs)) from rfl,ak hn,ih];rfl
theorem O0{c0:Nat}{f:Str}(h:PS X st (VF X.K (uN i) (tF G ff) f))(hc:Cls X.K (G.ca c0)/\ub X.K (G.ca c0) f):PS X st (tFS G (pz c0 i f ff)):=PS.weak h λE σ H hh=>by
 obtain⟨F,ρ,H0,o,R,e,k,k2⟩:=hh;unfold pz at e;rcases oP (f:=ff) (ρ:=ρ)with e1|⟨d,ρ1,e1⟩<;>simp only[e1]at e
 ·cases e
 ·split at e
  ·rename_i c ns ds e2;split at e
   ·rename_i hcc;subst hcc;split at e
    ·cases e
    rename_i hnc;split at e
    ·rename_i hl;split at e
     ·rename_i h9;cases e;refine⟨F,ρ,H0,d,ρ1,R,e1,λv H1 H1' s R' r=>?_⟩;obtain⟨a,dx,xs,e3,e4,e5,e6,e7,e8⟩:=R'.sl i _ e2;refine⟨_,qG e3,a,_,dx,_,rfl,e4,hc.1,hc.2,by rw[eZ];omega,?_⟩;have hnf:ns.contains f=false:=by simpa using hnc
      rw[Fq hnf e7];refine k _ _ _ s (R'.mut e2 rfl e3 (λH' hH=>?_) rfl);exact⟨a,dx,xs++[v],rfl,hH,e5,e6,by rw[aJ,aJ,e7];rfl,qF e8 (oZ r o5)⟩
     ·cases e
    ·cases e
   ·cases e
  ·cases e
def stI(c n:Nat)(ds:aC):aV:=.ob c [] []::stE (n - 1) ds
def fnI(c np n:Nat)(f:FS):aC->Option (aE×aC):=λds=>if ds.length=np then match f (stI c n ds)with
 |some (.nx ρ)=>match (ρ:aV)[0]? with
  |some (Sl.ob c' ns es)=>if c'=c then if ns.length=es.length then some (ns,es)else none else none
  |_=>none
 |_=>none
 else none
theorem BC{n:Nat}{f:FS}{q:aE×aC}(h:fnI c np n f ds=some q):ds.length=np/\∃ρ,f (stI c n ds)=some (.nx ρ)/\ρ[0]?=some (.ob c q.1 q.2)/\q.1.length=q.2.length:=by
 unfold fnI at h;split at h
 ·rename_i hl;refine⟨hl,?_⟩;split at h
  ·rename_i ρ e;split at h
   ·rename_i c' ns es e2;split at h
    ·rename_i hc;split at h
     ·rename_i h3;subst hc;cases h;exact⟨ρ,e,e2,h3⟩
     ·cases h
    ·cases h
   ·cases h
  ·cases h
 ·cases h
theorem Iu{f:FS}{H:Hp}{Q:VK}(hN:np+1<=N.length)(h:spI G c (fnI c np N.length f) vs H Q E):tFS G f { nx:=λ_ H'=>Q .non H',rt:=Q } (L2.start N vs) H:=by
 obtain⟨p,dx,us,H0,ds,ns,es,rfl,hp,h0,s,r,e,k⟩:=h;obtain⟨hl,ρ,e1,e2,e3⟩:=BC e;have hul:us.length=np:=by rw[<-om r];exact hl
 have gets:∀{i:Nat} {t:Sl},(stI c N.length ds)[i]?=some t->(i=0/\t=.ob c [] [])\/t=.un\/∃(j:Nat) (d:D),i=j+1/\ds[j]?=some d/\t=.im d:=λ{i t} e=>by
  cases i with
  |zero=>cases e;exact .inl ⟨rfl,rfl⟩
  |succ j=>
   have e':(stE (N.length - 1) ds)[j]?=some t:=e;rcases A7 e' with rfl|⟨d,e1,rfl⟩
   ·exact .inr (.inl rfl)
   ·exact .inr (.inr ⟨j,d,rfl,e1,rfl⟩)
 have R:oA G ⟨H0,H,[p]⟩ (L2.start N (.ref p::us)) (stI c N.length ds) H0 H:={
  sub:=s
  g0:=ox.refl _
  keep:=λb o e _=>e
  fr:=λb o e=>.inl e
  am:=λa ha=>by
   have ea:a=p:=by simpa using ha
   subst ea;exact⟨_,hp⟩
  len:=by unfold L2.start stI stE;simp only[aJ,ah,cg,aI];have:=om r;omega
  sl:=λi t e=>by
   rcases gets e with ⟨rfl,rfl⟩|rfl|⟨j,d,rfl,e1,rfl⟩
   ·exact⟨p,dx,[],sG rfl,hp,h0,by simp,rfl,o5⟩
   ·trivial
   ·obtain⟨v,e2,e3⟩:=qp r e1;exact⟨v,sG (by simpa using e2),e3⟩
  ap:=λi j t u a hij ei ej ht hu=>by
   rcases gets ei with ⟨rfl,rfl⟩|rfl|⟨_,_,_,_,rfl⟩
   ·rcases gets ej with ⟨rfl,rfl⟩|rfl|⟨_,_,_,_,rfl⟩
    ·exact ao rfl hij
    ·cases hu
    ·cases hu
   ·cases ht
   ·cases ht }
 refine⟨_,_,H0,_,R,e1,λσ' H0' H' s' R'=>?_,λ_=>rfl⟩;obtain⟨a,dx',ys,q1,q2,q3,q4,q5,q6⟩:=R'.sl 0 _ e2;have ea:a=p:=by simpa using q4
 subst ea;exact k ys dx' H0' H' s' R'.sub (λb o e n=>R'.keep b o e (by simpa using n)) R'.fr q3 q2 q5 q6
end
def Sl.L:Sl->Option aC
 |.ls ds=>some ds
 |.pm ds=>some ds
 |_=>none
def Sl.putL:Sl->aC->Sl
 |.pm _,ds=>.pm ds
 |_,ds=>.ls ds
theorem Sl.L_own{s:Sl}(h:s.L=some ds):s.own=true:=by cases s<;>first|rfl|cases h
theorem Sl.putL_L{s:Sl}:(s.putL ds).L=some ds:=by cases s<;>rfl
section
variable{G:Bg}{F:Fr}{σ:St}{ρ:aV}{H0 H:Hp}
theorem yj.lst{o:Option V}{s:Sl}{ds:aC}(h:yj G F H0 H o s)(e:s.L=some ds):∃a xs,o=some (.ref a)/\H a=some (.lst xs)/\H0 a=none/\oi G H0 ds xs:=by
 cases s with
 |ls ds'=>cases e;obtain⟨a,xs,h1,h2,h3,h4,h5⟩:=h;exact⟨a,xs,h1,h2,h3,h5⟩
 |pm ds'=>cases e;obtain⟨a,xs,h1,h2,h3,h4,h5⟩:=h;exact⟨a,xs,h1,h2,h3,h5⟩
 |_=>cases e
theorem oA.mutL(R:oA G F σ ρ H0 H){s:Sl}{ds':aC}{xs':bh}(hi:ρ[i]?=some s)(hs:s.L=some ds)(ha:(σ[i]?).join=some (.ref a))(r:oi G H0 ds' xs'):
  oA G F σ (ρ.set i (s.putL ds')) H0 (upd H a (.lst xs')):=by
 have ok:=R.sl i s hi;rw[ha]at ok;refine R.mut hi (Sl.L_own hs) ha (λH' hH=>?_) (Sl.L_own Sl.putL_L);cases s with
 |ls ds0=>obtain⟨b,xs,h1,h2,h3,h4,h5⟩:=ok;cases h1;exact⟨a,xs',rfl,hH,h3,h4,r⟩
 |pm ds0=>obtain⟨b,xs,h1,h2,h3,h4,h5⟩:=ok;cases h1;exact⟨a,xs',rfl,hH,h3,h4,r⟩
 |_=>cases hs
end
def qH(ρ:aV)(i:Nat):Option aC:=match ρ[i]? with
 |some s=>s.L
 |none=>none
theorem rL(h:qH ρ i=some ds):∃s,ρ[i]?=some s/\s.L=some ds:=by
 unfold qH at h;cases e:ρ[i]? with
 |none=>rw[e]at h;cases h
 |some s=>rw[e]at h;exact⟨s,rfl,h⟩
def putAt(ρ:aV)(i:Nat)(ds:aC):aV:=match ρ[i]? with
 |some s=>ρ.set i (s.putL ds)
 |none=>ρ
def uc(i:Nat)(f:FE):FE:=λρ=>match qH ρ i with
 |some _=>match f ρ with
  |some (d,ρ1)=>match qH ρ1 i with
   |some ds=>if ds.length<1000 then some (.non,putAt ρ1 i (ds++[d]))else none
   |none=>none
  |none=>none
 |none=>none
section
variable{X:Cx}{G:Bg}
theorem rX{H:Hp}(R:oA G F σ ρ H0 H)(h:qH ρ i=some ds):∃a xs,σ[i]?=some (some (.ref a))/\H a=some (.lst xs)/\oi G H0 ds xs/\
  (∀ds' xs',oi G H0 ds' xs'->oA G F σ (putAt ρ i ds') H0 (upd H a (.lst xs'))):=by
 obtain⟨s,e1,e2⟩:=rL h;obtain⟨a,xs,e3,e4,e5,e6⟩:=(R.sl i s e1).lst e2;refine⟨a,xs,qG e3,e4,e6,λds' xs' r=>?_⟩;unfold putAt;rw[e1];exact R.mutL e1 e2 e3 r
theorem JR(h:PE X e (tBM G.K "list" Eh (uN i) (tFA G (n4 f oF)))):PE X e (tF G (uc i f)):=PE.weak h λσ H Q hh=>by
 obtain⟨F,ρ,H0,d,ρ',R,e,k⟩:=hh;unfold uc at e;cases e0:qH ρ i with
 |none=>simp only[e0]at e;cases e
 |some ds0=>
  simp only[e0]at e;rcases oP (f:=f) (ρ:=ρ)with e1|⟨x,ρ1,e1⟩<;>simp only[e1]at e
  ·cases e
  ·cases e2:qH ρ1 i with
   |none=>simp only[e2]at e;cases e
   |some ds=>
    simp only[e2]at e;split at e
    ·rename_i hl;cases e;obtain⟨a,xs,s1,s2,s3,_⟩:=rX R e0;refine⟨.ref a,s1,.inl ⟨rfl,xs,SqL.of s2⟩,F,ρ,H0,[x],ρ1,R,by unfold n4;rw[e1];rfl,λys H1 H1' s R' rs=>?_⟩;unfold oi at rs;obtain⟨v,r0,rfl,rv,rn⟩:=rs;unfold oi at rn;subst rn;obtain⟨a',xs',t1,t2,t3,t4⟩:=rX R' e2;rw[s1]at t1;cases t1;exact⟨a,xs',v,rfl,rfl,t2,by rw[<-om t3];exact xE (by omega),k _ _ _ s (t4 _ _ (qF t3 (oZ rv o5))) yP⟩
    ·cases e
def Iv(i:Nat):FE:=λρ=>match qH ρ i with
 |some (d::ds)=>some (d,putAt ρ i ds)
 |_=>none
theorem O1(h:PE X e (tBM G.K "list" Lc (uN i) (Bm (tC (.int 0)) E4))):PE X e (tF G (Iv i)):=PE.weak h λσ H Q hh=>by
 obtain⟨F,ρ,H0,d,ρ',R,e,k⟩:=hh;unfold Iv at e;split at e
 ·rename_i d' ds e0;cases e;obtain⟨a,xs,s1,s2,s3,s4⟩:=rX R e0;unfold oi at s3;obtain⟨v,r,rfl,r1,r2⟩:=s3;refine⟨.ref a,s1,.inl ⟨rfl,_,SqL.of s2⟩,a,v::r,0,0,v,rfl,rfl,s2,by decide,by decide,?_,rfl,?_⟩
  ·unfold seqIndex?;simp
  ·exact k _ _ _ (ox.refl _) (s4 _ _ r2) r1
 ·cases e
theorem yR{i:Int}(r:oi G H0 ds xs)(h:atI ds i=some d):∃v,atI xs i=some v/\Rep G H0 d v:=by
 unfold atI at h ⊢;rw[<-om r];cases e:ixN ds.length i with
 |none=>rw[e]at h;cases h
 |some j=>rw[e]at h;exact qp r h
def G1(i:Nat)(f:FE):FE:=λρ=>match qH ρ i with
 |some _=>match f ρ with
  |some (.int j,ρ1)=>match qH ρ1 i with
   |some ds=>match atI ds j with
    |some d=>some (d,ρ1)
    |none=>none
   |none=>none
  |_=>none
 |none=>none
theorem Sg(h:PE X e (tOp (On G.K) (uN i) (tF G f))):PE X e (tF G (G1 i f)):=PE.weak h λσ H Q hh=>by
 obtain⟨F,ρ,H0,d,ρ',R,e,k⟩:=hh;unfold G1 at e;cases e9:qH ρ i with
 |none=>simp only[e9]at e;cases e
 |some ds9=>
  simp only[e9]at e;obtain⟨a9,xs9,ev,_⟩:=rX R e9;split at e
  ·rename_i j ρ1 e1;cases e0:qH ρ1 i with
   |none=>simp only[e0]at e;cases e
   |some ds=>
    simp only[e0]at e;cases e2:atI ds j with
    |none=>simp only[e2]at e;cases e
    |some x=>simp only[e2]at e;cases e;refine⟨.ref a9,ev,F,ρ,H0,_,_,R,e1,λu H1 H1' s R' r=>?_⟩;unfold Rep at r;subst r;obtain⟨a,xs,s1,s2,s3,s4⟩:=rX R' e0;rw[ev]at s1;cases s1;obtain⟨w,w1,w2⟩:=yR s3 e2;exact⟨_,xs,j,w,rfl,rfl,SqL.of s2,w1,k _ _ _ s R' w2⟩
  ·cases e
def cFz(i:Nat):FE:=λρ=>match ρ[i]? with
 |some (.ls ds)=>some (.lst ds,ρ.set i (.im (.lst ds)))
 |some (.dk ks ds)=>some (.dic ks ds,ρ.set i (.im (.dic ks ds)))
 |some (.im d)=>some (d,ρ)
 |_=>none
theorem oA.toIm{H:Hp}(R:oA G F σ ρ H0 H){s:Sl}{o:HO}(hi:ρ[i]?=some s)(hs:(σ[i]?).join=some (.ref p))(so:s.own=true)(hp:H p=some o)(h0:H0 p=none)(hb:F.B p=none)(r:Rep G (upd H0 p o) d (.ref p)):
  oA G F σ (ρ.set i (.im d)) (upd H0 p o) H where
 sub:=λb u e=>by
  by_cases hb:b=p
  ·subst hb;rw[oq]at e;cases e;exact hp
  ·rw[oo hb]at e;exact R.sub _ _ e
 g0:=R.g0.trans (oI h0 o)
 keep:=R.keep
 fr:=λb u e=>by
  by_cases hb':b=p
  ·subst hb';exact .inr hb
  ·rw[oo hb']at e;exact R.fr _ _ e
 am:=R.am
 len:=by rw[dF];exact R.len
 sl:=λj t e=>by
  rw[bG]at e;by_cases h:i=j
  ·subst h;rw[aj rfl]at e;split at e
   ·cases e;exact⟨_,hs,r⟩
   ·cases e
  ·rw[ak h]at e;refine(R.sl j t e).grow (oI h0 o) (λa u _ _ q=>q) λa u z to q q0=>?_;rw[oo (λy=>by subst y;exact R.ap j i t s a (λy=>h y.symm) e hi to so z hs)];exact q0
 ap:=λj k t u b hjk ej ek tj tk vj vk=>by
  have gen:∀{m:Nat} {x:Sl},(ρ.set i (.im d))[m]?=some x->x.own=true->ρ[m]?=some x:=λ{m x} e xo=>by
   rw[bG]at e;by_cases h:i=m
   ·subst h;rw[aj rfl]at e;split at e
    ·cases e;cases xo
    ·cases e
   ·rw[ak h]at e;exact e
  exact R.ap j k t u b hjk (gen ej tj) (gen ek tk) tj tk vj vk
theorem oA.toImD{H:Hp}(R:oA G F σ ρ H0 H){s:Sl}{o:HO}(hi:ρ[i]?=some s)(hs:(σ[i]?).join=some (.ref p))(so:s.own=true)(h0:H0 p=none)(hb:F.B p=none)(r:Rep G (upd H0 p o) d (.ref p)):
  oA G F σ (ρ.set i (.im d)) (upd H0 p o) (upd H p o) where
 sub:=λb u e=>by
  by_cases hb:b=p
  ·subst hb;rw[oq]at e ⊢;exact e
  ·rw[oo hb]at e ⊢;exact R.sub _ _ e
 g0:=R.g0.trans (oI h0 o)
 keep:=λb u e n=>by rw[oo (λz=>by subst z;rw[hb]at e;cases e)];exact R.keep b u e n
 fr:=λb u e=>by
  by_cases hb':b=p
  ·subst hb';exact .inr hb
  ·rw[oo hb']at e;exact R.fr _ _ e
 am:=λb hm=>by
  by_cases hb':b=p
  ·subst hb';exact⟨o,oq⟩
  ·rw[oo hb'];exact R.am b hm
 len:=by rw[dF];exact R.len
 sl:=λj t e=>by
  rw[bG]at e;by_cases h:i=j
  ·subst h;rw[aj rfl]at e;split at e
   ·cases e;exact⟨_,hs,r⟩
   ·cases e
  ·rw[ak h]at e;refine(R.sl j t e).grow (oI h0 o) (λa u z to q=>?_) λa u z to q q0=>?_
   ·rw[oo (λy=>by subst y;exact R.ap j i t s a (λy=>h y.symm) e hi to so z hs)];exact q
   ·rw[oo (λy=>by subst y;exact R.ap j i t s a (λy=>h y.symm) e hi to so z hs)];exact q0
 ap:=λj k t u b hjk ej ek tj tk vj vk=>by
  have gen:∀{m:Nat} {x:Sl},(ρ.set i (.im d))[m]?=some x->x.own=true->ρ[m]?=some x:=λ{m x} e xo=>by
   rw[bG]at e;by_cases h:i=m
   ·subst h;rw[aj rfl]at e;split at e
    ·cases e;cases xo
    ·cases e
   ·rw[ak h]at e;exact e
  exact R.ap j k t u b hjk (gen ej tj) (gen ek tk) tj tk vj vk
theorem V3(h:PE X e (uN i)):PE X e (tF G (cFz i)):=PE.weak (PE.ghost h) λσ H Q hh=>by
 obtain⟨F,ρ,H0,d,ρ',R,e,k⟩:=hh;unfold cFz at e;split at e
 ·rename_i ds e0;cases e;obtain⟨a,xs,h1,h2,h3,h4,h5⟩:=R.sl i _ e0;have rr:Rep G (upd H0 a (.lst xs)) (.lst ds) (.ref a):=sQ oq (oi.mono (oI h3 _) _ _ h5);exact⟨_,qG h1,.inl (k _ _ _ (oI h3 _) (R.toIm e0 h1 rfl h2 h3 h4 rr) rr)⟩
 ·rename_i ks ds e0;cases e;obtain⟨a,xs,h1,h2,h3,h4,h5,h6⟩:=R.sl i _ e0;refine⟨_,qG h1,.inr ⟨a,_,h2,λo=>?_⟩⟩;have rr:Rep G (upd H0 a (.frz o (.dK (ks.zip xs)))) (.dic ks ds) (.ref a):=by unfold Rep;exact⟨a,o,xs,rfl,oq,h5,oi.mono (oI h3 _) _ _ h6⟩
  exact k _ _ _ (oI h3 _) (R.toImD e0 h1 rfl h3 h4 rr) rr
 ·rename_i d' e0;cases e;obtain⟨v,e2,e3⟩:=R.sl i _ e0;exact⟨v,qG e2,.inl (k _ _ _ (ox.refl _) R e3)⟩
 ·cases e
def JS(i:Nat):FA:=λρ=>match ρ[i]? with
 |some (.ls ds)=>some (ds,ρ.set i .un)
 |_=>none
theorem O2(h:PE X e (uN i)):PE X e (tFN G (JS i)):=PE.weak h λσ H Q hh=>by
 obtain⟨F,ρ,H0,d,ρ',R,e,k⟩:=hh;unfold JS at e;split at e
 ·rename_i ds e0;cases e;obtain⟨a,xs,h1,h2,h3,h4,h5⟩:=R.sl i _ e0;have gen:∀{m:Nat} {x:Sl},(ρ.set i .un)[m]?=some x->x.own=true->m≠i/\ρ[m]?=some x:=λ{m x} e xo=>by
   rw[bG]at e;by_cases h:i=m
   ·subst h;rw[aj rfl]at e;split at e
    ·cases e;cases xo
    ·cases e
   ·rw[ak h]at e;exact⟨λz=>h z.symm,e⟩
  have R':oA G F σ (ρ.set i .un) H0 H:={
   sub:=R.sub,g0:=R.g0,keep:=R.keep,fr:=R.fr,am:=R.am
   len:=by rw[dF];exact R.len
   sl:=λj t e=>by
    rw[bG]at e;by_cases h:i=j
    ·subst h;rw[aj rfl]at e;split at e
     ·cases e;trivial
     ·cases e
    ·rw[ak h]at e;exact R.sl j t e
   ap:=λj k t u b hjk ej ek tj tk vj vk=>R.ap j k t u b hjk (gen ej tj).2 (gen ek tk).2 tj tk vj vk }
  refine⟨_,qG h1,k a xs _ _ (ox.refl _) R' h2 h3 h4 (λj t ej to z=>?_) h5⟩;obtain⟨nj,ej'⟩:=gen ej to;exact R.ap j i t _ a nj ej' e0 to rfl z h1
 ·cases e
end
def spM(G:Bg)(g:aC->aC->Option (D×aC)):Sp:=λvs H Q _=>∃(a:Addr) (us xs:bh) (H0:Hp) (es ds:aC) (d:D) (es':aC),vs=.ref a::us/\H a=some (.lst xs)/\H0 a=none/\ox H0 H/\oi G H0 es xs/\oi G H0 ds us/\g es ds=some (d,es')/\
 ∀v xs' H0' H',ox H0 H0'->ox H0' H'->(∀b o,H b=some o->b≠a->H' b=some o)->(∀b o,H0' b=some o->H0 b=some o\/H b=none)->H0' a=none->H' a=some (.lst xs')->oi G H0' es' xs'->Rep G H0' d v->Q v H'
def stM(n:Nat)(es ds:aC):aV:=.pm es::stE (n - 1) ds
def Ae(ρ:aV):Option aC:=match ρ with
 |.pm es::_=>some es
 |_=>none
def fnM(np n:Nat)(f:FS):aC->aC->Option (D×aC):=λes ds=>if ds.length=np then match f (stM n es ds)with
 |some (.rt d ρ)=>match Ae ρ with
  |some es'=>some (d,es')
  |none=>none
 |some (.rn xs ρ)=>match Ae ρ with
  |some es'=>some (.lst xs,es')
  |none=>none
 |_=>none
 else none
theorem BD{es:aC}(h:Ae ρ=some es):ρ[0]?=some (.pm es):=by
 unfold Ae at h;split at h
 ·cases h;rfl
 ·cases h
variable{es':aC}
theorem Fs{n:Nat}{f:FS}{es:aC}(h:fnM np n f es ds=some (d,es')):ds.length=np/\((∃ρ,f (stM n es ds)=some (.rt d ρ)/\ρ[0]?=some (.pm es'))\/∃xs ρ,f (stM n es ds)=some (.rn xs ρ)/\ρ[0]?=some (.pm es')/\d=.lst xs):=by
 unfold fnM at h;split at h
 ·rename_i hl;refine⟨hl,?_⟩;split at h
  ·rename_i x ρ e;cases e2:Ae ρ with
   |none=>simp only[e2]at h;cases h
   |some q=>simp only[e2]at h;cases h;exact .inl ⟨ρ,e,BD e2⟩
  ·rename_i x ρ e;cases e2:Ae ρ with
   |none=>simp only[e2]at h;cases h
   |some q=>simp only[e2]at h;cases h;exact .inr ⟨x,ρ,e,BD e2,rfl⟩
  ·cases h
 ·cases h
section
variable{X:Cx}{G:Bg}
theorem O3{f:FS}{H:Hp}{Q:VK}(hN:np+1<=N.length)(h:spM G (fnM np N.length f) vs H Q E):tFS G f { nx:=λ_ H'=>Q .non H',rt:=Q } (L2.start N vs) H:=by
 obtain⟨a,us,xs,H0,es,ds,d,es',rfl,ha,h0,s,r1,r,e,k⟩:=h;obtain⟨hl,e1⟩:=Fs e;have hul:us.length=np:=by rw[<-om r];exact hl
 have gets:∀{i:Nat} {t:Sl},(stM N.length es ds)[i]?=some t->(i=0/\t=.pm es)\/t=.un\/∃(j:Nat) (d:D),i=j+1/\ds[j]?=some d/\t=.im d:=λ{i t} e=>by
  cases i with
  |zero=>cases e;exact .inl ⟨rfl,rfl⟩
  |succ j=>
   have e':(stE (N.length - 1) ds)[j]?=some t:=e;rcases A7 e' with rfl|⟨d,e1,rfl⟩
   ·exact .inr (.inl rfl)
   ·exact .inr (.inr ⟨j,d,rfl,e1,rfl⟩)
 have R:oA G ⟨H0,H,[a]⟩ (L2.start N (.ref a::us)) (stM N.length es ds) H0 H:={
  sub:=s
  g0:=ox.refl _
  keep:=λb o e _=>e
  fr:=λb o e=>.inl e
  am:=λb hb=>by
   have eb:b=a:=by simpa using hb
   subst eb;exact⟨_,ha⟩
  len:=by unfold L2.start stM stE;simp only[aJ,ah,cg,aI];have:=om r;omega
  sl:=λi t e=>by
   rcases gets e with ⟨rfl,rfl⟩|rfl|⟨j,d,rfl,e1,rfl⟩
   ·exact⟨a,xs,sG rfl,ha,h0,by simp,r1⟩
   ·trivial
   ·obtain⟨v,e2,e3⟩:=qp r e1;exact⟨v,sG (by simpa using e2),e3⟩
  ap:=λi j t u b hij ei ej ht hu=>by
   rcases gets ei with ⟨rfl,rfl⟩|rfl|⟨_,_,_,_,rfl⟩
   ·rcases gets ej with ⟨rfl,rfl⟩|rfl|⟨_,_,_,_,rfl⟩
    ·exact ao rfl hij
    ·cases hu
    ·cases hu
   ·cases ht
   ·cases ht }
 have fin:∀{v:V} {σ':St} {ρ':aV} {H0' H':Hp},ox H0 H0'->oA G ⟨H0,H,[a]⟩ σ' ρ' H0' H'->ρ'[0]?=some (.pm es')->Rep G H0' d v->Q v H':=λs' R' e2 rv=>by
  obtain⟨a',ys,q1,q2,q3,q4,q5⟩:=R'.sl 0 _ e2;have ea:a'=a:=by simpa using q4
  subst ea;exact k _ ys _ _ s' R'.sub (λb o e n=>R'.keep b o e (by simpa using n)) R'.fr q3 q2 q5 rv
 rcases e1 with ⟨ρ,e1,e2⟩|⟨zs,ρ,e1,e2,rfl⟩
 ·exact⟨_,_,H0,_,R,e1,λv σ' H0' H' s' R' rv=>fin s' R' e2 rv,λ_=>rfl⟩
 ·refine⟨_,_,H0,_,R,e1,λp ys σ' H0' H' s' R' hp hp0 hb ap rs=>?_,λ_=>rfl⟩;exact fin (s'.trans (oI hp0 _)) (R'.freeze hp hp0 hb ap) e2 (sQ oq (oi.mono (oI hp0 _) _ _ rs))
theorem QP{g:aC->aC->Option (D×aC)}(hg:∀es ds d,g es ds=some d->ds.length=np):∀vs H Q E,spM G g vs H Q E->vs.length=np+1:=λvs H Q E h=>by obtain⟨a,us,xs,H0,es,ds,d,es',rfl,_,_,_,_,r,e,_⟩:=h;rw[aI,<- om r,hg _ _ _ e]
theorem O4{n:Nat}{f:FS}:∀es ds d,fnM np n f es ds=some d->ds.length=np:=λ_ _ d h=>(Fs (d:=d.1) (es':=d.2) h).1
theorem oA.call1{H:Hp}(R:oA G F σ ρ H0 H){s:Sl}{es:aC}{b:Addr}{zs:bh}(hi:ρ[i]?=some s)(hs:s.L=some es)(hb:(σ[i]?).join=some (.ref b))
  (s1:ox H0 H0') (s2:ox H0' H') (s3:∀c o,H c=some o->c≠b->H' c=some o) (fr:∀c o,H0' c=some o->H0 c=some o\/H c=none) (h0:H0' b=none) (hz:H' b=some (.lst zs)) (r:oi G H0' es' zs):
  oA G F σ (ρ.set i (s.putL es')) H0' H':=by
 have so:=Sl.L_own hs;obtain⟨b',u,e1,e2,e3,e4⟩:=(R.sl i s hi).at so;rw[hb]at e1;cases e1;exact {
  sub:=s2
  g0:=R.g0.trans s1
  keep:=λc o e n=>by
   refine s3 c o (R.keep c o e n) λz=>?_;subst z;rcases e4 with q|q
   ·rw[q]at e;cases e
   ·exact n q
  fr:=λc o e=>by
   rcases fr c o e with q|q
   ·exact R.fr c o q
   ·exact .inr (R.bNone q)
  am:=λc hc=>by
   by_cases z:c=b
   ·subst z;exact⟨_,hz⟩
   ·obtain⟨o,q⟩:=R.am c hc;exact⟨o,s3 c o q z⟩
  len:=by rw[dF];exact R.len
  sl:=λj t e=>by
   rw[bG]at e;by_cases h:i=j
   ·subst h;rw[aj rfl]at e;split at e
    ·cases e;rw[hb];have ok:=R.sl i s hi;rw[hb]at ok;cases s with
     |ls ds0=>obtain⟨c,xs,h1,h2,h3,h4,h5⟩:=ok;cases h1;exact⟨b,zs,rfl,hz,h0,h4,r⟩
     |pm ds0=>obtain⟨c,xs,h1,h2,h3,h4,h5⟩:=ok;cases h1;exact⟨b,zs,rfl,hz,h0,h4,r⟩
     |_=>cases hs
    ·cases e
   ·rw[ak h]at e;refine(R.sl j t e).grow s1 (λc w z to q=>s3 c w q λy=>?_) λc w z to q q0=>?_
    ·subst y;exact R.ap j i t s c (λy=>h y.symm) e hi to so z hb
    ·cases y:H0' c with
     |none=>rfl
     |some o=>
      rcases fr c o y with x|x
      ·rw[x]at q0;cases q0
      ·rw[x]at q;cases q
  ap:=λj k t u c hjk ej ek tj tk vj vk=>by
   have gen:∀{m:Nat} {x:Sl},(ρ.set i (s.putL es'))[m]?=some x->∃y,ρ[m]?=some y/\(x.own=true->y.own=true):=λ{m x} e=>by
    rw[bG]at e;by_cases h:i=m
    ·subst h;exact⟨s,hi,λ_=>so⟩
    ·rw[ak h]at e;exact⟨x,e,λq=>q⟩
   obtain⟨y,ey,oy⟩:=gen ej;obtain⟨z,ez,oz⟩:=gen ek;exact R.ap j k y z c hjk ey ez (oy tj) (oz tk) vj vk }
def pW(g:aC->aC->Option (D×aC))(i:Nat)(a:FA):FE:=λρ=>match qH ρ i with
 |some _=>match a ρ with
  |some (ds,ρ1)=>match qH ρ1 i with
   |some es=>match g es ds with
    |some (d,es')=>some (d,putAt ρ1 i es')
    |none=>none
   |none=>none
  |none=>none
 |none=>none
theorem Sh{g:aC->aC->Option (D×aC)}{a:FA}(h:PE X e (xP (spM G g) [] E (Bm (uN i) (tFA G a)))):PE X e (tF G (pW g i a)):=PE.weak h λσ H Q hh=>by
 obtain⟨F,ρ,H0,d,ρ',R,e,k⟩:=hh;unfold pW at e;cases e0:qH ρ i with
 |none=>simp only[e0]at e;cases e
 |some ds0=>
  simp only[e0]at e;rcases oP (f:=a) (ρ:=ρ)with e1|⟨ds,ρ1,e1⟩<;>simp only[e1]at e
  ·cases e
  ·cases e2:qH ρ1 i with
   |none=>simp only[e2]at e;cases e
   |some es=>
    simp only[e2]at e;cases e3:g es ds with
    |none=>simp only[e3]at e;cases e
    |some q=>
     obtain⟨d1,es'⟩:=q;simp only[e3]at e;cases e;obtain⟨b,xs,s1,s2,s3,_⟩:=rX R e0;refine⟨.ref b,s1,F,ρ,H0,ds,ρ1,R,e1,λys H1 H1' s R' rs=>?_⟩;obtain⟨s,es0,es1⟩:=rL e2;obtain⟨b',xs',t1,t2,t3,t4⟩:=(R'.sl i s es0).lst es1;rw[qG t1]at s1;cases s1;refine⟨b,ys,xs',H1,es,ds,d,es',?_,t2,t3,R'.sub,t4,rs,e3,λv zs H2 H2' u1 u2 u3 fr w0 w1 w2 w3=>?_⟩
     ·show V.ref b::ys++[]=_;rw[bp]
     ·refine k _ _ _ (ox.trans ‹ox H0 H1› u1) ?_ w3;unfold putAt;rw[es0];exact R'.call1 es0 es1 t1 u1 u2 u3 fr w0 w1 w2
def Walk(G:Bg)(J:It)(ds:aC)(H0:Hp):Prop:=∀(i:Nat) (H1 H1':Hp),ox H0 H1->ox H1 H1'->
 (∀d,ds[i]?=some d->J.go i H1'/\∀x H2',J.yld i H1' x H2'->∃H2,ox H1 H2/\ox H2 H2'/\ox H1' H2'/\(∀b o,H2 b=some o->H1 b=some o\/H1' b=none)/\Rep G H2 d x)/\(i=ds.length->J.stop i H1')
def tFI(G:Bg)(f:FA):TI:=λσ H R=>∃F ρ H0 ds ρ',oA G F σ ρ H0 H/\f ρ=some (ds,ρ')/\∀J H0' H',ox H0 H0'->oA G F σ ρ' H0' H'->Walk G J ds H0'->R J H'
theorem PI.weak{t t':TI}(h:PI X tg e t)(w:∀σ H R,t' σ H R->t σ H R):PI X tg e t':=λpins s σ H R I hq=>h pins s σ H R I (w _ _ _ hq)
theorem BE(h:SqL G.K H0 a xs)(r:oi G H0 ds xs):Walk G (Itl G.K a) ds H0:=λi H1 H1' s s'=>by have h1:SqL G.K H1' a xs:=(s.trans s').seq h;refine⟨λd e=>?_,λhl=>⟨xs,h1,by rw[<-om r,hl];exact aK _⟩⟩;obtain⟨v,e1,e2⟩:=qp r e;refine⟨⟨xs,v,h1,e1⟩,λx H2' y=>?_⟩;obtain⟨e3,e4⟩:=y;have e5:=e4 xs h1;rw[e1]at e5;cases e5;subst e3;exact⟨H1,ox.refl _,s',ox.refl _,λb o e=>.inl e,Rep.mono s _ _ e2⟩
theorem LG(h:SqT G.K H0 a xs)(r:oi G H0 ds xs):Walk G (Itt G.K a) ds H0:=λi H1 H1' s s'=>by have h1:SqT G.K H1' a xs:=SqT.mono (s.trans s') h;refine⟨λd e=>?_,λhl=>⟨xs,h1,by rw[<-om r,hl];exact aK _⟩⟩;obtain⟨v,e1,e2⟩:=qp r e;refine⟨⟨xs,v,h1,e1⟩,λx H2' y=>?_⟩;obtain⟨e3,e4⟩:=y;have e5:=e4 xs h1;rw[e1]at e5;cases e5;subst e3;exact⟨H1,ox.refl _,s',ox.refl _,λb o e=>.inl e,Rep.mono s _ _ e2⟩
def iL(f:FE):FA:=λρ=>match f ρ with
 |some (.lst ds,ρ')=>some (ds,ρ')
 |some (.fzl ds,ρ')=>some (ds,ρ')
 |_=>none
def iT(f:FE):FA:=λρ=>match f ρ with
 |some (.tup ds,ρ')=>some (ds,ρ')
 |_=>none
theorem Ft(h:PI X tg e (KR G.K (tF G f))):PI X tg e (tFI G (iL f)):=PI.weak h λσ H R hh=>by
 obtain⟨F,ρ,H0,ds,ρ',R,e,k⟩:=hh;unfold iL at e;split at e
 ·rename_i ds' ρ1 e1;cases e;refine⟨F,ρ,H0,_,_,R,e1,λv H1 H1' s R' r=>?_⟩;unfold Rep at r;obtain⟨a,xs,rfl,r1,r2⟩:=r;exact⟨a,rfl,⟨xs,R'.sub.seq (SqL.of r1)⟩,k _ _ _ s R' (BE (SqL.of r1) r2)⟩
 ·rename_i ds' ρ1 e1;cases e;refine⟨F,ρ,H0,_,_,R,e1,λv H1 H1' s R' r=>?_⟩;unfold Rep at r;obtain⟨a,xs,rfl,r1,r2⟩:=r;exact⟨a,rfl,⟨xs,R'.sub.seq r1⟩,k _ _ _ s R' (BE r1 r2)⟩
 ·cases e
theorem O5(h:PI X tg e (Ro G.K (tF G f))):PI X tg e (tFI G (iT f)):=PI.weak h λσ H R hh=>by
 obtain⟨F,ρ,H0,ds,ρ',R,e,k⟩:=hh;unfold iT at e;split at e
 ·rename_i ds' ρ1 e1;cases e;refine⟨F,ρ,H0,_,_,R,e1,λv H1 H1' s R' r=>?_⟩;unfold Rep at r;obtain⟨a,xs,rfl,r1,r2⟩:=r;exact⟨a,rfl,⟨xs,SqT.mono R'.sub r1⟩,k _ _ _ s R' (LG r1 r2)⟩
 ·cases e
def yS(lo:Int)(n:Nat):aC:=(br n).map λ(i:Nat)=>D.int (lo+(i:Int))
theorem LH{lo:Int}{n:Nat}:Walk G (Itr lo n) (yS lo n) H0:=λi H1 H1' s s'=>by
 refine⟨λd e=>?_,λhl=>by show n<=i;rw[hl];simp[yS]⟩;unfold yS at e;rw[bc]at e;by_cases hi:i<n
 ·rw[lV hi]at e;cases e;refine⟨hi,λx H2' y=>?_⟩;obtain⟨e3,rfl⟩:=y;subst e3;exact⟨H1,ox.refl _,s',ox.refl _,λb o e=>.inl e,rf _⟩
 ·rw[hZ (by simpa using hi)]at e;cases e
def iR1(f:FE):FA:=λρ=>match f ρ with
 |some (.int n,ρ')=>if -1000000<=n/\n<=1000000 then some (yS 0 n.toNat,ρ')else none
 |_=>none
theorem G2(h:PI X tg e (QH (tFA G (n4 f oF)))):PI X tg e (tFI G (iR1 f)):=PI.weak h λσ H R hh=>by
 obtain⟨F,ρ,H0,ds,ρ',R,e,k⟩:=hh;unfold iR1 at e;split at e
 ·rename_i n ρ1 e1;split at e
  ·rename_i hn;cases e;refine⟨F,ρ,H0,[.int n],_,R,by unfold n4;rw[e1];rfl,λxs H1 H1' s R' rs=>?_⟩;unfold oi at rs;obtain⟨v,r0,rfl,rv,rn⟩:=rs;unfold oi at rn;unfold Rep at rv;subst rn rv;exact⟨n,rfl,by omega,by omega,k _ _ _ s R' LH⟩
  ·cases e
 ·cases e
def forL(g:FG)(b:FS):aC->FS
 |[],ρ=>some (.nx ρ)
 |d::r,ρ=>match g d ρ with
  |none=>none
  |some ρ1=>match b ρ1 with
   |some (.nx ρ2)=>forL g b r ρ2
   |some (.ct ρ2)=>forL g b r ρ2
   |some (.bk ρ2)=>some (.nx ρ2)
   |some (.rt d ρ2)=>some (.rt d ρ2)
   |some (.rn d ρ2)=>some (.rn d ρ2)
   |none=>none
def rT(s:FA)(g:FG)(b:FS):FS:=λρ=>match s ρ with
 |some (ds,ρ')=>forL g b ds ρ'
 |none=>none
theorem O6{n:Nat}{s:FA}{g:FG}{b:FS}(h:PS X st (Rq (tFI G s) (tFG G n g) (tFS G b))):PS X st (tFS G (rT s g b)):=PS.weak h λE σ H hh=>by
 obtain⟨F,ρ,H0,o,R,e,k,k2⟩:=hh;unfold rT at e;rcases oP (f:=s) (ρ:=ρ)with e1|⟨ds,ρ1,e1⟩<;>simp only[e1]at e
 ·cases e
 ·refine⟨F,ρ,H0,ds,ρ1,R,e1,λJ H1 H1' s1 R1 wk=>?_⟩;refine⟨λi m σ H=>m=ds.length - i/\i<=ds.length/\∃ρi Hi,ox H1 Hi/\oA G F σ ρi Hi H/\forL g b (ds.drop i) ρi=some o,⟨_,rfl,bZ _,ρ1,H1,ox.refl _,R1,e⟩,?_⟩;rintro i m σi Hi' ⟨rfl,hi,ρi,Hi,si,Ri,ei⟩;by_cases hlt:i<ds.length
  ·have ed:ds.drop i=ds[i]::ds.drop (i+1):=jj hlt;rw[ed]at ei;unfold forL at ei;obtain⟨go,yl⟩:=(wk i Hi Hi' si Ri.sub).1 ds[i] (aS hlt);refine .inr ⟨go,λσ' H'=>∃ρi Hi,ox H1 Hi/\oA G F σ' ρi Hi H'/\forL g b (ds.drop (i+1)) ρi=some o,λσ' H' q=>⟨ds.length - (i+1),by omega,rfl,hlt,q⟩,λx H' y=>?_⟩;obtain⟨H2,t1,t2,t3,t4,t5⟩:=yl x H' y;have R2:=Ri.grow t3 t1 t2 t4;cases e2:g ds[i] ρi with
   |none=>simp only[e2]at ei;cases ei
   |some ρ2=>
    simp only[e2]at ei;refine⟨F,ρi,H2,_,ρ2,R2,t5,e2,λσ3 _ R3=>?_⟩;have kk:=k.back (s1.trans (si.trans t1));cases e3:b ρ2 with
    |none=>simp only[e3]at ei;cases ei
    |some q=>
     refine⟨F,ρ2,H2,q,R3,e3,?_,λ_=>rfl⟩;cases q with
     |nx ρ3=>simp only[e3]at ei;exact λσ' H0' H' s' R'=>⟨ρ3,H0',si.trans (t1.trans s'),R',ei⟩
     |ct ρ3=>simp only[e3]at ei;exact λσ' H0' H' s' R'=>⟨ρ3,H0',si.trans (t1.trans s'),R',ei⟩
     |bk ρ3=>simp only[e3]at ei;cases ei;exact kk
     |rt d ρ3=>simp only[e3]at ei;cases ei;exact kk
     |rn d ρ3=>simp only[e3]at ei;cases ei;exact kk
  ·have ez:ds.drop i=[]:=lE (by omega);rw[ez]at ei;unfold forL at ei;cases ei;exact .inl ⟨(wk i Hi Hi' si Ri.sub).2 (by omega),k _ _ _ (s1.trans si) Ri⟩
def whL(c:FT)(b:FS):Nat->FS
 |0,_=>none
 |n+1,ρ=>match c ρ with
  |some (false,ρ1)=>some (.nx ρ1)
  |some (true,ρ1)=>match b ρ1 with
   |some (.nx ρ2)=>whL c b n ρ2
   |some (.ct ρ2)=>whL c b n ρ2
   |some (.bk ρ2)=>some (.nx ρ2)
   |some (.rt d ρ2)=>some (.rt d ρ2)
   |some (.rn d ρ2)=>some (.rn d ρ2)
   |none=>none
  |none=>none
theorem JT{c:FT}{b:FS}(n:Nat)(h:PS X st (KP (tFT G c) (tFS G b))):PS X st (tFS G (whL c b n)):=PS.weak h λE σ H hh=>by
 obtain⟨F,ρ,H0,o,R,e,k,k2⟩:=hh;refine⟨λm σ H=>∃ρi Hi,ox H0 Hi/\oA G F σ ρi Hi H/\whL c b m ρi=some o,⟨n,ρ,H0,ox.refl _,R,e⟩,?_⟩;rintro m σi Hi' ⟨ρi,Hi,si,Ri,ei⟩;cases m with
 |zero=>cases ei
 |succ m=>
  unfold whL at ei;rcases oP (f:=c) (ρ:=ρi)with e1|⟨t,ρ1,e1⟩
  ·simp only[e1]at ei;cases ei
  ·refine⟨F,ρi,Hi,t,ρ1,Ri,e1,λH1 H1' s1 R1=>?_⟩;cases t with
   |false=>simp only[e1]at ei;cases ei;exact Fg (k _ _ _ (si.trans s1) R1)
   |true=>
    simp only[e1]at ei;refine Fh ⟨λσ' H'=>∃ρi Hi,ox H0 Hi/\oA G F σ' ρi Hi H'/\whL c b m ρi=some o,λσ' H' q=>⟨m,eA m,q⟩,?_⟩;have kk:=k.back (si.trans s1);cases e3:b ρ1 with
    |none=>simp only[e3]at ei;cases ei
    |some q=>
     refine⟨F,ρ1,H1,q,R1,e3,?_,λ_=>rfl⟩;cases q with
     |nx ρ3=>simp only[e3]at ei;exact λσ' H0' H' s' R'=>⟨ρ3,H0',si.trans (s1.trans s'),R',ei⟩
     |ct ρ3=>simp only[e3]at ei;exact λσ' H0' H' s' R'=>⟨ρ3,H0',si.trans (s1.trans s'),R',ei⟩
     |bk ρ3=>simp only[e3]at ei;cases ei;exact kk
     |rt d ρ3=>simp only[e3]at ei;cases ei;exact kk
     |rn d ρ3=>simp only[e3]at ei;cases ei;exact kk
end
def Sl.cap:Sl->Sl
 |.im d=>.im d
 |.ls ds=>.pm ds
 |.pm ds=>.pm ds
 |_=>.un
def xM(k:Nat)(cap:List Nat)(ρ:aV):aV:=f7 k .un++cap.map λj=>((ρ[j]?).getD .un).cap
def rl:List Nat->aV->aV->Option aV
 |[],_,ρ=>some ρ
 |j::cap,t::ts,ρ=>match qH ρ j with
  |some _=>match t with
   |.pm ds=>rl cap ts (putAt ρ j ds)
   |_=>none
  |none=>rl cap ts ρ
 |_::_,[],_=>none
def sA(k:Nat)(cap:List Nat)(g:FG)(ft:FT)(fe:FE):aC->aV->Option (aC×aV)
 |[],ρ=>some ([],ρ)
 |d::r,ρ=>match g d (xM k cap ρ)with
  |none=>none
  |some ρ1=>match ft ρ1 with
   |some (true,ρ2)=>match fe ρ2 with
    |some (x,ρ3)=>match rl cap (ρ3.drop k) ρ with
     |some ρ'=>match sA k cap g ft fe r ρ' with
      |some (xs,ρ'')=>some (x::xs,ρ'')
      |none=>none
     |none=>none
    |none=>none
   |some (false,ρ2)=>match rl cap (ρ2.drop k) ρ with
    |some ρ'=>sA k cap g ft fe r ρ'
    |none=>none
   |none=>none
def oJ(k:Nat)(cap:List Nat)(s:FA)(g:FG)(ft:FT)(fe:FE):FA:=λρ=>match s ρ with
 |some (ds,ρ')=>if ds.length<=1000 then sA k cap g ft fe ds ρ' else none
 |none=>none
def pM:FT:=λρ=>some (true,ρ)
theorem vM:∀{cap:List Nat} {ts ρ ρ':aV},rl cap ts ρ=some ρ'->ρ'.length=ρ.length/\
  (∀(j:Nat) (s':Sl),ρ'[j]?=some s'->∃s,ρ[j]?=some s/\((s'=s/\(s.L≠none->j∉cap))\/∃(m:Nat) (ds ds0:aC),cap[m]?=some j/\ts[m]?=some (Sl.pm ds)/\s.L=some ds0/\s'=s.putL ds))
 |[],ts,ρ,ρ',h=>by cases h;exact⟨rfl,λj s' e=>⟨s',e,.inl ⟨rfl,λ_ z=>by cases z⟩⟩⟩
 |j0::cap,[],ρ,ρ',h=>by cases h
 |j0::cap,t::ts,ρ,ρ',h=>by
  unfold rl at h;cases e0:qH ρ j0 with
  |none=>
   simp only[e0]at h;obtain⟨h1,h2⟩:=vM h;refine⟨h1,λj s' e=>?_⟩;obtain⟨s,e1,q⟩:=h2 j s' e;refine⟨s,e1,?_⟩;rcases q with ⟨rfl,q⟩|⟨m,ds,ds0,q1,q2,q3,q4⟩
   ·refine .inl ⟨rfl,λz y=>?_⟩;rcases aL.mp y with y|y
    ·subst y;unfold qH at e0;rw[e1]at e0;exact z e0
    ·exact q z y
   ·exact .inr ⟨m+1,ds,ds0,q1,q2,q3,q4⟩
  |some ds1=>
   simp only[e0]at h;cases t with
   |pm ds=>
    simp only at h;obtain⟨s0,e1,e2⟩:=rL e0;unfold putAt at h;rw[e1]at h;simp only at h;obtain⟨h1,h2⟩:=vM h;refine⟨by rw[h1,dF],λj s' e=>?_⟩;obtain⟨s,e3,q⟩:=h2 j s' e;by_cases hj:j0=j
    ·subst hj;rw[bG,aj rfl]at e3;split at e3
     ·cases e3;refine⟨s0,e1,.inr ?_⟩;rcases q with ⟨rfl,q⟩|⟨m,ds',ds0,q1,q2,q3,q4⟩
      ·exact⟨0,ds,ds1,rfl,rfl,e2,rfl⟩
      ·refine⟨m+1,ds',ds1,q1,q2,e2,?_⟩;rw[q4];cases s0<;>rfl
     ·cases e3
    ·rw[bG,ak hj]at e3;refine⟨s,e3,?_⟩;rcases q with ⟨rfl,q⟩|⟨m,ds',ds0,q1,q2,q3,q4⟩
     ·refine .inl ⟨rfl,λz y=>?_⟩;rcases aL.mp y with y|y
      ·exact hj y.symm
      ·exact q z y
     ·exact .inr ⟨m+1,ds',ds0,q1,q2,q3,q4⟩
   |_=>cases h
def CL(cap:List Nat)(σ:St)(ρ:aV):List Addr:=cap.filterMap λj=>match qH ρ j,(σ[j]?).join with
 |some _,some (.ref a)=>some a
 |_,_=>none
theorem wJ{cap:List Nat}:a∈CL cap σ ρ ↔ ∃j∈cap,(∃ds,qH ρ j=some ds)/\(σ[j]?).join=some (.ref a):=by
 unfold CL;rw[il];constructor
 ·rintro⟨j,hj,e⟩;refine⟨j,hj,?_⟩;split at e
  ·rename_i ds a' e1 e2;cases e;exact⟨⟨ds,e1⟩,e2⟩
  ·cases e
 ·rintro⟨j,hj,⟨ds,e1⟩,e2⟩;refine⟨j,hj,?_⟩;rw[e1,e2]
variable{H1':Hp}{ft:FT}{fe:FE}
section
variable{X:Cx}{G:Bg}{F:Fr}{σ:St}{ρ:aV}{H0 H:Hp}
theorem BF{k:Nat}{cap:List Nat}{s:Sl}(h:(xM k cap ρ)[i]?=some s):s=.un\/∃m j,i=k+m/\cap[m]?=some j/\s=((ρ[j]?).getD .un).cap:=by
 unfold xM at h;by_cases hi:i<k
 ·rw[c7 (by simpa using hi),fM,aj hi]at h;cases h;exact .inl rfl
 ·rw[c6 (by simpa using mH hi),cg,bc]at h;cases e:cap[i - k]? with
  |none=>rw[e]at h;cases h
  |some j=>rw[e]at h;cases h;exact .inr ⟨i - k,j,by omega,e,rfl⟩
theorem yT{k:Nat}{cap:List Nat}{m:Nat}(h:cap[m]?=some j):((rW k cap σ)[k+m]?).join=(σ[j]?).join:=by unfold rW;rw[c6 (by simp),cg,show k+m - k=m by omega,bc,h];rfl
theorem oA.cap(R:oA G F σ ρ H0 H)(k:Nat)(cap:List Nat)(nd:cap.Nodup):oA G ⟨H0,H,CL cap σ ρ⟩ (rW k cap σ) (xM k cap ρ) H0 H where
 sub:=R.sub
 g0:=ox.refl _
 keep:=λb o e _=>e
 fr:=λb o e=>.inl e
 am:=λa ha=>by obtain⟨j,hj,⟨ds,e1⟩,e2⟩:=wJ.mp ha;obtain⟨s,e3,e4⟩:=rL e1;obtain⟨a',xs,h1,h2,_⟩:=(R.sl j s e3).lst e4;rw[e2]at h1;cases h1;exact⟨_,h2⟩
 len:=by unfold rW xM;rw[aJ,aJ,cg,cg,ah,ah]
 sl:=λi s e=>by
  rcases BF e with rfl|⟨m,j,rfl,e1,rfl⟩
  ·trivial
  ·rw[yT e1];cases e2:ρ[j]? with
   |none=>trivial
   |some s=>
    have ok:=R.sl j s e2;have mem:∀{a:Addr} {ds:aC},s.L=some ds->(σ[j]?).join=some (.ref a)->a∈CL cap σ ρ:=λh1 h2=>wJ.mpr ⟨j,cj e1,⟨_,by unfold qH;rw[e2];exact h1⟩,h2⟩;cases s with
    |un=>trivial
    |im d=>exact ok
    |ls ds=>obtain⟨a,xs,h1,h2,h3,h4,h5⟩:=ok;exact⟨a,xs,h1,h2,h3,mem rfl h1,h5⟩
    |pm ds=>obtain⟨a,xs,h1,h2,h3,h4,h5⟩:=ok;exact⟨a,xs,h1,h2,h3,mem rfl h1,h5⟩
    |dk ks ds=>trivial
    |ob c ns ds=>trivial
 ap:=λi i' s t a hii e e' so to v v'=>by
  rcases BF e with rfl|⟨m,j,rfl,e1,rfl⟩
  ·cases so
  rcases BF e' with rfl|⟨m',j',rfl,e1',rfl⟩
  ·cases to
  rw[yT e1]at v;rw[yT e1']at v';have own:∀{j:Nat},(((ρ[j]?).getD Sl.un).cap).own=true->∃s,ρ[j]?=some s/\s.own=true:=λ{j} h=>by
   cases z:ρ[j]? with
   |none=>rw[z]at h;cases h
   |some s=>rw[z]at h;refine⟨s,rfl,?_⟩;cases s<;>first|rfl|cases h
  obtain⟨s,z,zo⟩:=own so;obtain⟨s',z',zo'⟩:=own to;by_cases hj:j=j'
  ·subst hj;have:m=m':=(List.getElem?_inj (bN.mp e1).1 nd).mp (e1.trans e1'.symm);exact hii (by rw[this])
  ·exact R.ap j j' s s' a hj z z' zo zo' v v'
theorem oA.uncap(R:oA G F σ ρ H0 H){k:Nat}{cap:List Nat}{σ4:St}{ρ4:aV}(R4:oA G ⟨H0,H,CL cap σ ρ⟩ σ4 ρ4 H1 H1')(hd:σ4.drop k=(rW k cap σ).drop k)(hu:rl cap (ρ4.drop k) ρ=some ρ'):oA G F σ ρ' H1 H1':=by
 obtain⟨hl,hc⟩:=vM hu;have at4:∀{m j:Nat},cap[m]?=some j->(σ4[k+m]?).join=(σ[j]?).join:=λ{m j} e=>by
  have q:(σ4.drop k)[m]?=((rW k cap σ).drop k)[m]?:=by rw[hd]
  rw[dB,dB]at q;rw[q];exact yT e
 have nA:∀{j:Nat} {s:Sl} {a:Addr},ρ[j]?=some s->s.own=true->(σ[j]?).join=some (.ref a)->(s.L≠none->j∉cap)->a∉CL cap σ ρ:=λ{j s a} e so z hn ha=>by
  obtain⟨i,hi,⟨ds,e1⟩,e2⟩:=wJ.mp ha;obtain⟨t,e3,e4⟩:=rL e1;by_cases hij:i=j
  ·subst hij;rw[e]at e3;cases e3;exact hn (by rw[e4];simp) hi
  ·exact R.ap i j t s a hij e3 e (Sl.L_own e4) so e2 z
 have hA:∀a∈CL cap σ ρ,F.B a=none\/a∈F.A:=λa ha=>by obtain⟨i,hi,⟨ds,e1⟩,e2⟩:=wJ.mp ha;obtain⟨t,e3,e4⟩:=rL e1;obtain⟨a',u,h1,h2,h3,h4⟩:=(R.sl i t e3).at (Sl.L_own e4);rw[e2]at h1;cases h1;exact h4
 have own':∀{j:Nat} {s':Sl},ρ'[j]?=some s'->s'.own=true->∃s,ρ[j]?=some s/\s.own=true:=λ{j s'} e so=>by
  obtain⟨s,e1,q⟩:=hc j s' e;rcases q with ⟨rfl,q⟩|⟨m,ds,ds0,q1,q2,q3,q4⟩
  ·exact⟨s',e1,so⟩
  ·exact⟨s,e1,Sl.L_own q3⟩
 exact {
  sub:=R4.sub
  g0:=R.g0.trans R4.g0
  keep:=λb o e n=>by
   refine R4.keep b o (R.keep b o e n) λha=>?_;rcases hA b ha with q|q
   ·rw[q]at e;cases e
   ·exact n q
  fr:=λb o e=>by
   rcases R4.fr b o e with q|q
   ·exact R.fr b o q
   ·exact .inr (R.bNone q)
  am:=λa ha=>by
   obtain⟨o,q⟩:=R.am a ha;by_cases z:a∈CL cap σ ρ
   ·exact R4.am a z
   ·exact⟨o,R4.keep a o q z⟩
  len:=by rw[hl];exact R.len
  sl:=λj s' e=>by
   obtain⟨s,e1,q⟩:=hc j s' e;rcases q with ⟨rfl,q⟩|⟨m,ds,ds0,q1,q2,q3,q4⟩
   ·refine(R.sl j s' e1).grow R4.g0 (λa u z so y=>R4.keep a u y (nA e1 so z q)) λa u z so y y0=>?_;cases w:H1 a with
    |none=>rfl
    |some o=>
     rcases R4.fr a o w with x|x
     ·have x':H0 a=some o:=x;rw[x']at y0;cases y0
     ·have x':H a=none:=x;rw[x']at y;cases y
   ·rw[dB]at q2;obtain⟨a,xs,h1,h2,h3,h4,h5⟩:=R4.sl _ _ q2;rw[at4 q1]at h1;have ok:=R.sl j s e1;subst q4;cases s with
    |ls ds1=>obtain⟨a',xs',g1,g2,g3,g4,g5⟩:=ok;rw[h1]at g1;cases g1;exact⟨a,xs,h1,h2,h3,g4,h5⟩
    |pm ds1=>obtain⟨a',xs',g1,g2,g3,g4,g5⟩:=ok;rw[h1]at g1;cases g1;exact⟨a,xs,h1,h2,h3,g4,h5⟩
    |_=>cases q3
  ap:=λi j s t a hij ei ej so to v v'=>by
   obtain⟨s0,z,zo⟩:=own' ei so;obtain⟨t0,y,yo⟩:=own' ej to;exact R.ap i j s0 t0 a hij z y zo yo v v' }
theorem wK{k:Nat}{cap:List Nat}{ts:aV}(h:Apart σ ρ p)(hu:rl cap ts ρ=some ρ'):Apart σ ρ' p:=λi s' e so=>by
 obtain⟨s,e1,q⟩:=(vM hu).2 i s' e;rcases q with ⟨rfl,q⟩|⟨m,ds,ds0,q1,q2,q3,q4⟩
 ·exact h i s' e1 so
 ·exact h i s e1 (Sl.L_own q3)
theorem Iw{k:Nat}{cap:List Nat}{s:FA}{g:FG}(nd:cap.Nodup):∀σ H Q,tFN G (oJ k cap s g ft fe) σ H Q->Bv (tFI G s) (tFG G k g) (tFT G ft) (tF G fe) k cap σ H Q:=λσ H Q hh=>by
 obtain⟨F,ρ,H0,es,ρ',R,e,kk⟩:=hh;unfold oJ at e;rcases oP (f:=s) (ρ:=ρ)with e1|⟨ds,ρ1,e1⟩<;>simp only[e1]at e
 ·cases e
 ·split at e
  ·rename_i hlen;refine⟨F,ρ,H0,ds,ρ1,R,e1,λJ H1 H1' s1 R1 wk p hp=>?_⟩;refine⟨λi m acc H2=>m=ds.length - i/\i<=ds.length/\∃ρi Hi dn rest,ox H1 Hi/\oA G F σ ρi Hi H2/\H2 p=some (.lst acc)/\Hi p=none/\Apart σ ρi p/\oi G Hi dn acc/\dn.length<=i/\sA k cap g ft fe (ds.drop i) ρi=some (rest,ρ')/\es=dn++rest,
    ⟨_,rfl,bZ _,ρ1,H1,[],es,ox.refl _,R1.newOwn hp _,oq,R1.h0none hp,R1.apart hp,o5,aK _,e,rfl⟩,?_⟩
   rintro i m acc H2 ⟨rfl,hi,ρi,Hi,dn,rest,si,Ri,hp2,hp0,apt,rs,hdn,ei,rfl⟩;by_cases hlt:i<ds.length
   ·have ed:ds.drop i=ds[i]::ds.drop (i+1):=jj hlt;rw[ed]at ei;unfold sA at ei;obtain⟨go,yl⟩:=(wk i Hi H2 si Ri.sub).1 ds[i] (aS hlt);refine .inr ⟨go,λx H3 y=>?_⟩;obtain⟨Hj,t1,t2,t3,t4,t5⟩:=yl x H3 y;have R2:=Ri.grow t3 t1 t2 t4;have hp3:H3 p=some (.lst acc):=t3 _ _ hp2;have hpj:Hj p=none:=by
     cases w:Hj p with
     |none=>rfl
     |some o=>
      rcases t4 p o w with z|z
      ·rw[hp0]at z;cases z
      ·rw[hp2]at z;cases z
    have RC:=R2.cap k cap nd;have npA:p∉CL cap σ ρi:=λz=>by obtain⟨j,_,⟨ds',q1⟩,q2⟩:=wJ.mp z;obtain⟨t,q3,q4⟩:=rL q1;exact apt j t q3 (Sl.L_own q4) q2
    cases e2:g ds[i] (xM k cap ρi)with
    |none=>simp only[e2]at ei;cases ei
    |some ρ2=>
     simp only[e2]at ei;refine⟨_,_,Hj,ds[i],ρ2,RC,t5,e2,λσ4 hd4 R4=>⟨hd4,?_⟩⟩;rcases oP (f:=ft) (ρ:=ρ2)with e3|⟨b,ρ3,e3⟩
     ·simp only[e3]at ei;cases ei
     ·refine⟨_,ρ2,Hj,b,ρ3,R4,e3,λH5 H5' s5 R5=>?_⟩;have keepP:∀{σ':St} {ρ'':aV} {Ha Ha':Hp},oA G ⟨Hj,H3,CL cap σ ρi⟩ σ' ρ'' Ha Ha'->Ha' p=some (.lst acc)/\Ha p=none:=λRz=>by
       refine⟨Rz.keep p _ hp3 npA,?_⟩;refine Option.eq_none_iff_forall_ne_some.mpr λo w2=>?_;rcases Rz.fr p o w2 with z|z
       ·have z':Hj p=some o:=z;rw[hpj]at z';cases z'
       ·have z':H3 p=none:=z;rw[hp3]at z';cases z'
      cases b with
      |false=>
       simp only[e3]at ei;refine Fg ?_;cases e4:rl cap (ρ3.drop k) ρi with
       |none=>simp only[e4]at ei;cases ei
       |some ρn=>simp only[e4]at ei;obtain⟨w1,w2⟩:=keepP R5;exact⟨ds.length - (i+1),by omega,rfl,hlt,ρn,H5,dn,rest,si.trans (t1.trans s5),R2.uncap R5 hd4 e4,w1,w2,wK (k:=k) apt e4,oi.mono (t1.trans s5) _ _ rs,by omega,ei,rfl⟩
      |true=>
       simp only[e3]at ei;refine Fh ?_;rcases oP (f:=fe) (ρ:=ρ3)with e5|⟨x5,ρ5,e5⟩
       ·simp only[e5]at ei;cases ei
       ·simp only[e5]at ei;refine⟨_,ρ3,H5,x5,ρ5,R5,e5,λv H6 H6' s6 R6 rv=>?_⟩;obtain⟨w1,w2⟩:=keepP R6;cases e4:rl cap (ρ5.drop k) ρi with
        |none=>simp only[e4]at ei;cases ei
        |some ρn=>
         simp only[e4]at ei;cases e6:sA k cap g ft fe (ds.drop (i+1)) ρn with
         |none=>simp only[e6]at ei;cases ei
         |some q=>
          obtain⟨rest',ρz⟩:=q;simp only[e6]at ei;cases ei;have Rn:=R2.uncap R6 hd4 e4;have lacc:acc.length=dn.length:=(om rs).symm;refine⟨acc,w1,xE (by omega),ds.length - (i+1),by omega,rfl,hlt,ρn,H6,dn++[x5],rest',si.trans (t1.trans (s5.trans s6)),?_,oq,w2,wK (k:=k) apt e4,qF (oi.mono (t1.trans (s5.trans s6)) _ _ rs) (oZ rv o5),by rw[aJ,bt];omega,e6,by rw[bo];rfl⟩;exact {
           sub:=λb o e=>by rw[oo (λz=>by rw[z,w2]at e;cases e)];exact Rn.sub b o e
           g0:=Rn.g0
           keep:=λb o e n=>by rw[oo (λz=>by subst z;rw[R1.bNone hp]at e;cases e)];exact Rn.keep b o e n
           fr:=Rn.fr
           am:=λb hb=>by
            by_cases z:b=p
            ·subst z;exact⟨_,oq⟩
            ·rw[oo z];exact Rn.am b hb
           len:=Rn.len
           sl:=λj t ej=>(Rn.sl j t ej).grow (ox.refl _) (λb u z to q=>by rw[oo (λy=>wK (k:=k) apt e4 j t ej to (by rw[z,y]))];exact q) λb u _ _ _ q=>q
           ap:=Rn.ap }
   ·have ez:ds.drop i=[]:=lE (by omega);rw[ez]at ei;unfold sA at ei;cases ei;rw[bp]at kk;exact .inl ⟨(wk i Hi H2 si Ri.sub).2 (by omega),kk p acc Hi H2 (s1.trans si) Ri hp2 hp0 (R1.bNone hp) apt rs⟩
  ·cases e
theorem LI{k:Nat}{cap:List Nat}{s:FA}{g:FG}(nd:cap.Nodup)(h:PE X e (Bv (tFI G s) (tFG G k g) (tFT G ft) (tF G fe) k cap)):PE X e (tFN G (oJ k cap s g ft fe)):=PE.weak h (Iw nd)
theorem LJ:PIf X [] (tFT G pM):=λpins s σ H Q I h=>by obtain⟨F,ρ,H0,b,ρ',R,e,k⟩:=h;cases e;exact Oy pins s σ H Q I (k _ _ (ox.refl _) R)
end
def qI:D->Bool
 |.non=>true|.bl _=>true|.int _=>true|.str _=>true|_=>false
def vD:D->V
 |.non=>.non|.bl b=>.bl b|.int i=>.int i|.str x=>.str x|_=>.non
variable{r':R2}{g':D->D->Option D}{neg:Bool}{r:bh->Hp->VK->Prop}
section
variable{X:Cx}{G:Bg}{H:Hp}
theorem rY{v:V}(h:Rep G H d v)(f:qI d=true):v=vD d:=by cases d<;>first|(unfold Rep at h;exact h)|cases f
theorem wN(f:qI d=true):∀H,Rep G H d (vD d):=λH=>by cases d<;>first|(unfold Rep;rfl)|cases f
theorem zK:∀{ds:aC} {xs:bh},oi G H ds xs->ds.all qI=true->xs=ds.map vD
 |[],xs,h,f=>by unfold oi at h;exact h
 |d::ds,xs,h,f=>by unfold oi at h;obtain⟨v,r,rfl,h1,h2⟩:=h;rw[de,aY]at f;rw[ay,rY h1 f.1,zK h2 f.2]
theorem Fu(f:qI d=true):xQ (vD d)=true:=by cases d<;>first|rfl|cases f
theorem Do:∀{ds:aC},ds.all qI=true->(ds.map vD).all xQ=true
 |[],_=>rfl
 |d::ds,f=>by rw[de,aY]at f;rw[ay,de,Fu f.1,Do f.2];rfl
theorem OpR.or{f:aa->aa->Sem aa}{r:R2}(h:OpR X f r)(h':OpR X f r'):OpR X f (λx y H Q=>r x y H Q\/r' x y H Q):=λpins s σ H x y v u Q I rx ry q=>q.elim (h pins s σ H x y v u Q I rx ry) (h' pins s σ H x y v u Q I rx ry)
theorem OpD.or{r:R2}{g:D->D->Option D}(h:OpD G r g)(h':OpD G r' g'):OpD G (λx y H Q=>r x y H Q\/r' x y H Q) (λx y=>match g x y with|some z=>some z|none=>g' x y):=λx y z H0 H v u Q e s rx ry k=>by
 cases e1:g x y with
 |some w=>simp only[e1]at e;cases e;exact .inl (h x y _ H0 H v u Q e1 s rx ry k)
 |none=>simp only[e1]at e;exact .inr (h' x y z H0 H v u Q e s rx ry k)
def dI(C:Int->Int->Bool)(g:Int->Int->D):D->D->Option D
 |.int a,.int b=>if C a b=true then some (g a b)else none
 |_,_=>none
theorem Iy{C:Int->Int->Bool}{C':Int->Int->Prop}{g:Int->Int->D}{g':Int->Int->V}(hC:∀a b,C a b=true->C' a b)(hf:∀a b,qI (g a b)=true/\vD (g a b)=g' a b):OpD G (rI C' g') (dI C g):=λx y z H0 H v u Q e s rx ry k=>by
 unfold dI at e;split at e
 ·rename_i a b;split at e
  ·rename_i hc;cases e;unfold Rep at rx ry;exact⟨a,b,rx,ry,hC _ _ hc,by rw[<-(hf a b).2];exact k _ λH0' _=>wN (hf a b).1 H0'⟩
  ·cases e
 ·cases e
theorem zL{g:Int->Int->D}{g':Int->Int->V}(hf:∀a b,qI (g a b)=true/\vD (g a b)=g' a b):OpD G (rI0 g') (dI (λ_ _=>true) g):=λx y z H0 H v u Q e s rx ry k=>by
 unfold dI at e;split at e
 ·rename_i a b;split at e
  ·cases e;unfold Rep at rx ry;exact⟨a,b,rx,ry,by rw[<-(hf a b).2];exact k _ λH0' _=>wN (hf a b).1 H0'⟩
  ·cases e
 ·cases e
def pO:=dI (λ_ _=>true) λa b=>.int (a+b)
def LK:=dI (λ_ _=>true) λa b=>.int (a - b)
def yn(a:Int):Bool:=decide (-(2 ^ 64)<a)&&decide (a<2 ^ 64)
def tq:=dI (λa b=>yn a||yn b) λa b=>.int (a * b)
def rM:=dI (λ_ b=>decide (0<b)) λa b=>.int (a % b)
def xT:=dI (λ_ b=>decide (0<b)&&decide (b<1073741824)) λa b=>.int (a / b)
def Ag:=dI (λa b=>decide (0<=b)&&decide (b<=1000000)&&decide (a.natAbs<2 ^ 64)) λa b=>.int (a ^ b.toNat)
def Fv:=dI (λ_ _=>true) λa b=>.bl (decide (a<b))
def tH:=dI (λ_ _=>true) λa b=>.bl (decide (a<=b))
def LL:=dI (λ_ _=>true) λa b=>.bl (decide (b<a))
def Si:=dI (λ_ _=>true) λa b=>.bl (decide (b<=a))
theorem Sj:OpD G (rI0 λi j=>.int (i+j)) pO:=zL λ_ _=>⟨rfl,rfl⟩
theorem Sk:OpD G (rI0 λi j=>.int (i - j)) LK:=zL λ_ _=>⟨rfl,rfl⟩
theorem Sm:OpD G (rI N9 λi j=>.int (i * j)) tq:=Iy (λa b h=>by
 unfold yn at h;simp only[jJ,aY,bu]at h;exact h) λ_ _=>⟨rfl,rfl⟩
theorem Sn:OpD G (rI (λ_ j=>0<j) λi j=>.int (i % j)) rM:=Iy (λa b h=>by simpa using h) λ_ _=>⟨rfl,rfl⟩
theorem So:OpD G (rI Rt λi j=>.int (i / j)) xT:=Iy (λa b h=>by unfold Rt;simpa using h) λ_ _=>⟨rfl,rfl⟩
theorem Sq:OpD G (rI Vy λi j=>.int (i ^ j.toNat)) Ag:=Iy (λa b h=>by
 simp only[aY,bu]at h;exact⟨h.1.1,h.1.2,h.2⟩) λ_ _=>⟨rfl,rfl⟩
theorem V4:OpD G (rI0 λi j=>.bl (decide (i<j))) Fv:=zL λ_ _=>⟨rfl,rfl⟩
theorem V5:OpD G (rI0 λi j=>.bl (decide (i<=j))) tH:=zL λ_ _=>⟨rfl,rfl⟩
theorem V6:OpD G (rI0 λi j=>.bl (decide (j<i))) LL:=zL λ_ _=>⟨rfl,rfl⟩
theorem V7:OpD G (rI0 λi j=>.bl (decide (j<=i))) Si:=zL λ_ _=>⟨rfl,rfl⟩
def Xb:D->D->Option D
 |.str a,.str b=>if a.length+b.length<=100000 then some (.str (a++b))else none
 |_,_=>none
theorem Fw{n:Nat}(h:n<=100000):n<=sizeLine:=bQ h (by rw[bC];decide)
def LM:D->D->Option D
 |.str a,.str b=>some (.bl (!decide (b.cps.toList<a.cps.toList)))
 |_,_=>none
theorem Sr:OpD G (λx y H Q=>∃i j,x=.str i/\y=.str j/\Q (.bl (!decide (j.cps.toList<i.cps.toList))) H) LM:=λx y z H0 H v u Q e s rx ry k=>by
 unfold LM at e;split at e
 ·rename_i a b;cases e;unfold Rep at rx ry;exact⟨a,b,rx,ry,k _ λ_ _=>rp _⟩
 ·cases e
def xN:D->D->Option D
 |.non,.non=>some (.bl true)
 |_,.non=>some (.bl false)
 |_,_=>none
def Dp:D->D->Option D
 |.non,.non=>some (.bl false)
 |_,.non=>some (.bl true)
 |_,_=>none
theorem IA{v:V}(h:Rep G H d v):decide (v=.non)=(match d with|.non=>true|_=>false):=by
 cases d<;>unfold Rep at h
 ·subst h;rfl
 ·subst h;rfl
 ·subst h;rfl
 ·subst h;rfl
 ·obtain⟨a,xs,rfl,_⟩:=h;rfl
 ·obtain⟨a,xs,rfl,_⟩:=h;rfl
 ·obtain⟨a,xs,rfl,_⟩:=h;rfl
 ·obtain⟨a,dx,xs,rfl,_⟩:=h;rfl
 ·obtain⟨a,ob,xs,rfl,_⟩:=h;rfl
theorem Ss:OpD G (λx y H Q=>y=.non/\Q (.bl (decide (x=.non))) H) xN:=λx y z H0 H v u Q e s rx ry k=>by
 have e0:=IA rx;cases y<;>first|(cases x<;>cases e)|skip
 all_goals (unfold Rep at ry;refine⟨ry,?_⟩;rw[e0];exact k _ λ_ _=>rp _)
theorem O7:OpD G (λx y H Q=>y=.non/\Q (.bl (!decide (x=.non))) H) Dp:=λx y z H0 H v u Q e s rx ry k=>by
 have e0:=IA rx;cases y<;>first|(cases x<;>cases e)|skip
 all_goals (unfold Rep at ry;refine⟨ry,?_⟩;rw[e0];exact k _ λ_ _=>rp _)
def WX:D->D->Option D
 |.bl a,.bl b=>some (.bl (a != b))
 |_,_=>none
mutual
def toD:D->Option L3.Dq
 |.non=>some .non
 |.bl b=>some (.bl b)
 |.int i=>some (.int i)
 |.str x=>some (.str x)
 |.tup ds=>match yU ds with
  |some l=>some (.tup l)
  |none=>none
 |.lst ds=>match yU ds with
  |some l=>some (.lst l)
  |none=>none
 |.fzl _=>none
 |.obj _ _ _=>none
 |.dic _ _=>none
def yU:aC->Option (List L3.Dq)
 |[]=>some []
 |d::ds=>match toD d with
  |some x=>match yU ds with
   |some l=>some (x::l)
   |none=>none
  |none=>none
end
mutual
theorem El:∀(d:D) (v:V) (x:L3.Dq),Rep G H d v->toD d=some x->L3.Rep G.K H x v
 |.non,v,x,h,e=>by unfold toD at e;cases e;unfold Rep at h;unfold L3.Rep;exact h
 |.bl b,v,x,h,e=>by unfold toD at e;cases e;unfold Rep at h;unfold L3.Rep;exact h
 |.int b,v,x,h,e=>by unfold toD at e;cases e;unfold Rep at h;unfold L3.Rep;exact h
 |.str b,v,x,h,e=>by unfold toD at e;cases e;unfold Rep at h;unfold L3.Rep;exact h
 |.tup ds,v,x,h,e=>by
  unfold toD at e;cases e1:yU ds with
  |none=>simp only[e1]at e;cases e
  |some l=>simp only[e1]at e;cases e;unfold Rep at h;obtain⟨a,xs,rfl,h1,h2⟩:=h;unfold L3.Rep;exact⟨a,xs,rfl,h1,BG ds xs l h2 e1⟩
 |.lst ds,v,x,h,e=>by
  unfold toD at e;cases e1:yU ds with
  |none=>simp only[e1]at e;cases e
  |some l=>simp only[e1]at e;cases e;unfold Rep at h;obtain⟨a,xs,rfl,h1,h2⟩:=h;unfold L3.Rep;exact⟨a,xs,rfl,SqL.of h1,BG ds xs l h2 e1⟩
 |.fzl _,v,x,h,e=>by unfold toD at e;cases e
 |.obj _ _ _,v,x,h,e=>by unfold toD at e;cases e
 |.dic _ _,v,x,h,e=>by unfold toD at e;cases e
theorem BG:∀(ds:aC) (xs:bh) (l:List L3.Dq),oi G H ds xs->yU ds=some l->L3.oi G.K H l xs
 |[],xs,l,h,e=>by unfold yU at e;cases e;unfold oi at h;unfold L3.oi;exact h
 |d::ds,xs,l,h,e=>by
  unfold yU at e;cases e1:toD d with
  |none=>simp only[e1]at e;cases e
  |some x=>
   simp only[e1]at e;cases e2:yU ds with
   |none=>simp only[e2]at e;cases e
   |some l'=>simp only[e2]at e;cases e;unfold oi at h;obtain⟨v,r,rfl,h1,h2⟩:=h;unfold L3.oi;exact⟨v,r,rfl,El d v x h1 e1,BG ds r l' h2 e2⟩
end
def BH(neg:Bool):D->D->Option D:=λx y=>match qI x&&qI y&&KZ (vD x) (vD y)with
 |true=>some (.bl (if neg then !decide (vD x=vD y)else decide (vD x=vD y)))
 |false=>none
def Em(neg:Bool):D->D->Option D:=λx y=>match toD x,toD y with
 |some a,some b=>if Il a b&&decide (dpt a<=20)&&decide (dpt b<=20)then some (.bl (if neg then !eqD a b else eqD a b))else none
 |_,_=>none
def dEq(neg:Bool):D->D->Option D:=λx y=>match BH neg x y with
 |some z=>some z
 |none=>Em neg x y
theorem Su:OpD G rEq (BH false):=λx y z H0 H v u Q e s rx ry k=>by
 unfold BH at e;cases e1:qI x&&qI y&&KZ (vD x) (vD y)with
 |false=>simp only[e1]at e;cases e
 |true=>simp only[e1]at e;cases e;simp only[aY]at e1;rw[rY rx e1.1.1,rY ry e1.1.2];exact⟨e1.2,k _ λ_ _=>rp _⟩
theorem Sv:OpD G rNe (BH true):=λx y z H0 H v u Q e s rx ry k=>by
 unfold BH at e;cases e1:qI x&&qI y&&KZ (vD x) (vD y)with
 |false=>simp only[e1]at e;cases e
 |true=>simp only[e1]at e;cases e;simp only[aY]at e1;rw[rY rx e1.1.1,rY ry e1.1.2];exact⟨e1.2,k _ λ_ _=>rp _⟩
theorem LN:OpD G (GX G.K neg) (Em neg):=λx y z H0 H v u Q e s rx ry k=>by
 unfold Em at e;cases e1:toD x with
 |none=>simp only[e1]at e;cases e
 |some a=>
  cases e2:toD y with
  |none=>simp only[e1,e2]at e;cases e
  |some b=>
   simp only[e1,e2]at e;split at e
   ·rename_i hc;cases e;simp only[aY,bu]at hc;exact⟨a,b,El x v a (Rep.mono s _ _ rx) e1,El y u b (Rep.mono s _ _ ry) e2,hc.1.1,hc.1.2,hc.2,k _ λ_ _=>rp _⟩
   ·cases e
theorem Sw(hu:X.A.units+64<cLine)(hK:X.K=G.K:=by rfl):OpR X (compareOp .Eq) (λx y H Q=>rEq x y H Q\/GX G.K false x y H Q):=by rw[<-hK];exact OpR.or Vz (RV hu)
theorem Sx(hu:X.A.units+64<cLine)(hK:X.K=G.K:=by rfl):OpR X (compareOp .NotEq) (λx y H Q=>rNe x y H Q\/GX G.K true x y H Q):=by rw[<-hK];exact OpR.or VA (RW hu)
theorem V8:OpD G (λx y H Q=>rEq x y H Q\/GX G.K false x y H Q) (dEq false):=OpD.or Su LN
theorem V9:OpD G (λx y H Q=>rNe x y H Q\/GX G.K true x y H Q) (dEq true):=OpD.or Sv LN
def LO:D->Option aC
 |.tup ds=>some ds
 |.lst ds=>some ds
 |.fzl ds=>some ds
 |_=>none
theorem IB{v:V}(h:Rep G H d v)(e:LO d=some ds):∃p xs,v=.ref p/\(SqL G.K H p xs\/SqT G.K H p xs)/\oi G H ds xs:=by
 cases d with
 |tup l=>cases e;unfold Rep at h;obtain⟨a,xs,rfl,h1,h2⟩:=h;exact⟨a,xs,rfl,.inr h1,h2⟩
 |lst l=>cases e;unfold Rep at h;obtain⟨a,xs,rfl,h1,h2⟩:=h;exact⟨a,xs,rfl,.inl (SqL.of h1),h2⟩
 |fzl l=>cases e;unfold Rep at h;obtain⟨a,xs,rfl,h1,h2⟩:=h;exact⟨a,xs,rfl,.inl h1,h2⟩
 |_=>cases e
def dIn(neg:Bool):D->D->Option D:=λx y=>match LO y with
 |some ds=>if qI x&&ds.all qI then some (.bl (if neg then !inV (vD x) (ds.map vD)else inV (vD x) (ds.map vD)))else none
 |none=>none
theorem IC{K:ar}{H:Hp}(s:ox H H')(h:SqL K H p xs\/SqT K H p xs):SqL K H' p xs\/SqT K H' p xs:=h.imp s.seq (SqT.mono s)
theorem QQ:OpD G (rIn G.K neg) (dIn neg):=λx y z H0 H v u Q e s rx ry k=>by
 unfold dIn at e;cases e1:LO y with
 |none=>simp only[e1]at e;cases e
 |some ds=>
  simp only[e1]at e;split at e
  ·rename_i hc;cases e;simp only[aY]at hc;obtain⟨p,xs,rfl,h1,h2⟩:=IB ry e1;refine⟨p,xs,rfl,IC s h1,?_,?_,?_⟩
   ·rw[rY rx hc.1];exact Fu hc.1
   ·rw[zK h2 hc.2];exact Do hc.2
   ·rw[rY rx hc.1,zK h2 hc.2];exact k _ λ_ _=>rp _
  ·cases e
theorem Sy(hK:X.K=G.K:=by rfl):OpR X (compareOp .In) (rIn G.K false):=by rw[<-hK];exact JE
theorem JU(hK:X.K=G.K:=by rfl):OpR X (compareOp .NotIn) (rIn G.K true):=by rw[<-hK];exact Ed
def dIx:D->D->Option D
 |.tup ds,.int i=>atI ds i
 |.lst ds,.int i=>atI ds i
 |.fzl ds,.int i=>atI ds i
 |.str x,.int i=>if x.length<=100000 then (atI x.cps.toList i).map λc=>.str ⟨#[c]⟩else none
 |_,_=>none
theorem Wa:OpD G (rIx G.K) dIx:=λx y z H0 H v u Q e s rx ry k=>by
 cases y with
 |int i=>
  unfold Rep at ry;subst ry;cases x with
  |tup ds=>unfold Rep at rx;obtain⟨a,xs,rfl,h1,h2⟩:=rx;obtain⟨w,w1,w2⟩:=yR h2 (show atI ds i=some z from e);exact .inr (.inl ⟨a,xs,i,w,rfl,rfl,SqT.mono s h1,w1,k _ λH0' s'=>Rep.mono s' _ _ w2⟩)
  |lst ds=>unfold Rep at rx;obtain⟨a,xs,rfl,h1,h2⟩:=rx;obtain⟨w,w1,w2⟩:=yR h2 (show atI ds i=some z from e);exact .inl ⟨a,xs,i,w,rfl,rfl,s.seq (SqL.of h1),w1,k _ λH0' s'=>Rep.mono s' _ _ w2⟩
  |fzl ds=>unfold Rep at rx;obtain⟨a,xs,rfl,h1,h2⟩:=rx;obtain⟨w,w1,w2⟩:=yR h2 (show atI ds i=some z from e);exact .inl ⟨a,xs,i,w,rfl,rfl,s.seq h1,w1,k _ λH0' s'=>Rep.mono s' _ _ w2⟩
  |str t=>
   unfold Rep at rx;subst rx;unfold dIx at e;simp only at e;split at e
   ·rename_i hl;cases e1:atI t.cps.toList i with
    |none=>rw[e1]at e;cases e
    |some c=>rw[e1]at e;cases e;exact .inr (.inr ⟨t,i,c,rfl,rfl,Fw hl,e1,k _ λ_ _=>vL _⟩)
   ·cases e
  |_=>cases e
 |_=>cases x<;>cases e
theorem W8(hK:X.K=G.K:=by rfl):IxR X (rIx G.K):=by rw[<-hK];exact RH
def Fy(G:Bg)(r:bh->Hp->VK->Prop)(g:D->Option D):Prop:=∀x z H0 H v (Q:VK),g x=some z->ox H0 H->Rep G H0 x v->(∀w,(∀H0',ox H0 H0'->Rep G H0' z w)->Q w H)->r [v] H Q
theorem Wb{g:D->Option D}(hr:Fy G r g)(h:PE X e (tCB r (tFA G (n4 f oF)))):PE X e (tF G (c1 g f)):=PE.weak h λσ H Q hh=>by obtain⟨F,ρ,H0,d,ρ',R,e,k⟩:=hh;obtain⟨x,e1,e2⟩:=A6 e;refine⟨F,ρ,H0,[x],ρ',R,by unfold n4;rw[e1];rfl,λys H1 H1' s R' rs=>?_⟩;unfold oi at rs;obtain⟨v,r0,rfl,rv,rn⟩:=rs;unfold oi at rn;subst rn;exact hr x d H1 H1' v Q e2 R'.sub rv λw hw=>k _ _ _ s R' (hw _ (ox.refl _))
theorem qf.or{f:aa}{r':bh->Hp->VK->Prop}(h:qf X f r)(h':qf X f r'):qf X f (λx H Q=>r x H Q\/r' x H Q):=λpins s σ H xs us Q I rv q=>q.elim (h pins s σ H xs us Q I rv) (h' pins s σ H xs us Q I rv)
def qh:D->Option D
 |.tup ds=>some (.int ds.length)
 |.lst ds=>some (.int ds.length)
 |.fzl ds=>some (.int ds.length)
 |.str x=>if x.length<=100000 then some (.int x.length)else none
 |.dic ks ds=>some (.int ks.length)
 |_=>none
theorem JV:qf X (.builtin "len") (λxs H Q=>∃a kvs,xs=[V.ref a]/\Rd H a (.dK kvs)/\Q (.int kvs.length) H):=by intro pins s σ H xs us Q I r h;obtain⟨a,kvs,rfl,ha,q⟩:=h;obtain⟨u,rfl,ru⟩:=vals1 r;cases ru;exact VO I ha λt s' I'=>⟨.int kvs.length,H,I',⟨t,rfl⟩,q⟩
def QR(K:ar):bh->Hp->VK->Prop:=λxs H Q=>(∃p ys,xs=[.ref p]/\(SqL K H p ys\/SqT K H p ys)/\Q (.int ys.length) H)\/((∃z,xs=[.str z]/\z.length<=sizeLine/\Q (.int z.length) H)\/(∃a kvs,xs=[V.ref a]/\Rd H a (.dK kvs)/\Q (.int kvs.length) H))
theorem JW(hK:X.K=G.K:=by rfl):qf X (.builtin "len") (QR G.K):=by rw[<-hK];exact qf.or Ee (qf.or Ef JV)
theorem SA:Fy G (QR G.K) qh:=λx z H0 H v Q e s rx k=>by
 cases x with
 |tup ds=>cases e;unfold Rep at rx;obtain⟨a,xs,rfl,h1,h2⟩:=rx;refine .inl ⟨a,xs,rfl,.inr (SqT.mono s h1),?_⟩;rw[<-om h2];exact k _ λ_ _=>rf _
 |lst ds=>cases e;unfold Rep at rx;obtain⟨a,xs,rfl,h1,h2⟩:=rx;refine .inl ⟨a,xs,rfl,.inl (s.seq (SqL.of h1)),?_⟩;rw[<-om h2];exact k _ λ_ _=>rf _
 |fzl ds=>cases e;unfold Rep at rx;obtain⟨a,xs,rfl,h1,h2⟩:=rx;refine .inl ⟨a,xs,rfl,.inl (s.seq h1),?_⟩;rw[<-om h2];exact k _ λ_ _=>rf _
 |str t=>
  unfold qh at e;simp only at e;split at e
  ·rename_i hl;cases e;unfold Rep at rx;exact .inr (.inl ⟨t,by rw[rx],Fw hl,k _ λ_ _=>rf _⟩)
  ·cases e
 |dic ks ds=>cases e;unfold Rep at rx;obtain⟨a,o,xs,rfl,h1,h2,h3⟩:=rx;refine .inr (.inr ⟨a,_,rfl,.inr ⟨o,s _ _ h1⟩,?_⟩);rw[eZ,<- h2,fo];exact k _ λ_ _=>rf _
 |_=>cases e
def CM:aC->Option (List Bool)
 |[]=>some []
 |.bl b::r=>(CM r).map (b::·)
 |_=>none
theorem BI:∀{ds:aC} {xs:bh} {bs:List Bool},oi G H ds xs->CM ds=some bs->xs=bs.map V.bl
 |[],xs,bs,h,e=>by cases e;unfold oi at h;exact h
 |.bl b::r,xs,bs,h,e=>by
  unfold oi at h;obtain⟨v,q,rfl,h1,h2⟩:=h;unfold CM at e;cases e1:CM r with
  |none=>rw[e1]at e;cases e
  |some l=>rw[e1]at e;cases e;unfold Rep at h1;subst h1;rw[BI h2 e1];rfl
 |.non::r,xs,bs,h,e=>by cases e
 |.int _::r,xs,bs,h,e=>by cases e
 |.str _::r,xs,bs,h,e=>by cases e
 |.tup _::r,xs,bs,h,e=>by cases e
 |.lst _::r,xs,bs,h,e=>by cases e
 |.fzl _::r,xs,bs,h,e=>by cases e
 |.obj _ _ _::r,xs,bs,h,e=>by cases e
 |.dic _ _::r,xs,bs,h,e=>by cases e
def ud:D->Option D
 |.lst ds=>(CM ds).map λbs=>.bl (bs.all id)
 |_=>none
theorem SC:Fy G (λxs H Q=>∃(p:Addr) (bs:List Bool),xs=[.ref p]/\SqL G.K H p (bs.map V.bl)/\Q (.bl (bs.all id)) H) ud:=λx z H0 H v Q e s rx k=>by
 cases x with
 |lst ds=>
  unfold ud at e;simp only at e;cases e1:CM ds with
  |none=>rw[e1]at e;cases e
  |some bs=>rw[e1]at e;cases e;unfold Rep at rx;obtain⟨a,xs,rfl,h1,h2⟩:=rx;rw[BI h2 e1]at h1;exact⟨a,bs,rfl,s.seq (SqL.of h1),k _ λ_ _=>rp _⟩
 |_=>cases e
theorem JX(hc:X.calm=true)(hK:X.K=G.K:=by rfl):qf X (.builtin "all") (λxs H Q=>∃(p:Addr) (bs:List Bool),xs=[.ref p]/\SqL G.K H p (bs.map V.bl)/\Q (.bl (bs.all id)) H):=by rw[<-hK];exact Ll hc
inductive Ty where
 |b (n:String)|c (k:Nat)
def Ty.val(G:Bg):Ty->aa
 |.b n=>.type n
 |.c k=>.ref (G.ca k)
def Ty.v(G:Bg):Ty->V
 |.b n=>.ty n
 |.c k=>.ref (G.ca k)
def tyD:D->Ty
 |.non=>.b "NoneType" |.bl _=>.b "bool" |.int _=>.b "int" |.str _=>.b "str" |.tup _=>.b "tuple" |.lst _=>.b "list" |.fzl _=>.b "list" |.dic _ _=>.b "dict" |.obj c _ _=>.c c
structure JY(K:ar)(C:Addr):Prop where
 cl:Cls K C
 ha:cG K (.ref C) "__class__" = some (some (.builtin "object.__class__"))
 hn:W.specialIn K (.builtin "object.__class__") "__get__" = some (some (.builtin "getset_descriptor.__get__"))
 htk:W.takesIn K (.builtin "object.__class__")=some true
 hm:W.mroIn K C (.type "object")=some true
theorem LP{pins:bW}{s:af}{A:aH}{E:aa->af->Prop}{Q:aa->af->Prop}{c:aa}{b:Bool}{v:V}{u:aa}(I:Inv X pins σ H s)(hK:X.K=G.K)(hd:Rep G H d v)(rv:RelV v u)(hc:∀k ns ds,d=.obj k ns ds->JY X.K (G.ca k))
  (e:cH X.K ((tyD d).val G) c=some b) (h:∀tk,Q (.bool b) { s with toks:=tk }):wpAny (model X.prog X.w) A (call (.builtin "isinstance") [u,c]) Q E s:=by
 cases d with
 |non=>unfold Rep at hd;subst hd;exact tW I rv .non e h
 |bl x=>unfold Rep at hd;subst hd;exact tW I rv (.bl x) e h
 |int x=>unfold Rep at hd;subst hd;exact tW I rv (.int x) e h
 |str x=>unfold Rep at hd;subst hd;exact tW I rv (.str x) e h
 |tup ds=>unfold Rep at hd;obtain⟨a,xs,rfl,h1,h2⟩:=hd;cases rv;rw[<-hK]at h1;obtain⟨its,_,p,_⟩:=I.tuple h1;obtain⟨o,q1,q2,_⟩:=p;exact cm W.kitx_tuple I.kIn ⟨o,q1,q2⟩ e (λz=>nomatch z) h
 |lst ds=>unfold Rep at hd;obtain⟨a,xs,rfl,h1,h2⟩:=hd;exact tW I rv (.lst h1) e h
 |fzl ds=>unfold Rep at hd;obtain⟨a,xs,rfl,h1,h2⟩:=hd;cases rv;rw[<-hK]at h1;obtain⟨its,_,p,_⟩:=I.list h1;obtain⟨o,n,q1,q2,_⟩:=p;exact cm j9 I.kIn ⟨o,q1,q2⟩ e (λz=>nomatch z) h
 |dic ks ds=>unfold Rep at hd;obtain⟨a,o,xs,rfl,h1,h2,h3⟩:=hd;cases rv;obtain⟨q0,_,_,vs,_,ob,es,ep,q1,q2,_⟩:=(show pI X.prog X.w H s.heap a (.frz o (.dK (ks.zip xs))) from I.hok a _ h1);exact cm kj I.kIn ⟨ob,q1,q2.1⟩ e (λz=>nomatch z) h
 |obj k ns ds=>have ci:=hc k ns ds rfl;unfold Rep at hd;obtain⟨a,dx,xs,rfl,h1,h2,h3⟩:=hd;exact tW I rv (.ins h1 ci.cl ci.ha ci.hn ci.htk ci.hm) e h
def qX(t:Ty->Option Bool):D->Option D:=λd=>(t (tyD d)).map .bl
theorem Dr(c:Ty){t:Ty->Option Bool}(ht:∀y b,t y=some b->cH X.K (y.val G) (c.val G)=some b)(hc:∀k b,t (.c k)=some b->JY X.K (G.ca k))(hK:X.K=G.K:=by rfl):
  qf X (.builtin "isinstance") (λxs H Q=>∃d x b,xs=[x,c.v G]/\Rep G H d x/\t (tyD d)=some b/\Q (.bl b) H):=by
 intro pins s σ H xs us Q I r h;obtain⟨d,x,b,rfl,hd,e,q⟩:=h;obtain⟨u,w',rfl,ru,rw'⟩:=vals2 r;have ew:w'=c.val G:=by cases c<;>exact rw'
 subst ew;exact LP I hK hd ru (λk ns ds z=>by subst z;exact hc k b e) (ht _ _ e) λtk=>⟨.bl b,H,I.tok _,rfl,q⟩
theorem ID{c:Ty}{t:Ty->Option Bool}(h:PE X e (tCB (λxs H Q=>∃d x b,xs=[x,c.v G]/\Rep G H d x/\t (tyD d)=some b/\Q (.bl b) H) (Bm (tF G f) (Bm (tC (c.v G)) E4)))):PE X e (tF G (c1 (qX t) f)):=PE.weak h λσ H Q hh=>by
 obtain⟨F,ρ,H0,d,ρ',R,e,k⟩:=hh;obtain⟨x,e1,e2⟩:=A6 e;unfold qX at e2;cases e3:t (tyD x)with
 |none=>rw[e3]at e2;cases e2
 |some b=>rw[e3]at e2;cases e2;exact⟨F,ρ,H0,x,ρ',R,e1,λv H1 H1' s R' r=>⟨x,v,b,rfl,Rep.mono R'.sub _ _ r,e3,k _ _ _ s R' (rp b)⟩⟩
def rq(f g:FE):FA:=λρ=>match f ρ with
 |some (.lst xs,ρ1)=>match g ρ1 with
  |some (.lst ys,ρ2)=>if xs.length+ys.length<=1000 then some (xs++ys,ρ2)else none
  |_=>none
 |_=>none
theorem O8{a:Expr}{g:FE}(ha:PE X a (tF G f))(hb:PE X b (tF G g)):PE X (.BinOp a .Add b pos) (tFN G (rq f g)):=PE.weak (KY RJ ha hb) λσ H Q hh=>by
 obtain⟨F,ρ,H0,d,ρ',R,e,k⟩:=hh;unfold rq at e;split at e
 ·rename_i xs ρ1 e1;split at e
  ·rename_i ys ρ2 e2;split at e
   ·rename_i hl;cases e;refine⟨F,ρ,H0,_,ρ1,R,e1,λv H1 H1' s R' r=>⟨F,ρ1,H1,_,_,R',e2,λu H2 H2' s2 R2 r2=>?_⟩⟩;have r':=Rep.mono s2 _ _ r;unfold Rep at r' r2;obtain⟨a1,xs1,rfl,h1,h2⟩:=r';obtain⟨a2,xs2,rfl,h3,h4⟩:=r2;refine⟨a1,a2,xs1,xs2,rfl,rfl,R2.sub _ _ h1,R2.sub _ _ h3,by rw[<-om h2,<- om h4];exact sF hl,λp hp=>?_⟩;exact k p _ _ _ (s.trans s2) (R2.newOwn hp _) oq (R2.h0none hp) (R2.bNone hp) (R2.apart hp) (qF h2 h4)
   ·cases e
  ·cases e
 ·cases e
def wm(f:FE):FA:=λρ=>match f ρ with
 |some (d,ρ1)=>match LO d with
  |some ds=>some (ds,ρ1)
  |none=>none
 |none=>none
theorem LQ(h:PE X e (tCB (λxs H Q=>∃p ys,xs=[.ref p]/\(SqL G.K H p ys\/SqT G.K H p ys)/\∀l,H l=none->Q (.ref l) (upd H l (.lst ys))) (tFA G (n4 f oF)))):PE X e (tFN G (wm f)):=PE.weak h λσ H Q hh=>by
 obtain⟨F,ρ,H0,ds,ρ',R,e,k⟩:=hh;unfold wm at e;rcases oP (f:=f) (ρ:=ρ)with e1|⟨d,ρ1,e1⟩<;>simp only[e1]at e
 ·cases e
 ·cases e2:LO d with
  |none=>simp only[e2]at e;cases e
  |some ds'=>simp only[e2]at e;cases e;refine⟨F,ρ,H0,[d],_,R,by unfold n4;rw[e1];rfl,λys H1 H1' s R' rs=>?_⟩;unfold oi at rs;obtain⟨v,r0,rfl,rv,rn⟩:=rs;unfold oi at rn;subst rn;obtain⟨p,xs,rfl,h1,h2⟩:=IB rv e2;exact⟨p,xs,rfl,IC R'.sub h1,λl hl=>k l _ _ _ s (R'.newOwn hl _) oq (R'.h0none hl) (R'.bNone hl) (R'.apart hl) h2⟩
theorem G3(hK:X.K=G.K:=by rfl):qf X (.type "list") (λxs H Q=>∃p ys,xs=[.ref p]/\(SqL G.K H p ys\/SqT G.K H p ys)/\∀l,H l=none->Q (.ref l) (upd H l (.lst ys))):=by rw[<-hK];exact Eg
def Ah(f:FE):FE:=λρ=>match f ρ with
 |some (.lst ds,ρ1)=>some (.tup ds,ρ1)
 |some (.tup ds,ρ1)=>some (.tup ds,ρ1)
 |_=>none
theorem LR(h:PE X e (tCB (λxs H Q=>∃p ys,xs=[.ref p]/\((SqL G.K H p ys/\∀l,H l=none->Q (.ref l) (upd H l (.tup ys)))\/(SqT G.K H p ys/\Q (.ref p) H))) (tFA G (n4 f oF)))):PE X e (tF G (Ah f)):=PE.weak h λσ H Q hh=>by
 obtain⟨F,ρ,H0,ds,ρ',R,e,k⟩:=hh;unfold Ah at e;split at e
 ·rename_i xs ρ1 e1;cases e;refine⟨F,ρ,H0,[_],_,R,by unfold n4;rw[e1];rfl,λys H1 H1' s R' rs=>?_⟩;unfold oi at rs;obtain⟨v,r0,rfl,rv,rn⟩:=rs;unfold oi at rn;subst rn;unfold Rep at rv;obtain⟨p,zs,rfl,h1,h2⟩:=rv;refine⟨p,zs,rfl,.inl ⟨SqL.of (R'.sub _ _ h1),λl hl=>?_⟩⟩;exact k _ _ _ (s.trans (oI (R'.h0none hl) _)) (R'.newIm hl _) (xF (SqT.of oq) (oi.mono (oI (R'.h0none hl) _) _ _ h2))
 ·rename_i xs ρ1 e1;cases e;refine⟨F,ρ,H0,[_],_,R,by unfold n4;rw[e1];rfl,λys H1 H1' s R' rs=>?_⟩;unfold oi at rs;obtain⟨v,r0,rfl,rv,rn⟩:=rs;unfold oi at rn;subst rn;have rv0:=rv;unfold Rep at rv;obtain⟨p,zs,rfl,h1,h2⟩:=rv;exact⟨p,zs,rfl,.inr ⟨SqT.mono R'.sub h1,k _ _ _ s R' rv0⟩⟩
 ·cases e
theorem JZ(hK:X.K=G.K:=by rfl):qf X (.type "tuple") (λxs H Q=>∃p ys,xs=[.ref p]/\((SqL G.K H p ys/\∀l,H l=none->Q (.ref l) (upd H l (.tup ys)))\/(SqT G.K H p ys/\Q (.ref p) H))):=by rw[<-hK];exact CH
def cutD(xs:aC)(lo hi:Option Int):aC:=(xs.drop (HT.sIx xs.length 0 lo)).take (HT.sIx xs.length xs.length hi - HT.sIx xs.length 0 lo)
theorem FB{lo hi:Option Int}(r:oi G H0 ds xs):oi G H0 (cutD ds lo hi) (JC xs lo hi):=by unfold cutD JC;rw[<-om r];exact Dm _ (Dl _ r)
def cSl(f:FE)(lo hi:Option Int):FA:=λρ=>match f ρ with
 |some (.lst ds,ρ1)=>some (cutD ds lo hi,ρ1)
 |some (.fzl ds,ρ1)=>some (cutD ds lo hi,ρ1)
 |_=>none
def tO(o:Option Int):TO:=λ_ H Q=>Q o H
theorem J0{lo hi:Option Int}(h:PE X e (tSl (JD G.K) (tF G f) (tO lo) (tO hi))):PE X e (tFN G (cSl f lo hi)):=PE.weak h λσ H Q hh=>by
 obtain⟨F,ρ,H0,ds,ρ',R,e,k⟩:=hh;have gen:∀{a:Addr} {xs:bh} {ds':aC} {H1 H1':Hp},ox H0 H1->oA G F σ ρ' H1 H1'->SqL G.K H1 a xs->oi G H1 ds' xs->ds=cutD ds' lo hi->JD G.K (.ref a) lo hi H1' Q:=λ{a xs ds' H1 H1'} s R' h1 h2 e=>by subst e;exact⟨a,xs,rfl,R'.sub.seq h1,λp hp=>k p _ _ _ s (R'.newOwn hp _) oq (R'.h0none hp) (R'.bNone hp) (R'.apart hp) (FB h2)⟩
 unfold cSl at e;split at e
 ·rename_i xs ρ1 e1;cases e;refine⟨F,ρ,H0,_,_,R,e1,λv H1 H1' s R' r=>?_⟩;unfold Rep at r;obtain⟨a,ys,rfl,h1,h2⟩:=r;exact gen s R' (SqL.of h1) h2 rfl
 ·rename_i xs ρ1 e1;cases e;refine⟨F,ρ,H0,_,_,R,e1,λv H1 H1' s R' r=>?_⟩;unfold Rep at r;obtain⟨a,ys,rfl,h1,h2⟩:=r;exact gen s R' h1 h2 rfl
 ·cases e
theorem LS{n:Int}{j pos}:PO X (some (.Constant (.int n) j pos)) (tO (some n)):=λpins s σ H Q I h=>Ig GF pins s σ H Q I ⟨n,rfl,h⟩
theorem Wc(hK:X.K=G.K:=by rfl):SlR X (JD G.K):=by rw[<-hK];exact Oo
end
def Sl.bor:Sl->Sl
 |.un=>.un
 |.im d=>.im d
 |.ls ds=>.im (.lst ds)
 |.pm ds=>.im (.lst ds)
 |.dk _ _=>.un
 |.ob c ns ds=>.im (.obj c ns ds)
variable{fa fb fc:FE}{op':cn}
section
variable{X:Cx}{G:Bg}
theorem oA.bor{H:Hp}(R:oA G F σ ρ H0 H):oA G ⟨H,H,[]⟩ σ (ρ.map Sl.bor) H H where
 sub:=ox.refl _
 g0:=ox.refl _
 keep:=λb o e _=>e
 fr:=λb o e=>.inl e
 am:=λa h=>by cases h
 len:=by rw[ah];exact R.len
 sl:=λi s e=>by
  rw[bc]at e;cases e1:ρ[i]? with
  |none=>rw[e1]at e;cases e
  |some t=>
   rw[e1]at e;cases e;have ok:=R.sl i t e1;cases t with
   |un=>trivial
   |im d=>obtain⟨v,h1,h2⟩:=ok;exact⟨v,h1,Rep.mono R.sub _ _ h2⟩
   |ls ds=>obtain⟨a,xs,h1,h2,h3,h4,h5⟩:=ok;exact⟨_,h1,sQ h2 (oi.mono R.sub _ _ h5)⟩
   |pm ds=>obtain⟨a,xs,h1,h2,h3,h4,h5⟩:=ok;exact⟨_,h1,sQ h2 (oi.mono R.sub _ _ h5)⟩
   |dk ks ds=>trivial
   |ob c ns ds=>obtain⟨a,dx,xs,h1,h2,h3,h4,h5,h6⟩:=ok;exact⟨_,h1,by unfold Rep;exact⟨a,dx,xs,rfl,h2,h5,oi.mono R.sub _ _ h6⟩⟩
 ap:=λi j s t a _ e _ so=>by
  rw[bc]at e;cases e1:ρ[i]? with
  |none=>rw[e1]at e;cases e
  |some t=>rw[e1]at e;cases e;cases t<;>cases so
theorem oA.unbor{σ':St}{H:Hp}(R:oA G F σ ρ H0 H)(R':oA G ⟨H,H,[]⟩ σ' ρ' H1 H1'):oA G F σ ρ H0 H1':=
 R.grow (λb o e=>R'.keep b o e (by simp)) (ox.refl _) (λb o e=>R'.keep b o (R.sub _ _ e) (by simp)) λb o e=>.inl e
def CN(f:FE):FE:=λρ=>match f (ρ.map Sl.bor)with
 |some (d,_)=>if qI d=true then some (d,ρ)else none
 |none=>none
def Ai(f:FT):FT:=λρ=>match f (ρ.map Sl.bor)with
 |some (d,_)=>some (d,ρ)
 |none=>none
theorem SD(h:PE X e (tF G f)):PE X e (tF G (CN f)):=PE.weak h λσ H Q hh=>by
 obtain⟨F,ρ,H0,d,ρ',R,e,k⟩:=hh;unfold CN at e;rcases oP (f:=f) (ρ:=ρ.map Sl.bor)with e1|⟨x,ρ1,e1⟩<;>simp only[e1]at e
 ·cases e
 ·split at e
  ·rename_i hf;cases e;refine⟨_,_,H,d,ρ1,R.bor,e1,λv H1 H1' s R' r=>?_⟩;rw[rY r hf];exact k _ _ _ (ox.refl _) (R.unbor R') (wN hf _)
  ·cases e
theorem O9{f:FT}(h:PT X e (tFT G f)):PT X e (tFT G (Ai f)):=PT.weak h λσ H Q hh=>by
 obtain⟨F,ρ,H0,d,ρ',R,e,k⟩:=hh;unfold Ai at e;rcases oP (f:=f) (ρ:=ρ.map Sl.bor)with e1|⟨x,ρ1,e1⟩<;>simp only[e1]at e
 ·cases e
 ·cases e;exact⟨_,_,H,d,ρ1,R.bor,e1,λH1 H1' s R'=>k _ _ (ox.refl _) (R.unbor R')⟩
def qQ(g g':D->D->Option D)(fa fb fc:FE):FE:=λρ=>match fa ρ with
 |some (x,ρ1)=>match fb ρ1 with
  |some (y,ρ2)=>match g x y with
   |some (.bl true)=>match fc ρ2 with
    |some (z,ρ3)=>match g' y z with
     |some w=>some (w,ρ3)
     |none=>none
    |none=>none
   |some (.bl false)=>some (.bl false,ρ2)
   |_=>none
  |none=>none
 |none=>none
theorem FC{r:R2}{g:D->D->Option D}(ho:OpD G r g)(ho':OpD G r' g'):∀σ H Q,tF G (qQ g g' fa fb fc) σ H Q->GK r r' (tF G fa) (tF G fb) (tF G fc) σ H Q:=λσ H Q hh=>by
 obtain⟨F,ρ,H0,d,ρ',R,e,k⟩:=hh;unfold qQ at e;rcases oP (f:=fa) (ρ:=ρ)with e1|⟨x,ρ1,e1⟩<;>simp only[e1]at e
 ·cases e
 rcases oP (f:=fb) (ρ:=ρ1)with e2|⟨y,ρ2,e2⟩<;>simp only[e2]at e
 ·cases e
 refine⟨F,ρ,H0,x,ρ1,R,e1,λv H1 H1' s1 R1 r1=>⟨F,ρ1,H1,y,ρ2,R1,e2,λu H2 H2' s2 R2 r2=>?_⟩⟩;split at e
 ·rename_i e3;refine ho x y _ H2 H2' v u _ e3 R2.sub (Rep.mono s2 _ _ r1) r2 λw hw=>?_;have hw':=hw H2 (ox.refl _);unfold Rep at hw';refine⟨true,hw',Fh ?_⟩;rcases oP (f:=fc) (ρ:=ρ2)with e4|⟨z,ρ3,e4⟩<;>simp only[e4]at e
  ·cases e
  cases e5:g' y z with
  |none=>simp only[e5]at e;cases e
  |some q=>simp only[e5]at e;cases e;refine⟨F,ρ2,H2,z,_,R2,e4,λt H3 H3' s3 R3 r3=>?_⟩;exact ho' y z _ H3 H3' u t Q e5 R3.sub (Rep.mono s3 _ _ r2) r3 λw hw=>k w H3 H3' (s1.trans (s2.trans s3)) R3 (hw _ (ox.refl _))
 ·rename_i e3;cases e;refine ho x y _ H2 H2' v u _ e3 R2.sub (Rep.mono s2 _ _ r1) r2 λw hw=>?_;have hw':=hw H2 (ox.refl _);unfold Rep at hw';exact⟨false,hw',Fg (k _ _ _ (s1.trans s2) R2 (rp false))⟩
 ·cases e
theorem LU{a c:Expr}{op:cn}{r:R2}{g:D->D->Option D}(hr:OpR X (compareOp op) r)(hr':OpR X (compareOp op') r')(ho:OpD G r g)(ho':OpD G r' g')(ha:PE X a (tF G fa))(hb:PE X b (tF G fb))(hc:PE X c (tF G fc))
  (hm:lastMarks [op,op'] [b,c]=false:=by with_unfolding_all rfl):PE X (.Compare a [op,op'] [b,c] pos) (tF G (qQ g g' fa fb fc)):=PE.weak (K2 hr hr' ha hb hc hm) (FC ho ho')
theorem J1{a c:Expr}{op:cn}{r:R2}{g:D->D->Option D}(hr:OpR X (compareOp op) r)(hr':OpR X (compareOp op') r')(ho:OpD G r g)(ho':OpD G r' g')(ha:PE X a (tF G fa))(hb:PE X b (tF G fb))(hc:PE X c (tF G fc))
  (hm:lastMarks [op,op'] [b,c]=false:=by with_unfolding_all rfl):PT X (.Compare a [op,op'] [b,c] pos) (tFT G (cT (qQ g g' fa fb fc))):=PT.weak (K4 hr hr' ha hb hc hm) λσ H Q hh=>by
 obtain⟨F,ρ,H0,d,ρ',R,e,k⟩:=Ek σ H Q hh;exact FC ho ho' σ H _ ⟨F,ρ,H0,d,ρ',R,e,k⟩
end
def vd(P:aD)(w:aw)(K:ar)(mg:Str->Option aa)(base:Heap)(k:Nat)(x:Str)(ps:aE)(sp:Sp):Prop:=
 ∃(f:Addr) (fd:bD),mg x=some (.ref f)/\cY K (.ref f)=true/\Binds K fd ps []/\sE P w K mg base CX0 k f fd ps sp
def En(G:Bg)(P:aD)(w:aw)(mg:Str->Option aa)(base:Heap)(k:Nat)(x:Str)(c:Nat)(ps:aE)(dvs:bh)(g:aC->Option (aE×aC)):Prop:=
 ∃(f:Addr) (fd:bD) (ds:List aa),Mk G.K (G.ca c) f/\mg x=some (.ref (G.ca c))/\Binds G.K fd ps ds/\Vals dvs ds/\sE P w G.K mg base CX0 k f fd ps (spI G c g)
def zM(G:Bg)(P:aD)(w:aw)(mg:Str->Option aa)(base:Heap)(k:Nat)(m:Str)(c:Nat)(h:aC->Option D):Prop:=
 ∃(f:Addr) (fd:bD) (ps:aE),Cls G.K (G.ca c)/\Meth G.K (G.ca c) m f/\Binds G.K fd ps []/\sE P w G.K mg base CX0 k f fd ps (spF G h)
section
variable{X:Cx}{G:Bg}{k:Nat}{x m:Str}{p pos apos:Pos}{e o:Expr}{es:List Expr}{a:FA}{ps:aE}
theorem Aj{α:Type}(g:aC->α):(λds=>g (ds++[]))=g:=funext λds=>by rw[bp]
theorem SE{g:aC->Option D}(D:vd X.prog X.w X.K X.mg X.base k x ps (spF G g))(hr:qc k X.A)(ha:PA X (e::es) (tFA G a))(hg:Gl X x:=by rfl)(hdb:(x==("__debug__" : Str))=false:=by decide)(he:starEach (e::es) X.env=(false,eval e X.env)::starEach es X.env:=by rfl)(hpl:(backTo pos (starEach es X.env)).any (·.1)=false:=by rfl):
  PE X (.Call (.Name x p) (e::es) [] pos) (tF G (oa g a)):=by
 obtain⟨f,fd,h1,h2,h3,h4⟩:=D;have q:=OX (dvs:=[]) (dds:=[]) (λ_=>o5) (yK (p:=p) (pos:=pos) h4 hr hg h1 h2 h3 .nil Ad ha hdb he hpl);rw[Aj]at q;exact q
theorem Pa{g:aC->Option aC}(D:vd X.prog X.w X.K X.mg X.base k x ps (spN G g))(hr:qc k X.A)(ha:PA X (e::es) (tFA G a))(hg:Gl X x:=by rfl)(hdb:(x==("__debug__" : Str))=false:=by decide)(he:starEach (e::es) X.env=(false,eval e X.env)::starEach es X.env:=by rfl)(hpl:(backTo pos (starEach es X.env)).any (·.1)=false:=by rfl):
  PE X (.Call (.Name x p) (e::es) [] pos) (tFN G (oX g a)):=by
 obtain⟨f,fd,h1,h2,h3,h4⟩:=D;have q:=LB (dvs:=[]) (dds:=[]) (λ_=>o5) (yK (p:=p) (pos:=pos) h4 hr hg h1 h2 h3 .nil Ad ha hdb he hpl);rw[Aj]at q;exact q
theorem LV{g:aC->Option aC}(D:vd X.prog X.w X.K X.mg X.base k x ps (spN G g))(hr:qc k X.A)(hg:Gl X x:=by rfl)(hdb:(x==("__debug__" : Str))=false:=by decide):PE X (.Call (.Name x p) [] [] pos) (tFN G (oX g oF)):=by obtain⟨f,fd,h1,h2,h3,h4⟩:=D;exact JO (K9 h4 hr hg h1 h2 h3 .nil Ad hdb)
theorem Pb{g:aC->aC->Option (D×aC)}(D:vd X.prog X.w X.K X.mg X.base k x ps (spM G g))(hr:qc k X.A)(hv:PE X e (uN i))(ha:PA X es (tFA G a))(hg:Gl X x:=by rfl)(hdb:(x==("__debug__" : Str))=false:=by decide)(he:starEach (e::es) X.env=(false,eval e X.env)::starEach es X.env:=by rfl)(hpl:(backTo pos (starEach es X.env)).any (·.1)=false:=by rfl):
  PE X (.Call (.Name x p) (e::es) [] pos) (tF G (pW g i a)):=by
 obtain⟨f,fd,h1,h2,h3,h4⟩:=D;exact Sh (yK (p:=p) (pos:=pos) h4 hr hg h1 h2 h3 .nil Ad (qS hv ha he) hdb he hpl)
theorem Pc{g:aC->Option (aE×aC)}(M:En G X.prog X.w X.mg X.base k x c ps dvs g)(hd:∀H,oi G H dds dvs)(hr:qc (k+1) X.A)(ha:PA X (e::es) (tFA G a))(hK:X.K=G.K:=by rfl)(hg:Gl X x:=by rfl)(hdb:(x==("__debug__" : Str))=false:=by decide)
  (he:starEach (e::es) X.env=(false,eval e X.env)::starEach es X.env:=by rfl) (hpl:(backTo pos (starEach es X.env)).any (·.1)=false:=by rfl):
  PE X (.Call (.Name x p) (e::es) [] pos) (tF G (pD c (λds=>g (ds++dds)) a)):=by
 obtain⟨f,fd,ds,h1,h2,h3,h4,h5⟩:=M;rw[<-hK]at h1 h3 h5;exact OZ hd (Og (p:=p) (pos:=pos) h1 h5 hr hg h2 h3 h4 Ad ha hdb he hpl)
theorem QS{g:Nat->Option (aC->Option D)}(M:∀c h,g c=some h->zM G X.prog X.w X.mg X.base k m c h)(hr:qc k X.A)(hK:X.K=G.K):∀C sp,MT G g C sp->MOk X C m sp [] E0:=λC sp h=>by obtain⟨c,h,e,rfl,rfl⟩:=h;obtain⟨f,fd,ps,q1,q2,q3,q4⟩:=M c h e;rw[<-hK]at q1 q2 q3 q4;exact⟨k,f,fd,ps,[],q1,q2,q4,hr,q3,.nil,Ad⟩
theorem J2{g:Nat->Option (aC->Option D)}{pl:Sem Bool}(M:∀c h,g c=some h->zM G X.prog X.w X.mg X.base k m c h)(hr:qc k X.A)(ho:PE X o (tF G f))(ha:PA X (e::es) (tFA G a))(hK:X.K=G.K:=by rfl)
  (hst:starEach (e::es) X.env=(false,eval e X.env)::starEach es X.env:=by rfl) (hpl:(backTo pos (starEach es X.env)).any (·.1)=false:=by rfl)
  (ht:eval (.Call (.Attribute o m apos) (e::es) [] pos) X.env=(do
   let ov<-eval o X.env
   standAt apos.atName
   let (f,first)<-holding [ov] (getMethod ov m pl)
   callWith pos f first (backTo pos (starEach (e::es) X.env)) (backToKw pos (keywordEach [] X.env))):=by rfl):
  PE X (.Call (.Attribute o m apos) (e::es) [] pos) (tF G (o9 g m f a)):=OY (E:=E0) (LD (dvs:=[]) (MT G g) (QS M hr hK) ho ha hst hpl ht)
theorem G4{g:Nat->Option (aC->Option D)}{pl:Sem Bool}(M:∀c h,g c=some h->zM G X.prog X.w X.mg X.base k m c h)(hr:qc k X.A)(ho:PE X o (tF G f))(hK:X.K=G.K:=by rfl)
  (ht:eval (.Call (.Attribute o m apos) [] [] pos) X.env=(do
   let ov<-eval o X.env
   standAt apos.atName
   let (f,first)<-holding [ov] (getMethod ov m pl)
   callWith pos f first (backTo pos (starEach [] X.env)) (backToKw pos (keywordEach [] X.env))):=by rfl):
  PE X (.Call (.Attribute o m apos) [] [] pos) (tF G (o9 g m f oF)):=LF (E:=E0) (JQ (dvs:=[]) (MT G g) (QS M hr hK) ho ht)
end
section
variable{P:aD}{w:aw}{K:ar}{mg:Str->Option aa}{base:Heap}{x qual:Str}{st:Stmt}{f T:Addr}{fd:bD}{N ps:aE}{k:Nat}{G:Bg}
abbrev ve(P:aD)(w:aw)(K:ar)(mg:Str->Option aa)(base:Heap)(N:aE)(qual:Str)(st:Stmt)(f:Addr)(cdv:aa)(A:aH)(outer:List Env)(s:af)(H:Hp)(E:XK):Cx:=(E5 CX0 P w K mg base N qual (oE st) f cdv A outer s H E).nox
theorem IE{n:Nat}{g:aC->Option D}{b:FS}(hg:g=fnD np n b)(hp:ps.length=np)(hN:N.length=n)(F:Fun K x qual st f fd)(S:pY N ps (oE st))(body:∀(cdv:aa) (A:aH) (outer:List Env) (s:af) (H:Hp) (E:XK),qc k (A.deeper (envOfC qual (oE st) s.heap.objs.size f cdv))->PSs (ve P w K mg base N qual st f cdv A outer s H E) (o8 st) (tFS G b)):
  sE P w K mg base CX0 (k+1) f fd ps (spF G g):=by
 subst hg hp hN;exact F.ok S (VZ OT) λcdv A outer s H vs Q E hr h=>⟨_,body cdv A outer s H E hr,OR (by have:=aP bL S.pre;rw[bH]at this;omega) h⟩
theorem Wd{n:Nat}{g:aC->Option aC}{b:FS}(hg:g=fnN np n b)(hp:ps.length=np)(hN:N.length=n)(F:Fun K x qual st f fd)(S:pY N ps (oE st))(body:∀(cdv:aa) (A:aH) (outer:List Env) (s:af) (H:Hp) (E:XK),qc k (A.deeper (envOfC qual (oE st) s.heap.objs.size f cdv))->PSs (ve P w K mg base N qual st f cdv A outer s H E) (o8 st) (tFS G b)):
  sE P w K mg base CX0 (k+1) f fd ps (spN G g):=by
 subst hg hp hN;exact F.ok S (V1 OU) λcdv A outer s H vs Q E hr h=>⟨_,body cdv A outer s H E hr,OS (by have:=aP bL S.pre;rw[bH]at this;omega) h⟩
theorem We{n:Nat}{g:aC->aC->Option (D×aC)}{b:FS}{p:Str}{ps:aE}(hg:g=fnM np n b)(hp:ps.length=np)(hN:N.length=n)(F:Fun K x qual st f fd)(S:pY N (p::ps) (oE st))(body:∀(cdv:aa) (A:aH) (outer:List Env) (s:af) (H:Hp) (E:XK),qc k (A.deeper (envOfC qual (oE st) s.heap.objs.size f cdv))->PSs (ve P w K mg base N qual st f cdv A outer s H E) (o8 st) (tFS G b)):
  sE P w K mg base CX0 (k+1) f fd (p::ps) (spM G g):=by
 subst hg hp hN;exact F.ok S (QP O4) λcdv A outer s H vs Q E hr h=>⟨_,body cdv A outer s H E hr,O3 (by have:=aP bL S.pre;rw[bH,aI]at this;omega) h⟩
theorem QT{g:aC->Option (aE×aC)}(hg:∀ds q,g ds=some q->ds.length=np):∀vs H Q E,spI G c g vs H Q E->vs.length=np+1:=λvs H Q E h=>by obtain⟨p,dx,us,H0,ds,ns,es,rfl,_,_,_,r,e,_⟩:=h;rw[aI,<- om r,hg _ _ e]
theorem Wf{n:Nat}{g:aC->Option (aE×aC)}{b:FS}{p:Str}{ps:aE}(hg:g=fnI c np n b)(hp:ps.length=np)(hN:N.length=n)(F:Fun K x qual st f fd)(S:pY N (p::ps) (oE st))(body:∀(cdv:aa) (A:aH) (outer:List Env) (s:af) (H:Hp) (E:XK),qc k (A.deeper (envOfC qual (oE st) s.heap.objs.size f cdv))->PSs (ve P w K mg base N qual st f cdv A outer s H E) (o8 st) (tFS G b)):
  sE P w K mg base CX0 (k+1) f fd (p::ps) (spI G c g):=by
 subst hg hp hN;exact F.ok S (QT λds q h=>(BC h).1) λcdv A outer s H vs Q E hr h=>⟨_,body cdv A outer s H E hr,Iu (by have:=aP bL S.pre;rw[bH,aI]at this;omega) h⟩
theorem SF{n:Nat}{g:aC->Option (aE×aC)}{b:FS}{p:Str}{ps:aE}(hg:g=fnI c np n b)(hp:ps.length=np)(hN:N.length=n)(F:JM K x qual st f fd T)(S:pY N (p::ps) (oE st))(body:∀(cdv:aa) (A:aH) (outer:List Env) (s:af) (H:Hp) (E:XK),qc k (A.deeper (envOfC qual (oE st) s.heap.objs.size f cdv))->PSs (ve P w K mg base N qual st f cdv A outer s H E) (o8 st) (tFS G b)):
  sE P w K mg base CX0 (k+1) f fd (p::ps) (spI G c g):=by
 subst hg hp hN;exact F.ok S (QT λds q h=>(BC h).1) λcdv A outer s H vs Q E hr h=>⟨_,body cdv A outer s H E hr,Iu (by have:=aP bL S.pre;rw[bH,aI]at this;omega) h⟩
end
section
variable{X:Cx}{G:Bg}
def xG(G:Bg)(mg:Str->Option aa)(x:Str)(d:D):Prop:=∃(v:V) (u:aa),mg x=some u/\RelV v u/\∀H,Rep G H d v
theorem LW{x:Str}(h:xG G X.mg x d)(hg:Gl X x:=by rfl)(hd:(x==("__debug__" : Str))=false:=by decide):PE X (.Name x pos) (tF G (cC d)):=by obtain⟨v,u,h1,h2,h3⟩:=h;exact OD (HU hg h1 h2 hd) h3
def Wg:FS:=λ_=>none
def qb(T:String):Ty->Option Bool
 |.b n=>if n="NoneType" then some false else if n="bool" then some (T=="bool" ||T=="int")else if n="int" then some (T=="int")else if n="str" then some (T=="str")else if n="tuple" then some (T=="tuple")else if n="list" then some (T=="list")else if n="dict" then some (T=="dict")else none
 |.c _=>none
theorem LX{T:String}:∀k b,qb T (.c k)=some b->JY X.K (G.ca k):=λk b h=>by cases h
theorem LY:∀y b,qb "list" y=some b->cH X.K (y.val G) (.type "list")=some b:=λy b h=>by
 cases y with
 |c k=>cases h
 |b n=>
  unfold qb at h;simp only at h
  iterate 7 (split at h;· rename_i e;subst e;cases h;first|rfl|kernel_rfl)
  cases h
theorem Pd:∀y b,qb "str" y=some b->cH X.K (y.val G) (.type "str")=some b:=λy b h=>by
 cases y with
 |c k=>cases h
 |b n=>
  unfold qb at h;simp only at h
  iterate 7 (split at h;· rename_i e;subst e;cases h;first|rfl|kernel_rfl)
  cases h
end
end L4
namespace L3
open PySem PySem.Spec PyProof.Rows L2
theorem Pe{X:Cx}{i:Nat}{y:Str}{py spos:Pos}{elt iter tg:Expr}{ifs:List Expr}{scope:cy}{pos:Pos}{N':aE}{k:Nat}{cap:List Nat}{wi:TI}{g:TG}{tt:TT}{te:TE}
  (hc:X.calm=true) (hN:X.N.Nodup) (hy:X.N[i]?=some y) (hyl:Loc X.env.scope y) (hi:PI X tg iter wi)
  (body:∀(cl:List (Str×Addr)) (C:Addr) (fp:List Addr) (s:af) (H:Hp),PG (qd X N' scope cl C fp s H) tg g/\PIf (qd X N' scope cl C fp s H) ifs tt/\PE (qd X N' scope cl C fp s H) elt te)
  (hkind:scope.kind=.function:=by rfl) (hcell:(scope.names.all λy=>y.2 != .cell)=true:=by rfl)
  (hloc:(scope.names.all λy=>y.2 != .local||scope.names.lookup y.1==some .local)=true:=by rfl)
  (hfree:(scope.names.all λy=>y.2 != .free||(X.env.kindOf y.1==some .cell||X.env.kindOf y.1==some .free))=true:=by rfl)
  (hlen:N'.length=k+cap.length:=by rfl) (hcap:(N'.drop k).map some=cap.map λj=>X.N[j]?:=by rfl)
  (hcf:((N'.drop k).all λx=>scope.names.lookup x==some .free)=true:=by rfl)
  (hs:∀x,foldedSetIterable iter X.env x=pure x:=by intro _;rfl)
  (hsw:swapsWith (.ListComp elt [⟨tg,iter,ifs,0⟩] scope pos) (some (.Name y py)) spos.line X.env=pure true:=by rfl)
  (hfy:X.fn y=true\/X.env.scope.names.lookup y=some .local:=by first|exact .inl rfl|exact .inr rfl|assumption):
  PS X (.Assign [.Name y py] (.ListComp elt [⟨tg,iter,ifs,0⟩] scope pos) spos) (yJ (Bv wi g tt te k cap) (t8 i)):=by
 intro pins s σ H D I h;rw[exec_Assign_Name_used _ _ _ _ hsw];refine ai (wpAny_standAt (ai ?_));show wpAny _ X.A (do let _<-comprehension (.ListComp elt [⟨tg,iter,ifs,0⟩] scope pos) scope X.env _ (newList []) false (eval iter X.env) (some (assign (.Name y py) X.env))) _ _ s;refine ai (bM (Dk (P:=λ_ s'=>SP X pins D .next s') hc hi body hkind hcell hloc hfree hlen hcap hcf hs I h λa C m u s4 H3 hn back fpC qn=>?_) (λ_ s' hq=>aB (aB hq)) λ_ _ e=>e);obtain⟨oC,esC,nC,gC,dC,rC⟩:=id hn;have I7:=back.pinned (fp:=[C]) (λb hb=>bx.mp hb▸fpC) (λb hb=>bx.mp hb▸⟨oC,gC,λv z=>by rw[dC]at z;cases z⟩);show wpAny _ X.A (assign (.Name y py) X.env (.ref a)) _ _ s4;refine thn (HW (pos:=py) hN hy hyl hfy _ s4 σ H3 (.ref a) (.ref a) (λσ' H'=>D.nx σ' H') I7 rfl qn) λ_ s6 ⟨σ6,H6,I8,q6⟩=>?_;obtain⟨p1,p2,_⟩:=I8.pin (C,oC) (bO _ (bO _ (ua (by simp) gC)));exact⟨m,⟨oC,esC,nC,p1,dC,rC⟩,λh' hs'=>⟨σ6,H6,I8.unpinned.turned (t':=s6.toks) (λb o hb e=>(hs'.2 b hb).trans e) p2 fpC.2.1 fpC.2.2.2.1 fpC.2.2.2.2.1 fpC.2.2.2.2.2,q6⟩⟩
end L3
namespace L4
open PySem PySem.Spec PyProof.Rows L2 L3
variable{st:Stmt}{te:TE}{i:Nat}{ft:FT}{fe:FE}
section
variable{X:Cx}{G:Bg}
theorem FD{te':TE}{g:TG}(h:PS X st (yJ te g))(w:∀σ H Q,te' σ H Q->te σ H Q):PS X st (yJ te' g):=PS.weak h λE σ H hh=>w _ _ _ hh
theorem LZ{k:Nat}{cap:List Nat}{s:FA}{g:FG}(nd:cap.Nodup)(h:PS X st (yJ (Bv (tFI G s) (tFG G k g) (tFT G ft) (tF G fe) k cap) (t8 i))):PS X st (tFS G (oQ i (cL (oJ k cap s g ft fe)))):=Ir (FD (FD h (Iw nd)) VY)
end
variable{es0 es':aC}{np:Nat}
section
variable{f g h:FS}{c:FT}{e e' e2:FE}{a a':FA}{ρ ρ' ρ1 ρ2 ρ3:aV}{d x y z:D}{o:Out}{ds xs ys:aC}
theorem n9(h:f ρ=some (.nx ρ')):oh f g ρ=g ρ':=by unfold oh;rw[h]
theorem pF(h:f ρ=some (.rt d ρ')):oh f g ρ=some (.rt d ρ'):=by unfold oh;rw[h]
theorem pG(h:c ρ=some (true,ρ')):sIf c f g ρ=f ρ':=by unfold sIf;rw[h]
theorem pd(h:c ρ=some (false,ρ')):sIf c f g ρ=g ρ':=by unfold sIf;rw[h]
theorem oK(h:e ρ=some (d,ρ')):oQ i e ρ=some (.nx (ρ'.set i (.im d))):=by unfold oQ;rw[h]
theorem Eo(h:a ρ=some (ds,ρ')):tm i a ρ=some (.nx (ρ'.set i (.ls ds))):=by unfold tm;rw[h]
theorem o7(h:e ρ=some (d,ρ')):oT e ρ=some (.rt d ρ'):=by unfold oT;rw[h]
theorem sS(h:a ρ=some (ds,ρ')):qg a ρ=some (.rn ds ρ'):=by unfold qg;rw[h]
theorem pT(h:e ρ=some (d,ρ')):o6 e ρ=some (.nx ρ'):=by unfold o6;rw[h]
theorem ou{g:D->D->Option D}(h1:e ρ=some (x,ρ1))(h2:e' ρ1=some (y,ρ2))(h3:g x y=some z):c2 g e e' ρ=some (z,ρ2):=by unfold c2;rw[h1];simp only[h2,h3]
theorem pj{g:D->Option D}(h1:e ρ=some (x,ρ1))(h3:g x=some z):c1 g e ρ=some (z,ρ1):=by unfold c1;rw[h1];simp only[h3]
theorem SG(h1:e (ρ.map Sl.bor)=some (d,ρ1))(hf:qI d=true):CN e ρ=some (d,ρ):=by unfold CN;rw[h1];simp only[hf,if_true]
theorem IF{b:Bool}(h1:c (ρ.map Sl.bor)=some (b,ρ1)):Ai c ρ=some (b,ρ):=by unfold Ai;rw[h1]
theorem pL{b:Bool}(h1:e ρ=some (.bl b,ρ1)):cT e ρ=some (b,ρ1):=by unfold cT;rw[h1]
theorem sT{b:Bool}(h1:c ρ=some (b,ρ1)):p5 c ρ=some (!b,ρ1):=by unfold p5;rw[h1]
theorem zN{b:Bool}{c':FT}(h1:c ρ=some (false,ρ1))(h2:c' ρ1=some (b,ρ2)):sy c c' ρ=some (b,ρ2):=by unfold sy;rw[h1];exact h2
theorem n8(h1:e ρ=some (d,ρ1))(h2:a ρ1=some (ds,ρ2)):n4 e a ρ=some (d::ds,ρ2):=by unfold n4;rw[h1];simp only[h2]
theorem og{α:Type}{g:aC->Option α}{r:α}(h1:a ρ=some (ds,ρ1))(h2:g ds=some r):zJ g a ρ=some (r,ρ1):=by unfold zJ;rw[h1];simp only[h2]
theorem px(h1:a ρ=some (ds,ρ1)):cL a ρ=some (.lst ds,ρ1):=by unfold cL;rw[h1]
theorem Ep(h1:a ρ=some (ds,ρ1))(hl:ds.length<=1000):pb a ρ=some (ds,ρ1):=by unfold pb;rw[h1];simp only[hl,if_true]
theorem vO(h1:a ρ=some (ds,ρ1))(hl:ds.length<=1000):qm a ρ=some (.tup ds,ρ1):=by unfold qm;rw[h1];simp only[hl,if_true]
theorem ue(h1:e ρ=some (.lst xs,ρ1))(h2:e' ρ1=some (.lst ys,ρ2))(hl:xs.length+ys.length<=1000):rq e e' ρ=some (xs++ys,ρ2):=by unfold rq;rw[h1];simp only[h2,hl,if_true]
theorem rZ{g:aC->aC->Option (D×aC)}{es:aC}(h0:qH ρ i=some es0)(h1:a ρ=some (ds,ρ1))(h2:qH ρ1 i=some es)(h3:g es ds=some (d,es')):pW g i a ρ=some (d,putAt ρ1 i es'):=by unfold pW;rw[h0];simp only[h1,h2,h3]
theorem wQ{es:aC}(h0:qH ρ i=some es0)(h1:e ρ=some (d,ρ1))(h2:qH ρ1 i=some es)(hl:es.length<1000):uc i e ρ=some (.non,putAt ρ1 i (es++[d])):=by unfold uc;rw[h0];simp only[h1,h2,hl,if_true]
theorem pJ{s:FA}{g:FG}(h1:s ρ=some (ds,ρ1)):rT s g f ρ=forL g f ds ρ1:=by unfold rT;rw[h1]
theorem yV{k:Nat}{cap:List Nat}{s:FA}{g:FG}(h1:s ρ=some (ds,ρ1))(hl:ds.length<=1000):oJ k cap s g ft fe ρ=sA k cap g ft fe ds ρ1:=by unfold oJ;rw[h1];simp only[hl,if_true]
theorem SH{n:Nat}{b:FS}{es:aC}(hl:ds.length=np)(h:b (L4.stM n es ds)=some (.rt d ρ))(h0:Ae ρ=some es'):fnM np n b es ds=some (d,es'):=by unfold fnM;rw[aj hl,h];simp only[h0]
theorem SI{n:Nat}{b:FS}{es:aC}(hl:ds.length=np)(h:b (L4.stM n es ds)=some (.rn xs ρ))(h0:Ae ρ=some es'):fnM np n b es ds=some (.lst xs,es'):=by unfold fnM;rw[aj hl,h];simp only[h0]
theorem uP{n:Nat}{b:FS}(hl:ds.length=np)(h:b (L4.stE n ds)=some (.rn xs ρ)):fnN np n b ds=some xs:=by unfold fnN;rw[aj hl,h]
theorem oH{n:Nat}{b:FS}(hl:ds.length=np)(h:b (L4.stE n ds)=some (.rt d ρ)):fnD np n b ds=some d:=by unfold fnD;rw[aj hl,h]
end
theorem tX{a b:Int}(h:yn a=true\/yn b=true):tq (.int a) (.int b)=some (.int (a * b)):=by unfold tq dI;simp only;rw[aj (by simpa using h)]
theorem uC{a b:Int}(h:0<b):rM (.int a) (.int b)=some (.int (a % b)):=by unfold rM dI;simp only;rw[aj (by simpa using h)]
theorem div_pos{a b:Int}(h:0<b)(h':b<1073741824):xT (.int a) (.int b)=some (.int (a / b)):=by unfold xT dI;simp only;rw[aj (by simp[h,h'])]
theorem FH{a:Int}(h:0<=a)(h':a<2147483647):yn a=true:=by unfold yn;simp only[aY,bu];omega
def wU:D->Option Key
 |.int i=>some (.inl i)
 |.str x=>some (.inr x)
 |_=>none
def qB:List Key->aC->Key->Option D
 |k::ks,d::ds,j=>if k=j then some d else qB ks ds j
 |_,_,_=>none
def FI(ks:List Key)(ds:aC)(k:Key)(d:D):aC:=cW (λk' d'=>if k'=k then d else d') ks ds
def yW(ks:List Key)(k:Key):Bool:=ks.any λk'=>decide (k'=k)
variable{d:D}{a:Addr}{kvs:List (Key×V)}{b tg e:Expr}{f f' fk:FE}{pos apos cpos:Pos}
section
variable{X:Cx}{G:Bg}{H:Hp}
theorem vP{v:V}{k:Key}(h:Rep G H d v)(e:wU d=some k):v=kV k:=by
 cases d<;>first|cases e|skip
 all_goals (unfold Rep at h;exact h)
theorem wV:∀{ks:List Key} {ds:aC} {xs:bh} (j:Key),oi G H ds xs->ks.length=xs.length->match qB ks ds j with
  |some d=>∃v,rU (ks.zip xs) j=some v/\Rep G H d v
  |none=>rU (ks.zip xs) j=none
 |[],ds,xs,j,r,l=>by cases ds<;>rfl
 |k::ks,ds,[],j,r,l=>by cases l
 |k::ks,[],x::xs,j,r,l=>by unfold oi at r;cases r
 |k::ks,d::ds,x::xs,j,r,l=>by
  unfold oi at r;obtain⟨v,q,e,h1,h2⟩:=r;cases e;unfold qB;by_cases hk:k=j
  ·rw[aj hk];exact⟨x,yN (p:=(k,x)) hk,h1⟩
  ·rw[ak hk];have ih:=wV (ks:=ks) (ds:=ds) (xs:=xs) j h2 (by simpa using l);have e1:rU ((k::ks).zip (x::xs)) j=rU (ks.zip xs) j:=yO (p:=(k,x)) hk;rw[e1];exact ih
theorem Er{k:Key}:∀{ks:List Key} {xs:bh},ks.length=xs.length->((ks.zip xs).any λkv=>decide (kv.1=k))=yW ks k
 |[],xs,_=>by cases xs<;>rfl
 |k'::ks,[],l=>by cases l
 |k'::ks,x::xs,l=>by unfold yW;rw[dD,dG,dG,Er (by simpa using l)];rfl
theorem IG{k:Key}{v:V}:∀{ks:List Key} {xs:bh},ks.length=xs.length->(ks.zip xs).map (λkv=>if kv.1=k then (kv.1,v)else kv)=ks.zip (cW (λk' x=>if k'=k then v else x) ks xs)
 |[],xs,_=>by cases xs<;>rfl
 |k'::ks,[],l=>by cases l
 |k'::ks,x::xs,l=>by
  rw[dD,ay,IG (by simpa using l),dW,dD];congr 1;by_cases hk:k'=k
  ·rw[aj hk,aj hk]
  ·rw[ak hk,ak hk]
theorem FJ{k:Key}{d:D}{v:V}(hd:Rep G H d v):∀{ks:List Key} {ds:aC} {xs:bh},oi G H ds xs->ks.length=xs.length->oi G H (FI ks ds k d) (cW (λk' x=>if k'=k then v else x) ks xs)
 |[],ds,xs,r,l=>by unfold FI;cases ds<;>cases xs<;>exact o5
 |k'::ks,ds,[],r,l=>by cases l
 |k'::ks,[],x::xs,r,l=>by unfold oi at r;cases r
 |k'::ks,d'::ds,x::xs,r,l=>by
  unfold oi at r;obtain⟨w,q,e,h1,h2⟩:=r;cases e;unfold FI;rw[dW,dW];refine oZ ?_ (FJ hd h2 (by simpa using l));by_cases hk:k'=k
  ·rw[aj hk,aj hk];exact hd
  ·rw[ak hk,ak hk];exact h1
theorem _root_.L2.DGet.kf{H:Hp}{o:Obj}{k:Key}(e:H a=some (.frz o (.dK kvs))):DGet H a (kV k) (rU kvs k):=.inl ⟨kvs,k,.inr ⟨o,e⟩,rfl,rfl⟩
def ph:D->D->Option D:=λx y=>match x,wU y with
 |.dic ks ds,some k=>qB ks ds k
 |_,_=>none
theorem Pf{a:Expr}(hu:X.A.units+1<cLine)(ha:PE X a (tF G f))(hb:PE X b (tF G f'))(hs:RK b:=by exact λ_ _=>rfl):PE X (.Subscript a b pos) (tF G (c2 ph f f')):=PE.weak (Ot hu ha hb hs) λσ H Q hh=>by
 obtain⟨F,ρ,H0,d,ρ',R,e,k⟩:=hh;obtain⟨x,y,ρ1,e1,e2,e3⟩:=yQ e;refine⟨F,ρ,H0,x,ρ1,R,e1,λv H1 H1' s1 R1 r1=>⟨F,ρ1,H1,y,ρ',R1,e2,λu H2 H2' s2 R2 r2=>?_⟩⟩;have r1':=Rep.mono s2 _ _ r1;cases x with
 |dic ks ds=>
  unfold ph at e3;cases ek:wU y with
  |none=>simp only[ek]at e3;cases e3
  |some j=>simp only[ek]at e3;unfold Rep at r1';obtain⟨p,ob,xs,rfl,h1,h2,h3⟩:=r1';have lv:=wV (ks:=ks) j h3 h2;rw[e3]at lv;obtain⟨w,w1,w2⟩:=lv;refine⟨p,w,rfl,?_,k w H2 H2' (s1.trans s2) R2 w2⟩;rw[vP r2 ek,<- w1];exact DGet.kf (R2.sub _ _ h1)
 |_=>unfold ph at e3;cases e3
def Ds:D->D->Option D:=λx y=>match x,wU y with
 |.dic ks ds,some k=>some ((qB ks ds k).getD .non)
 |_,_=>none
theorem L0{a:Expr}(hu:X.A.units+1<cLine)(ha:PE X a (tF G f))(hb:PE X b (tF G f'))(m:M1 X a "get" apos b cpos):PE X (.Call (.Attribute a "get" apos) [b] [] cpos) (tF G (c2 Ds f f')):=PE.weak (Li hu ha hb m) λσ H Q hh=>by
 obtain⟨F,ρ,H0,d,ρ',R,e,k⟩:=hh;obtain⟨x,y,ρ1,e1,e2,e3⟩:=yQ e;cases x with
 |dic ks ds=>
  refine⟨F,ρ,H0,_,ρ1,R,e1,λv H1 H1' s1 R1 r1=>?_⟩;have r1':=r1;unfold Rep at r1';obtain⟨p,ob,xs,rfl,h1,h2,h3⟩:=r1';refine⟨p,rfl,.inl ⟨_,.inr ⟨_,R1.sub _ _ h1⟩⟩,F,ρ1,H1,y,ρ',R1,e2,λu H2 H2' s2 R2 r2=>?_⟩;unfold Ds at e3;cases ek:wU y with
  |none=>simp only[ek]at e3;cases e3
  |some j=>
   simp only[ek]at e3;cases e3;have lv:=wV (ks:=ks) j (oi.mono s2 _ _ h3) h2;refine⟨rU (ks.zip xs) j,?_,?_⟩
   ·rw[vP r2 ek];exact DGet.kf (R2.sub _ _ (s2 _ _ h1))
   ·cases el:qB ks ds j with
    |none=>rw[el]at lv k;rw[lv];exact k _ H2 H2' (s1.trans s2) R2 yP
    |some z=>rw[el]at lv k;obtain⟨w,w1,w2⟩:=lv;rw[w1];exact k _ H2 H2' (s1.trans s2) R2 w2
 |_=>unfold Ds at e3;cases e3
def xU(i:Nat):FS:=λρ=>some (.nx (ρ.set i (.dk [] [])))
theorem L6(h:PS X st (yJ GU (t8 i))):PS X st (tFS G (xU i)):=PS.weak h λE σ H hh=>by obtain⟨F,ρ,H0,o,R,e,k,k2⟩:=hh;cases e;intro p hp;have R1:=R.newOwn hp (.dK []);refine k _ _ _ (ox.refl _) (R1.set (s:=.dk [] []) ⟨p,[],rfl,oq,R.h0none hp,R.bNone hp,rfl,o5⟩ λ_ a ea j t _ ej to=>?_);cases ea;exact R.apart hp j t ej to
def pC(i:Nat)(fk fv:FE):FS:=λρ=>match fv ρ with
 |some (d,ρ1)=>match ρ1[i]? with
  |some (.dk _ _)=>match fk ρ1 with
   |some (y,ρ2)=>match wU y with
    |some k=>match ρ2[i]? with
     |some (.dk ks ds)=>if ks.length<1000 then if ds.length=ks.length then some (.nx (ρ2.set i (if yW ks k=true then .dk ks (FI ks ds k d)else .dk (ks++[k]) (ds++[d]))))else none else none
     |_=>none
    |none=>none
   |none=>none
  |_=>none
 |none=>none
theorem L7{fv:FE}(h:PS X st (QM (uN i) (tF G fk) (tF G fv))):PS X st (tFS G (pC i fk fv)):=PS.weak h λE σ H hh=>by
 obtain⟨F,ρ,H0,o,R,e,k,k2⟩:=hh;unfold pC at e;rcases oP (f:=fv) (ρ:=ρ)with e1|⟨d,ρ1,e1⟩<;>simp only[e1]at e
 ·cases e
 split at e
 ·rename_i ks0 ds0 ei;rcases oP (f:=fk) (ρ:=ρ1)with e2|⟨y,ρ2,e2⟩<;>simp only[e2]at e
  ·cases e
  cases ek:wU y with
  |none=>simp only[ek]at e;cases e
  |some j=>
   simp only[ek]at e;split at e
   ·rename_i ks ds ei2;split at e
    ·rename_i hl;split at e
     ·rename_i hl2;cases e;refine⟨F,ρ,H0,d,ρ1,R,e1,λv H1 H1' s1 R1 r1=>?_⟩;obtain⟨a0,xs0,a1,_⟩:=R1.sl i _ ei;refine⟨_,qG a1,F,ρ1,H1,y,ρ2,R1,e2,λu H2 H2' s2 R2 r2=>?_⟩;obtain⟨a,xs,b1,b2,b3,b4,b5,b6⟩:=R2.sl i _ ei2;rw[a1]at b1;cases b1;refine⟨a0,upd H2' a0 (.dK (putK (ks.zip xs) j v)),rfl,?_,?_⟩
      ·rw[vP r2 ek];exact Lg.k b2 (by rw[eZ];exact jA (Nat.min_le_left _ _) (xE (by omega)))
      ·have rv:=Rep.mono s2 _ _ r1;refine k _ _ _ (s1.trans s2) (R2.mut ei2 rfl a1 (λH' hH=>?_) ?_)
       ·by_cases hk:yW ks j=true
        ·rw[aj hk];refine⟨a0,cW (λk' x=>if k'=j then v else x) ks xs,rfl,?_,b3,b4,by rw[js,b5,fo],FJ rv b6 b5⟩;rw[hH];unfold putK;rw[Er b5,aj hk,IG b5]
        ·rw[ak hk];refine⟨a0,xs++[v],rfl,?_,b3,b4,by rw[aJ,aJ,b5];rfl,qF b6 (oZ rv o5)⟩;rw[hH];unfold putK;rw[Er b5,ak hk,mR b5];rfl
       ·split<;>rfl
     ·cases e
    ·cases e
   ·cases e
 ·cases e
def AU:D->Option D
 |.lst ds=>(CM ds).map λbs=>.bl (bs.any id)
 |_=>none
theorem J3(hc:X.calm=true)(hK:X.K=G.K:=by rfl):qf X (.builtin "any") (λxs H Q=>∃(p:Addr) (bs:List Bool),xs=[.ref p]/\SqL G.K H p (bs.map V.bl)/\Q (.bl (bs.any id)) H):=by
 rw[<-hK];intro pins s σ H xs us Q I r h;obtain⟨p,bs,rfl,hq,q⟩:=h;obtain⟨u,rfl,ru⟩:=vals1 r;cases ru;obtain⟨its,rv,pl,hz⟩:=I.list hq;have hlt:p<s.heap.objs.size:=by obtain⟨o,ho,_⟩:=pl.isList;exact aM ho
 have hl:bs.length=its.length:=by have:=rv.length;rw[ah]at this;exact this
 refine call_any_walk (eS pl.isList ⟨s.heap.objs.size,_,_,_,_,_,λi=>(bs[i]?).getD false,rfl,iM (show X.A.in1.handled=none from I.ok.hd hc) _ p (aU hlt) its.toArray,⟨⟨_,ba _ rfl,rfl,rfl⟩,?_⟩,?_,λh' tk hk=>?_⟩)
 ·exact pl.isList.at λo e=>aG _ e
 ·intro i v s' Q' E' hv hQ';have hv':its[i]?=some v:=by simpa using hv
  have hi:i<its.length:=(bN.mp hv').1;have hb:(bs.map V.bl)[i]?=some (.bl (bs[i]'(by omega))):=by simp[show i<bs.length by omega]
  obtain⟨u,hu,ru⟩:=rv.get hb;rw[hv']at hu;cases hu;cases ru;refine cO ?_;have e:(bs[i]?).getD false=bs[i]'(by omega):=by simp[show i<bs.length by omega]
  rw[<-e];exact hQ'
 ·refine⟨.bl (bs.any id),H,?_,?_,q⟩
  ·exact I.kept (t':=tk) λb o e=>hk b o (by simp;exact aU (aM e)) (aG _ e)
  ·show Value.bool _=Value.bool _;congr 1;rw[aX,<- hl];rw[cD];simp only[eB,bY,id];constructor
   ·rintro⟨i,hi,h⟩;exact⟨bs[i],eW hi,by simpa [hi]using h⟩
   ·rintro⟨b,hb,h⟩;obtain⟨i,hi,rfl⟩:=jo.mp hb;exact⟨i,hi,by simpa [hi]using h⟩
theorem SJ:Fy G (λxs H Q=>∃(p:Addr) (bs:List Bool),xs=[.ref p]/\SqL G.K H p (bs.map V.bl)/\Q (.bl (bs.any id)) H) AU:=λx z H0 H v Q e s rx k=>by
 cases x with
 |lst ds=>
  unfold AU at e;simp only at e;cases e1:CM ds with
  |none=>rw[e1]at e;cases e
  |some bs=>rw[e1]at e;cases e;unfold Rep at rx;obtain⟨a,xs,rfl,h1,h2⟩:=rx;rw[BI h2 e1]at h1;exact⟨a,bs,rfl,s.seq (SqL.of h1),k _ λ_ _=>rp _⟩
 |_=>cases e
def iS(f:FE):FA:=λρ=>match f ρ with
 |some (.str x,ρ')=>some (x.cps.toList.map λc=>D.str ⟨#[c]⟩,ρ')
 |_=>none
theorem Pg(h:PI X tg e (VR (tF G f))):PI X tg e (tFI G (iS f)):=PI.weak h λσ H R hh=>by
 obtain⟨F,ρ,H0,ds,ρ',R,e,k⟩:=hh;unfold iS at e;split at e
 ·rename_i x ρ1 e1;cases e;refine⟨F,ρ,H0,_,_,R,e1,λv H1 H1' s R' r=>?_⟩;unfold Rep at r;refine⟨x,r,k _ _ _ s R' λi H2 H2' t t'=>⟨λd ed=>?_,λhl=>?_⟩⟩
  ·rw[bc]at ed;cases ec:x.cps.toList[i]? with
   |none=>rw[ec]at ed;cases ed
   |some c=>
    rw[ec]at ed;cases ed;have ec':x.cps[i]?=some c:=by simpa using ec
    refine⟨(Array.getElem?_eq_some_iff.mp ec').1,λz H3 y=>?_⟩;obtain⟨e3,c',hc',rfl⟩:=y;rw[ec']at hc';cases hc';subst e3;exact⟨H2,ox.refl _,t',ox.refl _,λb o e=>.inl e,vL _⟩
  ·show i=x.cps.size;rw[hl,ah];simp
 ·cases e
def Ak(f g:FE):FE:=λρ=>match f ρ with
 |some (.tup (x::xs),ρ1)=>match g ρ1 with
  |some (.tup ys,ρ2)=>if xs.length+ys.length<=900 then some (.tup (x::xs++ys),ρ2)else none
  |_=>none
 |_=>none
theorem Ph{a:Expr}{g:FE}(ha:PE X a (tF G f))(hb:PE X b (tF G g))(hK:X.K=G.K:=by rfl):PE X (.BinOp a .Add b pos) (tF G (Ak f g)):=PE.weak (KY Ol ha hb) λσ H Q hh=>by
 rw[hK];obtain⟨F,ρ,H0,d,ρ',R,e,k⟩:=hh;unfold Ak at e;split at e
 ·rename_i x xs ρ1 e1;split at e
  ·rename_i ys ρ2 e2;split at e
   ·rename_i hl;cases e;refine⟨F,ρ,H0,_,ρ1,R,e1,λv H1 H1' s R' r=>⟨F,ρ1,H1,_,_,R',e2,λu H2 H2' s2 R2 r2=>?_⟩⟩;have r':=Rep.mono s2 _ _ r;have r0:=r';unfold Rep at r' r2;obtain⟨a1,xs1,rfl,h1,h2⟩:=r';obtain⟨a2,xs2,rfl,h3,h4⟩:=r2;have l1:=om h2;have l2:=om h4;rw[aI]at l1;refine⟨a1,a2,xs1,xs2,rfl,rfl,SqT.mono R2.sub h1,SqT.mono R2.sub h3,(λz=>by rw[z]at l1;cases l1),by rw[<-l1,<- l2];exact sF (by omega),λz=>?_,λ_ p hp=>?_⟩
    ·have ey:ys=[]:=by rw[z]at l2;exact List.length_eq_zero_iff.mp l2
     subst ey;rw[bp]at k;exact k _ _ _ (s.trans s2) R2 r0
    ·exact k _ _ _ ((s.trans s2).trans (oI (R2.h0none hp) _)) (R2.newIm hp _) (xF (SqT.of oq) (oi.mono (oI (R2.h0none hp) _) _ _ (qF h2 h4)))
   ·cases e
  ·cases e
 ·cases e
end
section
variable{X:Cx}{G:Bg}
abbrev FO:=aV->Option (Option Int×aV)
def tFO(G:Bg)(f:FO):TO:=λσ H Q=>∃F ρ H0 d ρ',oA G F σ ρ H0 H/\f ρ=some (d,ρ')/\∀H0' H',ox H0 H0'->oA G F σ ρ' H0' H'->Q d H'
def oNo:FO:=λρ=>some (none,ρ)
def oAt(f:FE):FO:=λρ=>match f ρ with
 |some (.int i,ρ')=>some (some i,ρ')
 |_=>none
theorem PO.weak{e:Option Expr}{t t':TO}(h:PO X e t)(w:∀σ H Q,t' σ H Q->t σ H Q):PO X e t':=λpins s σ H Q I hq=>h pins s σ H Q I (w _ _ _ hq)
theorem SK:PO X none (tFO G oNo):=PO.weak Oj λσ H Q hh=>by obtain⟨F,ρ,H0,d,ρ',R,e,k⟩:=hh;cases e;exact k _ _ (ox.refl _) R
theorem SL(h:PE X e (tF G f)):PO X (some e) (tFO G (oAt f)):=PO.weak (Ig h) λσ H Q hh=>by
 obtain⟨F,ρ,H0,d,ρ',R,e,k⟩:=hh;unfold oAt at e;split at e
 ·rename_i i ρ1 e1;cases e;refine⟨F,ρ,H0,_,_,R,e1,λv H1 H1' s R' r=>?_⟩;unfold Rep at r;exact⟨i,r,k _ _ s R'⟩
 ·cases e
def uQ(f:FE)(lo hi:FO):FA:=λρ=>match f ρ with
 |some (d,ρ1)=>match d with
  |.lst ds=>match lo ρ1 with
   |some (l,ρ2)=>match hi ρ2 with
    |some (h,ρ3)=>some (cutD ds l h,ρ3)
    |none=>none
   |none=>none
  |.fzl ds=>match lo ρ1 with
   |some (l,ρ2)=>match hi ρ2 with
    |some (h,ρ3)=>some (cutD ds l h,ρ3)
    |none=>none
   |none=>none
  |_=>none
 |none=>none
theorem G5{lo hi:FO}(h:PE X e (tSl (JD G.K) (tF G f) (tFO G lo) (tFO G hi))):PE X e (tFN G (uQ f lo hi)):=PE.weak h λσ H Q hh=>by
 obtain⟨F,ρ,H0,ds,ρ',R,e,k⟩:=hh;unfold uQ at e;rcases oP (f:=f) (ρ:=ρ)with e1|⟨d,ρ1,e1⟩<;>simp only[e1]at e
 ·cases e
 have gen:∀(xs:aC),(∀{H1:Hp} {v:V},Rep G H1 d v->∃a ys,v=.ref a/\SqL G.K H1 a ys/\oi G H1 xs ys)->(match lo ρ1 with
   |some (l,ρ2)=>match hi ρ2 with
    |some (h,ρ3)=>some (cutD xs l h,ρ3)
    |none=>none
   |none=>none)=some (ds,ρ')->tSl (JD G.K) (tF G f) (tFO G lo) (tFO G hi) σ H Q:=λxs rd e=>by
  rcases oP (f:=lo) (ρ:=ρ1)with e2|⟨l,ρ2,e2⟩<;>simp only[e2]at e
  ·cases e
  rcases oP (f:=hi) (ρ:=ρ2)with e3|⟨u,ρ3,e3⟩<;>simp only[e3]at e
  ·cases e
  cases e;refine⟨F,ρ,H0,d,ρ1,R,e1,λv H1 H1' s1 R1 r1=>⟨F,ρ1,H1,l,ρ2,R1,e2,λH2 H2' s2 R2=>⟨F,ρ2,H2,u,_,R2,e3,λH3 H3' s3 R3=>?_⟩⟩⟩;obtain⟨a,ys,rfl,q1,q2⟩:=rd (Rep.mono (s2.trans s3) _ _ r1);exact⟨a,ys,rfl,R3.sub.seq q1,λp hp=>k p _ _ _ (s1.trans (s2.trans s3)) (R3.newOwn hp _) oq (R3.h0none hp) (R3.bNone hp) (R3.apart hp) (FB q2)⟩
 cases d with
 |lst xs=>exact gen xs (λr=>by unfold Rep at r;obtain⟨a,ys,rfl,q1,q2⟩:=r;exact⟨a,ys,rfl,SqL.of q1,q2⟩) e
 |fzl xs=>exact gen xs (λr=>by unfold Rep at r;exact r) e
 |_=>cases e
def FK:D->D->Option D
 |.str x,.int n=>if 0<=n/\n<=1000/\x.length<=100 then some (.str (gA x n))else none
 |_,_=>none
def Es(neg:Bool):D->D->Option D:=λy x=>match x,wU y with
 |.dic ks ds,some k=>some (.bl (if neg then !(qB ks ds k).isSome else (qB ks ds k).isSome))
 |_,_=>none
theorem SM:∀σ H Q,tF G (c2 (Es false) f f') σ H Q->VQ (tF G f) (tF G f') σ H Q:=λσ H Q hh=>by
 obtain⟨F,ρ,H0,d,ρ',R,e,k⟩:=hh;obtain⟨y,x,ρ1,e1,e2,e3⟩:=yQ e;refine⟨F,ρ,H0,y,ρ1,R,e1,λu H1 H1' s1 R1 r1=>⟨F,ρ1,H1,x,ρ',R1,e2,λv H2 H2' s2 R2 r2=>?_⟩⟩;cases x with
 |dic ks ds=>
  unfold Es at e3;cases ek:wU y with
  |none=>simp only[ek]at e3;cases e3
  |some j=>
   simp only[ek]at e3;cases e3;unfold Rep at r2;obtain⟨p,ob,xs,rfl,h1,h2,h3⟩:=r2;have lv:=wV (ks:=ks) j h3 h2;refine⟨p,rU (ks.zip xs) j,rfl,?_,?_⟩
   ·rw[vP r1 ek];exact DGet.kf (R2.sub _ _ h1)
   ·cases el:qB ks ds j with
    |none=>rw[el]at lv k;rw[lv];exact k _ _ _ (s1.trans s2) R2 (rp _)
    |some z=>rw[el]at lv k;obtain⟨w,w1,_⟩:=lv;rw[w1];exact k _ _ _ (s1.trans s2) R2 (rp _)
 |_=>unfold Es at e3;cases e3
end
section
variable{X:Cx}{G:Bg}
def yp:FE:=λ_=>none
theorem L8:PE X e (tF G yp):=λpins s σ H Q I h=>by obtain⟨F,ρ,H0,d,ρ',R,e,_⟩:=h;cases e
def IH(f f' f2:FE):FE:=λρ=>match f ρ with
 |some (.dic ks ds,ρ1)=>match f' ρ1 with
  |some (y,ρ2)=>match f2 ρ2 with
   |some (x,ρ3)=>match wU y with
    |some k=>some ((qB ks ds k).getD x,ρ3)
    |none=>none
   |none=>none
  |none=>none
 |_=>none
theorem L9{a c:Expr}{f2:FE}(hu:X.A.units+1<cLine)(ha:PE X a (tF G f))(hb:PE X b (tF G f'))(hc:PE X c (tF G f2))(m:M2 X a "get" apos b c cpos):PE X (.Call (.Attribute a "get" apos) [b,c] [] cpos) (tF G (IH f f' f2)):=PE.weak (Lj hu ha hb hc m) λσ H Q hh=>by
 obtain⟨F,ρ,H0,d,ρ',R,e,k⟩:=hh;unfold IH at e;split at e
 ·rename_i ks ds ρ1 e1;rcases oP (f:=f') (ρ:=ρ1)with e2|⟨y,ρ2,e2⟩<;>simp only[e2]at e
  ·cases e
  rcases oP (f:=f2) (ρ:=ρ2)with e3|⟨x,ρ3,e3⟩<;>simp only[e3]at e
  ·cases e
  cases ek:wU y with
  |none=>simp only[ek]at e;cases e
  |some j=>
   simp only[ek]at e;cases e;refine⟨F,ρ,H0,_,ρ1,R,e1,λv H1 H1' s1 R1 r1=>?_⟩;unfold Rep at r1;obtain⟨p,ob,xs,rfl,h1,h2,h3⟩:=r1;refine⟨p,rfl,.inl ⟨_,.inr ⟨_,R1.sub _ _ h1⟩⟩,F,ρ1,H1,y,ρ2,R1,e2,λu H2 H2' s2 R2 r2=>⟨F,ρ2,H2,x,_,R2,e3,λz H3 H3' s3 R3 r3=>?_⟩⟩;have lv:=wV (ks:=ks) j (oi.mono (s2.trans s3) _ _ h3) h2;refine⟨rU (ks.zip xs) j,?_,?_⟩
   ·rw[vP r2 ek];exact DGet.kf (R3.sub _ _ (s3 _ _ (s2 _ _ h1)))
   ·cases el:qB ks ds j with
    |none=>rw[el]at lv k;rw[lv];exact k _ H3 H3' (s1.trans (s2.trans s3)) R3 r3
    |some w=>rw[el]at lv k;obtain⟨w',w1,w2⟩:=lv;rw[w1];exact k _ H3 H3' (s1.trans (s2.trans s3)) R3 w2
 ·cases e
def G6(G:Bg)(c:Nat)(t:Ty->Option Bool):Prop:=(∀y b,t y=some b->cH G.K (y.val G) (.ref (G.ca c))=some b)/\∀j b,t (.c j)=some b->JY G.K (G.ca j)
theorem G7{c:Nat}{t:Ty->Option Bool}(h:G6 G c t)(hK:X.K=G.K:=by rfl):qf X (.builtin "isinstance") (λxs H Q=>∃d x b,xs=[x,(Ty.c c).v G]/\Rep G H d x/\t (tyD d)=some b/\Q (.bl b) H):=
 Dr (X:=X) (.c c) (by rw[hK];exact h.1) (by rw[hK];exact h.2) hK
end
def ddp(acc:List Key)(k:Key):List Key:=if acc.any (λz=>decide (z=k))then acc else acc++[k]
def uz(ks:List Key):List Key:=ks.foldl ddp []
theorem Pi(acc:List Key)(k j:Key):(ddp acc k).any (λz=>decide (z=j))=(acc.any (λz=>decide (z=j))||decide (j=k)):=by
 unfold ddp;by_cases h:acc.any (λz=>decide (z=k))=true
 ·rw[aj h];by_cases e:j=k
  ·subst e;rw[h];simp
  ·simp[e]
 ·rw[ak h,List.any_append];by_cases e:j=k
  ·subst e;simp
  ·have hb:¬k=j:=λz=>e z.symm;simp[hb,e]
theorem II(acc:List Key)(k:Key):(ddp acc k).length=if acc.any (λz=>decide (z=k))=true then acc.length else acc.length+1:=by unfold ddp;split<;>simp
theorem Dt(ks:List Key)(i:Nat)(h:i<ks.length):uz (ks.take (i+1))=ddp (uz (ks.take i)) ks[i]:=by unfold uz;rw[List.take_add_one,aS h,List.foldl_append];rfl
theorem Ma(ks:List Key):(uz ks).length<=ks.length:=by
 have gen:∀(l:List Key) (acc:List Key),(l.foldl ddp acc).length<=acc.length+l.length:=by
  intro l
  induction l with
  |nil=>intro acc;simp
  |cons k l ih=>
   intro acc;rw[mS,aI];have h1:=ih (ddp acc k);have h2:(ddp acc k).length<=acc.length+1:=by rw[II];split<;>omega
   omega
 have:=gen ks [];simpa [uz]using this
theorem set_same{prog:aD}{w:aw}{h:Heap}{S S':Key->Bool}{n n':Nat}(hS:h.SetOf (oO prog w) a S n)(e:∀k,S k=S' k)(en:n=n'):h.SetOf (oO prog w) a S' n':=by obtain rfl:S=S':=funext e;subst en;exact hS
section
variable{prog:aD}{w:aw}{A:aH}{R:dP->af->Prop}{I:Addr}{fp wr:List Addr}{GG:Array gw->Array gw->Prop}{n:Nat}{PP:Nat->aa->Prop}{SS:Nat->af->Prop}
theorem Mb(W:WalksS prog w A.in1 I fp wr GG n PP SS)(S:Addr)(hSf:S∉fp)(ks:List Key)(hn:ks.length=n)
  (hval:∀i v (h:i<ks.length),PP i v->(oO prog w).is ks[i] v=true/\v.scannable=true) (hb:n+1<scanBound):∀(k i:Nat) (s:af),n - i=k->i<=n->SS i s->
   s.heap.SetOf (oO prog w) S (λj=>(uz (ks.take i)).any (λz=>decide (z=j))) (uz (ks.take i)).length->
   (∀s',Moved (S::wr) GG s s'->s'.heap.SetOf (oO prog w) S (λj=>(uz ks).any (λz=>decide (z=j))) (uz ks).length->R (.ok (.ret .none)) s')->
   codeAny (model prog w) A (.builtin "set.update.loop" ⟨[.ref S,.ref I],[]⟩) R s:=by
 have hSw:S∉wr:=λz=>hSf (W.sub _ z);have up:∀b∈wr,b∈S::wr:=λb z=>bj _ z;intro k
 induction k with
 |zero=>
  intro i s hk hi hst hS hR;obtain rfl:i=n:=by omega
  refine c9 fN ?_;rw[dw dv _];show wpAny _ A.in1 (pyNext (.ref I)>>=_) _ _ s;refine ai (W.done s _ _ hst λs' hm=>?_);show wpAny _ A.in1 (ret Value.none) _ _ s';rw[lF (by omega)]at hS;refine aB (hR s' (hm.mono up) ?_);obtain⟨o,es,ep,t,ho,more⟩:=hS;exact⟨o,es,ep,t,hm.heap S _ hSw ho,more⟩
 |succ k ih=>
  intro i s hk hi hst hS hR;have hlt:i<n:=by omega
  have hlk:i<ks.length:=by omega
  refine c9 fN ?_;rw[dw dv _];show wpAny _ A.in1 (pyNext (.ref I)>>=_) _ _ s;refine ai (W.item i s _ _ hlt hst λv s' hP hst' hm=>?_);obtain⟨kv,sc⟩:=hval i v hlk hP;have hS':s'.heap.SetOf (oO prog w) S (λj=>(uz (ks.take i)).any (λz=>decide (z=j))) (uz (ks.take i)).length:=by obtain⟨o,es,ep,t,ho,more⟩:=hS;exact⟨o,es,ep,t,hm.heap S _ hSw ho,more⟩
  show wpAny _ A.in1 (holding [v] (setAdd S v)>>=_) _ _ s';refine ai (cE ?_);unfold setAdd;refine cE ?_;refine ai ((oO prog w).pyHash (k:=ks[i]) kv ?_);have room:(uz (ks.take i)).length+1<scanBound:=by have:=Ma (ks.take i);rw[bH]at this;omega
  refine wpAny_setAddHashed_of (knd:=oO prog w) (s:={ s' with toks:=s'.toks+1 }) kv sc hS' room λh' hsb hS2=>?_;have hSi:h'.SetOf (oO prog w) S (λj=>(uz (ks.take (i+1))).any (λz=>decide (z=j))) (uz (ks.take (i+1))).length:=
   set_same hS2 (λj=>by rw[Dt ks i hlk,Pi]) (by rw[Dt ks i hlk,II])
  refine aB ⟨fi dv _,ih (i+1) _ (by omega) hlt (W.frame _ s' _ _ hst' (fq _) λb z o e=>?_) hSi λs'' hm'' hS''=>?_⟩
  ·rw[hsb.2 b (λy:b=S=>hSf (by rw[<-y];exact z))];exact e
  ·refine hR s'' (kl W.gtrans ((hm.mono up).then_heap (fq _) λb o z e=>?_) hm'') hS'';rw[hsb.2 b (λy:b=S=>z (by rw[y];exact aW))];exact e
end
theorem Pj(l:Addr)(us:Array aa)(m:Nat)(b:Addr)(o:Obj)(ws:Array aa)(m2:Nat)(hc:o.cls=.type "tuple")(hd:o.data=.seq ws m2)(z0:¬(!us.isEmpty&&fL (us.size+ws.size))=true)(z1:us.size<=sizeLine)(z2:us.size+ws.size<=sizeLine+1):
  Meets (di.«list.extend» ⟨[.ref l,.ref b],[]⟩) (λ_ R s=>s.heap.get? l=some { cls:=.type "list", data:=.seq us m }/\s.heap.get? b=some o/\R (.ok (.ret Value.none)) { s with heap:=s.heap.update l (cK λx=>x++ws),toks:=s.toks }):=by
 obtain⟨c,dd,data,sl⟩:=o;cases hc;cases hd;refine .of_wp λprog w A R s h=>?_;obtain⟨hp,g,d,tk,os⟩:=s;obtain⟨hl,hb,h⟩:=h;have f2:=AutoSeq1.sub_tuple_tuple;have f3:=AutoSeq1.sub_list_list;have f4:=AutoSeq1.sub_tuple_list;have f5:=AutoSeq1.sub_list_tuple;have z3:(us++ws).size<=sizeLine+1:=Array.size_append (xs:=us) (ys:=ws)▸z2
 wp_walk using (jK hl rfl (hz:=z1) (_hz':=z3)),lr hl,lr hb
 exact⟨_,rfl,h⟩
section
variable{X:Cx}{G:Bg}
def FL(K:ar):V->bh->Hp->VK->Prop:=λx vs H Q=>∃l b xs zs,x=.ref l/\vs=[.ref b]/\H l=some (.lst xs)/\SqT K H b zs/\xs.length+zs.length<=sizeLine/\Q .non (upd H l (.lst (xs++zs)))
theorem G8:MtM X "list.extend" (FL X.K):=by
 intro pins s σ H x vs v us Q I rx rv h;obtain⟨l,b,xs,zs,rfl,rfl,hH,hB,hz,q⟩:=h;cases rx;obtain⟨u,rfl,ru⟩:=rv.one;cases ru;obtain⟨z,its,n,r,hl,e⟩:=I.lstM hH;obtain⟨its2,r2,⟨o,e2,hc,n2,hd⟩,hz2⟩:=I.tuple hB;have hl2:=r2.length;have hsz:its.toArray.size+its2.toArray.size<=sizeLine:=by rw[aX,aX];omega
 have hlong:¬(!its.toArray.isEmpty&&fL (its.toArray.size+its2.toArray.size))=true:=by rw[E9 hsz,m5];exact bb
 refine gu jz ⟨_,e,rfl⟩ lU (lM _ _)
  (Pj l its.toArray n b o its2.toArray n2 hc hd hlong (by rw[aX];omega) (by omega)) ⟨e,e2,?_⟩
 refine⟨.non,_,I.lset (its':=its++its2) hH e (by simp) (r.append r2) ?_,rfl,q⟩;rw[aJ];omega
def Al(i:Nat)(f:FE):FE:=λρ=>match qH ρ i with
 |some _=>match f ρ with
  |some (.tup es,ρ1)=>match qH ρ1 i with
   |some ds=>if ds.length+es.length<=1000 then some (.non,putAt ρ1 i (ds++es))else none
   |none=>none
  |_=>none
 |none=>none
theorem G9(h:PE X e (tBM G.K "list" (FL G.K) (uN i) (Bm (tF G f) E4))):PE X e (tF G (Al i f)):=PE.weak h λσ H Q hh=>by
 obtain⟨F,ρ,H0,d,ρ',R,e,k⟩:=hh;unfold Al at e;cases e0:qH ρ i with
 |none=>simp only[e0]at e;cases e
 |some ds0=>
  simp only[e0]at e;rcases oP (f:=f) (ρ:=ρ)with e1|⟨x,ρ1,e1⟩<;>simp only[e1]at e
  ·cases e
  ·cases x with
   |tup es=>
    cases e2:qH ρ1 i with
    |none=>simp only[e2]at e;cases e
    |some ds=>
     simp only[e2]at e;split at e
     ·rename_i hl;cases e;obtain⟨a,xs,s1,s2,s3,_⟩:=rX R e0;refine⟨.ref a,s1,.inl ⟨rfl,xs,SqL.of s2⟩,F,ρ,H0,_,ρ1,R,e1,λv H1 H1' s R' rs=>?_⟩;unfold Rep at rs;obtain⟨p,ys,rfl,hp,rs⟩:=rs;obtain⟨a',xs',t1,t2,t3,t4⟩:=rX R' e2;rw[s1]at t1;cases t1;refine⟨a,p,xs',ys,rfl,rfl,t2,SqT.mono R'.sub hp,?_,k _ _ _ s (t4 _ _ (qF t3 rs)) yP⟩;rw[<-om t3,<- om rs];exact sF hl
     ·cases e
   |_=>cases e
end
abbrev one(j:Nat)(led pl:Bool):iR:=⟨7,#[j],#[],0,led,0,pl⟩
abbrev prb(i q:Nat):iC:=⟨i,0,i,q,none⟩
section
variable{j i q:Nat}{led pl:Bool}{h h1:Int}
theorem vg(i:Nat):(one j led pl).slot i=if j=i then .live 0 else .empty:=by
 by_cases z:j<i
 ·have:j≠i:=by omega
  simp[ny,f9,fU,gn,z,this]
 ·simp[ny,f9,fU,gn,z]
theorem Wh(i:Nat):jL 7 i - i=0:=by unfold jL;split<;>omega
theorem IJ:(one j led pl).advance (prb i q)=prb ((i * 5+1+q / 32) % 8) (q / 32):=by unfold SetTable.advance SetTable.leap;simp[Wh]
theorem Wi{F:Nat->Int}(e:F 0=h1):∀(f:Nat) (p:iC),cQ (one j led pl) F h f p=cQ (one j led pl) (λ_=>h1) h f p
 |0,p=>rfl
 |f+1,p=>by
  unfold cQ;rw[vg];by_cases z:j=p.j
  ·rw[aj z];dsimp only;rw[e,Wi e f]
  ·rw[ak z]
theorem IK(hh:h1≠h):∀(n f i q:Nat),q<32 ^ n->n+2<=f->∃j',j'≠j/\cQ (one j led pl) (λ_=>h1) h f (prb i q)=some (.empty j' none)
 |n,0,i,q,_,hf=>ao hf (by omega)
 |n,f+1,i,q,hq,hf=>by
  unfold cQ;rw[vg];by_cases z:j=i
  ·rw[aj z];dsimp only;rw[ak (by simpa using hh),IJ];cases n with
   |zero=>
    obtain⟨f,rfl⟩:∃g,f=g+1:=⟨f - 1,by omega⟩;unfold cQ;rw[vg];have q0:q=0:=by simpa using hq
    have:¬j=(i * 5+1+q / 32) % 8:=by subst z q0;omega
    rw[ak this];exact⟨_,λe=>this e.symm,rfl⟩
   |succ n=>exact IK hh n f _ _ (by rw[Nat.pow_succ]at hq;omega) (by omega)
  ·rw[ak z];exact⟨_,λe=>z e.symm,rfl⟩
theorem J4{n:Nat}(hn:n<=13)(hq:q<32 ^ n):(∃j',j'≠j/\(one j led pl).probe (λ_=>h1) h (prb i q)=some (.empty j' none))\/(h1=h/\j=i/\(one j led pl).probe (λ_=>h1) h (prb i q)=some (.candidate j 0 (prb ((i * 5+1+q / 32) % 8) (q / 32)))):=by
 by_cases hh:h1=h
 ·by_cases z:j=i
  ·right;refine⟨hh,z,?_⟩;subst z hh;show cQ _ _ _ (219+1) _=_;unfold cQ;rw[vg,aj rfl];dsimp only;rw[aj (by simp),IJ]
  ·left;refine⟨i,λe=>z e.symm,?_⟩;show cQ _ _ _ (219+1) _=_;unfold cQ;rw[vg,ak z]
 ·exact .inl (IK hh n 220 i q hq (by omega))
end
variable{ks k1 k2:List Key}{a2:Addr}{ep:Nat}
section
variable{prog:aD}{w:aw}{A:aH}{E:aa->af->Prop}{s:af}
abbrev TK(prog:aD)(w:aw):=IsTupleKey (oO prog w)
theorem cls_val(n:Nat){v:aa}(h:carriedByValue v=true):ofAClassStatement n v=pure false:=by
 cases v with
 |ref a=>simp[carriedByValue]at h
 |_=>first|rfl|simp[ofAClassStatement]|(unfold ofAClassStatement;rfl)
theorem IM{Q:Bool->af->Prop}(hk:TK prog w s.heap ks a)(h:Q false s):wpAny (model prog w) A (ofAClassStatement 8 (.ref a)) Q E s:=by
 have hT:=hk.typeIs;obtain⟨o,items,n,ho,_,hd,hi⟩:=hk;unfold ofAClassStatement;refine ai (j4 hT ?_);show wpAny _ _ (pure true>>=_) _ _ s;refine ai (aB ?_);simp only[Bool.not_true,ee,if_false];refine ai (dc ho hd ?_);refine ai ?_;show wpAny _ _ (forIn items _ _) _ _ s;rw[<-l6];refine jF _ (λrest r s'=>r.1=none/\s'=s/\∀v∈rest,carriedByValue v=true) _ ?_ ?_ _ _ ⟨rfl,rfl,hi.byValue⟩
 ·rintro v rest r s' ⟨hr,rfl,hall⟩;rw[cls_val _ (hall v aW)];refine ai (aB ?_);simp only[ee,if_false];exact aB ⟨rfl,rfl,λu hu'=>hall u (bj _ hu')⟩
 ·rintro⟨r1,r2⟩ s' ⟨hr,rfl,_⟩;simp only at hr;subst hr;exact aB h
theorem Pk(n:Nat){v:aa}(h:carriedByValue v=true):∃b,hashByValue n v=pure b:=by
 cases v with
 |ref a=>simp[carriedByValue]at h
 |_=>cases n<;>first|exact⟨_,rfl⟩|(unfold hashByValue;exact⟨_,rfl⟩)
theorem Pl{Q:Bool->af->Prop}(hk:TK prog w s.heap ks a)(h:∀b,Q b s):wpAny (model prog w) A (hashByValue 8 (.ref a)) Q E s:=by
 have hT:=hk.typeIs;obtain⟨o,items,n,ho,_,hd,hi⟩:=hk;unfold hashByValue;refine ai (jH hT F.slot_tuple_hash.lookup ?_);show wpAny _ _ (seqItems? (.ref a)>>=_) _ _ s;refine ai (dc ho hd ?_);refine ai ?_;show wpAny _ _ (forIn items _ _) _ _ s;rw[<-l6];refine jF _ (λrest r s'=>s'=s/\∀v∈rest,carriedByValue v=true) _ ?_ ?_ _ _ ⟨rfl,hi.byValue⟩
 ·rintro v rest r s' ⟨rfl,hall⟩;obtain⟨b,hb⟩:=Pk 7 (hall v aW);rw[hb];refine ai (aB ?_);cases b
  ·exact aB (aB (h _))
  ·exact aB ⟨rfl,λu hu'=>hall u (bj _ hu')⟩
 ·rintro⟨r1,r2⟩ s' ⟨rfl,_⟩;cases r1 with
  |none=>exact aB (h _)
  |some b=>exact aB (h _)
theorem Pm{a1:Addr}{Q:Bool->af->Prop}(h1:TK prog w s.heap k1 a1)(h2:TK prog w s.heap k2 a2)(h:Q false s):wpAny (model prog w) A (searchCouldBeSeen (.ref a2) [.ref a1]) Q E s:=by
 unfold searchCouldBeSeen;refine ai ?_;show wpAny _ _ (forIn [Value.ref a1] _ _) _ _ s;refine jF _ (λrest r s'=>r=(none,())/\s'=s/\∀v∈rest,v=.ref a1) _ ?_ ?_ _ _ ⟨rfl,rfl,λv hv=>by simpa using hv⟩
 ·rintro v rest r s' ⟨rfl,rfl,hall⟩;obtain rfl:=hall v aW;have go:∀v∈rest,v=Value.ref a1:=λu hu'=>hall u (bj _ hu');dsimp only;split
  ·exact aB ⟨rfl,rfl,go⟩
  ·refine ai (lJ h2 ?_);refine ai (lJ h1 ?_);refine ai (IM h2 ?_);refine ai (IM h1 ?_);exact aB ⟨rfl,rfl,go⟩
 ·rintro r s' ⟨rfl,rfl,_⟩;exact aB h
theorem yq{S a1 a2:Addr}{k1 k2:List Key}{o:Obj}{ep j:Nat}{led pl:Bool}{h h1:Int}{Q:SetFound->af->Prop}(hu:A.units<cLine)(t1:TK prog w s.heap k1 a1)(t2:TK prog w s.heap k2 a2)(ne:k1≠k2)
  (ho:s.heap.get? S=some o) (hd:o.data=.set #[(h1,.ref a1)] ep (one j led pl)) (hQ:∀j',j'≠j->Q (.free j' false) s):∀(fuel n i q:Nat) (st:Option iC),n<=13->1<=fuel->(i=j->n+2<=fuel)->q<32 ^ n->st.getD ((one j led pl).probeStart h)=prb i q->wpAny (model prog w) A (setSearchFrom S (.ref a2) h true fuel st) Q E s
 |0,n,i,q,st,_,hf,_,_,_=>ao hf (by omega)
 |fuel+1,n,i,q,st,hn,_,hf,hq,hst=>by
  unfold setSearchFrom;refine ai (fV ho hd rfl ?_);dsimp only;rw[ak (by simp[mJ])];have P:=J4 (led:=led) (pl:=pl) (j:=j) (i:=i) (h:=h) (h1:=h1) hn hq;unfold SetTable.probe at P ⊢;rw[hst,Wi (h1:=h1) rfl];rcases P with ⟨j',hj,e⟩|⟨e1,e2,e⟩
  ·rw[e];exact aB (hQ j' hj)
  ·rw[e];dsimp only;rw[show kF (λx:Int×aa=>x.snd) (Array.filter (λx=>x.fst==h) #[(h1,Value.ref a1)]).toList=[.ref a1] by simp[e1]];have hf2:=hf e2.symm;have si:∀led,(one j led pl).sameMemory 0 7=some true:=λ_=>rfl;cases led;refine ai (Pm t1 t2 ?_)
   all_goals
    refine ai (cE (wpAny_eqBool_tuple hu t1 t2 ?_));refine ai (fV ho hd rfl ?_);rw[aR ne];dsimp only;rw[ak (by decide),si];dsimp only;rw[aj rfl,vg,aj rfl];refine ai (wpAny_isSame_ref_self ?_);refine ai (aB ?_);cases n with
    |zero=>
     have q0:q=0:=by simpa using hq
     exact yq hu t1 t2 ne ho hd hQ fuel 0 _ _ _ hn (by omega) (λe=>ao e (by subst e2 q0;omega)) (by rw[q0];decide) rfl
    |succ n=>exact yq hu t1 t2 ne ho hd hQ fuel n _ _ _ (by omega) (by omega) (λ_=>by omega) (by rw[Nat.pow_succ]at hq;omega) rfl
theorem IP{S:Addr}{o:Obj}{es:Array (Int×aa)}{t:iR}{h:Int}{P:Nat->Prop}{Q:Bool->af->Prop}(ho:s.heap.get? S=some o)(hd:o.data=.set es ep t)(hf:t.fits es.size=true)(t2:TK prog w s.heap ks a2)
  (hs:∀Q:SetFound->af->Prop,(∀j',P j'->Q (.free j' false) s)->wpAny (model prog w) A (setSearch S (.ref a2) h true) Q E s) (hT:∀j',P j'->(t.put j').1.tooFull=false) (hz:∀j',P j'->(eh es (t.put j').2 (h,Value.ref a2)).size<=sizeLine)
  (hQ:∀j' pl,P j'->Q true { s with heap:=s.heap.update S (kB (eh es (t.put j').2 (h,.ref a2)) { (t.put j').1 with plain:=pl }) }):wpAny (model prog w) A (setAddHashed S (.ref a2) h) Q E s:=by
 unfold setAddHashed setAddHashedIn;refine cE (ai (fV ho hd hf ?_));dsimp only;rw[ak (by simp[byScan,Value.scannable])];refine ai (hs _ λj' hj=>?_);dsimp only;refine ai (fV ho hd hf ?_);dsimp only;have fin:∀b:Bool,wpAny (model prog w) A (do
   storeSet S (eh es (t.put j').2 (h,.ref a2)) (if b=true then (t.put j').1 else { (t.put j').1 with plain:=false })
   if (!false&&(if b=true then (t.put j').1 else { (t.put j').1 with plain:=false }).tooFull)=true then do setRelay S (SetTable.grown (es.size+1));pure true else pure true) Q E s:=λb=>by
  refine ai (wpAny_storeSet_of ho hd ?_ (hz j' hj));have e:(if b=true then (t.put j').1 else { (t.put j').1 with plain:=false })={ (t.put j').1 with plain:=if b=true then (t.put j').1.plain else false }:=by cases b<;>rfl
  rw[e,ak (by have:=hT j' hj;unfold mK jP at this ⊢;rw[this];decide)];exact aB (hQ _ _ hj)
 split
 ·exact ai (Pl t2 λb=>fin b)
 ·exact ai (aB (fin true))
end
section
variable{j i q:Nat}{led pl:Bool}{h h1:Int}
theorem BJ(i:Nat):(iE 0 0 led).put i=(one i led true,0):=by simp[j5,iE,f9,fU,gn,eh]
theorem A8{α:Type}(x y:α):((one j led pl).put i).1.place.size=2/\((one j led pl).put i).1.dummies=#[]/\((one j led pl).put i).1.mask=7/\(eh #[x] ((one j led pl).put i).2 y).size=2:=by
 by_cases z:j<i
 ·simp[j5,f9,fU,gn,eh,z]
 ·simp[j5,f9,fU,gn,eh,z]
end
variable{led:Bool}{j:Nat}
section
variable{prog:aD}{w:aw}{A:aH}{E:aa->af->Prop}{s:af}
theorem Mc{hp:Heap}{S:Addr}{o:Obj}{es es':Array (Int×aa)}{t t':iR}(ho:hp.get? S=some o)(hd:o.data=.set es ep t):(hp.update S (kB es' t')).get? S=some { o with data:=.set es' (ep+1) t' }:=by have:=ib (kB es' t') ho (by rw[putSet_of es' t' hd];rfl);rw[putSet_of es' t' hd]at this;exact this
theorem J5{S:Addr}{o:Obj}{h:Int}{Q:Bool->af->Prop}(ho:s.heap.get? S=some o)(hd:o.data=.set #[] ep (.fresh 0 0 led))(t2:TK prog w s.heap ks a)
  (hQ:∀h' j pl,eG S s.heap h'->h'.get? S=some { o with data:=.set #[(h,.ref a)] (ep+1) (one j led pl) }->Q true { s with heap:=h' }):wpAny (model prog w) A (setAddHashed S (.ref a) h) Q E s:=by
 refine IP (P:=λ_=>True) ho hd rfl t2 (λQ hq=>?_) (λj' _=>by rw[BJ];rfl) (λj' _=>by rw[BJ,bC];exact eF (by decide:1<_)) λj' pl _=>hQ _ j' pl (ik ..) ?_
 ·unfold setSearch setSearchFrom;refine ai (fV ho hd rfl ?_);dsimp only;rw[ak (by simp[mJ,iE]),show ∀F p,(iE 0 0 led).probe F h p=some (.empty p.j p.dummy) from λ_ _=>rfl];exact aB (hq _ trivial)
 ·rw[Mc ho hd,BJ];rfl
theorem He{S a1:Addr}{o:Obj}{pl:Bool}{h h1:Int}{Q:Bool->af->Prop}(hu:A.units<cLine)(t1:TK prog w s.heap k1 a1)(t2:TK prog w s.heap k2 a2)(ne:k1≠k2)
  (ho:s.heap.get? S=some o) (hd:o.data=.set #[(h1,.ref a1)] ep (one j led pl))
  (hQ:∀h' es t,eG S s.heap h'->h'.get? S=some { o with data:=.set es (ep+1) t }->es.size=2->t.fits 2=true->Q true { s with heap:=h' }):wpAny (model prog w) A (setAddHashed S (.ref a2) h) Q E s:=by
 refine IP (P:=λj'=>j'≠j) ho hd rfl t2 (λQ hq=>?_) (λj' _=>?_) (λj' _=>by rw[(A8 _ _).2.2.2,bC];decide) λj' pl' _=>hQ _ _ _ (ik ..) (Mc ho hd) (A8 _ _).2.2.2 ?_
 ·have hb:iG h<32 ^ 13:=by unfold iG;omega
  exact yq hu t1 t2 ne ho hd hq 100000 13 (iG h % 8) (iG h) none (by omega) (by omega) (λ_=>by omega) hb (by show SetTable.Probe.mk _ _ _ _ _=_;rw[Wh])
 ·obtain⟨a,b,c,_⟩:=A8 (j:=j) (i:=j') (led:=led) (pl:=pl) 0 0;unfold mK jP;rw[a,b,c];rfl
 ·obtain⟨a,b,c,_⟩:=A8 (j:=j) (i:=j') (led:=led) (pl:=pl) 0 0;unfold SetTable.fits jP;dsimp only;rw[a,b,c];rfl
end
variable{h':Heap}
section
variable{prog:aD}{w:aw}{A:aH}{R:dP->af->Prop}{I:Addr}{fp wr:List Addr}{GG:Array gw->Array gw->Prop}{PP:Nat->aa->Prop}{SS:Nat->af->Prop}
theorem TK.kept{h:Heap}(t:TK prog w h ks a)(e:∀o,h.get? a=some o->h'.get? a=some o):TK prog w h' ks a:=by obtain⟨o,its,n,ho,m⟩:=t;exact⟨o,its,n,e o ho,m⟩
def SN(h:Heap)(S:Addr)(n:Nat):Prop:=∃o es ep t,h.get? S=some o/\o.ExactSet/\o.data=.set es ep t/\es.size<scanBound/\t.fits es.size=true/\es.size=n
theorem J6(W:WalksS prog w A.in1 I fp wr GG 2 PP SS){S a1:Addr}{o:Obj}{s:af}(hSf:S∉fp)(ne:k1≠k2)(n1:a1∉S::wr)(n2:a2∉S::wr)(p1:∀v,PP 0 v->v=.ref a1)(p2:∀v,PP 1 v->v=.ref a2)(hu:A.in1.units<cLine)
  (hst:SS 0 s) (t1:TK prog w s.heap k1 a1) (t2:TK prog w s.heap k2 a2) (ho:s.heap.get? S=some o) (hx:o.ExactSet) (hd:o.data=.set #[] ep (.fresh 0 0 led)) (hR:∀s',Moved (S::wr) GG s s'->SN s'.heap S 2->R (.ok (.ret .none)) s'):
   codeAny (model prog w) A (.builtin "set.update.loop" ⟨[.ref S,.ref I],[]⟩) R s:=by
 have hSw:S∉wr:=λz=>hSf (W.sub _ z);have up:∀b∈wr,b∈S::wr:=λb z=>bj _ z;have q1:a1∉wr:=λz=>n1 (up _ z);have q2:a2∉wr:=λz=>n2 (up _ z);have e1:a1≠S:=λz=>n1 (by rw[z];exact aW);have e2:a2≠S:=λz=>n2 (by rw[z];exact aW);refine c9 fN ?_;rw[dw dv _];show wpAny _ A.in1 (pyNext (.ref I)>>=_) _ _ s;refine ai (W.item 0 s _ _ (by decide) hst λv s1 hP st1 m1=>?_);obtain rfl:=p1 v hP;show wpAny _ A.in1 (holding _ (setAdd S _)>>=_) _ _ s1;refine ai (cE ?_);unfold setAdd;refine cE ?_;have u1:TK prog w s1.heap k1 a1:=t1.kept λo=>m1.heap a1 o q1;have u2:TK prog w s1.heap k2 a2:=t2.kept λo=>m1.heap a2 o q2;refine ai (l7 hu u1 ?_);refine J5 (m1.heap S _ hSw ho) hd u1 λh' j pl hb hg=>?_;refine aB ⟨fi dv _,?_⟩;have st1':=W.frame (0+1) s1 h' _ st1 (eC _ (k1.length+1)) λb z o e=>by rw[hb.2 b (λy:b=S=>hSf (by rw[<-y];exact z))];exact e
 have m1':Moved (S::wr) GG s { s1 with heap:=h',toks:=s1.toks+(k1.length+1) }:=(m1.mono up).then_heap (eC _ _) λb o z e=>by rw[hb.2 b (λy:b=S=>z (by rw[y];exact aW))];exact e
 have v1:TK prog w h' k1 a1:=u1.kept λo e=>by rw[hb.2 a1 e1];exact e
 have v2:TK prog w h' k2 a2:=u2.kept λo e=>by rw[hb.2 a2 e2];exact e
 refine c9 fN ?_;rw[dw dv _];show wpAny _ A.in1 (pyNext (.ref I)>>=_) _ _ _;refine ai (W.item 1 _ _ _ (by decide) st1' λv s2 hP st2 m2=>?_);obtain rfl:=p2 v hP;show wpAny _ A.in1 (holding _ (setAdd S _)>>=_) _ _ s2;refine ai (cE ?_);unfold setAdd;refine cE ?_;have w1:TK prog w s2.heap k1 a1:=v1.kept λo=>m2.heap a1 o q1;have w2:TK prog w s2.heap k2 a2:=v2.kept λo=>m2.heap a2 o q2;refine ai (l7 hu w2 ?_);refine He hu w1 w2 ne (m2.heap S _ hSw hg) rfl λh2 es t hb2 hg2 z2 f2=>?_;refine aB ⟨fi dv _,?_⟩;have st2':=W.frame (1+1) s2 h2 _ st2 (eC _ (k2.length+1)) λb z o e=>by rw[hb2.2 b (λy:b=S=>hSf (by rw[<-y];exact z))];exact e
 have m2':=kl W.gtrans m1' ((m2.mono up).then_heap (tk:=s2.toks+(k2.length+1)) (eC _ _) λb o z e=>by rw[hb2.2 b (λy:b=S=>z (by rw[y];exact aW))];exact e);refine c9 fN ?_;rw[dw dv _];show wpAny _ A.in1 (pyNext (.ref I)>>=_) _ _ _;refine ai (W.done _ _ _ st2' λs3 m3=>?_);show wpAny _ A.in1 (ret Value.none) _ _ s3;refine aB (hR s3 (kl W.gtrans m2' (m3.mono up)) ?_);exact⟨_,es,_,t,m3.heap S _ hSw hg2,hx,rfl,by rw[z2];decide,by rw[z2];exact f2,z2⟩
end
theorem sub_tuple_set:isSubtype (.type "tuple") (.type "set")=pure false:=by rw[jM];kernel_rfl
theorem sub_tuple_frozenset:isSubtype (.type "tuple") (.type "frozenset")=pure false:=by rw[jM];kernel_rfl
variable{ax:Addr}{itO:Obj}
section
variable{prog:aD}{w:aw}{A:aH}{E:aa->af->Prop}{s:af}{Q:aa->af->Prop}
abbrev wD(led:Bool):Obj:={ cls:=.type "set", dict:=none,data:=.set #[] 0 (.fresh 0 0 led) }
abbrev inK(ks:List Key):Key->Bool:=λj=>(uz ks).any (λz=>decide (z=j))
structure Wj(prog:aD)(w:aw)(h:Heap)(a:Addr)(items:Array aa)(ks:List Key):Prop where
 len:ks.length=items.size
 key:∀i v (hi:i<ks.length),items[i]?=some v->(oO prog w).is ks[i] v=true/\v.scannable=true
 bnd:items.size+1<scanBound
def Pn(s:af)(PS:Heap->Prop)(E:aa->af->Prop):dP->af->Prop:=
 wants (λr s2=>r=.none/\∃h2 k2,s2={ s with heap:=h2,toks:=k2 }/\PS h2/\∀b o,b<s.heap.objs.size->s.heap.get? b=some o->h2.get? b=some o) E
theorem FM{items:Array aa}{SS:Nat->Heap->Prop}(K:Wj prog w s.heap ax items ks)(hlt:ax<s.heap.objs.size)
  (W:Walks prog w A.in1 (s.heap.objs.size+1) [s.heap.objs.size+1,ax] [s.heap.objs.size+1] items.size (λi v=>items[i]?=some v) SS) (st:SS 0 ((s.heap.push (wD led)).push itO)) {R:dP->af->Prop}
  (hR:∀h2 k2,h2.SetOf (oO prog w) s.heap.objs.size (inK ks) (uz ks).length->(∀b o,b<s.heap.objs.size->s.heap.get? b=some o->h2.get? b=some o)->R (.ok (.ret .none)) { s with heap:=h2,toks:=k2 }) (tk:Nat):
  codeAny (model prog w) A (.builtin "set.update.loop" ⟨[.ref s.heap.objs.size,.ref (s.heap.objs.size+1)],[]⟩) R { s with heap:=(s.heap.push (wD led)).push itO,toks:=tk }:=by
 have notin:s.heap.objs.size∉[s.heap.objs.size+1,ax]:=by
  intro z;rcases aL.mp z with z|z
  ·exact ao z (aU (eA _))
  ·exact ao (bx.mp z) (dH hlt)
 have e0:((s.heap.push (wD led)).push itO).get? s.heap.objs.size=some (wD led):=aG _ (ba _ rfl);refine Mb W.toS s.heap.objs.size notin ks K.len (λi v hi hv=>K.key i v hi hv) K.bnd (items.size - 0) 0 _ (by omega) (bZ _) st ?_ λs2 mv S2=>?_
 ·exact⟨_,#[],0,_,e0,⟨rfl,rfl,rfl⟩,rfl,λe he=>by simp at he,λk=>by simp[uz],by unfold scanBound;decide,by rfl,rfl⟩
 ·obtain⟨h2,g2,d2,k2,o2⟩:=s2;have eg:g2=s.gens:=mv.gens;have ed:d2=s.drawn:=mv.drawn;have eo:o2=s.os:=mv.os;subst eg ed eo;refine hR h2 k2 S2 λb o hb e=>mv.heap b o (λz=>?_) (aG _ (aG _ e));rcases aL.mp z with z|z
  ·exact ao z (aU hb)
  ·exact ao (bx.mp z) (aU (cP hb))
theorem Hf(a:aa){Q₁:aa->af->Prop}(h:Q₁ (.ref s.heap.objs.size) { s with heap:=s.heap.push (wD (!w.params.followText "set-order")) }):
  codeAny (model prog w) A (.call (.builtin "set.__new__") ⟨[.type "set", a],[]⟩) (wants Q₁ E) s:=by
 refine codeAny_of_tree ?_;show wpAny _ A.in1 (do checkBuiltinCall "set.__new__" ⟨[.type "set", a],[]⟩;again (.builtin "set.__new__" ⟨[.type "set", a],[]⟩)) _ _ s;refine ai (wpAny_of_eq (F.newCall_set_1 a) (aB ⟨fi mT _,c9 F.entry_set_new ?_⟩));rw[dw mT _];unfold di.«set.__new__» nX;have hsub:=sub_set_self;obtain⟨hp,g,d,tk,os⟩:=s;dsimp only
 wp_walk
 refine wpAny_askSetting (aB ?_);dsimp only;simp only[newObj];refine ai (wpAny_alloc (aB ?_));exact aB h
theorem BK{o:Obj}{T:String}{PS:Heap->Prop}(ho:s.heap.get? ax=some o)(hc:o.cls=.type T)
  (u1:isSubtype (.type T) (.type "set")=pure false) (u2:isSubtype (.type T) (.type "frozenset")=pure false) (u3:(Value.type T==Value.type "dict")=false)
  (itr:∀(A:aH) (Q:aa->af->Prop) (E:aa->af->Prop) (s1:af),s1.heap.get? ax=some o->Q (.ref s1.heap.objs.size) { s1 with heap:=s1.heap.push itO }->wpAny (model prog w) A (pyIter (.ref ax)) Q E s1)
  (fil:∀tk (R:dP->af->Prop),(∀h2 k2,PS h2->(∀b o,b<s.heap.objs.size->s.heap.get? b=some o->h2.get? b=some o)->R (.ok (.ret .none)) { s with heap:=h2,toks:=k2 })->
   codeAny (model prog w) A.in1.in1 (.builtin "set.update.loop" ⟨[.ref s.heap.objs.size,.ref (s.heap.objs.size+1)],[]⟩) R { s with heap:=(s.heap.push (wD (!w.params.followText "set-order"))).push itO,toks:=tk })
  (h:∀h2 k2,PS h2->(∀b o,b<s.heap.objs.size->s.heap.get? b=some o->h2.get? b=some o)->Q (.ref s.heap.objs.size) { s with heap:=h2,toks:=k2 }):
  wpAny (model prog w) A (call (.type "set") [.ref ax]) Q E s:=by
 have hlt:ax<s.heap.objs.size:=aM ho;obtain⟨c,tl,hmro⟩:=dJ.mro;have made:=dJ.made;have subs:=dJ.sub;refine ku (codeAny_of_tree ?_);show wpAny _ _ (callAny (.type "set") _) _ _ _;refine aB ⟨Code.quiet_builtin _ (by decide +kernel),c9 F.entry_type_call ?_⟩;rw[Around.under_plain (weight_type_call_type "set" [.ref ax] []) rfl];have n1:=dJ.notType;have n2:=dJ.canCreate;have n3:=F.typeCall_set_1 (.ref ax)
 repeat (any_goals (first|assumption|wp_step))
 let led:Bool:=!w.params.followText "set-order";refine fm (Hf (.ref ax) (E:=E) (Q₁:=λv s1=>v=.ref s.heap.objs.size/\s1={ s with heap:=s.heap.push (wD led) }) ⟨rfl,rfl⟩) λr s1 hr=>?_;cases r with
 |error e=>exact hr
 |ok fl=>
  cases fl with
  |ret v=>
   obtain⟨rfl,rfl⟩:=hr;have e0:(s.heap.push (wD led)).get? s.heap.objs.size=some (wD led):=ba _ rfl;have ty0:jQ { s with heap:=s.heap.push (wD led) } (.ref s.heap.objs.size) "set" := ⟨_,e0,rfl⟩;have l1:=dJ.init.lookup;have l2:=dJ.init.bind (.ref s.heap.objs.size)
   repeat (any_goals (first|assumption|wp_step))
   refine fm (codeAny_call_builtin (R:=Pn s PS E) dJ.init.plain F.entry_set_init (check_set_init_1 ty0 ?_)) λr2 s2 hr2=>?_
   ·obtain⟨oc,od,oda,osl⟩:=o;cases hc;have e1:(s.heap.push (wD led)).get? ax=some { cls:=.type T,dict:=od,data:=oda,slots:=osl }:=aG _ ho;unfold di.«set.__init__» noKeywords nW;generalize gP:pyIter=PP
    wp_walk
    subst gP;refine itr _ _ _ _ e1 ?_;refine ai (wpAny_runValue ?_);have ez:(s.heap.push (wD led)).objs.size=s.heap.objs.size+1:=cv _ _;show codeAny _ _ (.builtin "set.update.loop" ⟨[.ref s.heap.objs.size,.ref (s.heap.push (wD led)).objs.size],[]⟩) _ _;rw[ez];refine fil _ _ λh2 k2 S2 kk=>?_;show wpAny _ _ _ _ _ _;refine aB ?_;show wpAny _ _ (ret Value.none) _ _ _;exact aB ⟨rfl,h2,k2,rfl,S2,kk⟩
   ·cases r2 with
    |error e=>exact hr2
    |ok fl2=>
     cases fl2 with
     |ret r=>
      obtain⟨rfl,h2,k2,rfl,S2,kk⟩:=hr2
      repeat (any_goals (first|assumption|wp_step))
      exact h _ _ S2 kk
     |_=>exact hr2.elim
  |_=>exact hr.elim
end
variable{S:ar->Hp->Addr->Nat->Prop}{ds:aC}
section
variable{X:Cx}{G:Bg}{H:Hp}{pins:bW}{σ:St}{s:af}
theorem Md{P:aD}{w:aw}{k:Key}{v:aa}(h:(oO P w).is k v=true):v.scannable=true:=by rcases pP h with ⟨i,t,_,rfl⟩|⟨x,t,_,rfl⟩<;>rfl
theorem Me{its:List aa}(r:Vals (ks.map kV) its)(hb:ks.length+1<scanBound):Wj X.prog X.w s.heap a its.toArray ks:=by
 have hl:ks.length=its.length:=by have:=r.length;rw[ah]at this;exact this
 refine⟨by rw[aX];exact hl,λi v hi hv=>?_,by rw[aX];omega⟩;have e:(ks.map kV)[i]?=some (kV ks[i]):=by rw[bc,aS hi];rfl
 obtain⟨u,hu,ru⟩:=r.get e;have eu:v=u:=by rw[List.getElem?_toArray]at hv;rw[hv]at hu;exact bP hu
 subst eu;have:=xR (P:=X.prog) (w:=X.w) ru;exact⟨this,Md this⟩
theorem QU(I:Inv X pins σ H s)(h:SqT X.K H a (ks.map kV)):TK X.prog X.w s.heap ks a:=by
 obtain⟨its,r,p,_⟩:=I.tuple h;obtain⟨o,ho,hc,n,hd⟩:=p;refine⟨o,_,n,ho,hc,hd,?_⟩;have gen:∀(ks:List Key) (its:List aa),Vals (ks.map kV) its->PySem.ItemsAre (oO X.prog X.w) ks its:=λks=>by
  induction ks with
  |nil=>intro its r;cases r;exact .nil
  |cons k ks ih=>intro its r;cases r with|cons h1 h2=>exact .cons (xR h1) (ih _ h2)
 exact gen ks its r
def SO(K:ar)(H:Hp)(a:Addr)(n:Nat):Prop:=∃ks,(SqL K H a (ks.map kV)\/SqT K H a (ks.map kV))/\ks.length+1<scanBound/\n=(uz ks).length
def SQ(K:ar)(H:Hp)(a:Addr)(n:Nat):Prop:=SO K H a n\/
 ∃(p q:Addr) (k1 k2:List Key),SqL K H a [.ref p,.ref q]/\SqT K H p (k1.map kV)/\SqT K H q (k2.map kV)/\k1≠k2/\n=2
def SR(X:Cx)(S:ar->Hp->Addr->Nat->Prop):Prop:=∀{pins:bW} {σ:St} {H:Hp} {s:af} {A:aH} {E:aa->af->Prop} {Q:aa->af->Prop} {a:Addr} {n:Nat},Inv X pins σ H s->A.handled=none->A.units+8<cLine->S X.K H a n->
 (∀h2 k2,SN h2 s.heap.objs.size n->(∀b o,b<s.heap.objs.size->s.heap.get? b=some o->h2.get? b=some o)->Q (.ref s.heap.objs.size) { s with heap:=h2,toks:=k2 })->wpAny (model X.prog X.w) A (call (.type "set") [.ref a]) Q E s
theorem Wk:SR X (SO):=by
 intro pins σ H s A E Q a n I hh hu hq h;have h3:A.in1.in1.in1.handled=none:=by simp[hh]
 have gt:∀{h2:Heap} {ks:List Key},h2.SetOf (oO X.prog X.w) s.heap.objs.size (inK ks) (uz ks).length->SN h2 s.heap.objs.size (uz ks).length:=λS=>by obtain⟨o,es,ep,t,ho,hex,hd,_,_,hz,hf,hn⟩:=S;exact⟨o,es,ep,t,ho,hex,hd,hz,hf,hn⟩
 have it:∀{o:Obj} {led:Bool},o.isFreed=false->((s.heap.push (wD led)).push o).get? (s.heap.objs.size+1)=some o:=λ{o led} z=>by rw[show s.heap.objs.size+1=(s.heap.push (wD led)).objs.size from(cv _ _).symm];exact ba _ z
 obtain⟨ks,hq|hq,hb,rfl⟩:=hq
 ·obtain⟨its,r,p,_⟩:=I.list hq;obtain⟨o,ho,hc,n,hd⟩:=p.isList;have hne:a≠s.heap.objs.size+1:=aU (cP (aM ho));refine BK ho hc F.sub_list_set lN (by decide) (itO:={ cls:=.type "list_iterator", data:=.fields #[.ref a,.int 0 0] })
   (λA Q E s1 e k=>eS ⟨o,e,hc,n,hd⟩ k) (λtk R hR=>FM (Me r hb) (aM ho) (iM h3 _ a hne its.toArray) ⟨⟨_,it rfl,rfl,rfl⟩,⟨o,aG _ (aG _ ho),hc,n,hd⟩⟩ (λh2 k2 S=>hR h2 k2 (gt S)) tk) h
 ·obtain⟨its,r,p,_⟩:=I.tuple hq;obtain⟨o,ho,hc,n,hd⟩:=p;have hne:a≠s.heap.objs.size+1:=aU (cP (aM ho));refine BK ho hc sub_tuple_set sub_tuple_frozenset (by decide) (itO:={ cls:=.type "tuple_iterator", data:=.fields #[.ref a,.int 0 0] })
   (λA Q E s1 e k=>jw ⟨o,e,hc,n,hd⟩ k) (λtk R hR=>FM (Me r hb) (aM ho) (Walks.tuple h3 _ a hne its.toArray) ⟨⟨_,it rfl,rfl,rfl⟩,⟨o,aG _ (aG _ ho),hc,n,hd⟩⟩ (λh2 k2 S=>hR h2 k2 (gt S)) tk) h
theorem Wl:SR X (SQ):=by
 intro pins σ H s A E Q a n I hh hu hq h;rcases hq with hq|⟨p,q,k1,k2,hq,h1,h2,ne,rfl⟩
 ·exact Wk I hh hu hq h
 have h3:A.in1.in1.in1.handled=none:=by simp[hh]
 have it:∀{o:Obj} {led:Bool},o.isFreed=false->((s.heap.push (wD led)).push o).get? (s.heap.objs.size+1)=some o:=λ{o led} z=>by rw[show s.heap.objs.size+1=(s.heap.push (wD led)).objs.size from(cv _ _).symm];exact ba _ z
 obtain⟨its,r,pp,_⟩:=I.list hq;obtain⟨o,ho,hc,n,hd⟩:=pp.isList;have hne:a≠s.heap.objs.size+1:=aU (cP (aM ho));obtain⟨u,v,rfl,ru,rv⟩:∃u v,its=[u,v]/\RelV (.ref p) u/\RelV (.ref q) v:=by cases r with|cons c1 r=>cases r with|cons c2 r=>cases r;exact⟨_,_,rfl,c1,c2⟩
 cases ru;cases rv;have t1:=QU I h1;have t2:=QU I h2;have far:∀{b:Addr} {ks:List Key},TK X.prog X.w s.heap ks b->b∉s.heap.objs.size::[s.heap.objs.size+1]:=λ{b ks} t z=>by
  obtain⟨o,_,_,e,_⟩:=t;have:=aM e;rcases aL.mp z with z|z
  ·exact ao z (aU this)
  ·exact ao (bx.mp z) (aU (cP this))
 have notin:s.heap.objs.size∉[s.heap.objs.size+1,a]:=by
  intro z;rcases aL.mp z with z|z
  ·exact ao z (aU (eA _))
  ·exact ao (bx.mp z) (dH (aM ho))
 refine BK ho hc F.sub_list_set lN (by decide) (itO:={ cls:=.type "list_iterator", data:=.fields #[.ref a,.int 0 0] })
  (λA Q E s1 e k=>eS ⟨o,e,hc,n,hd⟩ k) (λtk R hR=>?_) h
 have ke:∀{b:Addr} {o':Obj},s.heap.get? b=some o'->((s.heap.push (wD (!X.w.params.followText "set-order"))).push { cls:=.type "list_iterator", data:=.fields #[.ref a,.int 0 0] }).get? b=some o':=λe=>aG _ (aG _ e);refine J6 (iM h3 _ a hne #[.ref p,.ref q]).toS notin ne (far t1) (far t2) (λv e=>(bP e).symm) (λv e=>(bP e).symm) (by show A.units+1+1+1<cLine;omega) ⟨⟨_,it rfl,rfl,rfl⟩,⟨o,ke ho,hc,n,hd⟩⟩ (t1.kept λo=>ke) (t2.kept λo=>ke)
  (aG _ (ba _ rfl)) ⟨rfl,rfl,rfl⟩ rfl λs2 mv S2=>?_
 obtain⟨h2,g2,d2,k2,o2⟩:=s2;have eg:g2=s.gens:=mv.gens;have ed:d2=s.drawn:=mv.drawn;have eo:o2=s.os:=mv.os;subst eg ed eo;exact hR h2 k2 S2 λb o hb e=>mv.heap b o (λz=>by
  rcases aL.mp z with z|z
  ·exact ao z (aU hb)
  ·exact ao (bx.mp z) (aU (cP hb))) (ke e)
def Et(S:ar->Hp->Addr->Nat->Prop)(K:ar)(te:TE):TE:=λσ H Q=>te σ H λx H1=>∃a n,x=.ref a/\S K H1 a n/\Q (.int n) H1
theorem J7{p1 p2 p3 p4:Pos}(hV:SR X S)(hu:X.A.units+64<cLine)(hc:X.calm=true)(g1:Gl X "len")(m1:X.mg "len" = none)(g2:Gl X "set")(m2:X.mg "set" = none)(he:PE X e te)
  (z1:starEach [Expr.Call (.Name "set" p2) [e] [] p3] X.env=[(false,eval (.Call (.Name "set" p2) [e] [] p3) X.env)]:=by rfl) (z2:starEach [e] X.env=[(false,eval e X.env)]:=by rfl):PE X (.Call (.Name "len" p1) [.Call (.Name "set" p2) [e] [] p3] [] p4) (Et S X.K te):=by
 intro pins s σ H Q I h;refine dZ (wG I g1 m1 m6 ?_ (by decide) (by decide));refine callWith_builtin1 ?_ z1 rfl;rw[z1];show wpAny _ _ (spliced [(false,eval (.Call (.Name "set" p2) [e] [] p3) X.env)]) _ _ s;refine dY ?_;refine dZ (wG I g2 m2 Pv.boot_set ?_ (by decide) (by decide));refine callWith_type1 (thn (qS he uO z2 p3 pins s σ H (λvs H1=>match vs with
  |[x]=>∃a n,x=.ref a/\S X.K H1 a n/\Q (.int n) H1
  |_=>False) I h) λus s1 ⟨vs,H1,I1,r1,q1⟩=>?_) z2 rfl
 match vs,r1,q1 with
 |[x],r1,q1=>
 obtain⟨a,n,e1,hq,q⟩:=q1;subst e1;obtain⟨u,rfl,ru⟩:=vals1 r1;cases ru;refine hV I1 (I1.ok.hd hc) (by omega) hq λh2 k2 S2 kk=>?_;refine fT ?_;obtain⟨o,es,ep,t,ho,hex,hd,hz,hf,hn⟩:=S2;have I2:Inv X pins σ H1 { s1 with heap:=h2,toks:=k2 }:=I1.kept λb o e=>kk b o (aM e) e;refine call_len_set ho hex hd hf (by unfold scanBound at hz;omega) ⟨.int n,H1,I2.tok _,⟨_,by rw[hn]⟩,q⟩
def xV:aC->Option (List Key)
 |[]=>some []
 |d::ds=>match wU d,xV ds with
  |some k,some ks=>some (k::ks)
  |_,_=>none
theorem xH:∀{ds:aC} {xs:bh} {ks:List Key},oi G H ds xs->xV ds=some ks->xs=ks.map kV
 |[],xs,ks,r,e=>by cases e;unfold oi at r;exact r
 |d::ds,xs,ks,r,e=>by
  unfold xV at e;cases e1:wU d with
  |none=>rw[e1]at e;cases e
  |some k=>
   cases e2:xV ds with
   |none=>rw[e1,e2]at e;cases e
   |some ks'=>rw[e1,e2]at e;cases e;unfold oi at r;obtain⟨v,r',rfl,h1,h2⟩:=r;rw[vP h1 e1,xH h2 e2];rfl
def sd(ds:aC):Option D:=match xV ds with
 |some ks=>if ks.length<=1000 then some (.int (uz ks).length)else none
 |none=>none
def SU:aC->Option D
 |[.tup x,.tup y]=>match xV x,xV y with
  |some k1,some k2=>if k1=k2 then none else some (.int 2)
  |_,_=>none
 |_=>none
def BL(g:aC->Option D):D->Option D
 |.lst ds=>match sd ds with
  |some r=>some r
  |none=>g ds
 |.tup ds=>sd ds
 |.fzl ds=>sd ds
 |_=>none
abbrev Eu:D->Option D:=BL SU
theorem Po{g:aC->Option D}{r:D}(h:sd ds=some r):BL g (.lst ds)=some r:=by show (match sd ds with|some r=>some r|none=>g ds)=some r;rw[h]
theorem Hg{g:aC->Option D}(hK:X.K=G.K)(hO:∀{H a n},SO X.K H a n->S X.K H a n)
  (hg:∀{ds d H1 H1' a xs},g ds=some d->SqL X.K H1' a xs->oi G H1 ds xs->ox H1 H1'->∃n:Nat,S X.K H1' a n/\d=.int n)
  (h:PE X e (Et S X.K (tF G f))):PE X e (tF G (c1 (BL g) f)):=PE.weak h λσ H Q hh=>by
 obtain⟨F,ρ,H0,d,ρ',R,e,k⟩:=hh;obtain⟨x,e1,e2⟩:=A6 e;have key:∀{ds:aC} {xs:bh} {a:Addr} {H1 H1':Hp},sd ds=some d->oi G H1 ds xs->ox H0 H1->oA G F σ ρ' H1 H1'->(SqL X.K H1' a xs\/SqT X.K H1' a xs)->
   ∃a' n,V.ref a=.ref a'/\S X.K H1' a' n/\Q (.int n) H1':=λ{ds xs a H1 H1'} ed rs s R' hq=>by
  unfold sd at ed;cases ek:xV ds with
  |none=>rw[ek]at ed;cases ed
  |some ks=>
   rw[ek]at ed;simp only at ed;split at ed
   ·rename_i hl;cases ed;rw[xH rs ek]at hq;exact⟨a,_,rfl,hO ⟨ks,hq,by unfold scanBound;omega,rfl⟩,k _ _ _ s R' (rf _)⟩
   ·cases ed
 refine⟨F,ρ,H0,x,ρ',R,e1,λv H1 H1' s R' r=>?_⟩;cases x with
 |lst ds=>
  unfold Rep at r;obtain⟨a,xs,rfl,h1,h2⟩:=r;have hq:SqL X.K H1' a xs:=SqL.of (R'.sub _ _ h1);replace e2:(match sd ds with|some r=>some r|none=>g ds)=some d:=e2;cases e3:sd ds with
  |some r=>rw[e3]at e2;cases e2;exact key e3 h2 s R' (.inl hq)
  |none=>rw[e3]at e2;obtain⟨n,h3,rfl⟩:=hg e2 hq h2 R'.sub;exact⟨a,n,rfl,h3,k _ _ _ s R' (rf _)⟩
 |tup ds=>unfold Rep at r;obtain⟨a,xs,rfl,h1,h2⟩:=r;rw[<-hK]at h1;exact key e2 h2 s R' (.inr (SqT.mono R'.sub h1))
 |fzl ds=>unfold Rep at r;obtain⟨a,xs,rfl,h1,h2⟩:=r;rw[<-hK]at h1;exact key e2 h2 s R' (.inl (R'.sub.seq h1))
 |_=>cases e2
theorem Pp(hK:X.K=G.K):∀{ds d H1 H1' a xs},SU ds=some d->SqL X.K H1' a xs->oi G H1 ds xs->ox H1 H1'->∃n:Nat,SQ X.K H1' a n/\d=.int n:=λ{ds d H1 H1' a xs} e2 hq h2 s=>by
 unfold SU at e2;split at e2
 ·rename_i x y;split at e2
  ·rename_i k1 k2 f1 f2;split at e2
   ·cases e2
   ·rename_i ne;cases e2;unfold oi oi oi at h2;obtain⟨v1,r1,rfl,c1,v2,r2,rfl,c2,rfl⟩:=h2;unfold Rep at c1 c2;obtain⟨p,ys,rfl,d1,d2⟩:=c1;obtain⟨q,zs,rfl,d3,d4⟩:=c2;rw[<-hK,xH d2 f1]at d1;rw[<-hK,xH d4 f2]at d3;exact⟨2,.inr ⟨p,q,k1,k2,hq,SqT.mono s d1,SqT.mono s d3,ne,rfl⟩,rfl⟩
  ·cases e2
 ·cases e2
theorem J8(hK:X.K=G.K)(h:PE X e (Et SQ X.K (tF G f))):PE X e (tF G (c1 Eu f)):=Hg hK .inl (Pp hK) h
end
theorem IQ{P:aD}{w:aw}{k:Key}{v:aa}(h:(oO P w).is k v=true):RelV (kV k) v:=by
 rcases pP h with ⟨i,t,rfl,rfl⟩|⟨x,t,rfl,rfl⟩
 ·exact⟨t,rfl⟩
 ·exact⟨t,rfl⟩
def Itd(a:Addr)(o:Obj)(kvs:List (Key×V)):It:=
 ⟨λi H=>i<kvs.length/\H a=some (.frz o (.dK kvs)),λi H x H'=>H'=H/\∃k z,kvs[i]?=some (k,z)/\x=kV k,λi H=>kvs.length<=i/\H a=some (.frz o (.dK kvs))⟩
section
variable{X:Cx}{pins:bW}{σ:St}{H:Hp}{s:af}
theorem Am{o:Obj}{es:Array DictEntry}(I:Inv X pins σ H s)(e:H a=some (.frz o (.dK kvs)))(hd:o.data=.dict es ep):
  (a==sysModules)=false/\s.heap.get? a=some o/\∃vs,KV kvs vs/\s.heap.DictAt (oO X.prog X.w) a vs ep:=by
 obtain⟨q0,_,y,vs,r,ob,es',ep',q1,q2,q3,q4⟩:=(show pI X.prog X.w H s.heap a (.frz o (.dK kvs)) from I.hok a _ e);rw[q0]at q1;cases q1;rw[hd]at q3;cases q3;exact⟨y,q0,vs,r,o,es,q0,q2,hd,q4⟩
theorem SV{vs:List (Key×aa)}(r:KV kvs vs){k:Key}{x:aa}(e:vs[i]?=some (k,x)):∃z,kvs[i]?=some (k,z):=by
 induction r generalizing i with
 |nil=>cases e
 |@cons p q l l' h _ ih=>
  cases i with
  |zero=>obtain⟨pk,pv⟩:=p;cases e;exact⟨pv,by rw[show pk=k from h.1];rfl⟩
  |succ i=>exact ih e
end
theorem J9{P:aD}{w:aw}{K:ar}(a it:Addr)(o:Obj)(kvs:List (Key×V)):Turn P w K tg (Itd a o kvs) [it] it (λi h=>∃es ep,o.data=.dict es ep/\h.IsKeyIter it a i kvs.length ep) where
 mem:=by simp
 obj:=λi h st b hb=>by
  have e:b=it:=by simpa using hb
  subst e;obtain⟨es,ep,hd,ob,e,c,d⟩:=st;exact⟨ob,e,λv z=>by rw[d]at z;cases z⟩
 keep:=λi h h' st k=>by obtain⟨es,ep,hd,x⟩:=st;exact⟨es,ep,hd,x.at λo e=>k it (by simp) o e⟩
 item:=by
  intro X hP hw hK hc i pins s σ H E I hf st hg;subst hP hw hK;obtain⟨hi,he⟩:=hg;obtain⟨es,ep,hd,ki⟩:=st;obtain⟨f0,f1,f2,f3,f4,f5⟩:=hf it (by simp);obtain⟨_,_,vs,r,da⟩:=Am I he hd;have hl:kvs.length=vs.length:=r.length;have hne:a≠it:=λz=>by subst z;rw[he]at f0;cases f0
  have W:=m7 (knd:=oO X.prog X.w) (A:=X.A) (I.ok.hd hc) it a hne vs ep;refine W.item i s _ _ (by omega) ⟨by rw[<-hl];exact ki,da⟩ λv h' tk hv st' kk=>?_;obtain⟨k,x,hx,hk⟩:=hv;obtain⟨z,hz⟩:=SV r hx;have I1:Inv X pins σ H { s with heap:=h',toks:=tk }:=I.turned (λb o hb e=>kk b o (by simpa using hb) e) f0 f1 f3 f4 f5;obtain⟨ki',_⟩:=st';rw[<-hl]at ki';obtain⟨ob,e,c,d⟩:=id ki';exact⟨v,rfl,HZ (s:={ s with heap:=h',toks:=tk }) e c d (by decide) ⟨kV k,H,I1,IQ hk,⟨rfl,k,z,hz,rfl⟩,⟨es,ep,hd,ki'⟩,λb hb=>(hf b hb).1⟩⟩
 done:=by intro X hP hw hK hc i pins s σ H E I hf st hg;subst hP hw hK;obtain⟨hi,he⟩:=hg;obtain⟨es,ep,hd,ki⟩:=st;obtain⟨f0,f1,f2,f3,f4,f5⟩:=hf it (by simp);obtain⟨_,_,vs,r,da⟩:=Am I he hd;have hl:kvs.length=vs.length:=r.length;exact wpAny_pyNext_dict_end (I.ok.hd hc) (by rw[<-hl];exact ki) da (hZ (by rw[<-hl];exact hi)) λh' eb=>⟨rfl,I.turned (t':=s.toks) (λb o hb e=>eb b o hb e) f0 f1 f3 f4 f5⟩
 self:=λ_ _ _ _ _ st h=>by obtain⟨es,ep,hd,ki⟩:=st;exact wpAny_pyIter_keyiter ki h
section
variable{X:Cx}{G:Bg}{tg:Expr}
def Wm(tl:TE):TI:=λσ H R=>tl σ H λx H1=>∃a o kvs,x=.ref a/\H1 a=some (.frz o (.dK kvs))/\R (Itd a o kvs) H1
theorem Pq{l:Expr}{tl:TE}(hl:PE X l tl):PI X tg l (Wm tl):=by
 intro pins s σ H R I h;refine thn (hl pins s σ H _ I h) λv s1 ⟨x,H1,I1,r1,q1⟩=>?_;obtain⟨a,o,kvs,e,he,q⟩:=q1;subst e;cases r1;obtain⟨q0,_,y,vs,r,ob,es,ep,e1,e2,e3,e4⟩:=(show pI X.prog X.w H1 s1.heap a (.frz o (.dK kvs)) from I1.hok a _ he);rw[q0]at e1;cases e1;have hl:kvs.length=vs.length:=r.length;refine mx (knd:=oO X.prog X.w) (kvs:=vs) (ep:=ep) y ⟨o,es,q0,e2,e3,e4⟩ ?_;refine⟨s1.heap.objs.size,[s1.heap.objs.size],_,_,H1,rfl,I1.kept (t':=s1.toks) λb o e=>aG _ e,J9 a _ o kvs,⟨es,ep,e3,⟨_,ba _ rfl,rfl,by rw[hl];rfl⟩⟩,λb hb=>?_,q⟩;have e:b=s1.heap.objs.size:=by simpa using hb
 subst e;exact I1.fpOk (aK _) (I1.hok.fresh (aK _))
def SW:Key->D
 |.inl i=>.int i
 |.inr x=>.str x
theorem Pr(k:Key){H:Hp}:Rep G H (SW k) (kV k):=by
 cases k with
 |inl i=>exact rf i
 |inr x=>exact vL x
def iD(f:FE):FA:=λρ=>match f ρ with
 |some (.dic ks ds,ρ1)=>if ks.length=ds.length then some (ks.map SW,ρ1)else none
 |_=>none
theorem Mg{tg:Expr}(h:PI X tg e (Wm (tF G f))):PI X tg e (tFI G (iD f)):=PI.weak h λσ H R hh=>by
 obtain⟨F,ρ,H0,ds,ρ',R,e,k⟩:=hh;unfold iD at e;split at e
 ·rename_i ks ds' ρ1 e1;split at e
  ·rename_i hlen;cases e;refine⟨F,ρ,H0,_,_,R,e1,λv H1 H1' s R' r=>?_⟩;unfold Rep at r;obtain⟨a,o,xs,rfl,r1,r2,r3⟩:=r;have hz:(ks.zip xs).length=ks.length:=by rw[eZ,<- r2,fo]
   refine⟨a,o,_,rfl,R'.sub _ _ r1,k _ _ _ s R' λi H2 H2' t t'=>⟨λd ed=>?_,λhl=>?_⟩⟩
   ·rw[bc]at ed;cases ek:ks[i]? with
    |none=>rw[ek]at ed;cases ed
    |some j=>
     rw[ek]at ed;cases ed;have hi:i<ks.length:=(bN.mp ek).1;refine⟨⟨by rw[hz];exact hi,t' _ _ (t _ _ r1)⟩,λz H3 y=>?_⟩;obtain⟨e3,k',z',hk',rfl⟩:=y;subst e3;have:k'=j:=by rw[List.getElem?_zip_eq_some]at hk';have:=hk'.1;rw[ek]at this;exact(bP this).symm
     subst this;exact⟨H2,ox.refl _,t',ox.refl _,λb o e=>.inl e,Pr _⟩
   ·refine⟨by rw[hz,hl,ah];exact aK _,t' _ _ (t _ _ r1)⟩
  ·cases e
 ·cases e
end
variable{xs:bh}
section
variable{X:Cx}{pins:bW}{σ:St}{H:Hp}{s:af}
theorem Inv.turnedLaid{T:Addr}{t':Nat}{ch:List Addr}(I:Inv X pins σ H s)(hf:∀b∈ch,CD X pins H b)(k:∀b o,b∉ch->s.heap.get? b=some o->h'.get? b=some o)
  (hT:s.heap.objs.size<=T) (new:pI X.prog X.w (upd H T (.tup xs)) h' T (.tup xs)):Inv X pins σ (upd H T (.tup xs)) { s with heap:=h',toks:=t' }:=by
 have nT:H T=none:=I.hok.fresh hT;have ne:∀{b:Addr} {u:HO},H b=some u->b≠T:=λe z=>by subst z;rw[nT]at e;cases e
 have nch:∀{b:Addr} {u:HO},H b=some u->b∉ch:=λe z=>by have:=(hf _ z).1;rw[e]at this;cases this
 have lt:∀{b:Addr} {o:Obj},s.heap.get? b=some o->b≠T:=λe z=>by subst z;exact ao (bR (aM e) hT) (cU _)
 refine I.step (g':=s.gens) (d':=s.drawn) (ch:=ch) (λb hb=>?_) (λb o _ _ hc e _=>k b o hc e) (λb o _ _ hc e _=>⟨o.slots,k b o hc e⟩) (λb o _ e n=>by rw[oo (lt e)];exact n) (λb o hc e=>⟨o,k b o hc e⟩)
  (λb ys e=>by rw[oo (ne e)];exact e) (λb o u e=>by rw[oo (ne e)];exact e) (λb ps e=>⟨#[],by rw[oo (ne e),e];simp⟩) (λm hm=>?_) (λb u e=>?_) I.bare
 ·obtain⟨f0,f1,f2,f3,f4,f5⟩:=hf b hb;exact⟨f3,f1,f4,f5⟩
 ·exact hm.at' λo e=>k _ o (λz=>(hf _ z).2.1 rfl) e
 ·by_cases hb:b=T
  ·subst hb;rw[oq]at e;cases e;exact new
  ·rw[oo hb]at e;refine(I.hok b u e).stay (λc v hc q=>k c v ?_ q) (λc q=>by rw[oo (ne q)];exact q) λc ys q=>by rw[oo (ne q)];exact q
   rcases hc with rfl|hc
   ·exact nch e
   ·exact nch hc
def Itz(l1 l2:Addr):It:=
 ⟨λi H=>∃xs ys x y,H l1=some (.lst xs)/\H l2=some (.lst ys)/\xs[i]?=some x/\ys[i]?=some y,
  λi H v H'=>∃p x y,H p=none/\v=.ref p/\H'=upd H p (.tup [x,y])/\(∀xs,H l1=some (.lst xs)->xs[i]?=some x)/\∀ys,H l2=some (.lst ys)->ys[i]?=some y,
  λi H=>∃xs ys,H l1=some (.lst xs)/\H l2=some (.lst ys)/\(xs.length<=i\/ys.length<=i)⟩
end
structure Mh(z TI TO i1 i2:Addr):Prop where
 a:TI≠z
 b:TO≠z
 c:i1≠z
 d:i2≠z
 e:TI≠TO
 f:TI≠i1
 g:TI≠i2
 h:TO≠i1
 i:TO≠i2
 j:i1≠i2
theorem Mi(n:Nat):Mh (n+4) (n+2) (n+3) n (n+1) where
 a:=(by omega:(n+2:Nat)≠n+4)
 b:=(by omega:(n+3:Nat)≠n+4)
 c:=(by omega:(n:Nat)≠n+4)
 d:=(by omega:(n+1:Nat)≠n+4)
 e:=(by omega:(n+2:Nat)≠n+3)
 f:=(by omega:(n+2:Nat)≠n)
 g:=(by omega:(n+2:Nat)≠n+1)
 h:=(by omega:(n+3:Nat)≠n)
 i:=(by omega:(n+3:Nat)≠n+1)
 j:=(by omega:(n:Nat)≠n+1)
def zTn(z TI TO i1 i2 l1 l2:Addr)(i:Nat)(h:Heap):Prop:=bU h z TI TO .none/\bE h TI (.ref i1) (.ref i2)/\(∃a b,bE h TO a b)/\h.IsListIter i1 l1 i/\h.IsListIter i2 l2 i
theorem Mj{P:aD}{w:aw}{K:ar}{elts:List Expr}{x1}{z TI TO i1 i2 l1 l2:Addr}(D:Mh z TI TO i1 i2):Turn P w K (.Tuple elts x1 pos) (Itz l1 l2) [z,TI,TO,i1,i2] z (zTn z TI TO i1 i2 l1 l2) where
 mem:=by simp
 obj:=λi h st b hb=>by
  obtain⟨hz,h1,⟨a,c,h2⟩,⟨o3,h3,_,d3⟩,⟨o4,h4,_,d4⟩⟩:=st;simp only[aL,bI,or_false]at hb;rcases hb with rfl|rfl|rfl|rfl|rfl
  ·exact⟨_,hz,λv y=>nomatch y⟩
  ·exact⟨_,h1,λv y=>nomatch y⟩
  ·exact⟨_,h2,λv y=>nomatch y⟩
  ·exact⟨o3,h3,λv y=>by rw[d3]at y;cases y⟩
  ·exact⟨o4,h4,λv y=>by rw[d4]at y;cases y⟩
 keep:=λi h h' st k=>by obtain⟨hz,h1,⟨a,c,h2⟩,h3,h4⟩:=st;exact⟨k z (by simp) _ hz,k TI (by simp) _ h1,⟨a,c,k TO (by simp) _ h2⟩,h3.at λo e=>k i1 (by simp) o e,h4.at λo e=>k i2 (by simp) o e⟩
 item:=by
  intro X hP hw hK hc i pins s σ H E I hf st hg;subst hP hw hK;obtain⟨xs,ys,x,y,q1,q2,qx,qy⟩:=hg;obtain⟨hz,hTI,⟨a,b,hTO⟩,h1,h2⟩:=st;obtain⟨its,r1,p1,_⟩:=I.list (SqL.of q1);obtain⟨jts,r2,p2,_⟩:=I.list (SqL.of q2);obtain⟨u1,hu1,ru1⟩:=r1.get qx;obtain⟨u2,hu2,ru2⟩:=r2.get qy;have nf:∀{l:Addr} {u:HO} {c:Addr},H l=some u->c∈[z,TI,TO,i1,i2]->l≠c:=λe hm w=>by subst w;have:=(hf _ hm).1;rw[e]at this;cases this
  have DD:dN z TI TO i1 i2 l1 l2:=⟨D.a,D.b,D.c,D.d,D.e,D.f,D.g,D.h,D.i,D.j,nf q1 (by simp),nf q1 (by simp),nf q1 (by simp),nf q1 (by simp),nf q2 (by simp),nf q2 (by simp),nf q2 (by simp),nf q2 (by simp)⟩;refine wpAny_pyNext_zip_item DD hz hTI hTO h1 h2 p1.isList p2.isList (x:=u1) (y:=u2) (by simpa using hu1) (by simpa using hu2) λh' a1 a2 a3 a4 a5 a6 kk=>?_;refine⟨_,rfl,lp (s:={ s with heap:=h' }) a1 λh2' hz' sb=>?_⟩;have lt:∀{c:Addr} {o:Obj},s.heap.get? c=some o->s.heap.objs.size≠c:=λe w=>ao (aM e) (by rw[w];exact cU _);have Tz:s.heap.objs.size≠z:=lt hz;have hp:bE h2' s.heap.objs.size u1 u2:=sb.extBut _ _ Tz a5;have ch4:∀b∈[z,TO,i1,i2],b∈[z,TI,TO,i1,i2]:=λb hb=>by simp at hb ⊢;rcases hb with rfl|rfl|rfl|rfl<;>simp
  have ok:pI X.prog X.w (upd H s.heap.objs.size (.tup [x,y])) h2' s.heap.objs.size (.tup [x,y]):=⟨by rw[bC];show 2<=16777216;decide,[u1,u2],.cons ru1 (.cons ru2 .nil),_,hp,rfl,_,rfl⟩;have I1:=Inv.turnedLaid (h':=h2') (t':=s.toks) (T:=s.heap.objs.size) (xs:=[x,y]) (ch:=[z,TO,i1,i2]) I (λb hb=>hf b (ch4 b hb))
   (λb o hb e=>sb.extBut _ _ (λw=>hb (by simp[w])) (kk b o (λw=>hb (by simp[w])) (λw=>hb (by simp[w])) (λw=>hb (by simp[w])) (λw=>hb (by simp[w])) e)) (aK _) ok
  refine⟨.ref s.heap.objs.size,_,I1,rfl,⟨_,x,y,I.hok.fresh (aK _),rfl,rfl,λxs' e=>?_,λys' e=>?_⟩,⟨hz',sb.extBut _ _ D.a (kk _ _ D.a D.e D.f D.g hTI),⟨_,_,sb.extBut _ _ D.b a2⟩,a3.extBut sb.extBut D.c,a4.extBut sb.extBut D.d⟩,λb hb=>?_⟩
  ·rw[q1]at e;cases e;exact qx
  ·rw[q2]at e;cases e;exact qy
  ·rw[oo (λw=>?_)]
   ·exact(hf b hb).1
   ·simp only[aL,bI,or_false]at hb;rcases hb with hb|hb|hb|hb|hb
    ·exact lt hz (w.symm.trans hb)
    ·exact lt hTI (w.symm.trans hb)
    ·exact lt hTO (w.symm.trans hb)
    ·obtain⟨o,e,_⟩:=h1;exact lt e (w.symm.trans hb)
    ·obtain⟨o,e,_⟩:=h2;exact lt e (w.symm.trans hb)
 done:=by
  intro X hP hw hK hc i pins s σ H E I hf st hg;subst hP hw hK;obtain⟨xs,ys,q1,q2,hend⟩:=hg;obtain⟨hz,hTI,⟨a,b,hTO⟩,h1,h2⟩:=st;obtain⟨its,r1,p1,_⟩:=I.list (SqL.of q1);obtain⟨jts,r2,p2,_⟩:=I.list (SqL.of q2);have nf:∀{l:Addr} {u:HO} {c:Addr},H l=some u->c∈[z,TI,TO,i1,i2]->l≠c:=λe hm w=>by subst w;have:=(hf _ hm).1;rw[e]at this;cases this
  have DD:dN z TI TO i1 i2 l1 l2:=⟨D.a,D.b,D.c,D.d,D.e,D.f,D.g,D.h,D.i,D.j,nf q1 (by simp),nf q1 (by simp),nf q1 (by simp),nf q1 (by simp),nf q2 (by simp),nf q2 (by simp),nf q2 (by simp),nf q2 (by simp)⟩;have e1:=r1.length;have e2:=r2.length;refine wpAny_pyNext_zip_end (I.ok.hd hc) DD hz hTI hTO h1 h2 p1.isList p2.isList ?_ λh' kk=>⟨rfl,?_⟩
  ·rcases hend with w|w
   ·exact .inl (by simp;omega)
   ·exact .inr (by simp;omega)
  ·have ch4:∀b∈[z,TO,i1,i2],b∈[z,TI,TO,i1,i2]:=λb hb=>by simp at hb ⊢;rcases hb with rfl|rfl|rfl|rfl<;>simp
   have nch:∀{b:Addr} {u:HO},H b=some u->b∉[z,TO,i1,i2]:=λe w=>by have:=(hf _ (ch4 _ w)).1;rw[e]at this;cases this
   have k:∀b o,b∉[z,TO,i1,i2]->s.heap.get? b=some o->h'.get? b=some o:=λb o hb e=>kk b o (λw=>hb (by simp[w])) (λw=>hb (by simp[w])) (λw=>hb (by simp[w])) (λw=>hb (by simp[w])) e;refine I.step (g':=s.gens) (d':=s.drawn) (t':=s.toks) (ch:=[z,TO,i1,i2]) (λb hb=>?_) (λb o _ _ hc e _=>k b o hc e) (λb o _ _ hc e _=>⟨o.slots,k b o hc e⟩) (λb o _ e n=>n) (λb o hc e=>⟨o,k b o hc e⟩)
    (λb ys e=>e) (λb o u e=>e) (λb ps e=>⟨#[],by rw[e];simp⟩) (λm hm=>?_) (λb u e=>?_) I.bare
   ·obtain⟨f0,f1,f2,f3,f4,f5⟩:=hf b (ch4 b hb);exact⟨f3,f1,f4,f5⟩
   ·exact hm.at' λo e=>k _ o (λw=>(hf _ (ch4 _ w)).2.1 rfl) e
   ·refine(I.hok b u e).stay (λc v hc q=>k c v ?_ q) (λc q=>q) λc ys q=>q;rcases hc with rfl|hc
    ·exact nch e
    ·exact nch hc
 self:=λ_ _ _ _ _ st h=>iw st.1 h
section
variable{X:Cx}{G:Bg}{elts:List Expr}{x1:Nat}{tpos:Pos}
def Wn(ta:TA):TI:=λσ H R=>ta σ H λvs H1=>∃a b xs ys,vs=[.ref a,.ref b]/\H1 a=some (.lst xs)/\H1 b=some (.lst ys)/\R (Itz a b) H1
theorem SX{a:Expr}{ta:TA}{p:Pos}(hg:Gl X "zip")(hm:X.mg "zip" = none)(ha:PA X [a,b] ta)(hs:starEach [a,b] X.env=[(false,eval a X.env),(false,eval b X.env)]:=by rfl)(hs2:starEach [b] X.env=[(false,eval b X.env)]:=by rfl):
  PI X (.Tuple elts x1 tpos) (.Call (.Name "zip" p) [a,b] [] pos) (Wn ta):=by
 intro pins s σ H R I h;refine Call_ (wG I hg hm boot_zip (callWith_type1 (thn (ha pos pins s σ H _ I h) λus s1 ⟨vs,H1,I1,r1,q1⟩=>?_) (by rw[hs,hs2]) (by rw[hs2];rfl)));obtain⟨a',b',xs,ys,rfl,e1,e2,q⟩:=q1;obtain⟨u,v,rfl,ru,rv⟩:=vals2 r1;cases ru;cases rv;obtain⟨its,_,p1,_⟩:=I1.list (SqL.of e1);obtain⟨jts,_,p2,_⟩:=I1.list (SqL.of e2);refine call_zip_2 p1.isList p2.isList λh' z1 z2 z3 z4 z5 z6 kk=>?_;refine iw z1 ?_;have I2:Inv X pins σ H1 { s1 with heap:=h' }:=I1.kept (t':=s1.toks) kk;have D:=Mi s1.heap.objs.size;refine⟨_,_,_,_,H1,rfl,I2,Mj D,⟨z1,z2,⟨_,_,z3⟩,z4,z5⟩,λc hc=>?_,q⟩;have hc':s1.heap.objs.size<=c:=by simp only[aL,bI,or_false]at hc;rcases hc with rfl|rfl|rfl|rfl|rfl<;>first|exact eC _ _|exact aK _
 exact I1.fpOk hc' (I1.hok.fresh hc')
def AV(ds es:aC):aC:=cW (λd e=>D.tup [d,e]) ds es
def iZ(f:FA):FA:=λρ=>match f ρ with
 |some ([.lst ds,.lst es],ρ1)=>some (AV ds es,ρ1)
 |_=>none
theorem FN(ds es:aC):(AV ds es).length=min ds.length es.length:=by unfold AV;rw[js]
theorem Pt{f:FA}(h:PI X tg e (Wn (tFA G f))):PI X tg e (tFI G (iZ f)):=PI.weak h λσ H R hh=>by
 obtain⟨F,ρ,H0,ds,ρ',R,e,k⟩:=hh;unfold iZ at e;split at e
 ·rename_i ds' es' ρ1 e1;cases e;refine⟨F,ρ,H0,_,_,R,e1,λvs H1 H1' s R' rs=>?_⟩;unfold oi at rs;obtain⟨v1,r1,rfl,h1,rs⟩:=rs;unfold oi at rs;obtain⟨v2,r2,rfl,h2,rs⟩:=rs;unfold oi at rs;subst rs;unfold Rep at h1 h2;obtain⟨a,xs,rfl,a1,a2⟩:=h1;obtain⟨b,ys,rfl,b1,b2⟩:=h2;refine⟨a,b,xs,ys,rfl,R'.sub _ _ a1,R'.sub _ _ b1,k _ _ _ s R' λi H2 H2' t t'=>?_⟩;have g1:H2' a=some (.lst xs):=t' _ _ (t _ _ a1);have g2:H2' b=some (.lst ys):=t' _ _ (t _ _ b1);refine⟨λd ed=>?_,λhl=>⟨xs,ys,g1,g2,?_⟩⟩
  ·unfold AV at ed;rw[jm]at ed;cases ex:ds'[i]? with
   |none=>rw[ex]at ed;cases ed
   |some dx=>
    cases ey:es'[i]? with
    |none=>rw[ex,ey]at ed;cases ed
    |some dy=>
     rw[ex,ey]at ed;cases ed;obtain⟨vx,x1',x2⟩:=qp a2 ex;obtain⟨vy,y1',y2⟩:=qp b2 ey;refine⟨⟨xs,ys,vx,vy,g1,g2,x1',y1'⟩,λx H3 y=>?_⟩;obtain⟨p,x',y',hp,rfl,rfl,w1,w2⟩:=y;have e1':=w1 xs g1;have e2':=w2 ys g2;rw[x1']at e1';rw[y1']at e2';cases e1';cases e2';have p0:H2 p=none:=by
      cases q:H2 p with
      |none=>rfl
      |some o=>have:=t' _ _ q;rw[hp]at this;cases this
     refine⟨upd H2 p (.tup [vx,vy]),oI p0 _,λb o e=>?_,oI hp _,λb o e=>?_,xF (SqT.of oq) ?_⟩
     ·by_cases hb:b=p
      ·subst hb;rw[oq]at e ⊢;exact e
      ·rw[oo hb]at e ⊢;exact t' _ _ e
     ·by_cases hb:b=p
      ·subst hb;exact .inr hp
      ·rw[oo hb]at e;exact .inl e
     ·have m:=t.trans (oI p0 (.tup [vx,vy]));exact oZ (Rep.mono m _ _ x2) (oZ (Rep.mono m _ _ y2) o5)
  ·rw[FN]at hl;rw[<-om a2,<- om b2];omega
 ·cases e
end
mutual
def noC(N c:Nat):D->Bool
 |.non=>true
 |.bl _=>true
 |.int _=>true
 |.str _=>true
 |.tup ds=>FP N c ds
 |.lst ds=>FP N c ds
 |.fzl ds=>FP N c ds
 |.obj k _ ds=>decide (k<N)&&decide (k≠c)&&FP N c ds
 |.dic _ ds=>FP N c ds
def FP(N c:Nat):aC->Bool
 |[]=>true
 |d::ds=>noC N c d&&FP N c ds
end
def without(H:Hp)(a:Addr):Hp:=λb=>if b=a then none else H b
theorem BM{H:Hp}{b:Addr}(h:b≠a):without H a b=H b:=by unfold without;rw[ak h]
theorem yX{H:Hp}{b:Addr}{o:HO}(h:without H a b=some o):b≠a/\H b=some o:=by
 unfold without at h;by_cases hb:b=a
 ·rw[aj hb]at h;cases h
 ·rw[ak hb]at h;exact⟨hb,h⟩
theorem rF{H:Hp}{b:Addr}{u v:HO}(ha:H a=some u)(hb:H b=some v)(d:u≠v):without H a b=some v:=by rw[BM (λz=>by subst z;rw[ha]at hb;exact d (bP hb))];exact hb
variable{p:Addr}
section
variable{G:Bg}{H:Hp}{a dx:Addr}{fs:List (Str×V)}{N c:Nat}
theorem FQ(ha:H a=some (.ins (G.ca c) dx fs))(h:SqT G.K H p xs):SqT G.K (without H a) p xs:=by
 rcases h with (h|⟨o,h⟩)|h
 ·exact .inl (.inl (rF ha h (λz=>nomatch z)))
 ·exact .inl (.inr ⟨o,rF ha h (λz=>nomatch z)⟩)
 ·exact .inr h
theorem FR(ha:H a=some (.ins (G.ca c) dx fs))(h:SqL G.K H p xs):SqL G.K (without H a) p xs:=by
 rcases h with (h|⟨o,h⟩)|h
 ·exact .inl (.inl (rF ha h (λz=>nomatch z)))
 ·exact .inl (.inr ⟨o,rF ha h (λz=>nomatch z)⟩)
 ·exact .inr h
mutual
theorem An(inj:∀j k,j<N->k<N->G.ca j=G.ca k->j=k)(hc:c<N)(ha:H a=some (.ins (G.ca c) dx fs)):∀(d:D) (v:V),noC N c d=true->Rep G H d v->Rep G (without H a) d v
 |.non,v,_,h=>by unfold Rep at h ⊢;exact h
 |.bl _,v,_,h=>by unfold Rep at h ⊢;exact h
 |.int _,v,_,h=>by unfold Rep at h ⊢;exact h
 |.str _,v,_,h=>by unfold Rep at h ⊢;exact h
 |.tup ds,v,n,h=>by unfold noC at n;unfold Rep at h ⊢;obtain⟨p,xs,e,h1,h2⟩:=h;exact⟨p,xs,e,FQ ha h1,rg inj hc ha ds xs n h2⟩
 |.lst ds,v,n,h=>by unfold noC at n;unfold Rep at h ⊢;obtain⟨p,xs,e,h1,h2⟩:=h;exact⟨p,xs,e,rF ha h1 (λz=>nomatch z),rg inj hc ha ds xs n h2⟩
 |.fzl ds,v,n,h=>by unfold noC at n;unfold Rep at h ⊢;obtain⟨p,xs,e,h1,h2⟩:=h;exact⟨p,xs,e,FR ha h1,rg inj hc ha ds xs n h2⟩
 |.obj k ns ds,v,n,h=>by unfold noC at n;simp only[aY,bu]at n;unfold Rep at h ⊢;obtain⟨p,dx',xs,e,h1,h2,h3⟩:=h;refine⟨p,dx',xs,e,rF ha h1 (λz=>?_),h2,rg inj hc ha ds xs n.2 h3⟩;injection z with z1;exact n.1.2 (inj k c n.1.1 hc z1.symm)
 |.dic ks ds,v,n,h=>by unfold noC at n;unfold Rep at h ⊢;obtain⟨p,o,xs,e,h1,h2,h3⟩:=h;exact⟨p,o,xs,e,rF ha h1 (λz=>nomatch z),h2,rg inj hc ha ds xs n h3⟩
theorem rg(inj:∀j k,j<N->k<N->G.ca j=G.ca k->j=k)(hc:c<N)(ha:H a=some (.ins (G.ca c) dx fs)):∀(ds:aC) (xs:bh),FP N c ds=true->oi G H ds xs->oi G (without H a) ds xs
 |[],xs,_,h=>by unfold oi at h ⊢;exact h
 |d::ds,xs,n,h=>by unfold FP at n;simp only[aY]at n;unfold oi at h ⊢;obtain⟨v,r,e,h1,h2⟩:=h;exact⟨v,r,e,An inj hc ha d v n.1 h1,rg inj hc ha ds r n.2 h2⟩
end
end
def yt:Sl->Sl
 |.im d=>.im d
 |_=>.un
def uD(N:Nat)(f:FE):FE:=λρ=>match ρ with
 |.ob c ns ds::r=>match f (.im (.obj c ns ds)::r.map yt)with
  |some (d,_)=>if (decide (c<N)&&noC N c d)=true then some (d,ρ)else none
  |none=>none
 |_=>none
section
variable{X:Cx}{G:Bg}
theorem Hh{s:Sl}:(yt s).own=false:=by cases s<;>rfl
theorem Pu{N:Nat}(inj:∀j k,j<N->k<N->G.ca j=G.ca k->j=k)(h:PE X e (tF G f)):PE X e (tF G (uD N f)):=PE.weak h λσ H Q hh=>by
 obtain⟨F,ρ,H0,d,ρ',R,e,k⟩:=hh;unfold uD at e;split at e
 ·rename_i c ns ds r;rcases oP (f:=f) (ρ:=.im (.obj c ns ds)::r.map yt)with e1|⟨x,ρ1,e1⟩<;>simp only[e1]at e
  ·cases e
  split at e
  ·rename_i hn;cases e;simp only[aY,bu]at hn;obtain⟨a,dx,xs,h1,h2,h3,h4,h5,h6⟩:=R.sl 0 _ rfl;have RL:oA G ⟨upd H0 a (.ins (G.ca c) dx (ns.zip xs)),H,[]⟩ σ (.im (.obj c ns ds)::r.map yt) (upd H0 a (.ins (G.ca c) dx (ns.zip xs))) H:={
    sub:=λb o q=>by
     by_cases hb:b=a
     ·subst hb;rw[oq]at q;cases q;exact h2
     ·rw[oo hb]at q;exact R.sub _ _ q
    g0:=ox.refl _
    keep:=λb o q _=>q
    fr:=λb o q=>.inl q
    am:=λb q=>by cases q
    len:=by have:=R.len;simpa using this
    sl:=λi s q=>by
     cases i with
     |zero=>cases q;exact⟨.ref a,h1,by unfold Rep;exact⟨a,dx,xs,rfl,oq,h5,oi.mono (oI h3 _) _ _ h6⟩⟩
     |succ i=>
      have q':(r.map yt)[i]?=some s:=q;rw[bc]at q';cases q1:r[i]? with
      |none=>rw[q1]at q';cases q'
      |some t=>
       rw[q1]at q';cases q';have ok:=R.sl (i+1) t q1;cases t with
       |im d=>obtain⟨v,g1,g2⟩:=ok;exact⟨v,g1,Rep.mono (oI h3 _) _ _ g2⟩
       |_=>trivial
    ap:=λi j s t b _ qi _ so=>by
     cases i with
     |zero=>cases qi;cases so
     |succ i=>
      have q':(r.map yt)[i]?=some s:=qi;rw[bc]at q';cases q1:r[i]? with
      |none=>rw[q1]at q';cases q'
      |some t=>rw[q1]at q';cases q';rw[Hh]at so;cases so }
   refine⟨_,_,_,d,ρ1,RL,e1,λv H1 H1' s R' rd=>?_⟩;have ha:H1 a=some (.ins (G.ca c) dx (ns.zip xs)):=s _ _ oq;have s0:ox H0 (without H1 a):=λb o q=>by
    have hb:b≠a:=λz=>by subst z;rw[h3]at q;cases q
    rw[BM hb];exact s b o (by rw[oo hb];exact q)
   refine k v (without H1 a) H1' s0 ?_ (An inj hn.1 ha d v hn.2 rd);refine R.grow (λb o q=>R'.keep b o q (by simp)) s0 (λb o q=>R'.sub _ _ (yX q).2) λb o q=>?_;obtain⟨hb,q⟩:=yX q;rcases R'.fr b o q with z|z
   ·have z':upd H0 a (.ins (G.ca c) dx (ns.zip xs)) b=some o:=z;rw[oo hb]at z';exact .inl z'
   ·exact .inr z
  ·cases e
 ·cases e
end
section
variable{X:Cx}{pins:bW}{σ:St}{H:Hp}{s:af}{a:Addr}{A:aH}{E:aa->af->Prop}
theorem SY{k:Key}{z:V}{u r:aa}{Q:aa->af->Prop}(I:Inv X pins σ H s)(e:H a=some (.dK kvs))(ry:RelV (kV k) u)(rz:RelV z r)(hl:kvs.length<sizeLine)
  (h1:∀v w s',rU kvs k=some v->Inv X pins σ H s'->RelV v w->Q w s') (h2:∀s',rU kvs k=none->Inv X pins σ (upd H a (.dK (putK kvs k z))) s'->Q r s'):
  wpAny (model X.prog X.w) A (call (.builtin "dict.setdefault") [.ref a,u,r]) Q E s:=by
 obtain⟨y,hd,vs,rel,dd⟩:=Lf I.hok e;have hz:vs.length<=sizeLine:=by rw[<-rel.length];exact y
 have hp:(putK kvs k z).length<=sizeLine:=by have:=uA kvs k z;omega
 have rv:=rel.val k;refine gm lG dd.typeIs F.entry_dict_setdefault (F.args_dict_setdefault_3 _ _ _) (kt_meets_setdefault (oO X.prog X.w) a (xR ry) hd r) ⟨vs,dd,hz,λw hw=>?_,λhn h' dd' hs=>?_⟩
 ·rw[hw]at rv;cases ev:rU kvs k with
  |none=>rw[ev]at rv;exact rv.elim
  |some v=>rw[ev]at rv;exact h1 v w _ ev (I.tok _) rv
 ·rw[hn]at rv;cases ev:rU kvs k with
  |some v=>rw[ev]at rv;exact rv.elim
  |none=>have he:∃q,h'.get? a=some q:=let ⟨q,_,_,hq,_⟩:=dd';⟨q,hq⟩;exact h2 _ ev (A5 I (by rw[e];exact True.intro) hs he (GT hp hd (rel.put k rz) dd'))
def Ml(td ty tx:TE):TE:=λσ H Q=>td σ H λx H1=>∃a,x=.ref a/\IsD H1 a/\ty σ H1 λy H2=>tx σ H2 λz H3=>∃kvs k,H3 a=some (.dK kvs)/\y=kV k/\kvs.length<sizeLine/\
 (∀v,rU kvs k=some v->Q v H3)/\(rU kvs k=none->Q z (upd H3 a (.dK (putK kvs k z))))
theorem Mm{o f:Expr}{td ty tx:TE}(ho:PE X o td)(he:PE X e ty)(hf:PE X f tx)(m:M2 X o "setdefault" apos e f cpos):PE X (.Call (.Attribute o "setdefault" apos) [e,f] [] cpos) (Ml td ty tx):=by
 intro pins s σ H Q I h;refine jC m.base m.few m.line jD lG F.type_dict_setdefault (thn (ho pins s σ H _ I h) λu s1 ⟨x,H1,I1,rx,a,ex,d,q1⟩=>?_);subst ex;obtain rfl:u=Value.ref a:=rx;obtain⟨t1,t2,_⟩:=GV I1 d;refine⟨t1,t2,?_⟩;rw[m.trees];refine hU rfl (ie (dY (thn (he pins s1 σ H1 _ I1 q1) λiv s2 ⟨y,H2,I2,ry,q2⟩=>
  dY (thn (hf pins s2 σ H2 _ I2 q2) λfv s3 ⟨z,H3,I3,rz,kvs,k,e3,ey,hl,g1,g2⟩=>fT ?_))))
 subst ey;exact SY I3 e3 ry rz hl (λv w s' ev I' rw'=>⟨v,H3,I',rw',g1 v ev⟩) λs' ev I'=>⟨z,_,I',rz,g2 ev⟩
end
def CO(ks:List Key)(dss:List aC)(k:Key)(d:D):List Key×List aC:=
 if yW ks k=true then (ks,cW (λk' ds=>if k'=k then ds++[d]else ds) ks dss)else (ks++[k],dss++[[d]])
theorem FU{k:Key}:yW ks k=true ↔ k∈ks:=by unfold yW;rw[eB];exact⟨λ⟨x,h1,h2⟩=>bz h2▸h1,λh=>⟨k,h,aZ rfl⟩⟩
variable{vs:bh}
theorem Mn{k:Key}{v:V}:ks.length=vs.length->rU (ks.zip vs) k=some v->∃j:Nat,ks[j]?=some k/\vs[j]?=some v:=by
 induction ks generalizing vs with
 |nil=>intro _ h;cases h
 |cons k0 ks ih=>
  intro hl h;cases vs with
  |nil=>cases hl
  |cons v0 vs=>
   unfold rU at h;rw[dD,c8]at h;by_cases e:k0=k
   ·subst e;simp only[decide_true]at h;cases h;exact⟨0,rfl,rfl⟩
   ·simp only[e,decide_false]at h;obtain⟨j,h1,h2⟩:=ih (by simpa using hl) h;exact⟨j+1,h1,h2⟩
theorem Mo{k:Key}:ks.length=vs.length->rU (ks.zip vs) k=none->k∉ks:=by
 induction ks generalizing vs with
 |nil=>intro _ _ h;cases h
 |cons k0 ks ih=>
  intro hl h hm;cases vs with
  |nil=>cases hl
  |cons v0 vs=>
   unfold rU at h;rw[dD,c8]at h;by_cases e:k0=k
   ·subst e;simp only[decide_true]at h;cases h
   ·simp only[e,decide_false]at h;rcases aL.mp hm with z|z
    ·exact e z.symm
    ·exact ih (by simpa using hl) h z
structure Grp(G:Bg)(F:Fr)(H0 H:Hp)(a:Addr)(ks:List Key)(dss:List aC)(bs:List Addr):Prop where
 at_:H a=some (.dK (ks.zip (bs.map V.ref)))
 n0:H0 a=none
 nB:F.B a=none
 len:ks.length=bs.length
 len':bs.length=dss.length
 nd:bs.Nodup
 kd:ks.Nodup
 each:∀(i:Nat) (b:Addr) (ds:aC),bs[i]?=some b->dss[i]?=some ds->∃xs,H b=some (.lst xs)/\H0 b=none/\F.B b=none/\oi G H0 ds xs
section
variable{G:Bg}{F:Fr}{σ:St}{ρ:aV}{H0 H H0' H':Hp}{a:Addr}{ks:List Key}{dss:List aC}{bs:List Addr}
theorem Grp.grow(g:Grp G F H0 H a ks dss bs)(hs:ox H H')(h0:ox H0 H0')(hf:∀b o,H0' b=some o->H0 b=some o\/H b=none):Grp G F H0' H' a ks dss bs where
 at_:=hs _ _ g.at_
 n0:=by
  cases q:H0' a with
  |none=>rfl
  |some o=>
   rcases hf a o q with z|z
   ·rw[g.n0]at z;cases z
   ·rw[g.at_]at z;cases z
 nB:=g.nB
 len:=g.len
 len':=g.len'
 nd:=g.nd
 kd:=g.kd
 each:=λi b ds e1 e2=>by
  obtain⟨xs,q1,q2,q3,q4⟩:=g.each i b ds e1 e2;refine⟨xs,hs _ _ q1,?_,q3,oi.mono h0 _ _ q4⟩;cases q:H0' b with
  |none=>rfl
  |some o=>
   rcases hf b o q with z|z
   ·rw[q2]at z;cases z
   ·rw[q1]at z;cases z
theorem oA.still(R:oA G F σ ρ H0 H)(no:∀s∈ρ,s.own=false):oA G ⟨H0,H,[]⟩ σ ρ H0 H where
 sub:=R.sub
 g0:=ox.refl _
 keep:=λb o e _=>e
 fr:=λb o e=>.inl e
 am:=λa h=>by cases h
 len:=R.len
 sl:=λi s e=>by
  have ok:=R.sl i s e;have n:=no s (cj e);cases s with
  |un=>trivial
  |im d=>exact ok
  |_=>cases n
 ap:=λi j s t b _ e _ so=>by rw[no s (cj e)]at so;cases so
theorem oA.touch(R:oA G F σ ρ H0 H)(no:∀s∈ρ,s.own=false)(hk:∀b o,H b=some o->(H0 b≠none\/F.B b≠none)->H' b=some o)(ha:∀b o,H b=some o->∃o',H' b=some o'):oA G F σ ρ H0 H' where
 sub:=λb o e=>hk b o (R.sub _ _ e) (.inl (by rw[e];exact λz=>nomatch z))
 g0:=R.g0
 keep:=λb o e n=>hk b o (R.keep b o e n) (.inr (by rw[e];exact λz=>nomatch z))
 fr:=R.fr
 am:=λb hb=>by obtain⟨o,e⟩:=R.am b hb;exact ha b o e
 len:=R.len
 sl:=λi s e=>by
  have ok:=R.sl i s e;have n:=no s (cj e);cases s with
  |un=>trivial
  |im d=>exact ok
  |_=>cases n
 ap:=λi j s t b _ e _ so=>by rw[no s (cj e)]at so;cases so
theorem SZ{bs:List Addr}(h:bs.Nodup){b:Addr}(e1:bs[i]?=some b)(e2:bs[j]?=some b):i=j:=by obtain⟨h1,q1⟩:=bN.mp e1;obtain⟨h2,q2⟩:=bN.mp e2;exact(jE h).mp (q1.trans q2.symm)
theorem S0{ks:List Key}(h:ks.Nodup){b:Key}(e1:ks[i]?=some b)(e2:ks[j]?=some b):i=j:=by obtain⟨h1,q1⟩:=bN.mp e1;obtain⟨h2,q2⟩:=bN.mp e2;exact(jE h).mp (q1.trans q2.symm)
theorem Grp.more(g:Grp G F H0 H a ks dss bs){k:Key}{b:Addr}{v:V}(ek:ks[j]?=some k)(eb:bs[j]?=some b)(hx:H b=some (.lst xs))(rd:Rep G H0 d v):
  Grp G F H0 (upd H b (.lst (xs++[v]))) a (CO ks dss k d).1 (CO ks dss k d).2 bs:=by
 have hm:yW ks k=true:=FU.mpr (cj ek);unfold CO;rw[aj hm];have ne:a≠b:=λz=>by subst z;rw[g.at_]at hx;cases hx
 refine⟨by rw[oo ne];exact g.at_,g.n0,g.nB,g.len,?_,g.nd,g.kd,λi c ds e1 e2=>?_⟩
 ·rw[js,<- g.len',<- g.len,fo,g.len]
 ·rw[jm]at e2;cases q1:ks[i]? with
  |none=>rw[q1]at e2;cases e2
  |some k'=>
   cases q2:dss[i]? with
   |none=>rw[q1,q2]at e2;cases e2
   |some ds'=>
    rw[q1,q2]at e2;cases e2;obtain⟨ys,w1,w2,w3,w4⟩:=g.each i c ds' e1 q2;by_cases hk:k'=k
    ·subst hk;have ij:=S0 g.kd q1 ek;subst ij;rw[e1]at eb;cases eb;rw[w1]at hx;cases hx;rw[aj rfl];exact⟨_,oq,w2,w3,qF w4 (oZ rd o5)⟩
    ·rw[ak hk];have nc:c≠b:=λz=>by subst z;have ij:=SZ g.nd e1 eb;subst ij;rw[q1]at ek;cases ek;exact hk rfl
     exact⟨ys,by rw[oo nc];exact w1,w2,w3,w4⟩
theorem Grp.fresh(g:Grp G F H0 H a ks dss bs){k:Key}{v:V}(hk:k∉ks)(hp:H p=none)(h0:H0 p=none)(hB:F.B p=none)(rd:Rep G H0 d v):
  Grp G F H0 (upd (upd (upd H p (.lst [])) a (.dK ((ks++[k]).zip ((bs++[p]).map V.ref)))) p (.lst [v])) a (CO ks dss k d).1 (CO ks dss k d).2 (bs++[p]):=by
 have hm:¬yW ks k=true:=λz=>hk (FU.mp z);unfold CO;rw[ak hm];have ne:a≠p:=λz=>by subst z;rw[g.at_]at hp;cases hp
 have np:p∉bs:=λz=>by
  obtain⟨i,hi,e⟩:=jt z;have e1:bs[i]?=some p:=by rw[aS hi,e]
  obtain⟨ds,e2⟩:∃ds,dss[i]?=some ds:=⟨dss[i]'(by rw[<-g.len'];exact hi),aS _⟩;obtain⟨ys,w1,_⟩:=g.each i p ds e1 e2;rw[hp]at w1;cases w1
 refine⟨by rw[oo ne,oq],g.n0,g.nB,by simp[g.len],by simp[g.len'],?_,?_,λi c ds e1 e2=>?_⟩
 ·rw[bK];refine⟨g.nd,by simp,λx hx y hy=>?_⟩;rw[bx]at hy;subst hy;exact λz=>np (z▸hx)
 ·rw[bK];refine⟨g.kd,by simp,λx hx y hy=>?_⟩;rw[bx]at hy;subst hy;exact λz=>hk (z▸hx)
 ·by_cases hi:i<bs.length
  ·rw[c7 hi]at e1;rw[c7 (by rw[<-g.len'];exact hi)]at e2;obtain⟨ys,w1,w2,w3,w4⟩:=g.each i c ds e1 e2;have nc:c≠p:=λz=>np (z▸cj e1);have na:c≠a:=λz=>by subst z;rw[g.at_]at w1;cases w1
   exact⟨ys,by rw[oo nc,oo na,oo nc];exact w1,w2,w3,w4⟩
  ·have hi':i=bs.length:=by have:i<(bs++[p]).length:=(bN.mp e1).1;rw[aJ,bt]at this;omega
   subst hi';rw[c6 (aK _),j6]at e1;rw[g.len',c6 (aK _),j6]at e2;cases e1;cases e2;exact⟨[v],oq,h0,hB,oZ rd o5⟩
def FV(G:Bg)(fk:FE):TS:=QG (tBM G.K "list" Eh (Ml (uN 1) (tF G fk) (VG E4)) (Bm (uN 2) E4))
theorem Mp{D0:Ends}{x:D}{k:Key}{vr:V}(R:oA G F σ ρ H0 H)(no:∀s∈ρ,s.own=false)(h1:σ[1]?=some (some (.ref a)))(h2:σ[2]?=some (some vr))(rd:Rep G H0 d vr)
  (g:Grp G F H0 H a ks dss bs) (hk:fk ρ=some (x,ρ)) (ek:wU x=some k) (l1:ks.length<1000) (l2:∀ds∈dss,ds.length<1000)
  (kont:∀Hi Hj bs',ox H0 Hi->oA G F σ ρ Hi Hj->Grp G F Hi Hj a (CO ks dss k d).1 (CO ks dss k d).2 bs'->D0.nx σ Hj):FV G fk D0 σ H:=by
 refine⟨.ref a,h1,a,rfl,.inl ⟨_,.inl g.at_⟩,_,_,_,x,ρ,oA.still R no,hk,λv H1 H1' s R1 r=>?_⟩;have hs:ox H H1':=λb o e=>R1.keep b o e (by simp);have hf:∀b o,H1 b=some o->H0 b=some o\/H b=none:=R1.fr;have R2:oA G F σ ρ H1 H1':=R.grow hs s R1.sub hf;have g2:Grp G F H1 H1' a ks dss bs:=g.grow hs s hf;have rd2:=Rep.mono s _ _ rd;refine⟨bZ _,λp hp=>?_⟩;have np:a≠p:=λz=>by subst z;rw[g2.at_]at hp;cases hp
 have R3:oA G F σ ρ H1 (upd H1' p (.lst [])):=R2.newOwn hp _;have g3:Grp G F H1 (upd H1' p (.lst [])) a ks dss bs:=g2.grow (oI hp _) (ox.refl _) λb o e=>.inl e;have lz:(ks.zip (bs.map V.ref)).length<sizeLine:=by rw[eZ,ah,<- g.len,fo,bC];omega
 refine⟨_,k,g3.at_,vP r ek,lz,λw ev=>?_,λev=>?_⟩
 ·obtain⟨j,e1,e2⟩:=Mn (by rw[ah];exact g.len) ev;rw[bc]at e2;cases eb:bs[j]? with
  |none=>rw[eb]at e2;cases e2
  |some b=>
   rw[eb]at e2;cases e2;obtain⟨ds,ed⟩:∃ds,dss[j]?=some ds:=⟨dss[j]'(by rw[<-g.len'];exact(bN.mp eb).1),aS _⟩;obtain⟨xs,w1,w2,w3,w4⟩:=g3.each j b ds eb ed;have lx:xs.length<sizeLine:=by rw[<-om w4,bC];have:=l2 ds (cj ed);omega
   refine⟨.inl ⟨rfl,xs,SqL.of w1⟩,vr,h2,b,xs,vr,rfl,rfl,w1,lx,?_⟩;refine kont H1 _ bs s (oA.touch R3 no (λc o e z=>?_) λc o e=>?_) (g3.more e1 eb w1 rd2)
   ·have nc:c≠b:=λy=>by
     subst y;rcases z with z|z
     ·exact z w2
     ·exact z w3
    rw[oo nc];exact e
   ·by_cases y:c=b
    ·subst y;exact⟨_,oq⟩
    ·rw[oo y];exact⟨o,e⟩
 ·have nk:=Mo (by rw[ah];exact g.len) ev;have h0p:H1 p=none:=R2.h0none hp;have hBp:F.B p=none:=R2.bNone hp;have ez:putK (ks.zip (bs.map V.ref)) k (.ref p)=(ks++[k]).zip ((bs++[p]).map V.ref):=by rw[Le _ ev,aT,mR (by rw[ah];exact g.len)];rfl
  rw[ez];have q0:upd (upd H1' p (.lst [])) a (.dK ((ks++[k]).zip ((bs++[p]).map V.ref))) p=some (.lst []):=by rw[oo (λz=>np z.symm),oq]
  refine⟨.inl ⟨rfl,[],SqL.of q0⟩,vr,h2,p,[],vr,rfl,rfl,q0,by rw[bC];decide,?_⟩;refine kont H1 _ (bs++[p]) s (oA.touch R3 no (λc o e z=>?_) λc o e=>?_) (g2.fresh nk hp h0p hBp rd2)
  ·have n1:c≠p:=λy=>by
    subst y;rcases z with z|z
    ·exact z h0p
    ·exact z hBp
   have n2:c≠a:=λy=>by
    subst y;rcases z with z|z
    ·exact z g2.n0
    ·exact z g2.nB
   rw[bq,oo n1,oo n2];exact e
  ·by_cases y:c=p
   ·subst y;exact⟨_,oq⟩
   ·rw[oo y];by_cases y2:c=a
    ·subst y2;exact⟨_,oq⟩
    ·rw[oo y2];exact⟨o,e⟩
end
def zO(vk:D->Option D):aC->List Key->List aC->Option (List Key×List aC)
 |[],ks,dss=>some (ks,dss)
 |d::r,ks,dss=>match vk d with
  |some x=>match wU x with
   |some k=>if (decide (ks.length<1000)&&dss.all λds=>decide (ds.length<1000))=true then zO vk r (CO ks dss k d).1 (CO ks dss k d).2 else none
   |none=>none
  |none=>none
def Hk(vk:D->Option D):FS:=λρ=>match ρ with
 |[.im (.lst L),.un,.un]=>match zO vk L [] []with
  |some (ks,dss)=>some (.rt (.dic ks (dss.map .lst)) [.im (.lst L),.un,.un])
  |none=>none
 |_=>none
variable{F:Fr}{H0:Hp}
section
variable{X:Cx}{G:Bg}
theorem Ao{Hq:Hp}:∀(bs:List Addr) (dss:List aC),bs.length=dss.length->(∀(i:Nat) (b:Addr) (ds:aC),bs[i]?=some b->dss[i]?=some ds->∃xs,Hq b=some (.lst xs)/\oi G Hq ds xs)->
  oi G Hq (dss.map .lst) (bs.map V.ref)
 |[],[],_,_=>o5
 |[],_::_,h,_=>by cases h
 |_::_,[],h,_=>by cases h
 |b::bs,ds::dss,h,k=>by obtain⟨xs,h1,h2⟩:=k 0 b ds rfl rfl;exact oZ (sQ h1 h2) (Ao bs dss (by simpa using h) λi b ds e1 e2=>k (i+1) b ds e1 e2)
theorem Pw{σ:St}{H:Hp}{dss:List aC}{bs:List Addr}{L:aC}{s2:Sl}(R:oA G F σ [.im (.lst L),.un,s2] H0 H)(g:Grp G F H0 H a ks dss bs)(o:Obj):
  ∃Hq,ox H0 Hq/\oA G F σ [.im (.lst L),.un,.un] Hq (upd H a (.frz o (.dK (ks.zip (bs.map V.ref)))))/\Rep G Hq (.dic ks (dss.map .lst)) (.ref a):=by
 have mb:∀{b:Addr},b∈bs->∃xs,H b=some (.lst xs)/\H0 b=none/\F.B b=none:=λ{b} hb=>by obtain⟨i,hi,e⟩:=jt hb;obtain⟨xs,w1,w2,w3,_⟩:=g.each i b (dss[i]'(by rw[<-g.len'];exact hi)) (by rw[aS hi,e]) (aS _);exact⟨xs,w1,w2,w3⟩
 have na:a∉bs:=λz=>by obtain⟨xs,w1,_⟩:=mb z;rw[g.at_]at w1;cases w1
 have s0:ox H0 (λc=>if c=a then some (.frz o (.dK (ks.zip (bs.map V.ref))))else if c∈bs then H c else H0 c):=λc u e=>by
  have n1:c≠a:=λz=>by subst z;rw[g.n0]at e;cases e
  have n2:c∉bs:=λz=>by obtain⟨_,_,w2,_⟩:=mb z;rw[w2]at e;cases e
  show (if c=a then _ else if c∈bs then H c else H0 c)=_;rw[ak n1,ak n2];exact e
 refine⟨_,s0,?_,?_⟩
 ·exact {
   sub:=λc u e=>by
    have e':(if c=a then some (HO.frz o (.dK (ks.zip (bs.map V.ref))))else if c∈bs then H c else H0 c)=some u:=e;by_cases n1:c=a
    ·subst n1;rw[aj rfl]at e';rw[oq];exact e'
    ·rw[ak n1]at e';rw[oo n1];by_cases n2:c∈bs
     ·rw[aj n2]at e';exact e'
     ·rw[ak n2]at e';exact R.sub _ _ e'
   g0:=R.g0.trans s0
   keep:=λc u e n=>by rw[oo (λz=>by subst z;rw[g.nB]at e;cases e)];exact R.keep c u e n
   fr:=λc u e=>by
    have e':(if c=a then some (HO.frz o (.dK (ks.zip (bs.map V.ref))))else if c∈bs then H c else H0 c)=some u:=e;by_cases n1:c=a
    ·subst n1;exact .inr g.nB
    ·rw[ak n1]at e';by_cases n2:c∈bs
     ·obtain⟨_,_,_,w3⟩:=mb n2;exact .inr w3
     ·rw[ak n2]at e';exact R.fr _ _ e'
   am:=λc hc=>by
    by_cases n1:c=a
    ·subst n1;exact⟨_,oq⟩
    ·rw[oo n1];exact R.am c hc
   len:=R.len
   sl:=λi s e=>by
    match i,e with
    |0,e=>cases e;obtain⟨v,w1,w2⟩:=R.sl 0 _ rfl;exact⟨v,w1,Rep.mono s0 _ _ w2⟩
    |1,e=>cases e;trivial
    |2,e=>cases e;trivial
    |i+3,e=>cases e
   ap:=λi j s t b _ e _ so=>by
    match i,e with
    |0,e=>cases e;cases so
    |1,e=>cases e;cases so
    |2,e=>cases e;cases so
    |i+3,e=>cases e }
 ·unfold Rep;refine⟨a,o,bs.map V.ref,rfl,by show (if a=a then _ else _)=_;rw[aj rfl],by rw[ah];exact g.len,Ao bs dss g.len' λi b ds e1 e2=>?_⟩;obtain⟨xs,w1,w2,w3,w4⟩:=g.each i b ds e1 e2;have hb:=cj e1;refine⟨xs,?_,oi.mono s0 _ _ w4⟩;show (if b=a then _ else if b∈bs then H b else H0 b)=_;have nb:b≠a:=λz=>na (by rw[<-z];exact hb);rw[ak nb,aj hb];exact w1
def Mq{L:aC}{s2:Sl}(h:s2.own=false):∀s∈[Sl.im (.lst L),.un,s2],s.own=false:=λs hs=>by
 simp only[aL,bI,or_false]at hs;rcases hs with rfl|rfl|rfl
 ·rfl
 ·rfl
 ·exact h
theorem Ka{st1 st2 st3:Stmt}{vk:D->Option D}(h1:PS X st1 (yJ GU (t8 1)))(h2:PS X st2 (Rq (tFI G (iL (cV 0))) (t8 2) (FV G (c1 vk (cV 2)))))
  (h3:PS X st3 (Vv (λσ H Q=>uN 1 σ H λx H1=>Q x H1\/∃a kvs,H1 a=some (.dK kvs)/\∀o,Q x (upd H1 a (.frz o (.dK kvs)))))):PSs X [st1,st2,st3] (tFS G (Hk vk)):=
 PSs.weak (yI h1 (yI h2 (A3 h3))) λE σ H hh=>by
  obtain⟨F,ρ,H0,o,R,e,k,k2⟩:=hh;unfold Hk at e;split at e
  ·rename_i L;cases eg:zO vk L [] []with
   |none=>simp only[eg]at e;cases e
   |some p=>
    obtain⟨KS,DSS⟩:=p;simp only[eg]at e;cases e;intro p hp;have R1:oA G F (σ.set 1 (some (.ref p))) [.im (.lst L),.un,.un] H0 (upd H p (.dK [])):=(R.newOwn hp (.dK [])).set (i:=1) (v:=.ref p) (s:=.un) trivial (λz=>by cases z);have hlen:σ.length=3:=R.len;have g1:Grp G F H0 (upd H p (.dK [])) p [] [] []:=⟨oq,R.h0none hp,R.bNone hp,rfl,rfl,iF,iF,λi b ds e1=>by cases e1⟩;have v1:(σ.set 1 (some (V.ref p)))[1]?=some (some (.ref p)):=by rw[hJ (by rw[hlen];decide)]
    refine⟨_,_,_,L,_,oA.still R1 (Mq rfl),rfl,λJ Ha Hb s Ra wk=>?_⟩;have hs:ox (upd H p (.dK [])) Hb:=λb o e=>Ra.keep b o e (by simp);have R2:=R1.grow hs s Ra.sub Ra.fr;have g2:=g1.grow hs s Ra.fr;refine⟨λi m σ' H'=>m=L.length - i/\i<=L.length/\∃Hi ks dss bs s2,ox Ha Hi/\Sl.own s2=false/\oA G F σ' [.im (.lst L),.un,s2] Hi H'/\σ'[1]?=some (some (.ref p))/\Grp G F Hi H' p ks dss bs/\zO vk (L.drop i) ks dss=some (KS,DSS),
     ⟨_,rfl,bZ _,Ha,[],[],[],.un,ox.refl _,rfl,R2,v1,g2,eg⟩,?_⟩
    rintro i m σi Hi' ⟨rfl,hi,Hi,ks,dss,bs,s2,si,n2,Ri,vi,gi,ei⟩;by_cases hlt:i<L.length
    ·have ed:L.drop i=L[i]::L.drop (i+1):=jj hlt;rw[ed]at ei;unfold zO at ei;cases ev:vk L[i]with
     |none=>simp only[ev]at ei;cases ei
     |some x=>
      simp only[ev]at ei;cases ek:wU x with
      |none=>simp only[ek]at ei;cases ei
      |some kk=>
       simp only[ek]at ei;split at ei
       ·rename_i hb;simp only[aY,bu,bw]at hb;obtain⟨go,yl⟩:=(wk i Hi Hi' si Ri.sub).1 L[i] (aS hlt);refine .inr ⟨go,λσ' H'=>∃Hi ks dss bs s2,ox Ha Hi/\Sl.own s2=false/\oA G F σ' [.im (.lst L),.un,s2] Hi H'/\σ'[1]?=some (some (.ref p))/\Grp G F Hi H' p ks dss bs/\zO vk (L.drop (i+1)) ks dss=some (KS,DSS),
         λσ' H' q=>⟨L.length - (i+1),by omega,rfl,hlt,q⟩,λxv H' y=>?_⟩
        obtain⟨H2,t1,t2,t3,t4,t5⟩:=yl xv H' y;have hl3:σi.length=3:=Ri.len;have R3:oA G F (σi.set 2 (some xv)) [.im (.lst L),.un,.im L[i]] H2 H':=(Ri.grow t3 t1 t2 t4).setIm 2 t5;have w1:(σi.set 2 (some xv))[1]?=some (some (.ref p)):=by rw[jn (by decide)];exact vi
        have w2:(σi.set 2 (some xv))[2]?=some (some xv):=by rw[hJ (by rw[hl3];decide)]
        refine Mp R3 (Mq rfl) w1 w2 t5 (gi.grow t3 t1 t4) (by show c1 vk (cV 2) _=_;unfold c1 cV;simp only[lA,List.getElem?_cons_zero,ev]) ek hb.1 (λds hd=>hb.2 ds hd) λHc Hd bs' sc Rc gc=>?_;exact⟨Hc,_,_,bs',_,si.trans (t1.trans sc),rfl,Rc,w1,gc,ei⟩
       ·cases ei
    ·have hi':i=L.length:=by omega
     refine .inl ⟨(wk i Hi Hi' si Ri.sub).2 hi',?_⟩;subst hi';rw[List.drop_length]at ei;cases ei;refine⟨.ref p,vi,.inr ⟨p,_,gi.at_,λo=>?_⟩⟩;obtain⟨Hq,q1,q2,q3⟩:=Pw Ri gi o;exact k _ _ Hq _ (s.trans (si.trans q1)) q2 q3
  ·cases e
end
section
variable{X:Cx}{G:Bg}
theorem Px:∀y b,qb "int" y=some b->cH X.K (y.val G) (.type "int")=some b:=λy b h=>by
 cases y with
 |c k=>cases h
 |b n=>
  unfold qb at h;simp only at h
  iterate 7 (split at h;· rename_i e;subst e;cases h;first|rfl|kernel_rfl)
  cases h
theorem Mr:∀y b,qb "bool" y=some b->cH X.K (y.val G) (.type "bool")=some b:=λy b h=>by
 cases y with
 |c k=>cases h
 |b n=>
  unfold qb at h;simp only at h
  iterate 7 (split at h;· rename_i e;subst e;cases h;first|rfl|kernel_rfl)
  cases h
theorem kit_tuple:∀y b,qb "tuple" y=some b->cH X.K (y.val G) (.type "tuple")=some b:=λy b h=>by
 cases y with
 |c k=>cases h
 |b n=>
  unfold qb at h;simp only at h
  iterate 7 (split at h;· rename_i e;subst e;cases h;first|rfl|kernel_rfl)
  cases h
end
def hold(F:Fr)(p:Addr)(o:HO):Fr:=⟨F.B0,λb=>if b=p then some o else F.B b,F.A⟩
theorem A9{o:HO}:(hold F p o).B p=some o:=by show (if p=p then _ else _)=_;rw[aj rfl]
theorem xI{b:Addr}{o:HO}(h:b≠p):(hold F p o).B b=F.B b:=by show (if b=p then _ else _)=_;rw[ak h]
theorem yj.frame{G:Bg}{F':Fr}{H:Hp}{o:Option V}{s:Sl}(h:yj G F H0 H o s)(hA:F'.A=F.A)(hB:∀a,o=some (.ref a)->s.own=true->F.B a=none->F'.B a=none):yj G F' H0 H o s:=by
 cases s with
 |un=>trivial
 |im d=>exact h
 |ls ds=>obtain⟨a,xs,h1,h2,h3,h4,h5⟩:=h;exact⟨a,xs,h1,h2,h3,hB a h1 rfl h4,h5⟩
 |pm ds=>obtain⟨a,xs,h1,h2,h3,h4,h5⟩:=h;exact⟨a,xs,h1,h2,h3,by rw[hA];exact h4,h5⟩
 |dk ks ds=>obtain⟨a,xs,h1,h2,h3,h4,h5,h6⟩:=h;exact⟨a,xs,h1,h2,h3,hB a h1 rfl h4,h5,h6⟩
 |ob c ns ds=>obtain⟨a,dx,xs,h1,h2,h3,h4,h5,h6⟩:=h;exact⟨a,dx,xs,h1,h2,h3,by rw[hA];exact h4,h5,h6⟩
section
variable{X:Cx}{G:Bg}{F:Fr}{σ:St}{ρ:aV}{H0 H:Hp}{p:Addr}{o:HO}
theorem oA.hold(R:oA G F σ ρ H0 H)(hp:H p=none)(o:HO):oA G (L4.hold F p o) σ ρ H0 (upd H p o) where
 sub:=(R.newOwn hp o).sub
 g0:=R.g0
 keep:=λb u e n=>by
  by_cases hb:b=p
  ·subst hb;rw[A9]at e;rw[oq];exact e
  ·rw[xI hb]at e;exact(R.newOwn hp o).keep b u e n
 fr:=λb u e=>by
  have hb:b≠p:=λz=>by subst z;rw[R.h0none hp]at e;cases e
  rw[xI hb];exact R.fr b u e
 am:=(R.newOwn hp o).am
 len:=R.len
 sl:=λi s e=>by refine yj.frame ((R.newOwn hp o).sl i s e) rfl λa h1 so hB=>?_;obtain⟨a',u,q1,q2,_⟩:=(R.sl i s e).at so;rw[h1]at q1;cases q1;rw[xI (λz=>by subst z;rw[hp]at q2;cases q2)];exact hB
 ap:=R.ap
theorem oA.unhold(R:oA G (L4.hold F p o) σ ρ H0 H)(hB:F.B p=none):oA G F σ ρ H0 H where
 sub:=R.sub
 g0:=R.g0
 keep:=λb u e n=>R.keep b u (by rw[xI (λz=>by subst z;rw[hB]at e;cases e)];exact e) n
 fr:=λb u e=>by
  rcases R.fr b u e with z|z
  ·exact .inl z
  ·by_cases hb:b=p
   ·subst hb;exact .inr hB
   ·rw[xI hb]at z;exact .inr z
 am:=R.am
 len:=R.len
 sl:=λi s e=>yj.frame (R.sl i s e) rfl λa h1 so q=>by
  by_cases hb:a=p
  ·subst hb;exact hB
  ·rw[xI hb]at q;exact q
 ap:=R.ap
theorem oA.layHeld(R:oA G (L4.hold F p o) σ ρ H0 H)(hB:F.B p=none)(h0:H0 p=none)(nA:p∉F.A)(u:HO):oA G F σ ρ (upd H0 p u) (upd H p u) where
 sub:=λb v e=>by
  by_cases hb:b=p
  ·subst hb;rw[oq]at e ⊢;exact e
  ·rw[oo hb]at e ⊢;exact R.sub _ _ e
 g0:=(oA.unhold R hB).g0.trans (oI h0 u)
 keep:=λb v e n=>by rw[oo (λz=>by subst z;rw[hB]at e;cases e)];exact(oA.unhold R hB).keep b v e n
 fr:=λb v e=>by
  by_cases hb:b=p
  ·subst hb;exact .inr hB
  ·rw[oo hb]at e;exact(oA.unhold R hB).fr _ _ e
 am:=λb hb=>by
  have hb':b≠p:=λz=>by subst z;exact nA hb
  rw[oo hb'];exact R.am b hb
 len:=R.len
 sl:=λj t e=>by
  have ne:∀a,(σ[j]?).join=some (.ref a)->t.own=true->a≠p:=λa z to y=>by
   subst y;obtain⟨a',v,q1,_,_,q4⟩:=(R.sl j t e).at to;rw[z]at q1;cases q1;rcases q4 with q|q
   ·rw[A9]at q;cases q
   ·exact nA q
  refine((oA.unhold R hB).sl j t e).grow (oI h0 u) (λa v z to q=>?_) λa v z to q q0=>?_
  ·rw[oo (ne a z to)];exact q
  ·rw[oo (ne a z to)];exact q0
 ap:=R.ap
def sH:List (Str×FE)->aV->Option (aC×aV)
 |[],ρ=>some ([],ρ)
 |(_,f)::r,ρ=>match f ρ with
  |some (d,ρ1)=>match sH r ρ1 with
   |some (ds,ρ2)=>some (d::ds,ρ2)
   |none=>none
  |none=>none
def Ms(G:Bg)(kfs:List (Str×FE)):List (TE×TE):=kfs.map λq=>(tC (.str q.1),tF G q.2)
theorem FW:∀(kfs:List (Str×FE)) (ρ ρ':aV) (ds:aC) (H0 H:Hp) (Q:List (V×V)->Hp->Prop),oA G F σ ρ H0 H->sH kfs ρ=some (ds,ρ')->
  (∀vs H1 H1',ox H0 H1->oA G F σ ρ' H1 H1'->oi G H1 ds vs->Q (cW (λk v=>(V.str k,v)) (kfs.map (·.1)) vs) H1')->Ei (Ms G kfs) σ H Q
 |[],ρ,ρ',ds,H0,H,Q,R,e,k=>by cases e;exact k [] H0 H (ox.refl _) R o5
 |(x,f)::r,ρ,ρ',ds,H0,H,Q,R,e,k=>by
  unfold sH at e;cases e1:f ρ with
  |none=>simp only[e1]at e;cases e
  |some q=>
   obtain⟨d,ρ1⟩:=q;simp only[e1]at e;cases e2:sH r ρ1 with
   |none=>simp only[e2]at e;cases e
   |some q=>obtain⟨ds',ρ2⟩:=q;simp only[e2]at e;cases e;refine⟨F,ρ,H0,d,ρ1,R,e1,λv H1 H1' s R1 rv=>?_⟩;exact FW r ρ1 _ ds' H1 H1' _ R1 e2 λvs H2 H2' s2 R2 rs=>k (v::vs) H2 H2' (s.trans s2) R2 (oZ (Rep.mono s2 _ _ rv) rs)
theorem FX:∀(more acc:List (Key×V)),((acc++more).map (·.1)).Nodup->yi acc more=acc++more
 |[],acc,_=>by rw[bp];rfl
 |q::r,acc,h=>by
  have nq:(acc.any λkv=>decide (kv.1=q.1))=false:=by rw[ir];intro z;obtain⟨y,hy,ey⟩:=eB.mp z;rw[aT,bK]at h;exact h.2.2 y.1 (cp hy) q.1 (cp aW) (bz ey)
  have e:putK acc q.1 q.2=acc++[q]:=by unfold putK;rw[nq];rfl
  show yi (putK acc q.1 q.2) r=_;rw[e,FX r (acc++[q]) (by simpa using h)];simp
theorem Kb{H:Hp}{p:Addr}{x y:HO}:upd (upd H p x) p y=upd H p y:=by
 funext b
 by_cases hb:b=p
 ·subst hb;rw[oq,oq]
 ·rw[oo hb,oo hb,oo hb]
def Du(kfs:List (Str×FE)):FE:=λρ=>match sH kfs ρ with
 |some (ds,ρ')=>some (.dic (kfs.map λq=>Sum.inr q.1) ds,ρ')
 |none=>none
theorem BN:∀{kfs:List (Str×FE)} {ρ ρ':aV} {ds:aC},sH kfs ρ=some (ds,ρ')->ds.length=kfs.length
 |[],ρ,ρ',ds,e=>by cases e;rfl
 |(x,f)::r,ρ,ρ',ds,e=>by
  unfold sH at e;cases e1:f ρ with
  |none=>simp only[e1]at e;cases e
  |some q=>
   obtain⟨d,ρ1⟩:=q;simp only[e1]at e;cases e2:sH r ρ1 with
   |none=>simp only[e2]at e;cases e
   |some q=>obtain⟨ds',ρ2⟩:=q;simp only[e2]at e;cases e;rw[aI,aI,BN e2]
theorem FY:∀(ks:aE) (vs:bh),cW (λk v=>(V.str k,v)) ks vs=((ks.map λk=>(Sum.inr k:Key)).zip vs).map λkv=>(kV kv.1,kv.2)
 |[],vs=>rfl
 |k::ks,[]=>rfl
 |k::ks,v::vs=>by show (V.str k,v)::_=_;rw[FY ks vs];rfl
theorem Py{kfs:List (Str×FE)}(h:PE X e (QN (Ms G kfs)))(nd:(kfs.map λq=>(Sum.inr q.1:Key)).Nodup)(h15:kfs.length<=15):PE X e (tF G (Du kfs)):=PE.weak (PE.ghost h) λσ H Q hh=>by
 obtain⟨F,ρ,H0,d,ρ',R,e,k⟩:=hh;unfold Du at e;cases e1:sH kfs ρ with
 |none=>simp only[e1]at e;cases e
 |some q=>
  obtain⟨ds,ρ1⟩:=q;simp only[e1]at e;cases e;intro p hp;have hB:F.B p=none:=R.bNone hp;have nA:p∉F.A:=λz=>by obtain⟨u,q⟩:=R.am p z;rw[hp]at q;cases q
  refine FW kfs ρ _ ds H0 _ _ (oA.hold R hp (.dK [])) e1 λvs H1 H1' s R1 rs=>?_;have q0:H1' p=some (.dK []):=R1.keep p _ A9 nA;have h0:H1 p=none:=by
   cases q:H1 p with
   |none=>rfl
   |some u=>
    rcases R1.fr p u q with z|z
    ·have:=R.g0 _ _ z;rw[R.h0none hp]at this;cases this
    ·rw[A9]at z;cases z
  have lv:(kfs.map λq=>(Sum.inr q.1:Key)).length=vs.length:=by rw[ah,<- BN e1,om rs]
  have kn:(((kfs.map λq=>(Sum.inr q.1:Key)).zip vs).map (·.1))=kfs.map λq=>(Sum.inr q.1:Key):=mL (by rw[lv];exact aK _)
  refine⟨q0,(kfs.map λq=>(Sum.inr q.1:Key)).zip vs,?_,?_,.inr ⟨p,_,oq,λob=>?_⟩⟩
  ·rw[FY,aF];rfl
  ·rw[eZ,<- lv,fo,ah];exact h15
  ·rw[Kb,FX _ [] (by rw[bq,kn];exact nd),bq];refine k _ _ _ (s.trans (oI h0 _)) (oA.layHeld R1 hB h0 nA _) ?_;unfold Rep;exact⟨p,ob,vs,rfl,oq,lv,oi.mono (oI h0 _) _ _ rs⟩
end
def spL(G:Bg)(g:aC->aC->Option (D×aC)):Sp:=λvs H Q E=>∃(a:Addr) (us:bh),vs=us++[.ref a]/\spM G g (.ref a::us) H Q E
def stL(n:Nat)(es ds:aC):aV:=ds.map Sl.im++.pm es::f7 (n - ds.length - 1) .un
def Kc(i:Nat)(ρ:aV):Option aC:=match ρ[i]? with
 |some (.pm es)=>some es
 |_=>none
def fnL(np n:Nat)(f:FS):aC->aC->Option (D×aC):=λes ds=>if ds.length=np then match f (stL n es ds)with
 |some (.rt d ρ)=>match Kc np ρ with
  |some es'=>some (d,es')
  |none=>none
 |some (.rn xs ρ)=>match Kc np ρ with
  |some es'=>some (.lst xs,es')
  |none=>none
 |_=>none
 else none
theorem Dv{ρ:aV}{es:aC}(h:Kc i ρ=some es):ρ[i]?=some (.pm es):=by
 unfold Kc at h;split at h
 ·rename_i e;cases h;exact e
 ·cases h
theorem FZ{n:Nat}{f:FS}{es:aC}(h:fnL np n f es ds=some (d,es')):ds.length=np/\((∃ρ,f (stL n es ds)=some (.rt d ρ)/\ρ[np]?=some (.pm es'))\/∃xs ρ,f (stL n es ds)=some (.rn xs ρ)/\ρ[np]?=some (.pm es')/\d=.lst xs):=by
 unfold fnL at h;split at h
 ·rename_i hl;refine⟨hl,?_⟩;split at h
  ·rename_i x ρ e;cases e2:Kc np ρ with
   |none=>simp only[e2]at h;cases h
   |some q=>simp only[e2]at h;cases h;exact .inl ⟨ρ,e,Dv e2⟩
  ·rename_i x ρ e;cases e2:Kc np ρ with
   |none=>simp only[e2]at h;cases h
   |some q=>simp only[e2]at h;cases h;exact .inr ⟨x,ρ,e,Dv e2,rfl⟩
  ·cases h
 ·cases h
theorem Ew{n:Nat}{es:aC}{t:Sl}(h:(stL n es ds)[i]?=some t):(i=ds.length/\t=.pm es)\/t=.un\/∃d,ds[i]?=some d/\t=.im d:=by
 unfold stL at h;by_cases hi:i<ds.length
 ·rw[c7 (by simpa using hi),bc,aS hi]at h;cases h;exact .inr (.inr ⟨_,aS hi,rfl⟩)
 ·rw[c6 (by simpa using hi),ah]at h;cases q:i - ds.length with
  |zero=>rw[q]at h;cases h;exact .inl ⟨by omega,rfl⟩
  |succ m=>
   rw[q,lA,fM]at h;split at h
   ·cases h;exact .inr (.inl rfl)
   ·cases h
variable{N:aE}{E:XK}{es:List Expr}
section
variable{X:Cx}{G:Bg}
theorem Pz{us:bh}{es:aC}{H:Hp}(ha:H a=some (.lst xs))(h0:H0 a=none)(s:ox H0 H)(r1:oi G H0 es xs)(r:oi G H0 ds us)(hN:us.length+1<=N.length):oA G ⟨H0,H,[a]⟩ (L2.start N (us++[.ref a])) (stL N.length es ds) H0 H:={
  sub:=s
  g0:=ox.refl _
  keep:=λb o e _=>e
  fr:=λb o e=>.inl e
  am:=λb hb=>by rw[bx]at hb;subst hb;exact⟨_,ha⟩
  len:=by unfold L2.start stL;simp only[aJ,ah,cg,aI,f6];have:=om r;omega
  sl:=λi t e=>by
   rcases Ew e with ⟨rfl,rfl⟩|rfl|⟨d,e1,rfl⟩
   ·exact⟨a,xs,sG (by rw[om r,c6 (aK _),j6];rfl),ha,h0,bx.mpr rfl,r1⟩
   ·trivial
   ·obtain⟨v,e2,e3⟩:=qp r e1;exact⟨v,sG (by rw[c7 (bN.mp e2).1];exact e2),e3⟩
  ap:=λi j t u b hij ei ej ht hu=>by
   rcases Ew ei with ⟨rfl,rfl⟩|rfl|⟨_,_,rfl⟩
   ·rcases Ew ej with ⟨rfl,rfl⟩|rfl|⟨_,_,rfl⟩
    ·exact ao rfl hij
    ·cases hu
    ·cases hu
   ·cases ht
   ·cases ht }
theorem PB{f:FS}{H:Hp}{Q:VK}(hN:np+1<=N.length)(h:spL G (fnL np N.length f) vs H Q E):tFS G f { nx:=λ_ H'=>Q .non H',rt:=Q } (L2.start N vs) H:=by
 obtain⟨a,us,rfl,b,us',xs,H0,es,ds,d,es',e0,ha,h0,s,r1,r,e,k⟩:=h;cases e0;obtain⟨hl,e1⟩:=FZ e;have R:=Pz (N:=N) ha h0 s r1 r (by rw[<-om r,hl];exact hN);have fin:∀{v:V} {σ':St} {ρ':aV} {H0' H':Hp},ox H0 H0'->oA G ⟨H0,H,[a]⟩ σ' ρ' H0' H'->ρ'[np]?=some (.pm es')->Rep G H0' d v->Q v H':=λs' R' e2 rv=>by obtain⟨a',ys,q1,q2,q3,q4,q5⟩:=R'.sl np _ e2;have ea:a'=a:=bx.mp q4;subst ea;exact k _ ys _ _ s' R'.sub (λb o e n=>R'.keep b o e (λz=>n (bx.mp z))) R'.fr q3 q2 q5 rv
 rcases e1 with ⟨ρ,e1,e2⟩|⟨zs,ρ,e1,e2,rfl⟩
 ·exact⟨_,_,H0,_,R,e1,λv σ' H0' H' s' R' rv=>fin s' R' e2 rv,λ_=>rfl⟩
 ·refine⟨_,_,H0,_,R,e1,λp ys σ' H0' H' s' R' hp hp0 hb ap rs=>?_,λ_=>rfl⟩;exact fin (s'.trans (oI hp0 _)) (R'.freeze hp hp0 hb ap) e2 (sQ oq (oi.mono (oI hp0 _) _ _ rs))
theorem Wo{g:aC->aC->Option (D×aC)}(hg:∀es ds d,g es ds=some d->ds.length=np):∀vs H Q E,spL G g vs H Q E->vs.length=np+1:=λvs H Q E h=>by obtain⟨a,us,rfl,h⟩:=h;have:=QP hg _ _ _ _ h;rw[aJ];exact this
theorem PD{n:Nat}{f:FS}:∀es ds d,fnL np n f es ds=some d->ds.length=np:=λ_ _ d h=>(FZ (d:=d.1) (es':=d.2) h).1
def Ke(G:Bg)(i:Nat)(a:FA):TA:=λσ H Q=>∃F ρ H0 ds ρ' es,oA G F σ ρ H0 H/\a ρ=some (ds,ρ')/\qH ρ' i=some es/\∀xs b H0' H',ox H0 H0'->oA G F σ ρ' H0' H'->oi G H0' ds xs->σ[i]?=some (some (.ref b))->Q (xs++[.ref b]) H'
theorem Mt(hv:PE X e (uN i))(hs:starEach [e] X.env=[(false,eval e X.env)]:=by rfl):PA X [e] (Ke G i oF):=PA.weak (qS hv uO hs) λσ H Q hh=>by obtain⟨F,ρ,H0,ds,ρ',es,R,e,el,k⟩:=hh;cases e;obtain⟨b,xs,s1,_⟩:=rX R el;exact⟨.ref b,s1,k [] b _ _ (ox.refl _) R o5 s1⟩
theorem Kg{g:FA}(ha:PE X e (tF G f))(hr:PA X es (Ke G i g))(hs:starEach (e::es) X.env=(false,eval e X.env)::starEach es X.env:=by rfl):PA X (e::es) (Ke G i (n4 f g)):=PA.weak (qS ha hr hs) λσ H Q hh=>by obtain⟨F,ρ,H0,d,ρ',es,R,e,el,k⟩:=hh;obtain⟨x,r,ρ1,e1,e2,rfl⟩:=BA e;exact⟨F,ρ,H0,x,ρ1,R,e1,λv H1 H1' s R' rv=>⟨F,ρ1,H1,r,ρ',es,R',e2,el,λxs b H2 H2' s2 R2 rs sb=>k _ _ _ _ (s.trans s2) R2 (oZ (Rep.mono s2 _ _ rv) rs) sb⟩⟩
def BO(g:aC->aC->Option (D×aC))(i:Nat)(a:FA):FE:=λρ=>match a ρ with
 |some (ds,ρ1)=>match qH ρ1 i with
  |some es=>match g es ds with
   |some (d,es')=>some (d,putAt ρ1 i es')
   |none=>none
  |none=>none
 |none=>none
theorem PF{g:aC->aC->Option (D×aC)}{a:FA}(h:PE X e (xP (spL G g) [] E (Ke G i a))):PE X e (tF G (BO g i a)):=PE.weak h λσ H Q hh=>by
 obtain⟨F,ρ,H0,d,ρ',R,e,k⟩:=hh;unfold BO at e;rcases oP (f:=a) (ρ:=ρ)with e1|⟨ds,ρ1,e1⟩<;>simp only[e1]at e
 ·cases e
 ·cases e2:qH ρ1 i with
  |none=>simp only[e2]at e;cases e
  |some es=>
   simp only[e2]at e;cases e3:g es ds with
   |none=>simp only[e3]at e;cases e
   |some q=>obtain⟨d1,es'⟩:=q;simp only[e3]at e;cases e;refine⟨F,ρ,H0,ds,ρ1,es,R,e1,e2,λys b H1 H1' s R' rs sb=>?_⟩;obtain⟨s,es0,es1⟩:=rL e2;obtain⟨b',xs',t1,t2,t3,t4⟩:=(R'.sl i s es0).lst es1;rw[qG t1]at sb;cases sb;refine⟨b,ys,bp _,b,ys,xs',H1,es,ds,d,es',rfl,t2,t3,R'.sub,t4,rs,e3,λv zs H2 H2' u1 u2 u3 fr w0 w1 w2 w3=>?_⟩;refine k _ _ _ (ox.trans ‹ox H0 H1› u1) ?_ w3;unfold putAt;rw[es0];exact R'.call1 es0 es1 t1 u1 u2 u3 fr w0 w1 w2
theorem PH{k:Nat}{x:Str}{p:Pos}{a:FA}{ps:aE}{g:aC->aC->Option (D×aC)}(D:vd X.prog X.w X.K X.mg X.base k x ps (spL G g))(hr:qc k X.A)(ha:PA X (e::es) (Ke G i a))(hg:Gl X x:=by rfl)(hdb:(x==("__debug__" : Str))=false:=by decide)(he:starEach (e::es) X.env=(false,eval e X.env)::starEach es X.env:=by rfl)(hpl:(backTo pos (starEach es X.env)).any (·.1)=false:=by rfl):
  PE X (.Call (.Name x p) (e::es) [] pos) (tF G (BO g i a)):=by
 obtain⟨f,fd,h1,h2,h3,h4⟩:=D;exact PF (yK (p:=p) (pos:=pos) h4 hr hg h1 h2 h3 .nil Ad ha hdb he hpl)
end
section
variable{P:aD}{w:aw}{K:ar}{mg:Str->Option aa}{base:Heap}{x qual:Str}{st:Stmt}{f T:Addr}{fd:bD}{N ps:aE}{k:Nat}{G:Bg}
theorem Wp{n:Nat}{g:aC->aC->Option (D×aC)}{b:FS}(hg:g=fnL np n b)(hp:ps.length=np+1)(hN:N.length=n)(F:Fun K x qual st f fd)(S:pY N ps (oE st))(body:∀(cdv:aa) (A:aH) (outer:List Env) (s:af) (H:Hp) (E:XK),qc k (A.deeper (envOfC qual (oE st) s.heap.objs.size f cdv))->PSs (ve P w K mg base N qual st f cdv A outer s H E) (o8 st) (tFS G b)):
  sE P w K mg base CX0 (k+1) f fd ps (spL G g):=by
 subst hg hN;refine F.ok S (λvs H Q E h=>?_) λcdv A outer s H vs Q E hr h=>⟨_,body cdv A outer s H E hr,PB (by have:=aP bL S.pre;rw[bH]at this;omega) h⟩;rw[hp];exact Wo PD vs H Q E h
end
end L4
namespace L4
open PySem PySem.Spec PySem.Calls PyProof.Rows PySem.W L2 L3
def Kh{α:Type}(c:Nat->Nat->Bool):KasT α->α
 |.ret a=>a
 |.ask i j k=>Kh c (k (c i j))
def sI{α:Type}(P:Nat->Nat->Prop)(R:α->Prop):KasT α->Prop
 |.ret a=>R a
 |.ask i j k=>P i j/\∀b,sI P R (k b)
theorem sI.run{α:Type}{P:Nat->Nat->Prop}{R:α->Prop}(c:Nat->Nat->Bool):∀(t:KasT α),sI P R t->R (Kh c t)
 |.ret a,h=>h
 |.ask i j k,h=>sI.run c (k (c i j)) (h.2 (c i j))
theorem sI.bind{α β:Type}{P:Nat->Nat->Prop}{R:α->Prop}{S:β->Prop}{f:α->KasT β}(hf:∀a,R a->sI P S (f a)):∀{t:KasT α},sI P R t->sI P S (t.bind f)
 |.ret a,h=>hf a h
 |.ask i j k,h=>⟨h.1,λb=>sI.bind hf (h.2 b)⟩
theorem IR{α:Type}{cmp:Nat->Nat->(Bool->af->Prop)->af->Prop}{c:Nat->Nat->Bool}{P:Nat->Nat->Prop}{s:af}{Q:α->af->Prop}(hc:∀i j C,P i j->C (c i j) s->cmp i j C s):
  ∀{R:α->Prop} {t:KasT α},sI P R t->Q (Kh c t) s->t.kasWp cmp Q s
 |R,.ret a,_,q=>q
 |R,.ask i j k,h,q=>hc i j _ h.1 (IR hc (h.2 (c i j)) q)
def qT(n:Nat)(p:Array Nat):Prop:=p.toList.Perm (br n)
theorem qT.getD{n:Nat}{p:Array Nat}(h:qT n p)(hn:0<n)(i:Nat):p.getD i 0<n:=by
 unfold Array.getD;split
 ·rename_i hi;have:p[i]∈p.toList:=by simp
  exact bY.mp (h.mem_iff.mp this)
 ·exact hn
theorem qT.rev{n:Nat}{p:Array Nat}(h:qT n p)(i j:Nat):qT n (kas_rev p i j):=by unfold qT kas_rev mirror;exact(lj.mp (foldl_swaps_perm _ _ _ _)).trans h
theorem qT.bub{n:Nat}{p:Array Nat}(h:qT n p)(i j:Nat):qT n (bubble p i j):=(lj.mp (bubble_perm _ _ _)).trans h
abbrev In2(n:Nat):Nat->Nat->Prop:=λi j=>i<n/\j<n
theorem Ex{n:Nat}(hn:0<n){p:Array Nat}(h:qT n p):∀f k,sI (In2 n) (λ_=>True) (kas_asc p f k)
 |0,k=>trivial
 |f+1,k=>⟨⟨h.getD hn _,h.getD hn _⟩,λb=>by cases b<;>first|exact trivial|exact Ex hn h f (k+1)⟩
theorem yY{n:Nat}(hn:0<n):∀f (p:Array Nat) k q,qT n p->sI (In2 n) (λr=>qT n r.1) (kas_desc f p k q)
 |0,p,k,q,h=>h
 |f+1,p,k,q,h=>⟨⟨h.getD hn _,h.getD hn _⟩,λb=>by
   cases b with
   |true=>
    show sI _ _ (if q > 0 then _ else _);split
    ·exact yY hn f _ _ _ (h.rev _ _)
    ·exact yY hn f _ _ _ h
   |false=>
    refine⟨⟨h.getD hn _,h.getD hn _⟩,λd=>?_⟩;cases d with
    |true=>exact h
    |false=>exact yY hn f _ _ _ h⟩
theorem F0{n:Nat}(hn:0<n){p:Array Nat}(h:qT n p)(k m:Nat):sI (In2 n) (λr=>qT n r.2) (kas_tail3 k m p):=
 sI.bind (P:=In2 n) (R:=λ_=>True) (S:=λ(r:Nat×Array Nat)=>qT n r.2) (f:=λm=>.ret (m,kas_rev p 0 k)) (λa _=>h.rev 0 k) (Ex hn (h.rev 0 k) _ _)
theorem yZ{n:Nat}(hn:0<n){p:Array Nat}(h:qT n p)(k m:Nat):sI (In2 n) (λr=>qT n r.2) (kas_descPart k m p):=
 sI.bind (λr hr=>by
  show sI _ _ (if r.2.2 > 0 then _ else _);split
  ·exact F0 hn (hr.rev _ _) _ _
  ·exact F0 hn hr _ _) (yY hn _ p _ _ h)
theorem Ki{n:Nat}(hn:0<n){p:Array Nat}(h:qT n p)(m:Nat):sI (In2 n) (λr=>qT n r.2) (kas_count m p):=
 sI.bind (λk _=>by
  show sI _ _ (if (k==m)=true then _ else _);split
  ·exact h
  ·split
   ·refine⟨⟨h.getD hn _,h.getD hn _⟩,λb=>?_⟩;cases b with
    |true=>exact h
    |false=>exact yZ hn (h.rev _ _) _ _
   ·exact yZ hn h _ _) (Ex hn h _ _)
theorem zP{n:Nat}(hn:0<n){p:Array Nat}(h:qT n p)(k:Nat):∀f l r,sI (In2 n) (λ_=>True) (kas_place p k f l r)
 |0,l,r=>trivial
 |f+1,l,r=>by
  unfold kas_place;split
  ·trivial
  ·refine⟨⟨h.getD hn _,h.getD hn _⟩,λb=>?_⟩;cases b with
   |true=>exact zP hn h k f _ _
   |false=>exact zP hn h k f _ _
theorem IS{n:Nat}(hn:0<n):∀f (p:Array Nat) k,qT n p->sI (In2 n) (qT n) (kas_bin f p k)
 |0,p,k,h=>h
 |f+1,p,k,h=>sI.bind (λl _=>IS hn f _ _ (h.bub _ _)) (zP hn h k _ _ _)
theorem BP{n:Nat}(hn:0<n):sI (In2 n) (qT n) (iU n):=
 sI.bind (λr hr=>by
  show sI _ _ (if r.1<n then _ else _);split
  ·exact IS hn _ _ _ hr
  ·exact hr) (Ki hn (p:=List.toArray (br n)) (by unfold qT;exact m8 _) n)
def y3(a:Addr)(h h':Heap):Prop:=∀b o,b≠a->h.get? b=some o->h'.get? b=some o
variable{a:Addr}
section
variable{prog:aD}{w:aw}{A:aH}{E:aa->af->Prop}{s:af}
def zQ(c:Nat->Nat->Bool)(vs:List aa):List aa:=(Kh c (iU vs.length)).toList.map λi=>vs.getD i Value.none
theorem Mu(c:Nat->Nat->Bool)(vs:List aa)(h:0<vs.length):(zQ c vs).length=vs.length:=by unfold zQ;rw[ah];have:=(BP h).run c _;rw[this.length_eq,fW]
theorem Mv(c:Nat->Nat->Bool)(v:aa):zQ c [v]=[v]:=rfl
theorem Mw{vs:List aa}{n:Nat}{P:PySem.Fin->af->Prop}{κ:gx}{c:Nat->Nat->Bool}(ho:s.heap.get? a=some (seqObj "list" vs.toArray n))(h1:0<vs.length)(h64:vs.length<64)
  (hk:∀(h':Heap) (C:gx->af->Prop),y3 a s.heap h'->C κ { s with heap:=h' }->wpAny (model prog w) A (keyKind' vs.toArray) C (λ_ _=>False) { s with heap:=h' })
  (hc:∀(h':Heap) (i j:Nat) (C:Bool->af->Prop),y3 a s.heap h'->i<vs.length/\j<vs.length->C (c i j) { s with heap:=h' }->iV prog w A κ vs i j C { s with heap:=h' })
  (h:∀h' e,y3 a s.heap h'->h'.get? a=some (seqObj "list" (zQ c vs).toArray e)->P (.done (.ret .none)) { s with heap:=h' }):
  wpAny (model prog w) A (di.«list.sort» ⟨[.ref a],[]⟩) P E s:=by
 have ha:a<s.heap.objs.size:=aM ho;obtain⟨e1,o1⟩:∃e1,(s.heap.update a (cK λ_=>(#[]:Array aa))).get? a=some (seqObj "list" #[] e1):=⟨_,get?_update_seq ho λ_=>#[]⟩;generalize hw:((s.heap.update a (cK λ_=>(#[]:Array aa))).push (seqObj "tuple" vs.toArray 0)).push (seqObj "list" #[] 0)=h3;have kb:y3 a s.heap h3:=λb o hb q=>by rw[<-hw];exact aG _ (aG _ ((fO s.heap _ (cM hb)).trans q))
 have o3:h3.get? a=some (seqObj "list" #[] e1):=by rw[<-hw];exact aG _ (aG _ o1)
 rw[list_sort_plain];refine ai (listItems_at ho rfl (ai (jR ho rfl ?_ (by rw[aX,bC];omega) (bZ _))));refine ai (km o1 rfl (ai (wpAny_newTuple ?_ (by show vs.length<=_;rw[bC];omega))));refine ai (jS (cE ?_) (bZ _));show wpAny (model prog w) A _ P E { s with heap:=((s.heap.update a (cK λ_=>(#[]:Array aa))).push (seqObj "tuple" vs.toArray 0)).push (seqObj "list" #[] 0) };rw[hw];dsimp only;obtain⟨c2,hc2⟩:∃c2,(h3.update a (cK λ_=>(zQ c vs).toArray)).get? a=some (seqObj "list" (zQ c vs).toArray c2):=⟨_,get?_update_seq o3 λ_=>(zQ c vs).toArray⟩;have fin:=h _ c2 (λb o hb q=>(fO h3 _ (cM hb)).trans (kb b o hb q)) hc2;have szo:(zQ c vs).toArray.size<=sizeLine+1:=by rw[aX,Mu c vs h1,bC];omega
 by_cases h2:2<=vs.length
 ·have hn2:¬vs.toArray.size<2:=by rw[aX];omega
  rw[ak hn2,ak hn2];refine ai (bM (hk h3 (λk s'=>k=κ/\s'={ s with heap:=h3 }) kb ⟨rfl,rfl⟩) ?_ λ_ _ x=>x.elim);rintro k s' ⟨rfl,rfl⟩;refine ai (bM (kat_run (Q:=λst' s'=>s'={ s with heap:=h3 }/\(arrOf st').map (·.2)=(zQ c vs).toArray/\failedOf st'=none) (G:=λp s'=>p=Kh c (iU vs.length)/\s'={ s with heap:=h3 }) rfl h2 h64 ?_ ?_) ?_ λ_ _ e=>e)
  ·rintro p st' s' _ har hf ⟨rfl,rfl⟩;exact⟨rfl,kat_snds rfl har,hf⟩
  ·exact IR (P:=In2 vs.length) (λi j C q r=>hc h3 i j C kb q r) (BP h1) ⟨rfl,rfl⟩
  ·rintro⟨⟨⟩,st'⟩ s' ⟨rfl,ha2,hf⟩;dsimp only;refine ai (km o3 rfl ?_);rw[ha2,hf];refine ai (jR o3 rfl ?_ (bZ _) szo);simp only[bne_self_eq_false,ee,if_false];exact aB fin
 ·obtain⟨v,rfl⟩:∃v,vs=[v]:=by
   cases vs with
   |nil=>cases h1
   |cons v r=>
    cases r with
    |nil=>exact⟨v,rfl⟩
    |cons x y=>exact ao (by simp) h2
  refine ai (aB ?_);refine ai (aB ?_);refine ai (km o3 rfl ?_);have eo:Array.map (λx=>x.snd) (arrOf ((),SortSt.mk' general' (#[v].zip #[v]) #[] 7 none).snd)=(zQ c [v]).toArray:=by rw[Mv];show Array.map (λx=>x.snd) (#[v].zip #[v])=#[v];simp
  rw[eo];refine ai (jR o3 rfl ?_ (bZ _) szo);simp only[bne_self_eq_false,ee,if_false];exact aB fin
theorem Hl{l:Addr}{T:String}{o:Obj}{n:Nat}{vs:List aa}{Q:aa->af->Prop}{κ:gx}{c:Nat->Nat->Bool}(hT:T="list" \/ T="tuple")(ho:s.heap.get? l=some o)(hcl:o.cls=.type T)(hd:o.data=.seq vs.toArray n)(h1:0<vs.length)(h64:vs.length<64)
  (hk:∀(h':Heap) (C:gx->af->Prop),(∀b o,s.heap.get? b=some o->h'.get? b=some o)->C κ { s with heap:=h' }->wpAny (model prog w) A.in1.in1 (keyKind' vs.toArray) C (λ_ _=>False) { s with heap:=h' })
  (hc:∀(h':Heap) (i j:Nat) (C:Bool->af->Prop),(∀b o,s.heap.get? b=some o->h'.get? b=some o)->i<vs.length/\j<vs.length->C (c i j) { s with heap:=h' }->iV prog w A.in1.in1 κ vs i j C { s with heap:=h' })
  (h:∀(g h':Heap) e,(∀b o,s.heap.get? b=some o->g.get? b=some o)->(∀b o,g.get? b=some o->h'.get? b=some o)->h'.get? g.objs.size=some (seqObj "list" (zQ c vs).toArray e)->Q (.ref g.objs.size) { s with heap:=h' }):
  wpAny (model prog w) A (call (.builtin "sorted") [.ref l]) Q E s:=by
 refine lq kind_sorted plain_sorted entry_sorted (args_sorted1 _) ?_;unfold di.«sorted»;refine ai (m:=checkCount "sorted" 1 1 _) (aB (ai (wpAny_collect_seq l hT ho hcl hd (λg gk=>?_) (by rw[bC];simp;omega))));refine ai (jS ?_ (by rw[bC];simp;omega));show wpAny _ _ _ _ _ { s with heap:=g.push (seqObj "list" vs.toArray 0) };have on:(g.push (seqObj "list" vs.toArray 0)).get? g.objs.size=some (seqObj "list" vs.toArray 0):=ba _ rfl;have all:∀h',y3 g.objs.size (g.push (seqObj "list" vs.toArray 0)) h'->∀b o,g.get? b=some o->h'.get? b=some o:=λh' kb b o q=>kb b o (aU (aM q)) (aG _ q)
 show wpAny _ _ (do let _<-holding [Value.ref g.objs.size] _;_) _ _ _;refine ai (cE (eX slot_list_sort ⟨_,on,rfl⟩ entry_list_sort ?_ (args_list_sort _)));refine Mw (s:={ s with heap:=g.push (seqObj "list" vs.toArray 0) }) on h1 h64 (λh' C kb q=>hk h' C (λb o z=>all h' kb b o (gk b o z)) q) (λh' i j C kb q r=>hc h' i j C (λb o z=>all h' kb b o (gk b o z)) q r) λh' e kb q=>?_;exact⟨_,rfl,aB ⟨_,rfl,h g h' e gk (all h' kb) q⟩⟩
end
def ltS(a b:Str):Bool:=decide (a.cps.toList<b.cps.toList)
def AW:aE->aE->Bool
 |[],[]=>false
 |[],_::_=>true
 |_::_,[]=>false
 |x::xs,y::ys=>if x=y then AW xs ys else ltS x y
inductive uB:List aa->aE->Prop
 |nil:uB [] []
 |cons (x:Str) (t:Tok) {vs:List aa} {xs:aE} (h:uB vs xs):uB (.str x t::vs) (x::xs)
def F1(c:Nat->Nat->Bool)(n:Nat):List Nat:=(Kh c (iU n)).toList
theorem zR(c:Nat->Nat->Bool){n:Nat}(h:0<n):(F1 c n).Perm (br n):=(BP h).run c _
theorem Ba(c:Nat->Nat->Bool){n:Nat}(h:0<n):∀i∈F1 c n,i<n:=λi hi=>bY.mp ((zR c h).mem_iff.mp hi)
theorem Dw{xs:bh}{us:List aa}(r:Vals xs us):∀(is:List Nat),(∀i∈is,i<xs.length)->Vals (is.map λi=>xs.getD i V.non) (is.map λi=>us.getD i Value.none)
 |[],_=>.nil
 |i::is,h=>by have hi:=h i (.head _);obtain⟨u,e,ru⟩:=r.get (aS hi);refine .cons ?_ (Dw r is λj hj=>h j (.tail _ hj));show RelV (xs.getD i V.non) (us.getD i Value.none);rw[cB,cB,e,aS hi];exact ru
section
variable{X:Cx}{G:Bg}{pins:bW}{σ:St}{H:Hp}{s:af}
theorem seq_val{pins:bW}{s:af}{σ:St}{H:Hp}{ys:bh}(I:Inv X pins σ H s)(hq:SqL X.K H a ys\/SqT X.K H a ys):∃its,Vals ys its/\∃T o n,(T="list" \/ T="tuple")/\s.heap.get? a=some o/\o.cls=.type T/\o.data=.seq its.toArray n:=by
 rcases hq with hq|hq
 ·obtain⟨its,ri,pl,_⟩:=I.list hq;obtain⟨o,a1,a2,n,a3⟩:=pl.isList;exact⟨its,ri,_,o,n,.inl rfl,a1,a2,a3⟩
 ·obtain⟨its,ri,⟨o,a1,a2,n,a3⟩,_⟩:=I.tuple hq;exact⟨its,ri,_,o,n,.inr rfl,a1,a2,a3⟩
def xW:aC->Option aE
 |[]=>some []
 |.str x::ds=>match xW ds with
  |some xs=>some (x::xs)
  |none=>none
 |_=>none
theorem yu:∀{ds:aC} {xs:bh} {l:aE},oi G H ds xs->xW ds=some l->xs=l.map V.str
 |[],xs,l,r,e=>by cases e;unfold oi at r;exact r
 |d::ds,xs,l,r,e=>by
  cases d with
  |str x=>
   unfold xW at e;cases e1:xW ds with
   |none=>rw[e1]at e;cases e
   |some l'=>rw[e1]at e;cases e;unfold oi at r;obtain⟨v,r',rfl,h1,h2⟩:=r;unfold Rep at h1;subst h1;rw[yu h2 e1,ay]
  |_=>cases e
theorem Dx{ds:aC}{xs:bh}(r:oi G H ds xs):∀(is:List Nat),(∀i∈is,i<ds.length)->oi G H (is.map λi=>ds.getD i .non) (is.map λi=>xs.getD i V.non)
 |[],_=>o5
 |i::is,h=>by have hi:=h i (.head _);obtain⟨v,e,rv⟩:=qp r (aS hi);refine oZ ?_ (Dx r is λj hj=>h j (.tail _ hj));show Rep G H (ds.getD i .non) (xs.getD i V.non);rw[cB,cB,e,aS hi];exact rv
end
end L4
namespace L4
open PySem PySem.Spec PyProof.Rows L2 L3
section
variable{X:Cx}{G:Bg}
theorem PJ:OpD G (λx y H Q=>∃z n,x=.str z/\y=.int n/\MulOk z n/\Q (.str (gA z n)) H) FK:=λx y z H0 H v u Q e s rx ry k=>by
 unfold FK at e;split at e
 ·rename_i a n;split at e
  ·rename_i hl;obtain⟨h0,h1,h2⟩:=hl;cases e;unfold Rep at rx ry;refine⟨a,n,rx,ry,⟨?_,λh3 h4 h5=>?_,λh3 h4=>?_⟩,k _ λ_ _=>vL _⟩
   ·rw[jq];exact⟨aR (by omega),aR (by omega)⟩
   ·have hn:(0:Int)<n:=by omega
    have q:(9223372036854775807:Int) / n >= 9223372036854775:=by have:=Int.le_ediv_of_mul_le (a:=9223372036854775) (b:=9223372036854775807) hn (by omega);exact this
    have:((2:Int) ^ 63 - 1)=9223372036854775807:=by decide
    rw[this]at h5;omega
   ·have hn:n.toNat<=1000:=by omega
    have:a.length * n.toNat<=100 * 1000:=Nat.mul_le_mul h2 hn;refine aR ?_;rw[bC];omega
  ·cases e
 ·cases e
theorem PK{a b:Expr}{f f':FE}{pos:Pos}(hu:X.A.units+1<cLine)(ha:PE X a (tF G f))(hb:PE X b (tF G f'))(h1:behindInMarks .In b=false:=by rfl):PT X (.Compare a [.In] [b] pos) (tFT G (cT (c2 (Es false) f f'))):=PT.weak (Q8 (RM hu ha hb) h1) λσ H Q hh=>SM σ H _ (Ek σ H Q hh)
end
def IT:List String:=["NoneType", "bool", "int", "str", "tuple", "list", "dict"]
def Dy(n c:Nat):Ty->Option Bool:=λy=>match y with
 |.b x=>if IT.contains x=true then some false else none
 |.c k=>if k<n then some (k==c)else none
def Bb(K:ar)(cs:List Addr)(C:Addr)(c:Nat):Bool:=
 IT.all (λx=>cH K (.type x) (.ref C)==some false)&&(br cs.length).all λk=>cH K (.ref (cs.getD k 0)) (.ref C)==some (k==c)
theorem DA{B:Bg}{n c:Nat}{cs:List Addr}(h:Bb B.K cs (B.ca c) c=true)(hn:cs.length=n)(hc:∀k,k<n->cs.getD k 0=B.ca k)(hI:∀k,k<n->JY B.K (B.ca k)):G6 B c (Dy n c):=by
 unfold Bb at h;rw[aY,bw,bw]at h;refine⟨λy b e=>?_,λj b e=>?_⟩
 ·cases y with
  |b x=>
   unfold Dy at e;simp only at e;split at e
   ·rename_i hx;cases e;exact gv (h.1 x (lK.mp hx))
   ·cases e
  |c k=>
   unfold Dy at e;simp only at e;split at e
   ·rename_i hk;cases e;have:=gv (h.2 k (bY.mpr (by omega)));rw[hc k hk]at this;exact this
   ·cases e
 ·unfold Dy at e;simp only at e;split at e
  ·rename_i hk;exact hI j hk
  ·cases e
theorem S4{l:List Addr}(h:l.Nodup){j k:Nat}(hj:j<l.length)(hk:k<l.length)(e:l.getD j 0=l.getD k 0):j=k:=by
 rw[cB,cB,aS hj,aS hk]at e;have pw:=List.pairwise_iff_getElem.mp h;rcases Nat.lt_trichotomy j k with y|y|y
 ·exact ao e (pw j k hj hk y)
 ·exact y
 ·exact ao e.symm (pw k j hk hj y)
section
variable{B:Bg}{K:ar}{mg:Str->Option aa}{h:Heap}
theorem const_int{x:Str}{i:Int}{t:Tok}(X:K.In h)(Gn:h.Ns mainGlobals mg)(e:fC K mainGlobals x=some (some (.int i t))):xG B mg x (.int i):=
 ⟨.int i,_,iW X Gn e,⟨_,rfl⟩,λ_=>rf _⟩
inductive vQ:List aa->aE->Prop
 |nil:vQ [] []
 |cons {v:aa} {x:Str} {t:Tok} {vs:List aa} {xs:aE} (e:v=.str x t) (h:vQ vs xs):vQ (v::vs) (x::xs)
theorem vQ.vals{vs:List aa}{xs:aE}(h:vQ vs xs):Vals (xs.map V.str) vs:=by
 induction h with
 |nil=>exact .nil
 |cons e h ih=>exact .cons ⟨_,e⟩ ih
theorem BQ{H:Hp}:∀xs:aE,oi B H (xs.map D.str) (xs.map V.str)
 |[]=>o5
 |x::xs=>oZ (vL x) (BQ xs)
theorem Hm{x:Str}{a:Addr}{o:Obj}{its:Array aa}{n:Nat}(xs:aE)(X:B.K.In h)(Gn:h.Ns mainGlobals mg)(e:fC B.K mainGlobals x=some (some (.ref a)))(l:B.K.lookup a=some o)(hc:o.cls=.type "tuple")(hd:o.data=.seq its n)(hz:its.size<=1000)
  (r:vQ its.toList xs):xG B mg x (.tup (xs.map D.str)):=
 ⟨.ref a,_,iW X Gn e,rfl,λH=>xF (.inr ⟨o,its,n,l,hc,hd,by rw[bC];omega,r.vals⟩) (BQ xs)⟩
end
variable{ns:aE}{np:Nat}
section
variable{f g' h:FS}{c:FT}{e e' e2:FE}{a a':FA}{ρ ρ' ρ1 ρ2 ρ3:aV}{d x y z:D}{ds xs ys:aC}{k:Nat}{cap:List Nat}{g:FG}{ft:FT}{fe:FE}
theorem BR{α:Type}(dd:α->D)(p:α->Bool)(h:α->D):∀l:List α,
  (∀a∈l,∃ρ1 ρ2,g (dd a) (xM k cap ρ)=some ρ1/\ft ρ1=some (p a,ρ2)/\(p a=true->∃ρ3,fe ρ2=some (h a,ρ3)/\rl cap (ρ3.drop k) ρ=some ρ)/\(p a=false->rl cap (ρ2.drop k) ρ=some ρ))->
  sA k cap g ft fe (l.map dd) ρ=some ((l.filter p).map h,ρ)
 |[],_=>rfl
 |a::l,st=>by
  obtain⟨ρ1,ρ2,h1,h2,h3,h4⟩:=st a aW;have ih:=BR dd p h l λa' ha=>st a' (bj _ ha);rw[ay];unfold sA;rw[h1];simp only[h2];cases hp:p a with
  |true=>obtain⟨ρ3,h5,h6⟩:=h3 hp;simp only[h5,h6,ih,bX,hp,if_true,ay]
  |false=>simp only[h4 hp,ih,bX,hp];rfl
theorem PL{α:Type}(dd:α->D)(h:α->D)(l:List α)(st:∀a∈l,∃ρ1 ρ3,g (dd a) (xM k cap ρ)=some ρ1/\fe ρ1=some (h a,ρ3)/\rl cap (ρ3.drop k) ρ=some ρ):sA k cap g pM fe (l.map dd) ρ=some (l.map h,ρ):=by have:=BR (ft:=pM) dd (λ_=>true) h l λa ha=>let ⟨ρ1,ρ3,h1,h2,h3⟩:=st a ha;⟨ρ1,ρ1,h1,rfl,λ_=>⟨ρ3,h2,h3⟩,λz=>by cases z⟩;rw[this,ju.mpr λ_ _=>rfl]
theorem se(neg:Bool)(a b:Str):dEq neg (.str a) (.str b)=some (.bl (if neg then !decide (a=b)else decide (a=b))):=by
 have e:BH neg (.str a) (.str b)=some (.bl (if neg then !decide (V.str a=V.str b)else decide (V.str a=V.str b))):=rfl;have e2:decide (V.str a=V.str b)=decide (a=b):=by
  by_cases h:a=b
  ·subst h;simp
  ·rw[aR h,aR (λz=>h (by injection z))]
 unfold dEq;rw[e,e2]
theorem Mx(a:Str)(l:aE):inV (V.str a) (l.map V.str)=decide (a∈l):=by
 unfold inV;rw[cD,eB,bu];constructor
 ·rintro⟨v,hv,he⟩;obtain⟨b,hb,rfl⟩:=av.mp hv;have:b=a:=by unfold eqV at he;simpa using he
  rw[<-this];exact hb
 ·intro ha;refine⟨.str a,cp ha,?_⟩;unfold eqV;simp
theorem Kj(l:aE):(l.map D.str).all qI=true:=by rw[nE,bw];intro x _;rfl
theorem PM(l:aE):(l.map D.str).map vD=l.map V.str:=by rw[aF];rfl
theorem rD(neg:Bool)(a:Str)(l:aE):dIn neg (.str a) (.lst (l.map D.str))=some (.bl (if neg then !decide (a∈l)else decide (a∈l))):=by unfold dIn;show (if qI (.str a)&&(l.map D.str).all qI then some (D.bl (if neg then !inV (vD (.str a)) ((l.map D.str).map vD)else inV (vD (.str a)) ((l.map D.str).map vD)))else none)=_;rw[Kj,PM];show some (D.bl (if neg then !inV (V.str a) (l.map V.str)else inV (V.str a) (l.map V.str)))=_;rw[Mx]
theorem F2(neg:Bool)(a:Str)(l:aE):dIn neg (.str a) (.tup (l.map D.str))=some (.bl (if neg then !decide (a∈l)else decide (a∈l))):=rD neg a l
theorem Ey:∀bs:List Bool,CM (bs.map D.bl)=some bs
 |[]=>rfl
 |b::bs=>by rw[ay];unfold CM;rw[Ey bs];rfl
theorem My(bs:List Bool):ud (.lst (bs.map D.bl))=some (.bl (bs.all id)):=by unfold ud;simp only[Ey];rfl
theorem Mz(bs:List Bool):AU (.lst (bs.map D.bl))=some (.bl (bs.any id)):=by unfold AU;simp only[Ey];rfl
theorem EA{α:Type}(l:List α)(p:α->Bool):ud (.lst (l.map λa=>D.bl (p a)))=some (.bl (l.all p)):=by rw[show (l.map λa=>D.bl (p a))=(l.map p).map D.bl by rw[aF];rfl,My,nE];rfl
theorem IU{α:Type}(l:List α)(p:α->Bool):AU (.lst (l.map λa=>D.bl (p a)))=some (.bl (l.any p)):=by rw[show (l.map λa=>D.bl (p a))=(l.map p).map D.bl by rw[aF];rfl,Mz,List.any_map];rfl
theorem BS:∀l:aE,xV (l.map D.str)=some (l.map Sum.inr)
 |[]=>rfl
 |x::l=>by rw[ay];unfold xV;rw[BS l];rfl
theorem MA:∀(l acc:List Key),(acc++l).Nodup->l.foldl ddp acc=acc++l
 |[],acc,_=>by rw[bp];rfl
 |k::l,acc,h=>by
  have hn:acc.any (λz=>decide (z=k))=false:=by rw[ir];intro z;obtain⟨y,hy,ey⟩:=eB.mp z;rw[bK]at h;exact h.2.2 y hy k aW (bz ey)
  rw[mS,show ddp acc k=acc++[k] by unfold ddp;rw[hn];rfl,MA l (acc++[k]) (by simpa using h)];simp
theorem rN{l:aE}(h:l.Nodup):(l.map (Sum.inr:Str->Key)).Nodup:=by unfold List.Nodup at h ⊢;rw[List.pairwise_map];exact h.imp λhne z=>hne (iI z)
theorem Ap{l:aE}(h:l.Nodup)(hl:l.length<=1000):sd (l.map D.str)=some (.int l.length):=by unfold sd;rw[BS];simp only[ah,hl,if_true];unfold uz;rw[MA _ [] (by simpa using rN h)];simp
theorem uE(neg:Bool)(a b:Int):dEq neg (.int a) (.int b)=some (.bl (if neg then !decide (a=b)else decide (a=b))):=by
 have e:BH neg (.int a) (.int b)=some (.bl (if neg then !decide (V.int a=V.int b)else decide (V.int a=V.int b))):=rfl;have e2:decide (V.int a=V.int b)=decide (a=b):=by
  by_cases h:a=b
  ·subst h;simp
  ·rw[aR h,aR (λz=>h (by injection z))]
 unfold dEq;rw[e,e2]
theorem pQ(h1:e ρ=some (.bl true,ρ1)):qz e e' ρ=e' ρ1:=by unfold qz;rw[h1]
theorem pE{g:Nat->Option (aC->Option D)}{m:Str}{c:Nat}{hh:aC->Option D}(h1:e ρ=some (.obj c ns xs,ρ1))(h2:g c=some hh)(h3:ns.contains m=false)(h4:a ρ1=some (ys,ρ2))(h5:hh (.obj c ns xs::ys)=some d):o9 g m e a ρ=some (d,ρ2):=by unfold o9;rw[h1];simp only[h2,h3,h4,h5];rfl
theorem PN{c:Nat}{g:aC->Option (aE×aC)}(h1:a ρ=some (ds,ρ1))(h2:g ds=some (ns,xs)):pD c g a ρ=some (.obj c ns xs,ρ1):=by unfold pD;rw[h1];simp only[h2]
theorem wW{n:Nat}{b:FS}(hl:ds.length=np)(h:b (L4.stE n ds)=some (.nx ρ)):fnD np n b ds=some .non:=by unfold fnD;rw[aj hl,h]
theorem Hn{n:Nat}{b:FS}(hl:ds.length=np)(h:b (L4.stE n ds)=some (.rn xs ρ)):fnD np n b ds=some (.lst xs):=by unfold fnD;rw[aj hl,h]
theorem vh:∀{ks:List Key} {ds:aC} {k:Key} {d:D},ks.Nodup->(k,d)∈ks.zip ds->qB ks ds k=some d
 |[],_,k,d,_,h=>by simp at h
 |k'::ks,[],k,d,_,h=>by simp at h
 |k'::ks,d'::ds,k,d,nd,h=>by
  unfold qB;rw[dD]at h;rcases aL.mp h with e|h
  ·cases e;rw[aj rfl]
  ·rw[ck]at nd;rw[ak (λz=>nd.1 (by subst z;exact(iz h).1))];exact vh nd.2 h
theorem zS:∀{ks:List Key} {ds:aC} {k:Key},k∉ks->qB ks ds k=none
 |[],ds,k,_=>by unfold qB;rfl
 |k'::ks,[],k,_=>by unfold qB;rfl
 |k'::ks,d'::ds,k,h=>by unfold qB;rw[ak (λz=>h (by subst z;exact aW))];exact zS λz=>h (bj _ z)
end
end L4
namespace L4
open PySem PySem.Spec PyProof.Rows L2 L3
open PySem.W (nsIn findIn keepIn isFn makesIn fnOf)
def Ho{α:Type}:Nat->(List α->Prop)->Prop
 |0,P=>P []
 |n+1,P=>∀a,Ho n λl=>P (a::l)
theorem Bc{α:Type}:∀{n:Nat} {P:List α->Prop},Ho n P->∀l,l.length=n->P l
 |0,P,h,[],_=>h
 |n+1,P,h,a::l,e=>Bc (P:=λl=>P (a::l)) (h a) l (gq e)
structure CF(K:ar)(C:Addr)(xs:aE):Prop where
 ci:JY K C
 mks:makesIn K C=true
 kp:keepIn K (.ref C)=true
 na:(xs.all λx=>match findIn K (.ref C) x with|some none=>true|_=>false)=true
theorem CF.at{K:ar}{C:Addr}{xs:aE}(c:CF K C xs)(i:Nat){x:Str}(h:xs[i]?=some x):Cls K C/\ub K C x:=⟨c.ci.cl,by
 have e:=bw.mp c.na x (cj h);unfold ub;split at e
 ·rename_i e1;exact e1
 ·cases e⟩
variable{i:Nat}
theorem vR{Q:Nat->Prop}(h:Q i):∀c,(c==i)=true->Q c:=λc e=>by rw[beq_iff_eq]at e;subst e;exact h
theorem orQ{Q:Nat->Prop}{p:Nat->Bool}(h:∀c,p c=true->Q c)(h':Q i):∀c,(p c||c==i)=true->Q c:=λc e=>by
 rw[jJ]at e;rcases e with e|e
 ·exact h c e
 ·exact vR h' c e
structure Yw(P:aD)(w:aw)(mg:Str->Option aa)(base:Heap)(G:Bg):Prop where
 m:∃h:Heap,G.K.In h/\h.Ns mainGlobals mg
variable{np:Nat}{vs:bh}{us:List aa}
section
variable{P:aD}{w:aw}{mg:Str->Option aa}{base:Heap}{G:Bg}{x m qual:Str}{st:Stmt}{N ps:aE}{k c:Nat}{K:ar}
theorem Yw.g(y:Yw P w mg base G){v:aa}(e:nsIn G.K mainGlobals x=some (some v)):mg x=some v:=by obtain⟨h,X,Gn⟩:=y.m;exact iW X Gn e
theorem Yw.n(y:Yw P w mg base G){xs:aE}(h:(xs.all λx=>match nsIn G.K mainGlobals x with|some none=>true|_=>false)=true)(i:Nat)(hi:xs[i]?=some x):mg x=none:=by
 obtain⟨hh,X,Gn⟩:=y.m;have e:=bw.mp h x (cj hi);split at e
 ·rename_i e1;exact W.mg_none_of X Gn e1
 ·cases e
def GC(K:ar)(x:Str)(i:Int):Prop:=∃t:Tok,nsIn K mainGlobals x=some (some (.int i t))
theorem Yw.ci(y:Yw P w mg base G){i:Int}(q:GC G.K x i):xG G mg x (.int i):=by obtain⟨h,X,Gn⟩:=y.m;obtain⟨t,e⟩:=q;exact const_int X Gn e
def GS(K:ar)(x:Str)(xs:aE):Prop:=∃(a:Addr) (o:Obj) (its:Array aa) (n:Nat),nsIn K mainGlobals x=some (some (.ref a))/\K.lookup a=some o/\o.cls=.type "tuple" /\ o.data=.seq its n/\its.size<=1000/\vQ its.toList xs
theorem Yw.cs(y:Yw P w mg base G){xs:aE}(q:GS G.K x xs):xG G mg x (.tup (xs.map D.str)):=by obtain⟨h,X,Gn⟩:=y.m;obtain⟨a,o,its,n,e,l,h1,h2,h3,h4⟩:=q;exact Hm xs X Gn e l h1 h2 h3 h4
def GD(K:ar)(x:Str)(st:Stmt):Prop:=∃(f:Addr) (fd:bD),nsIn K mainGlobals x=some (some (.ref f))/\Fun K x x st f fd
def GM(K:ar)(C:Addr)(m qual:Str)(st:Stmt):Prop:=∃(f:Addr) (fd:bD),findIn K (.ref C) m=some (some (.ref f))/\isFn K (.ref f)=true/\Fun K m qual st f fd
def GJ(K:ar)(C:Addr)(qual:Str)(st:Stmt)(vs:bh):Prop:=∃(f:Addr) (fd:bD) (T:Addr) (o:Obj) (dl:List aa) (n:Nat),findIn K (.ref C) "__init__" = some (some (.ref f))/\isFn K (.ref f)=true/\JM K "__init__" qual st f fd T/\K.lookup T=some o/\o.data=.seq dl.toArray n/\Vals vs dl
abbrev Bdy(P:aD)(w:aw)(K:ar)(mg:Str->Option aa)(base:Heap)(N:aE)(qual:Str)(st:Stmt)(k:Nat)(t:TS):Prop:=∀(f:Addr) (cdv:aa) (A:aH) (outer:List Env) (s:af) (H:Hp) (E:XK),qc k (A.deeper (envOfC qual (oE st) s.heap.objs.size f cdv))->PSs (ve P w K mg base N qual st f cdv A outer s H E) (o8 st) t
abbrev Bds(x qual:Str)(st:Stmt)(ps:aE):Prop:=Ho ps.length λus=>∀(kV doc pm:aa) (an:Option Addr) (cdv ct:aa),bindArgs (fnOf x qual (rV st) (o8 st) (oE st) .none kV doc pm an cdv ct) ⟨us,[]⟩=pure (ps.zip us)
theorem Bds.ok{f:Addr}{fd:bD}(b:Bds x qual st ps)(F:Fun K x qual st f fd):Binds K fd ps []:=F.binds λkV doc pm an cdv ct us hl=>Bc b us hl kV doc pm an cdv ct
theorem gD{sp:Sp}(y:Yw P w mg base G)(q:GD G.K x st)(bd:Bds x x st ps)(ok:∀f fd,Fun G.K x x st f fd->sE P w G.K mg base CX0 k f fd ps sp):vd P w G.K mg base k x ps sp:=by obtain⟨f,fd,a,F⟩:=q;exact⟨f,fd,y.g a,F.kp,bd.ok F,ok f fd F⟩
theorem gF{n:Nat}{g:aC->Option D}{b:FS}(hg:g=fnD np n b)(y:Yw P w mg base G)(q:GD G.K x st)(S:pY N ps (oE st))(body:Bdy P w G.K mg base N x st k (tFS G b))(hp:ps.length=np:=by rfl)(hN:N.length=n:=by rfl)(bd:Bds x x st ps:=by (repeat intro _);rfl):vd P w G.K mg base (k+1) x ps (spF G g):=
 gD y q bd λf fd F=>IE hg hp hN F S (body f)
theorem gN'{n:Nat}{g:aC->Option aC}{b:FS}(hg:g=fnN np n b)(y:Yw P w mg base G)(q:GD G.K x st)(S:pY N ps (oE st))(body:Bdy P w G.K mg base N x st k (tFS G b))(hp:ps.length=np:=by rfl)(hN:N.length=n:=by rfl)(bd:Bds x x st ps:=by (repeat intro _);rfl):vd P w G.K mg base (k+1) x ps (spN G g):=
 gD y q bd λf fd F=>Wd hg hp hN F S (body f)
theorem gM{n:Nat}{g:aC->aC->Option (D×aC)}{b:FS}{p:Str}(hg:g=fnM np n b)(y:Yw P w mg base G)(q:GD G.K x st)(S:pY N (p::ps) (oE st))(body:Bdy P w G.K mg base N x st k (tFS G b))(hp:ps.length=np:=by rfl)(hN:N.length=n:=by rfl)(bd:Bds x x st (p::ps):=by (repeat intro _);rfl):vd P w G.K mg base (k+1) x (p::ps) (spM G g):=
 gD y q bd λf fd F=>We hg hp hN F S (body f)
theorem gL{n:Nat}{g:aC->aC->Option (D×aC)}{b:FS}(hg:g=fnL np n b)(y:Yw P w mg base G)(q:GD G.K x st)(S:pY N ps (oE st))(body:Bdy P w G.K mg base N x st k (tFS G b))(hp:ps.length=np+1:=by rfl)(hN:N.length=n:=by rfl)(bd:Bds x x st ps:=by (repeat intro _);rfl):vd P w G.K mg base (k+1) x ps (spL G g):=
 gD y q bd λf fd F=>Wp hg hp hN F S (body f)
theorem gI{n:Nat}{g:aC->Option (aE×aC)}{b:FS}{xs:aE}{p:Str}(hg:g=fnI c np n b)(y:Yw P w mg base G)(C:CF G.K (G.ca c) xs)(a:nsIn G.K mainGlobals x=some (some (.ref (G.ca c))))(q:GM G.K (G.ca c) "__init__" qual st)(S:pY N (p::ps) (oE st))(body:Bdy P w G.K mg base N qual st k (tFS G b))(hp:ps.length=np:=by rfl)(hN:N.length=n:=by rfl)(bd:Bds "__init__" qual st (p::ps):=by (repeat intro _);rfl):En G P w mg base (k+1) x c (p::ps) [] g:=by obtain⟨f,fd,i,i',F⟩:=q;exact⟨f,fd,[],⟨C.mks,i,i',C.kp⟩,y.g a,bd.ok F,.nil,Wf hg hp hN F S (body f)⟩
theorem F3(h:Vals vs us):us.length=vs.length:=by
 induction h with
 |nil=>rfl
 |cons _ _ ih=>rw[aI,aI,ih]
theorem Kk(h:Vals vs us):∀j,Vals (vs.drop j) (us.drop j):=by
 induction h with
 |nil=>intro j;rw[nz,nz];exact .nil
 |cons a b ih=>
  intro j;cases j with
  |zero=>exact .cons a b
  |succ j=>exact ih j
theorem gJ{n:Nat}{g:aC->Option (aE×aC)}{b:FS}{xs:aE}{p:Str}(hg:g=fnI c np n b)(y:Yw P w mg base G)(C:CF G.K (G.ca c) xs)(a:nsIn G.K mainGlobals x=some (some (.ref (G.ca c))))(q:GJ G.K (G.ca c) qual st vs)(S:pY N (p::ps) (oE st))(body:Bdy P w G.K mg base N qual st k (tFS G b))(j:Nat)(hp:ps.length=np:=by rfl)(hN:N.length=n:=by rfl)
  (bd:Ho vs.length λdl=>Ho ((p::ps).length - (vs.drop j).length) λus=>∀(T:Addr) (kV doc pm:aa) (an:Option Addr) (cdv ct:aa),∃k,bindArgs (fnOf "__init__" qual (rV st) (o8 st) (oE st) (.ref T) kV doc pm an cdv ct) ⟨us,[]⟩=seqItems? (.ref T)>>=k/\k (some dl.toArray)=pure ((p::ps).zip (us++dl.drop j)):=by (repeat intro _);exact⟨_,rfl,rfl⟩):En G P w mg base (k+1) x c (p::ps) (vs.drop j) g:=by
 obtain⟨f,fd,T,o,dl,n,i,i',F,l,e,r⟩:=q;refine⟨f,fd,dl.drop j,⟨C.mks,i,i',C.kp⟩,y.g a,F.binds l e λkV doc pm an cdv ct us hl=>?_,Kk r j,SF hg hp hN F S (body f)⟩;exact Bc (Bc bd dl (F3 r)) us (by rw[hl,cR,cR,F3 r]) T kV doc pm an cdv ct
end
end L4
namespace L4
open PySem PySem.Spec PyProof.Rows L2 L3
def leS(a b:Str):Bool:=decide (a.cps.toList<=b.cps.toList)
def tu(ss:aE):aE:=ss.mergeSort leS
theorem MB(a b c:Str)(h:leS a b=true)(h':leS b c=true):leS a c=true:=aZ (List.le_trans (bz h) (bz h'))
theorem PQ(a b:Str):(leS a b||leS b a)=true:=by
 rw[jJ];rcases List.le_total a.cps.toList b.cps.toList with h|h
 ·exact .inl (aZ h)
 ·exact .inr (aZ h)
theorem MC(a b:Str)(h:leS a b=true)(h':leS b a=true):a=b:=by have e:=List.le_antisymm (bz h) (bz h');cases a with|mk a=>cases b with|mk b=>cases a;cases b;simp only at e;rw[e]
theorem zT:∀(r:aE) (x:Str),risingS x r=true->(∀y∈r,leS x y=true)/\r.Pairwise λa b=>leS a b=true
 |[],x,_=>⟨λy h=>(bI h).elim,.nil⟩
 |z::r,x,h=>by
  unfold risingS at h;rw[aY,eV,ltCps_eq]at h;obtain⟨h1,h2⟩:=h;obtain⟨g1,g2⟩:=zT r z h2;have h3:leS x z=true:=aZ (of_decide_eq_false h1);refine⟨λy hy=>?_,.cons g1 g2⟩;rcases aL.mp hy with e|hy
  ·rw[e];exact h3
  ·exact MB _ _ _ h3 (g1 y hy)
theorem Hr:∀l:aE,sortedS l=true->l.Pairwise λa b=>leS a b=true
 |[],_=>.nil
 |x::r,h=>.cons (zT r x h).1 (zT r x h).2
theorem BU{l ss:aE}(p:l.Perm ss)(h:sortedS l=true):l=tu ss:=
 List.Perm.eq_of_pairwise (λa b _ _=>MC a b) (Hr l h) (List.pairwise_mergeSort MB PQ ss) (p.trans (jv ss leS).symm)
theorem BV:∀{xs:aE} {vs:List aa},Vals (xs.map V.str) vs->eQ vs xs
 |[],vs,h=>by cases h;exact .nil
 |x::xs,vs,h=>by
  cases h with
  |cons r h'=>obtain⟨t,rfl⟩:=r;exact .cons x t (BV h')
theorem ME:∀{vs:List aa} {xs:aE},eQ vs xs->Vals (xs.map V.str) vs
 |_,_,.nil=>.nil
 |_,_,.cons x t h=>.cons ⟨t,rfl⟩ (ME h)
variable{e:Expr}{f:FE}
section
variable{X:Cx}{G:Bg}{pins:bW}{σ:St}{H:Hp}{s:af}
theorem EB:qf X (.builtin "sorted") (λxs H Q=>∃(a:Addr) (ss:aE),xs=[.ref a]/\SqL X.K H a (ss.map V.str)/\ss.length<64/\∀p,H p=none->Q (.ref p) (upd H p (.lst ((tu ss).map V.str)))):=by
 intro pins s σ H xs us Q I r h;obtain⟨a,ss,rfl,hq,h64,q⟩:=h;obtain⟨u,rfl,ru⟩:=vals1 r;cases ru;obtain⟨its,ri,pl,_⟩:=I.list hq;have hl:(ss.map V.str).length=its.length:=ri.length;rw[ah]at hl;refine sorted_strs pl.isList (BV ri) (by omega) λout ss' a1 a2 a3=>?_;obtain⟨e,he⟩:=sortedAll_at s.heap its out;have e1:=BU a2 a3;refine⟨.ref (s.heap.objs.size+1),_,I.laid (t':=s.toks) (λ_ _=>sortedAll_old) (fq _) ?_,rfl,q _ (I.hok.fresh (fq _))⟩;refine⟨?_,out.toList,e,?_,he⟩
 ·rw[ah,<- e1,a2.length_eq,bC];omega
 ·rw[<-e1];exact ME a1
def yw(f:FE):FA:=λρ=>match f ρ with
 |some (.lst ds,ρ')=>match xW ds with
  |some ss=>if ss.length<64 then some ((tu ss).map D.str,ρ')else none
  |none=>none
 |_=>none
theorem yx{H:Hp}:∀xs:aE,oi G H (xs.map D.str) (xs.map V.str)
 |[]=>o5
 |x::xs=>oZ (vL x) (yx xs)
theorem F4(h:PE X e (tCB (λxs H Q=>∃(a:Addr) (ss:aE),xs=[.ref a]/\SqL G.K H a (ss.map V.str)/\ss.length<64/\∀p,H p=none->Q (.ref p) (upd H p (.lst ((tu ss).map V.str)))) (tFA G (n4 f oF)))):PE X e (tFN G (yw f)):=PE.weak h λσ H Q hh=>by
 obtain⟨F,ρ,H0,es,ρ',R,e,k⟩:=hh;unfold yw at e;split at e
 ·rename_i ds ρ1 e1;cases e2:xW ds with
  |none=>simp only[e2]at e;cases e
  |some ss=>
   simp only[e2]at e;split at e
   ·rename_i h64;cases e;refine⟨F,ρ,H0,[.lst ds],_,R,by unfold n4;rw[e1];rfl,λys H1 H1' s R' rs=>?_⟩;unfold oi at rs;obtain⟨v,r0,rfl,rv,rn⟩:=rs;unfold oi at rn;subst rn;unfold Rep at rv;obtain⟨a,xs,rfl,h1,h2⟩:=rv;have hx:=yu h2 e2;subst hx;refine⟨a,ss,rfl,SqL.of (R'.sub _ _ h1),h64,λp hp=>?_⟩;exact k p _ _ _ s (R'.newOwn hp _) oq (R'.h0none hp) (R'.bNone hp) (R'.apart hp) (yx _)
   ·cases e
 ·cases e
theorem CP(hK:X.K=G.K:=by rfl):qf X (.builtin "sorted") (λxs H Q=>∃(a:Addr) (ss:aE),xs=[.ref a]/\SqL G.K H a (ss.map V.str)/\ss.length<64/\∀p,H p=none->Q (.ref p) (upd H p (.lst ((tu ss).map V.str)))):=by rw[<-hK];exact EB
theorem yy(k:Str):∀{vs:List aa} {ss:aE},eQ vs ss->∀(j:Nat) (h1:j<vs.length) (h2:j<ss.length),isStrOf k vs[j]=(ss[j]==k)
 |_,_,.cons n t _,0,_,_=>rfl
 |_,_,.cons n t r,j+1,h1,h2=>yy k r j (fP h1) (fP h2)
theorem F5{k:Str}:∀{ns:aE} {j:Nat},j<ns.idxOf k->∀(h2:j<ns.length),(ns[j]==k)=false
 |n::r,0,h,_=>by
  by_cases e:n=k
  ·subst e;simp at h
  ·simpa using e
 |n::r,j+1,h,h2=>by
  by_cases e:n=k
  ·subst e;simp at h
  ·have hb:(n==k)=false:=by simpa using e
   have h':j<r.idxOf k:=by rw[mU,hb]at h;exact fP h
   exact F5 h' (fP h2)
def EC(K:ar):V->bh->Hp->VK->Prop:=λx vs H Q=>∃(l:Addr) (ss:aE) (k:Str),x=.ref l/\vs=[.str k]/\SqL K H l (ss.map V.str)/\ss.length<=1000/\k∈ss/\Q (.int (ss.idxOf k:Nat)) H
theorem Kl:MtM X "list.index" (EC X.K):=by
 intro pins s σ H x vs v us Q I rx rv h;obtain⟨l,ss,k,rfl,rfl,hq,hz,hk,q⟩:=h;cases rx;obtain⟨u,rfl,ru⟩:=rv.one;obtain⟨t,rfl⟩:=ru;obtain⟨its,ri,pl,_⟩:=I.list hq;have hi:=BV ri;have hlen:ss.length=its.length:=by have:=ri.length;rw[ah]at this;exact this
 obtain⟨⟨cls,dd,data,sl⟩,ho,hc,n,hd⟩:=id pl.isList;simp only at hc hd;subst hc hd;have hj:ss.idxOf k<ss.length:=lu.mpr hk;refine gu my ⟨_,ho,rfl⟩ F.entry_list_index (F.args_list_index_2 _ _)
  (PySem.SeqAt.list_indexAt l its.toArray n dd sl (.str k t) (isStrOf k) (ss.idxOf k) (by simpa [hlen]using hj) (by omega) ?_ ?_) ⟨ho,λy hy=>(eq_isStrOf k t hi y (by simpa using hy)).at _ _,?_⟩
 ·show isStrOf k its[ss.idxOf k]=true;rw[yy k hi _ (by omega) hj];simpa using List.getElem_idxOf hj
 ·intro j hjs hlt;show isStrOf k its[j]=false;rw[yy k hi j (by simpa using hjs) (by omega)];exact F5 hlt _
 ·exact⟨.int (ss.idxOf k:Nat),_,I.tok _,⟨_,rfl⟩,q⟩
def sU:D->D->Option D:=λx y=>match x,y with
 |.lst ds,.str k=>match xW ds with
  |some ss=>if k∈ss/\ss.length<=1000 then some (.int (ss.idxOf k:Nat))else none
  |none=>none
 |_,_=>none
theorem Km{f':FE}(h:PE X e (tBM G.K "list" (EC G.K) (tF G f) (tFA G (n4 f' oF)))):PE X e (tF G (c2 sU f f')):=PE.weak h λσ H Q hh=>by
 obtain⟨F,ρ,H0,d,ρ',R,e,k⟩:=hh;obtain⟨x,y,ρ1,e1,e2,e3⟩:=yQ e;unfold sU at e3;split at e3
 ·rename_i ds kk;cases eq:xW ds with
  |none=>simp only[eq]at e3;cases e3
  |some ss=>
   simp only[eq]at e3;split at e3
   ·rename_i hk;cases e3;refine⟨F,ρ,H0,_,ρ1,R,e1,λv H1 H1' s1 R1 r1=>?_⟩;unfold Rep at r1;obtain⟨a,xs,rfl,h1,h2⟩:=r1;have hx:=yu h2 eq;subst hx;refine⟨.inl ⟨rfl,_,SqL.of (R1.sub _ _ h1)⟩,F,ρ1,H1,[.str kk],ρ',R1,by unfold n4;rw[e2];rfl,λys H2 H2' s2 R2 rs=>?_⟩;unfold oi at rs;obtain⟨v,r0,rfl,rv,rn⟩:=rs;unfold oi at rn;unfold Rep at rv;subst rn rv;exact⟨a,ss,kk,rfl,rfl,SqL.of (R2.sub _ _ (s2 _ _ h1)),hk.2,hk.1,k _ H2 H2' (s1.trans s2) R2 (rf _)⟩
   ·cases e3
 ·cases e3
theorem Kn(hK:X.K=G.K:=by rfl):MtM X "list.index" (EC G.K):=by rw[<-hK];exact Kl
end
section
variable{P:aD}{w:aw}{mg:Str->Option aa}{base:Heap}{G:Bg}{x m qual:Str}{st:Stmt}{N ps:aE}{k c:Nat}
abbrev Bdi(P:aD)(w:aw)(K:ar)(mg:Str->Option aa)(base:Heap)(N:aE)(qual:Str)(st:Stmt)(k:Nat)(t:TS):Prop:=∀{f:Addr} {cdv:aa} {A:aH} {outer:List Env} {s:af} {H:Hp} {E:XK},qc k (A.deeper (envOfC qual (oE st) s.heap.objs.size f cdv))->PSs (ve P w K mg base N qual st f cdv A outer s H E) (o8 st) t
end
end L4
namespace L4
open PySem PySem.Spec PySem.Calls PyProof.Rows PySem.W L2 L3
structure Sto(c:Nat->Nat->Bool)(n:Nat):Prop where
 tr:∀i j k,i<n->j<n->k<n->c i j=true->c j k=true->c i k=true
 tot:∀i j,i<n->j<n->i≠j->c i j=false->c j i=true
end L4
namespace L4
open PySem PySem.Spec PyProof.Rows L2 L3
variable{i:Nat}{Q:aa->af->Prop}{i1 i2:Addr}{ys:Array aa}{y:aa}
section
variable{prog:aD}{w:aw}{A:aH}{E:aa->af->Prop}{s:af}
theorem Ht{j t:Addr}{xs:Array aa}{x:aa}(hj:s.heap.IsTupleIter j t i)(ht:s.heap.IsTuple t xs)(hx:xs[i]?=some x)
  (q:∀g,g.IsTupleIter j t (i+1)->eG j s.heap g->Q x { s with heap:=g }):wpAny (model prog w) A (dU (.ref j)) Q E s:=by
 obtain⟨ob,h0,hc,hd⟩:=id hj;obtain⟨ot,t0,_,nt,td⟩:=ht;unfold dU;refine ai (hE (name:=iH "__next__") hj.typeIs gZ (eX gZ hj.typeIs kY ?_ (kX _)));show wpAny _ _ (field (.ref j) 0>>=_) _ _ _;refine ai (cF h0 hd (x:=.ref t) rfl ?_);show wpAny _ _ (if (Value.ref t==Value.none)=true then _ else _) _ _ _;rw[ak (show ¬((Value.ref t==.none)=true) from bb)];show wpAny _ _ (field (.ref j) 1>>=_) _ _ _;refine ai (cF h0 hd (x:=.int i 0) rfl ?_);show wpAny _ _ (seqItems? (.ref t)>>=_) _ _ _;refine ai (dc t0 td ?_);simp only[eU,hx];refine ai (wpAny_setField h0 hd (by simp) (aB ⟨x,rfl,aB (q _ ?_ (ik ..))⟩));exact⟨_,ib _ h0 (Obj.isFreed_of_fields (l8 hd _)),(Obj.cls_mapFields ..).trans hc,by rw[l8 hd];simp[rawInt]⟩
theorem Ko{j t:Addr}{xs:Array aa}(hh:A.handled=none)(hj:s.heap.IsTupleIter j t i)(ht:s.heap.IsTuple t xs)(hx:xs[i]?=none)
  (q:∀g e,Heap.ExtBut j s.heap g->(∃o,g.get? e=some o/\o.cls=.type "StopIteration")->E (.ref e) { s with heap:=g }):wpAny (model prog w) A (dU (.ref j)) Q E s:=by
 obtain⟨ob,h0,hc,hd⟩:=id hj;obtain⟨ot,t0,_,nt,td⟩:=ht;unfold dU;refine ai (hE (name:=iH "__next__") hj.typeIs gZ (eX gZ hj.typeIs kY ?_ (kX _)));show wpAny _ _ (field (.ref j) 0>>=_) _ _ _;refine ai (cF h0 hd (x:=.ref t) rfl ?_);show wpAny _ _ (if (Value.ref t==Value.none)=true then _ else _) _ _ _;rw[ak (show ¬((Value.ref t==.none)=true) from bb)];show wpAny _ _ (field (.ref j) 1>>=_) _ _ _;refine ai (cF h0 hd (x:=.int i 0) rfl ?_);show wpAny _ _ (seqItems? (.ref t)>>=_) _ _ _;refine ai (dc t0 td ?_);simp only[eU,hx];refine ai (iN (ai (wpAny_setField h0 hd (by simp) ?_)));show wpAny _ _ (newExc (.type "StopIteration") []>>=_) _ _ _;refine ai ?_;simp only[newExc,newTuple];refine ai (iq ?_ (by size_fits));refine ai (m:=firstArgMember _ _) (wpAny_of_eq (a:=Value.none) (by first|rfl|(simp only[firstArgMember];rfl)) ?_);refine iq ?_ (by size_fits);simp only[raiseNew];refine ai (wpAny_handled ?_)
 first|rw[show A.in1.handled=none from hh]|rw[hh]
 refine ai (aB (wpAny_throw ?_));exact q _ _ (((ik ..).extBut.push _).push _) ⟨_,ba _ rfl,rfl⟩
theorem Hu{z TI TO t l:Addr}{k:Nat}{xs:Array aa}{x a b:aa}(D:dN z TI TO i1 i2 t l)(hz:bU s.heap z TI TO .none)(hTI:bE s.heap TI (.ref i1) (.ref i2))(hTO:bE s.heap TO a b)(h1:s.heap.IsTupleIter i1 t k)(h2:s.heap.IsListIter i2 l k)(ht:s.heap.IsTuple t xs)(hl:s.heap.IsList l ys)(hx:xs[k]?=some x)(hy:ys[k]?=some y)
  (q:∀g,bU g z TI TO (rawInt s.heap.objs.size)->bE g TO x y->g.IsTupleIter i1 t (k+1)->g.IsListIter i2 l (k+1)->bE g s.heap.objs.size x y->g.objs.size=s.heap.objs.size+1->(∀c o,c≠z->c≠TO->c≠i1->c≠i2->s.heap.get? c=some o->g.get? c=some o)->Q (.ref s.heap.objs.size) { s with heap:=g }):
  wpAny (model prog w) A (di.«zip.__next__» ⟨[.ref z],[]⟩) (λfin s'=>∃v,fin=.done (.ret v)/\Q v s') E s:=by
 show wpAny _ _ (field (.ref z) 2>>=_) _ _ s;refine ai (cF hz rfl (x:=.bool false) rfl ?_);show wpAny _ _ (field (.ref z) 3>>=_) _ _ s;refine ai (cF hz rfl (x:=.ref TI) rfl (ai (dc hTI rfl ?_)));show wpAny _ _ (gX (.ref z)>>=_) _ _ s;refine ai ?_;unfold gX;refine ai (cF hz rfl (x:=.none) rfl (aB ?_));simp only[if_true];refine ai (iN (ai (cF hz rfl (x:=.ref TO) rfl (ai (fS hz (by simp) λga za ka=>?_)))));replace za:bU ga z TI TO .ellipsis:=za;refine ai ?_;simp only[mM,mV,jI,m9];refine ai (ai (jT ?_));show wpAny _ _ (dU (.ref i1)>>=_) _ _ { s with heap:=ga };refine ai (Ht (h1.extBut ka.extBut D.i1z) (ht.extBut ka.extBut D.l1z) hx λgb jb kb=>aB ?_);have tb:bE gb TO a b:=kb.extBut _ _ D.TOi1 (ka.extBut _ _ D.TOz hTO);refine ai (dc tb rfl (ai (lP tb λgc tc kc=>?_)));replace tc:bE gc TO x b:=tc;refine ai (wpAny_letGo (aB (ai (ai (jT ?_)))));show wpAny _ _ (dU (.ref i2)>>=_) _ _ { s with heap:=gc };refine ai (wpAny_nextOf_list_item (((h2.extBut ka.extBut D.i2z).extBut kb.extBut D.i12.symm).extBut kc.extBut D.TOi2.symm) (((hl.extBut ka.extBut D.l2z).extBut kb.extBut D.l2i1).extBut kc.extBut D.l2TO) hy λgd jd kd=>aB ?_);have td:bE gd TO x b:=kd.extBut _ _ D.TOi2 tc;refine ai (dc td rfl (ai (lP td λge te ke=>?_)));replace te:bE ge TO x y:=te;refine ai (wpAny_letGo (aB (aB (ai (dc te rfl (ai (wpAny_newTuple ?_)))))));have sz:ge.objs.size=s.heap.objs.size:=by rw[ke.1,kd.1,kc.1,kb.1,ka.1]
 have ze:bU ge z TI TO .ellipsis:=ke.extBut _ _ D.TOz.symm (kd.extBut _ _ D.i2z.symm (kc.extBut _ _ D.TOz.symm (kb.extBut _ _ D.i1z.symm za)));have kk:∀c o,c≠z->c≠TO->c≠i1->c≠i2->s.heap.get? c=some o->ge.get? c=some o:=λc o c1 c2 c3 c4 e=>ke.extBut _ _ c2 (kd.extBut _ _ c4 (kc.extBut _ _ c2 (kb.extBut _ _ c3 (ka.extBut _ _ c1 e))));have j1:ge.IsTupleIter i1 t (k+1):=((jb.extBut kc.extBut D.TOi1.symm).extBut kd.extBut D.i12).extBut ke.extBut D.TOi1.symm;have j2:ge.IsListIter i2 l (k+1):=jd.extBut ke.extBut D.TOi2.symm;have zl:z<ge.objs.size:=aM ze;show wpAny _ _ (kW (.ref z) (.ref ge.objs.size)>>=_) _ _ _;refine ai ?_;unfold kW;have zf:bU (ge.push { cls:=.type "tuple", data:=.seq #[x,y] }) z TI TO .ellipsis:=aG _ ze;refine ai (fS zf (by simp) λgg zg kg=>?_);replace zg:bU gg z TI TO (rawInt ge.objs.size):=zg;refine fS zg (by simp) λgh zh kh=>?_;replace zh:bU gh z TI TO (rawInt ge.objs.size):=zh;have up:∀c o,c≠z->ge.get? c=some o->gh.get? c=some o:=λc o c1 e=>kh.extBut _ _ c1 (kg.extBut _ _ c1 (aG _ e));have tp:bE gh ge.objs.size x y:=kh.extBut _ _ (dH zl) (kg.extBut _ _ (dH zl) (ba _ rfl));have sh:gh.objs.size=ge.objs.size+1:=by rw[kh.1,kg.1,cv]
 rw[sz]at zh tp sh;refine aB ⟨_,rfl,?_⟩;show Q (.ref ge.objs.size) { s with heap:=gh };rw[sz];obtain⟨o1,e1,r1⟩:=j1;exact q gh zh (up _ _ D.TOz te) ⟨o1,up _ _ D.i1z e1,r1⟩ (j2.at λo e=>up _ o D.i2z e) tp sh λc o c1 c2 c3 c4 e=>up c o c1 (kk c o c1 c2 c3 c4 e)
theorem Kp{z TI TO t l:Addr}{k:Nat}{xs:Array aa}{Q:PySem.Fin->af->Prop}(hh:A.handled=none)(D:dN z TI TO i1 i2 t l)(hz:bU s.heap z TI TO .none)(hTI:bE s.heap TI (.ref i1) (.ref i2))(h1:s.heap.IsTupleIter i1 t k)(ht:s.heap.IsTuple t xs)(hx:xs[k]?=none)
  (q:∀g e,(∀c o,c≠z->c≠i1->s.heap.get? c=some o->g.get? c=some o)->(∃o,g.get? e=some o/\o.cls=.type "StopIteration")->E (.ref e) { s with heap:=g }):wpAny (model prog w) A (di.«zip.__next__» ⟨[.ref z],[]⟩) Q E s:=by
 show wpAny _ _ (field (.ref z) 2>>=_) _ _ s;refine ai (cF hz rfl (x:=.bool false) rfl ?_);show wpAny _ _ (field (.ref z) 3>>=_) _ _ s;refine ai (cF hz rfl (x:=.ref TI) rfl (ai (dc hTI rfl ?_)));show wpAny _ _ (gX (.ref z)>>=_) _ _ s;refine ai ?_;unfold gX;refine ai (cF hz rfl (x:=.none) rfl (aB ?_));simp only[if_true];refine ai (iN (ai (cF hz rfl (x:=.ref TO) rfl (ai (fS hz (by simp) λga za ka=>?_)))));replace za:bU ga z TI TO .ellipsis:=za;refine ai ?_;simp only[mM,mV,jI,m9];refine ai (ai (jT ?_));show wpAny _ _ (dU (.ref i1)>>=_) _ _ { s with heap:=ga };refine ai (Ko hh (h1.extBut ka.extBut D.i1z) (ht.extBut ka.extBut D.l1z) hx λgb e kb he=>?_);obtain⟨oe,he1,he2⟩:=he;have zb:bU gb z TI TO .ellipsis:=kb _ _ D.i1z.symm za;have ne:e≠z:=λw=>by subst w;rw[zb]at he1;cases he1;simp at he2
 exact fS zb (by simp) λgc _ kc=>q gc e (λc o c1 c3 w=>kc.extBut _ _ c1 (kb _ _ c3 (ka.extBut _ _ c1 w))) ⟨oe,kc.extBut _ _ ne he1,he2⟩
theorem Hv{z TI TO t l:Addr}{k:Nat}{xs:Array aa}{x a b:aa}{Q:Option aa->af->Prop}(D:dN z TI TO i1 i2 t l)(hz:bU s.heap z TI TO .none)(hTI:bE s.heap TI (.ref i1) (.ref i2))(hTO:bE s.heap TO a b)(h1:s.heap.IsTupleIter i1 t k)(h2:s.heap.IsListIter i2 l k)(ht:s.heap.IsTuple t xs)(hl:s.heap.IsList l ys)(hx:xs[k]?=some x)(hy:ys[k]?=some y)
  (q:∀g,bU g z TI TO (rawInt s.heap.objs.size)->bE g TO x y->g.IsTupleIter i1 t (k+1)->g.IsListIter i2 l (k+1)->bE g s.heap.objs.size x y->g.objs.size=s.heap.objs.size+1->(∀c o,c≠z->c≠TO->c≠i1->c≠i2->s.heap.get? c=some o->g.get? c=some o)->Q (some (.ref s.heap.objs.size)) { s with heap:=g }):
  wpAny (model prog w) A (pyNext (.ref z)) Q E s:=by
 have T:s.TypeIs (.ref z) "zip" := ⟨_,hz,rfl⟩;unfold pyNext;exact ai (wpAny_attempt (hE (name:=iH "__next__") T iA (eX iA T mN (Hu D hz hTI hTO h1 h2 ht hl hx hy λg a1 a2 a3 a4 a5 a6 a7=>aB (q g a1 a2 a3 a4 a5 a6 a7)) (mB _))))
theorem Kq{z TI TO t l:Addr}{k:Nat}{xs:Array aa}{Q:Option aa->af->Prop}(hh:A.handled=none)(D:dN z TI TO i1 i2 t l)(hz:bU s.heap z TI TO .none)(hTI:bE s.heap TI (.ref i1) (.ref i2))(h1:s.heap.IsTupleIter i1 t k)(ht:s.heap.IsTuple t xs)(hx:xs[k]?=none)
  (q:∀g,(∀c o,c≠z->c≠i1->s.heap.get? c=some o->g.get? c=some o)->Q none { s with heap:=g }):wpAny (model prog w) A (pyNext (.ref z)) Q E s:=by
 have T:s.TypeIs (.ref z) "zip" := ⟨_,hz,rfl⟩;unfold pyNext;refine ai (wpAny_attempt (hE (name:=iH "__next__") T iA (eX iA T mN (Kp hh D hz hTI h1 ht hx λg e kk he=>?_) (mB _))));obtain⟨o,e1,e2⟩:=he;exact ai (wpAny_isInstance (T:="StopIteration") (b:=true) ⟨o,e1,e2⟩ isSubtype_stop (aB (q _ kk)))
end
abbrev zq1(h:Heap)(t:Addr):Heap:=h.push { cls:=.type "tuple_iterator", data:=.fields #[.ref t,.int 0 0] }
abbrev zq2(h:Heap)(t l:Addr):Heap:=(zq1 h t).push { cls:=.type "list_iterator", data:=.fields #[.ref l,.int 0 0] }
abbrev zq3(h:Heap)(t l:Addr):Heap:=(zq2 h t l).push { cls:=.type "tuple", data:=.seq #[.ref h.objs.size,.ref (zq1 h t).objs.size] }
abbrev zq4(h:Heap)(t l:Addr):Heap:=(zq3 h t l).push { cls:=.type "tuple", data:=.seq #[.none,.none] }
abbrev zq5(h:Heap)(t l:Addr):Heap:=(zq4 h t l).push { cls:=.type "zip", data:=.fields #[.none,.bool false,.bool false,.ref (zq2 h t l).objs.size,.ref (zq3 h t l).objs.size] }
theorem Kr(t l:Addr)(xs ys:Array aa):Meets (di.«zip.__new__» ⟨[.type "zip", .ref t,.ref l],[]⟩) (λ_ R s=>s.heap.IsTuple t xs/\s.heap.IsList l ys/\R (.ok (.ret (.ref (zq4 s.heap t l).objs.size))) { s with heap:=zq5 s.heap t l }):=
 .of_wp λprog w A R s h=>by
  obtain⟨hp,g,d,tk,os⟩:=s;obtain⟨ht,hl,h⟩:=h;have hs:=sub_zip;have H1:Heap.IsTuple (nI ⟨hp,g,d,tk,os⟩) t xs:=ht;have H2:Heap.IsList (nI ⟨hp.push { cls:=.type "tuple_iterator", data:=.fields #[.ref t,.int 0 0] },g,d,tk,os⟩) l ys:=Heap.IsList.push hl _
  wp_walk using jw H1,eS H2
  exact⟨_,rfl,h⟩
section
variable{prog:aD}{w:aw}{A:aH}{E:aa->af->Prop}{s:af}
theorem Hw{t l:Addr}{xs:Array aa}(ht:s.heap.IsTuple t xs)(hl:s.heap.IsList l ys)
  (q:∀g,bU g (s.heap.objs.size+4) (s.heap.objs.size+2) (s.heap.objs.size+3) .none->bE g (s.heap.objs.size+2) (.ref s.heap.objs.size) (.ref (s.heap.objs.size+1))->bE g (s.heap.objs.size+3) .none .none->g.IsTupleIter s.heap.objs.size t 0->g.IsListIter (s.heap.objs.size+1) l 0->(∀c o,s.heap.get? c=some o->g.get? c=some o)->Q (.ref (s.heap.objs.size+4)) { s with heap:=g }):
  wpAny (model prog w) A (call (.type "zip") [.ref t,.ref l]) Q E s:=by
 refine callType_new F.called_zip (by decide) (F.typeCall_zip_2 _ _) (F.newCall_zip_2 _ _) (λobj=>F.args_object_init_3 obj _ _) F.entry_zip_new (Kr t l xs ys) ⟨ht,hl,?_⟩;have s1:(zq1 s.heap t).objs.size=s.heap.objs.size+1:=cv ..;have s2:(zq2 s.heap t l).objs.size=s.heap.objs.size+2:=by rw[cv,s1]
 have s3:(zq3 s.heap t l).objs.size=s.heap.objs.size+3:=by rw[cv,s2]
 have s4:(zq4 s.heap t l).objs.size=s.heap.objs.size+4:=by rw[cv,s3]
 have u5:(zq5 s.heap t l).get? (zq4 s.heap t l).objs.size=some _:=ba _ rfl;have u4:(zq5 s.heap t l).get? (zq3 s.heap t l).objs.size=some _:=aG _ (ba _ rfl);have u3:(zq5 s.heap t l).get? (zq2 s.heap t l).objs.size=some _:=aG _ (aG _ (ba _ rfl));have u2:(zq5 s.heap t l).get? (zq1 s.heap t).objs.size=some _:=aG _ (aG _ (aG _ (ba _ rfl)));have u1:(zq5 s.heap t l).get? s.heap.objs.size=some _:=aG _ (aG _ (aG _ (aG _ (ba _ rfl))));show _/\_;rw[s2,s3,s4]at u5;rw[s1,s2]at u3;rw[s3]at u4;rw[s1]at u2;rw[s4];exact⟨⟨_,u5,rfl⟩,q _ u5 u3 u4 ⟨_,u1,rfl,rfl⟩ ⟨_,u2,rfl,rfl⟩ λc o e=>aG _ (aG _ (aG _ (aG _ (aG _ e))))⟩
end
def Wq(K:ar)(t l:Addr)(xs ys:bh):It:=
 ⟨λi H=>∃x y,SqT K H t xs/\H l=some (.lst ys)/\xs[i]?=some x/\ys[i]?=some y,
  λi H v H'=>∃p x y,H p=none/\v=.ref p/\H'=upd H p (.tup [x,y])/\xs[i]?=some x/\ys[i]?=some y,
  λi H=>SqT K H t xs/\H l=some (.lst ys)/\xs.length<=i⟩
def zTt(z TI TO i1 i2 t l:Addr)(i:Nat)(h:Heap):Prop:=bU h z TI TO .none/\bE h TI (.ref i1) (.ref i2)/\(∃a b,bE h TO a b)/\h.IsTupleIter i1 t i/\h.IsListIter i2 l i
variable{pos:Pos}
theorem Ks{P:aD}{w:aw}{K:ar}{elts:List Expr}{x1}{z TI TO t l:Addr}{xs ys:bh}(D:dN z TI TO i1 i2 t l):Turn P w K (.Tuple elts x1 pos) (Wq K t l xs ys) [z,TI,TO,i1,i2] z (zTt z TI TO i1 i2 t l) where
 mem:=by simp
 obj:=λi h st b hb=>by
  obtain⟨hz,h1,⟨a,c,h2⟩,⟨o3,h3,_,d3⟩,⟨o4,h4,_,d4⟩⟩:=st;simp only[aL,bI,or_false]at hb;rcases hb with rfl|rfl|rfl|rfl|rfl
  ·exact⟨_,hz,λv y=>nomatch y⟩
  ·exact⟨_,h1,λv y=>nomatch y⟩
  ·exact⟨_,h2,λv y=>nomatch y⟩
  ·exact⟨o3,h3,λv y=>by rw[d3]at y;cases y⟩
  ·exact⟨o4,h4,λv y=>by rw[d4]at y;cases y⟩
 keep:=λi h h' st k=>by obtain⟨hz,h1,⟨a,c,h2⟩,⟨o3,h3,r3⟩,h4⟩:=st;exact⟨k z (by simp) _ hz,k TI (by simp) _ h1,⟨a,c,k TO (by simp) _ h2⟩,⟨o3,k i1 (by simp) o3 h3,r3⟩,h4.at λo e=>k i2 (by simp) o e⟩
 item:=by
  intro X hP hw hK hc i pins s σ H E I hf st hg;subst hP hw hK;obtain⟨x,y,q1,q2,qx,qy⟩:=hg;obtain⟨hz,hTI,⟨a,b,hTO⟩,h1,h2⟩:=st;obtain⟨its,r1,p1,_⟩:=I.tuple q1;obtain⟨jts,r2,p2,_⟩:=I.list (SqL.of q2);obtain⟨u1,hu1,ru1⟩:=r1.get qx;obtain⟨u2,hu2,ru2⟩:=r2.get qy;have lt:∀{c:Addr} {o:Obj},s.heap.get? c=some o->s.heap.objs.size≠c:=λe w=>ao (aM e) (by rw[w];exact cU _);refine Hv D hz hTI hTO h1 h2 p1 p2.isList (x:=u1) (y:=u2) (by simpa using hu1) (by simpa using hu2) λh' a1 a2 a3 a4 a5 a6 kk=>?_;refine⟨_,rfl,lp (s:={ s with heap:=h' }) a1 λh2' hz' sb=>?_⟩;have Tz:s.heap.objs.size≠z:=lt hz;have hp:bE h2' s.heap.objs.size u1 u2:=sb.extBut _ _ Tz a5;have ch4:∀b∈[z,TO,i1,i2],b∈[z,TI,TO,i1,i2]:=λb hb=>by simp at hb ⊢;rcases hb with rfl|rfl|rfl|rfl<;>simp
  have ok:pI X.prog X.w (upd H s.heap.objs.size (.tup [x,y])) h2' s.heap.objs.size (.tup [x,y]):=⟨by rw[bC];show 2<=16777216;decide,[u1,u2],.cons ru1 (.cons ru2 .nil),_,hp,rfl,_,rfl⟩;have I1:=Inv.turnedLaid (h':=h2') (t':=s.toks) (T:=s.heap.objs.size) (xs:=[x,y]) (ch:=[z,TO,i1,i2]) I (λb hb=>hf b (ch4 b hb))
   (λb o hb e=>sb.extBut _ _ (λw=>hb (by simp[w])) (kk b o (λw=>hb (by simp[w])) (λw=>hb (by simp[w])) (λw=>hb (by simp[w])) (λw=>hb (by simp[w])) e)) (aK _) ok
  have DD:=D;refine⟨.ref s.heap.objs.size,_,I1,rfl,⟨_,x,y,I.hok.fresh (aK _),rfl,rfl,qx,qy⟩,⟨hz',sb.extBut _ _ D.TIz (kk _ _ D.TIz D.TITO D.TIi1 D.TIi2 hTI),⟨_,_,sb.extBut _ _ D.TOz a2⟩,a3.extBut sb.extBut D.i1z,a4.extBut sb.extBut D.i2z⟩,λb hb=>?_⟩;rw[oo (λw=>?_)]
  ·exact(hf b hb).1
  ·simp only[aL,bI,or_false]at hb;rcases hb with hb|hb|hb|hb|hb
   ·exact lt hz (w.symm.trans hb)
   ·exact lt hTI (w.symm.trans hb)
   ·exact lt hTO (w.symm.trans hb)
   ·obtain⟨o,e,_⟩:=h1;exact lt e (w.symm.trans hb)
   ·obtain⟨o,e,_⟩:=h2;exact lt e (w.symm.trans hb)
 done:=by
  intro X hP hw hK hc i pins s σ H E I hf st hg;subst hP hw hK;obtain⟨q1,q2,hend⟩:=hg;obtain⟨hz,hTI,⟨a,b,hTO⟩,h1,h2⟩:=st;obtain⟨its,r1,p1,_⟩:=I.tuple q1;have e1:=r1.length;refine Kq (I.ok.hd hc) D hz hTI h1 p1 (by simp;omega) λh' kk=>⟨rfl,?_⟩;have ch4:∀b∈[z,i1],b∈[z,TI,TO,i1,i2]:=λb hb=>by simp at hb ⊢;rcases hb with rfl|rfl<;>simp
  have nch:∀{b:Addr} {u:HO},H b=some u->b∉[z,i1]:=λe w=>by have:=(hf _ (ch4 _ w)).1;rw[e]at this;cases this
  have k:∀b o,b∉[z,i1]->s.heap.get? b=some o->h'.get? b=some o:=λb o hb e=>kk b o (λw=>hb (by simp[w])) (λw=>hb (by simp[w])) e;refine I.step (g':=s.gens) (d':=s.drawn) (t':=s.toks) (ch:=[z,i1]) (λb hb=>?_) (λb o _ _ hc e _=>k b o hc e) (λb o _ _ hc e _=>⟨o.slots,k b o hc e⟩) (λb o _ e n=>n) (λb o hc e=>⟨o,k b o hc e⟩)
   (λb ys e=>e) (λb o u e=>e) (λb ps e=>⟨#[],by rw[e];simp⟩) (λm hm=>?_) (λb u e=>?_) I.bare
  ·obtain⟨f0,f1,f2,f3,f4,f5⟩:=hf b (ch4 b hb);exact⟨f3,f1,f4,f5⟩
  ·exact hm.at' λo e=>k _ o (λw=>(hf _ (ch4 _ w)).2.1 rfl) e
  ·refine(I.hok b u e).stay (λc v hc q=>k c v ?_ q) (λc q=>q) λc ys q=>q;rcases hc with rfl|hc
   ·exact nch e
   ·exact nch hc
 self:=λ_ _ _ _ _ st h=>iw st.1 h
section
variable{X:Cx}{G:Bg}{elts:List Expr}{x1:Nat}{tpos:Pos}
def QV(K:ar)(ta:TA):TI:=λσ H R=>ta σ H λvs H1=>∃a b xs ys,vs=[.ref a,.ref b]/\SqT K H1 a xs/\H1 b=some (.lst ys)/\R (Wq K a b xs ys) H1
theorem PR(K:ar){a b:Expr}{ta:TA}{p:Pos}(hg:Gl X "zip")(hm:X.mg "zip" = none)(ha:PA X [a,b] ta)(hK:X.K=K:=by rfl)(hs:starEach [a,b] X.env=[(false,eval a X.env),(false,eval b X.env)]:=by rfl)(hs2:starEach [b] X.env=[(false,eval b X.env)]:=by rfl):
  PI X (.Tuple elts x1 tpos) (.Call (.Name "zip" p) [a,b] [] pos) (QV K ta):=by
 subst hK;intro pins s σ H R I h;refine Call_ (wG I hg hm boot_zip (callWith_type1 (thn (ha pos pins s σ H _ I h) λus s1 ⟨vs,H1,I1,r1,q1⟩=>?_) (by rw[hs,hs2]) (by rw[hs2];rfl)));obtain⟨a',b',xs,ys,rfl,e1,e2,q⟩:=q1;obtain⟨u,v,rfl,ru,rv⟩:=vals2 r1;cases ru;cases rv;obtain⟨its,_,p1,_⟩:=I1.tuple e1;obtain⟨jts,_,p2,_⟩:=I1.list (SqL.of e2);refine Hw p1 p2.isList λh' z1 z2 z3 z4 z5 kk=>?_;refine iw z1 ?_;have I2:Inv X pins σ H1 { s1 with heap:=h' }:=I1.kept (t':=s1.toks) kk;have D0:=Mi s1.heap.objs.size;have la:a'<s1.heap.objs.size:=by obtain⟨o,e,_⟩:=p1;exact aM e
 have lb:b'<s1.heap.objs.size:=by obtain⟨o,e,_⟩:=p2.isList;exact aM e
 have ne:∀{c:Addr} (n:Nat),c<s1.heap.objs.size->c≠s1.heap.objs.size+n:=λn h=>aU (bR h (eC _ _));have D:dN (s1.heap.objs.size+4) (s1.heap.objs.size+2) (s1.heap.objs.size+3) s1.heap.objs.size (s1.heap.objs.size+1) a' b':=⟨D0.a,D0.b,D0.c,D0.d,D0.e,D0.f,D0.g,D0.h,D0.i,D0.j,ne 4 la,ne 3 la,ne 0 la,ne 1 la,ne 4 lb,ne 3 lb,ne 0 lb,ne 1 lb⟩;refine⟨_,_,_,_,H1,rfl,I2,Ks D,⟨z1,z2,⟨_,_,z3⟩,z4,z5⟩,λc hc=>?_,q⟩;have hc':s1.heap.objs.size<=c:=by simp only[aL,bI,or_false]at hc;rcases hc with rfl|rfl|rfl|rfl|rfl<;>first|exact eC _ _|exact aK _
 exact I1.fpOk hc' (I1.hok.fresh hc')
def iZT(f:FA):FA:=λρ=>match f ρ with
 |some ([.tup ds,.lst es],ρ1)=>if ds.length<=es.length then some (AV ds es,ρ1)else none
 |_=>none
theorem MF{tg e:Expr}{f:FA}(h:PI X tg e (QV G.K (tFA G f))):PI X tg e (tFI G (iZT f)):=PI.weak h λσ H R hh=>by
 obtain⟨F,ρ,H0,ds,ρ',R,e,k⟩:=hh;unfold iZT at e;split at e
 ·rename_i ds' es' ρ1 e1;split at e
  ·rename_i hle;cases e;refine⟨F,ρ,H0,_,_,R,e1,λvs H1 H1' s R' rs=>?_⟩;unfold oi at rs;obtain⟨v1,r1,rfl,h1,rs⟩:=rs;unfold oi at rs;obtain⟨v2,r2,rfl,h2,rs⟩:=rs;unfold oi at rs;subst rs;unfold Rep at h1 h2;obtain⟨a,xs,rfl,a1,a2⟩:=h1;obtain⟨b,ys,rfl,b1,b2⟩:=h2;refine⟨a,b,xs,ys,rfl,SqT.mono R'.sub a1,R'.sub _ _ b1,k _ _ _ s R' λi H2 H2' t t'=>?_⟩;have g1:SqT G.K H2' a xs:=SqT.mono t' (SqT.mono t a1);have g2:H2' b=some (.lst ys):=t' _ _ (t _ _ b1);refine⟨λd ed=>?_,λhl=>⟨g1,g2,?_⟩⟩
   ·unfold AV at ed;rw[jm]at ed;cases ex:ds'[i]? with
    |none=>rw[ex]at ed;cases ed
    |some dx=>
     cases ey:es'[i]? with
     |none=>rw[ex,ey]at ed;cases ed
     |some dy=>
      rw[ex,ey]at ed;cases ed;obtain⟨vx,x1',x2⟩:=qp a2 ex;obtain⟨vy,y1',y2⟩:=qp b2 ey;refine⟨⟨vx,vy,g1,g2,x1',y1'⟩,λx H3 y=>?_⟩;obtain⟨p,x',y',hp,rfl,rfl,e1',e2'⟩:=y;rw[x1']at e1';rw[y1']at e2';cases e1';cases e2';have p0:H2 p=none:=by
       cases q:H2 p with
       |none=>rfl
       |some o=>have:=t' _ _ q;rw[hp]at this;cases this
      refine⟨upd H2 p (.tup [vx,vy]),oI p0 _,λb o e=>?_,oI hp _,λb o e=>?_,xF (SqT.of oq) ?_⟩
      ·by_cases hb:b=p
       ·subst hb;rw[oq]at e ⊢;exact e
       ·rw[oo hb]at e ⊢;exact t' _ _ e
      ·by_cases hb:b=p
       ·subst hb;exact .inr hp
       ·rw[oo hb]at e;exact .inl e
      ·have m:=t.trans (oI p0 (.tup [vx,vy]));exact oZ (Rep.mono m _ _ x2) (oZ (Rep.mono m _ _ y2) o5)
   ·have:=om a2;rw[FN]at hl;omega
  ·cases e
 ·cases e
end
end L4
namespace L4
open PySem PySem.Spec PySem.Calls PyProof.Rows PySem.W L2 L3
section
variable{X:Cx}{G:Bg}{pins:bW}{σ:St}{H:Hp}{s:af}
def CQ(K:ar)(H:Hp)(y:V)(k:aE):Prop:=∃a p q,y=.ref a/\k=[p,q]/\SqT K H a [.str p,.str q]
theorem MG(I:Inv X pins σ H s){y:V}{k:aE}{u:aa}(h:CQ X.K H y k)(r:RelV y u):∃a p q t v,u=.ref a/\k=[p,q]/\fD s.heap a #[.str p t,.str q v]:=by
 obtain⟨a,p,q,rfl,rfl,h1⟩:=h;cases r;obtain⟨its,ri,ti,_⟩:=I.tuple h1;cases ri with
 |cons q1 q2=>
  obtain⟨t,rfl⟩:=q1;cases q2 with
  |cons q3 q4=>obtain⟨v,rfl⟩:=q3;cases q4;exact⟨a,p,q,t,v,rfl,rfl,ti⟩
end
variable{its:List aa}
section
variable{prog:aD}{w:aw}{A:aH}{s:af}
def It2(h:Heap)(its:List aa)(ks:List aE):Prop:=∀i,i<its.length->∃a p q t v,its.getD i Value.none=.ref a/\ks.getD i []=[p,q]/\fD h a #[.str p t,.str q v]/\its[i]?=some (.ref a)
theorem Kt{ks:List aE}{C:gx->af->Prop}(item:It2 s.heap its ks)(h1:0<its.length)(hC:C (tuples' true) s):wpAny (model prog w) A (keyKind' its.toArray) C (λ_ _=>False) s:=by
 have tups:∀(l:List aa),(∀v∈l,∃i,i<its.length/\its[i]?=some v)->∃fs,KatTups s.heap l fs/\fs.length=l.length/\∀f∈fs,∃(x:Str) (t:Tok),f=.str x t:=λl=>by
  induction l with
  |nil=>exact λ_=>⟨[],KatTups.nil,rfl,λf hf=>by cases hf⟩
  |cons v l ih=>
   intro hv;obtain⟨fs,f1,f2,f3⟩:=ih λw hw=>hv w (.tail _ hw);obtain⟨i,hi,ei⟩:=hv v (.head _);obtain⟨a,p,q,t,w,_,_,⟨o,t1,t2,n,t3⟩,t5⟩:=item i hi;rw[ei]at t5;cases t5;refine⟨.str p t::fs,KatTups.cons t1 t2 t3 (by simp) f1,by rw[aI,aI,f2],λf hf=>?_⟩;rcases aL.mp hf with rfl|hf
   ·exact⟨p,t,rfl⟩
   ·exact f3 f hf
 obtain⟨fs,f1,f2,f3⟩:=tups its λv hv=>by obtain⟨i,hi,e⟩:=jo.mp hv;exact⟨i,hi,by rw[aS hi,e]⟩
 refine kat_kind (T:=.type "str") f1 (by omega) (λv hv=>?_) (by decide) ?_
 ·obtain⟨x,t,rfl⟩:=f3 v hv;exact .now
 ·rw[show (Value.type "str" != Value.type "tuple")=true by decide];exact hC
theorem MH{ks:List aE}{i j:Nat}{C:Bool->af->Prop}(item:It2 s.heap its ks)(hij:i<its.length/\j<its.length)(hC:C (AW (ks.getD i []) (ks.getD j [])) s):iV prog w A (tuples' true) its i j C s:=by
 obtain⟨a1,p1,q1,t1,v1,e1,k1,⟨o1,g1,c1,n1,d1⟩,_⟩:=item i hij.1;obtain⟨a2,p2,q2,t2,v2,e2,k2,⟨o2,g2,c2,n2,d2⟩,_⟩:=item j hij.2;unfold iV;rw[e1,e2];rw[k1,k2]at hC;refine kat_lt g1 d1 g2 d2 ?_;show KatLex _ _ _ _ _ _ [(Value.str p1 t1,Value.str p2 t2),(Value.str q1 v1,Value.str q2 v2)] 0 _;refine kat_cons (jx p1 t1 p2 t2 _ _ _ _ ?_);unfold AW at hC;by_cases hpp:p1=p2
 ·subst hpp;rw[aj rfl]at hC;rw[beq_self_eq_true];refine kat_yes (kat_cons (jx q1 v1 q2 v2 _ _ _ _ ?_));unfold AW at hC;by_cases hqq:q1=q2
  ·subst hqq;rw[aj rfl]at hC;rw[beq_self_eq_true];exact kat_yes (kat_nil hC)
  ·rw[ak hqq]at hC;rw[beq_false_of_ne hqq];exact kat_no (kat_one _ _ (PyProof.Rows.lt_str hC))
 ·rw[ak hpp]at hC;rw[beq_false_of_ne hpp];exact kat_no (oneLt_str hC)
end
section
variable{X:Cx}{G:Bg}{pins:bW}{σ:St}{H:Hp}{s:af}
theorem ED(hu:X.A.units+64<cLine):qf X (.builtin "sorted") (λxs H Q=>∃(a:Addr) (ys:bh) (ks:List aE),xs=[.ref a]/\SqL X.K H a ys/\0<ys.length/\ys.length<64/\ks.length=ys.length/\(∀(i:Nat) (y:V) (k:aE),ys[i]?=some y->ks[i]?=some k->CQ X.K H y k)/\
  ∀p,H p=none->Q (.ref p) (upd H p (.lst ((F1 (λi j=>AW (ks.getD i []) (ks.getD j [])) ys.length).map λi=>ys.getD i V.non)))):=by
 intro pins s σ H xs us Q I r h;obtain⟨a,ys,ks,rfl,hq,h1,h64,hkl,hp,q⟩:=h;obtain⟨u,rfl,ru⟩:=vals1 r;cases ru;obtain⟨its,ri,T,ob,nn,hT,b1,b2,b3⟩:=seq_val I (.inl hq);have hl:ys.length=its.length:=ri.length;have item:∀{h':Heap},(∀b o,s.heap.get? b=some o->h'.get? b=some o)->It2 h' its ks:=λ{h'} kk i hi=>by
  have I':Inv X pins σ H { s with heap:=h',toks:=s.toks }:=I.kept kk;have hy:i<ys.length:=by omega
  have hk:i<ks.length:=by omega
  obtain⟨u,e,ru⟩:=ri.get (aS hy);obtain⟨a,p,q,t,v,rfl,ek,ti⟩:=MG I' (hp i _ _ (aS hy) (aS hk)) ru;refine⟨a,p,q,t,v,?_,?_,ti,e⟩
  ·rw[cB,e];rfl
  ·rw[cB,aS hk];exact ek
 refine Hl (κ:=tuples' true) (c:=λi j=>AW (ks.getD i []) (ks.getD j [])) hT b1 b2 b3 (by omega) (by omega) (λh' C kk hC=>Kt (s:={ s with heap:=h' }) (item kk) (by omega) hC) (λh' i j C kk hij hC=>MH (s:={ s with heap:=h' }) (item kk) hij hC) λg h' e k1 k2 ho=>?_
 ·have I1:Inv X pins σ H { s with heap:=g,toks:=s.toks }:=I.kept k1;refine⟨.ref g.objs.size,_,I1.laid (t':=s.toks) k2 (aK _) ?_,rfl,q _ (I1.hok.fresh (aK _))⟩;have hn:0<ys.length:=h1;refine⟨?_,zQ _ its,e,?_,ho⟩
  ·rw[ah,(zR _ hn).length_eq,fW,bC];omega
  ·unfold zQ;rw[<-hl];exact Dw ri _ λi hi=>Ba _ hn i hi
end
def MI:D->Option aE
 |.tup [.str p,.str q]=>some [p,q]
 |_=>none
def wX:aC->Option (List aE)
 |[]=>some []
 |d::ds=>match MI d,wX ds with
  |some k,some ks=>some (k::ks)
  |_,_=>none
def tI(ds:aC):Option aC:=match wX ds with
 |some ks=>if 0<ds.length/\ds.length<64 then some ((F1 (λi j=>AW (ks.getD i []) (ks.getD j [])) ds.length).map λi=>ds.getD i .non)else none
 |none=>none
def zU(f:FE):FA:=λρ=>match f ρ with
 |some (.lst ds,ρ')=>match tI ds with
  |some es=>some (es,ρ')
  |none=>none
 |_=>none
section
variable{X:Cx}{G:Bg}{H:Hp}
theorem MJ{d:D}{v:V}{k:aE}(r:Rep G H d v)(e:MI d=some k):CQ G.K H v k:=by
 unfold MI at e;split at e
 ·rename_i p q;cases e;unfold Rep at r;obtain⟨a,xs,rfl,h1,h2⟩:=r;unfold oi at h2;obtain⟨v1,r1,rfl,q1,q2⟩:=h2;unfold oi at q2;obtain⟨v2,r2,rfl,q3,q4⟩:=q2;unfold oi at q4;unfold Rep at q1 q3;subst q4 q1 q3;exact⟨a,p,q,rfl,rfl,h1⟩
 ·cases e
theorem DB:∀{ds:aC} {ks:List aE},wX ds=some ks->ks.length=ds.length
 |[],ks,e=>by cases e;rfl
 |d::ds,ks,e=>by
  unfold wX at e;cases e1:MI d with
  |none=>rw[e1]at e;cases e
  |some k=>
   cases e2:wX ds with
   |none=>rw[e1,e2]at e;cases e
   |some ks'=>rw[e1,e2]at e;cases e;rw[aI,aI,DB e2]
theorem DC:∀{ds:aC} {ks:List aE} {xs:bh},oi G H ds xs->wX ds=some ks->∀(i:Nat) (y:V) (k:aE),xs[i]?=some y->ks[i]?=some k->CQ G.K H y k
 |[],ks,xs,r,e,i,y,k,h1,h2=>by cases e;cases h2
 |d::ds,ks,xs,r,e,i,y,k,h1,h2=>by
  unfold wX at e;cases e1:MI d with
  |none=>rw[e1]at e;cases e
  |some k'=>
   cases e2:wX ds with
   |none=>rw[e1,e2]at e;cases e
   |some ks'=>
    rw[e1,e2]at e;cases e;unfold oi at r;obtain⟨v,r',rfl,q1,q2⟩:=r;cases i with
    |zero=>cases h1;cases h2;exact MJ q1 e1
    |succ i=>exact DC q2 e2 i y k h1 h2
theorem CQ.mono{K:ar}{H0 H1:Hp}{y:V}{k:aE}(s:ox H0 H1)(h:CQ K H0 y k):CQ K H1 y k:=by obtain⟨a,p,q,e1,e2,h1⟩:=h;exact⟨a,p,q,e1,e2,SqT.mono s h1⟩
theorem F6{e:Expr}{f:FE}(h:PE X e (tCB (λxs H Q=>∃(a:Addr) (ys:bh) (ks:List aE),xs=[.ref a]/\SqL G.K H a ys/\0<ys.length/\ys.length<64/\ks.length=ys.length/\(∀(i:Nat) (y:V) (k:aE),ys[i]?=some y->ks[i]?=some k->CQ G.K H y k)/\
  ∀p,H p=none->Q (.ref p) (upd H p (.lst ((F1 (λi j=>AW (ks.getD i []) (ks.getD j [])) ys.length).map λi=>ys.getD i V.non)))) (tFA G (n4 f oF)))):PE X e (tFN G (zU f)):=PE.weak h λσ H Q hh=>by
 obtain⟨F,ρ,H0,es,ρ',R,e,k⟩:=hh;unfold zU at e;split at e
 ·rename_i ds ρ1 e1;cases e2:tI ds with
  |none=>simp only[e2]at e;cases e
  |some es'=>
   simp only[e2]at e;cases e;unfold tI at e2;cases e3:wX ds with
   |none=>simp only[e3]at e2;cases e2
   |some ks=>
    simp only[e3]at e2;split at e2
    ·rename_i hh;obtain⟨hn,h64⟩:=hh;cases e2;refine⟨F,ρ,H0,[.lst ds],_,R,by unfold n4;rw[e1];rfl,λys H1 H1' s R' rs=>?_⟩;unfold oi at rs;obtain⟨v,r0,rfl,rv,rn⟩:=rs;unfold oi at rn;subst rn;unfold Rep at rv;obtain⟨a,xs,rfl,h1,h2⟩:=rv;have hl:=om h2;refine⟨a,xs,ks,rfl,SqL.of (R'.sub _ _ h1),by omega,by omega,by rw[DB e3,hl],λi y kk q1 q2=>CQ.mono R'.sub (DC h2 e3 i y kk q1 q2),λp hp=>?_⟩;refine k p _ _ _ s (R'.newOwn hp _) oq (R'.h0none hp) (R'.bNone hp) (R'.apart hp) ?_;rw[<-hl];exact Dx h2 _ λi hi=>Ba _ hn i hi
    ·cases e2
 ·cases e
theorem CS(hu:X.A.units+64<cLine)(hK:X.K=G.K:=by rfl):qf X (.builtin "sorted") (λxs H Q=>∃(a:Addr) (ys:bh) (ks:List aE),xs=[.ref a]/\SqL G.K H a ys/\0<ys.length/\ys.length<64/\ks.length=ys.length/\(∀(i:Nat) (y:V) (k:aE),ys[i]?=some y->ks[i]?=some k->CQ G.K H y k)/\
  ∀p,H p=none->Q (.ref p) (upd H p (.lst ((F1 (λi j=>AW (ks.getD i []) (ks.getD j [])) ys.length).map λi=>ys.getD i V.non)))):=by rw[<-hK];exact ED hu
end
end L4
namespace L4
open PySem PySem.Spec PyProof.Rows L2 L3
def GDa(K:ar)(x nm:Str)(st:Stmt):Prop:=∃(f:Addr) (fd:bD),fC K mainGlobals x=some (some (.ref f))/\Fun K nm nm st f fd
theorem gFa{P:aD}{w:aw}{mg:Str->Option aa}{base:Heap}{G:Bg}{x nm:Str}{st:Stmt}{N ps:aE}{k np n:Nat}{g:aC->Option D}{b:FS}(hg:g=fnD np n b)(y:Yw P w mg base G)(q:GDa G.K x nm st)(S:pY N ps (oE st))(body:Bdi P w G.K mg base N nm st k (tFS G b))(hp:ps.length=np:=by rfl)(hN:N.length=n:=by rfl)(bd:Bds nm nm st ps:=by (repeat intro _);rfl):vd P w G.K mg base (k+1) x ps (spF G g):=by obtain⟨f,fd,a,F⟩:=q;exact⟨f,fd,y.g a,F.kp,bd.ok F,IE hg hp hN F S λ_ _ _ _ _ _ hr=>body hr⟩
structure Bz where
 P:aD
 w:aw
 mg:Str->Option aa
 base:Heap
 G:Bg
structure ZE(X:Cx)(B:Bz)(e:Expr)(f:FE):Prop where p:PE X e (tF B.G f)
structure ZN(X:Cx)(B:Bz)(e:Expr)(f:FA):Prop where p:PE X e (tFN B.G f)
structure ZT(X:Cx)(B:Bz)(e:Expr)(f:FT):Prop where p:PT X e (tFT B.G f)
structure ZW(X:Cx)(B:Bz)(e:Expr)(f:FT):Prop where p:PW X e (tFT B.G f)
structure ZF(X:Cx)(B:Bz)(e:List Expr)(f:FT):Prop where p:PIf X e (tFT B.G f)
structure ZA(X:Cx)(B:Bz)(e:List Expr)(f:FA):Prop where p:PA X e (tFA B.G f)
structure ZM(X:Cx)(B:Bz)(e:List Expr)(i:Nat)(f:FA):Prop where p:PA X e (Ke B.G i f)
structure ZS(X:Cx)(B:Bz)(e:Stmt)(f:FS):Prop where p:PS X e (tFS B.G f)
structure ZB(X:Cx)(B:Bz)(e:List Stmt)(f:FS):Prop where p:PSs X e (tFS B.G f)
structure ZI(X:Cx)(B:Bz)(tg e:Expr)(f:FA):Prop where p:PI X tg e (tFI B.G f)
structure ZO(X:Cx)(B:Bz)(e:Option Expr)(f:FO):Prop where p:PO X e (tFO B.G f)
structure ZG(X:Cx)(B:Bz)(e:Expr)(n:Nat)(f:FG):Prop where p:PG X e (tFG B.G n f)
structure ZH(X:Cx)(B:Bz)(e:List Expr)(n:Nat)(f:aC->aV->Option aV):Prop where p:PGs X e (Lw B.G n f)
structure ZK(X:Cx)(e:Option Expr)(i:Option Int):Prop where p:PO X e (tO i)
structure ZP(X:Cx)(B:Bz)(pos:Pos)(ks:List (Option Expr))(vs:List Expr)(l:List (Str×FE)):Prop where p:PPs X pos ks vs (Ms B.G l)
structure ZV(X:Cx)(e:Expr)(i:Nat):Prop where p:PE X e (uN i)
abbrev Gz(X:Cx)(x:Str):Prop:=X.env.kindOf x=some .globalImplicit
abbrev Dz(x:Str):Prop:=(x==("__debug__" : Str))=false
abbrev Nz(x:Str):Prop:=(decide (x≠"__name__")&&!(x==("__debug__" : Str)))=true
abbrev Sz(X:Cx)(e:Expr)(es:List Expr):Prop:=starEach (e::es) X.env=(false,eval e X.env)::starEach es X.env
abbrev S1(X:Cx)(e:Expr):Prop:=starEach [e] X.env=[(false,eval e X.env)]
abbrev Lz(X:Cx)(pos:Pos)(es:List Expr):Prop:=(backTo pos (starEach es X.env)).any (·.1)=false
abbrev Wz(X:Cx)(e o:Expr)(pos:Pos):Prop:=swapsWith e (some o) pos.line X.env=pure false
abbrev Az(X:Cx)(o:Expr)(m:Str):Prop:=attributeBase o m X.env (eval o X.env)=eval o X.env
abbrev Ez(p pos:Pos):Prop:=(p.endLine==pos.line)=true
abbrev Iz(e:Expr):Prop:=(λo i=>subscripted e false o i)=λo i=>operate [o,i] (getItem o i)
abbrev Fz(X:Cx)(e:Expr):Prop:=(λx=>foldedSetIterable e X.env x)=λx=>pure x
class Cz(X:Cx)(B:outParam Bz)(k:outParam Nat):Prop where
 P:X.prog=B.P
 w:X.w=B.w
 K:X.K=B.G.K
 mg:X.mg=B.mg
 b:X.base=B.base
 c:X.calm=true
 r:qc k X.A
class Yb(B:Bz):Prop where y:Yw B.P B.w B.mg B.base B.G
class Df(B:Bz)(j:outParam Nat)(x:Str)(sp:Sp):Prop where p:∃ps,vd B.P B.w B.G.K B.mg B.base j x ps sp
class Kf(B:Bz)(j:outParam Nat)(x:Str)(c:Nat)(g:aC->Option (aE×aC))(dds:aC):Prop where
 p:∃ps,En B.G B.P B.w B.mg B.base j x c ps (dds.map vD) g
 f:dds.all qI=true
class Mf(B:Bz)(j:outParam Nat)(m:Str)(g:Nat->Option (aC->Option D)):Prop where p:∀c h,g c=some h->zM B.G B.P B.w B.mg B.base j m c h
class Ff(B:Bz)(ok:Nat->Bool)(f:Str):Prop where p:∀c,ok c=true->Cls B.G.K (B.G.ca c)/\ub B.G.K (B.G.ca c) f
class Af(B:Bz)(c:Nat)(xs:outParam aE):Prop where p:CF B.G.K (B.G.ca c) xs
class Nb(B:Bz)(x:Str):Prop where p:B.mg x=none
class Co(B:Bz)(x:Str)(d:D):Prop where p:xG B.G B.mg x d
class Ic(B:Bz)(x:Str)(t:Ty->Option Bool):Prop where p:∃c,G6 B.G c t/\B.mg x=some (.ref (B.G.ca c))
class Ij(B:Bz)(n:Nat):Prop where p:∀j k,j<n->k<n->B.G.ca j=B.G.ca k->j=k
class OpC(op:iP)(g:D->D->Option D):Prop where p:∀(X:Cx) (G:Bg),∃r,OpR X (binaryOp op) r/\OpD G r g
instance in1:OpC .Mod rM:=⟨λ_ _=>⟨_,Ry,Sn⟩⟩
instance in2:OpC .FloorDiv xT:=⟨λ_ _=>⟨_,Oa,So⟩⟩
instance in3:OpC .Mult tq:=⟨λ_ _=>⟨_,Rx,Sm⟩⟩
instance in4:OpC .Sub LK:=⟨λ_ _=>⟨_,Rv,Sk⟩⟩
instance in5:OpC .Pow Ag:=⟨λ_ _=>⟨_,RA,Sq⟩⟩
instance in6:OpC .Add pO:=⟨λ_ _=>⟨_,Ru,Sj⟩⟩
instance in8:OpC .Mult FK:=⟨λ_ _=>⟨_,GY,PJ⟩⟩
class CmC(op:cn)(g:D->D->Option D):Prop where p:∀(X:Cx) (G:Bg),X.K=G.K->X.A.units+64<cLine->∃r,OpR X (compareOp op) r/\OpD G r g
instance in9:CmC .Eq (dEq false):=⟨λ_ _ h u=>⟨_,Sw u h,V8⟩⟩
instance in10:CmC .NotEq (dEq true):=⟨λ_ _ h u=>⟨_,Sx u h,V9⟩⟩
instance in11:CmC .In (dIn false):=⟨λ_ _ h _=>⟨_,Sy h,QQ⟩⟩
instance in12:CmC .NotIn (dIn true):=⟨λ_ _ h _=>⟨_,JU h,QQ⟩⟩
instance in13:CmC .Is xN:=⟨λ_ _ _ _=>⟨_,RB,Ss⟩⟩
instance in14:CmC .IsNot Dp:=⟨λ_ _ _ _=>⟨_,Ob,O7⟩⟩
instance in16:CmC .Lt Fv:=⟨λ_ _ _ _=>⟨_,VB,V4⟩⟩
instance in17:CmC .LtE tH:=⟨λ_ _ _ _=>⟨_,VC,V5⟩⟩
instance in18:CmC .Gt LL:=⟨λ_ _ _ _=>⟨_,VD,V6⟩⟩
instance in19:CmC .GtE Si:=⟨λ_ _ _ _=>⟨_,VE,V7⟩⟩
instance in20:CmC .LtE LM:=⟨λ_ _ _ _=>⟨_,JK,Sr⟩⟩
class B1(x:Str)(g:D->Option D):Prop where p:∀(X:Cx) (G:Bg),X.K=G.K->X.calm=true->∃(id:String) (r:bh->Hp->VK->Prop),qf X (.builtin id) r/\Fy G r g/\bootBuiltins x=some (.builtin id)
instance in21:B1 "len" qh:=⟨λ_ _ h _=>⟨_,_,JW h,SA,m6⟩⟩
instance in22:B1 "all" ud:=⟨λ_ _ h c=>⟨_,_,JX c h,SC,boot_all⟩⟩
instance in23:B1 "any" AU:=⟨λ_ _ h c=>⟨_,_,J3 c h,SJ,boot_any⟩⟩
class KtC(x:Str)(T:outParam String):Prop where p:(∀(X:Cx) (G:Bg) y b,qb T y=some b->cH X.K (y.val G) (.type T)=some b)/\bootBuiltins x=some (.type T)
instance in24:KtC "str" "str" := ⟨λ_ _=>Pd,Pv.boot_str⟩
instance in25:KtC "int" "int" := ⟨λ_ _=>Px,Pv.boot_int⟩
instance in26:KtC "bool" "bool" := ⟨λ_ _=>Mr,Pv.boot_bool⟩
instance in27:KtC "list" "list" := ⟨λ_ _=>LY,Pv.boot_list⟩
instance in28:KtC "tuple" "tuple" := ⟨λ_ _=>kit_tuple,Pv.boot_tuple⟩
theorem QW{G:Bg}{H:Hp}:∀{dds:aC},dds.all qI=true->oi G H dds (dds.map vD)
 |[],_=>o5
 |d::ds,h=>by rw[de,aY]at h;exact oZ (wN h.1 H) (QW h.2)
theorem eqI{α:Sort u}{a b:α}(h:a=b):a=b:=h
def sees(X:Cx)(i:Nat)(x:Str):Bool:=decide (X.N[i]?=some x)&&(match X.env.scope.names.lookup x with|some .local=>true|some .cell=>true|some .free=>true|_=>false)&&!(x==("__debug__" : Str))&&!(x==("__classdict__" : Str))
def sets(X:Cx)(i:Nat)(x:Str):Bool:=decide X.N.Nodup&&decide (X.N[i]?=some x)&&(match X.env.scope.names.lookup x with|some .local=>true|some .cell=>X.fn x|_=>false)
variable{ft fu:FT}{id T:String}{r:bh->Hp->VK->Prop}{lo:Option Expr}{body:List Stmt}
section
variable{X:Cx}{B:Bz}{k j i n c0:Nat}{x m:Str}{e e' o tg it:Expr}{es:List Expr}{p p2 p3 pos apos:Pos}{f f' f2:FE}{a:FA}{g:D->D->Option D}
theorem pvI(h:sees X i x=true):PE X (.Name x p) (uN i):=by
 unfold sees at h;simp only[aY,bu,eV]at h;obtain⟨⟨⟨h1,h2⟩,h3⟩,h4⟩:=h;refine pv i h1 ?_ h3 h4;unfold Vis;split at h2
 ·rename_i e;exact .inl e
 ·rename_i e;exact .inr (.inl e)
 ·rename_i e;exact .inr (.inr e)
 ·cases h2
theorem Wr(h:sees X i x=true):ZE X B (.Name x p) (cV i):=⟨GZ (pvI h)⟩
theorem S5(h:sees X i x=true):ZE X B (.Name x p) (cFz i):=⟨V3 (pvI h)⟩
theorem PU(h:sees X i x=true):ZN X B (.Name x p) (JS i):=⟨O2 (pvI h)⟩
theorem EE(h:sets X i x=true):X.N.Nodup/\X.N[i]?=some x/\L2.Loc X.env.scope x/\(X.fn x=true\/X.env.scope.names.lookup x=some .local):=by
 unfold sets at h;simp only[aY,bu]at h;obtain⟨⟨h1,h2⟩,h3⟩:=h;unfold L2.Loc;split at h3
 ·rename_i e;exact⟨h1,h2,.inl e,.inr e⟩
 ·rename_i e;exact⟨h1,h2,.inr e,.inl h3⟩
 ·cases h3
theorem pgI(h:sets X i x=true):PG X (.Name x p) (t8 i):=by obtain⟨h1,h2,h3,h4⟩:=EE h;exact HW h1 h2 h3 h4
theorem S6(h:sets X i x=true)(hi:Nat.blt i n=true):ZG X B (.Name x p) n (gN i):=⟨Lx n (pgI h) (Nat.blt_eq.mp hi)⟩
theorem stW{te:TE}(h:sets X i x=true)(he:PE X e te)(hs:Wz X e (.Name x p) pos):PS X (.Assign [.Name x p] e pos) (yJ te (t8 i)):=by obtain⟨h1,h2,h3,h4⟩:=EE h;exact Rm h1 h2 h3 he hs h4
theorem S7(h:sets X i x=true)(he:ZE X B e f)(hs:Wz X e (.Name x p) pos):ZS X B (.Assign [.Name x p] e pos) (oQ i f):=⟨Ir (stW h he.p hs)⟩
theorem S8(h:sets X i x=true)(he:ZN X B e a)(hs:Wz X e (.Name x p) pos):ZS X B (.Assign [.Name x p] e pos) (tm i a):=⟨LA (stW h he.p hs)⟩
theorem S9(h:sets X i x=true)(hs:Wz X (.Dict [] [] p2) (.Name x p) pos):ZS X B (.Assign [.Name x p] (.Dict [] [] p2) pos) (xU i):=⟨L6 (stW h Fd hs)⟩
theorem Ta{op:iP}[O:OpC op g](ha:ZE X B e f)(hb:ZE X B e' f'):ZE X B (.BinOp e op e' pos) (c2 g f f'):=by obtain⟨r,h1,h2⟩:=O.p X B.G;exact⟨VT h1 h2 ha.p hb.p⟩
theorem Tb [C:Cz X B k](ha:ZE X B e f)(hb:ZE X B e' f')(hs:Iz e'):ZE X B (.Subscript e e' pos) (c2 dIx f f'):=⟨VU (W8 C.K) Wa ha.p hb.p λo i=>congrFun (congrFun hs o) i⟩
theorem PV [C:Cz X B k](h:sees X i x=true)(hb:ZE X B e' f')(hs:Iz e'):ZE X B (.Subscript (.Name x p) e' pos) (G1 i f'):=⟨Sg (QK (Lm B.G.K C.K) (pvI h) hb.p λo i=>congrFun (congrFun hs o) i)⟩
theorem Tc [C:Cz X B k](ha:ZE X B e f)(hb:ZE X B e' f')(hs:Iz e'):ZE X B (.Subscript e e' pos) (c2 ph f f'):=⟨Pf (Fe C.r) ha.p hb.p λo i=>congrFun (congrFun hs o) i⟩
section
variable{op op':cn}{g':D->D->Option D}
theorem Td [O:CmC op g][C:Cz X B k](ha:ZE X B e f)(hb:ZE X B e' f')(hm:behindInMarks op e'=false):ZE X B (.Compare e [op] [e'] pos) (c2 g f f'):=by obtain⟨r,h1,h2⟩:=O.p X B.G C.K C.r.units;exact⟨R0 h1 h2 ha.p hb.p hm⟩
theorem Te [O:CmC op g][C:Cz X B k](ha:ZE X B e f)(hb:ZE X B e' f')(hm:behindInMarks op e'=false):ZT X B (.Compare e [op] [e'] pos) (cT (c2 g f f')):=by obtain⟨r,h1,h2⟩:=O.p X B.G C.K C.r.units;exact⟨OE h1 h2 ha.p hb.p hm⟩
theorem Tf [O:CmC op g][O':CmC op' g'][C:Cz X B k](ha:ZE X B e f)(hb:ZE X B e' f')(hc:ZE X B o f2)(hm:lastMarks [op,op'] [e',o]=false):ZE X B (.Compare e [op,op'] [e',o] pos) (qQ g g' f f' f2):=by obtain⟨r,h1,h2⟩:=O.p X B.G C.K C.r.units;obtain⟨r',h3,h4⟩:=O'.p X B.G C.K C.r.units;exact⟨LU h1 h3 h2 h4 ha.p hb.p hc.p hm⟩
theorem Tg [O:CmC op g][O':CmC op' g'][C:Cz X B k](ha:ZE X B e f)(hb:ZE X B e' f')(hc:ZE X B o f2)(hm:lastMarks [op,op'] [e',o]=false):ZT X B (.Compare e [op,op'] [e',o] pos) (cT (qQ g g' f f' f2)):=by obtain⟨r,h1,h2⟩:=O.p X B.G C.K C.r.units;obtain⟨r',h3,h4⟩:=O'.p X B.G C.K C.r.units;exact⟨J1 h1 h3 h2 h4 ha.p hb.p hc.p hm⟩
end
theorem Ti(h:ZE X B e f)(he:(λwhole=>isTrue e X.env whole)=λwhole=>(do let v<-whole;standAt e.pos;holding [v] (truthy v))):ZT X B e (cT f):=⟨OF h.p λw=>congrFun he w⟩
theorem Tj(ha:ZT X B e ft)(hb:ZW X B (.BoolOp .Or (e'::es) pos) fu):ZT X B (.BoolOp .Or (e::e'::es) pos) (sy ft fu):=⟨PW.pt (Lq ha.p hb.p)⟩
theorem Tn(ha:ZT X B e ft)(hb:ZW X B (.BoolOp .And (e'::es) pos) fu):ZT X B (.BoolOp .And (e::e'::es) pos) (vc ft fu):=⟨PW.pt (OI ha.p hb.p)⟩
theorem To{d:D}[C:Cz X B k][Q:Co B x d](hg:Gz X x)(hd:Dz x):ZE X B (.Name x pos) (cC d):=⟨LW (C.mg▸Q.p) hg hd⟩
theorem Tp{ok:Nat->Bool}[C:Cz X B k][Q:Ff B ok m](he:ZE X B e f)(hb:Az X e m):ZE X B (.Attribute e m pos) (c1 (oN ok m) f):=⟨LC he.p (C.K▸Q.p) hb⟩
section
variable(hg:Gz X x)(hd:Dz x)(hs:Sz X e es)(hl:Lz X pos es)
include hg hd
theorem dz{sp:Sp}[C:Cz X B k][Q:Df B j x sp]:∃ps,vd X.prog X.w X.K X.mg X.base j x ps sp:=by rw[C.P,C.w,C.K,C.mg,C.b];exact Q.p
theorem Tq{g:aC->Option aC}[C:Cz X B k][Q:Df B j x (spN B.G g)](hj:dj j k=true):ZN X B (.Call (.Name x p) [] [] pos) (oX g oF):=by obtain⟨ps,q⟩:=dz hg hd (X:=X) (Q:=Q);exact⟨LV q (C.r.mono (dg.mp hj)) hg hd⟩
include hs hl
theorem Tr{g:aC->Option D}[C:Cz X B k][Q:Df B j x (spF B.G g)](ha:ZA X B (e::es) a)(hj:dj j k=true):ZE X B (.Call (.Name x p) (e::es) [] pos) (oa g a):=by obtain⟨ps,q⟩:=dz hg hd (X:=X) (Q:=Q);exact⟨SE q (C.r.mono (dg.mp hj)) ha.p hg hd hs hl⟩
theorem Ts{g:aC->Option aC}[C:Cz X B k][Q:Df B j x (spN B.G g)](ha:ZA X B (e::es) a)(hj:dj j k=true):ZN X B (.Call (.Name x p) (e::es) [] pos) (oX g a):=by obtain⟨ps,q⟩:=dz hg hd (X:=X) (Q:=Q);exact⟨Pa q (C.r.mono (dg.mp hj)) ha.p hg hd hs hl⟩
theorem Tt{g:aC->aC->Option (D×aC)}[C:Cz X B k][Q:Df B j x (spM B.G g)](hv:ZV X e i)(ha:ZA X B es a)(hj:dj j k=true):ZE X B (.Call (.Name x p) (e::es) [] pos) (pW g i a):=by obtain⟨ps,q⟩:=dz hg hd (X:=X) (Q:=Q);exact⟨Pb q (C.r.mono (dg.mp hj)) hv.p ha.p hg hd hs hl⟩
theorem Tu{g:aC->aC->Option (D×aC)}[C:Cz X B k][Q:Df B j x (spL B.G g)](ha:ZM X B (e::es) i a)(hj:dj j k=true):ZE X B (.Call (.Name x p) (e::es) [] pos) (BO g i a):=by obtain⟨ps,q⟩:=dz hg hd (X:=X) (Q:=Q);exact⟨PH q (C.r.mono (dg.mp hj)) ha.p hg hd hs hl⟩
theorem Tv{g:aC->Option (aE×aC)}{dds:aC}[C:Cz X B k][Q:Kf B j x c0 g dds](ha:ZA X B (e::es) a)(hj:dj (j+1) k=true):ZE X B (.Call (.Name x p) (e::es) [] pos) (pD c0 (λds=>g (ds++dds)) a):=by obtain⟨ps,q⟩:=Q.p;exact⟨Pc (by rw[C.P,C.w,C.mg,C.b];exact q) (λH=>QW Q.f) (C.r.mono (dg.mp hj)) ha.p C.K hg hd hs hl⟩
end
theorem mz{g:Nat->Option (aC->Option D)}[C:Cz X B k][Q:Mf B j m g]:∀c h,g c=some h->zM B.G X.prog X.w X.mg X.base j m c h:=by rw[C.P,C.w,C.mg,C.b];exact Q.p
theorem Tw{g:Nat->Option (aC->Option D)}{pl:Sem Bool}[C:Cz X B k][Q:Mf B j m g](ho:ZE X B o f)(hj:dj j k=true)
  (ht:eval (.Call (.Attribute o m apos) [] [] pos) X.env=(do
   let ov<-eval o X.env
   standAt apos.atName
   let (f,first)<-holding [ov] (getMethod ov m pl)
   callWith pos f first (backTo pos (starEach [] X.env)) (backToKw pos (keywordEach [] X.env)))):ZE X B (.Call (.Attribute o m apos) [] [] pos) (o9 g m f oF):=⟨G4 mz (C.r.mono (dg.mp hj)) ho.p C.K ht⟩
theorem Tx{g:Nat->Option (aC->Option D)}{pl:Sem Bool}[C:Cz X B k][Q:Mf B j m g](ho:ZE X B o f)(ha:ZA X B (e::es) a)(hj:dj j k=true)(hs:Sz X e es)(hl:Lz X pos es)
  (ht:eval (.Call (.Attribute o m apos) (e::es) [] pos) X.env=(do
   let ov<-eval o X.env
   standAt apos.atName
   let (f,first)<-holding [ov] (getMethod ov m pl)
   callWith pos f first (backTo pos (starEach (e::es) X.env)) (backToKw pos (keywordEach [] X.env)))):ZE X B (.Call (.Attribute o m apos) (e::es) [] pos) (o9 g m f a):=⟨J2 mz (C.r.mono (dg.mp hj)) ho.p ha.p C.K hs hl ht⟩
section
variable(hg:Gz X x)(hd:Nz x)(hs:S1 X e)
include hg hd hs
theorem cbI{t:TA}[C:Cz X B k][N:Nb B x](hc:qf X (.builtin id) r)(hv:bootBuiltins x=some (.builtin id))(ha:PA X [e] t):PE X (.Call (.Name x p) [e] [] pos) (tCB r t):=by simp only[aY,bu,eV]at hd;exact Bn hc hg (C.mg▸N.p) hv ha hd.1 hd.2 hs rfl
theorem ctI{t:TA}[C:Cz X B k][N:Nb B x](hc:qf X (.type T) r)(hv:bootBuiltins x=some (.type T))(ha:PA X [e] t):PE X (.Call (.Name x p) [e] [] pos) (tCB r t):=by simp only[aY,bu,eV]at hd;exact JB hc hg (C.mg▸N.p) hv ha hd.1 hd.2 hs rfl
theorem TB{g:D->Option D}[Q:B1 x g][C:Cz X B k][N:Nb B x](ha:ZE X B e f):ZE X B (.Call (.Name x p) [e] [] pos) (c1 g f):=by obtain⟨id,r,h1,h2,h3⟩:=Q.p X B.G C.K C.c;exact⟨Wb h2 (cbI hg hd hs h1 h3 (rB ha.p sR hs))⟩
end
section
variable(hs:S1 X e)
include hs
theorem TC [C:Cz X B k][N:Nb B "list"](hg:Gz X "list")(ha:ZE X B e f):ZN X B (.Call (.Name "list" p) [e] [] pos) (wm f):=⟨LQ (ctI hg (by decide) hs (G3 C.K) Pv.boot_list (rB ha.p sR hs))⟩
theorem TF [C:Cz X B k][N:Nb B "tuple"](hg:Gz X "tuple")(ha:ZE X B e f):ZE X B (.Call (.Name "tuple" p) [e] [] pos) (Ah f):=⟨LR (ctI hg (by decide) hs (JZ C.K) Pv.boot_tuple (rB ha.p sR hs))⟩
theorem TH [C:Cz X B k][N:Nb B "sorted"](hg:Gz X "sorted")(ha:ZE X B e f):ZN X B (.Call (.Name "sorted" p) [e] [] pos) (zU f):=⟨F6 (cbI hg (by decide) hs (CS C.r.units C.K) ko (rB ha.p sR hs))⟩
theorem TJ [C:Cz X B k][N:Nb B "sorted"](hg:Gz X "sorted")(ha:ZE X B e f):ZN X B (.Call (.Name "sorted" p) [e] [] pos) (yw f):=⟨F4 (cbI hg (by decide) hs (CP C.K) ko (rB ha.p sR hs))⟩
theorem TL [C:Cz X B k][N:Nb B "len"][N':Nb B "set"](hg:Gz X "len")(hg':Gz X "set")(ha:ZE X B e f)(z:starEach [Expr.Call (.Name "set" p2) [e] [] p3] X.env=[(false,eval (.Call (.Name "set" p2) [e] [] p3) X.env)]):ZE X B (.Call (.Name "len" p) [.Call (.Name "set" p2) [e] [] p3] [] pos) (c1 Eu f):=⟨J8 C.K (J7 Wl C.r.units C.c hg (C.mg▸N.p) hg' (C.mg▸N'.p) ha.p z hs)⟩
theorem TM [C:Cz X B k][N:Nb B "range"](hg:Gz X "range")(ha:ZE X B e f):ZI X B tg (.Call (.Name "range" p) [e] [] pos) (iR1 f):=⟨G2 (Jw hg (C.mg▸N.p) (rB ha.p sR hs) hs)⟩
end
section
variable(hi:Gz X "isinstance")(hg:Gz X x)(hs:starEach [e,.Name x p2] X.env=[(false,eval e X.env),(false,eval (.Name x p2) X.env)])(hs':S1 X (.Name x p2))
include hi hg hs hs'
theorem TN [Q:KtC x T][C:Cz X B k][N:Nb B "isinstance"][N':Nb B x](ha:ZE X B e f)(hd:Nz x):ZE X B (.Call (.Name "isinstance" p) [e,.Name x p2] [] pos) (c1 (qX (qb T)) f):=by
 simp only[aY,bu,eV]at hd;refine⟨ID (c:=.b T) (Bn (Dr (.b T) (Q.p.1 X B.G) LX C.K) hi (C.mg▸N.p) boot_isinstance (qS ha.p (qS (N3 (v:=.ty T) hg (C.mg▸N'.p) Q.p.2 rfl hd.1 hd.2) uO ?_) ?_) (by decide) (by decide) ?_ ?_)⟩
 ·exact hs'
 ·rw[hs,hs']
 ·rw[hs,hs']
 ·rw[hs'];rfl
theorem TQ{t:Ty->Option Bool}[Q:Ic B x t][C:Cz X B k][N:Nb B "isinstance"](ha:ZE X B e f)(hd:Dz x):ZE X B (.Call (.Name "isinstance" p) [e,.Name x p2] [] pos) (c1 (qX t) f):=by
 obtain⟨c,q1,q2⟩:=Q.p;refine⟨ID (c:=.c c) (Bn (G7 q1 C.K) hi (C.mg▸N.p) boot_isinstance (qS ha.p (qS (HU (v:=.ref (B.G.ca c)) hg (C.mg▸q2) rfl hd) uO ?_) ?_) (by decide) (by decide) ?_ ?_)⟩
 ·exact hs'
 ·rw[hs,hs']
 ·rw[hs,hs']
 ·rw[hs'];rfl
end
section
variable(hb:Az X o m)(hl:Ez apos pos)(hs:S1 X e)
include hb hl hs
theorem bmI{r:V->bh->Hp->VK->Prop}{to:TE}{t:TA}[C:Cz X B k](pa:ky T)(slot:Slot T m id)(hty:typeOf (.builtin id)=pure (.type "method_descriptor"))(hm:MtR X id r)(ho:PE X o to)(ha:PA X [e] t):PE X (.Call (.Attribute o m apos) [e] [] pos) (tBM B.G.K T r to t):=
 Ln B.G.K pa slot hty hm ho ha hb (by rw[hs];rfl) hl hs rfl C.K
end
section
variable(h:sees X i x=true)(hb:Az X (.Name x p) m)(hl:Ez apos pos)(hs:S1 X e)
include h hb hl hs
theorem TR [C:Cz X B k](hm:m="append")(ha:ZE X B e f):ZE X B (.Call (.Attribute (.Name x p) m apos) [e] [] pos) (uc i f):=by subst hm;exact⟨JR (bmI hb hl hs fX jy l9 zD (pvI h) (rB ha.p sR hs))⟩
theorem TU [C:Cz X B k](hm:m="extend")(ha:ZE X B e f):ZE X B (.Call (.Attribute (.Name x p) m apos) [e] [] pos) (Al i f):=by subst hm;exact⟨G9 (bmI hb hl hs fX jz F.type_list_extend (C.K▸G8) (pvI h) (qS ha.p uO hs))⟩
end
theorem TV [C:Cz X B k](h:sees X i x=true)(hb:Az X (.Name x p) "pop")(hl:Ez apos pos)(hs:S1 X (.Constant (.int 0) j p2)):ZE X B (.Call (.Attribute (.Name x p) "pop" apos) [.Constant (.int 0) j p2] [] pos) (Iv i):=⟨O1 (bmI hb hl hs fX mO F.type_list_pop Ld (pvI h) (qS GF uO hs))⟩
theorem TX [C:Cz X B k](ha:ZE X B e f)(hb:ZE X B e' f')(h1:Az X e "get")(h2:Ez apos pos)(h3:S1 X e'):ZE X B (.Call (.Attribute e "get" apos) [e'] [] pos) (c2 Ds f f'):=⟨L0 (Fe C.r) ha.p hb.p ⟨h1,by rw[h3];rfl,h2,by rw[h3];rfl⟩⟩
theorem TY{xs:aE}[C:Cz X B k][Q:Af B c0 xs](hx:xs.contains m=true)(h:sees X i x=true)(hv:ZE X B e f)(hs:Wz X e (.Attribute (.Name x p) m apos) pos):ZS X B (.Assign [.Attribute (.Name x p) m apos] e pos) (pz c0 i m f):=⟨O0 (RE (pvI h) hv.p hs) (by obtain⟨i,_,e⟩:=jt (lK.mp hx);exact C.K▸Q.p.at i (bN.mpr ⟨_,e⟩))⟩
theorem TZ [C:Cz X B k](h:sees X i x=true)(hk:ZE X B e' f')(hv:ZE X B e f)(hs:Wz X e (.Subscript (.Name x p) e' apos) pos):ZS X B (.Assign [.Subscript (.Name x p) e' apos] e pos) (pC i f' f):=⟨L7 (Ou (Fe C.r) (pvI h) hk.p hv.p hs)⟩
theorem T2{n:Nat}[Q:Ij B n](h:ZE X B e f):ZE X B e (uD n f):=⟨Pu Q.p h.p⟩
section
variable{ks:List (Option Expr)}{kfs:List (Str×FE)}
theorem T4:ZP X B pos [] [] []:=⟨Ov⟩
theorem T5{y:Str}(hv:ZE X B e f)(hr:ZP X B pos ks es kfs):ZP X B pos (some (.Constant (.str y) j p)::ks) (e::es) ((y,f)::kfs):=⟨Lh KM hv.p hr.p⟩
theorem T6(h:ZP X B pos ks es kfs)(h1:(ks.all (·.isSome)&&decide (ks.length=es.length)&&!ks.isEmpty&&decide (ks.length<=15)&&decide (kfs.map λq=>(Sum.inr q.1:Key)).Nodup&&decide (kfs.length<=15))=true):ZE X B (.Dict ks es pos) (Du kfs):=by simp only[aY,bu,eV]at h1;obtain⟨⟨⟨⟨⟨a1,a2⟩,a3⟩,a4⟩,a5⟩,a6⟩:=h1;exact⟨Py (Ow h.p a1 a2 (λz=>by rw[z]at a3;cases a3) a4) a5 a6⟩
end
theorem T7{hi:Option Expr}{fl fh:FO}[C:Cz X B k](he:ZE X B e f)(hl:ZO X B lo fl)(hh:ZO X B hi fh):ZN X B (.Subscript e (.Slice lo hi none p) pos) (uQ f fl fh):=⟨G5 (E7 (Wc C.K) he.p hl.p hh.p)⟩
theorem T8{hi:Option Expr}{l h:Option Int}[C:Cz X B k](he:ZE X B e f)(hl:ZK X lo l)(hh:ZK X hi h):ZN X B (.Subscript e (.Slice lo hi none p) pos) (cSl f l h):=⟨J0 (E7 (Wc C.K) he.p hl.p hh.p)⟩
theorem T9{y:Int}:ZK X (some (.Constant (.int y) j pos)) (some y):=⟨LS⟩
theorem Ua [C:Cz X B k](h:ZE X B e f):ZI X B tg e (iL f):=⟨Ft (Fl B.G.K h.p C.K)⟩
theorem Ub [C:Cz X B k](h:ZE X B e f):ZI X B tg e (iT f):=⟨O5 (OB B.G.K h.p C.K)⟩
theorem Uc(h:ZE X B e f):ZI X B tg e (iD f):=⟨Mg (Pq h.p)⟩
theorem Ud(h:ZE X B e f):ZI X B tg e (iS f):=⟨Pg (RT h.p)⟩
section
variable(hg:Gz X "zip")(hs:starEach [e,e'] X.env=[(false,eval e X.env),(false,eval e' X.env)])(hs2:S1 X e')
include hg hs hs2
theorem Ue [C:Cz X B k][N:Nb B "zip"](ha:ZA X B [e,e'] a):ZI X B (.Tuple es i p2) (.Call (.Name "zip" p) [e,e'] [] pos) (iZ a):=⟨Pt (SX hg (C.mg▸N.p) ha.p hs hs2)⟩
theorem Ug [C:Cz X B k][N:Nb B "zip"](ha:ZA X B [e,e'] a):ZI X B (.Tuple es i p2) (.Call (.Name "zip" p) [e,e'] [] pos) (iZT a):=⟨MF (PR B.G.K hg (C.mg▸N.p) ha.p C.K hs hs2)⟩
end
section
variable{gg:FG}{gs:aC->aV->Option aV}
theorem PX:ZH X B [] n qA:=⟨OO HY⟩
theorem PY(h1:ZG X B e n gg)(h2:ZH X B es n gs)(hs:(assignEach (e::es) X.env).map (·.2)=assign e X.env::(assignEach es X.env).map (·.2)):ZH X B (e::es) n (oG gg gs):=⟨Ly (Bi h1.p h2.p hs)⟩
theorem PZ{n' k':Nat}[C:Cz X B k](h:ZH X B es n gs)(hn:(assignEach es X.env).length=n')(ht:(assignEach es X.env).findIdx? (·.1)=none):ZG X B (.Tuple es k' pos) n (gT gs n'):=⟨OP (Im B.G.K C.c h.p hn ht C.K)⟩
end
def tgN:Expr->aE
 |.Name x _=>[x]
 |.Tuple es _ _=>es.filterMap λe=>match e with|.Name x _=>some x|_=>none
 |_=>[]
def cpN(X:Cx)(tg:Expr)(cap:List Nat):aE:=tgN tg++cap.map λj=>X.N.getD j ""
instance inCz [C:Cz X B k]{N':aE}{sc:cy}{cl:List (Str×Addr)}{A:Addr}{fp:List Addr}{s:af}{H:Hp}:Cz (qd X N' sc cl A fp s H) B k:=⟨C.P,C.w,C.K,C.mg,C.b,C.c,C.r⟩
def Uh(X:Cx)(N':aE)(sc:cy)(n:Nat)(cap:List Nat):Bool:=decide cap.Nodup&&decide (sc.kind=.function)&&(sc.names.all λy=>y.2 != .cell)&&(sc.names.all λy=>y.2 != .local||sc.names.lookup y.1==some .local)&&(sc.names.all λy=>y.2 != .free||(X.env.kindOf y.1==some .cell||X.env.kindOf y.1==some .free))&&decide (N'.length=n+cap.length)&&decide ((N'.drop n).map some=cap.map λj=>X.N[j]?)&&((N'.drop n).all λx=>sc.names.lookup x==some .free)
section
variable{sc:cy}{cap:List Nat}{ifs:List Expr}{gg:FG}{ft:FT}{s:FA}
 (h0:Uh X (cpN X tg cap) sc n cap=true) (hs:Fz X it) (hi:ZI X B tg it s)
 (h1:∀(cl:List (Str×Addr)) (A:Addr) (fp:List Addr) (s:af) (H:Hp),ZG (qd X (cpN X tg cap) sc cl A fp s H) B tg n gg)
 (h2:∀(cl:List (Str×Addr)) (A:Addr) (fp:List Addr) (s:af) (H:Hp),ZF (qd X (cpN X tg cap) sc cl A fp s H) B ifs ft)
 (h3:∀(cl:List (Str×Addr)) (A:Addr) (fp:List Addr) (s:af) (H:Hp),ZE (qd X (cpN X tg cap) sc cl A fp s H) B e f)
include h0 hs hi h1 h2 h3
theorem Ui [C:Cz X B k]:ZN X B (.ListComp e [⟨tg,it,ifs,0⟩] sc pos) (oJ n cap s gg ft f):=by unfold Uh at h0;simp only[aY,bu]at h0;obtain⟨⟨⟨⟨⟨⟨⟨a1,a2⟩,a3⟩,a4⟩,a5⟩,a6⟩,a7⟩,a8⟩:=h0;exact⟨LI a1 (OA (N':=cpN X tg cap) C.c hi.p (λcl A fp s H=>⟨(h1 cl A fp s H).p,(h2 cl A fp s H).p,(h3 cl A fp s H).p⟩) a2 a3 a4 a5 a6 a7 a8 λx=>congrFun hs x)⟩
theorem cpW [C:Cz X B k](h:sets X i x=true)(hw:swapsWith (.ListComp e [⟨tg,it,ifs,0⟩] sc pos) (some (.Name x p)) apos.line X.env=pure true):PS X (.Assign [.Name x p] (.ListComp e [⟨tg,it,ifs,0⟩] sc pos) apos) (yJ (Bv (tFI B.G s) (tFG B.G n gg) (tFT B.G ft) (tF B.G f) n cap) (t8 i))/\cap.Nodup:=by unfold Uh at h0;simp only[aY,bu]at h0;obtain⟨⟨⟨⟨⟨⟨⟨a1,a2⟩,a3⟩,a4⟩,a5⟩,a6⟩,a7⟩,a8⟩:=h0;obtain⟨b1,b2,b3,b4⟩:=EE h;exact⟨Pe (N':=cpN X tg cap) C.c b1 b2 b3 hi.p (λcl A fp s H=>⟨(h1 cl A fp s H).p,(h2 cl A fp s H).p,(h3 cl A fp s H).p⟩) a2 a3 a4 a5 a6 a7 a8 (λx=>congrFun hs x) hw b4,a1⟩
theorem Uj [C:Cz X B k](h:sets X i x=true)(hw:swapsWith (.ListComp e [⟨tg,it,ifs,0⟩] sc pos) (some (.Name x p)) apos.line X.env=pure true):ZS X B (.Assign [.Name x p] (.ListComp e [⟨tg,it,ifs,0⟩] sc pos) apos) (oQ i (cL (oJ n cap s gg ft f))):=by have z:=cpW (k:=k) h0 hs hi h1 h2 h3 h hw;exact⟨LZ z.2 z.1⟩
end
section
variable{st:Stmt}{sts:List Stmt}{fs fs':FS}{ft:FT}{a':FA}{z1:Nat}
theorem Ws(ha:ZE X B e f)(hr:ZA X B es a)(hs:Sz X e es):ZA X B (e::es) (n4 f a):=⟨rB ha.p hr.p hs⟩
theorem Wt:ZA X B [] oF:=⟨sR⟩
theorem Uk(ha:ZE X B e f)(hr:ZM X B es i a)(hs:Sz X e es):ZM X B (e::es) i (n4 f a):=⟨Kg ha.p hr.p hs⟩
theorem Ul(h:sees X i x=true)(hs:S1 X (.Name x p)):ZM X B [.Name x p] i oF:=⟨Mt (pvI h) hs⟩
theorem Um(h:sees X i x=true):ZV X (.Name x p) i:=⟨pvI h⟩
theorem Uo(h:ZN X B e a):ZE X B e (cL a):=⟨Sd h.p⟩
theorem Wu{y:Str}:ZE X B (.Constant (.str y) j pos) (cC (.str y)):=⟨RY⟩
theorem Wv{y:Int}:ZE X B (.Constant (.int y) j pos) (cC (.int y)):=⟨RX⟩
theorem Ww{y:Bool}:ZE X B (.Constant (.bool y) j pos) (cC (.bl y)):=⟨VS⟩
theorem Wx:ZE X B (.Constant .none j pos) (cC .non):=⟨RZ⟩
theorem MK(h1:ZS X B st fs)(h2:ZB X B sts fs'):ZB X B (st::sts) (oh fs fs'):=⟨Ls h1.p h2.p⟩
theorem Wy(h1:ZS X B st fs):ZB X B [st] fs:=⟨OM h1.p⟩
theorem WA:ZB X B [] oV:=⟨OL⟩
theorem Up(h:ZE X B e f):ZS X B (.Return (some e) pos) (oT f):=⟨ON h.p⟩
theorem Uq(h:ZN X B e a):ZS X B (.Return (some e) pos) (qg a):=⟨Lu h.p⟩
theorem Ur(h:ZE X B e f)(hs:swapsWith e none pos.line X.env=pure false):ZS X B (.Expr e pos) (o6 f):=⟨Lv h.p hs⟩
theorem Us(h:ZT X B e ft)(h1:ZB X B sts fs){sts':List Stmt}(h2:ZB X B sts' fs'):ZS X B (.If e sts sts' pos) (sIf ft fs fs'):=⟨Sf h.p h1.p h2.p⟩
theorem Ut:ZE X B e yp:=⟨L8⟩
theorem Uu(h:ZA X B es a):ZN X B (.List es pos) (pb a):=⟨OJ h.p⟩
theorem Uv(h:ZA X B es a):ZE X B (.Tuple es z1 pos) (qm a):=⟨Sb h.p⟩
theorem Uw(ha:ZE X B e f)(hb:ZE X B e' f'):ZN X B (.BinOp e .Add e' pos) (rq f f'):=⟨O8 ha.p hb.p⟩
theorem Ux [C:Cz X B k](ha:ZE X B e f)(hb:ZE X B e' f'):ZE X B (.BinOp e .Add e' pos) (Ak f f'):=⟨Ph ha.p hb.p C.K⟩
theorem Uy(ha:ZE X B e f)(hb:ZE X B (.BoolOp .And (e'::es) pos) f'):ZE X B (.BoolOp .And (e::e'::es) pos) (qz f f'):=⟨R9 ha.p hb.p⟩
theorem Uz{op}(ha:ZE X B e f):ZE X B (.BoolOp op [e] pos) f:=⟨R8 ha.p⟩
theorem UA(ha:ZE X B e f):ZE X B (.UnaryOp .Not e pos) (CK f):=⟨Sa ha.p⟩
theorem UB(ha:ZT X B e ft):ZT X B (.UnaryOp .Not e pos) (p5 ft):=⟨OG ha.p⟩
theorem UC(h:ZT X B o ft)(ha:ZE X B e f)(hb:ZE X B e' f'):ZE X B (.IfExp o e e' pos) (cIf ft f f'):=⟨VX h.p ha.p hb.p⟩
theorem WB(h:ZT X B e ft):ZF X B [e] ft:=⟨Oz h.p⟩
theorem WC:ZF X B [] pM:=⟨LJ⟩
theorem UD(h:ZE X B e f):ZE X B e (CN f):=⟨SD h.p⟩
theorem UE(h:ZT X B e ft):ZT X B e (Ai ft):=⟨O9 h.p⟩
theorem UF(h:ZE X B e f):ZO X B (some e) (oAt f):=⟨SL h.p⟩
theorem UG:ZO X B none oNo:=⟨SK⟩
theorem UH(ha:ZT X B e ft)(hb:ZW X B (.BoolOp .Or (e'::es) pos) fu):ZW X B (.BoolOp .Or (e::e'::es) pos) (sy ft fu):=⟨Lq ha.p hb.p⟩
theorem UI(h:ZT X B e ft):ZW X B (.BoolOp .Or [e] pos) ft:=⟨OH h.p⟩
theorem UJ(h:ZT X B e ft):ZW X B (.BoolOp .And [e] pos) ft:=⟨Lp h.p⟩
end
theorem UK{s:FA}{gg:FG}{b:FS}[C:Cz X B k](hp:iO (model X.prog X.w) X.A X.env X.xe)(hn:X.N.length=n)(hi:ZI X B tg it s)(hg:ZG X B tg n gg)(hb:ZB X B body b)(hs:Fz X it):ZS X B (.For tg it body [] pos) (rT s gg b):=⟨O6 (KW hp C.c hi.p hg.p hb.p λx=>congrFun hs x)⟩
theorem UL{b:FS}(hp:iO (model X.prog X.w) X.A X.env X.xe)(hc:ZT X B e ft)(hb:ZB X B body b):ZS X B (.While e body [] pos) (whL ft b n):=⟨JT n (KQ hp hc.p hb.p)⟩
end
end L4
namespace L4
open PySem PySem.Spec PyProof.Rows L2 L3
open PySem.W (fnOf)
def nmO(st:Stmt):aE:=(oE st).names.filterMap λy=>match y.2 with|.local=>some y.1|.cell=>some y.1|_=>none
def psO(st:Stmt):aE:=(rV st).args.map (·.arg)
def okO(N ps:aE)(st:Stmt)(np n:Nat):Bool:=decide ((oE st).kind=.function)&&(oE st).isCoroutine==false&&(oE st).isGenerator==false&&decide N.Nodup&&decide (N.take ps.length=ps)&&(ps.all λx=>match (oE st).names.lookup x with|some .local=>true|some .cell=>true|_=>false)&&((oE st).names.all λy=>y.2 != .free)&&decide (ps.length=np)&&decide (N.length=n)
theorem okk{N ps:aE}{st:Stmt}{np n:Nat}(h:okO N ps st np n=true):pY N ps (oE st)/\ps.length=np/\N.length=n:=by
 unfold okO at h;simp only[aY,bu,beq_iff_eq]at h;obtain⟨⟨⟨⟨⟨⟨⟨⟨h1,h2⟩,h3⟩,h4⟩,h5⟩,h6⟩,h7⟩,h8⟩,h9⟩:=h;refine⟨⟨h1,h2,h3,h4,h5,λx hx=>?_,λy hy e=>?_⟩,h8,h9⟩
 ·have z:=bw.mp h6 x hx;split at z
  ·rename_i e;exact .inl e
  ·rename_i e;exact .inr e
  ·cases z
 ·have z:=bw.mp h7 y hy;rw[e]at z;exact ao z (by decide)
section
variable{B:Bz}[Y:Yb B]{x m qual:Str}{st s0:Stmt}{l:List Stmt}{k c np n:Nat}{b:FS}{p:Str}{ps xs:aE}{N:aE}
abbrev Bdz(B:Bz)(N:aE)(qual:Str)(st:Stmt)(l:List Stmt)(k:Nat)(b:FS):Prop:=∀{f:Addr} {cdv:aa} {A:aH} {outer:List Env} {s:af} {H:Hp} {E:XK} [Cz (ve B.P B.w B.G.K B.mg B.base N qual st f cdv A outer s H E) B k],ZB (ve B.P B.w B.G.K B.mg B.base N qual st f cdv A outer s H E) B l b
omit Y in
theorem Bdz.ok(h:Bdz B N qual st l k b)(hl:o8 st=l):Bdy B.P B.w B.G.K B.mg B.base N qual st k (tFS B.G b):=λf cdv A outer s H E hr=>by subst hl;exact(@h f cdv A outer s H E ⟨rfl,rfl,rfl,rfl,rfl,rfl,hr⟩).p
theorem gF4{g:aC->Option D}(hg:g=fnD np n b)(q:GD B.G.K x st)(hl:o8 st=s0::l)(body:Bdz B (nmO st) x st (s0::l) k b)(S:okO (nmO st) (psO st) st np n=true:=by kernel_rfl)(bd:Bds x x st (psO st):=by (repeat intro _);rfl):Df B (k+1) x (spF B.G g):=
 ⟨_,gF hg Y.y q (okk S).1 (body.ok hl) (okk S).2.1 (okk S).2.2 bd⟩
theorem gF5(N:aE){g:aC->Option D}(hg:g=fnD np n b)(q:GD B.G.K x st)(hl:o8 st=s0::l)(body:Bdz B N x st (s0::l) k b)(S:okO N (psO st) st np n=true:=by kernel_rfl)(bd:Bds x x st (psO st):=by (repeat intro _);rfl):Df B (k+1) x (spF B.G g):=
 ⟨_,gF hg Y.y q (okk S).1 (body.ok hl) (okk S).2.1 (okk S).2.2 bd⟩
theorem gA4{fx:Str}{g:aC->Option D}(hg:g=fnD np n b)(q:GDa B.G.K x fx st)(hl:o8 st=s0::l)(body:Bdz B (nmO st) fx st (s0::l) k b)(S:okO (nmO st) (psO st) st np n=true:=by kernel_rfl)(bd:Bds fx fx st (psO st):=by (repeat intro _);rfl):Df B (k+1) x (spF B.G g):=
 ⟨_,gFa hg Y.y q (okk S).1 (λ{f cdv A outer s H E} hr=>body.ok hl f cdv A outer s H E hr) (okk S).2.1 (okk S).2.2 bd⟩
theorem gN4{g:aC->Option aC}(hg:g=fnN np n b)(q:GD B.G.K x st)(hl:o8 st=s0::l)(body:Bdz B (nmO st) x st (s0::l) k b)(S:okO (nmO st) (psO st) st np n=true:=by kernel_rfl)(bd:Bds x x st (psO st):=by (repeat intro _);rfl):Df B (k+1) x (spN B.G g):=
 ⟨_,gN' hg Y.y q (okk S).1 (body.ok hl) (okk S).2.1 (okk S).2.2 bd⟩
theorem gL4{g:aC->aC->Option (D×aC)}(hg:g=fnL np n b)(q:GD B.G.K x st)(hl:o8 st=s0::l)(body:Bdz B (nmO st) x st (s0::l) k b)(S:okO (nmO st) (psO st) st (np+1) n=true:=by kernel_rfl)(bd:Bds x x st (psO st):=by (repeat intro _);rfl):Df B (k+1) x (spL B.G g):=
 ⟨_,gL hg Y.y q (okk S).1 (body.ok hl) (okk S).2.1 (okk S).2.2 bd⟩
theorem gM4{g:aC->aC->Option (D×aC)}(hg:g=fnM np n b)(q:GD B.G.K x st)(hl:o8 st=s0::l)(hp:psO st=p::ps)(body:Bdz B (nmO st) x st (s0::l) k b)(S:okO (nmO st) (p::ps) st (np+1) n=true:=by kernel_rfl)(bd:Bds x x st (p::ps):=by (repeat intro _);rfl):Df B (k+1) x (spM B.G g):=
 ⟨_,gM hg Y.y q (okk S).1 (body.ok hl) (gq (okk S).2.1) (okk S).2.2 bd⟩
theorem hF4{g:aC->Option D}(C:CF B.G.K (B.G.ca c) xs)(hg:g=fnD np n b)(q:GM B.G.K (B.G.ca c) m qual st)(hl:o8 st=s0::l)(body:Bdz B (nmO st) qual st (s0::l) k b)(S:okO (nmO st) (psO st) st np n=true:=by kernel_rfl)(bd:Bds m qual st (psO st):=by (repeat intro _);rfl):zM B.G B.P B.w B.mg B.base (k+1) m c g:=by obtain⟨f,fd,a,i,F⟩:=q;exact⟨f,fd,_,C.ci.cl,⟨a,i,F.kp⟩,bd.ok F,IE hg (okk S).2.1 (okk S).2.2 F (okk S).1 (body.ok hl f)⟩
theorem gI4{g:aC->Option (aE×aC)}(C:CF B.G.K (B.G.ca c) xs)(a:fC B.G.K mainGlobals x=some (some (.ref (B.G.ca c))))(hg:g=fnI c np n b)(q:GM B.G.K (B.G.ca c) "__init__" qual st)(hl:o8 st=s0::l)(hp:psO st=p::ps)(body:Bdz B (nmO st) qual st (s0::l) k b)(S:okO (nmO st) (p::ps) st (np+1) n=true:=by kernel_rfl)(bd:Bds "__init__" qual st (p::ps):=by (repeat intro _);rfl):Kf B (k+1) x c g []:=
 ⟨⟨_,gI hg Y.y C a q (okk S).1 (body.ok hl) (gq (okk S).2.1) (okk S).2.2 bd⟩,rfl⟩
theorem gJ4{g:aC->Option (aE×aC)}{dds:aC}(C:CF B.G.K (B.G.ca c) xs)(a:fC B.G.K mainGlobals x=some (some (.ref (B.G.ca c))))(hg:g=fnI c np n b)(q:GJ B.G.K (B.G.ca c) qual st (dds.map vD))(hl:o8 st=s0::l)(hp:psO st=p::ps)(body:Bdz B (nmO st) qual st (s0::l) k b)(j:Nat)(S:okO (nmO st) (p::ps) st (np+1) n=true:=by kernel_rfl)(hf:dds.all qI=true:=by rfl)
  (bd:Ho (dds.map vD).length λdl=>Ho ((p::ps).length - ((dds.map vD).drop j).length) λus=>∀(T:Addr) (kV doc pm:aa) (an:Option Addr) (cdv ct:aa),∃k,bindArgs (fnOf "__init__" qual (rV st) (o8 st) (oE st) (.ref T) kV doc pm an cdv ct) ⟨us,[]⟩=seqItems? (.ref T)>>=k/\k (some dl.toArray)=pure ((p::ps).zip (us++dl.drop j)):=by (repeat intro _);exact⟨_,rfl,rfl⟩):Kf B (k+1) x c g (dds.drop j):=
 ⟨⟨_,by rw[gf];exact gJ hg Y.y C a q (okk S).1 (body.ok hl) j (gq (okk S).2.1) (okk S).2.2 bd⟩,by
  rw[bw]at hf ⊢;exact λd h=>hf d (lQ h)⟩
theorem P0(n:Nat)(ca:Nat->Addr):∀k,k<n->((br n).map ca).getD k 0=ca k:=λk h=>by rw[cB,bc,lV h];rfl
theorem W9{n:Nat}{ca:Nat->Addr}(h:decide ((br n).map ca).Nodup=true):∀j k,j<n->k<n->ca j=ca k->j=k:=λj k hj hk e=>by rw[<-P0 n ca j hj,<- P0 n ca k hk]at e;exact S4 (bz h) (by simpa using hj) (by simpa using hk) e
def Ku:Nat->(Nat->Prop)->Prop
 |0,_=>True
 |n+1,Q=>Q 0/\Ku n λk=>Q (k+1)
theorem Ku.at:∀{n:Nat} {Q:Nat->Prop},Ku n Q->∀k,k<n->Q k
 |_+1,_,h,0,_=>h.1
 |_+1,_,h,k+1,hk=>Ku.at (Q:=λk=>_) h.2 k (fP hk)
end
end L4
namespace L2
open PySem PySem.Spec PyProof.Rows
variable{e:Expr}
section
variable{X:Cx}{pins:bW}{σ:St}{H H' H1:Hp}{s s1:af}{as:List Addr}
def Aq(H:Hp)(as:List Addr)(H':Hp):Prop:=(∀b,b∉as->H' b=H b)/\∀a∈as,∃o kvs,H a=some (.dK kvs)/\H' a=some (.frz o (.dK kvs))
theorem Inv.freezes(I:Inv X pins σ H s):∀as:List Addr,(∀a∈as,∃kvs,H a=some (.dK kvs))->∃H',Aq H as H'/\Inv X pins σ H' s
 |[],_=>⟨H,⟨λ_ _=>rfl,λ_ h=>nomatch h⟩,I⟩
 |a::as,h=>by
  obtain⟨H',F,I'⟩:=Inv.freezes I as λb hb=>h b (.tail _ hb);by_cases ha:a∈as
  ·refine⟨H',⟨λb hb=>F.1 b λz=>hb (.tail _ z),λb hb=>?_⟩,I'⟩;rcases aL.mp hb with rfl|hb
   ·exact F.2 _ ha
   ·exact F.2 _ hb
  ·obtain⟨kvs,e⟩:=h a (.head _);obtain⟨o,I2⟩:=I'.freeze ((F.1 a ha).trans e);refine⟨_,⟨λb hb=>?_,λb hb=>?_⟩,I2⟩
   ·rw[oo (λz:b=a=>hb (by rw[z];exact .head _))];exact F.1 b λz=>hb (.tail _ z)
   ·by_cases hba:b=a
    ·subst hba;exact⟨o,kvs,e,oq⟩
    ·rw[oo hba];rcases aL.mp hb with z|z
     ·exact ao z hba
     ·exact F.2 b z
def uF(H H1:Hp)(as:List Addr):Hp:=λb=>if b∈as then H b else H1 b
theorem Inv.thaws(I:Inv X pins σ H s)(F:Aq H as H')(I1:Inv X pins σ H1 s1)(k:∀a∈as,H1 a=H' a):Inv X pins σ (uF H H1 as) s1:=by
 have two:∀{P:Option HO->Prop} {b:Addr},P (H b)->P (H1 b)->P (uF H H1 as b):=λ{P b} p q=>by
  unfold uF;split
  ·exact p
  ·exact q
 have st:∀{b:Addr} {u:HO},pI X.prog X.w H1 s1.heap b u->pI X.prog X.w (uF H H1 as) s1.heap b u:=λ{b u} x=>by
  have no:∀c v,(∀o kvs,v≠HO.frz o (.dK kvs))->H1 c=some v->uF H H1 as c=some v:=λc v n q=>by
   unfold uF;split
   ·rename_i hc;obtain⟨o,kvs,_,e2⟩:=F.2 c hc;rw[k c hc,e2]at q;exact ao (bP q).symm (n o kvs)
   ·exact q
  exact x.stay (λ_ _ _ q=>q) (λc q=>no c _ (λ_ _ z=>nomatch z) q) λc xs q=>no c _ (λ_ _ z=>nomatch z) q
 exact {
  ok:=I1.ok,os:=I1.os,bare:=I1.bare,loc:=I1.loc,cell:=I1.cell,len:=I1.len
  base:={
   keep:=I1.base.keep,slot:=I1.base.slot,there:=I1.base.there
   free:=λb o q n x=>two (P:=λz=>z=none) (I.base.free b o q n x) (I1.base.free b o q n x)
   tups:=λb xs q=>two (P:=λz=>z=_) (I.base.tups b xs q) (I1.base.tups b xs q)
   frzs:=λb o u q=>two (P:=λz=>z=_) (I.base.frzs b o u q) (I1.base.frzs b o u q)
   tbls:=λb ps q=>two (P:=λz=>∃more,z=some (.tbl (ps++more))) (I.base.tbls b ps q) (I1.base.tbls b ps q) }
  free:=two (P:=λz=>z=none) I.free I1.free
  freeC:=λx c q=>two (P:=λz=>z=none) (I.freeC x c q) (I1.freeC x c q)
  pin:=λp hp=>⟨(I1.pin p hp).1,two (P:=λz=>z=none) (I.pin p hp).2.1 (I1.pin p hp).2.1,(I1.pin p hp).2.2⟩
  hok:=λb u q=>by
   unfold uF at q;split at q
   ·rename_i hb;obtain⟨o,kvs,e1,e2⟩:=F.2 b hb;rw[e1]at q;cases q;exact st (show pI X.prog X.w H1 s1.heap b (.frz o (.dK kvs)) from I1.hok b _ ((k b hb).trans e2)).2
   ·exact st (I1.hok b u q) }
theorem PT.lend{t:TT}(h:PT X e t):PT X e (λσ H Q=>∃as:List Addr,(∀a∈as,∃kvs,H a=some (.dK kvs))/\∀H',Aq H as H'->t σ H' λb H1=>(∀a∈as,H1 a=H' a)/\Q b (uF H H1 as)):=λpins s σ H Q I ⟨as,hd,hq⟩=>by obtain⟨H',F,I'⟩:=I.freezes as hd;exact thn (h pins s σ H' _ I' (hq H' F)) λb s1 ⟨H1,I1,k,q⟩=>⟨_,I.thaws F I1 k,q⟩
theorem PE.lend{t:TE}(h:PE X e t):PE X e (λσ H Q=>∃as:List Addr,(∀a∈as,∃kvs,H a=some (.dK kvs))/\∀H',Aq H as H'->t σ H' λx H1=>(∀a∈as,H1 a=H' a)/\Q x (uF H H1 as)):=λpins s σ H Q I ⟨as,hd,hq⟩=>by obtain⟨H',F,I'⟩:=I.freezes as hd;exact thn (h pins s σ H' _ I' (hq H' F)) λu s1 ⟨x,H1,I1,r,k,q⟩=>⟨x,_,I.thaws F I1 k,r,q⟩
end
end L2
namespace L4
open PySem PySem.Spec PyProof.Rows L2 L3
def Sl.lnd:Sl->Sl
 |.dk ks ds=>.im (.dic ks ds)
 |s=>s.bor
def ro(σ:St)(ρ:aV):List Addr:=(br ρ.length).filterMap λi=>match ρ[i]?,(σ[i]?).join with
 |some (Sl.dk _ _),some (V.ref a)=>some a
 |_,_=>none
variable{e:Expr}
section
variable{X:Cx}{G:Bg}{F:Fr}{σ σ':St}{ρ ρ':aV}{H0 H H1 H1' H':Hp}{a:Addr}
theorem BW:a∈ro σ ρ ↔ ∃(i:Nat) (ks:List Key) (ds:aC),ρ[i]?=some (Sl.dk ks ds)/\(σ[i]?).join=some (V.ref a):=by
 unfold ro;rw[il];constructor
 ·rintro⟨i,_,h⟩;split at h
  ·rename_i ks ds b e1 e2;cases h;exact⟨i,ks,ds,e1,e2⟩
  ·cases h
 ·rintro⟨i,ks,ds,e1,e2⟩;exact⟨i,bY.mpr (bN.mp e1).1,by rw[e1,e2]⟩
theorem oA.lentD(R:oA G F σ ρ H0 H)(h:a∈ro σ ρ):H0 a=none/\∃kvs,H a=some (.dK kvs):=by obtain⟨i,ks,ds,e1,e2⟩:=BW.mp h;obtain⟨b,xs,h1,h2,h3,_⟩:=R.sl i _ e1;rw[e2]at h1;cases h1;exact⟨h3,_,h2⟩
theorem oA.lnd(R:oA G F σ ρ H0 H)(Z:Aq H (ro σ ρ) H'):oA G ⟨H',H',[]⟩ σ (ρ.map Sl.lnd) H' H':=by
 have s0:ox H0 H':=λb o e=>by rw[Z.1 b λz=>by rw[(R.lentD z).1]at e;cases e];exact R.sub _ _ e
 have no:∀b o,(∀kvs,o≠HO.dK kvs)->H b=some o->H' b=some o:=λb o n e=>by rw[Z.1 b λz=>by obtain⟨kvs,q⟩:=(R.lentD z).2;rw[e]at q;exact n kvs (bP q)];exact e
 exact {
  sub:=ox.refl _,g0:=ox.refl _
  keep:=λb o e _=>e
  fr:=λb o e=>.inl e
  am:=λa h=>by cases h
  len:=by rw[ah];exact R.len
  sl:=λi s e=>by
   rw[bc]at e;cases e1:ρ[i]? with
   |none=>rw[e1]at e;cases e
   |some t=>
    rw[e1]at e;cases e;have ok:=R.sl i t e1;cases t with
    |un=>trivial
    |im d=>obtain⟨v,h1,h2⟩:=ok;exact⟨v,h1,Rep.mono s0 _ _ h2⟩
    |ls ds=>obtain⟨a,xs,h1,h2,h3,h4,h5⟩:=ok;exact⟨_,h1,sQ (no _ _ (λ_ z=>nomatch z) h2) (oi.mono s0 _ _ h5)⟩
    |pm ds=>obtain⟨a,xs,h1,h2,h3,h4,h5⟩:=ok;exact⟨_,h1,sQ (no _ _ (λ_ z=>nomatch z) h2) (oi.mono s0 _ _ h5)⟩
    |dk ks ds=>obtain⟨a,xs,h1,h2,h3,h4,h5,h6⟩:=ok;obtain⟨o,kvs,q1,q2⟩:=Z.2 a (BW.mpr ⟨i,ks,ds,e1,h1⟩);rw[h2]at q1;cases q1;exact⟨_,h1,by unfold Rep;exact⟨a,o,xs,rfl,q2,h5,oi.mono s0 _ _ h6⟩⟩
    |ob c ns ds=>obtain⟨a,dx,xs,h1,h2,h3,h4,h5,h6⟩:=ok;exact⟨_,h1,by unfold Rep;exact⟨a,dx,xs,rfl,no _ _ (λ_ z=>nomatch z) h2,h5,oi.mono s0 _ _ h6⟩⟩
  ap:=λi j s t a _ e _ so=>by
   rw[bc]at e;cases e1:ρ[i]? with
   |none=>rw[e1]at e;cases e
   |some t=>rw[e1]at e;cases e;cases t<;>cases so }
theorem oA.unlnd(R:oA G F σ ρ H0 H)(Z:Aq H (ro σ ρ) H')(R':oA G ⟨H',H',[]⟩ σ' ρ' H1 H1'):oA G F σ ρ H0 (uF H H1' (ro σ ρ)):=by
 have s:ox H (uF H H1' (ro σ ρ)):=λb o e=>by
  unfold uF;split
  ·exact e
  ·rename_i hb;exact R'.keep b o ((Z.1 b hb).trans e) (by simp)
 exact R.grow s (ox.refl _) (λb o e=>s b o (R.sub _ _ e)) λb o e=>.inl e
theorem oA.lndK(Z:Aq H (ro σ ρ) H')(R':oA G ⟨H',H',[]⟩ σ' ρ' H1 H1'):∀a∈ro σ ρ,H1' a=H' a:=λa ha=>by obtain⟨o,kvs,_,e2⟩:=Z.2 a ha;rw[e2];exact R'.keep a _ e2 (by simp)
def Hy(f:FE):FE:=λρ=>match f (ρ.map Sl.lnd)with
 |some (d,_)=>if qI d=true then some (d,ρ)else none
 |none=>none
def BX(f:FT):FT:=λρ=>match f (ρ.map Sl.lnd)with
 |some (d,_)=>some (d,ρ)
 |none=>none
theorem UM{f:FE}(h:PE X e (tF G f)):PE X e (tF G (Hy f)):=PE.weak (PE.lend h) λσ H Q hh=>by
 obtain⟨F,ρ,H0,d,ρ',R,e,k⟩:=hh;unfold Hy at e;rcases oP (f:=f) (ρ:=ρ.map Sl.lnd)with e1|⟨x,ρ1,e1⟩<;>simp only[e1]at e
 ·cases e
 ·split at e
  ·rename_i hf;cases e;refine⟨ro σ ρ,λa ha=>(R.lentD ha).2,λH' Z=>⟨_,_,H',d,ρ1,R.lnd Z,e1,λv H1 H1' s R' r=>⟨oA.lndK Z R',?_⟩⟩⟩;rw[rY r hf];exact k _ _ _ (ox.refl _) (R.unlnd Z R') (wN hf _)
  ·cases e
theorem P1{f:FT}(h:PT X e (tFT G f)):PT X e (tFT G (BX f)):=PT.weak (PT.lend h) λσ H Q hh=>by
 obtain⟨F,ρ,H0,d,ρ',R,e,k⟩:=hh;unfold BX at e;rcases oP (f:=f) (ρ:=ρ.map Sl.lnd)with e1|⟨x,ρ1,e1⟩<;>simp only[e1]at e
 ·cases e
 ·cases e;exact⟨ro σ ρ,λa ha=>(R.lentD ha).2,λH' Z=>⟨_,_,H',d,ρ1,R.lnd Z,e1,λH1 H1' s R'=>⟨oA.lndK Z R',k _ _ (ox.refl _) (R.unlnd Z R')⟩⟩⟩
end
end L4
namespace L4
open PySem PySem.Spec PyProof.Rows L2 L3
open PySem.W (fnOf)
section
variable{X:Cx}{B:Bz}{k j i n:Nat}{x y:Str}{e e' tg:Expr}{es:List Expr}{p p2 p3 pos apos:Pos}{f f':FE}{a:FA}{st:Stmt}{sts:List Stmt}{fs fs':FS}{ft:FT}
theorem UN(h:ZE X B e f):ZE X B e (Hy f):=⟨UM h.p⟩
theorem UO(h:ZT X B e ft):ZT X B e (BX ft):=⟨P1 h.p⟩
theorem UP [C:Cz X B k](ha:ZE X B e f)(hb:ZE X B e' f')(hm:behindInMarks .In e'=false):ZT X B (.Compare e [.In] [e'] pos) (cT (c2 (Es false) f f')):=⟨PK (Fe C.r) ha.p hb.p hm⟩
theorem UQ{e2:Expr}{f2:FE}[C:Cz X B k](ha:ZE X B e f)(hb:ZE X B e' f')(hc:ZE X B e2 f2)(h1:Az X e "get")(h2:Ez apos pos)(h3:starEach [e',e2] X.env=[(false,eval e' X.env),(false,eval e2 X.env)]):ZE X B (.Call (.Attribute e "get" apos) [e',e2] [] pos) (IH f f' f2):=⟨L9 (Fe C.r) ha.p hb.p hc.p ⟨h1,by rw[h3];rfl,h2,by rw[h3];rfl⟩⟩
theorem UR{gg:FG}(hn:X.N.length=n)(he:ZE X B e f)(hg:ZG X B tg n gg)(hs:swapsWithSole [tg] e pos.line X.env=pure false)(hw:swappedStores [tg] e X.env=pure none)(h1:(assignEach [tg] X.env).map (·.2)=[assign tg X.env]):ZS X B (.Assign [tg] e pos) (G0 f gg):=⟨OQ (KO he.p hg.p hs hw h1)⟩
theorem US{m:Str}[C:Cz X B k](hm:m="index")(ha:ZE X B e f)(hb:ZE X B e' f')(h1:Az X e m)(h2:Ez apos pos)(h3:S1 X e'):ZE X B (.Call (.Attribute e m apos) [e'] [] pos) (c2 sU f f'):=by subst hm;exact⟨Km (bmI h1 h2 h3 fX my F.type_list_index (Kn C.K) ha.p (rB hb.p sR h3))⟩
end
end L4
namespace L4
open PySem PySem.Spec PyProof.Rows L2 L3
theorem sub_dict_dict:isSubtype (.type "dict") (.type "dict")=pure true:=by rw[jM];kernel_rfl
variable{ep:Nat}
section
variable{prog:aD}{w:aw}{A:aH}{E:aa->af->Prop}{s:af}
theorem EF{Q:List aa->af->Prop}{d:Addr}{o:Obj}{kvs:List (Key×aa)}(hh:A.handled=none)(hd:(d==sysModules)=false)(ho:s.heap.get? d=some o)(hc:o.cls=.type "dict")(hm:s.heap.DictAt (oO prog w) d kvs ep)(hn:kvs.length<=1000)
  (hQ:∀h2 k2 acc,s.heap.objs.size<=h2.objs.size->(∀b o,s.heap.get? b=some o->h2.get? b=some o)->ItemsOf (λi v=>∃k x,kvs[i]?=some (k,x)/\(oO prog w).is k v=true) acc kvs.length->Q acc.toList { s with heap:=h2,toks:=k2 }):wpAny (model prog w) A (collect (.ref d)) Q E s:=by
 have hlt:=aM ho;let lO:Obj:={ cls:=.type "list", data:=.seq ([]:List aa).toArray };unfold collect;refine ai (wpAny_runValue (c9 F.entry_proto_collect ?_));rw[dw F.plain_proto_collect _];show wpAny _ A.in1 (newList []>>=λl=>again (.builtin "list.__iadd__" ⟨[l,.ref d],[]⟩)) _ _ s;refine ai (iq ?_);refine aB ⟨fi mC _,c9 F.entry_list_iadd ?_⟩;rw[dw mC _];show wpAny _ A.in1 (kZ (.ref s.heap.objs.size) (.ref d) (.ref s.heap.objs.size)) _ _ _;have o1:(s.heap.push lO).get? d=some o:=aG _ ho;have T1:jQ { s with heap:=s.heap.push lO } (.ref d) "dict" := ⟨o,o1,hc⟩;unfold kZ;refine ai (j4 T1 ?_);rw[ak (by
  have:ly (.ref s.heap.objs.size) (.ref d)=false:=by simp[ly];exact λe=>ao e (dH hlt)
  rw[this];decide)]
 have m1:(s.heap.push lO).DictAt (oO prog w) d kvs ep:=hm.at' λo e=>aG _ e;refine ai (mx (knd:=oO prog w) (kvs:=kvs) (ep:=ep) hd m1 ?_);let h3:=(s.heap.push lO).push { cls:=.type "dict_keyiterator", data:=.fields #[.ref d,.int 0 0,.int kvs.length 0,.int ep 0] };have T3:jQ { s with heap:=h3 } (.ref d) "dict" := ⟨o,aG _ o1,hc⟩;have ez:(s.heap.push lO).objs.size=s.heap.objs.size+1:=cv _ _;have L3:h3.get? s.heap.objs.size=some lO:=aG _ (ba _ rfl);have I3:h3.IsKeyIter (s.heap.objs.size+1) d 0 kvs.length ep:=⟨_,by rw[<-ez];exact ba _ rfl,rfl,rfl⟩;have M3:h3.DictAt (oO prog w) d kvs ep:=m1.at' λo e=>aG _ e;have K3:∀b o,s.heap.get? b=some o->h3.get? b=some o:=λb o e=>aG _ (aG _ e);show wpAny _ A.in1 (holding [.ref (s.heap.push lO).objs.size] (lg (.ref d))>>=_) _ _ { s with heap:=h3 };rw[ez];refine ai (cE ?_);unfold lg;refine ai (jH T3 F.slot_dict_len.lookup ?_);generalize hid:("dict.__len__" : String)=id0;wp_delta;rw[show splitId id0=some ("dict", "__len__") from by subst hid;decide +kernel];subst hid;refine ai (wpAny_isInstance T3 sub_dict_dict ?_);dsimp only;rw[ak (by decide),aj (by decide +kernel)];refine ai (j4 T3 ?_);refine aB ?_;rw[aj (by decide +kernel)];refine ai (iN ?_);refine ai ?_;show wpAny _ A.in1 (updateSeq s.heap.objs.size (·.push .none)>>=λ_=>updateSeq s.heap.objs.size (·.pop)) _ _ _
 refine ai (jK L3 rfl ?_);have S2:=ib (cK (·.push Value.none)) L3 rfl
 refine jK S2 rfl ?_;have S3:=ib (cK (·.pop)) S2 rfl
 have oth:∀b o,b≠s.heap.objs.size->h3.get? b=some o->((h3.update s.heap.objs.size (cK (·.push Value.none))).update s.heap.objs.size (cK (·.pop))).get? b=some o:=
  λb o hb e=>(fO _ _ (cM hb)).trans ((fO _ _ (cM hb)).trans e)
 have hne:d≠s.heap.objs.size+1:=aU (cP hlt);have hSf:s.heap.objs.size∉[s.heap.objs.size+1,d]:=by
  intro z;rcases aL.mp z with z|z
  ·exact ao z (aU (eA _))
  ·exact ao (bx.mp z) (dH hlt)
 have W:=(m7 (prog:=prog) (w:=w) (knd:=oO prog w) (A:=A.in1) (by simp[hh]) (s.heap.objs.size+1) d hne kvs ep).toS;refine aB ⟨fi F.plain_extend_loop _,codeAny_extend_loopS W (by rw[bC];omega) _ hSf _ kvs.length 0 _ _ _ rfl (bZ _)
  ⟨I3.at λo e=>oth _ o (dH (eA _)) e,M3.at' λo e=>oth _ o (aU hlt) e⟩ S3 (ItemsOf.nil _) λs' acc' c' hm hS' hacc=>?_⟩
 show wpAny _ A (load s.heap.objs.size>>=_) _ _ s';refine ai (wpAny_load hS' ?_);obtain⟨h2,g2,d2,k2,o2⟩:=s';have eg:g2=s.gens:=hm.gens;have ed:d2=s.drawn:=hm.drawn;have eo:o2=s.os:=hm.os;subst eg ed eo;refine aB (hQ h2 k2 acc' (eF (aM hS')) (λb o e=>?_) hacc);have hb:=aM e;exact hm.heap b o (λz=>by
  rcases aL.mp z with z|z
  ·exact ao z (aU hb)
  ·exact ao (bx.mp z) (aU (cP hb))) (oth b o (aU hb) (K3 b o e))
theorem IV:∀(vs:List aa) (ss:aE),vs.length=ss.length->(∀(j:Nat) (v:aa) (z:Str),vs[j]?=some v->ss[j]?=some z->∃t,v=.str z t)->eQ vs ss
 |[],[],_,_=>.nil
 |v::vs,z::ss,h,k=>by obtain⟨t,rfl⟩:=k 0 v z rfl rfl;exact .cons z t (IV vs ss (gq h) λj=>k (j+1))
 |[],_::_,h,_=>by cases h
 |_::_,[],h,_=>by cases h
theorem F7{Q:aa->af->Prop}{d:Addr}{o:Obj}{kvs:List (Key×aa)}{ss:aE}(hh:A.handled=none)(hd:(d==sysModules)=false)(ho:s.heap.get? d=some o)(hc:o.cls=.type "dict")(hm:s.heap.DictAt (oO prog w) d kvs ep)(hn:kvs.length<64)(hk:kvs.map au=ss.map Sum.inr)
  (hQ:∀p h2 k2 out e,s.heap.objs.size<=p->(∀b o,s.heap.get? b=some o->h2.get? b=some o)->eQ out (tu ss)->h2.get? p=some (seqObj "list" out.toArray e)->Q (.ref p) { s with heap:=h2,toks:=k2 }):wpAny (model prog w) A (call (.builtin "sorted") [.ref d]) Q E s:=by
 refine lq kind_sorted plain_sorted entry_sorted (args_sorted1 _) ?_;unfold di.«sorted»;refine ai (m:=checkCount "sorted" 1 1 _) (aB ?_);refine ai (EF (by simp[hh]) hd ho hc hm (by omega) λh2 k2 acc hz kk ia=>?_);have hl:acc.toList.length=ss.length:=by have:=aP bL hk;rw[ah,ah]at this;rw[ig,ia.1,this]
 have hS:eQ acc.toList ss:=IV _ _ hl λj v z e1 e2=>by
  rw[jl]at e1;obtain⟨k,x,e3,e4⟩:=ia.2 j v e1;have e5:(kvs.map au)[j]?=some k:=by rw[bc,e3];rfl
  rw[hk,bc,e2]at e5;cases e5;exact IQ e4
 have h64:acc.toList.length<64:=by rw[ig,ia.1];exact hn
 refine ai (jS ?_);have hoL:(h2.push (seqObj "list" acc.toList.toArray 0)).get? h2.objs.size=some (seqObj "list" acc.toList.toArray 0):=ba _ rfl;show wpAny _ _ _ _ _ { s with heap:=h2.push (seqObj "list" acc.toList.toArray 0),toks:=k2 };refine ai (cE (eX slot_list_sort ⟨_,hoL,rfl⟩ entry_list_sort (list_sort_treeK strKind_oneLt hoL hS.keysOf (λv₁ v₂ rest e=>keyKind_strs (by rw[<-e];exact hS)) h64 λst' a1 a2=>⟨_,rfl,?_⟩) (args_list_sort _)));obtain⟨ss',b1,b2,b3⟩:=sorted_out_str hS a1 a2;rw[BU b2 b3]at b1;obtain⟨e,he⟩:=sortedHeap_at (vs:=acc.toList) (out:=(arrOf st').map (·.2)) hoL
 refine aB ⟨_,rfl,hQ h2.objs.size _ k2 _ e hz (λb o z=>?_) b1 he⟩;have:=kk b o z;rw[sortedHeap_old (aU (aM this)) (by rw[cv];exact cP (aM this))];exact aG _ this
end
section
variable{X:Cx}{G:Bg}{B:Bz}{k:Bool}{pins:bW}{σ:St}{H:Hp}{s:af}
theorem EG(hc:X.calm=true):qf X (.builtin "sorted") (λxs H Q=>∃(a:Addr) (o:Obj) (kvs:List (Key×V)) (ss:aE),xs=[.ref a]/\H a=some (.frz o (.dK kvs))/\kvs.map au=ss.map Sum.inr/\ss.length<64/\∀p,H p=none->Q (.ref p) (upd H p (.lst ((tu ss).map V.str)))):=by
 intro pins s σ H xs us Q I r h;obtain⟨a,o,kvs,ss,rfl,he,hk,h64,q⟩:=h;obtain⟨u,rfl,ru⟩:=vals1 r;cases ru;obtain⟨q0,_,y,vs,r,ob,es,ep,e1,e2,e3,e4⟩:=(show pI X.prog X.w H s.heap a (.frz o (.dK kvs)) from I.hok a _ he);rw[q0]at e1;cases e1;have hl:kvs.length=vs.length:=r.length;have hl2:=aP bL hk;rw[ah,ah]at hl2;have kv:∀{kvs:List (Key×V)} {vs:List (Key×aa)},KV kvs vs->vs.map au=kvs.map au:=λ{kvs vs} r=>by
  induction r with
  |nil=>rfl
  |cons h _ ih=>rw[ay,ay,ih,show _=_ from h.1]
 refine F7 (I.ok.hd hc) y q0 e2.1 ⟨o,es,q0,e2,e3,e4⟩ (by omega) ((kv r).trans hk) λp h2 k2 out e hp kk hs hg=>?_;refine⟨.ref p,_,I.laid (t':=k2) kk hp ?_,rfl,q _ (I.hok.fresh hp)⟩;refine⟨?_,out,e,ME hs,hg⟩;rw[ah,show (tu ss).length=ss.length from(jv ss leS).length_eq,bC];omega
def Ar:List Key->Option aE
 |[]=>some []
 |.inr x::ks=>(Ar ks).map (x::·)
 |_=>none
theorem F8:∀{ks:List Key} {ss:aE},Ar ks=some ss->ks=ss.map Sum.inr
 |[],ss,e=>by cases e;rfl
 |.inl _::_,ss,e=>by cases e
 |.inr x::ks,ss,e=>by
  unfold Ar at e;cases e1:Ar ks with
  |none=>rw[e1]at e;cases e
  |some l=>rw[e1]at e;cases e;rw[F8 e1];rfl
def yz(f:FE):FA:=λρ=>match f ρ with
 |some (.dic ks ds,ρ')=>match Ar ks with
  |some ss=>if ss.length<64 then some ((tu ss).map D.str,ρ')else none
  |none=>none
 |_=>none
theorem F9{e:Expr}{f:FE}(h:PE X e (tCB (λxs H Q=>∃(a:Addr) (o:Obj) (kvs:List (Key×V)) (ss:aE),xs=[.ref a]/\H a=some (.frz o (.dK kvs))/\kvs.map au=ss.map Sum.inr/\ss.length<64/\∀p,H p=none->Q (.ref p) (upd H p (.lst ((tu ss).map V.str)))) (tFA G (n4 f oF)))):PE X e (tFN G (yz f)):=PE.weak h λσ H Q hh=>by
 obtain⟨F,ρ,H0,es,ρ',R,e,k⟩:=hh;unfold yz at e;split at e
 ·rename_i ks ds ρ1 e1;cases e2:Ar ks with
  |none=>simp only[e2]at e;cases e
  |some ss=>
   simp only[e2]at e;split at e
   ·rename_i h64;cases e;refine⟨F,ρ,H0,[.dic ks ds],_,R,by unfold n4;rw[e1];rfl,λys H1 H1' s R' rs=>?_⟩;unfold oi at rs;obtain⟨v,r0,rfl,rv,rn⟩:=rs;unfold oi at rn;subst rn;unfold Rep at rv;obtain⟨a,o,xs,rfl,r1,r2,r3⟩:=rv;refine⟨a,o,_,ss,rfl,R'.sub _ _ r1,?_,h64,λp hp=>?_⟩
    ·rw[mL (jX r2)];exact F8 e2
    ·exact k p _ _ _ s (R'.newOwn hp _) oq (R'.h0none hp) (R'.bNone hp) (R'.apart hp) (yx _)
   ·cases e
 ·cases e
end
section
variable{X:Cx}{B:Bz}{k:Nat}{e:Expr}{f:FE}{p pos:Pos}
theorem UT [C:Cz X B k][N:Nb B "sorted"](hs:S1 X e)(hg:Gz X "sorted")(ha:ZE X B e f):ZN X B (.Call (.Name "sorted" p) [e] [] pos) (yz f):=⟨F9 (cbI hg (by decide) hs (EG C.c) ko (rB ha.p sR hs))⟩
end
section
variable{t:iR}{m n:Nat}
def rs(m i q:Nat):iC:=⟨i,jL m i - i,i,q,none⟩
end
section
variable{ow:Array (Option Nat)}
def lv(ow:Array (Option Nat)):List (Nat×Nat):=(br 32).filterMap λj=>(ow.getD j none).map (j,·)
end
end L4
namespace L4
open PySem PySem.Spec PySem.Calls PyProof.Rows PySem.W L2 L3
noncomputable abbrev cS(s:Str):FE:=cC (.str s)
noncomputable abbrev a1(e:FE):FA:=n4 e oF
end L4
namespace L4
open PySem PySem.Spec PyProof.Rows L2 L3
section
variable{X:Cx}{B:Bz}{k j i m:Nat}{x:Str}{e e':Expr}{es:List Expr}{d:D}{p pos:Pos}{g:D->D->Option D}
theorem WD{l:List Stmt}:ZB X B l Wg:=⟨λpins s σ H D I h=>by
 obtain⟨F,ρ,H0,o,R,e,_⟩:=h;cases e⟩
end
mutual
def wY:D->Bool
 |.non=>true
 |.bl _=>true
 |.int _=>true
 |.str _=>true
 |.tup ds=>yA ds
 |.lst ds=>yA ds
 |_=>false
def yA:aC->Bool
 |[]=>true
 |d::ds=>wY d&&yA ds
end
mutual
theorem Rep.but{G:Bg}{H H1:Hp}(e:∀b o,H b=some o->(∀u kvs,o≠HO.frz u (.dK kvs))->H1 b=some o):∀(d:D) (v:V),wY d=true->Rep G H d v->Rep G H1 d v
 |.non,v,_,h=>by unfold Rep at h ⊢;exact h
 |.bl b,v,_,h=>by unfold Rep at h ⊢;exact h
 |.int i,v,_,h=>by unfold Rep at h ⊢;exact h
 |.str x,v,_,h=>by unfold Rep at h ⊢;exact h
 |.tup ds,v,n,h=>by
  unfold Rep at h ⊢;unfold wY at n;obtain⟨a,xs,rfl,h1,h2⟩:=h;refine⟨a,xs,rfl,?_,oi.but e ds xs n h2⟩;rcases h1 with (h|⟨o,h⟩)|h
  ·exact .inl (.inl (e _ _ h λ_ _ z=>nomatch z))
  ·exact .inl (.inr ⟨o,e _ _ h λ_ _ z=>nomatch z⟩)
  ·exact .inr h
 |.lst ds,v,n,h=>by unfold Rep at h ⊢;unfold wY at n;obtain⟨a,xs,rfl,h1,h2⟩:=h;exact⟨a,xs,rfl,e _ _ h1 (λ_ _ z=>nomatch z),oi.but e ds xs n h2⟩
 |.fzl ds,v,n,h=>by unfold wY at n;cases n
 |.obj c ns ds,v,n,h=>by unfold wY at n;cases n
 |.dic ks ds,v,n,h=>by unfold wY at n;cases n
theorem oi.but{G:Bg}{H H1:Hp}(e:∀b o,H b=some o->(∀u kvs,o≠HO.frz u (.dK kvs))->H1 b=some o):∀(ds:aC) (xs:bh),yA ds=true->oi G H ds xs->oi G H1 ds xs
 |[],xs,_,h=>by unfold oi at h ⊢;exact h
 |d::ds,xs,n,h=>by unfold oi at h ⊢;unfold yA at n;rw[aY]at n;obtain⟨v,r,rfl,h1,h2⟩:=h;exact⟨v,r,rfl,Rep.but e d v n.1 h1,oi.but e ds r n.2 h2⟩
end
def Sl.ldk:Sl->Bool
 |.un=>true
 |.im _=>true
 |.dk _ _=>true
 |_=>false
def BY(f:FE):FE:=λρ=>if ρ.all Sl.ldk=true then match f (ρ.map Sl.lnd)with
 |some (d,_)=>if wY d=true then some (d,ρ)else none
 |none=>none
 else none
variable{e:Expr}
section
variable{X:Cx}{G:Bg}{F:Fr}{σ σ':St}{ρ ρ':aV}{H0 H H1 H1' H':Hp}{a:Addr}
def BZ(σ:St)(ρ:aV)(H0 H':Hp):Hp:=λb=>if b∈ro σ ρ then H' b else H0 b
theorem oA.lnd2(R:oA G F σ ρ H0 H)(Z:Aq H (ro σ ρ) H')(hk:ρ.all Sl.ldk=true):oA G ⟨BZ σ ρ H0 H',H',[]⟩ σ (ρ.map Sl.lnd) (BZ σ ρ H0 H') H':=by
 have s0:ox H0 (BZ σ ρ H0 H'):=λb o e=>by unfold BZ;rw[ak λz=>by rw[(R.lentD z).1]at e;cases e];exact e
 exact {
  sub:=λb o e=>by
   unfold BZ at e;split at e
   ·exact e
   ·rename_i hb;rw[Z.1 b hb];exact R.sub _ _ e
  g0:=ox.refl _
  keep:=λb o e _=>e
  fr:=λb o e=>.inl e
  am:=λa h=>by cases h
  len:=by rw[ah];exact R.len
  sl:=λi s e=>by
   rw[bc]at e;cases e1:ρ[i]? with
   |none=>rw[e1]at e;cases e
   |some t=>
    rw[e1]at e;cases e;have ok:=R.sl i t e1;have kk:=bw.mp hk t (cj e1);cases t with
    |un=>trivial
    |im d=>obtain⟨v,h1,h2⟩:=ok;exact⟨v,h1,Rep.mono s0 _ _ h2⟩
    |dk ks ds=>obtain⟨a,xs,h1,h2,h3,h4,h5,h6⟩:=ok;have hm:=BW.mpr ⟨i,ks,ds,e1,h1⟩;obtain⟨o,kvs,q1,q2⟩:=Z.2 a hm;rw[h2]at q1;cases q1;exact⟨_,h1,by unfold Rep;exact⟨a,o,xs,rfl,by unfold BZ;rw[aj hm];exact q2,h5,oi.mono s0 _ _ h6⟩⟩
    |_=>cases kk
  ap:=λi j s t a _ e _ so=>by
   rw[bc]at e;cases e1:ρ[i]? with
   |none=>rw[e1]at e;cases e
   |some t=>rw[e1]at e;cases e;cases t<;>cases so }
theorem P2{f:FE}(h:PE X e (tF G f)):PE X e (tF G (BY f)):=PE.weak (PE.lend h) λσ H Q hh=>by
 obtain⟨F,ρ,H0,d,ρ',R,e,k⟩:=hh;unfold BY at e;split at e
 ·rename_i hk;rcases oP (f:=f) (ρ:=ρ.map Sl.lnd)with e1|⟨x,ρ1,e1⟩<;>simp only[e1]at e
  ·cases e
  ·split at e
   ·rename_i hf;cases e;refine⟨ro σ ρ,λa ha=>(R.lentD ha).2,λH' Z=>⟨_,_,BZ σ ρ H0 H',d,ρ1,R.lnd2 Z hk,e1,λv H1 H1' s R' r=>?_⟩⟩;have lk:∀a∈ro σ ρ,H1' a=H' a:=λa ha=>by obtain⟨o,kvs,_,e2⟩:=Z.2 a ha;rw[e2];exact R'.keep a _ e2 (by simp)
    refine⟨lk,?_⟩;let H2:Hp:=λb=>if b∈ro σ ρ then none else H1 b
    have h1l:∀a∈ro σ ρ,∃o kvs,H1 a=some (.frz o (.dK kvs)):=λa ha=>by obtain⟨o,kvs,_,e2⟩:=Z.2 a ha;exact⟨o,kvs,s a _ (by unfold BZ;rw[aj ha];exact e2)⟩
    have s02:ox H0 H2:=λb o e=>by
     have hb:b∉ro σ ρ:=λz=>by rw[(R.lentD z).1]at e;cases e
     show (if b∈ro σ ρ then none else H1 b)=some o;rw[ak hb];exact s b o (by unfold BZ;rw[ak hb];exact e)
    have of2:∀{b o},H2 b=some o->b∉ro σ ρ/\H1 b=some o:=λ{b o} e=>by
     have e:(if b∈ro σ ρ then none else H1 b)=some o:=e;split at e
     ·cases e
     ·rename_i hb;exact⟨hb,e⟩
    refine k v H2 _ s02 (R.grow (λb o e=>?_) s02 (λb o e=>?_) λb o e=>?_) (Rep.but (λb o e n=>?_) d v hf r)
    ·unfold uF;split
     ·exact e
     ·rename_i hb;exact R'.keep b o ((Z.1 b hb).trans e) (by simp)
    ·obtain⟨hb,e⟩:=of2 e;unfold uF;rw[ak hb];exact R'.sub _ _ e
    ·obtain⟨hb,e⟩:=of2 e;rcases R'.fr b o e with q|q
     ·have q:BZ σ ρ H0 H' b=some o:=q;unfold BZ at q;rw[ak hb]at q;exact .inl q
     ·exact .inr ((Z.1 b hb).symm.trans q)
    ·show (if b∈ro σ ρ then none else H1 b)=some o;rw[ak λz=>?_]
     ·exact e
     ·obtain⟨u,kvs,q⟩:=h1l b z;rw[e]at q;exact n u kvs (bP q)
   ·cases e
 ·cases e
end
def tFP(G:Bg)(i j:Nat)(f:FS):TS:=λE σ H=>∃F ρ H0 ρ' k1 d1 k2 d2,oA G F σ ρ H0 H/\f ρ=some (.nx ρ')/\ρ'[i]?=some (Sl.dk k1 d1)/\ρ'[j]?=some (Sl.dk k2 d2)/\∀t p q σ' H0' H',ox H0 H0'->oA G F σ' ρ' H0' H'->(σ'[i]?).join=some (V.ref p)->(σ'[j]?).join=some (V.ref q)->H' t=none->E.rt (.ref t) (upd H' t (.tup [.ref p,.ref q]))
variable{st:Stmt}
section
variable{X:Cx}{G:Bg}{i j:Nat}{f g:FS}
theorem UU{e':Expr}{n:Nat}{p pos:Pos}(h:PE X e (uN i))(h':PE X e' (uN j))(hs:starEach [e,e'] X.env=(false,eval e X.env)::starEach [e'] X.env)(hs':starEach [e'] X.env=[(false,eval e' X.env)]):PSs X [.Return (some (.Tuple [e,e'] n p)) pos] (tFP G i j oV):=A3 (PS.weak (D9 (K7 (qS h (qS h' uO hs') hs))) λE σ H hh=>by
 obtain⟨F,ρ,H0,ρ',k1,d1,k2,d2,R,e,e1,e2,k⟩:=hh;cases e;obtain⟨a,xs,h1,_⟩:=R.sl i _ e1;obtain⟨b,ys,h2,_⟩:=R.sl j _ e2;exact⟨_,qG h1,_,qG h2,sF (show 2<=1000 by decide),λt ht=>k t a b _ _ _ (ox.refl _) R h1 h2 ht⟩)
theorem P3{rest:List Stmt}(h1:PS X st (tFS G f))(h2:PSs X rest (tFP G i j g)):PSs X (st::rest) (tFP G i j (oh f g)):=PSs.weak (yI h1 h2) λE σ H h=>by
 obtain⟨F,ρ,H0,ρ',k1,d1,k2,d2,R,e,e2,e3,k⟩:=h;unfold oh at e;split at e
 ·rename_i ρ1 e1;exact⟨F,ρ,H0,_,R,e1,λσ' H0' H' s R'=>⟨F,ρ1,H0',ρ',k1,d1,k2,d2,R',e,e2,e3,λt p q σ2 H2 H2' s2=>k t p q σ2 H2 H2' (s.trans s2)⟩,λ_=>rfl⟩
 ·rename_i n;exact ao e (n _)
end
abbrev Dk2:=(List Key×aC)×(List Key×aC)
def fnP(np n i j:Nat)(f:FS):aC->Option Dk2:=λds=>if ds.length=np then match f (stE n ds)with
 |some (.nx ρ)=>match ρ[i]?,ρ[j]? with
  |some (Sl.dk k1 d1),some (Sl.dk k2 d2)=>some ((k1,d1),(k2,d2))
  |_,_=>none
 |_=>none
 else none
variable{np i j:Nat}
theorem Ga{n:Nat}{f:FS}{ds d1 d2:aC}{k1 k2:List Key}(h:fnP np n i j f ds=some ((k1,d1),(k2,d2))):ds.length=np/\∃ρ,f (stE n ds)=some (.nx ρ)/\ρ[i]?=some (Sl.dk k1 d1)/\ρ[j]?=some (Sl.dk k2 d2):=by
 unfold fnP at h;split at h
 ·rename_i hl;refine⟨hl,?_⟩;split at h
  ·rename_i ρ e;split at h
   ·rename_i e1 e2;cases h;exact⟨ρ,e,e1,e2⟩
   ·cases h
  ·cases h
 ·cases h
def spP(G:Bg)(g:aC->Option Dk2):Sp:=λvs H Q _=>∃(H0:Hp) (ds:aC) (k1:List Key) (d1:aC) (k2:List Key) (d2:aC),ox H0 H/\oi G H0 ds vs/\g ds=some ((k1,d1),(k2,d2))/\
 ∀t p q z1 z2 H0' H',ox H0 H0'->ox H0' H'->ox H H'->(∀b o,H0' b=some o->H0 b=some o\/H b=none)->H p=none->H q=none->p≠q->H' p=some (.dK (k1.zip z1))->H' q=some (.dK (k2.zip z2))->H0' p=none->H0' q=none->k1.length=z1.length->k2.length=z2.length->oi G H0' d1 z1->oi G H0' d2 z2->H' t=some (.tup [.ref p,.ref q])->Q (.ref t) H'
variable{E:XK}
section
variable{X:Cx}{G:Bg}
theorem P4{N:aE}{f:FS}{vs:bh}{H:Hp}{Q:VK}(hij:i≠j)(hN:np<=N.length)(h:spP G (fnP np N.length i j f) vs H Q E):tFP G i j f { nx:=λ_ H'=>Q .non H',rt:=Q } (L2.start N vs) H:=by
 obtain⟨H0,ds,k1,d1,k2,d2,s,r,e,k⟩:=h;obtain⟨hl,ρ,e1,e2,e3⟩:=Ga e;have R:=zI (N:=N) s r (by rw[<-om r,hl];exact hN);refine⟨_,_,H0,ρ,k1,d1,k2,d2,R,e1,e2,e3,λt p q σ' H0' H' s' R' hp hq ht=>?_⟩;obtain⟨p',z1,a1,a2,a3,a4,a5,a6⟩:=R'.sl i _ e2;rw[hp]at a1;cases a1;obtain⟨q',z2,b1,b2,b3,b4,b5,b6⟩:=R'.sl j _ e3;rw[hq]at b1;cases b1;have ne:p≠q:=λz=>R'.ap i j _ _ p hij e2 e3 rfl rfl hp (by rw[z];exact hq);have nt:∀{b o},H' b=some o->b≠t:=λ{b o} e z=>by rw[z,ht]at e;cases e
 refine k t p q z1 z2 H0' _ s' (λb o e=>?_) (λb o e=>?_) R'.fr a4 b4 ne ?_ ?_ a3 b3 a5 b5 a6 b6 oq
 ·rw[oo (nt (R'.sub _ _ e))];exact R'.sub _ _ e
 ·have q:=R'.keep b o e (by simp);rw[oo (nt q)];exact q
 ·rw[oo (nt a2)];exact a2
 ·rw[oo (nt b2)];exact b2
theorem WE{g:aC->Option Dk2}(hg:∀ds q,g ds=some q->ds.length=np):∀vs H Q E,spP G g vs H Q E->vs.length=np:=λvs H Q E h=>by obtain⟨H0,ds,k1,d1,k2,d2,s,r,e,k⟩:=h;rw[<-om r,hg _ _ e]
def DE(i j:Nat)(g:aC->Option Dk2)(a:FA):FS:=λρ=>match a ρ with
 |some (ds,ρ1)=>match g ds with
  |some ((k1,d1),(k2,d2))=>some (.nx ((ρ1.set i (.dk k1 d1)).set j (.dk k2 d2)))
  |none=>none
 |none=>none
theorem ML{g:aC->Option Dk2}{a:FA}(hij:i≠j)(h:PS X st (yJ (xP (spP G g) [] E (tFA G a)) (N6 G.K 2 (HX (t8 i) (HX (t8 j) Rk))))):PS X st (tFS G (DE i j g a)):=PS.weak h λE' σ H hh=>by
 obtain⟨F,ρ,H0,o,R,e,k,k2⟩:=hh;unfold DE at e;rcases oP (f:=a) (ρ:=ρ)with e1|⟨ds,ρ1,e1⟩<;>simp only[e1]at e
 ·cases e
 ·cases e3:g ds with
  |none=>simp only[e3]at e;cases e
  |some q=>
   obtain⟨⟨k1,d1⟩,⟨k2',d2⟩⟩:=q;simp only[e3]at e;cases e;refine⟨F,ρ,H0,ds,ρ1,R,e1,λys H1 H1' s R' rs=>?_⟩;refine⟨H1,ds,k1,d1,k2',d2,R'.sub,by rw[bp];exact rs,e3,λt p q z1 z2 H2 H2' u1 u2 u3 fr hp hq ne w1 w2 w3 w4 w5 w6 w7 w8 wt=>?_⟩;have R2:=R'.grow u3 u1 u2 fr;refine⟨t,[.ref p,.ref q],rfl,SqT.of wt,rfl,?_⟩;have Z1:oA G F (σ.set i (some (.ref p))) (ρ1.set i (.dk k1 d1)) H2 H2':=R2.set (s:=.dk k1 d1) ⟨p,z1,rfl,w1,w3,R'.bNone hp,w5,w7⟩ λ_ b eq m t _ em to=>by cases eq;exact R'.apart hp m t em to
   have Z2:oA G F ((σ.set i (some (.ref p))).set j (some (.ref q))) ((ρ1.set i (.dk k1 d1)).set j (.dk k2' d2)) H2 H2':=Z1.set (s:=.dk k2' d2) ⟨q,z2,rfl,w2,w4,R'.bNone hq,w6,w8⟩ λ_ b eq m t hm em to=>by
    cases eq;by_cases h:i=m
    ·subst h;intro z;rw[bG,aj rfl]at z;split at z
     ·exact ne (by injection z with z;injection z)
     ·cases z
    ·rw[bG,ak h]at em ⊢;exact R'.apart hq m t em to
   exact⟨_,_,rfl,_,_,rfl,rfl,k _ _ _ (s.trans u1) Z2⟩
end
section
variable{P:aD}{w:aw}{K:ar}{mg:Str->Option aa}{base:Heap}{x qual:Str}{st:Stmt}{f T:Addr}{fd:bD}{N ps:aE}{k:Nat}{G:Bg}
theorem WG{n:Nat}{g:aC->Option Dk2}{b:FS}(hg:g=fnP np n i j b)(hij:i≠j)(hp:ps.length=np)(hN:N.length=n)(F:Fun K x qual st f fd)(S:pY N ps (oE st))(body:∀(cdv:aa) (A:aH) (outer:List Env) (s:af) (H:Hp) (E:XK),qc k (A.deeper (envOfC qual (oE st) s.heap.objs.size f cdv))->PSs (ve P w K mg base N qual st f cdv A outer s H E) (o8 st) (tFP G i j b)):
  sE P w K mg base CX0 (k+1) f fd ps (spP G g):=by
 subst hg hN hp;refine F.ok S (WE λds q h=>(Ga (k1:=q.1.1) (d1:=q.1.2) (k2:=q.2.1) (d2:=q.2.2) h).1) λcdv A outer s H vs Q E hr h=>⟨_,body cdv A outer s H E hr,P4 hij (by have:=aP bL S.pre;rw[bH]at this;omega) h⟩
end
end L4
namespace L4
open PySem PySem.Spec PyProof.Rows L2 L3
open PySem.W (fnOf)
structure ZDp(X:Cx)(B:Bz)(i j:Nat)(e:List Stmt)(f:FS):Prop where p:PSs X e (tFP B.G i j f)
section
variable{X:Cx}{B:Bz}{k j i n:Nat}{x y x':Str}{e e' tg:Expr}{es:List Expr}{p p2 p3 pos apos:Pos}{f f':FE}{a:FA}{st:Stmt}{sts:List Stmt}{fs fs':FS}{ft:FT}
theorem UV(h:ZE X B e f):ZE X B e (BY f):=⟨P2 h.p⟩
theorem UW(h:sees X i x=true)(h':sees X j x'=true)(hs:Sz X (.Name x p) [.Name x' p2])(hs':S1 X (.Name x' p2)):ZDp X B i j [.Return (some (.Tuple [.Name x p,.Name x' p2] n p3)) pos] oV:=⟨UU (pvI h) (pvI h') hs hs'⟩
theorem UX(h1:ZS X B st fs)(h2:ZDp X B i j sts fs'):ZDp X B i j (st::sts) (oh fs fs'):=⟨P3 h1.p h2.p⟩
theorem UY{m:Nat}{g:aC->Option Dk2}{p4:Pos}[C:Cz X B k][Q:Df B m y (spP B.G g)](hij:eK i j=false)(h:sets X i x=true)(h':sets X j x'=true)(hg:Gz X y)(hd:Dz y)(hs:Sz X e es)(hl:Lz X pos es)(ha:ZA X B (e::es) a)(hj:dj m k=true)
  (ht:(assignEach [.Name x p,.Name x' p3] X.env).map (·.2)=assign (.Name x p) X.env::(assignEach [.Name x' p3] X.env).map (·.2)) (ht':(assignEach [.Name x' p3] X.env).map (·.2)=assign (.Name x' p3) X.env::(assignEach [] X.env).map (·.2))
  (hn:(assignEach [.Name x p,.Name x' p3] X.env).length=2) (hf:(assignEach [.Name x p,.Name x' p3] X.env).findIdx? (·.1)=none)
  (hw:swapsWithSole [.Tuple [.Name x p,.Name x' p3] n p4] (.Call (.Name y p2) (e::es) [] pos) apos.line X.env=pure false) (hw2:swappedStores [.Tuple [.Name x p,.Name x' p3] n p4] (.Call (.Name y p2) (e::es) [] pos) X.env=pure none) (h1:(assignEach [.Tuple [.Name x p,.Name x' p3] n p4] X.env).map (·.2)=[assign (.Tuple [.Name x p,.Name x' p3] n p4) X.env]):
  ZS X B (.Assign [.Tuple [.Name x p,.Name x' p3] n p4] (.Call (.Name y p2) (e::es) [] pos) apos) (DE i j g a):=by
 obtain⟨ps,q⟩:=dz hg hd (X:=X) (Q:=Q);obtain⟨f,fd,q1,q2,q3,q4⟩:=q;exact⟨ML (λz=>by rw[z,jV]at hij;cases hij) (KO (yK (p:=p2) (pos:=pos) q4 (C.r.mono (dg.mp hj)) hg q1 q2 q3 .nil Ad ha.p hd hs hl) (Im B.G.K C.c (Bi (pgI h) (Bi (pgI h') HY ht') ht) hn hf C.K) hw hw2 h1)⟩
end
section
variable{B:Bz}[Y:Yb B]{x:Str}{st s0:Stmt}{l:List Stmt}{k np n i j:Nat}{b:FS}
theorem gP4{g:aC->Option Dk2}(hg:g=fnP np n i j b)(hij:eK i j=false)(q:GD B.G.K x st)(hl:o8 st=s0::l)
  (body:∀{f:Addr} {cdv:aa} {A:aH} {outer:List Env} {s:af} {H:Hp} {E:XK} [Cz (ve B.P B.w B.G.K B.mg B.base (nmO st) x st f cdv A outer s H E) B k],ZDp (ve B.P B.w B.G.K B.mg B.base (nmO st) x st f cdv A outer s H E) B i j (s0::l) b)
  (S:okO (nmO st) (psO st) st np n=true:=by kernel_rfl) (bd:Bds x x st (psO st):=by (repeat intro _);rfl):Df B (k+1) x (spP B.G g):=
 ⟨_,gD Y.y q bd λf fd F=>WG hg (λz=>by rw[z,jV]at hij;cases hij) (okk S).2.1 (okk S).2.2 F (okk S).1 λcdv A outer s H E hr=>by
  rw[hl];exact(@body f cdv A outer s H E ⟨rfl,rfl,rfl,rfl,rfl,rfl,hr⟩).p⟩
end
end L4
namespace K19x
open PySem L2 L3 L4
abbrev D:=L4.D
def top(i:Nat):Stmt:=PySem.Challenge.pw_tellworld_k19_whole_stands_that_go_on.main.body.getD i (.Pass ⟨0,0,0,0⟩)
def sJ:Nat->Bool:=λc=>c==14
def wZ:Nat->Bool:=λc=>c==2
def xX:Nat->Bool:=λc=>c==14
def sf:Nat->Bool:=λc=>c==14
def pX:Nat->Bool:=λc=>c==14
def w9:Nat->Bool:=λc=>c==14
def pB:Nat->Bool:=λc=>c==0||c==7
def uf:Nat->Bool:=λc=>c==1
def uG:Nat->Bool:=λc=>c==14
def oM:Nat->Bool:=λc=>c==0||c==1||c==2
def yB:Nat->Bool:=λc=>c==2
def sL:Nat->Bool:=λc=>c==14
def vm:Nat->Bool:=λc=>c==14
def pN:Nat->Bool:=λc=>c==0||c==1
def ug:Nat->Bool:=λc=>c==14
def Gb:Nat->Bool:=λc=>c==13
def qL:Nat->Bool:=λc=>c==0
def sV:Nat->Bool:=λc=>c==14
abbrev MM:Ty->Option Bool:=Dy 15 1
abbrev IW:Ty->Option Bool:=Dy 15 0
def xa:L4.D:=(D.int 8)
def xb:L4.D:=(D.int 12)
def B2:L4.D:=(D.tup [(D.str "it"),(D.str "other"),(D.str "here"),(D.str "the"),(D.str "a"),(D.str "undo"),(D.str "restart")])
def B3:L4.D:=(D.tup [(D.str "the"),(D.str "a")])
def EH:L4.D:=(D.tup [(D.str "room"),(D.str "plain"),(D.str "fixed"),(D.str "box"),(D.str "lamp"),(D.str "you")])
def uH:L4.D:=(D.tup [(D.str "room"),(D.str "box"),(D.str "you")])
def uI:L4.D:=(D.tup [(D.str "box"),(D.str "lamp")])
def xY:L4.D:=(D.tup [(D.str "room"),(D.str "you")])
def y4:L4.D:=(D.int 5)
def xZ:L4.D:=(D.int 7)
def tR:L4.D:=(D.int 4)
def xc:L4.D:=(D.int 3)
def As:L4.D:=(D.int 10)
def y6:L4.D:=(D.int 6)
def vS:L4.D:=(D.int 4)
def uh:L4.D:=(D.tup [(D.str "the"),(D.str "a"),(D.str "undo"),(D.str "restart")])
def y7:L4.D:=(D.int 20)
abbrev ae:=(cV 0)
abbrev ag:=(cV 1)
abbrev aN:=(cC (.int 1))
def ui:FS:=(oT (qz (c1 (qX (qb "str")) ae) (qz (qQ tH tH aN (c1 qh ae) ag) (c1 ud (cL (oJ 1 [] (iS ae) (gN 0) pM (qQ LM LM (cS "a") ae (cS "z"))))))))
def rG:=fnD 2 2 ui
def DF:FS:=(oT (qz (oa rG (n4 ae (a1 (cC xa)))) (c2 (dIn true) ae (cC B2))))
def xJ:=fnD 1 1 DF
def DG:FS:=(oT (qz (oa rG (n4 ae (a1 (cC xb)))) (c2 (dIn true) ae (cC B3))))
def tY:=fnD 1 1 DG
def Au:FS:=(oT (qz (c1 (qX (qb "str")) ae) (c2 (dIn false) ae ag)))
def qj:=fnD 2 2 Au
def B4:FS:=(oT (qz (c1 (qX (qb "int")) ae) (CK (c1 (qX (qb "bool")) ae))))
def uj:=fnD 1 1 B4
def wo:FS:=(oT (qz (c1 (qX (qb "list")) ae) (c2 tH (c1 qh ae) ag)))
def qe:=fnD 2 2 wo
def B5:FS:=(oT (cIf (cT (c1 (qX (qb "list")) ae)) (cL (wm ae)) ae))
def yC:=fnD 1 1 B5
abbrev aq:=(cV 2)
abbrev az:=(cV 3)
abbrev aA:=(cV 4)
def y8:FS:=(oh (pz 0 0 "name" ag)
 (oh (pz 0 0 "words" aq)
 (oh (pz 0 0 "kind" az)
 (pz 0 0 "start" aA))))
def y9:=fnI 0 4 5 y8
def Av:FS:=(oh (pz 1 0 "name" ag)
 (oh (pz 1 0 "start" aq)
 (pz 1 0 "most" az)))
def Aw:=fnI 1 3 4 Av
abbrev bF:=(cC D.non)
def xf:FS:=(oh (pz 2 0 "name" ag)
 (oh (pz 2 0 "others" (cIf (cT (c2 xN aq bF)) (qm oF) aq))
 (oh (pz 2 0 "form" az)
 (pz 2 0 "joining" aA))))
def qY:=fnI 2 4 5 xf
def DH:FS:=(oh (pz 3 0 "term" ag)
 (pz 3 0 "place" aq))
def DI:=fnI 3 2 3 DH
def B6:FS:=(pz 4 0 "term" ag)
def yD:=fnI 4 1 2 B6
def x3:FS:=(oh (pz 6 0 "term" ag)
 (pz 6 0 "value" aq))
def qM:=fnI 6 2 3 x3
def Ax:FS:=(oh (pz 7 0 "term" ag)
 (pz 7 0 "kind" aq))
def qZ:=fnI 7 2 3 Ax
def B7:FS:=(pz 9 0 "inner" ag)
def rH:=fnI 9 1 2 B7
def Ay:FS:=(oh (pz 11 0 "term" ag)
 (pz 11 0 "place" aq))
def tw:=fnI 11 2 3 Ay
def B8:FS:=(oh (pz 12 0 "term" ag)
 (pz 12 0 "value" aq))
def uk:=fnI 12 2 3 B8
abbrev aO:=(cV 5)
abbrev c5:=(a1 aq)
abbrev fI:=(a1 az)
def AA:FS:=(oh (pz 13 0 "verb" ag)
 (oh (pz 13 0 "tests" (oa yC c5))
 (oh (pz 13 0 "deeds" (oa yC fI))
 (oh (pz 13 0 "text" aA)
 (pz 13 0 "refuses" aO)))))
def xg:=fnI 13 5 6 AA
def vo:FS:=(oT (c2 (dIn false) (c1 (oN pB "kind") ae) (cC uH)))
def vp:=fnD 1 1 vo
def qa:Nat->Option (List D->Option D):=λc=>match c with
 |0=>some vp
 |_=>none
def vq:FS:=(oT (c2 (dIn false) (c1 (oN pB "kind") ae) (cC uI)))
def vt:=fnD 1 1 vq
def qq:Nat->Option (List D->Option D):=λc=>match c with
 |0=>some vt
 |_=>none
def um:FS:=(oT (c2 (dIn true) (c1 (oN pB "kind") ae) (cC xY)))
def uo:=fnD 1 1 um
def qr:Nat->Option (List D->Option D):=λc=>match c with
 |0=>some uo
 |_=>none
def wq:FS:=(sIf (p5 (cT ae)) Wg oV)
def oB:=fnD 2 2 wq
def B9:FS:=(oT (c1 qh (cL (oJ 1 [1] (iL ae) (gN 0) (cT (c2 (dEq false) (c1 (oN pB "kind") ae) ag)) ae))))
def vT:=fnD 2 2 B9
def zc:FS:=(qg (oJ 1 [] (iL ae) (gN 0) (cT (o9 qr "is_plainly" ae oF)) ae))
def rj:=fnN 1 1 zc
abbrev aQ:=(cC (.int 0))
abbrev bJ:=(cC (.bl false))
def zV:FS:=(oh (sIf (sy (p5 (cT (c1 (qX MM) ae))) (sy (p5 (cT (oa uj (a1 (c1 (oN pN "start") ae))))) (p5 (cT (oa uj (a1 (c1 (oN uf "most") ae))))))) (oT bJ) oV)
 (oT (qz (qQ tH tH aN (c1 (oN uf "most") ae) (cC xc)) (qQ tH tH aQ (c1 (oN pN "start") ae) (c1 (oN uf "most") ae)))))
def zW:=fnD 1 1 zV
abbrev cb:=(cS "room")
abbrev cc:=(cS "you")
abbrev bB:=(a1 ae)
def uq:FS:=(oh (oQ 1 (qz (c1 (qX (qb "list")) ae) (c1 ud (cL (oJ 1 [] (iL ae) (gN 0) pM (c1 (qX IW) ae))))))
 (oh (o6 (oa oB (n4 ag (a1 (cS "things are a list of things")))))
 (oh (o6 (oa oB (n4 (c1 ud (cL (oJ 1 [] (iL ae) (gN 0) pM (oa qj (n4 (c1 (oN pB "kind") ae) (a1 (cC EH))))))) (a1 (cS "a thing is of no kind")))))
 (oh (o6 (oa oB (n4 (qQ tH tH aN (oa vT (n4 ae (a1 cb))) (cC y4)) (a1 (cS "a world has 1 to 5 rooms")))))
 (oh (o6 (oa oB (n4 (c2 (dEq false) (oa vT (n4 ae (a1 cc))) aN) (a1 (cS "a world has just one you")))))
 (o6 (oa oB (n4 (c2 tH (c1 qh (cL (oX rj bB))) (cC xZ)) (a1 (cS "a world has at most 7 things beside rooms and you"))))))))))
def ur:=fnD 1 2 uq
def uR:FS:=(oh (oQ 1 (qz (oa qe (n4 ae (a1 (cC tR)))) (c1 ud (cL (oJ 1 [] (iL ae) (gN 0) pM (oa zW bB))))))
 (o6 (oa oB (n4 ag (a1 (cS "marks are a list of at most 4 marks, each from 0 to at most 3"))))))
def uS:=fnD 1 2 uR
def zd:FS:=(oT (c2 (dEq false) (c1 Eu ae) (c1 qh ae)))
def qk:=fnD 1 1 zd
def uT:FS:=(oh (oQ 2 (cL (rq (cL (oJ 1 [] (iL ae) (gN 0) pM (c1 (oN oM "name") ae))) (cL (oJ 1 [] (iL ag) (gN 0) pM (c1 (oN oM "name") ae))))))
 (oh (o6 (oa oB (n4 (c1 ud (cL (oJ 1 [] (iL aq) (gN 0) pM (oa xJ bB)))) (a1 (cS "a name is no name")))))
 (o6 (oa oB (n4 (oa qk c5) (a1 (cS "two things or marks have one name")))))))
def uU:=fnD 2 3 uT
def zi:FS:=(qg (rq (cL (oJ 1 [] (iL ae) (gN 0) (cT (o9 qq "has_mark" ae oF)) (c1 (oN oM "name") ae))) (cL (oJ 1 [] (iL ag) (gN 0) pM (c1 (oN oM "name") ae)))))
def qC:=fnN 2 2 zi
def yE:FS:=(oh (sIf (cT (c2 (dEq false) (c1 (oN pB "kind") ag) cb)) (oT (c2 xN (c1 (oN pN "start") ag) bF)) oV)
 (oh (sIf (cT (c2 (dEq false) (c1 (oN pB "kind") ag) cc)) (oT (oa qj (n4 (c1 (oN pN "start") ag) (a1 (cL (oJ 1 [] (iL ae) (gN 0) (cT (c2 (dEq false) (c1 (oN pB "kind") ae) cb)) (c1 (oN oM "name") ae))))))) oV)
 (oT (oa qj (n4 (c1 (oN pN "start") ag) (a1 (cL (oJ 1 [] (iL ae) (gN 0) (cT (o9 qa "can_hold" ae oF)) (c1 (oN oM "name") ae)))))))))
def yF:=fnD 2 2 yE
abbrev bV:=(cC (.bl true))
def sj:FS:=(oh (oQ 2 (c2 ph ae ag))
 (oh (rT (iR1 (c1 qh ae)) (gN 3) (oh (sIf (cT (c2 xN aq bF)) (oT bV) oV)
 (oQ 2 (c2 ph ae aq))))
 (oT (c2 xN aq bF))))
def qD:=fnD 2 4 sj
abbrev jh:=(n4 ag bB)
def uu:FS:=(oh (o6 (oa oB (n4 (c1 ud (cL (oJ 1 [0] (iL ae) (gN 0) pM (oa yF jh)))) (a1 (cS "a start is none")))))
 (oh (xU 1)
 (oh (rT (iL ae) (gN 2) (pC 1 (c1 (oN oM "name") aq) (c1 (oN pN "start") aq)))
 (o6 (oa oB (n4 (c1 ud (cL (oJ 1 [1] (iD (cFz 1)) (gN 0) pM (oa qD jh)))) (a1 (cS "a thing starts within itself"))))))))
def uv:=fnD 1 3 uu
def xh:FS:=(oh (sIf (sy (p5 (cT (c1 (qX (qb "tuple")) ae))) (p5 (cT (qQ tH tH aN (c1 qh ae) (cC vS))))) (oT bJ) oV)
 (oT (qz (c1 ud (cL (oJ 1 [] (iT ae) (gN 0) pM (oa tY bB)))) (oa qk bB))))
def xi:=fnD 1 1 xh
def DJ:FS:=(oT (c1 ud (cL (oJ 1 [0] (iT ag) (gN 0) pM (c2 (dIn false) ae ag)))))
def xK:=fnD 2 2 DJ
def tJ:FS:=(oh (oQ 2 (cL (oJ 1 [1] (iL ae) (gN 0) (cT (c2 (dEq true) (c1 (oN oM "name") ae) (c1 (oN oM "name") ag))) ae)))
 (oT (CK (c1 AU (cL (oJ 1 [1] (iL aq) (gN 0) pM (oa xK (n4 (c1 (oN qL "words") ae) (a1 (c1 (oN qL "words") ag))))))))))
def tK:=fnD 2 3 tJ
def qt:FS:=(oh (o6 (oa oB (n4 (c1 ud (cL (oJ 1 [] (iL ae) (gN 0) pM (oa xi (a1 (c1 (oN qL "words") ae)))))) (a1 (cS "a thing has 1 to 4 unlike words, as a tuple")))))
 (oh (oQ 1 (cL (oX rj bB)))
 (o6 (oa oB (n4 (c1 ud (cL (oJ 1 [1] (iL ag) (gN 0) pM (oa tK jh)))) (a1 (cS "one thing has all words of another")))))))
def qu:=fnD 1 2 qt
abbrev dS:=(n4 ae (a1 ag))
def vU:FS:=(oh (oQ 2 (qz (c1 (qX (qb "list")) ae) (qz (c1 ud (cL (oJ 1 [1] (iL ae) (gN 0) pM (oa qj dS)))) (oa qk bB))))
 (o6 (oa oB (n4 aq (a1 (cS "dark is a list of rooms' names, each once"))))))
def vV:=fnD 2 3 vU
def zj:FS:=(oh (oQ 3 (qz (oa qe (n4 ae (a1 (cC As)))) (c1 ud (cL (oJ 1 [1,2] (iL ae) (gN 0) pM yp)))))
 (oh (o6 (oa oB (n4 az (a1 (cS "ways are a list of at most 10 tuples (room, word, room, mark)")))))
 (o6 (oa oB (n4 (oa qk (a1 (cL (oJ 1 [] (iL ae) (gN 0) pM (qm (n4 (c2 dIx ae aQ) (a1 (c2 dIx ae aN)))))))) (a1 (cS "two ways lead from one room by one word")))))))
def vW:=fnD 3 4 zj
def x4:FS:=(oh (oQ 1 (qz (oa qe (n4 ae (a1 (cC y6)))) (c1 ud (cL (oJ 1 [] (iL ae) (gN 0) pM yp)))))
 (o6 (oa oB (n4 ag (a1 (cS "verbs are a list of at most 6 verbs"))))))
def uV:=fnD 1 2 x4
def AB:FS:=(oT (CK (c1 AU (cL (oJ 1 [1] (iL ae) (gN 0) pM (c2 (dIn false) ae ag))))))
def tD:=fnD 2 2 AB
abbrev bg:=(cV 6)
abbrev cf:=(cV 7)
def rJ:FS:=(oh (tm 3 (pb oF))
 (oh (rT (iL (cL (oX rj bB))) (gN 4) (o6 (Al 3 (c1 (oN qL "words") aA))))
 (oh (tm 5 (pb oF))
 (oh (rT (iL aq) (gN 6) (o6 (Al 5 (Ak (qm (a1 (c1 (oN oM "name") bg))) (c1 (oN yB "others") bg)))))
 (oh (oQ 7 (cL (rq (cL (oJ 1 [] (iL aq) (gN 0) (cT (c2 Dp (c1 (oN wZ "joining") ae) bF)) (c1 (oN wZ "joining") ae))) (cL (oJ 1 [] (iL ag) (gN 0) pM (c2 dIx ae aN))))))
 (oh (o6 (oa oB (n4 (oa qk (a1 (cFz 5))) (a1 (cS "two verbs' names are alike")))))
 (oh (o6 (oa oB (n4 (oa tD (n4 (cL (rq (cFz 5) cf)) (a1 (cFz 3)))) (a1 (cS "a verb's, way's or joining word is a word of a thing")))))
 (oh (o6 (oa oB (n4 (oa tD (n4 (cL (rq (cFz 5) cf)) (a1 (cC uh)))) (a1 (cS "the, a, undo or restart is a word of the world")))))
 (o6 (oa oB (n4 (oa tD (n4 cf (a1 (cFz 5)))) (a1 (cS "a way's or joining word is a verb's name")))))))))))))
def qE:=fnD 3 8 rJ
abbrev fG:=(a1 ag)
abbrev fH:=(a1 aA)
def uW:FS:=(oh (o6 (oa ur bB))
 (oh (o6 (oa uS fG))
 (oh (o6 (oa uU dS))
 (oh (o6 (oa uv bB))
 (oh (o6 (oa qu bB))
 (oh (oQ 6 (cL (oJ 1 [] (iL ae) (gN 0) (cT (c2 (dEq false) (c1 (oN pB "kind") ae) cb)) (c1 (oN oM "name") ae))))
 (oh (o6 (oa vV (n4 aq (a1 bg))))
 (oh (o6 (oa vW (n4 az (n4 bg (a1 (cL (oX qC dS)))))))
 (oh (o6 (oa uV fH))
 (o6 (oa qE (n4 ae (n4 az (a1 (cL (rq aA aO))))))))))))))))
def uX:=fnD 6 7 uW
def MN:FS:=(oT (pD 13 (λds=>xg (ds++[])) (n4 ae (n4 ag (n4 aq (n4 az (a1 bJ)))))))
def uY:=fnD 4 4 MN
def DK:FS:=(oT (pD 13 (λds=>xg (ds++[])) (n4 ae (n4 ag (n4 (cL (pb oF)) (n4 aq (a1 bV)))))))
def pK:=fnD 3 3 DK
abbrev cA:=(cS "it")
abbrev gK:=(cS "fixed")
def zk:FS:=(qg (pb (n4 (oa pK (n4 (cS "take") (n4 (cL (pb (a1 (pD 7 (λds=>qZ (ds++[])) (n4 cA (a1 gK)))))) (a1 (cS "That stays."))))) (n4 (oa pK (n4 (cS "take") (n4 (cL (pb (a1 (pD 3 (λds=>DI (ds++[])) (n4 cA bB))))) (a1 (cS "You have that."))))) (n4 (oa uY (n4 (cS "take") (n4 (cL (pb oF)) (n4 (cL (pb (a1 (pD 11 (λds=>tw (ds++[])) (n4 cA bB))))) (a1 (cS "Taken.")))))) (n4 (oa uY (n4 (cS "drop") (n4 (cL (pb (a1 (pD 4 (λds=>yD (ds++[])) (a1 cA))))) (n4 (cL (pb (a1 (pD 11 (λds=>tw (ds++[])) (n4 cA (a1 (cS "here"))))))) (a1 (cS "Dropped.")))))) (a1 (oa pK (n4 (cS "drop") (n4 (cL (pb oF)) (a1 (cS "You lack that."))))))))))))
def zm:=fnN 1 1 zk
abbrev b0:=(cS "box")
abbrev gR:=(cS "put")
abbrev gV:=(a1 b0)
def AC:FS:=(qg (pb (n4 (oa pK (n4 gR (n4 (cL (pb (a1 (pD 9 (λds=>rH (ds++[])) (a1 (pD 4 (λds=>yD (ds++[])) (a1 cA))))))) (a1 (cS "You lack that."))))) (n4 (oa pK (n4 gR (n4 (cL (pb (a1 (pD 9 (λds=>rH (ds++[])) (a1 (pD 7 (λds=>qZ (ds++[])) (n4 (cS "other") gV))))))) (a1 (cS "It holds nothing."))))) (n4 (oa pK (n4 gR (n4 (cL (pb (a1 (pD 6 (λds=>qM (ds++[])) (n4 (cS "other") (a1 aQ)))))) (a1 (cS "It is shut."))))) (a1 (oa uY (n4 gR (n4 (cL (pb oF)) (n4 (cL (pb (a1 (pD 11 (λds=>tw (ds++[])) (n4 cA (a1 (cS "other"))))))) (a1 (cS "Done."))))))))))))
def AD:=fnN 0 0 AC
abbrev jf:=(n4 cA (a1 aN))
abbrev jg:=(n4 cA (a1 aQ))
def AE:FS:=(qg (pb (n4 (oa pK (n4 (cS "open") (n4 (cL (pb (a1 (pD 9 (λds=>rH (ds++[])) (a1 (pD 7 (λds=>qZ (ds++[])) (n4 cA gV))))))) (a1 (cS "It has no lid."))))) (n4 (oa pK (n4 (cS "open") (n4 (cL (pb (a1 (pD 6 (λds=>qM (ds++[])) jf)))) (a1 (cS "It is open."))))) (n4 (oa uY (n4 (cS "open") (n4 (cL (pb oF)) (n4 (cL (pb (a1 (pD 12 (λds=>uk (ds++[])) jf)))) (a1 (cS "Opened.")))))) (n4 (oa pK (n4 (cS "shut") (n4 (cL (pb (a1 (pD 9 (λds=>rH (ds++[])) (a1 (pD 7 (λds=>qZ (ds++[])) (n4 cA gV))))))) (a1 (cS "It has no lid."))))) (n4 (oa pK (n4 (cS "shut") (n4 (cL (pb (a1 (pD 6 (λds=>qM (ds++[])) jg)))) (a1 (cS "It is shut."))))) (a1 (oa uY (n4 (cS "shut") (n4 (cL (pb oF)) (n4 (cL (pb (a1 (pD 12 (λds=>uk (ds++[])) jg)))) (a1 (cS "Shut."))))))))))))))
def AF:=fnN 0 0 AE
abbrev dq:=(cS "lamp")
abbrev fJ:=(a1 dq)
def ya:FS:=(qg (pb (n4 (oa pK (n4 (cS "light") (n4 (cL (pb (a1 (pD 9 (λds=>rH (ds++[])) (a1 (pD 7 (λds=>qZ (ds++[])) (n4 cA fJ))))))) (a1 (cS "It burns not."))))) (n4 (oa pK (n4 (cS "light") (n4 (cL (pb (a1 (pD 6 (λds=>qM (ds++[])) jf)))) (a1 (cS "It is lit."))))) (n4 (oa uY (n4 (cS "light") (n4 (cL (pb oF)) (n4 (cL (pb (a1 (pD 12 (λds=>uk (ds++[])) jf)))) (a1 (cS "Lit.")))))) (n4 (oa pK (n4 (cS "douse") (n4 (cL (pb (a1 (pD 9 (λds=>rH (ds++[])) (a1 (pD 7 (λds=>qZ (ds++[])) (n4 cA fJ))))))) (a1 (cS "It burns not."))))) (n4 (oa pK (n4 (cS "douse") (n4 (cL (pb (a1 (pD 6 (λds=>qM (ds++[])) jg)))) (a1 (cS "It is out."))))) (a1 (oa uY (n4 (cS "douse") (n4 (cL (pb oF)) (n4 (cL (pb (a1 (pD 12 (λds=>uk (ds++[])) jg)))) (a1 (cS "Doused."))))))))))))))
def yb:=fnN 0 0 ya
abbrev gE:=(cC (.int 2))
def Ca:FS:=(oh (oQ 2 (cL (oJ 1 [0] (iL ag) (gN 0) pM (oa uY (n4 (cS "go") (n4 yp (n4 (cL (pb (a1 (pD 11 (λds=>tw (ds++[])) (n4 ag (a1 (c2 dIx ae gE))))))) (a1 (cS "You go.")))))))))
 (qg (rq aq (cL (pb (a1 (oa pK (n4 (cS "go") (n4 (cL (pb oF)) (a1 (cS "No way there.")))))))))))
def Cb:=fnN 2 3 Ca
def zp:FS:=(qg (pb (a1 (oa uY (n4 (cS "wait") (n4 (cL (pb oF)) (n4 (cL (pb oF)) (a1 (cS "Time goes by.")))))))))
def zq:=fnN 0 0 zp
def xj:FS:=(qg (rq (cL (rq (cL (rq (cL (rq (cL (rq (cL (oX zm bB)) (cL (oX AD oF)))) (cL (oX AF oF)))) (cL (oX yb oF)))) (cL (oX Cb dS)))) (cL (oX zq oF))))
def ra:=fnN 2 2 xj
def xk:FS:=(qg (rq (cL (oJ 1 [] (iT (qm (n4 (cS "take") (n4 (cS "drop") (n4 (cS "open") (n4 (cS "shut") (n4 (cS "light") (a1 (cS "douse"))))))))) (gN 0) pM (pD 2 (λds=>qY (ds++[D.non,(D.str "one"),D.non])) bB))) (cL (pb (n4 (pD 2 (λds=>qY (ds++[])) (n4 gR (n4 (qm oF) (n4 (cS "two") (a1 (cS "in")))))) (n4 (pD 2 (λds=>qY (ds++[D.non])) (n4 (cS "go") (n4 (qm oF) (a1 (cS "way"))))) (a1 (pD 2 (λds=>qY (ds++[D.non])) (n4 (cS "wait") (n4 (qm oF) (a1 (cS "alone"))))))))))))
def qv:=fnN 0 0 xk
def zX:FS:=(oh (xU 1)
 (oh (rT (iL ae) (gN 2) (pC 1 (c1 (oN oM "name") aq) aq))
 (oT (cFz 1))))
def zY:=fnD 1 3 zX
def tL:FS:=(oh (xU 2)
 (oh (rT (iL ae) (gN 3) (sIf (cT (o9 qq "has_mark" az oF)) (pC 2 (c1 (oN oM "name") az) aN) oV))
 (oh (rT (iL ag) (gN 4) (pC 2 (c1 (oN oM "name") aA) (c1 (oN uf "most") aA)))
 (oT (cFz 2)))))
def qJ:=fnD 2 5 tL
def wu:FS:=(oh (xU 1)
 (oh (rT (iL ae) (gN 2) (rT (iT (Ak (qm (a1 (c1 (oN oM "name") aq))) (c1 (oN yB "others") aq))) (gN 3) (pC 1 az aq)))
 (oT (cFz 1))))
def qK:=fnD 1 4 wu
def DL:FS:=(Hk (oN Gb "verb"))
def vv:=fnD 1 3 DL
def wx:FS:=(qg (oJ 1 [1] (iL (c1 (oN pX "kept_things") ae)) (gN 0) (cT (c2 (dEq false) (c1 (oN pB "kind") ae) ag)) (c1 (oN oM "name") ae)))
def tM:=fnD 2 2 wx
def qN:Nat->Option (List D->Option D):=λc=>match c with
 |14=>some tM
 |_=>none
def uJ:FS:=(qg (rq (c1 (oN w9 "kept_verbs") ae) (c1 (oN vm "shared_verbs") ae)))
def sk:=fnD 1 1 uJ
def rE:Nat->Option (List D->Option D):=λc=>match c with
 |14=>some sk
 |_=>none
abbrev eP:=(n4 ag (a1 aq))
def sm:FS:=(oh (o6 (oa uX (n4 ag (n4 aq (n4 az (n4 aA (n4 aO (a1 (cL (oX qv oF))))))))))
 (oh (pz 14 0 "kept_things" (cL (wm ag)))
 (oh (pz 14 0 "kept_marks" (cL (wm aq)))
 (oh (pz 14 0 "kept_dark" (cL (wm az)))
 (oh (pz 14 0 "kept_ways" (cL (wm aA)))
 (oh (pz 14 0 "kept_verbs" (cL (wm aO)))
 (oh (pz 14 0 "shared_verbs" (cL (oX qv oF)))
 (oh (pz 14 0 "your_name" (uD 15 (c2 dIx (o9 qN "of_kind" ae (a1 cc)) aQ)))
 (oh (pz 14 0 "things_by_name" (oa zY fG))
 (oh (pz 14 0 "mosts_by_name" (oa qJ eP))
 (oh (pz 14 0 "verbs_by_word" (uD 15 (oa qK (a1 (o9 rE "all_verbs" ae oF)))))
 (oh (oQ 7 (uD 15 (qz (oa qe (n4 bg (a1 (cC y7)))) (c1 ud (cL (oJ 1 [0] (iL bg) (gN 0) pM yp))))))
 (oh (o6 (oa oB (n4 cf (a1 (cS "rules are a list of at most 20 rules, each as it may be")))))
 (oh (pz 14 0 "kept_rules" (cL (wm bg)))
 (oh (pz 14 0 "shared_rules" (uD 15 (cL (oX ra (n4 (c1 (oN sV "your_name") ae) fH)))))
 (oh (pz 14 0 "copied_rules" (cL (oJ 1 [] (iL bg) (gN 0) pM yp)))
 (pz 14 0 "rules_by_verb" (uD 15 (oa vv (a1 (cL (rq (c1 (oN sJ "copied_rules") ae) (c1 (oN sL "shared_rules") ae)))))))))))))))))))))))
def sq:=fnI 14 6 8 sm
def xl:FS:=(oT (qz (c1 (qX (qb "str")) ae) (c2 (dEq false) ae ag)))
def qw:=fnD 2 2 xl
def AG:FS:=(oT (c1 (oN sV "your_name") ae))
def AH:=fnD 1 1 AG
def sM:Nat->Option (List D->Option D):=λc=>match c with
 |14=>some AH
 |_=>none
def yc:FS:=(qg (oJ 1 [] (iL (c1 (oN pX "kept_things") ae)) (gN 0) pM (c1 (oN oM "name") ae)))
def yd:=fnD 1 1 yc
def rb:Nat->Option (List D->Option D):=λc=>match c with
 |14=>some yd
 |_=>none
def wy:FS:=(oT (c2 (dIn false) ag (c1 (oN xX "kept_dark") ae)))
def wz:=fnD 2 2 wy
def sW:Nat->Option (List D->Option D):=λc=>match c with
 |14=>some wz
 |_=>none
def vw:FS:=(oT (c2 Ds (c1 (oN ug "things_by_name") ae) ag))
def vz:=fnD 2 2 vw
def pA:Nat->Option (List D->Option D):=λc=>match c with
 |14=>some vz
 |_=>none
def wA:FS:=(oT (c2 Ds (c1 (oN uG "mosts_by_name") ae) ag))
def wB:=fnD 2 2 wA
def sX:Nat->Option (List D->Option D):=λc=>match c with
 |14=>some wB
 |_=>none
def uK:FS:=(qg (wm (c1 (oN sf "kept_marks") ae)))
def uL:=fnD 1 1 uK
def tN:Nat->Option (List D->Option D):=λc=>match c with
 |14=>some uL
 |_=>none
abbrev dr:=(cS "at")
def ye:FS:=(oh (oQ 1 (cL (oJ 1 [] (iL (c1 (oN pX "kept_things") ae)) (gN 0) (cT (c2 (dEq true) (c1 (oN pB "kind") ae) cb)) (qm (n4 dr (a1 (c1 (oN oM "name") ae)))))))
 (oh (oQ 2 (cL (oJ 1 [] (iL (cL (oX qC (n4 (c1 (oN pX "kept_things") ae) (a1 (c1 (oN sf "kept_marks") ae)))))) (gN 0) pM (qm (n4 (cS "mark") bB)))))
 (qg (zU (cL (rq ag aq))))))
def sY:=fnD 1 3 ye
def rO:Nat->Option (List D->Option D):=λc=>match c with
 |14=>some sY
 |_=>none
def zr:FS:=(oh (xU 1)
 (oh (rT (iL (o9 tN "own_marks" ae oF)) (gN 2) (pC 1 (c1 (oN oM "name") aq) (c1 (oN pN "start") aq)))
 (oT (cFz 1))))
def vX:=fnD 1 3 zr
def yf:FS:=(oh (sIf (cT (c2 (dEq false) (c2 dIx aq aQ) dr)) (oT (c1 (oN pN "start") (o9 pA "thing_of" ae (a1 (c2 dIx aq aN))))) oV)
 (oT (IH ag (c2 dIx aq aN) aQ)))
def qO:=fnD 3 3 yf
abbrev nV:=(n4 ag (n4 aq bB))
def yg:FS:=(oh (oQ 1 (oa vX bB))
 (oT (Ah (cL (oJ 1 [0,1] (iL (o9 rO "parts" ae oF)) (gN 0) pM (qm (n4 ae (a1 (oa qO nV)))))))))
def uZ:=fnD 1 2 yg
def Cc:FS:=(oh (rT (iT ae) (gN 2) (sIf (cT (c2 (dEq false) (c2 dIx aq aQ) ag)) (oT (c2 dIx aq aN)) oV))
 (oT bF))
def uw:=fnD 2 3 Cc
def IY:FS:=(oT (oa uw (n4 ae (a1 (qm (n4 dr fG))))))
def pH:=fnD 2 2 IY
def DM:FS:=(oT (oa uw (n4 ae (a1 (qm (n4 (cS "mark") fG))))))
def vA:=fnD 2 2 DM
def AI:FS:=(oT (Ah (cL (oJ 1 [1,2] (iT ae) (gN 0) pM (cIf (cT (c2 (dEq false) (c2 dIx ae aQ) ag)) (qm eP) ae)))))
def tE:=fnD 3 3 AI
def zt:FS:=(oh (tm 3 (pb oF))
 (oh (oQ 4 (oa pH eP))
 (oh (whL (cT (c2 Dp aA bF)) (oh (o6 (uc 3 aA))
 (oQ 4 (oa pH (n4 ag fH)))) 50)
 (qg (JS 3)))))
def tS:=fnN 3 5 zt
abbrev nR:=(a1 (o9 sM "you" ae oF))
def DN:FS:=(oT (oa pH (n4 ag nR)))
def sN:=fnD 2 2 DN
abbrev fK:=(n4 ae eP)
def QX:FS:=(oT (c2 (dIn false) (o9 sM "you" ae oF) (cL (oX tS fK))))
def IZ:=fnD 3 3 QX
def DO:FS:=(oT (qz (c2 (dEq false) (c1 (oN pB "kind") (o9 pA "thing_of" ae c5)) b0) (c2 (dEq false) (oa vA eP) aQ)))
def rP:=fnD 3 3 DO
def DP:FS:=(oh (rT (iL (cL (oX tS fK))) (gN 4) (oh (sIf (cT (c2 (dEq false) aA az)) (oT bV) oV)
 (sIf (cT (oa rP (n4 ae (n4 ag fH)))) (oT bJ) oV)))
 (oT bJ))
def rQ:=fnD 4 5 DP
def Cd:FS:=(oT (qz (c2 (dEq false) (oa vA eP) aN) (oa rQ (n4 ae (n4 ag (n4 aq fI))))))
def vY:=fnD 4 4 Cd
def Gc:FS:=(oh (oQ 2 (oa sN dS))
 (oh (sIf (p5 (cT (o9 sW "is_dark" ae c5))) (oT bV) oV)
 (oT (c1 AU (cL (oJ 1 [0,1,2] (iL (o9 qN "of_kind" ae fJ)) (gN 0) pM (oa vY (n4 ag (n4 aq (n4 ae fI))))))))))
def zu:=fnD 2 3 Gc
def DQ:FS:=(oh (oQ 3 (o9 pA "thing_of" ae c5))
 (oh (sIf (sy (cT (c2 xN az bF)) (p5 (cT (o9 qr "is_plainly" az oF)))) (oT bJ) oV)
 (oh (sIf (cT (oa rQ (n4 ae (n4 ag (n4 aq nR))))) (oT bV) oV)
 (oT (qz (oa rQ (n4 ae (n4 ag (n4 aq (a1 (oa sN dS)))))) (oa zu dS))))))
def vB:=fnD 3 4 DQ
def MO:FS:=(qg (yw (cL (oJ 1 [0,1] (iL (o9 rb "names" ae oF)) (gN 0) (cT (oa vB nV)) ae))))
def Hz:=fnN 2 2 MO
abbrev ji:=(n4 ae c5)
def sr:FS:=(oh (oQ 2 (oa pH dS))
 (oh (rT (iR1 (c1 qh ae)) (gN 3) (oh (sIf (cT (c2 xN aq bF)) (oT bV) oV)
 (oQ 2 (oa pH ji))))
 (oT (c2 xN aq bF))))
def oW:=fnD 2 4 sr
def Gd:FS:=(oT (qz (c1 (qX (qb "tuple")) ae) (c2 (dEq false) (c1 qh ae) gE)))
def ux:=fnD 1 1 Gd
def DR:FS:=(oT (qz (oa ux bB) (qz (oa qw (n4 (c2 dIx ae aQ) (a1 (c2 dIx ag aQ)))) (oa qw (n4 (c2 dIx ae aN) (a1 (c2 dIx ag aN)))))))
def vC:=fnD 2 2 DR
def AJ:FS:=(oh (oQ 3 (cIf (cT (c1 (qX (qb "str")) aq)) (o9 pA "thing_of" ae c5) bF))
 (oh (sIf (cT (c2 xN az bF)) (oT bJ) oV)
 (oh (sIf (cT (c2 (dEq false) ag (o9 sM "you" ae oF))) (oT (c2 (dEq false) (c1 (oN pB "kind") az) cb)) oV)
 (oT (o9 qa "can_hold" az oF)))))
def xm:=fnD 3 4 AJ
def Ce:FS:=(oh (sIf (cT (c2 (dEq false) (c2 dIx ag aQ) (cS "mark"))) (oT (qz (oa uj c5) (qQ tH tH aQ aq (o9 sX "most_of" ae (a1 (c2 dIx ag aN)))))) oV)
 (oT (oa xm (n4 ae (n4 (c2 dIx ag aN) c5)))))
def ql:=fnD 3 3 Ce
def Cf:FS:=(oh (oQ 2 (o9 rO "parts" ae oF))
 (oh (sIf (sy (p5 (cT (c1 (qX (qb "tuple")) ag))) (cT (c2 (dEq true) (c1 qh ag) (c1 qh aq)))) (oT bJ) oV)
 (oh (rT (iZT eP) (gT (oG (gN 3) (oG (gN 4) qA)) 2) (sIf (sy (p5 (cT (oa ux fI))) (sy (p5 (cT (oa vC (n4 (c2 dIx az aQ) fH)))) (p5 (cT (oa ql (n4 ae (n4 aA (a1 (c2 dIx az aN))))))))) (oT bJ) oV))
 (oT (c1 ud (cL (oJ 1 [1] (iL (o9 rb "names" ae oF)) (gN 0) pM (oa oW jh))))))))
def rK:=fnD 2 5 Cf
def xn:FS:=(oh (sIf (cT (c2 Fv ag (c1 qh ae))) (oT (c2 dIx ae ag)) oV)
 (oT aQ))
def uy:=fnD 2 2 xn
abbrev dQ:=(cC (.int 2147483647))
abbrev cN:=(cC (.int 6))
abbrev fE:=(cC (.int 10))
abbrev iY:=(cC (.int 48271))
def zv:FS:=(oh (tm 2 (pb oF))
 (oh (oQ 3 aQ)
 (oh (sIf (cT (c2 Si ae (c2 Ag fE (cC (.int 18))))) (oQ 3 (c2 LK ae (c2 Ag fE (cC (.int 18))))) oV)
 (oh (whL (Ai (vc (cT (c2 LL az aQ)) (cT (c2 Fv (c1 qh aq) ag)))) (oh (o6 (uc 2 (c2 rM az (c2 Ag fE cN))))
 (oQ 3 (c2 xT az (c2 Ag fE cN)))) 200)
 (oh (oQ 4 (c2 rM (c2 tq (c2 pO (c2 rM ae dQ) aN) iY) dQ))
 (oh (rT (iR1 ag) (gN 5) (oh (oQ 4 (c2 rM (c2 tq (c2 pO (c2 pO aA (c2 tq (cC (.int 7919)) aO)) aN) iY) dQ))
 (oh (oQ 6 (c2 rM (c2 tq aA (c2 pO (c2 xT aA (cC (.int 1009))) (cC (.int 69621)))) dQ))
 (o6 (uc 2 (c2 rM (c2 tq bg (c2 pO (c2 xT bg (cC (.int 2003))) (cC (.int 40692)))) (cC (.int 2147483399))))))))
 (qg (uQ (cFz 2) oNo (oAt ag)))))))))
def su:=fnN 2 7 zv
def AK:FS:=(oh (sIf (Ai (cT (c2 (dEq false) ae (cL (pb oF))))) (oT aQ) oV)
 (oT (c2 rM (Iv 0) ag)))
def oj:=fnM 1 2 AK
abbrev ja:=(cC (.int 25))
abbrev kH:=(a1 (cC (.int 8)))
def vZ:FS:=(oh (oQ 1 (pW oj 0 (a1 ja)))
 (oh (oQ 2 (cS "bcdefghijklmnopqrstuvwxyz"))
 (qg (oJ 1 [2,0,1] (iR1 (cC (.int 17))) (gN 0) pM (c2 FK (c2 dIx ag (c2 rM (c2 pO az (c2 tq (cC (.int 7)) ae)) ja)) (c2 pO aN (pW oj 2 kH)))))))
def v3:=fnM 0 3 vZ
abbrev fF:=(cC (.int 5))
abbrev gO:=(cS "plain")
def sZ:FS:=(oh (tm 3 (pb oF))
 (oh (tm 4 (rq ag (cL (pb (a1 (c2 dIx ae fF))))))
 (oh (rT (iL (cL (uQ ae (oAt cN) (oAt (c2 pO cN (pW oj 2 kH)))))) (gN 5) (oh (oQ 6 (c2 dIx (cL (pb (n4 gO (n4 b0 (n4 dq (n4 gK (n4 b0 (n4 dq (n4 b0 (a1 gO)))))))))) (pW oj 2 kH)))
 (oh (o6 (uc 3 (qm (n4 aO (n4 bg (a1 (G1 4 (pW oj 2 (a1 (CN (c1 qh aA)))))))))))
 (sIf (cT (c2 (dEq false) bg b0)) (o6 (uc 4 aO)) oV))))
 (qg (JS 3)))))
def qP:=fnL 2 7 sZ
abbrev dR:=(cV 10)
abbrev kI:=(a1 (cC (.int 3)))
def xp:FS:=(oh (tm 1 (oX su (n4 ae (a1 (cC (.int 110))))))
 (oh (oQ 2 (pW v3 1 oF))
 (oh (oQ 3 (cL (uQ aq oNo (oAt (c2 pO aN (pW oj 1 (a1 fF)))))))
 (oh (oQ 4 (cL (rq (cL (oJ 1 [] (iL az) (gN 0) pM (qm (n4 ae (n4 cb (a1 bF)))))) (cL (pb (a1 (qm (n4 (c2 dIx aq fF) (n4 cc (a1 (c2 dIx az (pW oj 1 (a1 (c1 qh az))))))))))))))
 (oh (oQ 5 (cL (pb oF)))
 (oh (rT (iL (cL (rq aA (BO qP 1 (n4 aq fI))))) (gN 6) (oh (oQ 7 (pW oj 1 (a1 (c2 pO (c1 qh aO) aN))))
 (oQ 5 (cL (rq (cL (rq (cL (uQ aO oNo (oAt cf))) (cL (pb (a1 bg))))) (cL (uQ aO (oAt cf) oNo)))))))
 (oh (tm 8 (pb oF))
 (oh (rT (iL (cL (uQ aq (oAt (cC (.int 13))) (oAt (c2 pO (cC (.int 13)) (pW oj 1 (a1 fF))))))) (gN 9) (oh (oQ 10 (c2 pO aN (pW oj 1 kI)))
 (o6 (uc 8 (qm (n4 (cV 9) (n4 (pW oj 1 (a1 (c2 pO dR aN))) (a1 dR))))))))
 (oh (oQ 11 (cL (oJ 1 [1] (iL az) (gN 0) (cT (c2 (dEq false) (pW oj 1 (a1 gE)) aN)) ae)))
 (oh (oQ 12 (cL (pb (n4 (qm oF) (n4 (qm (a1 (cS "red"))) (a1 (qm (n4 (cS "old") (a1 (cS "red"))))))))))
 (oh (oQ 13 (cL (oJ 3 [12,1] (iL aO) (gT (oG (gN 0) (oG (gN 1) (oG (gN 2) qA))) 3) pM (Ak (qm bB) (c2 dIx az (pW oj 4 kI))))))
 (oT (Du [("rows", aO),("marks", (cFz 8)),("dark", (cV 11)),("words", (cV 13)),("you", (c2 dIx aq fF))])))))))))))))
def xq:=fnD 1 14 xp
abbrev gQ:=(cS "rows")
def v5:FS:=(oh (oQ 1 (cL (oJ 2 [] (iZ (n4 (c2 ph ae gQ) (a1 (c2 ph ae (cS "words"))))) (gT (oG (gN 0) (oG (gN 1) qA)) 2) pM (pD 0 (λds=>y9 (ds++[])) (n4 (c2 dIx ae aQ) (n4 ag (n4 (c2 dIx ae aN) (a1 (c2 dIx ae gE)))))))))
 (oh (oQ 2 (cL (oJ 3 [] (iL (c2 ph ae (cS "marks"))) (gT (oG (gN 0) (oG (gN 1) (oG (gN 2) qA))) 3) pM (pD 1 (λds=>Aw (ds++[])) fK))))
 (oT (pD 14 (λds=>sq (ds++[])) (n4 ag (n4 aq (n4 (cL (wm (c2 ph ae (cS "dark")))) (n4 (cL (pb oF)) (n4 (cL (pb oF)) (a1 (cL (pb oF))))))))))))
def v7:=fnD 1 3 v5
def DS:FS:=(qg (oJ 3 [1] (iL (c2 ph ae gQ)) (gT (oG (gN 0) (oG (gN 1) (oG (gN 2) qA))) 3) (cT (c2 (dIn false) ag az)) ae))
def pU:=fnN 2 2 DS
def v8:FS:=(oh (xU 1)
 (oh (rT (iL (cL (oX pU (n4 ae (a1 (cL (pb (n4 b0 fJ)))))))) (gN 2) (pC 1 aq aN))
 (oh (rT (iL (c2 ph ae (cS "marks"))) (gT (oG (gN 2) (oG (gN 3) (oG (gN 4) qA))) 3) (pC 1 aq aA))
 (oT (cFz 1)))))
def tT:=fnD 1 5 v8
def xt:FS:=(oh (tm 2 (pb oF))
 (oh (whL (cT (c2 (Es false) ag ae)) (oh (oQ 1 (c2 ph ae ag))
 (o6 (uc 2 ag))) 50)
 (qg (JS 2))))
def pS:=fnN 2 3 xt
def xu:FS:=(oh (oQ 5 (cL (oX pS (n4 ag fI))))
 (oh (sIf (cT (c2 (dIn true) aA aO)) (oT bJ) oV)
 (oh (oQ 6 (cL (oJ 1 [2] (iL (cL (oX pU (n4 ae (a1 (cL (pb gV))))))) (gN 0) (cT (c2 (dEq false) (c2 ph ag ae) aQ)) ae)))
 (oT (c2 (dEq false) (cL (oJ 1 [6] (iL (cL (uQ aO oNo (oAt (c2 sU aO aA))))) (gN 0) (cT (c2 (dIn false) ae ag)) ae)) (cL (pb oF)))))))
def pe:=fnD 5 7 xu
def Cg:FS:=(oh (oQ 3 (c2 ph ag (c2 ph ae cc)))
 (oh (oQ 4 (cL (oJ 1 [2] (iL (cL (oX pU (n4 ae (a1 (cL (pb fJ))))))) (gN 0) (cT (c2 (dEq false) (c2 ph ag ae) aN)) ae)))
 (oh (sIf (cT (c2 (dIn true) az (c2 ph ae (cS "dark")))) (oT bV) oV)
 (oT (c2 (dEq true) (cL (oJ 1 [0,1,2,3] (iL aA) (gN 0) (cT (oa pe (n4 ag (n4 aq (n4 az (n4 ae fH)))))) ae)) (cL (pb oF)))))))
def v9:=fnD 3 5 Cg
abbrev nO:=(a1 (c2 ph ag (c2 ph ae cc)))
def AL:FS:=(oh (tm 3 (pb oF))
 (oh (oQ 4 (oa v9 fK))
 (oh (rT (iL (cL (oX pU (n4 ae (a1 (cL (pb (n4 gO (n4 gK (n4 b0 fJ)))))))))) (gN 5) (oh (oQ 6 (qz aA (oa pe (n4 ae (n4 ag (n4 aq (n4 aO nO)))))))
 (sIf (sy (cT bg) (cT (oa pe (n4 ae (n4 ag (n4 aq (n4 aO (a1 (c2 ph ae cc))))))))) (o6 (uc 3 aO)) oV)))
 (qg (yw (cFz 3))))))
def xw:=fnN 3 7 AL
def zw:FS:=(oT (qz (c1 (qX (qb "bool")) ae) (c2 (dEq false) ae ag)))
def tU:=fnD 2 2 zw
def wa:FS:=(oh (xU 1)
 (oh (xU 2)
 (oh (rT (iL (c2 ph ae gQ)) (gT (oG (gN 3) (oG (gN 4) (oG (gN 5) qA))) 3) (oh (sIf (cT (c2 (dEq true) aA cb)) (pC 1 az aO) oV)
 (sIf (sy (cT (c2 (dEq false) aA b0)) (cT (c2 (dEq false) aA dq))) (pC 2 az aQ) oV)))
 (oh (rT (iL (c2 ph ae (cS "marks"))) (gT (oG (gN 3) (oG (gN 5) (oG (gN 6) qA))) 3) (pC 2 az aO))
 oV))))
def tV:=fnP 1 7 1 2 wa
def Ci:FS:=(oh (tm 2 (oX su (n4 ag (a1 (cC (.int 4))))))
 (oh (oQ 3 (oa tT bB))
 (oh (oQ 4 (cL (yz az)))
 (oh (sIf (vc (cT (c2 (dEq true) aA (cL (pb oF)))) (cT (c2 (dEq false) (pW oj 2 kI) aQ))) (oh (oQ 5 (c2 dIx aA (pW oj 2 (a1 (c1 qh aA)))))
 (oT (qm (n4 (cS "mark") (n4 aO (a1 (pW oj 2 (a1 (c2 pO (c2 ph az aO) aN))))))))) oV)
 (oh (oQ 4 (cL (oX pU (n4 ae (a1 (cL (pb (n4 gO (n4 gK (n4 b0 (n4 dq (a1 cc))))))))))))
 (oh (oQ 5 (c2 dIx aA (pW oj 2 (a1 (c1 qh aA)))))
 (oh (oQ 6 (cL (oX pU (n4 ae (a1 (cL (pb (a1 cb))))))))
 (oh (sIf (cT (c2 (dEq true) aO (c2 ph ae cc))) (oQ 6 (cL (oX pU (n4 ae (a1 (cL (pb (n4 cb (n4 cc gV))))))))) oV)
 (oT (qm (n4 dr (n4 aO (a1 (c2 dIx bg (pW oj 2 (a1 (c1 qh bg)))))))))))))))))
def sO:=fnD 2 7 Ci
def AM:FS:=(oh (oQ 3 (cL (oJ 3 [0,2] (iL (c2 ph ag gQ)) (gT (oG (gN 0) (oG (gN 1) (oG (gN 2) qA))) 3) (cT (oa IZ (n4 az (n4 aA bB)))) ae)))
 (oT (qm (n4 (cL (oX Hz ji)) (n4 (oa zu ji) (n4 az (a1 (oa sN ji))))))))
def rR:=fnD 3 4 AM
def Cj:FS:=(oh (oQ 3 (cL (oJ 3 [0,1] (iL (c2 ph ae gQ)) (gT (oG (gN 0) (oG (gN 1) (oG (gN 2) qA))) 3) (cT (c2 (dIn false) (c2 ph az cc) (cL (oX pS (n4 aA bB))))) ae)))
 (oT (qm (n4 (cL (oX xw fK)) (n4 (oa v9 fK) (n4 az nO))))))
def sP:=fnD 3 4 Cj
abbrev gH:=(a1 (cV 9))
abbrev je:=(n4 ag (n4 az (a1 aA)))
abbrev nL:=(n4 (oa rK (n4 aq (a1 dR))) (a1 (CK (cV 11))))
abbrev nN:=(n4 aO (n4 (qm (n4 cf (a1 (cV 8)))) gH))
abbrev nP:=(n4 aq (n4 ag (a1 dR)))
abbrev nQ:=(n4 aq (n4 ag (a1 aO)))
def MP:FS:=(oh (oQ 1 (oa xq (a1 (oa uy (n4 ae (a1 aQ))))))
 (oh (oQ 2 (oa v7 fG))
 (oh (DE 3 4 tV fG)
 (oh (oQ 5 (oa uZ c5))
 (oh (rT (iL (cL (cSl ae (some 1) (some 25)))) (gN 6) (oh (G0 (oa sO (n4 ag (a1 bg))) (gT (oG (gN 7) (oG (gN 8) (oG (gN 9) qA))) 3))
 (oh (oQ 10 (oa tE nN))
 (oh (oQ 11 (Hy (qz (c2 (dEq false) cf dr) (c2 (dIn false) (cV 8) (cL (rq (cL (pb gH)) (cL (oX pS (n4 az gH)))))))))
 (oh (sIf (p5 (cT (oa tU nL))) (oT bJ) oV)
 (sIf (p5 (cT (cV 11))) (oh (oQ 12 (BY (oa sP je)))
 (oh (sIf (cT (c2 (dEq false) cf dr)) (pC 3 (cV 8) (cV 9)) (pC 4 (cV 8) (cV 9)))
 (oh (sIf (BX (cT (c2 (dEq true) (oa rR nP) (oa sP je)))) (oT bJ) oV)
 (oh (sIf (cT (c2 (dEq true) (oa rR nQ) (cV 12))) (oT bJ) oV)
 (oQ 5 dR))))) oV))))))
 (oT bV))))))
def QY:=fnD 1 13 MP
section
variable{k:Nat}{cap:List Nat}{g:FG}{ft:FT}{fe e:FE}{s:FA}{ρ ρ1 ρ2:aV}{α:Type}
theorem qR{m:L4.D}(h:e ρ=some (.bl true,ρ1)):o6 (oa oB (n4 e (n4 (cC m) oF))) ρ=some (.nx ρ1):=pT (og (n8 h (n8 rfl rfl)) rfl)
theorem tQ(dd h:α->L4.D)(l:List α)(hs:s ρ=some (l.map dd,ρ1))(hl:l.length<=1000)(st:∀a∈l,∃ρ2 ρ3,g (dd a) (xM k cap ρ1)=some ρ2/\fe ρ2=some (h a,ρ3)/\rl cap (ρ3.drop k) ρ1=some ρ1):
  oJ k cap s g pM fe ρ=some (l.map h,ρ1):=(yV hs (by rw[ah];exact hl)).trans (PL dd h l st)
theorem rA(dd h:α->L4.D)(p:α->Bool)(l:List α)(hs:s ρ=some (l.map dd,ρ1))(hl:l.length<=1000)
  (st:∀a∈l,∃ρ2 ρ3,g (dd a) (xM k cap ρ1)=some ρ2/\ft ρ2=some (p a,ρ3)/\(p a=true->∃ρ4,fe ρ3=some (h a,ρ4)/\rl cap (ρ4.drop k) ρ1=some ρ1)/\(p a=false->rl cap (ρ3.drop k) ρ1=some ρ1)):
  oJ k cap s g ft fe ρ=some ((l.filter p).map h,ρ1):=(yV hs (by rw[ah];exact hl)).trans (BR dd p h l st)
theorem u0(dd:α->L4.D)(l:List α)(hs:s ρ=some (l.map dd,ρ1))(hl:l.length<=1000)(st:∀a∈l,∃ρ2 ρ3,g (dd a) (xM k cap ρ1)=some ρ2/\fe ρ2=some (.bl true,ρ3)/\rl cap (ρ3.drop k) ρ1=some ρ1):
  c1 ud (cL (oJ k cap s g pM fe)) ρ=some (.bl true,ρ1):=
 pj (px (tQ dd (λ_=>.bl true) l hs hl st)) ((EA l λ_=>true).trans (by rw[bw.mpr λ_ _=>rfl]))
theorem MQ(dd:α->L4.D)(l:List α)(hs:s ρ=some (l.map dd,ρ1))(hl:l.length<=1000)(st:∀a∈l,∃ρ2 ρ3,g (dd a) (xM k cap ρ1)=some ρ2/\fe ρ2=some (.bl false,ρ3)/\rl cap (ρ3.drop k) ρ1=some ρ1):
  c1 AU (cL (oJ k cap s g pM fe)) ρ=some (.bl false,ρ1):=
 pj (px (tQ dd (λ_=>.bl false) l hs hl st)) ((IU l λ_=>false).trans (by rw[mj.mpr λ_ _=>bb]))
end
inductive Kd where
 |room|you|plain|fixed|box|lamp
deriving DecidableEq
def Kd.s:Kd->Str
 |.room=>"room" |.you=>"you" |.plain=>"plain" |.fixed=>"fixed" |.box=>"box" |.lamp=>"lamp"
def Kd.pl:Kd->Bool
 |.room=>false|.you=>false|_=>true
def Kd.hd:Kd->Bool
 |.room=>true|.you=>true|.box=>true|_=>false
def Kd.mk:Kd->Bool
 |.box=>true|.lamp=>true|_=>false
structure Th where
 n:Str
 w:aE
 k:Kd
 s:Option Str
def oS:Option Str->L4.D
 |none=>.non
 |some x=>.str x
def thD(t:Th):L4.D:=.obj 0 ["name", "words", "kind", "start"] [.str t.n,.tup (t.w.map D.str),.str t.k.s,oS t.s]
theorem tP(t:Th):oN oM "name" (thD t)=some (.str t.n):=rfl
theorem EI(t:Th):oN qL "words" (thD t)=some (.tup (t.w.map D.str)):=rfl
theorem wb(t:Th):oN pB "kind" (thD t)=some (.str t.k.s):=rfl
theorem Bd(t:Th):oN pN "start" (thD t)=some (oS t.s):=rfl
theorem DT(a b:Kd):dEq false (.str a.s) (.str b.s)=some (.bl (decide (a=b))):=by cases a<;>cases b<;>kernel_rfl
theorem I0(t:Th):vp [thD t]=some (.bl t.k.hd):=by obtain⟨n,w,k,s⟩:=t;cases k<;>kernel_rfl
theorem EJ(t:Th):vt [thD t]=some (.bl t.k.mk):=by obtain⟨n,w,k,s⟩:=t;cases k<;>kernel_rfl
theorem Ge(t:Th):uo [thD t]=some (.bl t.k.pl):=by obtain⟨n,w,k,s⟩:=t;cases k<;>kernel_rfl
theorem P5(t:Th):qj [.str t.k.s,EH]=some (.bl true):=by obtain⟨n,w,k,s⟩:=t;cases k<;>kernel_rfl
abbrev TD(T:List Th):L4.D:=.lst (T.map thD)
theorem count_eq(T:List Th)(hl:T.length<=1000)(k:Kd):vT [TD T,.str k.s]=some (.int (T.filter λt=>decide (t.k=k)).length):=by refine oH (ρ:=[.im (TD T),.im (.str k.s)]) rfl ?_;refine o7 (pj (px (rA thD thD (λt=>decide (t.k=k)) T (ρ1:=[.im (TD T),.im (.str k.s)]) rfl hl λt _=>⟨[.im (thD t),.im (.str k.s)],[.im (thD t),.im (.str k.s)],rfl,pL (ou (pj rfl (wb t)) rfl (DT t.k k)),λ_=>⟨_,rfl,rfl⟩,λ_=>rfl⟩)) ?_);show some (D.int _)=_;rw[ah]
theorem u6(T:List Th)(hl:T.length<=1000):rj [TD T]=some ((T.filter λt=>t.k.pl).map thD):=by refine uP (ρ:=[.im (TD T)]) rfl ?_;exact sS (rA thD thD (λt=>t.k.pl) T (ρ1:=[.im (TD T)]) rfl hl λt _=>⟨[.im (thD t)],[.im (thD t)],rfl,pL (pE (xs:=[.str t.n,.tup (t.w.map D.str),.str t.k.s,oS t.s]) (ys:=[]) rfl rfl rfl rfl (Ge t)),λ_=>⟨_,rfl,rfl⟩,λ_=>rfl⟩)
variable{ρ:aV}
theorem zx{a b c:FE}{x y z:Int}(h1:a ρ=some (.int x,ρ))(h2:b ρ=some (.int y,ρ))(h3:c ρ=some (.int z,ρ))(hx:x<=y)(hy:y<=z):qQ tH tH a b c ρ=some (.bl true,ρ):=by
 unfold qQ;rw[h1];simp only[h2];have e1:tH (.int x) (.int y)=some (.bl true):=by show some (D.bl (decide (x<=y)))=_;rw[aZ hx]
 have e2:tH (.int y) (.int z)=some (.bl true):=by show some (D.bl (decide (y<=z)))=_;rw[aZ hy]
 simp only[e1,h3,e2]
theorem QZ{a b:FE}{x y:Int}(h1:a ρ=some (.int x,ρ))(h2:b ρ=some (.int y,ρ))(hx:x<=y):c2 tH a b ρ=some (.bl true,ρ):=ou h1 h2 (by
 show some (D.bl (decide (x<=y)))=_;rw[aZ hx])
theorem AX(T:List Th)(hl:T.length<=1000)(h1:1<=(T.filter λt=>decide (t.k=.room)).length)(h5:(T.filter λt=>decide (t.k=.room)).length<=5)(hy:(T.filter λt=>decide (t.k=.you)).length=1)(h7:(T.filter λt=>t.k.pl).length<=7):
  ur [TD T]=some .non:=by
 let ρ:aV:=[.im (TD T),.im (.bl true)];refine wW (ρ:=ρ) rfl ?_;unfold uq;rw[n9 (show _=some (Out.nx ρ) from(oK ((pQ rfl).trans (u0 thD T (ρ1:=[.im (TD T),.un]) rfl hl λt _=>⟨_,_,rfl,rfl,rfl⟩))).trans rfl)];rw[n9 (qR (ρ1:=ρ) rfl)];rw[n9 (qR (ρ1:=ρ) (u0 thD T rfl hl λt _=>⟨[.im (thD t)],[.im (thD t)],rfl,og (n8 (pj rfl (wb t)) (n8 rfl rfl)) (P5 t),rfl⟩))];rw[n9 (qR (ρ1:=ρ) (zx (x:=1) (y:=(T.filter λt=>decide (t.k=.room)).length) (z:=5) rfl (og (ds:=[TD T,.str Kd.room.s]) rfl (count_eq T hl .room)) rfl (by omega) (by omega)))];rw[n9 (qR (ρ1:=ρ) (ou (ρ1:=ρ) (x:=.int (T.filter λt=>decide (t.k=.you)).length) (y:=.int 1) (og (ds:=[TD T,.str Kd.you.s]) rfl (count_eq T hl .you)) rfl (by rw[hy];rfl)))];refine qR (ρ1:=ρ) (QZ (x:=(T.filter λt=>t.k.pl).length) (y:=7) (pj (px (og rfl (u6 T hl))) ?_) rfl (by omega));show some (D.int _)=_;rw[ah]
structure Mk where
 n:Str
 st:Int
 mo:Int
def mkD(m:Mk):L4.D:=.obj 1 ["name", "start", "most"] [.str m.n,.int m.st,.int m.mo]
def Mk.ok(m:Mk):Prop:=1<=m.mo/\m.mo<=3/\0<=m.st/\m.st<=m.mo
abbrev MD(M:List Mk):L4.D:=.lst (M.map mkD)
theorem Be(m:Mk):oN oM "name" (mkD m)=some (.str m.n):=rfl
theorem HA(m:Mk)(h:m.ok):zW [mkD m]=some (.bl true):=by obtain⟨h1,h2,h3,h4⟩:=h;refine oH (ρ:=[.im (mkD m)]) rfl ?_;unfold zV;rw[n9 (show _=some (Out.nx [.im (mkD m)]) from rfl)];exact o7 ((pQ (zx (x:=1) (y:=m.mo) (z:=3) rfl rfl rfl h1 h2)).trans (zx (x:=0) (y:=m.st) (z:=m.mo) rfl rfl rfl h3 h4))
theorem Ck(M:List Mk)(hl:M.length<=4)(h:∀m∈M,m.ok):uS [MD M]=some .non:=by
 let ρ:aV:=[.im (MD M),.im (.bl true)];refine wW (ρ:=ρ) rfl ?_;unfold uR;have e0:qe [MD M,tR]=some (.bl true):=by refine oH (ρ:=[.im (MD M),.im (.int 4)]) rfl ?_;refine o7 ((pQ rfl).trans (QZ (x:=M.length) (y:=4) ?_ rfl (by omega)));refine pj rfl ?_;show some (D.int _)=_;rw[ah]
 rw[n9 (show _=some (Out.nx ρ) from(oK ((pQ (og (ds:=[MD M,tR]) rfl e0)).trans (u0 mkD M (ρ1:=[.im (MD M),.un]) rfl (by omega) λm hm=>⟨[.im (mkD m)],[.im (mkD m)],rfl,og rfl (HA m (h m hm)),rfl⟩))).trans rfl)];exact qR (ρ1:=ρ) rfl
def nmS(l c:Nat):Str:=gA ⟨#[98+l]⟩ (1+(c:Int))
def Nm(x:Str):Prop:=∃l c,l<25/\c<8/\x=nmS l c
def isT:Option L4.D->Bool
 |some (.bl b)=>b
 |_=>false
theorem MR{o:Option L4.D}(h:isT o=true):o=some (.bl true):=by
 unfold isT at h;split at h
 ·rw[h]
 ·cases h
theorem HB{p:Str->Bool}(h:((br 25).all λl=>(br 8).all λc=>p (nmS l c))=true){x:Str}(hx:Nm x):p x=true:=by obtain⟨l,c,hl,hc,rfl⟩:=hx;exact bw.mp (bw.mp h l (bY.mpr hl)) c (bY.mpr hc)
theorem HC{x:Str}(h:Nm x):xJ [.str x]=some (.bl true):=MR (HB (p:=λx=>isT (xJ [.str x])) (by kernel_rfl) h)
theorem HD{x:Str}(h:Nm x):tY [.str x]=some (.bl true):=MR (HB (p:=λx=>isT (tY [.str x])) (by kernel_rfl) h)
theorem Gf:tY [.str "red"]=some (.bl true):=by kernel_rfl
theorem Gg:tY [.str "old"]=some (.bl true):=by kernel_rfl
def noW(x:Str):Bool:=decide (x∉(["red", "old", "take", "drop", "open", "shut", "light", "douse", "put", "go", "wait", "in", "the", "a", "undo", "restart"]:aE))
theorem MS{x:Str}(h:Nm x):x∉(["red", "old", "take", "drop", "open", "shut", "light", "douse", "put", "go", "wait", "in", "the", "a", "undo", "restart"]:aE):=bz (HB (p:=noW) (by kernel_rfl) h)
def sg(x:Str):Nat:=x.cps.getD 0 0
theorem WH{l c:Nat}(hl:l<25)(hc:c<8):sg (nmS l c)=98+l:=by
 have h:((br 25).all λl=>(br 8).all λc=>sg (nmS l c)==98+l)=true:=by kernel_rfl
 exact gv (bw.mp (bw.mp h l (bY.mpr hl)) c (bY.mpr hc))
theorem Cm{l:aE}(h:l.Nodup)(hl:l.length<=1000):qk [.lst (l.map D.str)]=some (.bl true):=by
 refine oH (ρ:=[.im (.lst (l.map D.str))]) rfl ?_;refine o7 (ou (x:=.int l.length) (y:=.int l.length) (pj rfl (Po (Ap h hl))) (pj rfl ?_) ?_)
 ·show some (D.int _)=_;rw[ah]
 ·rw[uE];simp
theorem HE{l:aE}(h:l.Nodup)(hl:l.length<=1000):qk [.tup (l.map D.str)]=some (.bl true):=by
 refine oH (ρ:=[.im (.tup (l.map D.str))]) rfl ?_;refine o7 (ou (x:=.int l.length) (y:=.int l.length) (pj rfl (Ap h hl)) (pj rfl ?_) ?_)
 ·show some (D.int _)=_;rw[ah]
 ·rw[uE];simp
theorem Cn(T:List Th)(M:List Mk)(hT:T.length<=400)(hM:M.length<=400)(hn:∀x∈T.map Th.n++M.map Mk.n,Nm x)(nd:(T.map Th.n++M.map Mk.n).Nodup):uU [TD T,MD M]=some .non:=by
 have hl:(T.map Th.n++M.map Mk.n).length<=1000:=by rw[aJ,ah,ah];omega
 let ρ0:aV:=[.im (TD T),.im (MD M),.un];let ρ:aV:=[.im (TD T),.im (MD M),.im (.lst ((T.map Th.n++M.map Mk.n).map D.str))];refine wW (ρ:=ρ) rfl ?_;unfold uT;have e1:oJ 1 [] (iL ae) (gN 0) pM (c1 (oN oM "name") ae) ρ0=some (T.map λt=>D.str t.n,ρ0):=tQ thD (λt=>D.str t.n) T rfl (by omega) λt _=>⟨_,_,rfl,pj rfl (tP t),rfl⟩;have e2:oJ 1 [] (iL ag) (gN 0) pM (c1 (oN oM "name") ae) ρ0=some (M.map λt=>D.str t.n,ρ0):=tQ mkD (λt=>D.str t.n) M rfl (by omega) λt _=>⟨_,_,rfl,pj rfl (Be t),rfl⟩;have e3:=oK (i:=2) (px (ue (px e1) (px e2) (by rw[ah,ah];omega)));refine(n9 (ρ':=ρ) (e3.trans (by
  have:(T.map λt=>D.str t.n)++(M.map λt=>D.str t.n)=(T.map Th.n++M.map Mk.n).map D.str:=by rw[aT,aF,aF];rfl
  rw[this];rfl))).trans ?_
 rw[n9 (qR (ρ1:=ρ) (u0 D.str (T.map Th.n++M.map Mk.n) rfl hl λx hx=>⟨_,_,rfl,og rfl (HC (hn x hx)),rfl⟩))];exact qR (ρ1:=ρ) (og rfl (Cm nd hl))
def rmN(T:List Th):aE:=(T.filter λt=>decide (t.k=.room)).map Th.n
def hdN(T:List Th):aE:=(T.filter λt=>t.k.hd).map Th.n
variable{i:Nat}
abbrev gG:=(cC (.str "room"))
theorem Gh(T:List Th)(hl:T.length<=1000)(hi:cV i ρ=some (TD T,ρ)):oJ 1 [] (iL (cV i)) (gN 0) (cT (c2 (dEq false) (c1 (oN pB "kind") ae) gG)) (c1 (oN oM "name") ae) ρ=some ((rmN T).map D.str,ρ):=by
 have hs:iL (cV i) ρ=some (T.map thD,ρ):=by unfold iL;rw[hi]
 have:=rA (k:=1) (cap:=[]) (g:=gN 0) (ft:=cT (c2 (dEq false) (c1 (oN pB "kind") ae) gG)) (fe:=c1 (oN oM "name") ae) thD (λt=>D.str t.n) (λt=>decide (t.k=.room)) T hs hl λt _=>⟨[.im (thD t)],[.im (thD t)],rfl,pL (ou (pj rfl (wb t)) rfl (DT t.k .room)),λ_=>⟨_,pj rfl (tP t),rfl⟩,λ_=>rfl⟩
 rw[this];unfold rmN;rw[aF];rfl
theorem HF(T:List Th)(hl:T.length<=1000)(hi:cV i ρ=some (TD T,ρ)):oJ 1 [] (iL (cV i)) (gN 0) (cT (o9 qa "can_hold" ae oF)) (c1 (oN oM "name") ae) ρ=some ((hdN T).map D.str,ρ):=by
 have hs:iL (cV i) ρ=some (T.map thD,ρ):=by unfold iL;rw[hi]
 have:=rA (k:=1) (cap:=[]) (g:=gN 0) (ft:=cT (o9 qa "can_hold" ae oF)) (fe:=c1 (oN oM "name") ae) thD (λt=>D.str t.n) (λt=>t.k.hd) T hs hl λt _=>⟨[.im (thD t)],[.im (thD t)],rfl,pL (pE (xs:=[.str t.n,.tup (t.w.map D.str),.str t.k.s,oS t.s]) (ys:=[]) rfl rfl rfl rfl (I0 t)),λ_=>⟨_,pj rfl (tP t),rfl⟩,λ_=>rfl⟩
 rw[this];unfold hdN;rw[aF];rfl
theorem zZ{x:Str}{l:aE}(h:x∈l):qj [.str x,.lst (l.map D.str)]=some (.bl true):=by refine oH (ρ:=[.im (.str x),.im (.lst (l.map D.str))]) rfl ?_;refine o7 ((pQ rfl).trans (ou rfl rfl ?_));rw[rD];simp[h]
theorem CT(dk rm:aE)(hl:dk.length<=1000)(nd:dk.Nodup)(h:∀x∈dk,x∈rm):vV [.lst (dk.map D.str),.lst (rm.map D.str)]=some .non:=by let ρ0:aV:=[.im (.lst (dk.map D.str)),.im (.lst (rm.map D.str)),.un];let ρ:aV:=[.im (.lst (dk.map D.str)),.im (.lst (rm.map D.str)),.im (.bl true)];refine wW (ρ:=ρ) rfl ?_;unfold vU;rw[n9 (show _=some (Out.nx ρ) from(oK ((pQ (ρ1:=ρ0) rfl).trans ((pQ (u0 D.str dk (ρ1:=ρ0) rfl hl λx hx=>⟨[.im (.str x),.im (.lst (rm.map D.str))],[.im (.str x),.im (.lst (rm.map D.str))],rfl,og rfl (zZ (h x hx)),rfl⟩)).trans (og (ρ1:=ρ0) rfl (Cm nd hl))))).trans rfl)];exact qR (ρ1:=ρ) rfl
def wc(T:List Th)(t:Th):Prop:=match t.k,t.s with
 |.room,none=>True
 |.room,some _=>False
 |_,none=>False
 |.you,some x=>x∈rmN T
 |_,some x=>x∈hdN T
abbrev eL:=(cC (.str "you"))
theorem Gi(T:List Th)(hl:T.length<=1000)(t:Th)(h:wc T t):yF [TD T,thD t]=some (.bl true):=by
 refine oH (ρ:=[.im (TD T),.im (thD t)]) rfl ?_;unfold yE;obtain⟨n,w,k,s⟩:=t;have els:∀k:Kd,k≠.room->k≠.you->∀x,x∈hdN T->(oh (sIf (cT (c2 (dEq false) (c1 (oN pB "kind") ag) gG)) (oT (c2 xN (c1 (oN pN "start") ag) bF)) oV)
   (oh (sIf (cT (c2 (dEq false) (c1 (oN pB "kind") ag) eL)) (oT (oa qj (n4 (c1 (oN pN "start") ag) (n4 (cL (oJ 1 [] (iL ae) (gN 0) (cT (c2 (dEq false) (c1 (oN pB "kind") ae) gG)) (c1 (oN oM "name") ae))) oF)))) oV)
   (oT (oa qj (n4 (c1 (oN pN "start") ag) (n4 (cL (oJ 1 [] (iL ae) (gN 0) (cT (o9 qa "can_hold" ae oF)) (c1 (oN oM "name") ae))) oF)))))) [.im (TD T),.im (thD ⟨n,w,k,some x⟩)]=some (.rt (.bl true) [.im (TD T),.im (thD ⟨n,w,k,some x⟩)]):=λk h1 h2 x hx=>by
  let ρ:aV:=[.im (TD T),.im (thD ⟨n,w,k,some x⟩)];rw[n9 (show _=some (Out.nx ρ) from(pd (ρ':=ρ) (pL (ou (ρ1:=ρ) (ρ2:=ρ) (pj rfl (wb _)) rfl ((DT k .room).trans (by rw[aR h1]))))).trans rfl)];rw[n9 (show _=some (Out.nx ρ) from(pd (ρ':=ρ) (pL (ou (ρ1:=ρ) (ρ2:=ρ) (pj rfl (wb _)) rfl ((DT k .you).trans (by rw[aR h2]))))).trans rfl)];exact o7 (og (n8 (pj rfl (Bd _)) (n8 (px (HF T hl rfl)) rfl)) (zZ hx))
 cases k with
 |room=>
  cases s with
  |none=>rfl
  |some x=>exact h.elim
 |you=>
  cases s with
  |none=>exact h.elim
  |some x=>let ρ:aV:=[.im (TD T),.im (thD ⟨n,w,.you,some x⟩)];rw[n9 (show _=some (Out.nx ρ) from rfl)];refine pF ((pG (ρ':=ρ) rfl).trans ?_);exact o7 (og (n8 (pj rfl (Bd _)) (n8 (px (Gh T hl rfl)) rfl)) (zZ h))
 |plain=>cases s with
  |none=>exact h.elim
  |some x=>exact els .plain (by decide) (by decide) x h
 |fixed=>cases s with
  |none=>exact h.elim
  |some x=>exact els .fixed (by decide) (by decide) x h
 |box=>cases s with
  |none=>exact h.elim
  |some x=>exact els .box (by decide) (by decide) x h
 |lamp=>cases s with
  |none=>exact h.elim
  |some x=>exact els .lamp (by decide) (by decide) x h
def kS(x:Str):Key:=Sum.inr x
variable{fk fv:FE}{ks:List Key}{ds:List L4.D}{d:L4.D}
theorem vE{x:Str}(h1:fv ρ=some (d,ρ))(h2:ρ[i]?=some (.dk ks ds))(h3:fk ρ=some (.str x,ρ))(hn:kS x∉ks)(hl:ks.length<1000)(he:ds.length=ks.length):
  pC i fk fv ρ=some (.nx (ρ.set i (.dk (ks++[kS x]) (ds++[d])))):=by
 have hk:yW ks (kS x)=false:=by unfold yW;rw[ir];intro z;obtain⟨y,hy,ey⟩:=eB.mp z;exact hn (by rw[<-bz ey];exact hy)
 unfold pC;rw[h1];simp only[h2,h3];rw[show wU (.str x)=some (kS x) from rfl];simp only;rw[aj hl,aj he,hk];rfl
section
variable{α:Type}{g:FG}{i:Nat}{fk fv:FE}
theorem tZ(dd:α->L4.D)(kf:α->Str)(vf:α->L4.D)(st:List Key->List L4.D->Sl->aV)
  (hs:∀(a:α) (ks:List Key) (ds:List L4.D) (s:Sl),∃ρ1,g (dd a) (st ks ds s)=some ρ1/\fv ρ1=some (vf a,ρ1)/\ρ1[i]?=some (.dk ks ds)/\fk ρ1=some (.str (kf a),ρ1)/\∀ks' ds',∃s',ρ1.set i (.dk ks' ds')=st ks' ds' s'):
  ∀(l:List α) (ks:List Key) (ds:List L4.D) (s:Sl),(ks++l.map λa=>kS (kf a)).Nodup->ks.length+l.length<=1000->ds.length=ks.length->
   ∃s',forL g (pC i fk fv) (l.map dd) (st ks ds s)=some (.nx (st (ks++l.map λa=>kS (kf a)) (ds++l.map vf) s'))
 |[],ks,ds,s,_,_,_=>⟨s,by rw[bS,bS,bS,bp,bp];rfl⟩
 |a::l,ks,ds,s,nd,hl,he=>by
  obtain⟨ρ1,h1,h2,h3,h4,h5⟩:=hs a ks ds s;obtain⟨s1,h6⟩:=h5 (ks++[kS (kf a)]) (ds++[vf a]);rw[aI]at hl;have nd':((ks++[kS (kf a)])++l.map λa=>kS (kf a)).Nodup:=by rw[bo];exact nd
  have hn:kS (kf a)∉ks:=λz=>by rw[bK]at nd;exact nd.2.2 _ z _ (by rw[ay];exact aW) rfl
  obtain⟨s',h7⟩:=tZ dd kf vf st hs l (ks++[kS (kf a)]) (ds++[vf a]) s1 nd' (by rw[aJ,bt];omega) (by rw[aJ,aJ,he,bt,bt]);refine⟨s',?_⟩;rw[ay];unfold forL;rw[h1];simp only[vE h2 h3 h4 hn (by omega) he,h6];rw[h7,ay,ay,bo,bo];rfl
end
def nK(T:List Th):List Key:=T.map λt=>kS t.n
variable{a:Str}
theorem MU{b:Str}(h:kS a=kS b):a=b:=iI h
variable{T:List Th}
theorem Ja(h:(T.map Th.n).Nodup):(nK T).Nodup:=by have:=rN h;rw[aF]at this;exact this
variable{t:Th}
theorem Jb(h:(T.map Th.n).Nodup)(vf:Th->L4.D)(ht:t∈T):qB (nK T) (T.map vf) (kS t.n)=some (vf t):=by refine vh (Ja h) ?_;unfold nK;rw[gj];exact cp (f:=λt=>(kS t.n,vf t)) ht
def HG(T:List Th)(r:Str->Nat):Prop:=∀t∈T,r t.n<T.length/\∀p,t.s=some p->r p<r t.n/\∃u∈T,u.n=p
def stD(T:List Th):L4.D:=.dic (nK T) (T.map λt=>oS t.s)
theorem MV(T:List Th)(hl:T.length<=1000)(nd:(T.map Th.n).Nodup)(r:Str->Nat)(hr:HG T r)(t:Th)(ht:t∈T):qD [stD T,.str t.n]=some (.bl true):=by
 have loop:∀(m:Nat) (l:List L4.D),l.length=m->∀(a:Option Str) (s:Sl),(∀x,a=some x->(∃u∈T,u.n=x)/\r x<m)->
   (∃ρ,forL (gN 3) (oh (sIf (cT (c2 xN aq bF)) (oT bV) oV) (oQ 2 (c2 ph ae aq))) l [.im (stD T),.im (.str t.n),.im (oS a),s]=some (.rt (.bl true) ρ))\/
   (∃s',forL (gN 3) (oh (sIf (cT (c2 xN aq bF)) (oT bV) oV) (oQ 2 (c2 ph ae aq))) l [.im (stD T),.im (.str t.n),.im (oS a),s]=some (.nx [.im (stD T),.im (.str t.n),.im .non,s'])):=by
  intro m
  induction m with
  |zero=>
   intro l h a s ha;cases l with
   |cons d l=>cases h
   |nil=>
    cases a with
    |none=>exact .inr ⟨s,rfl⟩
    |some x=>exact ao (ha x rfl).2 (mW _)
  |succ m ih=>
   intro l h a s ha;cases l with
   |nil=>cases h
   |cons d l=>
    cases a with
    |none=>refine .inl ⟨[.im (stD T),.im (.str t.n),.im .non,.im d],?_⟩;unfold forL;rw[show gN 3 d [.im (stD T),.im (.str t.n),.im (oS none),s]=some [.im (stD T),.im (.str t.n),.im .non,.im d] from rfl];rfl
    |some x=>
     obtain⟨⟨u,hu,rfl⟩,hx⟩:=ha x rfl;have e:oh (sIf (cT (c2 xN aq bF)) (oT bV) oV) (oQ 2 (c2 ph ae aq)) [.im (stD T),.im (.str t.n),.im (.str u.n),.im d]=some (.nx [.im (stD T),.im (.str t.n),.im (oS u.s),.im d]):=by refine(n9 (ρ':=[.im (stD T),.im (.str t.n),.im (.str u.n),.im d]) rfl).trans ?_;exact(oK (ou rfl rfl (Jb nd (λt=>oS t.s) hu))).trans rfl
     have key:=ih l (by simpa using h) u.s (.im d) λy hy=>by obtain⟨h1,h2⟩:=hr u hu;obtain⟨h3,h4⟩:=h2 y hy;exact⟨h4,by omega⟩
     unfold forL;rw[show gN 3 d [.im (stD T),.im (.str t.n),.im (oS (some u.n)),s]=some [.im (stD T),.im (.str t.n),.im (.str u.n),.im d] from rfl];simp only[e];exact key
 obtain⟨h1,h2⟩:=hr t ht;have l0:=loop T.length (yS 0 T.length) (by unfold yS;simp) t.s .un λx hx=>⟨(h2 x hx).2,by have:=(h2 x hx).1;omega⟩;have e0:oQ 2 (c2 ph ae ag) [.im (stD T),.im (.str t.n),.un,.un]=some (.nx [.im (stD T),.im (.str t.n),.im (oS t.s),.un]):=(oK (ou rfl rfl (Jb nd (λt=>oS t.s) ht))).trans rfl;have e1:iR1 (c1 qh ae) [.im (stD T),.im (.str t.n),.im (oS t.s),.un]=some (yS 0 T.length,[.im (stD T),.im (.str t.n),.im (oS t.s),.un]):=by unfold iR1;rw[show c1 qh ae [.im (stD T),.im (.str t.n),.im (oS t.s),.un]=some (.int T.length,[.im (stD T),.im (.str t.n),.im (oS t.s),.un]) from pj rfl (by show some (D.int _)=_;unfold nK;rw[ah])];simp only;rw[aj (by omega),eU]
 rcases l0 with ⟨ρ,q⟩|⟨s',q⟩
 ·refine oH (ρ:=ρ) rfl ?_;refine(n9 e0).trans (pF ((pJ e1).trans q))
 ·refine oH (ρ:=[.im (stD T),.im (.str t.n),.im .non,s']) rfl ?_;refine(n9 e0).trans ((n9 ((pJ e1).trans q)).trans rfl)
theorem AY(T:List Th)(hl:T.length<=900)(nd:(T.map Th.n).Nodup)(r:Str->Nat)(hr:HG T r)(hs:∀t∈T,wc T t):uv [TD T]=some .non:=by
 obtain⟨s',e1⟩:=tZ (g:=gN 2) (i:=1) (fk:=c1 (oN oM "name") aq) (fv:=c1 (oN pN "start") aq) thD Th.n (λt=>oS t.s) (λks ds s=>[.im (TD T),.dk ks ds,s])
  (λt ks ds s=>⟨[.im (TD T),.dk ks ds,.im (thD t)],rfl,pj rfl (Bd t),rfl,pj rfl (tP t),λks' ds'=>⟨_,rfl⟩⟩) T [] [] .un (by rw[bq];exact Ja nd) (by simp;omega) rfl
 refine wW (ρ:=[.im (TD T),.im (stD T),s']) rfl ?_;unfold uu;refine(n9 (qR (ρ1:=[.im (TD T),.un,.un]) (u0 thD T rfl (by omega) λt ht=>⟨[.im (thD t),.im (TD T)],[.im (thD t),.im (TD T)],rfl,og rfl (Gi T (by omega) t (hs t ht)),rfl⟩))).trans ?_;refine(n9 (ρ':=[.im (TD T),.dk [] [],.un]) rfl).trans ?_;refine(n9 ((pJ rfl).trans e1)).trans ?_;have src:iD (cFz 1) [.im (TD T),.dk ([]++T.map λa=>kS a.n) ([]++T.map λt=>oS t.s),s']=some ((T.map λt=>D.str t.n),[.im (TD T),.im (stD T),s']):=by rw[bq,bq];unfold iD;rw[show cFz 1 [.im (TD T),.dk (T.map λa=>kS a.n) (T.map λt=>oS t.s),s']=some (stD T,[.im (TD T),.im (stD T),s']) from rfl];show (if (nK T).length=(T.map λt=>oS t.s).length then some ((nK T).map SW,_)else none)=_;unfold nK;rw[aj (by rw[ah,ah]),aF];rfl
 exact qR (ρ1:=[.im (TD T),.im (stD T),s']) (u0 (λt:Th=>D.str t.n) T src (by omega) λt ht=>⟨[.im (.str t.n),.im (stD T)],[.im (.str t.n),.im (stD T)],rfl,og rfl (MV T (by omega) nd r hr t ht),rfl⟩)
def DU:List aE:=[[],["red"],["old", "red"]]
def qU(t:Th):Prop:=Nm t.n/\∃m∈DU,t.w=t.n::m
theorem rS(h:qU t):t.w=[t.n]\/t.w=[t.n,"red"]\/t.w=[t.n,"old", "red"]:=by
 obtain⟨_,m,hm,e⟩:=h;unfold DU at hm;simp only[aL,bI,or_false]at hm;rcases hm with rfl|rfl|rfl
 ·exact .inl e
 ·exact .inr (.inl e)
 ·exact .inr (.inr e)
theorem z7(h:qU t){x:Str}(hx:x∈t.w):x=t.n\/x="red" \/ x="old" := by
 rcases rS h with e|e|e<;>rw[e]at hx<;>simp only[aL,bI,or_false]at hx
 ·exact .inl hx
 ·rcases hx with h|h
  ·exact .inl h
  ·exact .inr (.inl h)
 ·rcases hx with h|h|h
  ·exact .inl h
  ·exact .inr (.inr h)
  ·exact .inr (.inl h)
theorem Q0{x:Str}(h:Nm x):x≠"red" /\ x≠"old" := by have:=MS h;exact⟨λz=>this (by rw[z];decide),λz=>this (by rw[z];decide)⟩
theorem EK(h:qU t):xi [.tup (t.w.map D.str)]=some (.bl true):=by
 have hn:=h.1;obtain⟨n1,n2⟩:=Q0 hn;have len:1<=t.w.length/\t.w.length<=4:=by rcases rS h with e|e|e<;>rw[e]<;>simp
 have nd:t.w.Nodup:=by
  rcases rS h with e|e|e<;>rw[e]
  ·simp
  ·simp[n1]
  ·simp[n1,n2];decide
 let ρ:aV:=[.im (.tup (t.w.map D.str))];refine oH (ρ:=ρ) rfl ?_;unfold xh;have e1:qQ tH tH aN (c1 qh ae) (cC vS) ρ=some (.bl true,ρ):=zx (x:=1) (y:=t.w.length) (z:=4) rfl (pj rfl (by show some (D.int _)=_;rw[ah])) rfl (by omega) (by omega);refine(n9 (ρ':=ρ) ((pd (ρ':=ρ) (zN (ρ1:=ρ) rfl (sT (pL e1)))).trans rfl)).trans ?_;refine o7 ((pQ (u0 D.str t.w (ρ1:=ρ) rfl (by omega) λx hx=>⟨_,_,rfl,og rfl ?_,rfl⟩)).trans (og rfl (HE nd (by omega))));rcases z7 h hx with rfl|rfl|rfl
 ·exact HD hn
 ·exact Gf
 ·exact Gg
theorem HH(t u:Th)(ht:qU t)(hu:qU u)(hne:u.n≠t.n):xK [.tup (u.w.map D.str),.tup (t.w.map D.str)]=some (.bl false):=by
 obtain⟨n1,n2⟩:=Q0 ht.1;have hl:t.w.length<=1000:=by rcases rS ht with e|e|e<;>rw[e]<;>simp
 let ρ:aV:=[.im (.tup (u.w.map D.str)),.im (.tup (t.w.map D.str))];refine oH (ρ:=ρ) rfl ?_;refine o7 (pj (px (tQ D.str (λx=>.bl (decide (x∈u.w))) t.w (ρ1:=ρ) rfl hl λx _=>⟨_,_,rfl,ou rfl rfl (F2 false x u.w),rfl⟩)) ?_);rw[EA];have:t.w.all (λx=>decide (x∈u.w))=false:=by
  rw[ir];intro z;have:=bz (bw.mp z t.n (by rcases rS ht with e|e|e<;>rw[e]<;>simp));rcases z7 hu this with h|h|h
  ·exact hne h.symm
  ·exact n1 h
  ·exact n2 h
 rw[this]
theorem CU(P:List Th)(hl:P.length<=900)(hw:∀t∈P,qU t)(t:Th)(ht:qU t):tK [TD P,thD t]=some (.bl true):=by
 let O:=P.filter λu=>!decide (u.n=t.n);let ρ:aV:=[.im (TD P),.im (thD t),.im (TD O)];have hO:O.length<=900:=bQ (dX _ _) hl;refine oH (ρ:=ρ) rfl ?_;unfold tJ;refine(n9 (ρ':=ρ) ((oK (px (rA thD thD (λu=>!decide (u.n=t.n)) P (ρ1:=[.im (TD P),.im (thD t),.un]) rfl (by omega) λu _=>⟨[.im (thD u),.im (thD t)],[.im (thD u),.im (thD t)],rfl,pL (ou (pj rfl (tP u)) (pj rfl (tP t)) (se true u.n t.n)),λ_=>⟨_,rfl,rfl⟩,λ_=>rfl⟩))).trans rfl)).trans ?_;have e:c1 AU (cL (oJ 1 [1] (iL aq) (gN 0) pM (oa xK (n4 (c1 (oN qL "words") ae) (n4 (c1 (oN qL "words") ag) oF))))) ρ=some (.bl false,ρ):=
  MQ thD O rfl (by omega) λu hu=>⟨[.im (thD u),.im (thD t)],[.im (thD u),.im (thD t)],rfl,og (n8 (pj rfl (EI u)) (n8 (pj rfl (EI t)) rfl)) (HH t u ht (hw u (bA.mp hu).1) (by simpa using (bA.mp hu).2)),rfl⟩
 refine o7 ?_;unfold CK;rw[e];rfl
theorem Cp(T:List Th)(hl:T.length<=900)(hw:∀t∈T,qU t):qu [TD T]=some .non:=by let P:=T.filter λt=>t.k.pl;have hP:P.length<=900:=bQ (dX _ _) hl;have hwP:∀t∈P,qU t:=λt ht=>hw t (bA.mp ht).1;let ρ:aV:=[.im (TD T),.im (TD P)];refine wW (ρ:=ρ) rfl ?_;unfold qt;refine(n9 (qR (ρ1:=[.im (TD T),.un]) (u0 thD T rfl (by omega) λt ht=>⟨[.im (thD t)],[.im (thD t)],rfl,og (n8 (pj rfl (EI t)) rfl) (EK (hw t ht)),rfl⟩))).trans ?_;refine(n9 (ρ':=ρ) ((oK (px (og rfl (u6 T (by omega))))).trans rfl)).trans ?_;exact qR (ρ1:=ρ) (u0 thD P rfl (by omega) λt ht=>⟨[.im (thD t),.im (TD P)],[.im (thD t),.im (TD P)],rfl,og rfl (CU P hP hwP t (hwP t ht)),rfl⟩)
def yh(n f:Str)(j:L4.D):L4.D:=.obj 2 ["name", "others", "form", "joining"] [.str n,.tup [],.str f,j]
def oY:List L4.D:=[yh "take" "one" .non,yh "drop" "one" .non,yh "open" "one" .non,yh "shut" "one" .non,yh "light" "one" .non,yh "douse" "one" .non,yh "put" "two" (.str "in"),yh "go" "way" .non,yh "wait" "alone" .non]
theorem Gj:qv []=some oY:=by kernel_rfl
def vN:aE:=["take", "drop", "open", "shut", "light", "douse", "put", "go", "wait"]
def vI:aE:=["take", "drop", "open", "shut", "light", "douse", "put", "go", "wait", "in"]
variable{e:FE}{b:Bool}{ρ1:aV}
theorem P6(h:e ρ=some (.bl b,ρ1)):CK e ρ=some (.bl !b,ρ1):=by unfold CK;rw[h]
theorem MW{l m:aE}(hd:d=.lst (m.map D.str)\/d=.tup (m.map D.str))(hl:l.length<=900)(h:∀x∈l,x∉m):tD [.lst (l.map D.str),d]=some (.bl true):=by
 let ρ:aV:=[.im (.lst (l.map D.str)),.im d];refine oH (ρ:=ρ) rfl ?_;have e:c1 AU (cL (oJ 1 [1] (iL ae) (gN 0) pM (c2 (dIn false) ae ag))) ρ=some (.bl false,ρ):=MQ D.str l rfl (by omega) λx hx=>⟨[.im (.str x),.im d],[.im (.str x),.im d],rfl,ou rfl rfl (by
  rcases hd with rfl|rfl
  ·rw[rD];simp[h x hx]
  ·rw[F2];simp[h x hx]),rfl⟩
 exact o7 (P6 e)
theorem Kv(h:qU t):t.w.length<=3:=by rcases rS h with e|e|e<;>rw[e]<;>simp
theorem Cq{a b c s5 s6 s7:Sl}:∀(P:List Th) (acc:aE) (s:Sl),acc.length+3 * P.length<=900->(∀t∈P,qU t)->
  ∃s',forL (gN 4) (o6 (Al 3 (c1 (oN qL "words") aA))) (P.map thD) [a,b,c,.ls (acc.map D.str),s,s5,s6,s7]=some (.nx [a,b,c,.ls ((acc++P.flatMap Th.w).map D.str),s',s5,s6,s7])
 |[],acc,s,_,_=>⟨s,by simp;rfl⟩
 |t::P,acc,s,hl,hw=>by
  have h3:=Kv (hw t aW);rw[aI]at hl;obtain⟨s',e⟩:=Cq P (acc++t.w) (.im (thD t)) (by rw[aJ];omega) λu hu=>hw u (bj _ hu);refine⟨s',?_⟩;rw[ay];unfold forL;have e1:o6 (Al 3 (c1 (oN qL "words") aA)) [a,b,c,.ls (acc.map D.str),.im (thD t),s5,s6,s7]=some (.nx [a,b,c,.ls ((acc++t.w).map D.str),.im (thD t),s5,s6,s7]):=by refine(pT (d:=.non) (ρ':=[a,b,c,.ls ((acc++t.w).map D.str),.im (thD t),s5,s6,s7]) ?_);unfold Al;show (if (acc.map D.str).length+(t.w.map D.str).length<=1000 then some (D.non,[a,b,c,.ls (acc.map D.str++t.w.map D.str),.im (thD t),s5,s6,s7])else none)=_;rw[aj (by rw[ah,ah];omega),aT]
  rw[show gN 4 (thD t) [a,b,c,.ls (acc.map D.str),s,s5,s6,s7]=some [a,b,c,.ls (acc.map D.str),.im (thD t),s5,s6,s7] from rfl];simp only[e1];rw[e,List.flatMap_cons,bo]
theorem Cr(T:List Th)(hl:T.length<=200)(hw:∀t∈T,qU t):qE [TD T,.lst [],.lst oY]=some .non:=by
 let P:=T.filter λt=>t.k.pl;have hP:P.length<=200:=bQ (dX _ _) hl;have hwP:∀t∈P,qU t:=λt ht=>hw t (bA.mp ht).1;obtain⟨s',e1⟩:=Cq (a:=.im (TD T)) (b:=.im (.lst [])) (c:=.im (.lst oY)) (s5:=.un) (s6:=.un) (s7:=.un) P [] .un (by simp;omega) hwP;let O:=P.flatMap Th.w;let m1:Sl:=.ls (O.map D.str);let z:Sl:=.im (yh "wait" "alone" .non);refine wW (ρ:=[.im (TD T),.im (.lst []),.im (.lst oY),.im (.lst (O.map D.str)),s',.im (.lst (vN.map D.str)),z,.im (.lst [.str "in"])]) rfl ?_;unfold rJ;refine(n9 (ρ':=[.im (TD T),.im (.lst []),.im (.lst oY),.ls [],.un,.un,.un,.un]) rfl).trans ?_;refine(n9 (ρ':=[.im (TD T),.im (.lst []),.im (.lst oY),m1,s',.un,.un,.un]) ((pJ (ds:=P.map thD) (ρ1:=[.im (TD T),.im (.lst []),.im (.lst oY),.ls [],.un,.un,.un,.un]) ?_).trans e1)).trans ?_
 ·unfold iL;rw[px (og (g:=rj) (ds:=[TD T]) (ρ1:=[.im (TD T),.im (.lst []),.im (.lst oY),.ls [],.un,.un,.un,.un]) rfl (u6 T (by omega)))]
 refine(n9 (ρ':=[.im (TD T),.im (.lst []),.im (.lst oY),m1,s',.ls [],.un,.un]) rfl).trans ?_;refine(n9 (ρ':=[.im (TD T),.im (.lst []),.im (.lst oY),m1,s',.ls (vN.map D.str),z,.un]) (by kernel_rfl)).trans ?_;refine(n9 (ρ':=[.im (TD T),.im (.lst []),.im (.lst oY),m1,s',.ls (vN.map D.str),z,.im (.lst [.str "in"])]) (by kernel_rfl)).trans ?_;refine(n9 (qR (ρ1:=[.im (TD T),.im (.lst []),.im (.lst oY),m1,s',.im (.lst (vN.map D.str)),z,.im (.lst [.str "in"])]) (by kernel_rfl))).trans ?_;have no:∀x∈vI,x∉O:=λx hx ho=>by
  obtain⟨t,ht,hxt⟩:=List.mem_flatMap.mp ho;have hn:=(hwP t ht).1;rcases z7 (hwP t ht) hxt with rfl|rfl|rfl
  ·have sub:∀x∈vI,x∈(["red", "old", "take", "drop", "open", "shut", "light", "douse", "put", "go", "wait", "in", "the", "a", "undo", "restart"]:aE):=by decide
   exact MS hn (sub _ hx)
  ·exact ao hx (by decide)
  ·exact ao hx (by decide)
 have a1:=MW (l:=vI) (m:=O) (.inl rfl) (by decide) no;refine(n9 (qR (ρ1:=[.im (TD T),.im (.lst []),.im (.lst oY),.im (.lst (O.map D.str)),s',.im (.lst (vN.map D.str)),z,.im (.lst [.str "in"])]) (og (n8 (d:=.lst (vI.map D.str)) (ρ1:=[.im (TD T),.im (.lst []),.im (.lst oY),m1,s',.im (.lst (vN.map D.str)),z,.im (.lst [.str "in"])]) (by kernel_rfl) (n8 rfl rfl)) a1))).trans ?_;refine(n9 (qR (ρ1:=[.im (TD T),.im (.lst []),.im (.lst oY),.im (.lst (O.map D.str)),s',.im (.lst (vN.map D.str)),z,.im (.lst [.str "in"])]) (by kernel_rfl))).trans ?_;exact qR (by kernel_rfl)
structure Good(T:List Th)(M:List Mk)(dk:aE):Prop where
 len:T.length<=200
 r1:1<=(T.filter λt=>decide (t.k=.room)).length
 r5:(T.filter λt=>decide (t.k=.room)).length<=5
 y1:(T.filter λt=>decide (t.k=.you)).length=1
 p7:(T.filter λt=>t.k.pl).length<=7
 m4:M.length<=4
 mo:∀m∈M,m.ok
 nm:∀x∈T.map Th.n++M.map Mk.n,Nm x
 nd:(T.map Th.n++M.map Mk.n).Nodup
 st:∀t∈T,wc T t
 rk:∃r,HG T r
 wd:∀t∈T,qU t
 d0:dk.length<=5
 d1:dk.Nodup
 d2:∀x∈dk,x∈rmN T
variable{M:List Mk}{dk:aE}
theorem Good.ndT(g:Good T M dk):(T.map Th.n).Nodup:=(bK.mp g.nd).1
theorem CV(T:List Th)(M:List Mk)(hl:T.length<=200)(hM:M.length<=4):∃l,qC [TD T,MD M]=some l:=by
 let ρ:aV:=[.im (TD T),.im (MD M)];refine⟨_,uP (ρ:=ρ) rfl (sS (ue (px (rA thD (λt=>D.str t.n) (λt=>t.k.mk) T (ρ1:=ρ) rfl (by omega) λt _=>⟨[.im (thD t)],[.im (thD t)],rfl,pL (pE (xs:=[.str t.n,.tup (t.w.map D.str),.str t.k.s,oS t.s]) (ys:=[]) rfl rfl rfl rfl (EJ t)),λ_=>⟨_,pj rfl (tP t),rfl⟩,λ_=>rfl⟩))
  (px (tQ mkD (λt=>D.str t.n) M rfl (by omega) λt _=>⟨_,_,rfl,pj rfl (Be t),rfl⟩)) ?_))⟩
 have:=dX (λt:Th=>t.k.mk) T;rw[ah,ah];omega
theorem Cs(g:Good T M dk):uX [TD T,MD M,.lst (dk.map D.str),.lst [],.lst [],.lst oY]=some .non:=by
 have hl:=g.len;have hdk:dk.length<=1000:=by have:=g.d0;omega
 obtain⟨r,hr⟩:=g.rk;obtain⟨mn,emn⟩:=CV T M hl g.m4;let ρ0:aV:=[.im (TD T),.im (MD M),.im (.lst (dk.map D.str)),.im (.lst []),.im (.lst []),.im (.lst oY),.un];let ρ:aV:=[.im (TD T),.im (MD M),.im (.lst (dk.map D.str)),.im (.lst []),.im (.lst []),.im (.lst oY),.im (.lst ((rmN T).map D.str))];refine wW (ρ:=ρ) rfl ?_;unfold uW;refine(n9 (pT (ρ':=ρ0) (og rfl (AX T (by omega) g.r1 g.r5 g.y1 g.p7)))).trans ?_;refine(n9 (pT (ρ':=ρ0) (og rfl (Ck M g.m4 g.mo)))).trans ?_;refine(n9 (pT (ρ':=ρ0) (og rfl (Cn T M (by omega) (by have:=g.m4;omega) g.nm g.nd)))).trans ?_;refine(n9 (pT (ρ':=ρ0) (og rfl (AY T (by omega) g.ndT r hr g.st)))).trans ?_;refine(n9 (pT (ρ':=ρ0) (og rfl (Cp T (by omega) g.wd)))).trans ?_;refine(n9 (ρ':=ρ) ((oK (px (Gh T (by omega) rfl))).trans rfl)).trans ?_;refine(n9 (pT (ρ':=ρ) (og rfl (CT dk (rmN T) hdk g.d1 g.d2)))).trans ?_;have cw:vW [.lst [],.lst ((rmN T).map D.str),.lst mn]=some .non:=by kernel_rfl
 refine(n9 (pT (ρ':=ρ) (og (n8 rfl (n8 rfl (n8 (px (og (g:=qC) (ds:=[TD T,MD M]) rfl emn)) rfl))) cw))).trans ?_;refine(n9 (pT (ρ':=ρ) (og (g:=uV) (ds:=[.lst []]) (r:=.non) rfl (by kernel_rfl)))).trans ?_;exact pT (ρ':=ρ) (og (g:=qE) (ds:=[TD T,.lst [],.lst oY]) rfl (Cr T hl g.wd))
theorem HI(T:List Th)(hl:T.length<=900)(nd:(T.map Th.n).Nodup):zY [TD T]=some (.dic (nK T) (T.map thD)):=by
 obtain⟨s',e1⟩:=tZ (g:=gN 2) (i:=1) (fk:=c1 (oN oM "name") aq) (fv:=cV 2) thD Th.n thD (λks ds s=>[.im (TD T),.dk ks ds,s])
  (λt ks ds s=>⟨[.im (TD T),.dk ks ds,.im (thD t)],rfl,rfl,rfl,pj rfl (tP t),λks' ds'=>⟨_,rfl⟩⟩) T [] [] .un (by rw[bq];exact Ja nd) (by simp;omega) rfl
 refine oH (ρ:=[.im (TD T),.im (.dic (nK T) (T.map thD)),s']) rfl ?_;unfold zX;refine(n9 (ρ':=[.im (TD T),.dk [] [],.un]) rfl).trans ?_;refine(n9 ((pJ rfl).trans e1)).trans ?_;rw[bq,bq];rfl
theorem P7(m:Mk):oN uf "most" (mkD m)=some (.int m.mo):=rfl
theorem Ct(T:List Th)(hl:T.length<=1000)(ns:aE)(rest:List L4.D)(k:Kd):tM [.obj 14 ("kept_things" ::ns) (TD T::rest),.str k.s]=some (.lst ((T.filter λt=>decide (t.k=k)).map λt=>D.str t.n)):=by let ρ:aV:=[.im (.obj 14 ("kept_things" ::ns) (TD T::rest)),.im (.str k.s)];refine Hn (ρ:=ρ) rfl ?_;exact sS (rA thD (λt=>D.str t.n) (λt=>decide (t.k=k)) T (ρ1:=ρ) rfl hl λt _=>⟨[.im (thD t),.im (.str k.s)],[.im (thD t),.im (.str k.s)],rfl,pL (ou (pj rfl (wb t)) rfl (DT t.k k)),λ_=>⟨_,pj rfl (tP t),rfl⟩,λ_=>rfl⟩)
def shD(y:Str):List L4.D:=(ra [.str y,.lst []]).getD []
theorem WI(y:Str):ra [.str y,.lst []]=some (shD y):=by kernel_rfl
def vwD:L4.D:=(qK [.lst oY]).getD .non
def rbD(y:Str):L4.D:=(vv [.lst (shD y)]).getD .non
def wNs:aE:=["kept_things", "kept_marks", "kept_dark", "kept_ways", "kept_verbs", "shared_verbs", "your_name", "things_by_name", "mosts_by_name", "verbs_by_word", "kept_rules", "shared_rules", "copied_rules", "rules_by_verb"]
def wDs(T:List Th)(M:List Mk)(dk:aE)(y:Str)(mo:L4.D):List L4.D:=[TD T,MD M,.lst (dk.map D.str),.lst [],.lst [],.lst oY,.str y,.dic (nK T) (T.map thD),mo,vwD,.lst [],.lst (shD y),.lst [],rbD y]
abbrev wR(T:List Th)(M:List Mk)(dk:aE)(ns:aE)(ds:List L4.D)(q:Sl):aV:=[.ob 14 ns ds,.im (TD T),.im (MD M),.im (.lst (dk.map D.str)),.im (.lst []),.im (.lst []),.im (.lst []),q]
abbrev wL(T:List Th)(M:List Mk)(dk:aE)(ns:aE)(ds:List L4.D)(q:Sl):aV:=[.im (.obj 14 ns ds),.im (TD T),.im (MD M),.im (.lst (dk.map D.str)),.im (.lst []),.im (.lst []),.im (.lst []),yt q]
variable{ns:aE}
section
variable{T:List Th}{M:List Mk}{dk:aE}
theorem zy{nm:Str}{q:Sl}(h1:e (wR T M dk ns ds q)=some (d,wR T M dk ns ds q))(h2:ns.contains nm=false)(h3:ds.length=ns.length)(h4:ns.length<900):pz 14 0 nm e (wR T M dk ns ds q)=some (.nx (wR T M dk (ns++[nm]) (ds++[d]) q)):=by unfold pz;rw[h1];show (if 14=14 then if ns.contains nm=true then none else if ds.length=ns.length then if ns.length<900 then some (Out.nx (wR T M dk (ns++[nm]) (ds++[d]) q))else none else none else none)=_;rw[aj rfl,h2,ak bb,aj h3,aj h4]
theorem MX{q:Sl}{r:aV}(h1:e (wL T M dk ns ds q)=some (d,r))(h2:noC 15 14 d=true):uD 15 e (wR T M dk ns ds q)=some (d,wR T M dk ns ds q):=by
 unfold uD;show (match e (wL T M dk ns ds q)with
  |some (d,_)=>if (decide (14<15)&&noC 15 14 d)=true then some (d,wR T M dk ns ds q)else none
  |none=>none)=_
 rw[h1];simp only[h2];rfl
abbrev d6(T:List Th)(M:List Mk)(dk:aE):List L4.D:=[TD T,MD M,.lst (dk.map D.str),.lst [],.lst [],.lst oY]
abbrev n6:aE:=["kept_things", "kept_marks", "kept_dark", "kept_ways", "kept_verbs", "shared_verbs"]
theorem WJ(y:Str)(hl:T.length<=1000)(hy:(T.filter λt=>decide (t.k=.you)).map Th.n=[y]):uD 15 (c2 dIx (o9 qN "of_kind" ae (n4 eL oF)) aQ) (wR T M dk n6 (d6 T M dk) .un)=some (.str y,wR T M dk n6 (d6 T M dk) .un):=by
 refine MX (r:=wL T M dk n6 (d6 T M dk) .un) (ou (pE (xs:=d6 T M dk) (ys:=[.str Kd.you.s]) (hh:=tM) rfl rfl rfl rfl (Ct T hl _ _ .you)) rfl ?_) rfl;have:((T.filter λt=>decide (t.k=.you)).map λt=>D.str t.n)=[.str y]:=by rw[show (λt:Th=>D.str t.n)=D.str∘Th.n from rfl,<- aF,hy];rfl
 rw[this];rfl
end
variable{mo:L4.D}
section
variable{T:List Th}{M:List Mk}{dk:aE}
theorem WK:qK [.lst oY]=some vwD:=by kernel_rfl
theorem WL(y:Str):vv [.lst (shD y)]=some (rbD y):=by kernel_rfl
theorem UZ:noC 15 14 vwD=true:=by kernel_rfl
theorem U0(y:Str):noC 15 14 (rbD y)=true:=by kernel_rfl
theorem U1(y:Str):noC 15 14 (.lst (shD y))=true:=by kernel_rfl
theorem U2(y:Str):(shD y).length<=900:=Nat.le_of_ble_eq_true (by kernel_rfl)
abbrev n7:aE:=["kept_things", "kept_marks", "kept_dark", "kept_ways", "kept_verbs", "shared_verbs", "your_name"]
abbrev d7(T:List Th)(M:List Mk)(dk:aE)(y:Str):List L4.D:=[TD T,MD M,.lst (dk.map D.str),.lst [],.lst [],.lst oY,.str y]
theorem WM(ns:aE)(ds:List L4.D):sk [.obj 14 (n6++ns) (d6 T M dk++ds)]=some (.lst oY):=by kernel_rfl
theorem P8(ns:aE)(ds:List L4.D)(q:Sl)(hc:(n6++ns).contains "all_verbs" = false):uD 15 (oa qK (n4 (o9 rE "all_verbs" ae oF) oF)) (wR T M dk (n6++ns) (d6 T M dk++ds) q)=some (vwD,wR T M dk (n6++ns) (d6 T M dk++ds) q):=
 MX (r:=wL T M dk (n6++ns) (d6 T M dk++ds) q) (og (n8 (pE (xs:=d6 T M dk++ds) (ys:=[]) (hh:=sk) rfl rfl hc rfl (WM ns ds)) rfl) WK) UZ
abbrev jc:=(n4 aA oF)
theorem MY(y:Str)(ns:aE)(ds:List L4.D)(q:Sl):uD 15 (cL (oX ra (n4 (c1 (oN sV "your_name") ae) jc))) (wR T M dk (n7++ns) (d7 T M dk y++ds) q)=some (.lst (shD y),wR T M dk (n7++ns) (d7 T M dk y++ds) q):=
 MX (r:=wL T M dk (n7++ns) (d7 T M dk y++ds) q) (px (og (ds:=[.str y,.lst []]) rfl (WI y))) (U1 y)
abbrev n13:aE:=["kept_things", "kept_marks", "kept_dark", "kept_ways", "kept_verbs", "shared_verbs", "your_name", "things_by_name", "mosts_by_name", "verbs_by_word", "kept_rules", "shared_rules", "copied_rules"]
theorem Xa(y:Str)(a b c d:L4.D)(q:Sl):uD 15 (oa vv (n4 (cL (rq (c1 (oN sJ "copied_rules") ae) (c1 (oN sL "shared_rules") ae))) oF)) (wR T M dk n13 [TD T,MD M,.lst (dk.map D.str),.lst [],.lst [],.lst oY,.str y,a,b,c,d,.lst (shD y),.lst []] q)=some (rbD y,wR T M dk n13 [TD T,MD M,.lst (dk.map D.str),.lst [],.lst [],.lst oY,.str y,a,b,c,d,.lst (shD y),.lst []] q):=
 MX (r:=wL T M dk n13 [TD T,MD M,.lst (dk.map D.str),.lst [],.lst [],.lst oY,.str y,a,b,c,d,.lst (shD y),.lst []] q) (og (n8 (px (ue (xs:=[]) (ys:=shD y) rfl rfl (by have:=U2 y;simp;omega))) rfl) (WL y)) (U0 y)
theorem MZ(g:Good T M dk)(y:Str)(hy:(T.filter λt=>decide (t.k=.you)).map Th.n=[y])(emo:qJ [TD T,MD M]=some mo):sq [TD T,MD M,.lst (dk.map D.str),.lst [],.lst [],.lst []]=some (wNs,wDs T M dk y mo):=by
 have hl:=g.len;have e:sm (wR T M dk [] [] .un)=some (.nx (wR T M dk wNs (wDs T M dk y mo) (.im (.bl true)))):=by unfold sm;refine(n9 (pT (ρ':=wR T M dk [] [] .un) (og (n8 rfl (n8 rfl (n8 rfl (n8 rfl (n8 rfl (n8 (px (og (g:=qv) (ds:=[]) rfl Gj)) rfl)))))) (Cs g)))).trans ?_;refine(n9 (ρ':=wR T M dk ["kept_things"] [TD T] .un) (zy (T:=T) (M:=M) (dk:=dk) (ns:=[]) (ds:=[]) (d:=TD T) (q:=.un) rfl rfl rfl (by decide))).trans ?_;refine(n9 (ρ':=wR T M dk ["kept_things", "kept_marks"] [TD T,MD M] .un) (zy (T:=T) (M:=M) (dk:=dk) (ns:=["kept_things"]) (ds:=[TD T]) (d:=MD M) (q:=.un) rfl rfl rfl (by decide))).trans ?_;refine(n9 (ρ':=wR T M dk ["kept_things", "kept_marks", "kept_dark"] [TD T,MD M,.lst (dk.map D.str)] .un) (zy (T:=T) (M:=M) (dk:=dk) (ns:=["kept_things", "kept_marks"]) (ds:=[TD T,MD M]) (d:=.lst (dk.map D.str)) (q:=.un) rfl rfl rfl (by decide))).trans ?_;refine(n9 (ρ':=wR T M dk ["kept_things", "kept_marks", "kept_dark", "kept_ways"] [TD T,MD M,.lst (dk.map D.str),.lst []] .un) (zy (T:=T) (M:=M) (dk:=dk) (ns:=["kept_things", "kept_marks", "kept_dark"]) (ds:=[TD T,MD M,.lst (dk.map D.str)]) (d:=.lst []) (q:=.un) rfl rfl rfl (by decide))).trans ?_;refine(n9 (ρ':=wR T M dk ["kept_things", "kept_marks", "kept_dark", "kept_ways", "kept_verbs"] [TD T,MD M,.lst (dk.map D.str),.lst [],.lst []] .un) (zy (T:=T) (M:=M) (dk:=dk) (ns:=["kept_things", "kept_marks", "kept_dark", "kept_ways"]) (ds:=[TD T,MD M,.lst (dk.map D.str),.lst []]) (d:=.lst []) (q:=.un) rfl rfl rfl (by decide))).trans ?_;refine(n9 (ρ':=wR T M dk ["kept_things", "kept_marks", "kept_dark", "kept_ways", "kept_verbs", "shared_verbs"] [TD T,MD M,.lst (dk.map D.str),.lst [],.lst [],.lst oY] .un) (zy (T:=T) (M:=M) (dk:=dk) (ns:=["kept_things", "kept_marks", "kept_dark", "kept_ways", "kept_verbs"]) (ds:=[TD T,MD M,.lst (dk.map D.str),.lst [],.lst []]) (d:=.lst oY) (q:=.un) (px (og (g:=qv) (ds:=[]) rfl Gj)) rfl rfl (by decide))).trans ?_;refine(n9 (ρ':=wR T M dk ["kept_things", "kept_marks", "kept_dark", "kept_ways", "kept_verbs", "shared_verbs", "your_name"] [TD T,MD M,.lst (dk.map D.str),.lst [],.lst [],.lst oY,.str y] .un) (zy (T:=T) (M:=M) (dk:=dk) (ns:=["kept_things", "kept_marks", "kept_dark", "kept_ways", "kept_verbs", "shared_verbs"]) (ds:=[TD T,MD M,.lst (dk.map D.str),.lst [],.lst [],.lst oY]) (d:=.str y) (q:=.un) (WJ y (by omega) hy) rfl rfl (by decide))).trans ?_;refine(n9 (ρ':=wR T M dk ["kept_things", "kept_marks", "kept_dark", "kept_ways", "kept_verbs", "shared_verbs", "your_name", "things_by_name"] [TD T,MD M,.lst (dk.map D.str),.lst [],.lst [],.lst oY,.str y,.dic (nK T) (T.map thD)] .un) (zy (T:=T) (M:=M) (dk:=dk) (ns:=["kept_things", "kept_marks", "kept_dark", "kept_ways", "kept_verbs", "shared_verbs", "your_name"]) (ds:=[TD T,MD M,.lst (dk.map D.str),.lst [],.lst [],.lst oY,.str y]) (d:=.dic (nK T) (T.map thD)) (q:=.un) (og (ds:=[TD T]) rfl (HI T (by omega) g.ndT)) rfl rfl (by decide))).trans ?_;refine(n9 (ρ':=wR T M dk ["kept_things", "kept_marks", "kept_dark", "kept_ways", "kept_verbs", "shared_verbs", "your_name", "things_by_name", "mosts_by_name"] [TD T,MD M,.lst (dk.map D.str),.lst [],.lst [],.lst oY,.str y,.dic (nK T) (T.map thD),mo] .un) (zy (T:=T) (M:=M) (dk:=dk) (ns:=["kept_things", "kept_marks", "kept_dark", "kept_ways", "kept_verbs", "shared_verbs", "your_name", "things_by_name"]) (ds:=[TD T,MD M,.lst (dk.map D.str),.lst [],.lst [],.lst oY,.str y,.dic (nK T) (T.map thD)]) (d:=mo) (q:=.un) (og (ds:=[TD T,MD M]) rfl emo) rfl rfl (by decide))).trans ?_;refine(n9 (ρ':=wR T M dk ["kept_things", "kept_marks", "kept_dark", "kept_ways", "kept_verbs", "shared_verbs", "your_name", "things_by_name", "mosts_by_name", "verbs_by_word"] [TD T,MD M,.lst (dk.map D.str),.lst [],.lst [],.lst oY,.str y,.dic (nK T) (T.map thD),mo,vwD] .un) (zy (T:=T) (M:=M) (dk:=dk) (ns:=["kept_things", "kept_marks", "kept_dark", "kept_ways", "kept_verbs", "shared_verbs", "your_name", "things_by_name", "mosts_by_name"]) (ds:=[TD T,MD M,.lst (dk.map D.str),.lst [],.lst [],.lst oY,.str y,.dic (nK T) (T.map thD),mo]) (d:=vwD) (q:=.un) (P8 ["your_name", "things_by_name", "mosts_by_name"] [.str y,.dic (nK T) (T.map thD),mo] .un rfl) rfl rfl (by decide))).trans ?_;refine(n9 (ρ':=wR T M dk ["kept_things", "kept_marks", "kept_dark", "kept_ways", "kept_verbs", "shared_verbs", "your_name", "things_by_name", "mosts_by_name", "verbs_by_word"] [TD T,MD M,.lst (dk.map D.str),.lst [],.lst [],.lst oY,.str y,.dic (nK T) (T.map thD),mo,vwD] (.im (.bl true))) ((oK (i:=7) (MX (d:=.bl true) (r:=wL T M dk ["kept_things", "kept_marks", "kept_dark", "kept_ways", "kept_verbs", "shared_verbs", "your_name", "things_by_name", "mosts_by_name", "verbs_by_word"] [TD T,MD M,.lst (dk.map D.str),.lst [],.lst [],.lst oY,.str y,.dic (nK T) (T.map thD),mo,vwD] .un) rfl rfl)).trans rfl)).trans ?_;refine(n9 (qR (ρ1:=wR T M dk ["kept_things", "kept_marks", "kept_dark", "kept_ways", "kept_verbs", "shared_verbs", "your_name", "things_by_name", "mosts_by_name", "verbs_by_word"] [TD T,MD M,.lst (dk.map D.str),.lst [],.lst [],.lst oY,.str y,.dic (nK T) (T.map thD),mo,vwD] (.im (.bl true))) rfl)).trans ?_;refine(n9 (ρ':=wR T M dk ["kept_things", "kept_marks", "kept_dark", "kept_ways", "kept_verbs", "shared_verbs", "your_name", "things_by_name", "mosts_by_name", "verbs_by_word", "kept_rules"] [TD T,MD M,.lst (dk.map D.str),.lst [],.lst [],.lst oY,.str y,.dic (nK T) (T.map thD),mo,vwD,.lst []] (.im (.bl true))) (zy (T:=T) (M:=M) (dk:=dk) (ns:=["kept_things", "kept_marks", "kept_dark", "kept_ways", "kept_verbs", "shared_verbs", "your_name", "things_by_name", "mosts_by_name", "verbs_by_word"]) (ds:=[TD T,MD M,.lst (dk.map D.str),.lst [],.lst [],.lst oY,.str y,.dic (nK T) (T.map thD),mo,vwD]) (d:=.lst []) (q:=(.im (.bl true))) rfl rfl rfl (by decide))).trans ?_;refine(n9 (ρ':=wR T M dk ["kept_things", "kept_marks", "kept_dark", "kept_ways", "kept_verbs", "shared_verbs", "your_name", "things_by_name", "mosts_by_name", "verbs_by_word", "kept_rules", "shared_rules"] [TD T,MD M,.lst (dk.map D.str),.lst [],.lst [],.lst oY,.str y,.dic (nK T) (T.map thD),mo,vwD,.lst [],.lst (shD y)] (.im (.bl true))) (zy (T:=T) (M:=M) (dk:=dk) (ns:=["kept_things", "kept_marks", "kept_dark", "kept_ways", "kept_verbs", "shared_verbs", "your_name", "things_by_name", "mosts_by_name", "verbs_by_word", "kept_rules"]) (ds:=[TD T,MD M,.lst (dk.map D.str),.lst [],.lst [],.lst oY,.str y,.dic (nK T) (T.map thD),mo,vwD,.lst []]) (d:=.lst (shD y)) (q:=(.im (.bl true))) (MY y ["things_by_name", "mosts_by_name", "verbs_by_word", "kept_rules"] [.dic (nK T) (T.map thD),mo,vwD,.lst []] (.im (.bl true))) rfl rfl (by decide))).trans ?_;refine(n9 (ρ':=wR T M dk ["kept_things", "kept_marks", "kept_dark", "kept_ways", "kept_verbs", "shared_verbs", "your_name", "things_by_name", "mosts_by_name", "verbs_by_word", "kept_rules", "shared_rules", "copied_rules"] [TD T,MD M,.lst (dk.map D.str),.lst [],.lst [],.lst oY,.str y,.dic (nK T) (T.map thD),mo,vwD,.lst [],.lst (shD y),.lst []] (.im (.bl true))) (zy (T:=T) (M:=M) (dk:=dk) (ns:=["kept_things", "kept_marks", "kept_dark", "kept_ways", "kept_verbs", "shared_verbs", "your_name", "things_by_name", "mosts_by_name", "verbs_by_word", "kept_rules", "shared_rules"]) (ds:=[TD T,MD M,.lst (dk.map D.str),.lst [],.lst [],.lst oY,.str y,.dic (nK T) (T.map thD),mo,vwD,.lst [],.lst (shD y)]) (d:=.lst []) (q:=(.im (.bl true))) rfl rfl rfl (by decide))).trans ?_;exact zy (T:=T) (M:=M) (dk:=dk) (ns:=["kept_things", "kept_marks", "kept_dark", "kept_ways", "kept_verbs", "shared_verbs", "your_name", "things_by_name", "mosts_by_name", "verbs_by_word", "kept_rules", "shared_rules", "copied_rules"]) (ds:=[TD T,MD M,.lst (dk.map D.str),.lst [],.lst [],.lst oY,.str y,.dic (nK T) (T.map thD),mo,vwD,.lst [],.lst (shD y),.lst []]) (d:=rbD y) (q:=(.im (.bl true))) (Xa y _ _ _ _ (.im (.bl true))) rfl rfl (by decide)
 unfold sq fnI;rw[aj (show [TD T,MD M,D.lst (dk.map D.str),D.lst [],D.lst [],D.lst []].length=6 from rfl)];rw[show sm (stI 14 8 [TD T,MD M,.lst (dk.map D.str),.lst [],.lst [],.lst []])=some (.nx (wR T M dk wNs (wDs T M dk y mo) (.im (.bl true)))) from e];rfl
end
def IL(ds:List L4.D):Prop:=∃xs:List Int,ds=xs.map D.int
theorem IL.nil:IL []:=⟨[],rfl⟩
theorem IL.snoc{ds:List L4.D}(h:IL ds)(i:Int):IL (ds++[.int i]):=by obtain⟨xs,rfl⟩:=h;exact⟨xs++[i],by rw[aT];rfl⟩
variable{es:List L4.D}
theorem IL.sub(h:IL ds)(hs:∀d∈es,d∈ds):IL es:=by
 induction es with
 |nil=>exact IL.nil
 |cons d es ih=>obtain⟨ys,rfl⟩:=ih λd hd=>hs d (bj _ hd);obtain⟨xs,rfl⟩:=h;obtain⟨i,_,rfl⟩:=av.mp (hs d aW);exact⟨i::ys,rfl⟩
theorem P9{lo hi:Option Int}:∀d∈cutD ds lo hi,d∈ds:=λd hd=>by unfold cutD at hd;exact lQ (List.mem_of_mem_take hd)
def Jc:FS:=(oh (o6 (uc 2 (c2 rM az (c2 Ag fE cN))))
 (oQ 3 (c2 xT az (c2 Ag fE cN))))
def M0:FT:=Ai (vc (cT (c2 LL az aQ)) (cT (c2 Fv (c1 qh aq) ag)))
theorem AN(c:Int)(m:Nat)(hm:m<=110):∀(n:Nat) (ds:List L4.D) (r:Int),IL ds->ds.length<=m->m - ds.length<n->∃ds' r',IL ds'/\ds'.length<=m/\
  whL M0 Jc n [.im (.int c),.im (.int m),.ls ds,.im (.int r),.un,.un,.un]=some (.nx [.im (.int c),.im (.int m),.ls ds',.im (.int r'),.un,.un,.un])
 |0,ds,r,_,_,h=>ao h (mW _)
 |n+1,ds,r,hi,hl,hn=>by
  have ht:M0 [.im (.int c),.im (.int m),.ls ds,.im (.int r),.un,.un,.un]=some (decide (0<r)&&decide (ds.length<m),[.im (.int c),.im (.int m),.ls ds,.im (.int r),.un,.un,.un]):=by
   refine IF (ρ1:=[.im (.int c),.im (.int m),.im (.lst ds),.im (.int r),.un,.un,.un]) ?_;show vc _ _ [.im (.int c),.im (.int m),.im (.lst ds),.im (.int r),.un,.un,.un]=_;unfold vc;rw[show cT (c2 LL az aQ) [.im (.int c),.im (.int m),.im (.lst ds),.im (.int r),.un,.un,.un]=some (decide (0<r),[.im (.int c),.im (.int m),.im (.lst ds),.im (.int r),.un,.un,.un]) from rfl];cases decide (0<r)with
   |false=>rfl
   |true=>show cT (c2 Fv (c1 qh aq) ag) _=some (decide (ds.length<m),_);rw[show cT (c2 Fv (c1 qh aq) ag) [.im (.int c),.im (.int m),.im (.lst ds),.im (.int r),.un,.un,.un]=some (decide ((ds.length:Int)<m),[.im (.int c),.im (.int m),.im (.lst ds),.im (.int r),.un,.un,.un]) from rfl];simp only[Int.ofNat_lt]
  unfold whL;rw[ht];cases hq:(decide (0<r)&&decide (ds.length<m))with
  |false=>exact⟨ds,r,hi,hl,rfl⟩
  |true=>
   rw[aY,bu,bu]at hq;have e1:Jc [.im (.int c),.im (.int m),.ls ds,.im (.int r),.un,.un,.un]=some (.nx [.im (.int c),.im (.int m),.ls (ds++[.int (r % 1000000)]),.im (.int (r / 1000000)),.un,.un,.un]):=by unfold Jc;refine(n9 (ρ':=[.im (.int c),.im (.int m),.ls (ds++[.int (r % 1000000)]),.im (.int r),.un,.un,.un]) ((pT (wQ (es0:=ds) (es:=ds) (ρ1:=[.im (.int c),.im (.int m),.ls ds,.im (.int r),.un,.un,.un]) rfl (ou rfl rfl (uC (by decide))) rfl (by omega))).trans rfl)).trans ?_;exact(oK (ou rfl rfl (div_pos (by decide) (by decide)))).trans rfl
   simp only[e1];exact AN c m hm n _ _ (hi.snoc _) (by rw[aJ,bt];omega) (by rw[aJ,bt];omega)
def fBody:FS:=(oh (oQ 4 (c2 rM (c2 tq (c2 pO (c2 pO aA (c2 tq (cC (.int 7919)) aO)) aN) iY) dQ))
 (oh (oQ 6 (c2 rM (c2 tq aA (c2 pO (c2 xT aA (cC (.int 1009))) (cC (.int 69621)))) dQ))
 (o6 (uc 2 (c2 rM (c2 tq bg (c2 pO (c2 xT bg (cC (.int 2003))) (cC (.int 40692)))) (cC (.int 2147483399)))))))
theorem modS(a:Int):0<=a % 2147483647/\a % 2147483647<2147483647:=⟨mX _ (by decide),ma _ (by decide)⟩
theorem DV(a b r:Sl):∀(l:List Int) (ds:List L4.D) (x:Int) (s5 s6:Sl),IL ds->ds.length+l.length<=900->∃ds' x' t5 t6,IL ds'/\
  forL (gN 5) fBody (l.map D.int) [a,b,.ls ds,r,.im (.int x),s5,s6]=some (.nx [a,b,.ls ds',r,.im (.int x'),t5,t6])
 |[],ds,x,s5,s6,hi,_=>⟨ds,x,s5,s6,hi,rfl⟩
 |k::l,ds,x,s5,s6,hi,hl=>by
  rw[aI]at hl;let y:=(x+7919 * k+1) * 48271 % 2147483647;let z:=y * (y / 1009+69621) % 2147483647;let v:=z * (z / 2003+40692) % 2147483399;have hy:=modS ((x+7919 * k+1) * 48271);have hz:=modS (y * (y / 1009+69621));have e1:fBody [a,b,.ls ds,r,.im (.int x),.im (.int k),s6]=some (.nx [a,b,.ls (ds++[.int v]),r,.im (.int y),.im (.int k),.im (.int z)]):=by unfold fBody;refine(n9 (ρ':=[a,b,.ls ds,r,.im (.int y),.im (.int k),s6]) ((oK (ou (ou (ou (ou rfl (ou rfl rfl (tX (.inl (by decide)))) rfl) rfl rfl) rfl (tX (.inr (by decide)))) rfl (uC (by decide)))).trans rfl)).trans ?_;refine(n9 (ρ':=[a,b,.ls ds,r,.im (.int y),.im (.int k),.im (.int z)]) ((oK (ou (ou rfl (ou (ou rfl rfl (div_pos (by decide) (by decide))) rfl rfl) (tX (.inl (FH hy.1 hy.2)))) rfl (uC (by decide)))).trans rfl)).trans ?_;exact(pT (wQ (es0:=ds) (es:=ds) (ρ1:=[a,b,.ls ds,r,.im (.int y),.im (.int k),.im (.int z)]) rfl (ou (ou rfl (ou (ou rfl rfl (div_pos (by decide) (by decide))) rfl rfl) (tX (.inl (FH hz.1 hz.2)))) rfl (uC (by decide))) rfl (by omega))).trans rfl
  obtain⟨ds',x',t5,t6,h1,h2⟩:=DV a b r l (ds++[.int v]) y (.im (.int k)) (.im (.int z)) (hi.snoc _) (by rw[aJ,bt];omega);refine⟨ds',x',t5,t6,h1,?_⟩;rw[ay];unfold forL;rw[show gN 5 (.int k) [a,b,.ls ds,r,.im (.int x),s5,s6]=some [a,b,.ls ds,r,.im (.int x),.im (.int k),s6] from rfl];simp only[e1];exact h2
theorem Gk(c:Int)(m:Nat)(hm:m<=110):∃ds,IL ds/\su [.int c,.int m]=some ds:=by
 have fin:∀r0:Int,∃ds,IL ds/\∃ρ,oh (whL M0 Jc 200) (oh (oQ 4 (c2 rM (c2 tq (c2 pO (c2 rM ae dQ) aN) iY) dQ)) (oh (rT (iR1 ag) (gN 5) fBody) (qg (uQ (cFz 2) oNo (oAt ag))))) [.im (.int c),.im (.int m),.ls [],.im (.int r0),.un,.un,.un]=some (.rn ds ρ):=λr0=>by obtain⟨ds,r,h1,h2,h3⟩:=AN c m hm 200 [] r0 IL.nil (bZ _) (by simp;omega);let x:=(c % 2147483647+1) * 48271 % 2147483647;obtain⟨ds',x',t5,t6,h4,h5⟩:=DV (.im (.int c)) (.im (.int m)) (.im (.int r)) ((br m).map λ(i:Nat)=>(0:Int)+(i:Int)) ds x .un .un h1 (by rw[ah,fW];omega);refine⟨cutD ds' none (some m),h4.sub P9,[.im (.int c),.im (.int m),.im (.lst ds'),.im (.int r),.im (.int x'),t5,t6],?_⟩;refine(n9 h3).trans ?_;refine(n9 (ρ':=[.im (.int c),.im (.int m),.ls ds,.im (.int r),.im (.int x),.un,.un]) ((oK (ou (ou (ou (ou rfl rfl (uC (by decide))) rfl rfl) rfl (tX (.inr (by decide)))) rfl (uC (by decide)))).trans rfl)).trans ?_;refine(n9 ((pJ (ds:=((br m).map λ(i:Nat)=>(0:Int)+(i:Int)).map D.int) (ρ1:=[.im (.int c),.im (.int m),.ls ds,.im (.int r),.im (.int x),.un,.un]) ?_).trans h5)).trans rfl;unfold iR1;show (if -1000000<=(m:Int)/\(m:Int)<=1000000 then some (yS 0 (m:Int).toNat,_)else none)=_;rw[aj (by omega),eU];unfold yS;rw[aF];rfl
 by_cases hc:(1000000000000000000:Int)<=c
 ·obtain⟨ds,h1,ρ,h2⟩:=fin (c - 1000000000000000000);refine⟨ds,h1,uP (ρ:=ρ) rfl ?_⟩;refine(n9 (ρ':=[.im (.int c),.im (.int m),.ls [],.un,.un,.un,.un]) rfl).trans ((n9 (ρ':=[.im (.int c),.im (.int m),.ls [],.im (.int 0),.un,.un,.un]) rfl).trans ((n9 (ρ':=[.im (.int c),.im (.int m),.ls [],.im (.int (c - 1000000000000000000)),.un,.un,.un]) ((pG (ρ':=[.im (.int c),.im (.int m),.ls [],.im (.int 0),.un,.un,.un]) ?_).trans rfl)).trans h2));refine pL (ou (y:=.int 1000000000000000000) rfl rfl ?_);show some (D.bl (decide _))=_;rw[aZ hc]
 ·obtain⟨ds,h1,ρ,h2⟩:=fin 0;refine⟨ds,h1,uP (ρ:=ρ) rfl ?_⟩;refine(n9 (ρ':=[.im (.int c),.im (.int m),.ls [],.un,.un,.un,.un]) rfl).trans ((n9 (ρ':=[.im (.int c),.im (.int m),.ls [],.im (.int 0),.un,.un,.un]) rfl).trans ((n9 (ρ':=[.im (.int c),.im (.int m),.ls [],.im (.int 0),.un,.un,.un]) ((pd (ρ':=[.im (.int c),.im (.int m),.ls [],.im (.int 0),.un,.un,.un]) ?_).trans rfl)).trans h2));refine pL (ou (y:=.int 1000000000000000000) rfl rfl ?_);show some (D.bl (decide _))=_;rw[aR hc]
theorem DW:∀xs:List Int,yU (xs.map D.int)=some (xs.map L3.Dq.int)
 |[]=>rfl
 |x::xs=>by rw[ay];unfold yU;rw[DW xs];rfl
theorem Gm(x:Int)(xs:List Int):dEq false (.lst ((x::xs).map D.int)) (.lst [])=some (.bl false):=by
 have e0:BH false (.lst ((x::xs).map D.int)) (.lst [])=none:=rfl;have e1:toD (.lst ((x::xs).map D.int))=some (.lst ((x::xs).map L3.Dq.int)):=by unfold toD;rw[DW]
 have e2:∀ys:List Int,qo (ys.map L3.Dq.int)=0:=λys=>by
  induction ys with
  |nil=>rfl
  |cons y ys ih=>rw[ay];unfold qo;rw[ih];unfold dpt;rfl
 have e3:dpt (.lst ((x::xs).map L3.Dq.int))=1:=by rw[dpt,e2]
 unfold dEq;rw[e0];show Em false _ _=_;unfold Em;rw[e1,show toD (.lst [])=some (.lst []) from rfl];show (if Il (.lst ((x::xs).map L3.Dq.int)) (.lst [])&&decide (dpt (.lst ((x::xs).map L3.Dq.int))<=20)&&decide (dpt (.lst [])<=20)then some (D.bl (eqD (.lst ((x::xs).map L3.Dq.int)) (.lst [])))else none)=_;rw[e3];rfl
theorem qV(h:IL es)(n:Int)(hn:0<n):∃r es',IL es'/\0<=r/\r<n/\oj es [.int n]=some (.int r,es'):=by
 obtain⟨xs,rfl⟩:=h;cases xs with
 |nil=>exact⟨0,[],IL.nil,kq _,hn,rfl⟩
 |cons x xs=>refine⟨x % n,xs.map D.int,⟨xs,rfl⟩,mX _ (by omega),ma _ hn,?_⟩;refine SH (ρ:=[.pm (xs.map D.int),.im (.int n)]) rfl ?_ rfl;refine(n9 (ρ':=[.pm ((x::xs).map D.int),.im (.int n)]) ((pd (ρ':=[.pm ((x::xs).map D.int),.im (.int n)]) (IF (ρ1:=[.im (.lst ((x::xs).map D.int)),.im (.int n)]) (pL (ou (x:=.lst ((x::xs).map D.int)) (y:=.lst []) rfl rfl (Gm x xs))))).trans rfl)).trans ?_;exact o7 (ou (x:=.int x) (ρ1:=[.pm (xs.map D.int),.im (.int n)]) rfl rfl (uC hn))
def lets:Str:="bcdefghijklmnopqrstuvwxyz"
theorem U3(i:Nat)(h:i<25):dIx (.str lets) (.int i)=some (.str ⟨#[98+i]⟩):=by
 have q:((br 25).all λi=>match dIx (.str lets) (.int i)with|some (.str x)=>decide (x=⟨#[98+i]⟩)|_=>false)=true:=by kernel_rfl
 have:=bw.mp q i (bY.mpr h);revert this;split
 ·rename_i x e;intro z;rw[e,bz z]
 ·intro z;cases z
abbrev eM:=(n4 (cC (.int 8)) oF)
def WN:FE:=(c2 FK (c2 dIx ag (c2 rM (c2 pO az (c2 tq (cC (.int 7)) ae)) ja)) (c2 pO aN (pW oj 2 eM)))
theorem Qa(h:IL es)(s k:Nat):∃c es',c<8/\IL es'/\WN [.im (.int k),.im (.str lets),.pm es,.im (.int s)]=some (.str (nmS ((s+7 * k) % 25) c),[.im (.int k),.im (.str lets),.pm es',.im (.int s)]):=by
 obtain⟨r,es',h1,h2,h3,h4⟩:=qV h 8 (by decide);obtain⟨c,rfl⟩:=cI h2;refine⟨c,es',by omega,h1,?_⟩;have hm:(s+7 * k) % 25<25:=Nat.mod_lt _ (by decide);let ρ:aV:=[.im (.int k),.im (.str lets),.pm es,.im (.int s)];let ρ':aV:=[.im (.int k),.im (.str lets),.pm es',.im (.int s)];have e1:c2 dIx ag (c2 rM (c2 pO az (c2 tq (cC (.int 7)) ae)) ja) ρ=some (.str ⟨#[98+(s+7 * k) % 25]⟩,ρ):=by
  refine ou (y:=.int (((s+7 * k) % 25:Nat):Int)) rfl (ou (ou rfl (ou rfl rfl (tX (.inl (by decide)))) rfl) rfl ((uC (by decide)).trans ?_)) (U3 _ hm);have:((s:Int)+7 * k) % 25=(((s+7 * k) % 25:Nat):Int):=by omega
  rw[this]
 have e2:c2 pO aN (pW oj 2 eM) ρ=some (.int (1+(c:Int)),ρ'):=ou rfl ((rZ (es0:=es) (es:=es) (ρ1:=ρ) rfl rfl rfl h4).trans rfl) rfl;refine ou e1 e2 ?_;show (if 0<=1+(c:Int)/\1+(c:Int)<=1000/\Str.length ⟨#[98+(s+7 * k) % 25]⟩<=100 then some (D.str (gA ⟨#[98+(s+7 * k) % 25]⟩ (1+(c:Int))))else none)=_;rw[aj ⟨by omega,by omega,by show 1<=100;decide⟩];rfl
theorem Gp(s:Nat):∀(l:List Nat) (es:List L4.D),IL es->∃cs es',cs.length=l.length/\(∀c∈cs,c<8)/\IL es'/\
  sA 1 [2,0,1] (gN 0) pM WN (l.map λ(k:Nat)=>D.int k) [.pm es,.im (.int s),.im (.str lets)]=some (cW (λ(k c:Nat)=>D.str (nmS ((s+7 * k) % 25) c)) l cs,[.pm es',.im (.int s),.im (.str lets)])
 |[],es,h=>⟨[],es,rfl,λc hc=>(bI hc).elim,h,rfl⟩
 |k::l,es,h=>by
  obtain⟨c,es1,h1,h2,h3⟩:=Qa h s k;obtain⟨cs,es',h4,h5,h6,h7⟩:=Gp s l es1 h2;refine⟨c::cs,es',by rw[aI,aI,h4],λx hx=>?_,h6,?_⟩
  ·rcases aL.mp hx with rfl|hx
   ·exact h1
   ·exact h5 x hx
  ·rw[ay];unfold sA;rw[show gN 0 (.int k) (xM 1 [2,0,1] [.pm es,.im (.int s),.im (.str lets)])=some [.im (.int k),.im (.str lets),.pm es,.im (.int s)] from rfl];simp only[pM,h3];rw[show rl [2,0,1] (([.im (.int k),.im (.str lets),.pm es1,.im (.int s)]:aV).drop 1) [.pm es,.im (.int s),.im (.str lets)]=some [.pm es1,.im (.int s),.im (.str lets)] from rfl];simp only[h7];rfl
theorem M4(s:Nat)(hs:s<25):∀(l cs:List Nat),cs.length=l.length->(∀c∈cs,c<8)->(l.map λk=>(s+7 * k) % 25).Nodup->∃N:aE,N.length=l.length/\(∀x∈N,Nm x)/\N.Nodup/\(∀x∈N,∃k∈l,sg x=98+(s+7 * k) % 25)/\cW (λ(k c:Nat)=>D.str (nmS ((s+7 * k) % 25) c)) l cs=N.map D.str
 |[],[],_,_,_=>⟨[],rfl,λx h=>(bI h).elim,iF,λx h=>(bI h).elim,rfl⟩
 |[],c::cs,h,_,_=>by cases h
 |k::l,[],h,_,_=>by cases h
 |k::l,c::cs,h,hc,nd=>by
  rw[ay,ck]at nd;obtain⟨N,h1,h2,h3,h4,h5⟩:=M4 s hs l cs (by simpa using h) (λx hx=>hc x (bj _ hx)) nd.2;have hm:(s+7 * k) % 25<25:=Nat.mod_lt _ (by decide);have hsg:=WH hm (hc c aW);refine⟨nmS ((s+7 * k) % 25) c::N,by rw[aI,aI,h1],λx hx=>?_,?_,λx hx=>?_,?_⟩
  ·rcases aL.mp hx with rfl|hx
   ·exact⟨_,_,hm,hc c aW,rfl⟩
   ·exact h2 x hx
  ·rw[ck];refine⟨λz=>?_,h3⟩;obtain⟨j,hj,e⟩:=h4 _ z;rw[hsg]at e;exact nd.1 (av.mpr ⟨j,hj,by omega⟩)
  ·rcases aL.mp hx with rfl|hx
   ·exact⟨k,aW,hsg⟩
   ·obtain⟨j,hj,e⟩:=h4 x hx;exact⟨j,bj _ hj,e⟩
  ·rw[dW,h5];rfl
structure Nms(N:aE):Prop where
 len:N.length=17
 nm:∀x∈N,Nm x
 nd:N.Nodup
theorem M5(h:IL es):∃N es',Nms N/\IL es'/\v3 es []=some (.lst (N.map D.str),es'):=by
 obtain⟨r,es1,h1,h2,h3,h4⟩:=qV h 25 (by decide);obtain⟨s,rfl⟩:=cI h2;have hs:s<25:=by omega
 obtain⟨cs,es2,h5,h6,h7,h8⟩:=Gp s (br 17) es1 h1;have nd:((br 17).map λk=>(s+7 * k) % 25).Nodup:=by
  have q:((br 25).all λs=>decide ((br 17).map λk=>(s+7 * k) % 25).Nodup)=true:=by decide +kernel
  exact bz (bw.mp q s (bY.mpr hs))
 obtain⟨N,n1,n2,n3,_,n5⟩:=M4 s hs (br 17) cs h5 h6 nd;refine⟨N,es2,⟨by rw[n1,fW],n2,n3⟩,h7,SI (ρ:=[.pm es2,.im (.int s),.im (.str lets)]) rfl ?_ rfl⟩;unfold vZ;refine(n9 (ρ':=[.pm es1,.im (.int s),.un]) ((oK (rZ (es0:=es) (es:=es) (ρ1:=[.pm es,.un,.un]) rfl rfl rfl h4)).trans rfl)).trans ?_;refine(n9 (ρ':=[.pm es1,.im (.int s),.im (.str lets)]) rfl).trans ?_;refine sS ((yV (ds:=(br 17).map λ(k:Nat)=>D.int k) (ρ1:=[.pm es1,.im (.int s),.im (.str lets)]) ?_ (by simp)).trans (by rw[<-n5];exact h8));unfold iR1;show (if _ then some (yS 0 17,_)else none)=_;rw[aj (by decide)];unfold yS;simp only[Int.zero_add]
structure Rw where
 n:Str
 k:Kd
 s:Option Str
def oU(r:Rw):L4.D:=.tup [.str r.n,.str r.k.s,oS r.s]
def EL(l:List Rw)(r:Rw):Prop:=(r.k=.room/\r.s=none)\/(r.k=.you/\∃u∈l,r.s=some u.n/\u.k=.room)\/(r.k.pl=true/\∃u∈l,r.s=some u.n/\u.k.hd=true)
inductive Ord:List Rw->Prop
 |nil:Ord []
 |snoc {l:List Rw} {r:Rw} (h:Ord l) (h':EL l r):Ord (l++[r])
theorem EL.mono{l l':List Rw}{r:Rw}(h:EL l r)(hs:∀u∈l,u∈l'):EL l' r:=by
 rcases h with h|⟨h1,u,h2,h3⟩|⟨h1,u,h2,h3⟩
 ·exact .inl h
 ·exact .inr (.inl ⟨h1,u,hs u h2,h3⟩)
 ·exact .inr (.inr ⟨h1,u,hs u h2,h3⟩)
theorem Ord.all{l:List Rw}(h:Ord l):∀r∈l,EL l r:=by
 induction h with
 |nil=>exact λr hr=>(bI hr).elim
 |snoc h h' ih=>
  intro r hr;rcases cq.mp hr with hr|hr
  ·exact(ih r hr).mono λu hu=>bT _ hu
  ·rw[bx]at hr;subst hr;exact h'.mono λu hu=>bT _ hu
theorem EL.start{l:List Rw}{r:Rw}(h:EL l r){p:Str}(hp:r.s=some p):∃u∈l,u.n=p:=by
 rcases h with ⟨_,h⟩|⟨_,u,h2,h3,_⟩|⟨_,u,h2,h3,_⟩
 ·rw[h]at hp;cases hp
 ·rw[h3]at hp;cases hp;exact⟨u,h2,rfl⟩
 ·rw[h3]at hp;cases hp;exact⟨u,h2,rfl⟩
theorem Ord.rank{l:List Rw}(h:Ord l):(l.map Rw.n).Nodup->∃rk:Str->Nat,∀t∈l,rk t.n<l.length/\∀p,t.s=some p->rk p<rk t.n/\∃u∈l,u.n=p:=by
 induction h with
 |nil=>exact λ_=>⟨λ_=>0,λt ht=>(bI ht).elim⟩
 |@snoc l r h h' ih=>
  intro nd;rw[aT,bK]at nd;obtain⟨rk,hk⟩:=ih nd.1;have ne:∀u∈l,u.n≠r.n:=λu hu z=>nd.2.2 _ (cp hu) _ (by simp) z;refine⟨λx=>if x=r.n then l.length else rk x,λt ht=>?_⟩;rw[aJ,bt];dsimp only;rcases cq.mp ht with ht|ht
  ·obtain⟨h1,h2⟩:=hk t ht;rw[ak (ne t ht)];refine⟨by omega,λp hp=>?_⟩;obtain⟨h3,u,hu,rfl⟩:=h2 p hp;rw[ak (ne u hu)];exact⟨h3,u,bT _ hu,rfl⟩
  ·rw[bx]at ht;subst ht;rw[aj rfl];refine⟨by omega,λp hp=>?_⟩;obtain⟨u,hu,rfl⟩:=h'.start hp;rw[ak (ne u hu)];exact⟨(hk u hu).1,u,bT _ hu,rfl⟩
variable{j:Nat}
theorem vF{l:aE}{x:Str}(h:l[j]?=some x):atI (l.map D.str) (j:Int)=some (.str x):=Ih (by rw[bc,h];rfl)
def kT:List Kd:=[.plain,.box,.lamp,.fixed,.box,.lamp,.box,.plain]
theorem WO(j:Nat)(h:j<8):∃k,k∈kT/\dIx (.lst [.str "plain", .str "box", .str "lamp", .str "fixed", .str "box", .str "lamp", .str "box", .str "plain"]) (.int j)=some (.str (Kd.s k)):=by
 match j,h with
 |0,_=>exact⟨.plain,by decide,rfl⟩
 |1,_=>exact⟨.box,by decide,rfl⟩
 |2,_=>exact⟨.lamp,by decide,rfl⟩
 |3,_=>exact⟨.fixed,by decide,rfl⟩
 |4,_=>exact⟨.box,by decide,rfl⟩
 |5,_=>exact⟨.lamp,by decide,rfl⟩
 |6,_=>exact⟨.box,by decide,rfl⟩
 |7,_=>exact⟨.plain,by decide,rfl⟩
abbrev eO:=(cC (.str "box"))
abbrev kG:=(cC (.str "lamp"))
def M6:FS:=(oh (oQ 6 (c2 dIx (cL (pb (n4 (cC (.str "plain")) (n4 eO (n4 kG (n4 (cC (.str "fixed")) (n4 eO (n4 kG (n4 eO (n4 (cC (.str "plain")) oF)))))))))) (pW oj 2 eM)))
 (oh (o6 (uc 3 (qm (n4 aO (n4 bg (n4 (G1 4 (pW oj 2 (n4 (CN (c1 qh aA)) oF))) oF))))))
 (sIf (cT (c2 (dEq false) bg eO)) (o6 (uc 4 aO)) oV)))
theorem U4{Hs:aE}(h:IL es)(h0:Hs≠[])(hi:qH ρ i=some es)(hj:qH ρ j=some (Hs.map D.str))(hb:cV j (ρ.map Sl.bor)=some (.lst (Hs.map D.str),ρ.map Sl.bor))(hne:∀es',qH (putAt ρ i es') j=some (Hs.map D.str)):
  ∃x es',x∈Hs/\IL es'/\G1 j (pW oj i (n4 (CN (c1 qh (cV j))) oF)) ρ=some (.str x,putAt ρ i es'):=by
 have hp:0<Hs.length:=lW.mpr h0;obtain⟨r,es',h1,h2,h3,h4⟩:=qV h Hs.length (by omega);obtain⟨m,rfl⟩:=cI h2;have hm:m<Hs.length:=by omega
 refine⟨Hs[m],es',eW hm,h1,?_⟩;have e1:CN (c1 qh (cV j)) ρ=some (.int Hs.length,ρ):=SG (pj hb (by show some (D.int _)=_;rw[ah])) rfl;have e2:pW oj i (n4 (CN (c1 qh (cV j))) oF) ρ=some (.int m,putAt ρ i es'):=rZ hi (n8 e1 rfl) hi h4;unfold G1;rw[hj];simp only[e2,hne es'];rw[show atI (Hs.map D.str) (m:Int)=some (.str Hs[m]) from vF (aS hm)]
theorem AO(a b:Sl)(B:List Rw):∀(l:aE) (es:List L4.D) (O:List Rw) (Hs:aE) (s5 s6:Sl),IL es->Hs≠[]->(∀x∈Hs,∃u∈B++O,u.n=x/\u.k.hd=true)->Ord (B++O)->O.length+l.length<=900->Hs.length+l.length<=900->
  ∃(es':List L4.D) (O':List Rw) (Hs':aE) (t5 t6:Sl),IL es'/\Ord (B++(O++O'))/\O'.map Rw.n=l/\(∀r∈O',r.k.pl=true)/\
   forL (gN 5) M6 (l.map D.str) [a,b,.pm es,.ls (O.map oU),.ls (Hs.map D.str),s5,s6]=some (.nx [a,b,.pm es',.ls ((O++O').map oU),.ls (Hs'.map D.str),t5,t6])
 |[],es,O,Hs,s5,s6,hi,_,_,ho,_,_=>⟨es,[],Hs,s5,s6,hi,by rw[bp];exact ho,rfl,λr hr=>(bI hr).elim,by rw[bp];rfl⟩
 |x::l,es,O,Hs,s5,s6,hi,h0,hH,ho,hl,hl'=>by
  rw[aI]at hl hl';obtain⟨r,es1,h1,h2,h3,h4⟩:=qV hi 8 (by decide);obtain⟨j,rfl⟩:=cI h2;obtain⟨k,hk,ek⟩:=WO j (by omega);let ρ1:aV:=[a,b,.pm es1,.ls (O.map oU),.ls (Hs.map D.str),.im (.str x),.im (.str k.s)];obtain⟨p,es2,hp,h5,e2⟩:=U4 (ρ:=ρ1) (i:=2) (j:=4) h1 h0 rfl rfl rfl (λ_=>rfl);have hpl:k.pl=true:=by
   have:∀k∈kT,Kd.pl k=true:=by decide
   exact this k hk
  let rw0:Rw:=⟨x,k,some p⟩;obtain⟨u,hu,hun,huk⟩:=hH p hp;have ok:EL (B++O) rw0:=.inr (.inr ⟨hpl,u,hu,by rw[hun],huk⟩);let Hs1:aE:=if k=.box then Hs++[x]else Hs
  have e3:M6 [a,b,.pm es,.ls (O.map oU),.ls (Hs.map D.str),.im (.str x),s6]=some (.nx [a,b,.pm es2,.ls ((O++[rw0]).map oU),.ls (Hs1.map D.str),.im (.str x),.im (.str k.s)]):=by
   unfold M6;refine(n9 (ρ':=ρ1) ((oK (ou (x:=.lst [.str "plain", .str "box", .str "lamp", .str "fixed", .str "box", .str "lamp", .str "box", .str "plain"]) (ρ1:=[a,b,.pm es,.ls (O.map oU),.ls (Hs.map D.str),.im (.str x),s6]) rfl (rZ (es0:=es) (es:=es) (ρ1:=[a,b,.pm es,.ls (O.map oU),.ls (Hs.map D.str),.im (.str x),s6]) rfl rfl rfl h4) ek)).trans rfl)).trans ?_;let ρ2:aV:=[a,b,.pm es2,.ls (O.map oU),.ls (Hs.map D.str),.im (.str x),.im (.str k.s)];let ρ3:aV:=[a,b,.pm es2,.ls ((O++[rw0]).map oU),.ls (Hs.map D.str),.im (.str x),.im (.str k.s)];refine(n9 (ρ':=ρ3) ((pT (wQ (es0:=O.map oU) (es:=O.map oU) (ρ1:=ρ2) (d:=oU rw0) rfl (vO (n8 rfl (n8 rfl (n8 e2 rfl))) (by show 3<=1000;decide)) rfl (by rw[ah];omega))).trans ?_)).trans ?_
   ·show some (Out.nx [a,b,.pm es2,.ls (O.map oU++[oU rw0]),.ls (Hs.map D.str),.im (.str x),.im (.str k.s)])=_;rw[show O.map oU++[oU rw0]=(O++[rw0]).map oU by rw[aT];rfl]
   ·have et:cT (c2 (dEq false) bg eO) ρ3=some (decide (k=.box),ρ3):=pL (ou rfl rfl (DT k .box));by_cases hb:k=.box
    ·rw[aZ hb]at et;refine(pG et).trans ((pT (wQ (es0:=Hs.map D.str) (es:=Hs.map D.str) (ρ1:=ρ3) (d:=.str x) rfl rfl rfl (by rw[ah];omega))).trans ?_);show some (Out.nx [a,b,.pm es2,.ls ((O++[rw0]).map oU),.ls (Hs.map D.str++[.str x]),.im (.str x),.im (.str k.s)])=_;rw[show Hs1.map D.str=Hs.map D.str++[.str x] by rw[show Hs1=Hs++[x] from aj hb,aT];rfl]
    ·rw[aR hb]at et;refine(pd et).trans ?_;rw[show Hs1=Hs from ak hb];rfl
  have ho1:Ord (B++(O++[rw0])):=by rw[<-bo];exact ho.snoc ok
  have hH1:∀y∈Hs1,∃u∈B++(O++[rw0]),u.n=y/\u.k.hd=true:=λy hy=>by
   have old:y∈Hs->∃u∈B++(O++[rw0]),u.n=y/\u.k.hd=true:=λhy=>by obtain⟨v,hv,h⟩:=hH y hy;exact⟨v,by rw[<-bo];exact bT _ hv,h⟩
   by_cases hb:k=.box
   ·rw[show Hs1=Hs++[x] from aj hb]at hy;rcases cq.mp hy with hy|hy
    ·exact old hy
    ·rw[bx]at hy;refine⟨rw0,by simp,hy.symm,?_⟩;show k.hd=true;rw[hb];rfl
   ·rw[show Hs1=Hs from ak hb]at hy;exact old hy
  have h01:Hs1≠[]:=by
   by_cases hb:k=.box
   ·rw[show Hs1=Hs++[x] from aj hb];simp
   ·rw[show Hs1=Hs from ak hb];exact h0
  have hl1:Hs1.length<=Hs.length+1:=by
   by_cases hb:k=.box
   ·rw[show Hs1=Hs++[x] from aj hb];simp
   ·rw[show Hs1=Hs from ak hb];omega
  obtain⟨es',O',Hs',t5,t6,g1,g2,g3,g4,g5⟩:=AO a b B l es2 (O++[rw0]) Hs1 (.im (.str x)) (.im (.str k.s)) h5 h01 hH1 ho1 (by rw[aJ,bt];omega) (by omega);refine⟨es',rw0::O',Hs',t5,t6,g1,by rw[bo]at g2;exact g2,by rw[ay,g3],λr hr=>?_,?_⟩
  ·rcases aL.mp hr with rfl|hr
   ·exact hpl
   ·exact g4 r hr
  ·rw[ay];unfold forL;rw[show gN 5 (.str x) [a,b,.pm es,.ls (O.map oU),.ls (Hs.map D.str),s5,s6]=some [a,b,.pm es,.ls (O.map oU),.ls (Hs.map D.str),.im (.str x),s6] from rfl];simp only[e3];rw[g5,bo];rfl
theorem M7(k:Nat)(h:k<=ds.length):cutD ds none (some (k:Int))=ds.take k:=by unfold cutD;rw[HT.Bo,HT.yL,fg h,ng,Nat.sub_zero]
theorem U5(k:Nat)(h:k<=ds.length):cutD ds (some (k:Int)) none=ds.drop k:=by unfold cutD;rw[HT.Bo,HT.yL,fg h,lF (by rw[cR];omega)]
theorem Jd(k m:Nat)(h:k+m<=ds.length):cutD ds (some (k:Int)) (some ((k+m:Nat):Int))=(ds.drop k).take m:=by unfold cutD;rw[HT.yL,HT.yL,fg h,fg (show k<=ds.length by omega)];congr 1;omega
variable{N:aE}
theorem Kw{rooms:aE}(hN:Nms N)(B:List Rw)(h:IL es)(hB:Ord B)(hr:rooms.length<=100)(hH:∀x∈rooms++[N[5]'(by rw[hN.len];decide)],∃u∈B,u.n=x/\u.k.hd=true):
  ∃(q:Nat) (es':List L4.D) (O:List Rw),q<8/\IL es'/\Ord (B++O)/\O.map Rw.n=(N.drop 6).take q/\(∀r∈O,r.k.pl=true)/\qP es [.lst (N.map D.str),.lst (rooms.map D.str)]=some (.lst (O.map oU),es'):=by
 have h5:5<N.length:=by rw[hN.len];decide
 obtain⟨r,es1,h1,h2,h3,h4⟩:=qV h 8 (by decide);obtain⟨q,rfl⟩:=cI h2;let Hs:=rooms++[N[5]];obtain⟨es',O,Hs',t5,t6,g1,g2,g3,g4,g5⟩:=AO (.im (.lst (N.map D.str))) (.im (.lst (rooms.map D.str))) B ((N.drop 6).take q) es1 [] Hs .un .un h1 (by simp[Hs]) (λx hx=>by rw[bp];exact hH x hx) (by rw[bp];exact hB) (by rw[bH,cR,hN.len];simp;omega) (by rw[bH,cR,hN.len];simp[Hs];omega);rw[bq]at g2 g5;refine⟨q,es',O,by omega,g1,g2,g3,g4,?_⟩;have run:sZ (stL 7 es [.lst (N.map D.str),.lst (rooms.map D.str)])=some (.rn (O.map oU) [.im (.lst (N.map D.str)),.im (.lst (rooms.map D.str)),.pm es',.un,.ls (Hs'.map D.str),t5,t6]):=by
  unfold sZ;refine(n9 (ρ':=[.im (.lst (N.map D.str)),.im (.lst (rooms.map D.str)),.pm es,.ls [],.un,.un,.un]) rfl).trans ?_;refine(n9 (ρ':=[.im (.lst (N.map D.str)),.im (.lst (rooms.map D.str)),.pm es,.ls [],.ls (Hs.map D.str),.un,.un]) ((Eo (ue (xs:=rooms.map D.str) (ys:=[.str N[5]]) rfl (px (Ep (n8 (ou rfl rfl (vF (j:=5) (aS h5))) rfl) (by show 1<=1000;decide))) (by rw[ah];simp;omega))).trans ?_)).trans ?_
  ·show some (Out.nx [_,_,_,_,.ls (rooms.map D.str++[.str N[5]]),_,_])=_;rw[show rooms.map D.str++[.str N[5]]=Hs.map D.str by simp[Hs]]
  ·refine(n9 ((pJ (ds:=((N.drop 6).take q).map D.str) (ρ1:=[.im (.lst (N.map D.str)),.im (.lst (rooms.map D.str)),.pm es1,.ls [],.ls (Hs.map D.str),.un,.un]) ?_).trans g5)).trans rfl;have e:uQ ae (oAt cN) (oAt (c2 pO cN (pW oj 2 eM))) [.im (.lst (N.map D.str)),.im (.lst (rooms.map D.str)),.pm es,.ls [],.ls (Hs.map D.str),.un,.un]=some (((N.drop 6).take q).map D.str,[.im (.lst (N.map D.str)),.im (.lst (rooms.map D.str)),.pm es1,.ls [],.ls (Hs.map D.str),.un,.un]):=by
    have e1:c2 pO cN (pW oj 2 eM) [.im (.lst (N.map D.str)),.im (.lst (rooms.map D.str)),.pm es,.ls [],.ls (Hs.map D.str),.un,.un]=some (.int ((6+q:Nat):Int),[.im (.lst (N.map D.str)),.im (.lst (rooms.map D.str)),.pm es1,.ls [],.ls (Hs.map D.str),.un,.un]):=ou rfl ((rZ (es0:=es) (es:=es) (ρ1:=[.im (.lst (N.map D.str)),.im (.lst (rooms.map D.str)),.pm es,.ls [],.ls (Hs.map D.str),.un,.un]) rfl rfl rfl h4).trans rfl) (by show some (D.int (6+(q:Int)))=_;congr 2);have e2:oAt (c2 pO cN (pW oj 2 eM)) [.im (.lst (N.map D.str)),.im (.lst (rooms.map D.str)),.pm es,.ls [],.ls (Hs.map D.str),.un,.un]=some (some ((6+q:Nat):Int),[.im (.lst (N.map D.str)),.im (.lst (rooms.map D.str)),.pm es1,.ls [],.ls (Hs.map D.str),.un,.un]):=by unfold oAt;rw[e1]
    unfold uQ;show (match oAt (c2 pO cN (pW oj 2 eM)) [.im (.lst (N.map D.str)),.im (.lst (rooms.map D.str)),.pm es,.ls [],.ls (Hs.map D.str),.un,.un]with
     |some (h,ρ3)=>some (cutD (N.map D.str) (some 6) h,ρ3)
     |none=>none)=_
    rw[e2];show some (cutD (N.map D.str) (some ((6:Nat):Int)) (some ((6+q:Nat):Int)),_)=_;rw[Jd 6 q (by rw[ah,hN.len];omega),fj,gf]
   unfold iL;rw[px e]
 unfold qP fnL;rw[aj (show [D.lst (N.map D.str),D.lst (rooms.map D.str)].length=2 from rfl),run];rfl
def U6:FS:=(oh (oQ 7 (pW oj 1 (n4 (c2 pO (c1 qh aO) aN) oF)))
 (oQ 5 (cL (rq (cL (rq (cL (uQ aO oNo (oAt cf))) (cL (pb (n4 bg oF))))) (cL (uQ aO (oAt cf) oNo))))))
theorem Gq{a b c d x8 x9 x10 x11 x12 x13:Sl}:∀(l:List Rw) (es:List L4.D) (R:List Rw) (s6 s7:Sl),IL es->R.length+l.length<=900->∃(es':List L4.D) (R':List Rw) (t6 t7:Sl),IL es'/\R'.Perm (R++l)/\
  forL (gN 6) U6 (l.map oU) [a,.ls es,b,c,d,.im (.lst (R.map oU)),s6,s7,x8,x9,x10,x11,x12,x13]=some (.nx [a,.ls es',b,c,d,.im (.lst (R'.map oU)),t6,t7,x8,x9,x10,x11,x12,x13])
 |[],es,R,s6,s7,hi,_=>⟨es,R,s6,s7,hi,by rw[bp],rfl⟩
 |r::l,es,R,s6,s7,hi,hl=>by
  rw[aI]at hl;obtain⟨v,es1,h1,h2,h3,h4⟩:=qV hi ((R.map oU).length+1:Int) (by omega);obtain⟨k,rfl⟩:=cI h2;have hk:k<=(R.map oU).length:=by omega
  let R1:=R.take k++r::R.drop k;have p1:R1.Perm (R++[r]):=by have:=(List.perm_middle (a:=r) (l₁:=R.take k) (l₂:=R.drop k));rw[List.take_append_drop]at this;exact this.trans (List.perm_append_singleton r R).symm
  have hR1:R1.length=R.length+1:=p1.length_eq.trans (by simp);let ρ1:aV:=[a,.ls es1,b,c,d,.im (.lst (R.map oU)),.im (oU r),.im (.int k),x8,x9,x10,x11,x12,x13];have e1:U6 [a,.ls es,b,c,d,.im (.lst (R.map oU)),.im (oU r),s7,x8,x9,x10,x11,x12,x13]=some (.nx [a,.ls es1,b,c,d,.im (.lst (R1.map oU)),.im (oU r),.im (.int k),x8,x9,x10,x11,x12,x13]):=by
   unfold U6;refine(n9 (ρ':=ρ1) ((oK (i:=7) (rZ (i:=1) (es0:=es) (es:=es) (ρ1:=[a,.ls es,b,c,d,.im (.lst (R.map oU)),.im (oU r),s7,x8,x9,x10,x11,x12,x13]) rfl (show n4 (c2 pO (c1 qh aO) aN) oF _=some ([.int ((R.map oU).length+1)],_) from rfl) rfl h4)).trans rfl)).trans ?_;have c1:uQ aO oNo (oAt cf) ρ1=some ((R.map oU).take k,ρ1):=by show some (cutD (R.map oU) none (some (k:Int)),ρ1)=_;rw[M7 k hk]
   have c2:uQ aO (oAt cf) oNo ρ1=some ((R.map oU).drop k,ρ1):=by show some (cutD (R.map oU) (some (k:Int)) none,ρ1)=_;rw[U5 k hk]
   refine(oK (px (ue (px (ue (px c1) (px (Ep (ds:=[oU r]) rfl (by show 1<=1000;decide))) ?_)) (px c2) ?_))).trans ?_
   ·rw[bH,ah];simp;omega
   ·rw[aJ,bH,cR,ah];simp;omega
   ·show some (Out.nx [a,.ls es1,b,c,d,.im (.lst ((R.map oU).take k++[oU r]++(R.map oU).drop k)),.im (oU r),.im (.int k),x8,x9,x10,x11,x12,x13])=_;rw[show (R.map oU).take k++[oU r]++(R.map oU).drop k=R1.map oU by simp[R1,fj,gf]]
  obtain⟨es',R',t6,t7,g1,g2,g3⟩:=Gq (a:=a) (b:=b) (c:=c) (d:=d) (x8:=x8) (x9:=x9) (x10:=x10) (x11:=x11) (x12:=x12) (x13:=x13) l es1 R1 (.im (oU r)) (.im (.int k)) h1 (by omega);refine⟨es',R',t6,t7,g1,g2.trans ((p1.append_right l).trans (by rw[bo];exact m8 _)),?_⟩;rw[ay];unfold forL;rw[show gN 6 (oU r) [a,.ls es,b,c,d,.im (.lst (R.map oU)),s6,s7,x8,x9,x10,x11,x12,x13]=some [a,.ls es,b,c,d,.im (.lst (R.map oU)),.im (oU r),s7,x8,x9,x10,x11,x12,x13] from rfl];simp only[e1];exact g3
def mkT(m:Mk):L4.D:=.tup [.str m.n,.int m.st,.int m.mo]
abbrev iX:=(n4 (cC (.int 3)) oF)
def mkB:FS:=(oh (oQ 10 (c2 pO aN (pW oj 1 iX)))
 (o6 (uc 8 (qm (n4 (cV 9) (n4 (pW oj 1 (n4 (c2 pO dR aN) oF)) (n4 dR oF)))))))
theorem Je{a b c d x5 x6 x7 x11 x12 x13:Sl}:∀(l:aE) (es:List L4.D) (M:List Mk) (s9 s10:Sl),IL es->M.length+l.length<=900->∃(es':List L4.D) (M':List Mk) (t9 t10:Sl),IL es'/\M'.map Mk.n=l/\(∀m∈M',m.ok)/\
  forL (gN 9) mkB (l.map D.str) [a,.ls es,b,c,d,x5,x6,x7,.ls (M.map mkT),s9,s10,x11,x12,x13]=some (.nx [a,.ls es',b,c,d,x5,x6,x7,.ls ((M++M').map mkT),t9,t10,x11,x12,x13])
 |[],es,M,s9,s10,hi,_=>⟨es,[],s9,s10,hi,rfl,λm hm=>(bI hm).elim,by rw[bp];rfl⟩
 |x::l,es,M,s9,s10,hi,hl=>by
  rw[aI]at hl;obtain⟨v,es1,h1,h2,h3,h4⟩:=qV hi 3 (by decide);obtain⟨w,es2,h5,h6,h7,h8⟩:=qV h1 (1+v+1) (by omega);let m:Mk:=⟨x,w,1+v⟩;let ρ1:aV:=[a,.ls es1,b,c,d,x5,x6,x7,.ls (M.map mkT),.im (.str x),.im (.int (1+v)),x11,x12,x13];let ρ2:aV:=[a,.ls es2,b,c,d,x5,x6,x7,.ls (M.map mkT),.im (.str x),.im (.int (1+v)),x11,x12,x13];have e1:mkB [a,.ls es,b,c,d,x5,x6,x7,.ls (M.map mkT),.im (.str x),s10,x11,x12,x13]=some (.nx [a,.ls es2,b,c,d,x5,x6,x7,.ls ((M++[m]).map mkT),.im (.str x),.im (.int (1+v)),x11,x12,x13]):=by unfold mkB;refine(n9 (ρ':=ρ1) ((oK (ou rfl (rZ (es0:=es) (es:=es) (ρ1:=[a,.ls es,b,c,d,x5,x6,x7,.ls (M.map mkT),.im (.str x),s10,x11,x12,x13]) rfl rfl rfl h4) rfl)).trans rfl)).trans ?_;refine(pT (wQ (es0:=M.map mkT) (es:=M.map mkT) (ρ1:=ρ2) (d:=mkT m) rfl (vO (n8 rfl (n8 ((rZ (es0:=es1) (es:=es1) (ρ1:=ρ1) rfl (n8 (ou rfl rfl rfl) rfl) rfl h8).trans rfl) rfl)) (by show 3<=1000;decide)) rfl (by rw[ah];omega))).trans ?_;show some (Out.nx [a,.ls es2,b,c,d,x5,x6,x7,.ls (M.map mkT++[mkT m]),.im (.str x),.im (.int (1+v)),x11,x12,x13])=_;rw[show M.map mkT++[mkT m]=(M++[m]).map mkT by rw[aT];rfl]
  obtain⟨es',M',t9,t10,g1,g2,g3,g4⟩:=Je (a:=a) (b:=b) (c:=c) (d:=d) (x5:=x5) (x6:=x6) (x7:=x7) (x11:=x11) (x12:=x12) (x13:=x13) l es2 (M++[m]) (.im (.str x)) (.im (.int (1+v))) h5 (by rw[aJ,bt];omega);refine⟨es',m::M',t9,t10,g1,by rw[ay,g2],λy hy=>?_,?_⟩
  ·rcases aL.mp hy with rfl|hy
   ·exact⟨by show 1<=1+v;omega,by show 1+v<=3;omega,h6,by show w<=1+v;omega⟩
   ·exact g3 y hy
  ·rw[ay];unfold forL;rw[show gN 9 (.str x) [a,.ls es,b,c,d,x5,x6,x7,.ls (M.map mkT),s9,s10,x11,x12,x13]=some [a,.ls es,b,c,d,x5,x6,x7,.ls (M.map mkT),.im (.str x),s10,x11,x12,x13] from rfl];simp only[e1];rw[g4,bo];rfl
abbrev kO:=(n4 gE oF)
theorem DX{a b c d x5 x6 x7 x8 x9 x10 x11 x12 x13:Sl}:∀(l:aE) (es:List L4.D),IL es->∃(dk:aE) (es':List L4.D),dk.Sublist l/\IL es'/\
  sA 1 [1] (gN 0) (cT (c2 (dEq false) (pW oj 1 kO) aN)) ae (l.map D.str) [a,.ls es,b,c,d,x5,x6,x7,x8,x9,x10,x11,x12,x13]=some (dk.map D.str,[a,.ls es',b,c,d,x5,x6,x7,x8,x9,x10,x11,x12,x13])
 |[],es,h=>⟨[],es,fY _,h,rfl⟩
 |x::l,es,h=>by
  obtain⟨v,es1,h1,h2,h3,h4⟩:=qV h 2 (by decide);obtain⟨dk,es',g1,g2,g3⟩:=DX (a:=a) (b:=b) (c:=c) (d:=d) (x5:=x5) (x6:=x6) (x7:=x7) (x8:=x8) (x9:=x9) (x10:=x10) (x11:=x11) (x12:=x12) (x13:=x13) l es1 h1;have et:cT (c2 (dEq false) (pW oj 1 kO) aN) [.im (.str x),.pm es]=some (decide (v=1),[.im (.str x),.pm es1]):=pL (ou ((rZ (es0:=es) (es:=es) (ρ1:=[.im (.str x),.pm es]) rfl rfl rfl h4).trans rfl) rfl (uE false v 1));have st:sA 1 [1] (gN 0) (cT (c2 (dEq false) (pW oj 1 kO) aN)) ae ((x::l).map D.str) [a,.ls es,b,c,d,x5,x6,x7,x8,x9,x10,x11,x12,x13]=some ((if v=1 then x::dk else dk).map D.str,[a,.ls es',b,c,d,x5,x6,x7,x8,x9,x10,x11,x12,x13]):=by
   rw[ay];unfold sA;rw[show gN 0 (.str x) (xM 1 [1] [a,.ls es,b,c,d,x5,x6,x7,x8,x9,x10,x11,x12,x13])=some [.im (.str x),.pm es] from rfl];simp only[et];have un:rl [1] (([.im (.str x),.pm es1]:aV).drop 1) [a,.ls es,b,c,d,x5,x6,x7,x8,x9,x10,x11,x12,x13]=some [a,.ls es1,b,c,d,x5,x6,x7,x8,x9,x10,x11,x12,x13]:=rfl;by_cases hv:v=1
   ·rw[aj hv,aZ hv];simp only;simp only[show cV 0 [.im (.str x),.pm es1]=some (.str x,[.im (.str x),.pm es1]) from rfl,un,g3];rfl
   ·rw[ak hv,aR hv];simp only[un,g3]
  by_cases hv:v=1
  ·rw[aj hv]at st;exact⟨x::dk,es',g1.cons_cons x,g2,st⟩
  ·rw[ak hv]at st;exact⟨dk,es',g1.cons x,g2,st⟩
def moD:L4.D:=.lst [.tup [],.tup [.str "red"],.tup [.str "old", .str "red"]]
theorem Qb(j:Nat)(h:j<3):∃m∈DU,dIx moD (.int j)=some (.tup (m.map D.str)):=by
 match j,h with
 |0,_=>exact⟨[],by decide,rfl⟩
 |1,_=>exact⟨["red"],by decide,rfl⟩
 |2,_=>exact⟨["old", "red"],by decide,rfl⟩
def Th.rw(t:Th):Rw:=⟨t.n,t.k,t.s⟩
def wdD(t:Th):L4.D:=.tup (t.w.map D.str)
abbrev du:=(n4 ae oF)
def U7:FE:=(Ak (qm du) (c2 dIx az (pW oj 4 iX)))
theorem Cu{a b c d x5 x6 x7 x8 x9 x10 x11 x13:Sl}:∀(R:List Rw) (es:List L4.D),IL es->∃(T:List Th) (es':List L4.D),T.map Th.rw=R/\(∀t∈T,∃m∈DU,t.w=t.n::m)/\IL es'/\
  sA 3 [12,1] (gT (oG (gN 0) (oG (gN 1) (oG (gN 2) qA))) 3) pM U7 (R.map oU) [a,.ls es,b,c,d,x5,x6,x7,x8,x9,x10,x11,.im moD,x13]=some (T.map wdD,[a,.ls es',b,c,d,x5,x6,x7,x8,x9,x10,x11,.im moD,x13])
 |[],es,h=>⟨[],es,rfl,λt ht=>(bI ht).elim,h,rfl⟩
 |r::R,es,h=>by
  obtain⟨v,es1,h1,h2,h3,h4⟩:=qV h 3 (by decide);obtain⟨j,rfl⟩:=cI h2;obtain⟨m,hm,em⟩:=Qb j (by omega);obtain⟨T,es',g1,g2,g3,g4⟩:=Cu (a:=a) (b:=b) (c:=c) (d:=d) (x5:=x5) (x6:=x6) (x7:=x7) (x8:=x8) (x9:=x9) (x10:=x10) (x11:=x11) (x13:=x13) R es1 h1;let t:Th:=⟨r.n,r.n::m,r.k,r.s⟩;have hml:m.length<=2:=by
   have:∀m∈DU,bL m<=2:=by decide
   exact this m hm
  refine⟨t::T,es',by rw[ay,g1];rfl,λu hu=>?_,g3,?_⟩
  ·rcases aL.mp hu with rfl|hu
   ·exact⟨m,hm,rfl⟩
   ·exact g2 u hu
  ·let ρ2:aV:=[.im (.str r.n),.im (.str r.k.s),.im (oS r.s),.im moD,.pm es];have e1:U7 ρ2=some (wdD t,[.im (.str r.n),.im (.str r.k.s),.im (oS r.s),.im moD,.pm es1]):=by have e2:c2 dIx az (pW oj 4 iX) ρ2=some (.tup (m.map D.str),[.im (.str r.n),.im (.str r.k.s),.im (oS r.s),.im moD,.pm es1]):=ou rfl ((rZ (es0:=es) (es:=es) (ρ1:=ρ2) rfl rfl rfl h4).trans rfl) em;unfold U7 Ak;rw[show qm du ρ2=some (.tup [.str r.n],ρ2) from rfl];simp only[e2];rw[aj (by rw[ah];simp;omega)];rfl
   rw[ay];unfold sA;rw[show gT (oG (gN 0) (oG (gN 1) (oG (gN 2) qA))) 3 (oU r) (xM 3 [12,1] [a,.ls es,b,c,d,x5,x6,x7,x8,x9,x10,x11,.im moD,x13])=some ρ2 from rfl];simp only[pM,e1];rw[show rl [12,1] (([.im (.str r.n),.im (.str r.k.s),.im (oS r.s),.im moD,.pm es1]:aV).drop 3) [a,.ls es,b,c,d,x5,x6,x7,x8,x9,x10,x11,.im moD,x13]=some [a,.ls es1,b,c,d,x5,x6,x7,x8,x9,x10,x11,.im moD,x13] from rfl];simp only[g4];rfl
def sC(x:Str):Rw:=⟨x,.room,none⟩
theorem Qc:∀N:aE,N.length=17->∃x,N[5]?=some x/\N.take 5++([x]++((N.drop 6).take 7++N.drop 13))=N
 |[a0,a1,a2,a3,a4,a5,a6,a7,a8,a9,a10,a11,a12,a13,a14,a15,a16],_=>⟨a5,rfl,rfl⟩
theorem Gr{α:Type}(l:List α){a b:Nat}(h:a<=b):(l.take a).Sublist (l.take b):=by
 have:l.take a=(l.take b).take a:=by rw[List.take_take,fg h]
 rw[this];exact ip _ _
variable{y:Str}{r:Nat}
theorem Kx(h:N.length=17)(hy:N[5]?=some y){q p:Nat}(hr:r<5)(hq:q<8):((N.take (1+r)++([y]++(N.drop 6).take q))++(N.drop 13).take p).Sublist N:=by obtain⟨x,h1,h2⟩:=Qc N h;rw[hy]at h1;cases h1;rw[bo,bo];have:=(Gr N (show 1+r<=5 by omega)).append ((fY [y]).append ((Gr (N.drop 6) (show q<=7 by omega)).append (ip p (N.drop 13))));rw[h2]at this;exact this
theorem U8{R:List Rw}(h:T.map Th.rw=R){u:Rw}(hu:u∈R):∃t∈T,t.rw=u:=by rw[<-h]at hu;exact av.mp hu
theorem Qd(T:List Th)(p:Kd->Bool):(T.filter λt=>p t.k).map Th.rw=(T.map Th.rw).filter λr=>p r.k:=by rw[mY];rfl
theorem Qe(hN:Nms N)(hy:N[5]?=some y){q p:Nat}(hr:r<5)(hq:q<8)(hp:p<5){z:Str}(hz:z∈N.take (1+r)){O:List Rw}
  (ho:Ord (((N.take (1+r)).map sC++[⟨y,.you,some z⟩])++O)) (hO:O.map Rw.n=(N.drop 6).take q) (hOp:∀u∈O,u.k.pl=true) (hT:(T.map Th.rw).Perm (((N.take (1+r)).map sC++[⟨y,.you,some z⟩])++O)) (hw:∀t∈T,∃m∈DU,t.w=t.n::m)
  (hM:M.map Mk.n=(N.drop 13).take p) (hMo:∀m∈M,m.ok) (hd:dk.Sublist (N.take (1+r))):Good T M dk/\(T.filter λt=>decide (t.k=.you)).map Th.n=[y]:=by
 let B:List Rw:=((N.take (1+r)).map sC++[⟨y,.you,some z⟩])++O;have hl:(N.take (1+r)).length=1+r:=by rw[bH,hN.len];omega
 have hOl:O.length=q:=by have:=aP bL hO;rw[ah,bH,cR,hN.len]at this;omega
 have hMl:M.length=min p 4:=by have:=aP bL hM;rw[ah,bH,cR,hN.len]at this;exact this
 have hBl:B.length=1+r+1+q:=by simp only[B,aJ,ah,hl,hOl,bt]
 have hTl:T.length=B.length:=by have:=hT.length_eq;rw[ah]at this;exact this
 have hBn:B.map Rw.n=N.take (1+r)++([y]++(N.drop 6).take q):=by simp only[B,aT,hO,aF,bo];rw[show (Rw.n∘sC)=id from rfl,cX];rfl
 have hTn:T.map Th.n=(T.map Th.rw).map Rw.n:=by rw[aF];rfl
 have perm:(T.map Th.n++M.map Mk.n).Perm ((N.take (1+r)++([y]++(N.drop 6).take q))++(N.drop 13).take p):=by rw[hTn,hM,<- hBn];exact(hT.map Rw.n).append_right _
 have sub:=Kx hN.len hy hr hq (p:=p);have nd:(T.map Th.n++M.map Mk.n).Nodup:=perm.nodup_iff.mpr (hN.nd.sublist sub);have nm:∀x∈T.map Th.n++M.map Mk.n,Nm x:=λx hx=>hN.nm x (sub.subset (perm.subset hx));have back:∀u∈B,∃t∈T,t.rw=u:=λu hu=>U8 rfl (hT.mem_iff.mpr hu);have fwd:∀t∈T,EL B t.rw:=λt ht=>ho.all _ (hT.mem_iff.mp (cp ht));have filt:∀pp:Kd->Bool,((T.filter λt=>pp t.k).map Th.rw).Perm (B.filter λu=>pp u.k):=λpp=>by rw[Qd];exact hT.filter _
 have fl:∀pp:Kd->Bool,(T.filter λt=>pp t.k).length=(B.filter λu=>pp u.k).length:=λpp=>by have:=(filt pp).length_eq;rw[ah]at this;exact this
 have allF:∀(pp:Kd->Bool) (l:List Rw),(∀u∈l,pp u.k=false)->(l.filter λu=>pp u.k)=[]:=λpp l h=>List.filter_eq_nil_iff.mpr λu hu=>by rw[h u hu];exact bb
 have rooms:∀(pp:Kd->Bool),∀u∈(N.take (1+r)).map sC,pp u.k=pp .room:=λpp u hu=>by obtain⟨x,_,rfl⟩:=av.mp hu;rfl
 have oth:∀u∈O,decide (u.k=.room)=false/\decide (u.k=.you)=false:=λu hu=>by have:=hOp u hu;refine⟨aR λh=>?_,aR λh=>?_⟩<;>rw[h]at this<;>cases this
 have fB:∀pp:Kd->Bool,(B.filter λu=>pp u.k)=((N.take (1+r)).map sC).filter (λu=>pp u.k)++([⟨y,.you,some z⟩]:List Rw).filter (λu=>pp u.k)++O.filter (λu=>pp u.k):=λpp=>by simp only[B,md]
 have one:∀(pp:Kd->Bool) (b:Bool),pp .you=b->([⟨y,.you,some z⟩]:List Rw).filter (λu=>pp u.k)=if b then [⟨y,.you,some z⟩]else []:=λpp b h=>by rw[bX,iB];show (if pp .you=true then _ else _)=_;rw[h]
 have gr:∀pp:Kd->Bool,pp .room=true->pp .you=false->(∀u∈O,pp u.k=false)->(B.filter λu=>pp u.k)=(N.take (1+r)).map sC:=λpp h1 h2 h3=>by rw[fB pp,allF pp O h3,ju.mpr λu hu=>(rooms pp u hu).trans h1,one pp false h2];simp
 have gy:∀pp:Kd->Bool,pp .room=false->pp .you=true->(∀u∈O,pp u.k=false)->(B.filter λu=>pp u.k)=[⟨y,.you,some z⟩]:=λpp h1 h2 h3=>by rw[fB pp,allF pp O h3,allF pp _ λu hu=>(rooms pp u hu).trans h1,one pp true h2];rfl
 have gp:∀pp:Kd->Bool,pp .room=false->pp .you=false->(∀u∈O,pp u.k=true)->(B.filter λu=>pp u.k)=O:=λpp h1 h2 h3=>by rw[fB pp,ju.mpr h3,allF pp _ λu hu=>(rooms pp u hu).trans h1,one pp false h2];rfl
 have fr:=gr (λk=>decide (k=.room)) rfl rfl λu hu=>(oth u hu).1;have fy:=gy (λk=>decide (k=.you)) rfl rfl λu hu=>(oth u hu).2;have fp:=gp Kd.pl rfl rfl hOp;have ndT:(T.map Th.n).Nodup:=(bK.mp nd).1;obtain⟨rk,hk⟩:=ho.rank ((hT.map Rw.n).nodup_iff.mp (by rw[<-hTn];exact ndT));have inR:∀x∈N.take (1+r),x∈rmN T:=λx hx=>by obtain⟨t,ht,e⟩:=back (sC x) (bT _ (bT _ (cp hx)));have h1:t.n=x:=aP Rw.n e;have h2:t.k=.room:=aP Rw.k e;exact av.mpr ⟨t,bA.mpr ⟨ht,aZ h2⟩,h1⟩
 refine⟨{
  len:=by omega
  r1:=by have:=fl λk=>decide (k=.room);rw[fr,ah,hl]at this;omega
  r5:=by have:=fl λk=>decide (k=.room);rw[fr,ah,hl]at this;omega
  y1:=by have:=fl λk=>decide (k=.you);rw[fy]at this;exact this
  p7:=by have:=fl Kd.pl;rw[fp,hOl]at this;omega
  m4:=by omega
  mo:=hMo
  nm:=nm
  nd:=nd
  st:=λt ht=>?_
  rk:=⟨rk,λt ht=>?_⟩
  wd:=λt ht=>⟨nm _ (bT _ (cp ht)),hw t ht⟩
  d0:=by have:=hd.length_le;omega
  d1:=(hN.nd.sublist (ip _ _)).sublist hd
  d2:=λx hx=>inR x (hd.subset hx) },?_⟩
 ·obtain⟨n,w,k,s⟩:=t;rcases fwd _ ht with ⟨h1,h2⟩|⟨h1,u,hu,h2,h3⟩|⟨h1,u,hu,h2,h3⟩
  ·cases h1;cases h2;trivial
  ·cases h1;cases h2;obtain⟨t',ht',e⟩:=back u hu;refine av.mpr ⟨t',bA.mpr ⟨ht',aZ ?_⟩,aP Rw.n e⟩;rw[<-h3];exact aP Rw.k e
  ·obtain⟨t',ht',e⟩:=back u hu;have mem:u.n∈hdN T:=av.mpr ⟨t',bA.mpr ⟨ht',by rw[<-h3];exact aP Kd.hd (aP Rw.k e)⟩,aP Rw.n e⟩;have h2':s=some u.n:=h2;subst h2';have h1':k.pl=true:=h1;cases k with
   |room=>cases h1'
   |you=>cases h1'
   |plain=>exact mem
   |fixed=>exact mem
   |box=>exact mem
   |lamp=>exact mem
 ·obtain⟨h1,h2⟩:=hk t.rw (hT.mem_iff.mp (cp ht));refine⟨by rw[hTl];exact h1,λpq hpq=>?_⟩;obtain⟨h3,u,hu,h4⟩:=h2 pq hpq;obtain⟨t',ht',e⟩:=back u hu;exact⟨h3,t',ht',by rw[<-h4,<- e];rfl⟩
 ·have h:=filt λk=>decide (k=.you);rw[fy]at h;have e:=List.perm_singleton.mp h;have:=aP (kF Rw.n) e;rw[aF]at this;exact this
def pV(T:List Th)(M:List Mk)(dk:aE)(y:Str):L4.D:=.dic [kS "rows", kS "marks", kS "dark", kS "words", kS "you"] [.lst (T.map λt=>oU t.rw),.lst (M.map mkT),.lst (dk.map D.str),.lst (T.map wdD),.str y]
theorem Kz:∀l:aE,Ord (l.map sC):=λl=>by
 suffices h:∀(l k:aE),Ord (k.map sC)->Ord ((k++l).map sC) from h l [] .nil
 intro l
 induction l with
 |nil=>intro k h;rw[bp];exact h
 |cons x l ih=>
  intro k h;have:=ih (k++[x]) (by rw[aT];exact h.snoc (.inl ⟨rfl,rfl⟩))
  rwa [bo]at this
theorem uM(h:e ρ=some (.lst ds,ρ1)):iL e ρ=some (ds,ρ1):=by unfold iL;rw[h]
variable{f:FE}{ρ2:aV}
theorem Gs{x:Str}{r:List (Str×FE)}(h1:f ρ=some (d,ρ1))(h2:sH r ρ1=some (ds,ρ2)):sH ((x,f)::r) ρ=some (d::ds,ρ2):=by unfold sH;rw[h1];simp only[h2]
theorem Qf{kfs:List (Str×FE)}(h:sH kfs ρ=some (ds,ρ1)):Du kfs ρ=some (.dic (kfs.map λq=>kS q.1) ds,ρ1):=by unfold Du;rw[h];rfl
theorem WQ{es':List L4.D}{n v:Int}{a b2 b3 b4 b5 b6 b7 b8 b9 b10 b11 b12 b13:Sl}(h:oj es [.int n]=some (.int v,es')):pW oj 1 (n4 (cC (.int n)) oF) [a,.ls es,b2,b3,b4,b5,b6,b7,b8,b9,b10,b11,b12,b13]=some (.int v,[a,.ls es',b2,b3,b4,b5,b6,b7,b8,b9,b10,b11,b12,b13]):=
 (rZ (es0:=es) (es:=es) (ρ1:=[a,.ls es,b2,b3,b4,b5,b6,b7,b8,b9,b10,b11,b12,b13]) rfl rfl rfl h).trans rfl
abbrev gU:=(n4 az oF)
theorem Qg(c:Int):∃T M dk y,xq [.int c]=some (pV T M dk y)/\Good T M dk/\(T.filter λt=>decide (t.k=.you)).map Th.n=[y]:=by
 obtain⟨es0,i0,d0⟩:=Gk c 110 (by decide);obtain⟨N,es1,hN,i1,d1⟩:=M5 i0;obtain⟨r,es2,i2,r0,r1,d2⟩:=qV i1 5 (by decide);obtain⟨r,rfl⟩:=cI r0;have hr:r<5:=by omega
 let rooms:=N.take (1+r);have hl:rooms.length=1+r:=by simp only[rooms];rw[bH,hN.len];omega
 obtain⟨i,es3,i3,j0,j1,d3⟩:=qV i2 rooms.length (by omega);obtain⟨i,rfl⟩:=cI j0;have hi:i<rooms.length:=by omega
 have h5:5<N.length:=by rw[hN.len];decide
 let y:=N[5];let z:=rooms[i];have hz:z∈rooms:=eW hi;let B:List Rw:=rooms.map sC++[⟨y,.you,some z⟩];have hB:Ord B:=(Kz rooms).snoc (.inr (.inl ⟨rfl,sC z,cp hz,rfl,rfl⟩));obtain⟨q,es4,O,hq,i4,hO,hOn,hOp,d4⟩:=Kw hN B i3 hB (rooms:=rooms) (by omega) λx hx=>by
  rcases cq.mp hx with hx|hx
  ·exact⟨sC x,bT _ (cp hx),rfl,rfl⟩
  ·rw[bx]at hx;exact⟨⟨y,.you,some z⟩,bO _ (bx.mpr rfl),hx.symm,rfl⟩
 have hOl:O.length<=7:=by have:=aP bL hOn;rw[ah,bH]at this;omega
 have hBl:B.length<=6:=by simp only[B,aJ,ah,bt];omega
 obtain⟨es5,R,t6,t7,i5,hR,d5⟩:=Gq (a:=.im (.int c)) (b:=.im (.lst (N.map D.str))) (c:=.im (.lst (rooms.map D.str))) (d:=.im (.lst (B.map oU))) (x8:=.un) (x9:=.un) (x10:=.un) (x11:=.un) (x12:=.un) (x13:=.un) (B++O) es4 [] .un .un i4 (by rw[aJ];simp;omega);rw[bq]at hR;obtain⟨p,es6,i6,p0,p1,d6⟩:=qV i5 5 (by decide);obtain⟨p,rfl⟩:=cI p0;obtain⟨es7,M,t9,t10,i7,hMn,hMo,d7⟩:=Je (a:=.im (.int c)) (b:=.im (.lst (N.map D.str))) (c:=.im (.lst (rooms.map D.str))) (d:=.im (.lst (B.map oU))) (x5:=.im (.lst (R.map oU))) (x6:=t6) (x7:=t7) (x11:=.un) (x12:=.un) (x13:=.un) ((N.drop 13).take p) es6 [] .un .un i6 (by rw[bH,cR,hN.len];simp;omega);rw[bq]at d7;obtain⟨dk,es8,hdk,i8,d8⟩:=DX (a:=.im (.int c)) (b:=.im (.lst (N.map D.str))) (c:=.im (.lst (rooms.map D.str))) (d:=.im (.lst (B.map oU))) (x5:=.im (.lst (R.map oU))) (x6:=t6) (x7:=t7) (x8:=.ls (M.map mkT)) (x9:=t9) (x10:=t10) (x11:=.un) (x12:=.un) (x13:=.un) rooms es7 i7;obtain⟨T,es9,hT,hw,i9,d9⟩:=Cu (a:=.im (.int c)) (b:=.im (.lst (N.map D.str))) (c:=.im (.lst (rooms.map D.str))) (d:=.im (.lst (B.map oU))) (x5:=.im (.lst (R.map oU))) (x6:=t6) (x7:=t7) (x8:=.ls (M.map mkT)) (x9:=t9) (x10:=t10) (x11:=.im (.lst (dk.map D.str))) (x13:=.un) R es8 i8;obtain⟨g1,g2⟩:=Qe hN (aS h5) hr hq (by omega) hz hO hOn hOp (hT▸hR) hw hMn hMo hdk;refine⟨T,M,dk,y,oH (ρ:=[.im (.int c),.ls es9,.im (.lst (N.map D.str)),.im (.lst (rooms.map D.str)),.im (.lst (B.map oU)),.im (.lst (R.map oU)),t6,t7,.im (.lst (M.map mkT)),t9,t10,.im (.lst (dk.map D.str)),.im moD,.im (.lst (T.map wdD))]) rfl ?_,g1,g2⟩;unfold xp;refine(n9 (ρ':=[.im (.int c),.ls es0,.un,.un,.un,.un,.un,.un,.un,.un,.un,.un,.un,.un]) ((Eo (og (ds:=[.int c,.int 110]) rfl d0)).trans rfl)).trans ?_;refine(n9 (ρ':=[.im (.int c),.ls es1,.im (.lst (N.map D.str)),.un,.un,.un,.un,.un,.un,.un,.un,.un,.un,.un]) ((oK (rZ (es0:=es0) (es:=es0) (ds:=[]) (ρ1:=[.im (.int c),.ls es0,.un,.un,.un,.un,.un,.un,.un,.un,.un,.un,.un,.un]) rfl rfl rfl d1)).trans rfl)).trans ?_;have cutE:∀{lo hi:FO} {ρ ρ1 ρ2:aV} {l h:Option Int},cV 2 ρ=some (.lst (N.map D.str),ρ)->lo ρ=some (l,ρ1)->hi ρ1=some (h,ρ2)->uQ aq lo hi ρ=some (cutD (N.map D.str) l h,ρ2):=λ{lo hi ρ ρ1 ρ2 l h} h1 h2 h3=>by unfold uQ;simp only[h1,h2,h3]
 have addE:∀{k:Nat} {v:Nat} {n:Int} {ρ ρ1:aV},pW oj 1 (n4 (cC (.int n)) oF) ρ=some (.int v,ρ1)->oAt (c2 pO (cC (.int k)) (pW oj 1 (n4 (cC (.int n)) oF))) ρ=some (some ((k+v:Nat):Int),ρ1):=λ{k v n ρ ρ1} h=>by unfold oAt;rw[ou (g:=pO) (x:=.int k) (z:=.int ((k+v:Nat):Int)) rfl h (by show some (D.int ((k:Int)+(v:Int)))=_;congr 2)]
 refine(n9 (ρ':=[.im (.int c),.ls es2,.im (.lst (N.map D.str)),.im (.lst (rooms.map D.str)),.un,.un,.un,.un,.un,.un,.un,.un,.un,.un]) ((oK (px (cutE rfl rfl (addE (k:=1) (v:=r) (WQ d2))))).trans ?_)).trans ?_
 ·rw[M7 (1+r) (by rw[ah,hN.len];omega),<- fj];rfl
 let ρ3:List L4.D->aV:=λes=>[.im (.int c),.ls es,.im (.lst (N.map D.str)),.im (.lst (rooms.map D.str)),.un,.un,.un,.un,.un,.un,.un,.un,.un,.un];refine(n9 (ρ':=[.im (.int c),.ls es3,.im (.lst (N.map D.str)),.im (.lst (rooms.map D.str)),.im (.lst (B.map oU)),.un,.un,.un,.un,.un,.un,.un,.un,.un]) ((oK (px (ue (xs:=rooms.map λx=>oU (sC x)) (ys:=[oU ⟨y,.you,some z⟩]) (ρ1:=ρ3 es2) (ρ2:=ρ3 es3)
  (px (tQ D.str (λx=>oU (sC x)) rooms rfl (by omega) λx _=>⟨_,_,rfl,rfl,rfl⟩))
  (px (Ep (n8 (vO (ds:=[.str y,.str "you", .str z]) (n8 (ou rfl rfl (vF (j:=5) (aS h5))) (n8 rfl (n8 (ou (ρ1:=ρ3 es2) (x:=.lst (rooms.map D.str)) (y:=.int i) rfl ((rZ (i:=1) (es0:=es2) (es:=es2) (ρ1:=ρ3 es2) (ds:=[.int rooms.length]) rfl (by show some ([D.int ((rooms.map D.str).length:Nat)],_)=_;rw[ah]) rfl d3).trans rfl) (vF (aS hi))) rfl))) (by show 3<=1000;decide)) rfl) (by show 1<=1000;decide))) (by rw[ah];simp;omega)))).trans ?_)).trans ?_
 ·show some (Out.nx [.im (.int c),.ls es3,.im (.lst (N.map D.str)),.im (.lst (rooms.map D.str)),.im (.lst ((rooms.map λx=>oU (sC x))++[oU ⟨y,.you,some z⟩])),.un,.un,.un,.un,.un,.un,.un,.un,.un])=_;rw[show (rooms.map λx=>oU (sC x))++[oU ⟨y,.you,some z⟩]=B.map oU by simp only[B,aT,aF];rfl]
 refine(n9 (ρ':=[.im (.int c),.ls es3,.im (.lst (N.map D.str)),.im (.lst (rooms.map D.str)),.im (.lst (B.map oU)),.im (.lst []),.un,.un,.un,.un,.un,.un,.un,.un]) rfl).trans ?_;let ρ5:List L4.D->aV:=λes=>[.im (.int c),.ls es,.im (.lst (N.map D.str)),.im (.lst (rooms.map D.str)),.im (.lst (B.map oU)),.im (.lst []),.un,.un,.un,.un,.un,.un,.un,.un];refine(n9 ((pJ (ds:=(B++O).map oU) (ρ1:=ρ5 es4) ?_).trans d5)).trans ?_
 ·have em:BO qP 1 (n4 aq gU) (ρ5 es3)=some (.lst (O.map oU),ρ5 es4):=by
   unfold BO;show (match qP es3 [.lst (N.map D.str),.lst (rooms.map D.str)]with
    |some (d,es')=>some (d,putAt (ρ5 es3) 1 es')
    |none=>none)=_
   rw[d4];rfl
  exact(uM (px (ue (xs:=B.map oU) (ys:=O.map oU) rfl em (by rw[ah,ah];omega)))).trans (by rw[<-aT])
 refine(n9 (ρ':=[.im (.int c),.ls es5,.im (.lst (N.map D.str)),.im (.lst (rooms.map D.str)),.im (.lst (B.map oU)),.im (.lst (R.map oU)),t6,t7,.ls [],.un,.un,.un,.un,.un]) rfl).trans ?_;refine(n9 ((pJ (ds:=((N.drop 13).take p).map D.str) (ρ1:=[.im (.int c),.ls es6,.im (.lst (N.map D.str)),.im (.lst (rooms.map D.str)),.im (.lst (B.map oU)),.im (.lst (R.map oU)),t6,t7,.ls [],.un,.un,.un,.un,.un]) ?_).trans d7)).trans ?_
 ·refine(uM (px (cutE (l:=some ((13:Nat):Int)) rfl rfl (addE (k:=13) (v:=p) (WQ d6))))).trans ?_;have ec:cutD (N.map D.str) (some ((13:Nat):Int)) (some ((13+p:Nat):Int))=((N.drop 13).take p).map D.str:=by rw[Jd 13 p (by rw[ah,hN.len];omega),fj,gf]
  rw[ec]
 refine(n9 (ρ':=[.im (.int c),.ls es8,.im (.lst (N.map D.str)),.im (.lst (rooms.map D.str)),.im (.lst (B.map oU)),.im (.lst (R.map oU)),t6,t7,.ls (M.map mkT),t9,t10,.im (.lst (dk.map D.str)),.un,.un]) ((oK (px ((yV (ds:=rooms.map D.str) (ρ1:=[.im (.int c),.ls es7,.im (.lst (N.map D.str)),.im (.lst (rooms.map D.str)),.im (.lst (B.map oU)),.im (.lst (R.map oU)),t6,t7,.ls (M.map mkT),t9,t10,.un,.un,.un]) rfl (by rw[ah];omega)).trans d8))).trans rfl)).trans ?_;refine(n9 (ρ':=[.im (.int c),.ls es8,.im (.lst (N.map D.str)),.im (.lst (rooms.map D.str)),.im (.lst (B.map oU)),.im (.lst (R.map oU)),t6,t7,.ls (M.map mkT),t9,t10,.im (.lst (dk.map D.str)),.im moD,.un]) rfl).trans ?_;have hRl:R.length<=900:=by have:=hR.length_eq;rw[aJ]at this;omega
 refine(n9 (ρ':=[.im (.int c),.ls es9,.im (.lst (N.map D.str)),.im (.lst (rooms.map D.str)),.im (.lst (B.map oU)),.im (.lst (R.map oU)),t6,t7,.ls (M.map mkT),t9,t10,.im (.lst (dk.map D.str)),.im moD,.im (.lst (T.map wdD))]) ((oK (px ((yV (ds:=R.map oU) (ρ1:=[.im (.int c),.ls es8,.im (.lst (N.map D.str)),.im (.lst (rooms.map D.str)),.im (.lst (B.map oU)),.im (.lst (R.map oU)),t6,t7,.ls (M.map mkT),t9,t10,.im (.lst (dk.map D.str)),.im moD,.un]) rfl (by rw[ah];omega)).trans d9))).trans rfl)).trans ?_;refine o7 ?_;have eN:c2 dIx aq fF [.im (.int c),.ls es9,.im (.lst (N.map D.str)),.im (.lst (rooms.map D.str)),.im (.lst (B.map oU)),.im (.lst (R.map oU)),t6,t7,.im (.lst (M.map mkT)),t9,t10,.im (.lst (dk.map D.str)),.im moD,.im (.lst (T.map wdD))]=some (.str y,[.im (.int c),.ls es9,.im (.lst (N.map D.str)),.im (.lst (rooms.map D.str)),.im (.lst (B.map oU)),.im (.lst (R.map oU)),t6,t7,.im (.lst (M.map mkT)),t9,t10,.im (.lst (dk.map D.str)),.im moD,.im (.lst (T.map wdD))]):=ou rfl rfl (vF (j:=5) (aS h5));have eT:R.map oU=T.map λt=>oU t.rw:=by rw[<-hT,aF];rfl
 unfold pV;rw[<-eT];exact Qf (Gs rfl (Gs rfl (Gs rfl (Gs rfl (Gs eN rfl)))))
theorem M8:∀T:List Th,AV (T.map λt=>oU t.rw) (T.map wdD)=T.map λt=>D.tup [oU t.rw,wdD t]
 |[]=>rfl
 |t::T=>by have:=M8 T;unfold AV at this ⊢;rw[ay,ay,dW,this];rfl
theorem M9(g:Good T M dk)(hy:(T.filter λt=>decide (t.k=.you)).map Th.n=[y])(emo:qJ [TD T,MD M]=some mo):v7 [pV T M dk y]=some (.obj 14 wNs (wDs T M dk y mo)):=by
 have e:=MZ g y hy emo;have hl:=g.len;have hm:=g.m4;let sp:=pV T M dk y;refine oH (ρ:=[.im sp,.im (TD T),.im (MD M)]) rfl ?_;unfold v5;refine(n9 (ρ':=[.im sp,.im (TD T),.un]) ((oK (px (tQ (λt=>D.tup [oU t.rw,wdD t]) thD T (ρ1:=[.im sp,.un,.un]) ?_ (by omega) λt _=>⟨[.im (oU t.rw),.im (wdD t)],[.im (oU t.rw),.im (wdD t)],rfl,rfl,rfl⟩))).trans rfl)).trans ?_
 ·show some (AV (T.map λt=>oU t.rw) (T.map wdD),[Sl.im sp,.un,.un])=_;rw[M8]
 refine(n9 (ρ':=[.im sp,.im (TD T),.im (MD M)]) ((oK (px (tQ mkT mkD M (ρ1:=[.im sp,.im (TD T),.un]) rfl (by omega) λm _=>⟨[.im (.str m.n),.im (.int m.st),.im (.int m.mo)],[.im (.str m.n),.im (.int m.st),.im (.int m.mo)],rfl,rfl,rfl⟩))).trans rfl)).trans ?_;exact o7 (PN (g:=λds=>sq (ds++[])) (ds:=[TD T,MD M,.lst (dk.map D.str),.lst [],.lst [],.lst []]) rfl e)
def nmK(T:List Th)(p:Kd->Bool):aE:=(T.filter λt=>p t.k).map Th.n
abbrev kJ:=(cC (.str "rows"))
theorem of_ok(hl:T.length<=900){K:L4.D}(p:Kd->Bool)(hp:∀k:Kd,dIn false (.str k.s) K=some (.bl (p k))):pU [pV T M dk y,K]=some ((nmK T p).map D.str):=by
 let sp:=pV T M dk y;refine uP (ρ:=[.im sp,.im K]) rfl ?_;have:=rA (k:=3) (cap:=[1]) (g:=gT (oG (gN 0) (oG (gN 1) (oG (gN 2) qA))) 3) (ft:=cT (c2 (dIn false) ag az)) (fe:=cV 0) (s:=iL (c2 ph ae kJ)) (λt:Th=>oU t.rw) (λt=>D.str t.n) (λt=>p t.k) T (ρ:=[.im sp,.im K]) (ρ1:=[.im sp,.im K]) rfl (by omega) λt _=>⟨[.im (.str t.n),.im (.str t.k.s),.im (oS t.s),.im K],[.im (.str t.n),.im (.str t.k.s),.im (oS t.s),.im K],rfl,pL (ou rfl rfl (hp t.k)),λ_=>⟨_,rfl,rfl⟩,λ_=>rfl⟩
 refine sS (this.trans ?_);unfold nmK;rw[aF];rfl
theorem U9(k:Kd):dIn false (.str k.s) (.lst [.str "box"])=some (.bl (decide (k=.box))):=by cases k<;>kernel_rfl
theorem WR(k:Kd):dIn false (.str k.s) (.lst [.str "box", .str "lamp"])=some (.bl k.mk):=by cases k<;>kernel_rfl
theorem Qh(k:Kd):dIn false (.str k.s) (.lst [.str "room"])=some (.bl (decide (k=.room))):=by cases k<;>kernel_rfl
def Kd.ot:Kd->Bool
 |.plain=>true|.fixed=>true|.lamp=>true|_=>false
theorem pZ(T:List Th)(p:Kd->Bool):(nmK T p).Sublist (T.map Th.n):=List.Sublist.map _ List.filter_sublist
abbrev dcI(V:List (Str×Int)):L4.D:=.dic (V.map λq=>kS q.1) (V.map λq=>D.int q.2)
def moL(T:List Th)(M:List Mk):List (Str×Int):=((nmK T Kd.mk).map λx=>(x,(1:Int)))++M.map λm=>(m.n,m.mo)
theorem Na(g:Good T M dk):∃V:List (Str×Int),tT [pV T M dk y]=some (dcI V)/\V.map au=nmK T Kd.mk++M.map Mk.n/\(∀q∈V,1<=q.2)/\V=moL T M:=by
 have hl:=g.len;have hm:=g.m4;let sp:=pV T M dk y;have nd:(nmK T Kd.mk++M.map Mk.n).Nodup:=g.nd.sublist ((pZ T _).append (fY _));have ndk:(((nmK T Kd.mk).map kS)++M.map λm=>kS m.n).Nodup:=by have:=rN nd;rw[aT,aF]at this;exact this
 have hln:(nmK T Kd.mk).length<=200:=by have:=(pZ T Kd.mk).length_le;rw[ah]at this;omega
 obtain⟨s2,e1⟩:=tZ (g:=gN 2) (i:=1) (fk:=cV 2) (fv:=cC (.int 1)) D.str id (λ_=>D.int 1) (λks ds s=>[.im sp,.dk ks ds,s,.un,.un])
  (λx ks ds s=>⟨[.im sp,.dk ks ds,.im (.str x),.un,.un],rfl,rfl,rfl,rfl,λks' ds'=>⟨_,rfl⟩⟩) (nmK T Kd.mk) [] [] .un (by rw[bq];exact(bK.mp ndk).1) (by simp;omega) rfl
 rw[bq,bq]at e1;have gen:∀(l:List Mk) (ks:List Key) (ds:List L4.D) (a b c:Sl),(ks++l.map λm=>kS m.n).Nodup->ks.length+l.length<=1000->ds.length=ks.length->∃a' b' c',forL (gT (oG (gN 2) (oG (gN 3) (oG (gN 4) qA))) 3) (pC 1 aq aA) (l.map mkT) [.im sp,.dk ks ds,a,b,c]=some (.nx [.im sp,.dk (ks++l.map λm=>kS m.n) (ds++l.map λm=>D.int m.mo),a',b',c']):=by
  intro l
  induction l with
  |nil=>intro ks ds a b c _ _ _;exact⟨a,b,c,by rw[bS,bS,bS,bp,bp];rfl⟩
  |cons m l ih=>
   intro ks ds a b c nd hl he;rw[aI]at hl;have hn:kS m.n∉ks:=λz=>by rw[bK]at nd;exact nd.2.2 _ z _ (by rw[ay];exact aW) rfl
   obtain⟨a',b',c',h⟩:=ih (ks++[kS m.n]) (ds++[.int m.mo]) (.im (.str m.n)) (.im (.int m.st)) (.im (.int m.mo)) (by rw[bo];exact nd) (by rw[aJ,bt];omega) (by rw[aJ,aJ,he,bt,bt]);refine⟨a',b',c',?_⟩;rw[ay];unfold forL;rw[show gT (oG (gN 2) (oG (gN 3) (oG (gN 4) qA))) 3 (mkT m) [.im sp,.dk ks ds,a,b,c]=some [.im sp,.dk ks ds,.im (.str m.n),.im (.int m.st),.im (.int m.mo)] from rfl];simp only[vE (i:=1) (fk:=cV 2) (fv:=cV 4) (ρ:=[.im sp,.dk ks ds,.im (.str m.n),.im (.int m.st),.im (.int m.mo)]) (x:=m.n) (d:=.int m.mo) rfl rfl rfl hn (by omega) he];refine h.trans ?_;rw[ay,ay,bo,bo];rfl
 obtain⟨a',b',c',e2⟩:=gen M ((nmK T Kd.mk).map kS) ((nmK T Kd.mk).map λ_=>D.int 1) s2 .un .un ndk (by rw[ah];omega) (by rw[ah,ah]);let V:List (Str×Int):=((nmK T Kd.mk).map λx=>(x,(1:Int)))++M.map λm=>(m.n,m.mo);refine⟨V,oH (ρ:=[.im sp,.im (dcI V),a',b',c']) rfl ?_,?_,λq hq=>?_,rfl⟩
 ·unfold v8;refine(n9 (ρ':=[.im sp,.dk [] [],.un,.un,.un]) rfl).trans ?_;refine(n9 ((pJ (uM (px (og (n8 rfl (n8 rfl rfl)) (of_ok (by omega) Kd.mk WR))))).trans e1)).trans ?_;refine(n9 ((pJ rfl).trans e2)).trans ?_;have q1:V.map (λq=>kS q.1)=(nmK T Kd.mk).map kS++M.map λm=>kS m.n:=by simp only[V,aT,aF];rfl
  have q2:V.map (λq=>D.int q.2)=((nmK T Kd.mk).map λ_=>D.int 1)++M.map λm=>D.int m.mo:=by simp only[V,aT,aF];rfl
  unfold dcI;rw[q1,q2];rfl
 ·simp only[V,aT,aF];rw[show (au∘λx:Str=>(x,(1:Int)))=id from rfl,cX];rfl
 ·rcases cq.mp hq with h|h
  ·obtain⟨x,_,rfl⟩:=av.mp h;exact kq _
  ·obtain⟨m,h1,rfl⟩:=av.mp h;exact(g.mo m h1).1
abbrev atD(A:List (Str×Str)):L4.D:=.dic (A.map λq=>kS q.1) (A.map λq=>D.str q.2)
abbrev dkA(A:List (Str×Str)):Sl:=.dk (A.map λq=>kS q.1) (A.map λq=>D.str q.2)
theorem Nc(A:List (Str×Str))(x h:Str):Sl.dk ((A.map λq=>kS q.1)++[kS x]) ((A.map λq=>D.str q.2)++[.str h])=dkA (A++[(x,h)]):=by unfold dkA;rw[aT,aT];rfl
theorem z8:∀xs:aE,yU (xs.map D.str)=some (xs.map L3.Dq.str)
 |[]=>rfl
 |x::xs=>by rw[ay];unfold yU;rw[z8 xs];rfl
theorem EM(nd:(T.map Th.n).Nodup){u:Th}(ht:t∈T)(hu:u∈T)(e:t.n=u.n):t=u:=by
 induction T with
 |nil=>cases ht
 |cons a T ih=>
  rw[ay,ck]at nd;rcases aL.mp ht with h1|h1<;>rcases aL.mp hu with h2|h2
  ·exact h1.trans h2.symm
  ·exact ao (show a.n∈T.map Th.n from h1▸e▸cp h2) nd.1
  ·exact ao (show a.n∈T.map Th.n from h2▸e▸cp h1) nd.1
  ·exact ih nd.2 h1 h2
variable{p:Kd->Bool}
theorem Bf{x:Str}(h:x∈nmK T p):∃t∈T,t.n=x/\p t.k=true:=by obtain⟨t,h1,h2⟩:=av.mp h;obtain⟨h3,h4⟩:=bA.mp h1;exact⟨t,h3,h2,h4⟩
variable{q:Kd->Bool}
theorem Va(h:∀k,p k=true->q k=true):(nmK T p).length<=(T.filter λt=>q t.k).length:=by unfold nmK;rw[ah,<- gY,<- gY];exact lL λt _ ht=>h _ ht
structure wF(A:List (Str×Str))(y:Str):Prop where
 nd:(A.map au).Nodup
 rk:∃rk:Str->Nat,∀q∈A,rk q.2<rk q.1/\rk q.1<40
 yo:∃r,(y,r)∈A
 ln:A.length<=20
theorem Nd{α β:Type}{f:α->β}(hf:∀a b,f a=f b->a=b){l:List α}(h:l.Nodup):(l.map f).Nodup:=List.Pairwise.map f (λa b h e=>h (hf a b e)) h
abbrev Ky:=Str×Str
def prD(q:Ky×L4.D):L4.D:=.tup [.tup [.str q.1.1,.str q.1.2],q.2]
theorem Jf(a b c d:Str):dEq false (.tup [.str a,.str b]) (.tup [.str c,.str d])=some (.bl (decide ((a,b)=(c,d)))):=by have e0:BH false (.tup [.str a,.str b]) (.tup [.str c,.str d])=none:=rfl;have e1:Em false (.tup [.str a,.str b]) (.tup [.str c,.str d])=some (.bl (L3.eqD (.tup [.str a,.str b]) (.tup [.str c,.str d]))):=rfl;unfold dEq;rw[e0];simp only;rw[e1];congr 2;rw[cD];simp[L3.eqD,L3.u9]
theorem Cv(p:Sl)(k:Ky):∀(S:List (Ky×L4.D)) (s:Sl),∃s',(∃d,(k,d)∈S/\forL (gN 2) (sIf (cT (c2 (dEq false) (c2 dIx aq aQ) ag)) (oT (c2 dIx aq aN)) oV) (S.map prD) [p,.im (.tup [.str k.1,.str k.2]),s]=some (.rt d [p,.im (.tup [.str k.1,.str k.2]),s']))\/
  (k∉S.map au/\forL (gN 2) (sIf (cT (c2 (dEq false) (c2 dIx aq aQ) ag)) (oT (c2 dIx aq aN)) oV) (S.map prD) [p,.im (.tup [.str k.1,.str k.2]),s]=some (.nx [p,.im (.tup [.str k.1,.str k.2]),s']))
 |[],s=>⟨s,.inr ⟨bI,rfl⟩⟩
 |q::S,s=>by
  have ev:cT (c2 (dEq false) (c2 dIx aq aQ) ag) [p,.im (.tup [.str k.1,.str k.2]),.im (prD q)]=some (decide (q.1=k),[p,.im (.tup [.str k.1,.str k.2]),.im (prD q)]):=pL (ou (x:=.tup [.str q.1.1,.str q.1.2]) (y:=.tup [.str k.1,.str k.2]) rfl rfl (Jf _ _ _ _));rw[ay];unfold forL;rw[show gN 2 (prD q) [p,.im (.tup [.str k.1,.str k.2]),s]=some [p,.im (.tup [.str k.1,.str k.2]),.im (prD q)] from rfl];by_cases h:q.1=k
  ·rw[aZ h]at ev;refine⟨.im (prD q),.inl ⟨q.2,by rw[<-h];exact aW,?_⟩⟩;simp only[pG ev];rfl
  ·rw[aR h]at ev;obtain⟨s',h1⟩:=Cv p k S (.im (prD q));simp only[pd ev];refine⟨s',?_⟩;rcases h1 with ⟨d,h1,h2⟩|⟨h1,h2⟩
   ·exact .inl ⟨d,bj _ h1,h2⟩
   ·exact .inr ⟨λz=>by
     rw[ay]at z;rcases aL.mp z with z|z
     ·exact h z.symm
     ·exact h1 z,h2⟩
theorem Cw(S:List (Ky×L4.D))(k:Ky):(∃d,(k,d)∈S/\uw [.tup (S.map prD),.tup [.str k.1,.str k.2]]=some d)\/(k∉S.map au/\uw [.tup (S.map prD),.tup [.str k.1,.str k.2]]=some .non):=by
 obtain⟨s',h⟩:=Cv (.im (.tup (S.map prD))) k S .un;rcases h with ⟨d,h1,h2⟩|⟨h1,h2⟩
 ·refine .inl ⟨d,h1,oH rfl (pF ((pJ rfl).trans h2))⟩
 ·refine .inr ⟨h1,oH rfl ((n9 ((pJ rfl).trans h2)).trans rfl)⟩
def bas(A:List (Str×Str))(V:List (Str×Int)):List (Ky×L4.D):=(A.map λq=>((("at", q.1):Ky),D.str q.2))++V.map λq=>((("mark", q.1):Ky),D.int q.2)
theorem HJ{α:Type}(d:α):∀l:List α,(br l.length).map (λi=>l.getD i d)=l:=λl=>by
 apply List.ext_getElem
 ·rw[ah,fW]
 ·intro i h1 h2;rw[List.getElem_map,List.getElem_range,cB,aS h2];rfl
structure xx(A:List (Str×Str))(V:List (Str×Int))(S:List (Ky×L4.D)):Prop where
 i:∀q∈A,((("at", q.1):Ky),D.str q.2)∈S
 o:∀x d,((("at", x):Ky),d)∈S->∃z,d=.str z/\(x,z)∈A
 mi:∀q∈V,((("mark", q.1):Ky),D.int q.2)∈S
 mo:∀x d,((("mark", x):Ky),d)∈S->∃z,d=.int z/\(x,z)∈V
inductive Ch(A:List (Str×Str)):Str->aE->Prop
 |nil {x}:x∉A.map au->Ch A x []
 |cons {x z l}:(x,z)∈A->Ch A z l->Ch A x (z::l)
theorem xy{A:List (Str×Str)}(a:wF A y)(x:Str):∃l,Ch A x l/\l.length<=40:=by
 obtain⟨rk,hr⟩:=a.rk;have gen:∀(n:Nat) (x:Str),(x∈A.map au->rk x<n)->∃l,Ch A x l/\l.length<=n:=by
  intro n
  induction n with
  |zero=>intro x h;exact⟨[],.nil (λz=>ao (h z) (by omega)),by simp⟩
  |succ n ih=>
   intro x h;by_cases hx:x∈A.map au
   ·obtain⟨q,hq,rfl⟩:=av.mp hx;have:=h hx;obtain⟨l,h1,h2⟩:=ih q.2 λ_=>by have:=(hr q hq).1;omega
    exact⟨q.2::l,.cons hq h1,by rw[aI];omega⟩
   ·exact⟨[],.nil hx,by simp⟩
 exact gen 40 x λh=>by obtain⟨q,hq,rfl⟩:=av.mp h;exact(hr q hq).2
theorem Vb{A:List (Str×Str)}{x:Str}{l:aE}(c:Ch A x l):∀a∈l,∃q∈A,q.2=a:=by
 induction c with
 |nil _=>intro a h;cases h
 |cons h _ ih=>
  intro a ha;rcases aL.mp ha with e|ha
  ·exact⟨_,h,e.symm⟩
  ·exact ih a ha
theorem WS{A:List (Str×Str)}{rk:Str->Nat}(hr:∀q∈A,rk q.2<rk q.1){x:Str}{l:aE}(c:Ch A x l):l.Nodup/\∀a∈l,rk a<rk x:=by
 induction c with
 |nil _=>exact⟨iF,λa h=>(bI h).elim⟩
 |@cons x z l h _ ih=>
  have hz:=hr _ h;refine⟨ck.mpr ⟨λw=>ao (ih.2 z w) (by omega),ih.1⟩,λa ha=>?_⟩;rcases aL.mp ha with e|ha
  ·rw[e];exact hz
  ·have:=ih.2 a ha;have hz':rk z<rk x:=hz;omega
abbrev kL(k:Ky):aE:=[k.1,k.2]
def kD(k:Ky):L4.D:=.tup [.str k.1,.str k.2]
def Qi(ks:List aE):List aE:=(F1 (λi j=>AW (ks.getD i []) (ks.getD j [])) ks.length).map λi=>ks.getD i []
theorem getD_map{α β:Type}(f:α->β)(a:α)(b:β)(l:List α)(h:i<l.length):(l.map f).getD i b=f (l.getD i a):=by rw[cB,cB,bc,aS h];rfl
theorem Gu:∀P:List Ky,wX (P.map kD)=some (P.map kL)
 |[]=>rfl
 |q::P=>by rw[ay];unfold wX;rw[Gu P];rfl
theorem Nf(P:List Ky)(h0:0<P.length)(h1:P.length<64):∃R:List Ky,tI (P.map kD)=some (R.map kD)/\R.map kL=Qi (P.map kL):=by
 let ks:=P.map kL;let c:Nat->Nat->Bool:=λi j=>AW (ks.getD i []) (ks.getD j []);refine⟨(F1 c P.length).map λi=>P.getD i ("", ""),?_,?_⟩
 ·unfold tI;rw[Gu];simp only[ah];rw[aj ⟨h0,h1⟩,aF];congr 1;exact dA λi hi=>getD_map kD ("", "") .non P (Ba c h0 i hi)
 ·unfold Qi;rw[aF,ah];exact dA λi hi=>(getD_map kL ("", "") [] P (Ba c h0 i hi)).symm
def sv(T:List Th)(M:List Mk):List Ky:=((nmK T λk=>!decide (k=.room)).map λx=>(("at", x):Ky))++(nmK T Kd.mk++M.map Mk.n).map λx=>(("mark", x):Ky)
theorem CW(T:List Th)(M:List Mk)(hl:T.length<=200)(hM:M.length<=4):qC [TD T,MD M]=some ((nmK T Kd.mk++M.map Mk.n).map D.str):=by
 let ρ:aV:=[.im (TD T),.im (MD M)];have h:=dX (λt:Th=>t.k.mk) T;refine(uP (ρ:=ρ) rfl (sS (ue (px (rA thD (λt=>D.str t.n) (λt=>t.k.mk) T (ρ1:=ρ) rfl (by omega) λt _=>⟨[.im (thD t)],[.im (thD t)],rfl,pL (pE (xs:=[.str t.n,.tup (t.w.map D.str),.str t.k.s,oS t.s]) (ys:=[]) rfl rfl rfl rfl (EJ t)),λ_=>⟨_,pj rfl (tP t),rfl⟩,λ_=>rfl⟩))
  (px (tQ mkD (λt=>D.str t.n) M rfl (by omega) λt _=>⟨_,_,rfl,pj rfl (Be t),rfl⟩)) (by rw[ah,ah];omega)))).trans ?_
 unfold nmK;rw[aT,aF,aF];rfl
section
variable{A:List (Str×Str)}{V:List (Str×Int)}{y:Str}{T:List Th}{M:List Mk}{dk:aE}{mo:L4.D}
abbrev wO(T:List Th)(M:List Mk)(dk:aE)(y:Str)(mo:L4.D):L4.D:=.obj 14 wNs (wDs T M dk y mo)
theorem Ng(t:Th):dEq true (.str t.k.s) (.str "room")=some (.bl (!decide (t.k=.room))):=by cases t.k<;>kernel_rfl
abbrev kK:=(cC (.str "mark"))
theorem Gv(hT:T.length<=200)(hM:M.length<=4){R:List Ky}(h0:0<(sv T M).length)(h1:(sv T M).length<64)(e:tI ((sv T M).map kD)=some (R.map kD)):sY [wO T M dk y mo]=some (.lst (R.map kD)):=by
 let W:=wO T M dk y mo;let at':L4.D:=.lst ((nmK T λk=>!decide (k=.room)).map λx=>kD ("at", x));let mk':L4.D:=.lst ((nmK T Kd.mk++M.map Mk.n).map λx=>kD ("mark", x));let ρ:Sl->Sl->aV:=λp q=>[.im W,p,q];have hl1:(nmK T Kd.mk++M.map Mk.n).length<=1000:=by have:=(pZ T Kd.mk).length_le;rw[ah]at this;rw[aJ,ah];omega
 have e1:oJ 1 [] (iL (c1 (oN pX "kept_things") ae)) (gN 0) (cT (c2 (dEq true) (c1 (oN pB "kind") ae) gG)) (qm (n4 (cC (.str "at")) (n4 (c1 (oN oM "name") ae) oF))) (ρ .un .un)=some ((T.filter λt=>!decide (t.k=.room)).map λt=>kD ("at", t.n),ρ .un .un):=
  rA thD (λt=>kD ("at", t.n)) (λt=>!decide (t.k=.room)) T (ρ1:=ρ .un .un) rfl (by omega) λt _=>⟨[.im (thD t)],[.im (thD t)],rfl,pL (ou (pj rfl (wb t)) rfl (Ng t)),λ_=>⟨_,rfl,rfl⟩,λ_=>rfl⟩
 have e2:oJ 1 [] (iL (cL (oX qC (n4 (c1 (oN pX "kept_things") ae) (n4 (c1 (oN sf "kept_marks") ae) oF))))) (gN 0) pM (qm (n4 kK du)) (ρ (.im at') .un)=some ((nmK T Kd.mk++M.map Mk.n).map λx=>kD ("mark", x),ρ (.im at') .un):=
  tQ D.str (λx=>kD ("mark", x)) (nmK T Kd.mk++M.map Mk.n) (ρ1:=ρ (.im at') .un) (uM (px (og (n8 rfl (n8 rfl rfl)) (CW T M hT hM)))) hl1 λx _=>⟨[.im (.str x)],[.im (.str x)],rfl,rfl,rfl⟩
 have e3:zU (cL (rq ag aq)) (ρ (.im at') (.im mk'))=some (R.map kD,ρ (.im at') (.im mk')):=by
  have q:cL (rq ag aq) (ρ (.im at') (.im mk'))=some (.lst ((sv T M).map kD),ρ (.im at') (.im mk')):=by
   refine(px (ue (xs:=(nmK T λk=>!decide (k=.room)).map λx=>kD ("at", x)) (ys:=(nmK T Kd.mk++M.map Mk.n).map λx=>kD ("mark", x)) rfl rfl ?_)).trans ?_
   ·rw[ah,ah];have:=(pZ T λk=>!decide (k=.room)).length_le;rw[ah]at this;have h3:=(pZ T Kd.mk).length_le;rw[ah]at h3;rw[aJ,ah];omega
   ·have eq:(sv T M).map kD=((nmK T λk=>!decide (k=.room)).map λx=>kD ("at", x))++(nmK T Kd.mk++M.map Mk.n).map λx=>kD ("mark", x):=by unfold sv;generalize (nmK T Kd.mk++M.map Mk.n)=l;rw[aT,aF,aF];rfl
    rw[eq]
  unfold zU;rw[q];simp only[e]
 refine Hn (ρ:=ρ (.im at') (.im mk')) rfl ?_;refine(n9 (ρ':=ρ (.im at') .un) ((oK (px e1)).trans ?_)).trans ((n9 (ρ':=ρ (.im at') (.im mk')) ((oK (px e2)).trans rfl)).trans (sS e3));show some (Out.nx [Sl.im W,.im (.lst ((T.filter λt=>!decide (t.k=.room)).map λt=>kD ("at", t.n))),.un])=some (Out.nx [Sl.im W,.im (.lst (((T.filter λt=>!decide (t.k=.room)).map Th.n).map λx=>kD ("at", x))),.un]);rw[aF];rfl
end
theorem Nh:∀{l L:aE},l.Nodup->(∀x∈l,x∈L)->l.length<=L.length
 |[],L,_,_=>bZ _
 |a::l,L,nd,hs=>by rw[ck]at nd;have ha:=hs a aW;have:=Nh (L:=L.erase a) nd.2 λz hz=>(List.mem_erase_of_ne (show z≠a from λw=>nd.1 (w▸hz))).mpr (hs z (bj _ hz));rw[List.length_erase_of_mem ha]at this;have:=lH ha;rw[aI];omega
theorem Qj{A:List (Str×Str)}{x:Str}{l:aE}(c:Ch A x l):∀a∈(x::l).dropLast,a∈A.map au:=by
 induction c with
 |nil _=>intro a h;cases h
 |@cons x z l h c ih=>
  intro a ha;rw[List.dropLast_cons_of_ne_nil (by simp)]at ha;rcases aL.mp ha with e|ha
  ·rw[e];exact av.mpr ⟨_,h,rfl⟩
  ·exact ih a ha
theorem HK{A:List (Str×Str)}{x:Str}{l:aE}(a:wF A y)(c:Ch A x l):l.length<=A.length:=by obtain⟨rk,hr⟩:=a.rk;obtain⟨h1,h2⟩:=WS (λq hq=>(hr q hq).1) c;have nd:(x::l).Nodup:=ck.mpr ⟨λz=>ao (h2 x z) (cU _),h1⟩;have:=Nh (nd.sublist (List.dropLast_sublist _)) (Qj c);rw[List.length_dropLast,aI,ah]at this;omega
section
variable{A:List (Str×Str)}{V:List (Str×Int)}{S:List (Ky×L4.D)}{y:Str}{T:List Th}{M:List Mk}{dk:aE}{mo:L4.D}
abbrev sD(S:List (Ky×L4.D)):L4.D:=.tup (S.map prD)
theorem Jg{A:List (Str×Str)}(nd:(A.map au).Nodup){x z z':Str}(h:(x,z)∈A)(h':(x,z')∈A):z=z':=by
 induction A with
 |nil=>cases h
 |cons a A ih=>
  rw[ay,ck]at nd;rcases aL.mp h with h1|h1<;>rcases aL.mp h' with h2|h2
  ·rw[<-h1]at h2;exact(aP eJ h2).symm
  ·exact ao (show a.1∈A.map au from h1▸av.mpr ⟨_,h2,rfl⟩) nd.1
  ·exact ao (show a.1∈A.map au from h2▸av.mpr ⟨_,h1,rfl⟩) nd.1
  ·exact ih nd.2 h1 h2
theorem tf(nd:(A.map au).Nodup)(o:xx A V S){x z:Str}(h:(x,z)∈A):pH [sD S,.str x]=some (.str z):=by
 refine oH (ρ:=[.im (sD S),.im (.str x)]) rfl (o7 (og (ds:=[sD S,.tup [.str "at", .str x]]) (n8 rfl (n8 rfl rfl)) ?_));rcases Cw S ("at", x)with ⟨d,h1,h2⟩|⟨h1,h2⟩
 ·obtain⟨z',rfl,h3⟩:=o.o x d h1;rw[h2,Jg nd h3 h]
 ·exact ao (av.mpr ⟨_,o.i _ h,rfl⟩) h1
theorem we(o:xx A V S){x:Str}(h:x∉A.map au):pH [sD S,.str x]=some .non:=by
 refine oH (ρ:=[.im (sD S),.im (.str x)]) rfl (o7 (og (ds:=[sD S,.tup [.str "at", .str x]]) (n8 rfl (n8 rfl rfl)) ?_));rcases Cw S ("at", x)with ⟨d,h1,h2⟩|⟨h1,h2⟩
 ·obtain⟨z',rfl,h3⟩:=o.o x d h1;exact ao (av.mpr ⟨_,h3,rfl⟩) h
 ·exact h2
abbrev dt:=(n4 aq oF)
def xA:FS:=(oh (sIf (cT (c2 xN aq bF)) (oT bV) oV)
 (oQ 2 (oa pH (n4 ae dt))))
theorem KA(nd:(A.map au).Nodup)(o:xx A V S)(nm:Sl){x:Str}{l:aE}(c:Ch A x l):∀(rs:List L4.D) (ab:L4.D) (s3:Sl),pH [sD S,.str x]=some ab->l.length<=rs.length->∃s',forL (gN 3) xA rs [.im (sD S),nm,.im ab,s3]=some (.rt (.bl true) [.im (sD S),nm,.im .non,s'])\/forL (gN 3) xA rs [.im (sD S),nm,.im ab,s3]=some (.nx [.im (sD S),nm,.im .non,s']):=by
 induction c with
 |@nil x h=>
  intro rs ab s3 e _;rw[we o h]at e;cases e;cases rs with
  |nil=>exact⟨s3,.inr rfl⟩
  |cons r rs=>exact⟨.im r,.inl rfl⟩
 |@cons x z l h c ih=>
  intro rs ab s3 e hl;rw[tf nd o h]at e;cases e;cases rs with
  |nil=>cases hl
  |cons r rs=>
   rw[aI,aI]at hl;obtain⟨ab',e'⟩:∃ab',pH [sD S,.str z]=some ab':=by
    cases c with
    |nil h=>exact⟨_,we o h⟩
    |cons h _=>exact⟨_,tf nd o h⟩
   obtain⟨s',g⟩:=ih rs ab' (.im r) e' (by omega);refine⟨s',?_⟩;have ev:xA [.im (sD S),nm,.im (.str z),.im r]=some (.nx [.im (sD S),nm,.im ab',.im r]):=by unfold xA;exact(n9 (ρ':=[.im (sD S),nm,.im (.str z),.im r]) rfl).trans ((oK (og (n8 rfl (n8 rfl rfl)) e')).trans rfl)
   unfold forL;rw[show gN 3 r [.im (sD S),nm,.im (.str z),s3]=some [.im (sD S),nm,.im (.str z),.im r] from rfl];simp only[ev];exact g
theorem HL{n:Nat}(h:e ρ=some (.int n,ρ1))(hn:n<=1000):∃rs:List L4.D,rs.length=n/\iR1 e ρ=some (rs,ρ1):=by
 refine⟨yS 0 n,?_,?_⟩
 ·unfold yS;simp
 ·unfold iR1;rw[h];show (if -1000000<=(n:Int)/\(n:Int)<=1000000 then some (yS 0 (n:Int).toNat,ρ1)else none)=_;rw[aj ⟨by omega,by omega⟩,eU]
abbrev gS:=(n4 ae (n4 ag oF))
theorem Qk(nd:(A.map au).Nodup)(o:xx A V S){x:Str}{l:aE}(c:Ch A x l)(hl:l.length<=S.length)(hS:S.length<=900):oW [sD S,.str x]=some (.bl true):=by
 obtain⟨ab,e⟩:∃ab,pH [sD S,.str x]=some ab:=by
  cases c with
  |nil h=>exact⟨_,we o h⟩
  |cons h _=>exact⟨_,tf nd o h⟩
 let ρ:aV:=[.im (sD S),.im (.str x),.im ab,.un];obtain⟨rs,hr,er⟩:=HL (e:=c1 qh ae) (ρ:=ρ) (ρ1:=ρ) (n:=S.length) (by show some (D.int ((S.map prD).length:Nat),ρ)=_;rw[ah]) (by omega);obtain⟨s',g⟩:=KA nd o (.im (.str x)) c rs ab .un e (by omega);have e1:oQ 2 (oa pH gS) [.im (sD S),.im (.str x),.un,.un]=some (.nx ρ):=(oK (og (n8 rfl (n8 rfl rfl)) e)).trans rfl;rcases g with g|g
 ·exact oH rfl ((n9 e1).trans (pF ((pJ er).trans g)))
 ·exact oH rfl ((n9 e1).trans ((n9 ((pJ er).trans g)).trans rfl))
theorem Ni(a b:L4.D):ux [.tup [a,b]]=some (.bl true):=rfl
theorem Jh(a:Str):qw [.str a,.str a]=some (.bl true):=by refine oH (ρ:=[.im (.str a),.im (.str a)]) rfl (o7 ((pQ (ρ1:=[.im (.str a),.im (.str a)]) rfl).trans (ou (x:=.str a) (y:=.str a) rfl rfl ?_)));rw[se];simp
abbrev nS:=(n4 (c2 dIx ag aN) oF)
theorem Ql(k:Ky):vC [.tup [.str k.1,.str k.2],kD k]=some (.bl true):=by let ρ:aV:=[.im (.tup [.str k.1,.str k.2]),.im (kD k)];have e1:oa ux du ρ=some (.bl true,ρ):=og (n8 rfl rfl) (Ni _ _);have e2:oa qw (n4 (c2 dIx ae aQ) (n4 (c2 dIx ag aQ) oF)) ρ=some (.bl true,ρ):=og (ds:=[.str k.1,.str k.1]) (n8 rfl (n8 rfl rfl)) (Jh _);have e3:oa qw (n4 (c2 dIx ae aN) nS) ρ=some (.bl true,ρ):=og (ds:=[.str k.2,.str k.2]) (n8 rfl (n8 rfl rfl)) (Jh _);exact oH (ρ:=ρ) rfl (o7 ((pQ e1).trans ((pQ e2).trans e3)))
theorem EN:AH [wO T M dk y mo]=some (.str y):=rfl
theorem zz(nd:(T.map Th.n).Nodup)(ht:t∈T):vz [wO T M dk y mo,.str t.n]=some (thD t):=by refine oH (ρ:=[.im (wO T M dk y mo),.im (.str t.n)]) rfl (o7 (ou (x:=.dic (nK T) (T.map thD)) (y:=.str t.n) rfl rfl ?_));show some ((qB (nK T) (T.map thD) (kS t.n)).getD .non)=_;rw[vh (Ja nd) (d:=thD t) (by unfold nK;rw[gj];exact av.mpr ⟨t,ht,rfl⟩)];rfl
theorem Qm(t:Th):dEq false (.str t.k.s) (.str "room")=some (.bl (decide (t.k=.room))):=by cases t.k<;>kernel_rfl
theorem KB(nd:(T.map Th.n).Nodup)(ht:t∈T){x:Str}(h1:x=y->t.k=.room)(h2:t.k.hd=true):xm [wO T M dk y mo,.str x,.str t.n]=some (.bl true):=by
 let W:=wO T M dk y mo;let ρ:aV:=[.im W,.im (.str x),.im (.str t.n),.im (thD t)];have e1:oQ 3 (cIf (cT (c1 (qX (qb "str")) aq)) (o9 pA "thing_of" ae dt) bF) [.im W,.im (.str x),.im (.str t.n),.un]=some (.nx ρ):=by
  have q:cIf (cT (c1 (qX (qb "str")) aq)) (o9 pA "thing_of" ae dt) bF [.im W,.im (.str x),.im (.str t.n),.un]=some (thD t,[.im W,.im (.str x),.im (.str t.n),.un]):=by unfold cIf;show o9 pA "thing_of" ae dt [.im W,.im (.str x),.im (.str t.n),.un]=_;exact pE (m:="thing_of") (ns:=wNs) (xs:=wDs T M dk y mo) (ys:=[.str t.n]) rfl rfl rfl rfl (zz nd ht)
  exact(oK q).trans rfl
 have e2:cT (c2 (dEq false) ag (o9 sM "you" ae oF)) ρ=some (decide (x=y),ρ):=pL (ou (x:=.str x) (y:=.str y) rfl (pE (m:="you") (ns:=wNs) (xs:=wDs T M dk y mo) (ys:=[]) rfl rfl rfl rfl EN) (se false x y));by_cases e:x=y
 ·rw[aZ e]at e2;refine oH (ρ:=ρ) rfl ((n9 e1).trans ((n9 (ρ':=ρ) rfl).trans (pF ((pG e2).trans (o7 (ou (pj rfl (wb t)) rfl ?_))))));rw[Qm,aZ (h1 e)]
 ·rw[aR e]at e2;refine oH (ρ:=ρ) rfl ((n9 e1).trans ((n9 (ρ':=ρ) rfl).trans ((n9 ((pd e2).trans rfl)).trans (o7 (pE (m:="can_hold") (ns:=["name", "words", "kind", "start"]) (xs:=[.str t.n,.tup (t.w.map D.str),.str t.k.s,oS t.s]) (ys:=[]) rfl rfl rfl rfl ?_)))));rw[<-h2];exact I0 t
end
variable{m:Int}
section
variable{A:List (Str×Str)}{V:List (Str×Int)}{S:List (Ky×L4.D)}{y:Str}{T:List Th}{M:List Mk}{dk:aE}
theorem Nj(g:Good T M dk):qJ [TD T,MD M]=some (dcI (moL T M)):=by
 have hl:=g.len;have hm:=g.m4;have nd:(nmK T Kd.mk++M.map Mk.n).Nodup:=g.nd.sublist ((pZ T _).append (fY _));have ndk:(((nmK T Kd.mk).map kS)++M.map λm=>kS m.n).Nodup:=by have:=rN nd;rw[aT,aF]at this;exact this
 have hln:(nmK T Kd.mk).length<=200:=by have:=(pZ T Kd.mk).length_le;rw[ah]at this;omega
 have g1:∀(l:List Th) (ks:List Key) (ds:List L4.D) (s:Sl),(ks++(nmK l Kd.mk).map kS).Nodup->ks.length+l.length<=900->ds.length=ks.length->∃s',forL (gN 3) (sIf (cT (o9 qq "has_mark" az oF)) (pC 2 (c1 (oN oM "name") az) aN) oV) (l.map thD) [.im (TD T),.im (MD M),.dk ks ds,s,.un]=some (.nx [.im (TD T),.im (MD M),.dk (ks++(nmK l Kd.mk).map kS) (ds++(nmK l Kd.mk).map λ_=>D.int 1),s',.un]):=by
  intro l
  induction l with
  |nil=>exact λks ds s _ _ _=>⟨s,by unfold nmK;simp;rfl⟩
  |cons t l ih=>
   intro ks ds s nd hk he;rw[aI]at hk;have em:cT (o9 qq "has_mark" az oF) [.im (TD T),.im (MD M),.dk ks ds,.im (thD t),.un]=some (t.k.mk,[.im (TD T),.im (MD M),.dk ks ds,.im (thD t),.un]):=pL (pE (xs:=[.str t.n,.tup (t.w.map D.str),.str t.k.s,oS t.s]) (ys:=[]) rfl rfl rfl rfl (EJ t));cases q:t.k.mk with
   |true=>
    rw[q]at em;have e0:nmK (t::l) Kd.mk=t.n::nmK l Kd.mk:=by unfold nmK;rw[bX,q,aj rfl,ay]
    rw[e0,ay]at nd;rw[e0,ay,ay];have hn:kS t.n∉ks:=λz=>by rw[bK]at nd;exact nd.2.2 _ z _ aW rfl
    obtain⟨s',h⟩:=ih (ks++[kS t.n]) (ds++[.int 1]) (.im (thD t)) (by rw[bo];exact nd) (by rw[aJ,bt];omega) (by rw[aJ,aJ,he,bt,bt]);refine⟨s',?_⟩;rw[ay];unfold forL;rw[show gN 3 (thD t) [.im (TD T),.im (MD M),.dk ks ds,s,.un]=some [.im (TD T),.im (MD M),.dk ks ds,.im (thD t),.un] from rfl];have ev:=(pG (f:=pC 2 (c1 (oN oM "name") az) aN) (g:=oV) em).trans (vE (i:=2) (fk:=c1 (oN oM "name") az) (fv:=cC (.int 1)) (ρ:=[.im (TD T),.im (MD M),.dk ks ds,.im (thD t),.un]) (x:=t.n) (d:=.int 1) rfl rfl (pj rfl (tP t)) hn (by omega) he);simp only[ev];refine h.trans ?_;rw[bo,bo];rfl
   |false=>
    rw[q]at em;have e0:nmK (t::l) Kd.mk=nmK l Kd.mk:=by unfold nmK;rw[bX,q,ak (by decide)]
    rw[e0]at nd ⊢;obtain⟨s',h⟩:=ih ks ds (.im (thD t)) nd (by omega) he;refine⟨s',?_⟩;rw[ay];unfold forL;rw[show gN 3 (thD t) [.im (TD T),.im (MD M),.dk ks ds,s,.un]=some [.im (TD T),.im (MD M),.dk ks ds,.im (thD t),.un] from rfl];have ev:=(pd (f:=pC 2 (c1 (oN oM "name") az) aN) (g:=oV) em);simp only[ev];exact h
 obtain⟨s1,e1⟩:=g1 T [] [] .un (by rw[bq];exact(bK.mp ndk).1) (by simp;omega) rfl;rw[bq,bq]at e1;obtain⟨s2,e2⟩:=tZ (g:=gN 4) (i:=2) (fk:=c1 (oN oM "name") aA) (fv:=c1 (oN uf "most") aA) mkD Mk.n (λm=>D.int m.mo) (λks ds s=>[.im (TD T),.im (MD M),.dk ks ds,s1,s])
  (λm ks ds s=>⟨[.im (TD T),.im (MD M),.dk ks ds,s1,.im (mkD m)],rfl,pj rfl (P7 m),rfl,pj rfl (Be m),λks' ds'=>⟨_,rfl⟩⟩) M ((nmK T Kd.mk).map kS) ((nmK T Kd.mk).map λ_=>D.int 1) .un ndk (by rw[ah];omega) (by rw[ah,ah])
 refine oH (ρ:=[.im (TD T),.im (MD M),.im (dcI (moL T M)),s1,s2]) rfl ?_;unfold tL;refine(n9 (ρ':=[.im (TD T),.im (MD M),.dk [] [],.un,.un]) rfl).trans ?_;refine(n9 ((pJ rfl).trans e1)).trans ((n9 ((pJ rfl).trans e2)).trans ?_);have q1:(moL T M).map (λq=>kS q.1)=(nmK T Kd.mk).map kS++M.map λm=>kS m.n:=by simp only[moL,aT,aF];rfl
 have q2:(moL T M).map (λq=>D.int q.2)=((nmK T Kd.mk).map λ_=>D.int 1)++M.map λm=>D.int m.mo:=by simp only[moL,aT,aF];rfl
 unfold dcI;rw[q1,q2];rfl
theorem EO:(moL T M).map au=nmK T Kd.mk++M.map Mk.n:=by simp only[moL,aT,aF];rw[show (au∘λx:Str=>(x,(1:Int)))=id from rfl,cX];rfl
abbrev wM(T:List Th)(M:List Mk)(dk:aE)(y:Str):L4.D:=wO T M dk y (dcI (moL T M))
theorem HM{V:List (Str×Int)}(nv:(V.map au).Nodup){x:Str}{z:Int}(h:(x,z)∈V):qB (V.map λq=>kS q.1) (V.map λq=>D.int q.2) (kS x)=some (.int z):=
 vh (by have:=rN nv;rw[aF]at this;exact this) (by rw[gj];exact av.mpr ⟨_,h,rfl⟩)
theorem Qn(nd:(nmK T Kd.mk++M.map Mk.n).Nodup){x:Str}(h:(x,m)∈moL T M):wB [wM T M dk y,.str x]=some (.int m):=by refine oH (ρ:=[.im (wM T M dk y),.im (.str x)]) rfl (o7 (ou (x:=dcI (moL T M)) (y:=.str x) rfl rfl ?_));show some ((qB _ _ (kS x)).getD .non)=_;rw[HM (by rw[EO];exact nd) h];rfl
theorem Vc(nd:(T.map Th.n).Nodup)(ht:t∈T){x:Str}(h1:x=y->t.k=.room)(h2:t.k.hd=true):ql [wM T M dk y,kD ("at", x),.str t.n]=some (.bl true):=by let ρ:aV:=[.im (wM T M dk y),.im (kD ("at", x)),.im (.str t.n)];have e1:cT (c2 (dEq false) (c2 dIx ag aQ) kK) ρ=some (false,ρ):=pL (ou (x:=.str "at") (y:=.str "mark") rfl rfl (by kernel_rfl));exact oH (ρ:=ρ) rfl ((n9 ((pd e1).trans rfl)).trans (o7 (og (ds:=[wM T M dk y,.str x,.str t.n]) (n8 rfl (n8 rfl (n8 rfl rfl))) (KB nd ht h1 h2))))
theorem Nk{g g':L4.D->L4.D->Option L4.D}{fa fb fc:FE}{ρ3:aV}{x y z w:L4.D}(h1:fa ρ=some (x,ρ1))(h2:fb ρ1=some (y,ρ2))(q1:g x y=some (.bl true))(h3:fc ρ2=some (z,ρ3))(q2:g' y z=some w):qQ g g' fa fb fc ρ=some (w,ρ3):=by unfold qQ;rw[h1];simp only[h2,q1,h3,q2]
theorem Nl(nd:(nmK T Kd.mk++M.map Mk.n).Nodup){x:Str}{v:Int}(h:(x,m)∈moL T M)(h0:0<=v)(h1:v<=m):ql [wM T M dk y,kD ("mark", x),.int v]=some (.bl true):=by
 let ρ:aV:=[.im (wM T M dk y),.im (kD ("mark", x)),.im (.int v)];have e1:cT (c2 (dEq false) (c2 dIx ag aQ) kK) ρ=some (true,ρ):=pL (ou (x:=.str "mark") (y:=.str "mark") rfl rfl (by kernel_rfl));have e2:oa uj dt ρ=some (.bl true,ρ):=og (ds:=[.int v]) (n8 rfl rfl) rfl;have e3:o9 sX "most_of" ae nS ρ=some (.int m,ρ):=pE (m:="most_of") (ns:=wNs) (xs:=wDs T M dk y (dcI (moL T M))) (ys:=[.str x]) rfl rfl rfl rfl (Qn nd h);refine oH (ρ:=ρ) rfl (pF ((pG e1).trans (o7 ((pQ e2).trans ?_))));have q1:tH (.int 0) (.int v)=some (.bl true):=by show some (D.bl (decide ((0:Int)<=v)))=_;rw[aZ h0]
 have q2:tH (.int v) (.int m)=some (.bl true):=by show some (D.bl (decide (v<=m)))=_;rw[aZ h1]
 exact Nk (ρ1:=ρ) (ρ2:=ρ) rfl rfl q1 e3 q2
end
section
variable{A:List (Str×Str)}{V:List (Str×Int)}{S:List (Ky×L4.D)}{y:Str}{T:List Th}{M:List Mk}{dk:aE}
theorem Vd{a:FA}(h:a ρ=some ([.tup ds,.lst es],ρ1))(hl:ds.length<=es.length):iZT a ρ=some (AV ds es,ρ1):=by unfold iZT;rw[h];simp only[hl,if_true]
theorem Nn:∀S:List (Ky×L4.D),AV (S.map prD) (S.map λq=>kD q.1)=S.map λq=>D.tup [prD q,kD q.1]
 |[]=>rfl
 |q::S=>by have:=Nn S;unfold AV at this ⊢;rw[ay,ay,dW,this];rfl
abbrev nM:=(n4 ae (n4 aA (n4 (c2 dIx az aN) oF)))
abbrev nU:=(n4 (c2 dIx az aQ) jc)
def Np:FS:=(sIf (sy (p5 (cT (oa ux gU))) (sy (p5 (cT (oa vC nU))) (p5 (cT (oa ql nM))))) (oT bJ) oV)
theorem Cy(W pt:L4.D):∀(l:List (Ky×L4.D)) (s3 s4:Sl),(∀q∈l,ql [W,kD q.1,q.2]=some (.bl true))->∃s3' s4',forL (gT (oG (gN 3) (oG (gN 4) qA)) 2) Np (l.map λq=>D.tup [prD q,kD q.1]) [.im W,.im (sD S),.im pt,s3,s4]=some (.nx [.im W,.im (sD S),.im pt,s3',s4'])
 |[],s3,s4,_=>⟨s3,s4,rfl⟩
 |q::l,s3,s4,h=>by
  obtain⟨s3',s4',g⟩:=Cy W pt l (.im (prD q)) (.im (kD q.1)) λz hz=>h z (bj _ hz);refine⟨s3',s4',?_⟩;let ρ:aV:=[.im W,.im (sD S),.im pt,.im (prD q),.im (kD q.1)];have e1:p5 (cT (oa ux gU)) ρ=some (false,ρ):=sT (pL (og (ds:=[prD q]) (n8 rfl rfl) (Ni _ _)));have e2:p5 (cT (oa vC nU)) ρ=some (false,ρ):=sT (pL (og (ds:=[.tup [.str q.1.1,.str q.1.2],kD q.1]) (n8 rfl (n8 rfl rfl)) (Ql q.1)));have e3:p5 (cT (oa ql nM)) ρ=some (false,ρ):=sT (pL (og (ds:=[W,kD q.1,q.2]) (n8 rfl (n8 rfl (n8 rfl rfl))) (h q aW)));have ev:Np ρ=some (.nx ρ):=by unfold Np;exact(pd (zN e1 (zN e2 e3))).trans rfl
  rw[ay];unfold forL;rw[show gT (oG (gN 3) (oG (gN 4) qA)) 2 (D.tup [prD q,kD q.1]) [.im W,.im (sD S),.im pt,s3,s4]=some ρ from rfl];simp only[ev];exact g
theorem DY(hT:T.length<=200):yd [wO T M dk y mo]=some (.lst (T.map λt=>D.str t.n)):=by let ρ:aV:=[.im (wO T M dk y mo)];exact Hn (ρ:=ρ) rfl (sS (tQ thD (λt=>D.str t.n) T (ρ1:=ρ) rfl (by omega) λt _=>⟨[.im (thD t)],[.im (thD t)],rfl,pj rfl (tP t),rfl⟩))
abbrev gW:=(n4 ag dt)
theorem HN(hT:T.length<=200)(cr:Str->Bool)(hp:sY [wM T M dk y]=some (.lst (S.map λq=>kD q.1)))(hv:∀q∈S,ql [wM T M dk y,kD q.1,q.2]=some (.bl true))(hc:∀t∈T,oW [sD S,.str t.n]=some (.bl (cr t.n))):rK [wM T M dk y,sD S]=some (.bl (T.all λt=>cr t.n)):=by
 let W:=wM T M dk y;let pt:L4.D:=.lst (S.map λq=>kD q.1);let ρ:Sl->Sl->aV:=λa b=>[.im W,.im (sD S),.im pt,a,b];obtain⟨s3,s4,g⟩:=Cy (S:=S) W pt S .un .un hv;have e1:oQ 2 (o9 rO "parts" ae oF) [.im W,.im (sD S),.un,.un,.un]=some (.nx (ρ .un .un)):=(oK (pE (m:="parts") (ns:=wNs) (xs:=wDs T M dk y (dcI (moL T M))) (ys:=[]) rfl rfl rfl rfl hp)).trans rfl;have e2:sy (p5 (cT (c1 (qX (qb "tuple")) ag))) (cT (c2 (dEq true) (c1 qh ag) (c1 qh aq))) (ρ .un .un)=some (false,ρ .un .un):=by refine zN (ρ1:=ρ .un .un) rfl (pL (ou (x:=.int (S.map prD).length) (y:=.int (S.map λq=>kD q.1).length) rfl rfl ?_));rw[ah,ah,uE];simp
 have e3:iZT gW (ρ .un .un)=some (S.map λq=>D.tup [prD q,kD q.1],ρ .un .un):=by rw[<-Nn];exact Vd rfl (by rw[ah,ah];exact aK _)
 have e4:oJ 1 [1] (iL (o9 rb "names" ae oF)) (gN 0) pM (oa oW (n4 ag du)) (ρ s3 s4)=some (T.map λt=>D.bl (cr t.n),ρ s3 s4):=
  tQ (λt:Th=>D.str t.n) (λt=>D.bl (cr t.n)) T (ρ1:=ρ s3 s4) (uM (pE (m:="names") (ns:=wNs) (xs:=wDs T M dk y (dcI (moL T M))) (ys:=[]) rfl rfl rfl rfl (DY hT))) (by omega) λt ht=>⟨[.im (.str t.n),.im (sD S)],[.im (.str t.n),.im (sD S)],rfl,og (n8 rfl (n8 rfl rfl)) (hc t ht),rfl⟩
 refine oH (ρ:=ρ s3 s4) rfl ((n9 e1).trans ((n9 ((pd e2).trans rfl)).trans ((n9 ((pJ e3).trans g)).trans (o7 (pj (px e4) (EA T λt=>cr t.n))))))
end
section
variable{A:List (Str×Str)}{V:List (Str×Int)}{S:List (Ky×L4.D)}{y:Str}{T:List Th}{M:List Mk}{dk:aE}{R:List Ky}
abbrev nrm(T:List Th):aE:=nmK T λk=>!decide (k=.room)
abbrev mks(T:List Th)(M:List Mk):aE:=nmK T Kd.mk++M.map Mk.n
abbrev rms(T:List Th):aE:=nmK T λk=>decide (k=.room)
structure Ok(T:List Th)(M:List Mk)(y:Str)(A:List (Str×Str))(V:List (Str×Int)):Prop where
 a:wF A y
 kA:A.map au=nrm T
 hH:∀q∈A,q.2∈nmK T Kd.hd
 hY:∀r,(y,r)∈A->r∈rms T
 vn:V.map au=mks T M
 vb:∀p∈V,∃q∈moL T M,p.1=q.1/\0<=p.2/\p.2<=q.2
theorem Qo(ka:A.map au=nrm T)(vn:V.map au=mks T M):(bas A V).map au=sv T M:=by unfold bas sv;rw[aT,aF,aF,show (nmK T λk=>!decide (k=.room))=_ from ka.symm,show nmK T Kd.mk++M.map Mk.n=_ from vn.symm,aF,aF];rfl
theorem ndM(g:Good T M dk):(mks T M).Nodup:=g.nd.sublist ((pZ T _).append (fY _))
theorem ndP(g:Good T M dk):(sv T M).Nodup:=by unfold sv;rw[bK];refine⟨Nd (λa b h=>aP eJ h) (g.ndT.sublist (pZ T _)),Nd (λa b h=>aP eJ h) (ndM g),λx hx z hz e=>?_⟩;obtain⟨_,_,rfl⟩:=av.mp hx;obtain⟨_,_,rfl⟩:=av.mp hz;exact ao (aP au e) (by decide:¬(("at" : Str)="mark"))
theorem Bh(g:Good T M dk):(nrm T).length<=8:=by
 have h:∀l:List Th,(l.filter λt=>!decide (t.k=.room)).length=(l.filter λt=>decide (t.k=.you)).length+(l.filter λt=>t.k.pl).length:=by
  intro l
  induction l with
  |nil=>rfl
  |cons t l ih=>rw[bX,bX,bX];cases h:t.k<;>simp[Kd.pl,ih]<;>omega
 unfold nrm nmK;rw[ah,h,g.y1];have:=g.p7;omega
theorem ER(g:Good T M dk):(mks T M).length<=11:=by
 unfold mks;rw[aJ,ah];have h2:=Va (T:=T) (p:=Kd.mk) (q:=Kd.pl) λk h=>by cases k<;>first|rfl|cases h
 have h3:=g.p7;have h4:=g.m4;omega
theorem ES(g:Good T M dk):0<(sv T M).length/\(sv T M).length<=19:=by
 have h1:=Bh g;have h2:=ER g;unfold sv;rw[aJ,ah,ah];have:0<(nrm T).length:=by
  have:=g.y1;have h:(T.filter λt=>decide (t.k=.you))≠[]:=λz=>by rw[z]at this;cases this
  obtain⟨t,ht⟩:=List.exists_mem_of_ne_nil _ h;rw[bA]at ht;refine lH (a:=t.n) (av.mpr ⟨t,bA.mpr ⟨ht.1,?_⟩,rfl⟩);rw[bz ht.2];rfl
 exact⟨by unfold nrm at this;omega,by unfold nrm at h1;unfold mks at h2;omega⟩
theorem Qp{l m:List Ky}(h:(l.map kL).Perm (m.map kL)):l.Perm m:=by
 have inv:∀l:List Ky,(l.map kL).map (λz=>((z.getD 0 "", z.getD 1 ""):Ky))=l:=λl=>by
  rw[aF];have:((λz:aE=>((z.getD 0 "", z.getD 1 ""):Ky))∘kL)=id:=by funext q;rfl
  rw[this,cX]
 have:=h.map (λz=>((z.getD 0 "", z.getD 1 ""):Ky));rw[inv,inv]at this;exact this
theorem Qq(g:Good T M dk):∃R:List Ky,R.Perm (sv T M)/\tI ((sv T M).map kD)=some (R.map kD)/\R.map kL=Qi ((sv T M).map kL):=by obtain⟨h0,h1⟩:=ES g;obtain⟨R,er,eR⟩:=Nf (sv T M) h0 (by omega);refine⟨R,Qp ?_,er,eR⟩;rw[eR];unfold Qi;have p:=(zR (λi j=>AW (((sv T M).map kL).getD i []) (((sv T M).map kL).getD j [])) (n:=((sv T M).map kL).length) (by rw[ah];exact h0)).map λi=>((sv T M).map kL).getD i [];rw[HJ]at p;exact p
structure Std(T:List Th)(M:List Mk)(R:List Ky)(y:Str)(A:List (Str×Str))(V:List (Str×Int))(S:List (Ky×L4.D)):Prop where
 ok:Ok T M y A V
 p:S.Perm (bas A V)
 e:S.map au=R
theorem Ji(p:S.Perm (bas A V)):xx A V S:=by
 refine⟨λq hq=>p.mem_iff.mpr (bT _ (av.mpr ⟨q,hq,rfl⟩)),λx d h=>?_,λq hq=>p.mem_iff.mpr (bO _ (av.mpr ⟨q,hq,rfl⟩)),λx d h=>?_⟩
 ·rcases cq.mp (p.mem_iff.mp h)with h|h
  ·obtain⟨q,hq,e⟩:=av.mp h;cases e;exact⟨_,rfl,hq⟩
  ·obtain⟨q,hq,e⟩:=av.mp h;exact ao (aP (λz=>z.1.1) e) (by decide:¬(("mark" : Str)="at"))
 ·rcases cq.mp (p.mem_iff.mp h)with h|h
  ·obtain⟨q,hq,e⟩:=av.mp h;exact ao (aP (λz=>z.1.1) e) (by decide:¬(("at" : Str)="mark"))
  ·obtain⟨q,hq,e⟩:=av.mp h;cases e;exact⟨_,rfl,hq⟩
theorem Std.o(s:Std T M R y A V S):xx A V S:=Ji s.p
theorem Std.len(g:Good T M dk)(s:Std T M R y A V S):S.length=A.length+V.length/\A.length<=8/\V.length<=11:=by have h1:=aP bL s.ok.kA;have h2:=aP bL s.ok.vn;rw[ah]at h1 h2;have h3:=Bh g;have h4:=ER g;refine⟨?_,by omega,by omega⟩;rw[s.p.length_eq];unfold bas;rw[aJ,ah,ah]
theorem Q1(g:Good T M dk)(eR:tI ((sv T M).map kD)=some (R.map kD))(p:S.Perm (bas A V))(e:S.map au=R)(hH:∀q∈A,q.2∈nmK T Kd.hd)(hY:∀r,(y,r)∈A->r∈rms T)(vb:∀p∈V,∃q∈moL T M,p.1=q.1/\0<=p.2/\p.2<=q.2)(cr:Str->Bool)(hc:∀t∈T,oW [sD S,.str t.n]=some (.bl (cr t.n))):rK [wM T M dk y,sD S]=some (.bl (T.all λt=>cr t.n)):=by
 obtain⟨h0,h1⟩:=ES g;have hp:sY [wM T M dk y]=some (.lst (S.map λq=>kD q.1)):=by have:=Gv (y:=y) (dk:=dk) (mo:=dcI (moL T M)) g.len g.m4 h0 (by omega) eR;rw[<-e,aF]at this;exact this
 have hv:∀q∈S,ql [wM T M dk y,kD q.1,q.2]=some (.bl true):=λq hq=>by
  rcases cq.mp (p.mem_iff.mp hq)with h|h
  ·obtain⟨b,hb,rfl⟩:=av.mp h;obtain⟨t,t1,t2,t3⟩:=Bf (hH b hb);show ql [wM T M dk y,kD ("at", b.1),.str b.2]=_;rw[<-t2];refine Vc g.ndT t1 (λe=>?_) t3;have:=hY b.2 (by rw[<-e];exact hb);obtain⟨u,u1,u2,u3⟩:=Bf this;have:=EM g.ndT u1 t1 (u2.trans t2.symm);subst this;exact bz u3
  ·obtain⟨b,hb,rfl⟩:=av.mp h;obtain⟨m,m1,m2,m3,m4⟩:=vb b hb;exact Nl (ndM g) (m:=m.2) (by rw[m2];exact m1) m3 m4
 exact HN g.len cr hp hv hc
theorem Std.is(g:Good T M dk)(eR:tI ((sv T M).map kD)=some (R.map kD))(s:Std T M R y A V S):rK [wM T M dk y,sD S]=some (.bl true):=by
 obtain⟨l1,l2,l3⟩:=s.len g;have z:=Q1 g eR s.p s.e s.ok.hH s.ok.hY s.ok.vb (λ_=>true) λt ht=>by obtain⟨l,hc,_⟩:=xy s.ok.a t.n;exact Qk s.ok.a.nd s.o hc (by have:=HK s.ok.a hc;omega) (by omega)
 rw[show (T.all λt=>(λ_:Str=>true) t.n)=true by simp]at z;exact z
end
def upS(k:Ky)(v:L4.D)(S:List (Ky×L4.D)):List (Ky×L4.D):=S.map λq=>if q.1=k then (k,v)else q
theorem ET(k:Ky)(v:L4.D)(S:List (Ky×L4.D)):(upS k v S).map au=S.map au:=by
 unfold upS;rw[aF];refine dA λq _=>?_;show (if q.1=k then (k,v)else q).1=q.1;split
 ·rename_i e;exact e.symm
 ·rfl
theorem EU(S:List (Ky×L4.D))(hl:S.length<=900)(k:Ky)(v:L4.D):tE [sD S,kD k,v]=some (sD (upS k v S)):=by
 let ρ:aV:=[.im (sD S),.im (kD k),.im v];refine oH (ρ:=ρ) rfl (o7 ?_);have c:=tQ (k:=1) (cap:=[1,2]) (g:=gN 0) (fe:=cIf (cT (c2 (dEq false) (c2 dIx ae aQ) ag)) (qm gW) ae) (s:=iT ae) (ρ:=ρ) (ρ1:=ρ) prD (λq=>prD (if q.1=k then (k,v)else q)) S rfl (by omega) λq _=>by
  let ρ2:aV:=[.im (prD q),.im (kD k),.im v];have et:cT (c2 (dEq false) (c2 dIx ae aQ) ag) ρ2=some (decide (q.1=k),ρ2):=pL (ou (x:=kD q.1) (y:=kD k) (ou (x:=prD q) (y:=.int 0) rfl rfl rfl) rfl (Jf _ _ _ _));refine⟨ρ2,ρ2,rfl,?_,rfl⟩;unfold cIf;rw[et];by_cases h:q.1=k
  ·rw[aZ h,aj h];rfl
  ·rw[aR h,ak h];rfl
 have e:Ah (cL (oJ 1 [1,2] (iT ae) (gN 0) pM (cIf (cT (c2 (dEq false) (c2 dIx ae aQ) ag)) (qm gW) ae))) ρ=some (sD (upS k v S),ρ):=by unfold Ah;rw[px c];unfold upS;rw[sD,aF];rfl
 exact e
variable{lz:aE}
section
variable{A:List (Str×Str)}{V:List (Str×Int)}{S:List (Ky×L4.D)}{y:Str}{T:List Th}{M:List Mk}{dk:aE}{R:List Ky}
def upA(x v:Str)(A:List (Str×Str)):List (Str×Str):=A.map λq=>if q.1=x then (x,v)else q
def upV(x:Str)(v:Int)(V:List (Str×Int)):List (Str×Int):=V.map λq=>if q.1=x then (x,v)else q
theorem yG{α:Type}(x:Str)(v:α)(A:List (Str×α)):(A.map λq=>if q.1=x then (x,v)else q).map au=A.map au:=by
 rw[aF];refine dA λq _=>?_;show (if q.1=x then (x,v)else q).1=q.1;split
 ·rename_i e;exact e.symm
 ·rfl
theorem Nq{α:Type}{x:Str}{v:α}{A:List (Str×α)}(h:x∈A.map au):(x,v)∈A.map λq=>if q.1=x then (x,v)else q:=by obtain⟨q,hq,e⟩:=av.mp h;exact av.mpr ⟨q,hq,aj e⟩
theorem HP{α:Type}{x:Str}{v:α}{A:List (Str×α)}{q:Str×α}(h:q∈A)(e:q.1≠x):q∈A.map λq=>if q.1=x then (x,v)else q:=av.mpr ⟨q,h,ak e⟩
theorem Gw{α:Type}{x:Str}{v:α}{A:List (Str×α)}{q:Str×α}(h:q∈A.map λq=>if q.1=x then (x,v)else q):(q∈A/\q.1≠x)\/q=(x,v):=by
 obtain⟨p,hp,e⟩:=av.mp h;split at e
 ·exact .inr e.symm
 ·rename_i n;subst e;exact .inl ⟨hp,n⟩
theorem Qr{x z:Str}{w:Str}{l:aE}(c:Ch A w l):w≠x->x∉l->Ch (upA x z A) w l:=by
 induction c with
 |nil h=>intro _ _;refine .nil ?_;unfold upA;rw[yG];exact h
 |cons h c ih=>intro n m;rw[aL,not_or]at m;exact .cons (HP h n) (ih (λe=>m.1 e.symm) m.2)
theorem Ve(nd:(A.map au).Nodup){w:Str}{l l':aE}(c:Ch A w l):Ch A w l'->l=l':=by
 induction c generalizing l' with
 |nil h=>
  intro c';cases c' with
  |nil _=>rfl
  |cons h' _=>exact ao (av.mpr ⟨_,h',rfl⟩) h
 |cons h c ih=>
  intro c';cases c' with
  |nil h'=>exact ao (av.mpr ⟨_,h,rfl⟩) h'
  |cons h' c'=>have:=Jg nd h h';subst this;rw[ih c']
theorem wF.put(a:wF A y)(hl:A.length<=8){x z:Str}(hx:x∈A.map au)(c:Ch A z lz)(hz:z≠x)(hn:x∉lz):wF (upA x z A) y:=by
 have nd':((upA x z A).map au).Nodup:=by unfold upA;rw[yG];exact a.nd
 have cz:Ch (upA x z A) z lz:=Qr c hz hn;have l1:=HK a c;have all:∀{u:Str} {l:aE},Ch A u l->∃l',Ch (upA x z A) u l'/\l'.length<=l.length+1+lz.length:=λ{u l} cu=>by
  induction cu with
  |nil h=>exact⟨[],.nil (by unfold upA;rw[yG];exact h),by simp⟩
  |@cons u w l h cw ih=>
   by_cases e:u=x
   ·subst e;exact⟨z::lz,.cons (Nq hx) cz,by rw[aI];omega⟩
   ·obtain⟨l',h1,h2⟩:=ih;exact⟨w::l',.cons (HP h e) h1,by rw[aI,aI];omega⟩
 have ex:∀u,∃l',Ch (upA x z A) u l'/\l'.length<=17:=λu=>by obtain⟨l,cu,_⟩:=xy a u;obtain⟨l',h1,h2⟩:=all cu;have:=HK a cu;exact⟨l',h1,by omega⟩
 refine⟨nd',⟨λu=>(fZ (ex u)).length,λq hq=>?_⟩,?_,?_⟩
 ·obtain⟨h1,h2⟩:=ic (ex q.1);obtain⟨h3,h4⟩:=ic (ex q.2);have e:=Ve nd' h1 (.cons (show (q.1,q.2)∈upA x z A from hq) h3);have e':=aP bL e;rw[aI]at e';show (fZ (ex q.2)).length<(fZ (ex q.1)).length/\(fZ (ex q.1)).length<40;exact⟨by omega,by omega⟩
 ·obtain⟨r,hr⟩:=a.yo;have:y∈(upA x z A).map au:=by unfold upA;rw[yG];exact av.mpr ⟨_,hr,rfl⟩
  obtain⟨q,hq,e⟩:=av.mp this;exact⟨q.2,by rw[<-e];exact hq⟩
 ·unfold upA;rw[ah];exact a.ln
theorem Nr(x z:Str)(A:List (Str×Str))(V:List (Str×Int)):upS ("at", x) (.str z) (bas A V)=bas (upA x z A) V:=by
 unfold upS bas upA;rw[aT,aF,aF,aF];congr 1
 ·refine dA λq _=>?_;show (if (("at", q.1):Ky)=(("at", x):Ky)then ((("at", x):Ky),D.str z)else _)=_;by_cases e:q.1=x
  ·rw[aj (by rw[e])];show _=((("at", (if q.1=x then (x,z)else q).1):Ky),D.str (if q.1=x then (x,z)else q).2);rw[aj e]
  ·rw[ak (λh=>e (aP eJ h))];show _=((("at", (if q.1=x then (x,z)else q).1):Ky),D.str (if q.1=x then (x,z)else q).2);rw[ak e]
theorem Nt(x:Str)(n:Int)(A:List (Str×Str))(V:List (Str×Int)):upS ("mark", x) (.int n) (bas A V)=bas A (upV x n V):=by
 unfold upS bas upV;rw[aT,aF,aF,aF];congr 1
 ·refine dA λq _=>?_;show (if (("mark", q.1):Ky)=(("mark", x):Ky)then ((("mark", x):Ky),D.int n)else _)=_;by_cases e:q.1=x
  ·rw[aj (by rw[e])];show _=((("mark", (if q.1=x then (x,n)else q).1):Ky),D.int (if q.1=x then (x,n)else q).2);rw[aj e]
  ·rw[ak (λh=>e (aP eJ h))];show _=((("mark", (if q.1=x then (x,n)else q).1):Ky),D.int (if q.1=x then (x,n)else q).2);rw[ak e]
theorem Std.putA(g:Good T M dk)(s:Std T M R y A V S){x z:Str}(hx:x∈nrm T)(hz:z∈nmK T Kd.hd)(hy:x=y->z∈rms T)(c:Ch A z lz)(h1:z≠x)(h2:x∉lz):Std T M R y (upA x z A) V (upS ("at", x) (.str z) S) where
 ok:=⟨s.ok.a.put (s.len g).2.1 (by rw[s.ok.kA];exact hx) c h1 h2,by unfold upA;rw[yG];exact s.ok.kA,λq hq=>by
   rcases Gw hq with h|rfl
   ·exact s.ok.hH q h.1
   ·exact hz,λr hr=>by
   rcases Gw hr with h|h
   ·exact s.ok.hY r h.1
   ·cases h;exact hy rfl,s.ok.vn,s.ok.vb⟩
 p:=by rw[<-Nr];exact s.p.map _
 e:=by rw[ET];exact s.e
theorem Std.putV(s:Std T M R y A V S){x:Str}{n:Int}(hm:(x,m)∈moL T M)(h0:0<=n)(h1:n<=m):Std T M R y A (upV x n V) (upS ("mark", x) (.int n) S) where
 ok:=⟨s.ok.a,s.ok.kA,s.ok.hH,s.ok.hY,by unfold upV;rw[yG];exact s.ok.vn,λp hp=>by
  rcases Gw hp with h|rfl
  ·exact s.ok.vb p h.1
  ·exact⟨_,hm,rfl,h0,h1⟩⟩
 p:=by rw[<-Nt];exact s.p.map _
 e:=by rw[ET];exact s.e
end
section
variable{A B:List (Str×Str)}{V:List (Str×Int)}{S:List (Ky×L4.D)}{y:Str}{T:List Th}{M:List Mk}{dk:aE}{R:List Ky}
def stM(M:List Mk):List (Str×Int):=M.map λm=>(m.n,m.st)
def A0(T:List Th):List (Str×Str):=(T.filter λt=>!decide (t.k=.room)).map λt=>(t.n,t.s.getD "")
def V0(T:List Th)(M:List Mk):List (Str×Int):=((nmK T Kd.mk).map λx=>(x,(0:Int)))++stM M
theorem EV:uL [wM T M dk y]=some (MD M):=rfl
theorem KC(g:Good T M dk):vX [wM T M dk y]=some (dcI (stM M)):=by
 let W:=wM T M dk y;have nd:((M.map λm=>kS m.n)).Nodup:=by have:=rN (bK.mp g.nd).2.1;rw[aF]at this;exact this
 have hm:=g.m4;obtain⟨s',e⟩:=tZ (g:=gN 2) (i:=1) (fk:=c1 (oN oM "name") aq) (fv:=c1 (oN pN "start") aq) mkD Mk.n (λm=>D.int m.st) (λks ds s=>[.im W,.dk ks ds,s])
  (λm ks ds s=>⟨[.im W,.dk ks ds,.im (mkD m)],rfl,rfl,rfl,rfl,λks' ds'=>⟨_,rfl⟩⟩) M [] [] .un (by rw[bq];exact nd) (by simp;omega) rfl
 rw[bq,bq]at e;refine oH (ρ:=[.im W,.im (dcI (stM M)),s']) rfl ?_;refine(n9 (ρ':=[.im W,.dk [] [],.un]) rfl).trans ?_;refine(n9 ((pJ (ds:=M.map mkD) (ρ1:=[.im W,.dk [] [],.un]) ?_).trans e)).trans ?_
 ·exact uM (pE (m:="own_marks") (ns:=wNs) (xs:=wDs T M dk y (dcI (moL T M))) (ys:=[]) rfl rfl rfl rfl EV)
 ·unfold stM dcI;rw[aF,aF];rfl
theorem Nu(g:Good T M dk)(ht:t∈T)(st:L4.D):qO [wM T M dk y,st,kD ("at", t.n)]=some (oS t.s):=by let ρ:aV:=[.im (wM T M dk y),.im st,.im (kD ("at", t.n))];refine oH (ρ:=ρ) rfl (pF ((pG (ρ':=ρ) (pL (ou (x:=.str "at") (y:=.str "at") rfl rfl (by rw[se];rfl)))).trans (o7 (pj (pE (m:="thing_of") (ns:=wNs) (xs:=wDs T M dk y (dcI (moL T M))) (ys:=[.str t.n]) rfl rfl rfl rfl (zz g.ndT ht)) (Bd t)))))
theorem HQ(x:Str)(U:List (Str×Int)):qO [wM T M dk y,dcI U,kD ("mark", x)]=some ((qB (U.map λq=>kS q.1) (U.map λq=>D.int q.2) (kS x)).getD (.int 0)):=by let ρ:aV:=[.im (wM T M dk y),.im (dcI U),.im (kD ("mark", x))];refine oH (ρ:=ρ) rfl ((n9 (ρ':=ρ) ((pd (ρ':=ρ) (pL (ou (x:=.str "mark") (y:=.str "at") rfl rfl (by rw[se];rfl)))).trans rfl)).trans rfl)
theorem yH:(A0 T).map au=nrm T:=by unfold A0 nrm nmK;rw[aF];rfl
theorem Nv:(V0 T M).map au=mks T M:=by unfold V0 stM mks;rw[aT,aF,aF];rw[show (au∘λx:Str=>(x,(0:Int)))=id from rfl,cX];rfl
theorem len_T(g:Good T M dk):T.length<=13:=by
 have h:∀l:List Th,l.length=(l.filter λt=>decide (t.k=.room)).length+(l.filter λt=>decide (t.k=.you)).length+(l.filter λt=>t.k.pl).length:=by
  intro l
  induction l with
  |nil=>rfl
  |cons t l ih=>rw[bX,bX,bX,aI,ih];cases h:t.k<;>simp[Kd.pl]<;>omega
 rw[h];have h1:=g.r5;have h2:=g.y1;have h3:=g.p7;omega
theorem CA{q:Str×Str}(g:Good T M dk)(h:q∈A0 T):∃t∈T,t.n=q.1/\t.s=some q.2/\t.k≠.room/\wc T t:=by
 obtain⟨t,ht,rfl⟩:=av.mp h;rw[bA]at ht;have nr:t.k≠.room:=λz=>by rw[z]at ht;exact ao ht.2 (by decide)
 have so:=g.st t ht.1;refine⟨t,ht.1,rfl,?_,nr,so⟩;have so':=so;unfold wc at so';cases e:t.s with
 |some p=>rfl
 |none=>rw[e]at so';cases k:t.k<;>rw[k]at so' nr<;>first|exact ao rfl nr|exact so'.elim
theorem ok0(g:Good T M dk)(hy:(T.filter λt=>decide (t.k=.you)).map Th.n=[y]):Ok T M y (A0 T) (V0 T M):=by
 obtain⟨r,hr⟩:=g.rk;have lT:=len_T g;have hyT:∀t∈T,t.n=y->t.k=.you:=λt ht e=>by
  have:y∈(T.filter λt=>decide (t.k=.you)).map Th.n:=by rw[hy];exact bx.mpr rfl
  obtain⟨u,hu,e2⟩:=av.mp this;rw[bA]at hu;rw[EM g.ndT ht hu.1 (e.trans e2.symm)];exact bz hu.2
 refine⟨⟨by rw[yH];exact g.ndT.sublist (pZ T _),⟨r,λq hq=>?_⟩,?_,?_⟩,yH,λq hq=>?_,λz hz=>?_,Nv,λp hp=>?_⟩
 ·obtain⟨t,h1,h2,h3,_⟩:=CA g hq;obtain⟨h4,h5⟩:=hr t h1;rw[<-h2];exact⟨(h5 _ h3).1,by omega⟩
 ·have:y∈(A0 T).map au:=by
   rw[yH];have:y∈(T.filter λt=>decide (t.k=.you)).map Th.n:=by rw[hy];exact bx.mpr rfl
   obtain⟨u,hu,e2⟩:=av.mp this;rw[bA]at hu;exact av.mpr ⟨u,bA.mpr ⟨hu.1,by rw[bz hu.2];rfl⟩,e2⟩
  obtain⟨q,hq,e⟩:=av.mp this;exact⟨q.2,by rw[<-e];exact hq⟩
 ·have:=aP bL (yH (T:=T));rw[ah]at this;have:=Bh g;omega
 ·obtain⟨t,h1,h2,h3,h4,h5⟩:=CA g hq;unfold wc at h5;rw[h3]at h5;have rh:q.2∈rmN T->q.2∈nmK T Kd.hd:=λh=>by obtain⟨u,hu,e⟩:=av.mp h;rw[bA]at hu;exact av.mpr ⟨u,bA.mpr ⟨hu.1,by rw[bz hu.2];rfl⟩,e⟩
  cases k:t.k<;>rw[k]at h5 h4<;>first|exact ao rfl h4|exact rh h5|exact h5
 ·obtain⟨t,h1,h2,h3,h4,h5⟩:=CA g hz;have k:=hyT t h1 h2;unfold wc at h5;rw[h3,k]at h5;exact h5
 ·unfold V0 at hp;rcases cq.mp hp with h|h
  ·obtain⟨x,hx,rfl⟩:=av.mp h;exact⟨(x,1),bT _ (av.mpr ⟨x,hx,rfl⟩),rfl,kq _,(by decide:(0:Int)<=1)⟩
  ·obtain⟨m,hm,rfl⟩:=av.mp h;have:=g.mo m hm;exact⟨(m.n,m.mo),bO _ (av.mpr ⟨m,hm,rfl⟩),rfl,this.2.2.1,this.2.2.2⟩
def fvL(l:List (Ky×L4.D))(k:Ky):L4.D:=((l.find? λq=>decide (q.1=k)).map eJ).getD .non
theorem zA:∀{l:List (Ky×L4.D)},(l.map au).Nodup->∀{k d},(k,d)∈l->fvL l k=d
 |q::l,nd,k,d,h=>by
  rw[ay,ck]at nd;unfold fvL;rw[c8];rcases aL.mp h with e|h
  ·subst e;rw[aZ rfl];rfl
  ·rw[aR (λz=>nd.1 (by rw[z];exact av.mpr ⟨_,h,rfl⟩))];exact zA nd.2 h
abbrev kR:=(n4 ag (n4 aq du))
theorem Nw(g:Good T M dk)(hy:(T.filter λt=>decide (t.k=.you)).map Th.n=[y])(pR:R.Perm (sv T M))(eR:tI ((sv T M).map kD)=some (R.map kD)):∃S,uZ [wM T M dk y]=some (sD S)/\Std T M R y (A0 T) (V0 T M) S:=by
 let b:=bas (A0 T) (V0 T M);have bf:b.map au=sv T M:=Qo yH Nv;have nb:(b.map au).Nodup:=by rw[bf];exact ndP g
 let S:List (Ky×L4.D):=R.map λk=>(k,fvL b k);have eb:(sv T M).map (λk=>(k,fvL b k))=b:=by rw[<-bf,aF];refine(dA λq hq=>?_).trans (cX b);show (q.1,fvL b q.1)=q;rw[zA nb (show (q.1,q.2)∈b from hq)]
 refine⟨S,?_,⟨ok0 g hy,by have h:=pR.map (λk=>(k,fvL b k));rw[eb]at h;exact h,by show (R.map _).map _=R;rw[aF];exact cX R⟩⟩;let W:=wM T M dk y;let st:=dcI (stM M);obtain⟨h0,h1⟩:=ES g;have lR:=pR.length_eq;have val:∀k∈R,qO [W,st,kD k]=some (fvL b k):=λk hk=>by
  have hk':=pR.mem_iff.mp hk;rcases cq.mp hk' with h|h
  ·obtain⟨x,hx,rfl⟩:=av.mp h;have hxa:x∈(A0 T).map au:=by rw[yH];exact hx
   obtain⟨q,hq,rfl⟩:=av.mp hxa;obtain⟨t,t1,t2,t3,_⟩:=CA g hq;rw[zA nb (bT _ (av.mpr ⟨q,hq,rfl⟩)),<- t2,Nu g t1,t3];rfl
  ·obtain⟨x,hx,rfl⟩:=av.mp h;rw[HQ];have ndm:((stM M).map λq=>kS q.1).Nodup:=by have:=rN (bK.mp g.nd).2.1;unfold stM;rw[aF]at this ⊢;exact this
   rcases cq.mp hx with hx|hx
   ·rw[zA nb (bO _ (av.mpr ⟨(x,0),bT _ (av.mpr ⟨x,hx,rfl⟩),rfl⟩)),zS ?_]
    ·rfl
    ·intro z;obtain⟨q,hq,e⟩:=av.mp z;obtain⟨m,hm,rfl⟩:=av.mp hq;have e':m.n=x:=iI e;exact(bK.mp g.nd).2.2 _ ((pZ T _).mem hx) _ (av.mpr ⟨m,hm,rfl⟩) e'.symm
   ·obtain⟨m,hm,rfl⟩:=av.mp hx;rw[zA nb (bO _ (av.mpr ⟨(m.n,m.st),bO _ (av.mpr ⟨m,hm,rfl⟩),rfl⟩)),vh ndm (by rw[gj];exact av.mpr ⟨(m.n,m.st),av.mpr ⟨m,hm,rfl⟩,rfl⟩)];rfl
 let ρ:aV:=[.im W,.im st];refine oH (ρ:=ρ) rfl ((n9 (ρ':=ρ) ((oK (og (n8 rfl rfl) (KC g))).trans rfl)).trans (o7 ?_));have c:=tQ (k:=1) (cap:=[0,1]) (g:=gN 0) (fe:=qm (n4 ae (n4 (oa qO kR) oF))) (s:=iL (o9 rO "parts" ae oF)) (ρ:=ρ) (ρ1:=ρ) kD (λk=>prD (k,fvL b k)) R
  (uM (pE (m:="parts") (ns:=wNs) (xs:=wDs T M dk y (dcI (moL T M))) (ys:=[]) rfl rfl rfl rfl (Gv g.len g.m4 h0 (by omega) eR))) (by omega) λk hk=>⟨[.im (kD k),.im W,.im st],[.im (kD k),.im W,.im st],rfl,vO (n8 rfl (n8 (og (n8 rfl (n8 rfl (n8 rfl rfl))) (val k hk)) rfl)) (show 2<=1000 by decide),rfl⟩
 unfold Ah;rw[px c];show some (D.tup (R.map λk=>prD (k,fvL b k)),ρ)=some (D.tup ((R.map λk=>(k,fvL b k)).map prD),ρ);rw[aF];rfl
end
section
variable{A:List (Str×Str)}{V:List (Str×Int)}{S:List (Ky×L4.D)}{y:Str}{T:List Th}{M:List Mk}{dk:aE}
theorem Nx(nd:(A.map au).Nodup)(o:xx A V S)(x:Str):pH [sD S,.str x]=some .non\/∃z,pH [sD S,.str x]=some (.str z):=by
 by_cases h:x∈A.map au
 ·obtain⟨q,hq,rfl⟩:=av.mp h;exact .inr ⟨q.2,tf nd o (z:=q.2) hq⟩
 ·exact .inl (we o h)
theorem Gx(nd:(A.map au).Nodup)(o:xx A V S)(nm:Sl):∀(rs:List L4.D) (ab:L4.D) (s3:Sl),(ab=.non\/∃z,ab=.str z)->∃s' ab',(ab'=.non\/∃z,ab'=.str z)/\(forL (gN 3) xA rs [.im (sD S),nm,.im ab,s3]=some (.rt (.bl true) [.im (sD S),nm,.im ab',s'])\/forL (gN 3) xA rs [.im (sD S),nm,.im ab,s3]=some (.nx [.im (sD S),nm,.im ab',s']))
 |[],ab,s3,h=>⟨s3,ab,h,.inr rfl⟩
 |r::rs,ab,s3,h=>by
  rcases h with rfl|⟨z,rfl⟩
  ·exact⟨.im r,.non,.inl rfl,.inl rfl⟩
  ·obtain⟨ab',e'⟩:∃ab',pH [sD S,.str z]=some ab'/\(ab'=.non\/∃z,ab'=.str z):=by
    rcases Nx nd o z with e|⟨z',e⟩
    ·exact⟨_,e,.inl rfl⟩
    ·exact⟨_,e,.inr ⟨z',rfl⟩⟩
   obtain⟨s',ab2,g0,g⟩:=Gx nd o nm rs ab' (.im r) e'.2;refine⟨s',ab2,g0,?_⟩;have ev:xA [.im (sD S),nm,.im (.str z),.im r]=some (.nx [.im (sD S),nm,.im ab',.im r]):=by unfold xA;exact(n9 (ρ':=[.im (sD S),nm,.im (.str z),.im r]) rfl).trans ((oK (og (n8 rfl (n8 rfl rfl)) e'.1)).trans rfl)
   unfold forL;rw[show gN 3 r [.im (sD S),nm,.im (.str z),s3]=some [.im (sD S),nm,.im (.str z),.im r] from rfl];simp only[ev];exact g
theorem Ny(nd:(A.map au).Nodup)(o:xx A V S)(hS:S.length<=900)(x:Str):∃b,oW [sD S,.str x]=some (.bl b):=by
 obtain⟨ab,e,hab⟩:∃ab,pH [sD S,.str x]=some ab/\(ab=.non\/∃z,ab=.str z):=by
  rcases Nx nd o x with e|⟨z',e⟩
  ·exact⟨_,e,.inl rfl⟩
  ·exact⟨_,e,.inr ⟨z',rfl⟩⟩
 let ρ:aV:=[.im (sD S),.im (.str x),.im ab,.un];obtain⟨rs,hr,er⟩:=HL (e:=c1 qh ae) (ρ:=ρ) (ρ1:=ρ) (n:=S.length) (by show some (D.int ((S.map prD).length:Nat),ρ)=_;rw[ah]) (by omega);obtain⟨s',ab',g0,g⟩:=Gx nd o (.im (.str x)) rs ab .un hab;have e1:oQ 2 (oa pH gS) [.im (sD S),.im (.str x),.un,.un]=some (.nx ρ):=(oK (og (n8 rfl (n8 rfl rfl)) e)).trans rfl;rcases g with g|g
 ·exact⟨_,oH rfl ((n9 e1).trans (pF ((pJ er).trans g)))⟩
 ·rcases g0 with rfl|⟨z,rfl⟩
  ·exact⟨true,oH rfl ((n9 e1).trans ((n9 ((pJ er).trans g)).trans rfl))⟩
  ·exact⟨false,oH rfl ((n9 e1).trans ((n9 ((pJ er).trans g)).trans rfl))⟩
theorem DZ(nd:(A.map au).Nodup)(o:xx A V S)(C:aE)(hC:∀x∈C,∃z∈C,(x,z)∈A)(nm:Sl):∀(rs:List L4.D) (z:Str) (s3:Sl),z∈C->∃s' z',forL (gN 3) xA rs [.im (sD S),nm,.im (.str z),s3]=some (.nx [.im (sD S),nm,.im (.str z'),s'])
 |[],z,s3,_=>⟨s3,z,rfl⟩
 |r::rs,z,s3,h=>by
  obtain⟨z1,h1,h2⟩:=hC z h;obtain⟨s',z',g⟩:=DZ nd o C hC nm rs z1 (.im r) h1;refine⟨s',z',?_⟩;have ev:xA [.im (sD S),nm,.im (.str z),.im r]=some (.nx [.im (sD S),nm,.im (.str z1),.im r]):=by unfold xA;exact(n9 (ρ':=[.im (sD S),nm,.im (.str z),.im r]) rfl).trans ((oK (og (n8 rfl (n8 rfl rfl)) (tf nd o h2))).trans rfl)
  unfold forL;rw[show gN 3 r [.im (sD S),nm,.im (.str z),s3]=some [.im (sD S),nm,.im (.str z),.im r] from rfl];simp only[ev];exact g
theorem KD(nd:(A.map au).Nodup)(o:xx A V S)(hS:S.length<=900)(C:aE)(hC:∀x∈C,∃z∈C,(x,z)∈A){x:Str}(hx:x∈C):oW [sD S,.str x]=some (.bl false):=by obtain⟨z,hz,h⟩:=hC x hx;have e:=tf nd o h;let ρ:aV:=[.im (sD S),.im (.str x),.im (.str z),.un];obtain⟨rs,hr,er⟩:=HL (e:=c1 qh ae) (ρ:=ρ) (ρ1:=ρ) (n:=S.length) (by show some (D.int ((S.map prD).length:Nat),ρ)=_;rw[ah]) (by omega);obtain⟨s',z',g⟩:=DZ nd o C hC (.im (.str x)) rs z .un hz;have e1:oQ 2 (oa pH gS) [.im (sD S),.im (.str x),.un,.un]=some (.nx ρ):=(oK (og (n8 rfl (n8 rfl rfl)) e)).trans rfl;exact oH rfl ((n9 e1).trans ((n9 ((pJ er).trans g)).trans rfl))
end
variable{sh:Str->Bool}
section
variable{A:List (Str×Str)}{V:List (Str×Int)}{S:List (Ky×L4.D)}{y:Str}
abbrev kQ:=(n4 ag jc)
theorem KE(a:wF A y)(o:xx A V S)(w nm:Sl){x:Str}{l:aE}(c:Ch A x l):∀(n:Nat) (hs:List L4.D) (ab:L4.D),pH [sD S,.str x]=some ab->l.length<n->hs.length+l.length<=1000->
  whL (cT (c2 Dp aA bF)) (oh (o6 (uc 3 aA)) (oQ 4 (oa pH kQ))) n [w,.im (sD S),nm,.ls hs,.im ab]=some (.nx [w,.im (sD S),nm,.ls (hs++l.map D.str),.im .non]):=by
 induction c with
 |@nil x h=>
  intro n hs ab e hn _;rw[we o h]at e;cases e;cases n with
  |zero=>cases hn
  |succ n=>rw[bS,bp];rfl
 |@cons x z l h c ih=>
  intro n hs ab e hn hl;rw[tf a.nd o h]at e;cases e;rw[aI]at hn hl;cases n with
  |zero=>cases hn
  |succ n=>
   obtain⟨ab',e'⟩:∃ab',pH [sD S,.str z]=some ab':=by
    cases c with
    |nil h=>exact⟨_,we o h⟩
    |cons h _=>exact⟨_,tf a.nd o h⟩
   have ev:oh (o6 (uc 3 aA)) (oQ 4 (oa pH kQ)) [w,.im (sD S),nm,.ls hs,.im (.str z)]=some (.nx [w,.im (sD S),nm,.ls (hs++[.str z]),.im ab']):=by refine(n9 (ρ':=[w,.im (sD S),nm,.ls (hs++[.str z]),.im (.str z)]) (pT ((wQ (es:=hs) rfl rfl rfl (by omega)).trans rfl))).trans ?_;exact(oK (og (n8 rfl (n8 rfl rfl)) e')).trans rfl
   rw[ay];unfold whL;rw[show cT (c2 Dp aA bF) [w,.im (sD S),nm,.ls hs,.im (.str z)]=some (true,[w,.im (sD S),nm,.ls hs,.im (.str z)]) from rfl];simp only[ev];refine(ih n (hs++[.str z]) ab' e' (by omega) (by rw[aJ,bt];omega)).trans ?_;rw[bo];rfl
theorem Jj(a:wF A y)(o:xx A V S)(w:L4.D){x:Str}{l:aE}(c:Ch A x l)(hl:l.length<=40):tS [w,sD S,.str x]=some (l.map D.str):=by
 obtain⟨ab,e⟩:∃ab,pH [sD S,.str x]=some ab:=by
  cases c with
  |nil h=>exact⟨_,we o h⟩
  |cons h _=>exact⟨_,tf a.nd o h⟩
 refine uP (ρ:=[.im w,.im (sD S),.im (.str x),.un,.im .non]) rfl ?_;refine(n9 (ρ':=[.im w,.im (sD S),.im (.str x),.ls [],.un]) rfl).trans ?_;refine(n9 (ρ':=[.im w,.im (sD S),.im (.str x),.ls [],.im ab]) ((oK (og (n8 rfl (n8 rfl rfl)) e)).trans rfl)).trans ?_;exact(n9 (KE a o (.im w) (.im (.str x)) c 50 [] ab e (by omega) (by simp;omega))).trans rfl
theorem ndk(a:wF A y):(A.map λq=>kS q.1).Nodup:=by have:=rN a.nd;rw[aF]at this;exact this
theorem zB(a:wF A y){x z:Str}(h:(x,z)∈A):qB (A.map λq=>kS q.1) (A.map λq=>D.str q.2) (kS x)=some (.str z):=
 vh (ndk a) (by rw[gj];exact av.mpr ⟨_,h,rfl⟩)
theorem Qs{x:Str}(h:x∉A.map au):qB (A.map λq=>kS q.1) (A.map λq=>D.str q.2) (kS x)=none:=
 zS λz=>by obtain⟨q,h1,h2⟩:=av.mp z;exact h (av.mpr ⟨q,h1,by injection h2⟩)
theorem NA(a:wF A y){x:Str}{l:aE}(c:Ch A x l):∀(n:Nat) (hs:List L4.D),l.length<n->hs.length+l.length<=1000->∃x',
  whL (cT (c2 (Es false) ag ae)) (oh (oQ 1 (c2 ph ae ag)) (o6 (uc 2 ag))) n [.im (atD A),.im (.str x),.ls hs]=some (.nx [.im (atD A),x',.ls (hs++l.map D.str)]):=by
 induction c with
 |@nil x h=>
  intro n hs hn _;cases n with
  |zero=>cases hn
  |succ n=>have ev:cT (c2 (Es false) ag ae) [.im (atD A),.im (.str x),.ls hs]=some (false,[.im (atD A),.im (.str x),.ls hs]):=pL (ou (x:=.str x) (y:=atD A) rfl rfl (by show some (D.bl (qB _ _ (kS x)).isSome)=_;rw[Qs h];rfl));unfold whL;rw[ev];exact⟨_,by rw[bS,bp]⟩
 |@cons x z l h c ih=>
  intro n hs hn hl;rw[aI]at hn hl;cases n with
  |zero=>cases hn
  |succ n=>
   have ev:cT (c2 (Es false) ag ae) [.im (atD A),.im (.str x),.ls hs]=some (true,[.im (atD A),.im (.str x),.ls hs]):=pL (ou (x:=.str x) (y:=atD A) rfl rfl (by show some (D.bl (qB _ _ (kS x)).isSome)=_;rw[zB a h];rfl));have eb:oh (oQ 1 (c2 ph ae ag)) (o6 (uc 2 ag)) [.im (atD A),.im (.str x),.ls hs]=some (.nx [.im (atD A),.im (.str z),.ls (hs++[.str z])]):=by refine(n9 (ρ':=[.im (atD A),.im (.str z),.ls hs]) ((oK (ou (x:=atD A) (y:=.str x) rfl rfl (zB a h))).trans rfl)).trans ?_;exact pT ((wQ (es:=hs) rfl rfl rfl (by omega)).trans rfl)
   obtain⟨x',e⟩:=ih n (hs++[.str z]) (by omega) (by rw[aJ,bt];omega);refine⟨x',?_⟩;unfold whL;rw[ev];simp only[eb];rw[e,bo];rfl
theorem HR(a:wF A y){x:Str}{l:aE}(c:Ch A x l)(hl:l.length<=40):pS [atD A,.str x]=some (l.map D.str):=by obtain⟨x',e⟩:=NA a c 50 [] (by omega) (by simp;omega);refine uP (ρ:=[.im (atD A),x',.un]) rfl ?_;refine(n9 (ρ':=[.im (atD A),.im (.str x),.ls []]) rfl).trans ?_;exact(n9 e).trans rfl
theorem NB(b:Bool):tU [.bl b,.bl b]=some (.bl true):=by cases b<;>kernel_rfl
theorem EW{V:List (Str×Int)}(nd:(V.map au).Nodup){x:Str}{z z':Int}(h:(x,z)∈V)(h':(x,z')∈V):z=z':=by
 induction V with
 |nil=>cases h
 |cons a V ih=>
  rw[ay,ck]at nd;rcases aL.mp h with h1|h1<;>rcases aL.mp h' with h2|h2
  ·rw[<-h1]at h2;exact(aP eJ h2).symm
  ·exact ao (show a.1∈V.map au from h1▸av.mpr ⟨_,h2,rfl⟩) nd.1
  ·exact ao (show a.1∈V.map au from h2▸av.mpr ⟨_,h1,rfl⟩) nd.1
  ·exact ih nd.2 h1 h2
theorem Jk(nv:(V.map au).Nodup)(o:xx A V S){x:Str}{z:Int}(h:(x,z)∈V):vA [sD S,.str x]=some (.int z):=by
 refine oH (ρ:=[.im (sD S),.im (.str x)]) rfl (o7 (og (ds:=[sD S,.tup [.str "mark", .str x]]) (n8 rfl (n8 rfl rfl)) ?_));rcases Cw S ("mark", x)with ⟨d,h1,h2⟩|⟨h1,h2⟩
 ·obtain⟨z',rfl,h3⟩:=o.mo x d h1;rw[h2,EW nv h3 h]
 ·exact ao (av.mpr ⟨_,o.mi _ h,rfl⟩) h1
section
variable{T:List Th}{M:List Mk}{dk:aE}{mo:L4.D}
def shB(T:List Th)(V:List (Str×Int))(x:Str):Bool:=decide (x∈nmK T λk=>decide (k=.box))&&decide ((x,0)∈V)
theorem Jl(nd:(T.map Th.n).Nodup)(ht:t∈T):t.n∈(nmK T λk=>decide (k=.box)) ↔ t.k=.box:=by
 constructor
 ·intro h;obtain⟨u,h1,h2,h3⟩:=Bf h;have:=EM nd h1 ht h2;subst this;exact bz h3
 ·intro h;exact av.mpr ⟨t,bA.mpr ⟨ht,aZ h⟩,rfl⟩
theorem NC(t:Th):dEq false (.str t.k.s) (.str "box")=some (.bl (decide (t.k=.box))):=by cases t.k<;>kernel_rfl
theorem WT(nv:(V.map au).Nodup){x:Str}{z:Int}(h:(x,z)∈V):decide ((x,0)∈V)=decide (z=0):=by
 rw[cD,bu,bu];constructor
 ·intro h';exact EW nv h h'
 ·intro e;rw[<-e];exact h
theorem xB{e':FE}(h1:e ρ=some (.bl false,ρ1)):qz e e' ρ=some (.bl false,ρ1):=by unfold qz;rw[h1]
theorem Qt(nd:(T.map Th.n).Nodup)(nv:(V.map au).Nodup)(hv:∀x∈(nmK T λk=>decide (k=.box)),∃z,(x,z)∈V)(o:xx A V S)(ht:t∈T):rP [wO T M dk y mo,sD S,.str t.n]=some (.bl (shB T V t.n)):=by
 let ρ:aV:=[.im (wO T M dk y mo),.im (sD S),.im (.str t.n)];have e1:c2 (dEq false) (c1 (oN pB "kind") (o9 pA "thing_of" ae dt)) eO ρ=some (.bl (decide (t.k=.box)),ρ):=
  ou (pj (pE (m:="thing_of") (ns:=wNs) (xs:=wDs T M dk y mo) (ys:=[.str t.n]) rfl rfl rfl rfl (zz nd ht)) (wb t)) rfl (NC t)
 refine oH (ρ:=ρ) rfl (o7 ?_);unfold shB;by_cases h:t.k=.box
 ·have hb:=(Jl nd ht).mpr h;obtain⟨z,hz⟩:=hv _ hb;rw[aZ h]at e1;rw[aZ hb,WT nv hz];refine(pQ e1).trans (ou (og (n8 rfl (n8 rfl rfl)) (Jk nv o hz)) rfl ?_);rw[uE];rfl
 ·rw[aR h]at e1;rw[aR λz=>h ((Jl nd ht).mp z)];exact xB e1
def opn(sh:Str->Bool)(h:Str):aE->Bool
 |[]=>false
 |a::l=>if a=h then true else if sh a then false else opn sh h l
theorem xC{h:Str}{l:aE}:opn sh h (a::l)=if a=h then true else if sh a then false else opn sh h l:=rfl
theorem Vf{sh:Str->Bool}{h:Str}{r:aE}:∀{p:aE},h∉p->opn sh h (p++h::r)=p.all λa=>!sh a
 |[],_=>by rw[bq,xC,aj rfl];rfl
 |a::p,hh=>by rw[List.cons_append,xC,ak (show ¬a=h from λe=>hh (e▸aW)),Vf λz=>hh (bj _ z),de];cases sh a<;>rfl
theorem ND{sh:Str->Bool}{h:Str}:∀{p:aE},h∉p->opn sh h p=false
 |[],_=>rfl
 |a::p,hh=>by rw[xC,ak (show ¬a=h from λe=>hh (e▸aW)),ND λz=>hh (bj _ z)];cases sh a<;>rfl
abbrev kU:=(n4 ae kQ)
theorem D1{w st x:L4.D}{sh:Str->Bool}(h:Str):∀(l:aE) (s:Sl),(∀a∈l,rP [w,st,.str a]=some (.bl (sh a)))->∃s',forL (gN 4) (oh (sIf (cT (c2 (dEq false) aA az)) (oT bV) oV)
 (sIf (cT (oa rP kU)) (oT bJ) oV)) (l.map D.str) [.im w,.im st,.im x,.im (.str h),s]=some (.rt (.bl (opn sh h l)) [.im w,.im st,.im x,.im (.str h),s'])\/(opn sh h l=false/\forL (gN 4) (oh (sIf (cT (c2 (dEq false) aA az)) (oT bV) oV)
 (sIf (cT (oa rP kU)) (oT bJ) oV)) (l.map D.str) [.im w,.im st,.im x,.im (.str h),s]=some (.nx [.im w,.im st,.im x,.im (.str h),s']))
 |[],s,_=>⟨s,.inr ⟨rfl,rfl⟩⟩
 |a::l,s,hh=>by
  let ρ:aV:=[.im w,.im st,.im x,.im (.str h),.im (.str a)];have e1:cT (c2 (dEq false) aA az) ρ=some (decide (a=h),ρ):=pL (ou (x:=.str a) (y:=.str h) rfl rfl (se false a h));have e2:cT (oa rP kU) ρ=some (sh a,ρ):=pL (og (n8 rfl (n8 rfl (n8 rfl rfl))) (hh a aW));rw[ay];unfold forL;rw[show gN 4 (.str a) [.im w,.im st,.im x,.im (.str h),s]=some ρ from rfl];rw[xC];by_cases h1:a=h
  ·rw[aZ h1]at e1;rw[aj h1];refine⟨.im (.str a),.inl ?_⟩;have e3:∀f:FS,oh (sIf (cT (c2 (dEq false) aA az)) (oT bV) oV) f ρ=some (.rt (.bl true) ρ):=λf=>pF ((pG e1).trans rfl);simp only[e3];rfl
  ·rw[aR h1]at e1;rw[ak h1];have e3:∀f:FS,oh (sIf (cT (c2 (dEq false) aA az)) (oT bV) oV) f ρ=f ρ:=λf=>n9 ((pd e1).trans rfl);simp only[e3];cases q:sh a with
   |true=>rw[q]at e2;refine⟨.im (.str a),.inl ?_⟩;simp only[(pG e2).trans (rfl:oT bJ ρ=some (.rt (.bl false) ρ)),if_true];rfl
   |false=>rw[q]at e2;obtain⟨s',g⟩:=D1 (w:=w) (st:=st) (x:=x) (sh:=sh) h l (.im (.str a)) λb hb=>hh b (bj _ hb);refine⟨s',?_⟩;simp only[(pd e2).trans (rfl:oV ρ=some (.nx ρ)),ee,if_false];exact g
theorem Qu(a:wF A y)(o:xx A V S){w:L4.D}{x h:Str}{l:aE}(c:Ch A x l)(hl:l.length<=40)(hh:∀a∈l,rP [w,sD S,.str a]=some (.bl (sh a))):rQ [w,sD S,.str x,.str h]=some (.bl (opn sh h l)):=by
 obtain⟨s',g⟩:=D1 (w:=w) (st:=sD S) (x:=.str x) (sh:=sh) h l .un hh;have e0:=px (og (a:=n4 ae gW) (ρ:=[.im w,.im (sD S),.im (.str x),.im (.str h),.un]) (n8 rfl (n8 rfl (n8 rfl rfl))) (Jj a o w c hl));rcases g with g|⟨g0,g⟩
 ·exact oH rfl (pF ((pJ (uM e0)).trans g))
 ·rw[g0];exact oH rfl ((n9 ((pJ (uM e0)).trans g)).trans rfl)
end
end
theorem Qv(ns:List Int)(k:Nat):∃c,uy [.fzl (ns.map D.int),.int k]=some (.int c):=by
 let ρ:aV:=[.im (.fzl (ns.map D.int)),.im (.int k)];have ev:cT (c2 Fv ag (c1 qh ae)) ρ=some (decide ((k:Int)<((ns.map D.int).length:Nat)),ρ):=rfl;rw[ah]at ev;by_cases h:k<ns.length
 ·rw[aZ (by omega)]at ev;refine⟨ns[k],oH (ρ:=ρ) rfl (pF ((pG ev).trans (o7 (ou (x:=.fzl (ns.map D.int)) (y:=.int k) rfl rfl ?_))))⟩;exact Ih (by rw[bc,aS h];rfl)
 ·rw[aR (by omega)]at ev;exact⟨0,oH (ρ:=ρ) rfl ((n9 ((pd ev).trans rfl)).trans rfl)⟩
theorem eq_nil(neg:Bool)(l:aE):dEq neg (.lst (l.map D.str)) (.lst [])=some (.bl (if neg then !l.isEmpty else l.isEmpty)):=by
 cases l with
 |nil=>cases neg<;>kernel_rfl
 |cons x xs=>
  have e0:BH neg (.lst ((x::xs).map D.str)) (.lst [])=none:=rfl;have e1:toD (.lst ((x::xs).map D.str))=some (.lst ((x::xs).map L3.Dq.str)):=by unfold toD;rw[z8]
  have e3:dpt (.lst ((x::xs).map L3.Dq.str))=1:=by rw[dpt,zH]
  unfold dEq;rw[e0];show Em neg _ _=_;unfold Em;rw[e1,show toD (.lst [])=some (.lst []) from rfl];show (if Il (.lst ((x::xs).map L3.Dq.str)) (.lst [])&&decide (dpt (.lst ((x::xs).map L3.Dq.str))<=20)&&decide (dpt (.lst [])<=20)then some (D.bl (if neg then !(eqD (.lst ((x::xs).map L3.Dq.str)) (.lst []))else eqD (.lst ((x::xs).map L3.Dq.str)) (.lst [])))else none)=_;rw[e3];cases neg<;>rfl
theorem z9:∀l:aE,xW (l.map D.str)=some l
 |[]=>rfl
 |x::l=>by rw[ay];unfold xW;rw[z9 l]
theorem Gy{sh:Str->Bool}{h:Str}:∀{l:aE},h∈l->opn sh h l=(l.take (l.idxOf h)).all λa=>!sh a
 |[],hh=>(bI hh).elim
 |a::l,hh=>by
  rw[xC];by_cases e:a=h
  ·subst e;rw[aj rfl,List.idxOf_cons_self];rfl
  ·have hl:h∈l:=by
    rcases aL.mp hh with z|z
    ·exact ao z.symm e
    ·exact z
   have hb:(a==h)=false:=by simpa using e
   rw[ak e,mU,hb,cond_false,List.take_succ_cons,de,Gy hl];cases sh a<;>rfl
section
variable{A:List (Str×Str)}{V:List (Str×Int)}{S:List (Ky×L4.D)}{y:Str}{T:List Th}{M:List Mk}{dk:aE}{mo:L4.D}
abbrev bxs(T:List Th):aE:=nmK T λk=>decide (k=.box)
abbrev lms(T:List Th):aE:=nmK T λk=>decide (k=.lamp)
theorem Qw(k:Kd):dIn false (.str k.s) (.lst [.str "lamp"])=some (.bl (decide (k=.lamp))):=by cases k<;>kernel_rfl
theorem NF(nv:(V.map au).Nodup){x:Str}{z:Int}(k:Int)(h:(x,z)∈V):decide ((x,k)∈V)=decide (z=k):=by
 rw[cD,bu,bu];constructor
 ·intro h';exact EW nv h h'
 ·intro e;rw[<-e];exact h
theorem GA(nv:(V.map au).Nodup)(hT:T.length<=200)(p:Kd->Bool){K:L4.D}(hp:∀k:Kd,dIn false (.str k.s) K=some (.bl (p k)))(hk:fk ρ=some (K,ρ))(h0:ρ[0]?=some (.im (pV T M dk y)))(h2:ρ[2]?=some (.im (dcI V)))(hv:∀x∈nmK T p,∃z,(x,z)∈V)(k:Int)
  (hc:xM 1 [2] ρ=[.un,.im (dcI V)]) (hu:rl [2] [.im (dcI V)] ρ=some ρ) (hq:cV 0 ρ=some (pV T M dk y,ρ)):
  oJ 1 [2] (iL (cL (oX pU (n4 ae (n4 fk oF))))) (gN 0) (cT (c2 (dEq false) (c2 ph ag ae) (cC (.int k)))) ae ρ=some (((nmK T p).filter λb=>decide ((b,k)∈V)).map D.str,ρ):=by
 have hl:(nmK T p).length<=1000:=by have:=(pZ T p).length_le;rw[ah]at this;omega
 refine rA D.str D.str (λb=>decide ((b,k)∈V)) (nmK T p) (ρ1:=ρ) (uM (px (og (n8 hq (n8 hk rfl)) (of_ok (by omega) p hp)))) hl λb hb=>?_;obtain⟨z,hz⟩:=hv b hb;refine⟨[.im (.str b),.im (dcI V)],[.im (.str b),.im (dcI V)],by rw[hc];rfl,pL (ou (x:=.int z) (ou (x:=dcI V) (y:=.str b) rfl rfl (HM nv hz)) rfl ?_),λ_=>⟨_,rfl,hu⟩,λ_=>hu⟩;rw[uE,NF nv k hz];rfl
theorem Vg(b:Str):decide (b∈(bxs T).filter λb=>decide ((b,0)∈V))=shB T V b:=by unfold shB;rw[cD,bu,bA,aY,bu,bu]
theorem NG(hT:T.length<=200)(a:wF A y)(nv:(V.map au).Nodup)(hv:∀x∈bxs T,∃z,(x,z)∈V){x h:Str}{l:aE}(c:Ch A x l)(hl:l.length<=40):pe [pV T M dk y,atD A,dcI V,.str x,.str h]=some (.bl (opn (shB T V) h l)):=by
 let sp:=pV T M dk y;let ρ:Sl->Sl->aV:=λp q=>[.im sp,.im (atD A),.im (dcI V),.im (.str x),.im (.str h),p,q];let al:Sl:=.im (.lst (l.map D.str));have e1:oQ 5 (cL (oX pS (n4 ag gU))) (ρ .un .un)=some (.nx (ρ al .un)):=(oK (px (og (n8 rfl (n8 rfl rfl)) (HR a c hl)))).trans rfl;have e2:cT (c2 (dIn true) aA aO) (ρ al .un)=some (!decide (h∈l),ρ al .un):=pL (ou (x:=.str h) (y:=.lst (l.map D.str)) rfl rfl (rD true h l));by_cases hh:h∈l
 ·rw[aZ hh]at e2;let sl:Sl:=.im (.lst (((bxs T).filter λb=>decide ((b,0)∈V)).map D.str));have e3:=GA (T:=T) (M:=M) (dk:=dk) (y:=y) (V:=V) nv hT (λk=>decide (k=.box)) U9 (fk:=cL (pb (n4 eO oF))) (ρ:=ρ al .un) rfl rfl rfl hv 0 rfl rfl rfl;have e4:uQ aO oNo (oAt (c2 sU aO aA)) (ρ al sl)=some ((l.take (l.idxOf h)).map D.str,ρ al sl):=by
   have i1:c2 sU aO aA (ρ al sl)=some (.int (l.idxOf h:Nat),ρ al sl):=ou (x:=.lst (l.map D.str)) (y:=.str h) rfl rfl (by
    unfold sU;simp only[z9];rw[aj ⟨hh,by omega⟩])
   have i2:oAt (c2 sU aO aA) (ρ al sl)=some (some ((l.idxOf h:Nat):Int),ρ al sl):=by unfold oAt;rw[i1]
   have i3:cutD (l.map D.str) none (some ((l.idxOf h:Nat):Int))=(l.take (l.idxOf h)).map D.str:=by unfold cutD;rw[HT.Bo,HT.yL,ng,Nat.sub_zero,ah,fg (eF (lu.mpr hh)),fj]
   show (match oAt (c2 sU aO aA) (ρ al sl)with
    |some (h,ρ3)=>some (cutD (l.map D.str) none h,ρ3)
    |none=>none)=_
   rw[i2];show some (cutD (l.map D.str) none (some ((l.idxOf h:Nat):Int)),ρ al sl)=_;rw[i3]
  have e5:oJ 1 [6] (iL (cL (uQ aO oNo (oAt (c2 sU aO aA))))) (gN 0) (cT (c2 (dIn false) ae ag)) ae (ρ al sl)=some (((l.take (l.idxOf h)).filter λb=>shB T V b).map D.str,ρ al sl):=by refine rA D.str D.str (λb=>shB T V b) (l.take (l.idxOf h)) (ρ1:=ρ al sl) (uM (px e4)) (by rw[bH];omega) λb _=>⟨[.im (.str b),sl],[.im (.str b),sl],rfl,pL (ou (x:=.str b) (y:=.lst (((bxs T).filter λb=>decide ((b,0)∈V)).map D.str)) rfl rfl ?_),λ_=>⟨_,rfl,rfl⟩,λ_=>rfl⟩;rw[rD,<- Vg];rfl
  refine oH (ρ:=ρ al sl) rfl ((n9 e1).trans ((n9 ((pd e2).trans rfl)).trans ((n9 (ρ':=ρ al sl) ((oK (px e3)).trans rfl)).trans (o7 (ou (px e5) (y:=.lst []) rfl ?_)))));rw[eq_nil,Gy hh];congr 2
  induction l.take (l.idxOf h)with
  |nil=>rfl
  |cons b r ih=>
   rw[bX,de];cases shB T V b
   ·exact ih
   ·rfl
 ·rw[aR hh]at e2;rw[ND hh];exact oH rfl ((n9 e1).trans (pF ((pG e2).trans rfl)))
end
structure Sit(T:List Th)(A:List (Str×Str))(V:List (Str×Int))(S:List (Ky×L4.D))(y r:Str):Prop where
 nd:(T.map Th.n).Nodup
 hT:T.length<=200
 p7:(T.filter λt=>t.k.pl).length<=7
 a:wF A y
 pn:∀q∈A,q.2∈T.map Th.n
 nv:(V.map au).Nodup
 hv:∀x∈nmK T Kd.mk,∃z,(x,z)∈V
 o:xx A V S
 hr:(y,r)∈A
section
variable{A:List (Str×Str)}{V:List (Str×Int)}{S:List (Ky×L4.D)}{y r:Str}{T:List Th}{M:List Mk}{dk:aE}{mo:L4.D}
def lf(a:wF A y)(x:Str):aE:=fZ (xy a x)
theorem KF(a:wF A y)(x:Str):Ch A x (lf a x):=(ic (xy a x)).1
theorem NH(a:wF A y)(x:Str):(lf a x).length<=40:=(ic (xy a x)).2
theorem EX(h:∀k,p k=true->q k=true){x:Str}(hx:x∈nmK T p):x∈nmK T q:=by obtain⟨t,h1,h2,h3⟩:=Bf hx;exact av.mpr ⟨t,bA.mpr ⟨h1,h _ h3⟩,h2⟩
theorem Sit.vb(s:Sit T A V S y r):∀x∈bxs T,∃z,(x,z)∈V:=λx hx=>s.hv x (EX (λk h=>by rw[bz h];rfl) hx)
theorem Sit.vl(s:Sit T A V S y r):∀x∈lms T,∃z,(x,z)∈V:=λx hx=>s.hv x (EX (λk h=>by rw[bz h];rfl) hx)
theorem Sit.op(s:Sit T A V S y r)(x h:Str):rQ [wO T M dk y mo,sD S,.str x,.str h]=some (.bl (opn (shB T V) h (lf s.a x))):=
 Qu s.a s.o (KF s.a x) (NH s.a x) λb hb=>by obtain⟨q,hq,rfl⟩:=Vb (KF s.a x) b hb;obtain⟨t,ht,e⟩:=av.mp (s.pn q hq);rw[<-e];exact Qt s.nd s.nv s.vb s.o ht
theorem Sit.lop(s:Sit T A V S y r)(x h:Str):pe [pV T M dk y,atD A,dcI V,.str x,.str h]=some (.bl (opn (shB T V) h (lf s.a x))):=NG s.hT s.a s.nv s.vb (KF s.a x) (NH s.a x)
theorem EY(s:Sit T A V S y r):sN [wO T M dk y mo,sD S]=some (.str r):=
 oH (ρ:=[.im (wO T M dk y mo),.im (sD S)]) rfl (o7 (og (n8 rfl (n8 (pE (m:="you") (ns:=wNs) (xs:=wDs T M dk y mo) (ys:=[]) rfl rfl rfl rfl EN) rfl)) (tf s.a.nd s.o s.hr)))
def xO(dk:aE)(s:Sit T A V S y r):Bool:=!decide (r∈dk)||(lms T).any λb=>decide ((b,1)∈V)&&opn (shB T V) r (lf s.a b)
theorem Qx:wz [wO T M dk y mo,.str r]=some (.bl (decide (r∈dk))):=
 oH (ρ:=[.im (wO T M dk y mo),.im (.str r)]) rfl (o7 (ou (x:=.str r) (y:=.lst (dk.map D.str)) rfl rfl (rD false r dk)))
theorem NI(s:Sit T A V S y r){b:Str}(hb:b∈lms T):vY [wO T M dk y mo,sD S,.str b,.str r]=some (.bl (decide ((b,1)∈V)&&opn (shB T V) r (lf s.a b))):=by
 let ρ:aV:=[.im (wO T M dk y mo),.im (sD S),.im (.str b),.im (.str r)];obtain⟨z,hz⟩:=s.vl b hb;have e1:c2 (dEq false) (oa vA gW) aN ρ=some (.bl (decide ((b,1)∈V)),ρ):=ou (og (n8 rfl (n8 rfl rfl)) (Jk s.nv s.o hz)) rfl (by rw[uE,NF s.nv 1 hz];rfl);refine oH (ρ:=ρ) rfl (o7 ?_);cases q:decide ((b,1)∈V)with
 |true=>rw[q]at e1;exact(pQ e1).trans (og (n8 rfl (n8 rfl (n8 rfl (n8 rfl rfl)))) (s.op b r))
 |false=>rw[q]at e1;exact xB e1
abbrev kP:=(n4 kG oF)
theorem NJ(s:Sit T A V S y r):zu [wO T M dk y mo,sD S]=some (.bl (xO dk s)):=by
 let W:=wO T M dk y mo;let ρ:aV:=[.im W,.im (sD S),.im (.str r)];have e1:oQ 2 (oa sN gS) [.im W,.im (sD S),.un]=some (.nx ρ):=(oK (og (n8 rfl (n8 rfl rfl)) (EY s))).trans rfl;have e2:p5 (cT (o9 sW "is_dark" ae dt)) ρ=some (!decide (r∈dk),ρ):=sT (pL (pE (m:="is_dark") (ns:=wNs) (xs:=wDs T M dk y mo) (ys:=[.str r]) rfl rfl rfl rfl Qx));unfold xO;cases q:decide (r∈dk)with
 |false=>rw[q]at e2;exact oH rfl ((n9 e1).trans (pF ((pG e2).trans rfl)))
 |true=>
  rw[q]at e2;have hl:=s.hT;have e3:oJ 1 [0,1,2] (iL (o9 qN "of_kind" ae kP)) (gN 0) pM (oa vY (n4 ag (n4 aq (n4 ae gU)))) ρ=some ((lms T).map λb=>D.bl (decide ((b,1)∈V)&&opn (shB T V) r (lf s.a b)),ρ):=by
   have hlen:(lms T).length<=1000:=by have:=(pZ T λk=>decide (k=.lamp)).length_le;rw[ah]at this;exact bQ this (by omega)
   refine tQ D.str (λb=>D.bl (decide ((b,1)∈V)&&opn (shB T V) r (lf s.a b))) (lms T) (ρ1:=ρ) ((uM (pE (m:="of_kind") (ns:=wNs) (xs:=wDs T M dk y mo) (ys:=[.str Kd.lamp.s]) rfl rfl rfl rfl (Ct T (by omega) _ _ .lamp))).trans (by unfold lms nmK;rw[aF];rfl)) hlen λb hb=>⟨[.im (.str b),.im W,.im (sD S),.im (.str r)],[.im (.str b),.im W,.im (sD S),.im (.str r)],rfl,og (n8 rfl (n8 rfl (n8 rfl (n8 rfl rfl)))) (NI s hb),rfl⟩
  exact oH rfl ((n9 e1).trans ((n9 ((pd e2).trans rfl)).trans (o7 (pj (px e3) (IU _ _)))))
theorem Jm(s:Sit T A V S y r):v9 [pV T M dk y,atD A,dcI V]=some (.bl (xO dk s)):=by
 let sp:=pV T M dk y;let ρ:Sl->Sl->aV:=λp q=>[.im sp,.im (atD A),.im (dcI V),p,q];let rr:Sl:=.im (.str r);let ll:aE:=(lms T).filter λb=>decide ((b,1)∈V);let q4:Sl:=.im (.lst (ll.map D.str));have hl:=s.hT;have e1:oQ 3 (c2 ph ag (c2 ph ae eL)) (ρ .un .un)=some (.nx (ρ rr .un)):=(oK (ou (x:=atD A) (y:=.str y) rfl (ou rfl rfl rfl) (zB s.a s.hr))).trans rfl;have e2:=GA (T:=T) (M:=M) (dk:=dk) (y:=y) (V:=V) s.nv s.hT (λk=>decide (k=.lamp)) Qw (fk:=cL (pb kP)) (ρ:=ρ rr .un) rfl rfl rfl s.vl 1 rfl rfl rfl;have e3:cT (c2 (dIn true) az (c2 ph ae (cC (.str "dark")))) (ρ rr q4)=some (!decide (r∈dk),ρ rr q4):=pL (ou (x:=.str r) (y:=.lst (dk.map D.str)) rfl (ou rfl rfl rfl) (rD true r dk));have head:∀f:FS,oh (oQ 3 (c2 ph ag (c2 ph ae eL))) (oh (oQ 4 (cL (oJ 1 [2] (iL (cL (oX pU (n4 ae (n4 (cL (pb kP)) oF))))) (gN 0) (cT (c2 (dEq false) (c2 ph ag ae) aN)) ae))) f) (ρ .un .un)=f (ρ rr q4):=λf=>(n9 e1).trans (n9 ((oK (px e2)).trans rfl));unfold xO;cases q:decide (r∈dk)with
 |false=>rw[q]at e3;exact oH rfl ((head _).trans (pF ((pG e3).trans rfl)))
 |true=>
  rw[q]at e3;have hlen:ll.length<=1000:=by have:=(pZ T λk=>decide (k=.lamp)).length_le;rw[ah]at this;exact bQ (dX _ _) (bQ this (by omega))
  have e4:oJ 1 [0,1,2,3] (iL aA) (gN 0) (cT (oa pe (n4 ag (n4 aq (n4 az (n4 ae jc)))))) ae (ρ rr q4)=some ((ll.filter λb=>opn (shB T V) r (lf s.a b)).map D.str,ρ rr q4):=
   rA D.str D.str (λb=>opn (shB T V) r (lf s.a b)) ll (ρ1:=ρ rr q4) rfl hlen λb _=>⟨[.im (.str b),.im sp,.im (atD A),.im (dcI V),rr],[.im (.str b),.im sp,.im (atD A),.im (dcI V),rr],rfl,pL (og (n8 rfl (n8 rfl (n8 rfl (n8 rfl (n8 rfl rfl))))) (s.lop b r)),λ_=>⟨_,rfl,rfl⟩,λ_=>rfl⟩
  refine oH rfl ((head _).trans ((n9 ((pd e3).trans rfl)).trans (o7 (ou (px e4) (y:=.lst []) rfl ?_))));rw[eq_nil,me];congr 2;show (!((lms T).filter _).isEmpty)=(false||(lms T).any _);rw[nu]
  induction lms T with
  |nil=>rfl
  |cons b l ih=>
   rw[bX,dG,jU (opn _ _ _)];cases decide ((b,1)∈V)&&opn (shB T V) r (lf s.a b)
   ·exact ih
   ·rfl
def vG(dk:aE)(s:Sit T A V S y r)(x:Str):Bool:=(xO dk s&&opn (shB T V) r (lf s.a x))||opn (shB T V) y (lf s.a x)
theorem NK(s:Sit T A V S y r)(ht:t∈T):vB [wO T M dk y mo,sD S,.str t.n]=some (.bl (t.k.pl&&vG dk s t.n)):=by
 let W:=wO T M dk y mo;let ρ:aV:=[.im W,.im (sD S),.im (.str t.n),.im (thD t)];have e1:oQ 3 (o9 pA "thing_of" ae dt) [.im W,.im (sD S),.im (.str t.n),.un]=some (.nx ρ):=(oK (pE (m:="thing_of") (ns:=wNs) (xs:=wDs T M dk y mo) (ys:=[.str t.n]) rfl rfl rfl rfl (zz s.nd ht))).trans rfl;have e2:sy (cT (c2 xN az bF)) (p5 (cT (o9 qr "is_plainly" az oF))) ρ=some (!t.k.pl,ρ):=zN rfl (sT (pL (pE (m:="is_plainly") (ns:=["name", "words", "kind", "start"]) (xs:=[.str t.n,.tup (t.w.map D.str),.str t.k.s,oS t.s]) (ys:=[]) rfl rfl rfl rfl (Ge t))));have e3:cT (oa rQ (n4 ae (n4 ag (n4 aq (n4 (o9 sM "you" ae oF) oF))))) ρ=some (opn (shB T V) y (lf s.a t.n),ρ):=pL (og (n8 rfl (n8 rfl (n8 rfl (n8 (pE (m:="you") (ns:=wNs) (xs:=wDs T M dk y mo) (ys:=[]) rfl rfl rfl rfl EN) rfl)))) (s.op t.n y));have e4:oa rQ (n4 ae (n4 ag (n4 aq (n4 (oa sN gS) oF)))) ρ=some (.bl (opn (shB T V) r (lf s.a t.n)),ρ):=og (n8 rfl (n8 rfl (n8 rfl (n8 (og (n8 rfl (n8 rfl rfl)) (EY s)) rfl)))) (s.op t.n r);unfold vG;cases q1:t.k.pl with
 |false=>rw[q1]at e2;exact oH rfl ((n9 e1).trans (pF ((pG e2).trans rfl)))
 |true=>
  rw[q1]at e2;cases q2:opn (shB T V) y (lf s.a t.n)with
  |true=>rw[q2]at e3;rw[Bool.or_true];exact oH rfl ((n9 e1).trans ((n9 ((pd e2).trans rfl)).trans (pF ((pG e3).trans rfl))))
  |false=>
   rw[q2]at e3;rw[ni,Bool.true_and,jU];refine oH (ρ:=ρ) rfl ((n9 e1).trans ((n9 ((pd e2).trans rfl)).trans ((n9 ((pd e3).trans rfl)).trans (o7 ?_))));cases q3:opn (shB T V) r (lf s.a t.n)with
   |true=>rw[q3]at e4;exact(pQ e4).trans (og (n8 rfl (n8 rfl rfl)) (NJ s))
   |false=>rw[q3]at e4;exact xB e4
def xD(dk:aE)(s:Sit T A V S y r):aE:=(T.filter λt=>t.k.pl&&vG dk s t.n).map Th.n
theorem D2(s:Sit T A V S y r):(xD dk s).length<64:=by
 unfold xD;rw[ah,<- gY];have h1:T.countP (λt=>t.k.pl&&vG dk s t.n)<=T.countP λt=>t.k.pl:=lL λt _ h=>by rw[aY]at h;exact h.1
 rw[gY (p:=λt:Th=>t.k.pl)]at h1;have:=s.p7;omega
theorem GB{l:aE}(h:e ρ=some (.lst (l.map D.str),ρ1))(hl:l.length<64):yw e ρ=some ((tu l).map D.str,ρ1):=by unfold yw;rw[h];simp only[z9];rw[aj hl]
end
variable{c c':FT}
section
variable{A:List (Str×Str)}{V:List (Str×Int)}{S:List (Ky×L4.D)}{y r:Str}{T:List Th}{M:List Mk}{dk:aE}{mo:L4.D}
theorem Qy(s:Sit T A V S y r):Hz [wO T M dk y mo,sD S]=some ((tu (xD dk s)).map D.str):=by
 let W:=wO T M dk y mo;let ρ:aV:=[.im W,.im (sD S)];have hl:=s.hT;have e1:oJ 1 [0,1] (iL (o9 rb "names" ae oF)) (gN 0) (cT (oa vB kR)) ae ρ=some ((T.filter λt=>t.k.pl&&vG dk s t.n).map λt=>D.str t.n,ρ):=
  rA (λt:Th=>D.str t.n) (λt=>D.str t.n) (λt=>t.k.pl&&vG dk s t.n) T (ρ1:=ρ) (uM (pE (m:="names") (ns:=wNs) (xs:=wDs T M dk y mo) (ys:=[]) rfl rfl rfl rfl (DY hl))) (by omega) λt ht=>⟨[.im (.str t.n),.im W,.im (sD S)],[.im (.str t.n),.im W,.im (sD S)],rfl,pL (og (n8 rfl (n8 rfl (n8 rfl rfl))) (NK s ht)),λ_=>⟨_,rfl,rfl⟩,λ_=>rfl⟩
 have e2:cL (oJ 1 [0,1] (iL (o9 rb "names" ae oF)) (gN 0) (cT (oa vB kR)) ae) ρ=some (.lst ((xD dk s).map D.str),ρ):=by rw[px e1];unfold xD;rw[aF];rfl
 exact uP (ρ:=ρ) rfl (sS (GB e2 (D2 s)))
theorem WU(k:Kd):dIn false (.str k.s) (.lst [.str "plain", .str "fixed", .str "box", .str "lamp"])=some (.bl k.pl):=by cases k<;>kernel_rfl
abbrev kM:=(n4 ae (n4 ag (n4 aq (n4 aO (n4 (c2 ph ag (c2 ph ae eL)) oF)))))
abbrev kN:=(n4 ae (n4 ag (n4 aq (n4 aO (n4 (c2 ph ae eL) oF)))))
def NL:FS:=(oh (oQ 6 (qz aA (oa pe kM)))
 (sIf (sy (cT bg) (cT (oa pe kN))) (o6 (uc 3 aO)) oV))
theorem NM(h:c ρ=some (true,ρ1)):sy c c' ρ=some (true,ρ1):=by unfold sy;rw[h]
theorem D3(s:Sit T A V S y r):∀(l:aE) (fd:aE) (p q:Sl),fd.length+l.length<=900->∃p' q',forL (gN 5) NL (l.map D.str) [.im (pV T M dk y),.im (atD A),.im (dcI V),.ls (fd.map D.str),.im (.bl (xO dk s)),p,q]=some (.nx [.im (pV T M dk y),.im (atD A),.im (dcI V),.ls ((fd++l.filter (vG dk s)).map D.str),.im (.bl (xO dk s)),p',q'])
 |[],fd,p,q,_=>⟨p,q,by rw[iB,bp];rfl⟩
 |x::l,fd,p,q,hl=>by
  rw[aI]at hl;let sp:=pV T M dk y;let nr:Bool:=xO dk s&&opn (shB T V) r (lf s.a x);let ρ:Sl->Sl->aV:=λf q=>[.im sp,.im (atD A),.im (dcI V),f,.im (.bl (xO dk s)),.im (.str x),q];let F:aE->Sl:=λfd=>.ls (fd.map D.str);have e1:qz aA (oa pe kM) (ρ (F fd) q)=some (.bl nr,ρ (F fd) q):=by
   have e0:oa pe kM (ρ (F fd) q)=some (.bl (opn (shB T V) r (lf s.a x)),ρ (F fd) q):=og (n8 rfl (n8 rfl (n8 rfl (n8 rfl (n8 (ou (x:=atD A) (y:=.str y) rfl (ou rfl rfl rfl) (zB s.a s.hr)) rfl))))) (s.lop x r);show _=some (D.bl (xO dk s&&opn (shB T V) r (lf s.a x)),_);cases w:xO dk s with
   |true=>exact(pQ (show cV 4 (ρ (F fd) q)=some (.bl true,ρ (F fd) q) by rw[<-w];rfl)).trans e0
   |false=>exact xB (show cV 4 (ρ (F fd) q)=some (.bl false,ρ (F fd) q) by rw[<-w];rfl)
  have e2:cT (oa pe kN) (ρ (F fd) (.im (.bl nr)))=some (opn (shB T V) y (lf s.a x),ρ (F fd) (.im (.bl nr))):=pL (og (n8 rfl (n8 rfl (n8 rfl (n8 rfl (n8 (ou rfl rfl rfl) rfl))))) (s.lop x y));have e3:sy (cT bg) (cT (oa pe kN)) (ρ (F fd) (.im (.bl nr)))=some (vG dk s x,ρ (F fd) (.im (.bl nr))):=by
   show _=some (nr||_,_);cases w:nr with
   |true=>exact NM (show cT bg (ρ (F fd) (.im (.bl true)))=some (true,ρ (F fd) (.im (.bl true))) from rfl)
   |false=>rw[w]at e2;exact zN (show cT bg (ρ (F fd) (.im (.bl false)))=some (false,ρ (F fd) (.im (.bl false))) from rfl) e2
  have ev:NL (ρ (F fd) q)=some (.nx (ρ (F (fd++[x].filter (vG dk s))) (.im (.bl nr)))):=by
   unfold NL;refine(n9 (ρ':=ρ (F fd) (.im (.bl nr))) ((oK e1).trans rfl)).trans ?_;cases w:vG dk s x with
   |true=>rw[w]at e3;rw[bX,w,aj rfl,iB];refine(pG e3).trans (pT (d:=.non) ((wQ (es:=fd.map D.str) rfl rfl rfl (by rw[ah];omega)).trans ?_));show some (D.non,ρ (.ls (fd.map D.str++[.str x])) (.im (.bl nr)))=some (_,ρ (.ls ((fd++[x]).map D.str)) (.im (.bl nr)));rw[aT];rfl
   |false=>rw[w]at e3;rw[bX,w,ak (by decide),iB,bp];exact(pd e3).trans rfl
  obtain⟨p',q',g⟩:=D3 s l (fd++[x].filter (vG dk s)) (.im (.str x)) (.im (.bl nr)) (by
   have:=dX (vG dk s) [x];rw[aJ];rw[bt]at this;omega)
  refine⟨p',q',?_⟩;rw[ay];unfold forL;rw[show gN 5 (.str x) [.im sp,.im (atD A),.im (dcI V),.ls (fd.map D.str),.im (.bl (xO dk s)),p,q]=some (ρ (F fd) q) from rfl];simp only[ev];refine g.trans ?_;rw[bo,<- md];rfl
theorem NN(s:Sit T A V S y r):xw [pV T M dk y,atD A,dcI V]=some ((tu (xD dk s)).map D.str):=by
 let sp:=pV T M dk y;have hl:=s.hT;have h7:(nmK T Kd.pl).length<=7:=by unfold nmK;rw[ah];exact s.p7
 obtain⟨p',q',g⟩:=D3 (M:=M) (dk:=dk) s (nmK T Kd.pl) [] .un .un (by simp;omega);have ef:(nmK T Kd.pl).filter (vG dk s)=xD dk s:=by unfold nmK xD;rw[mY,me];congr 1;exact List.filter_congr λt _=>jU _ _
 rw[bq,ef]at g;refine uP (ρ:=[.im sp,.im (atD A),.im (dcI V),.im (.lst ((xD dk s).map D.str)),.im (.bl (xO dk s)),p',q']) rfl ?_;refine(n9 (ρ':=[.im sp,.im (atD A),.im (dcI V),.ls [],.un,.un,.un]) rfl).trans ?_;refine(n9 (ρ':=[.im sp,.im (atD A),.im (dcI V),.ls [],.im (.bl (xO dk s)),.un,.un]) ((oK (og (n8 rfl (n8 rfl (n8 rfl rfl))) (Jm s))).trans rfl)).trans ?_;refine(n9 ((pJ (uM (px (og (n8 rfl (n8 rfl rfl)) (of_ok (by omega) Kd.pl WU))))).trans g)).trans ?_;exact sS (GB rfl (D2 s))
end
section
variable{A:List (Str×Str)}{V:List (Str×Int)}{S:List (Ky×L4.D)}{y r:Str}{T:List Th}{M:List Mk}{dk:aE}{mo:L4.D}{R:List Ky}
theorem Std.sit(g:Good T M dk)(s:Std T M R y A V S):∃r,Sit T A V S y r:=by
 obtain⟨r,hr⟩:=s.ok.a.yo;refine⟨r,g.ndT,g.len,g.p7,s.ok.a,λq hq=>(pZ T _).mem (s.ok.hH q hq),by rw[s.ok.vn];exact ndM g,λx hx=>?_,s.o,hr⟩;have:x∈V.map au:=by rw[s.ok.vn];exact bT _ hx
 obtain⟨q,hq,rfl⟩:=av.mp this;exact⟨_,hq⟩
theorem Vh(s:Sit T A V S y r)(x:Str):IZ [wO T M dk y mo,sD S,.str x]=some (.bl (decide (y∈lf s.a x))):=
 oH (ρ:=[.im (wO T M dk y mo),.im (sD S),.im (.str x)]) rfl (o7 (ou (pE (m:="you") (ns:=wNs) (xs:=wDs T M dk y mo) (ys:=[]) rfl rfl rfl rfl EN) (px (og (n8 rfl (n8 rfl (n8 rfl rfl))) (Jj s.a s.o _ (KF s.a x) (NH s.a x)))) (rD false y _)))
def KG(s:Sit T A V S y r):aE:=(T.filter λt=>decide (y∈lf s.a t.n)).map Th.n
def GE(dk:aE)(s:Sit T A V S y r):L4.D:=.tup [.lst ((tu (xD dk s)).map D.str),.bl (xO dk s),.lst ((KG s).map D.str),.str r]
theorem Jn(s:Sit T A V S y r):rR [wO T M dk y mo,pV T M dk y,sD S]=some (GE dk s):=by
 let W:=wO T M dk y mo;let sp:=pV T M dk y;let h:Sl:=.im (.lst ((KG s).map D.str));have hT:=s.hT;have c:=rA (k:=3) (cap:=[0,2]) (g:=gT (oG (gN 0) (oG (gN 1) (oG (gN 2) qA))) 3) (ft:=cT (oa IZ (n4 az (n4 aA du)))) (fe:=cV 0) (s:=iL (c2 ph ag kJ)) (λt:Th=>oU t.rw) (λt=>D.str t.n) (λt=>decide (y∈lf s.a t.n)) T (ρ:=[.im W,.im sp,.im (sD S),.un]) (ρ1:=[.im W,.im sp,.im (sD S),.un]) rfl (by omega) λt _=>⟨[.im (.str t.n),.im (.str t.k.s),.im (oS t.s),.im W,.im (sD S)],[.im (.str t.n),.im (.str t.k.s),.im (oS t.s),.im W,.im (sD S)],rfl,pL (og (n8 rfl (n8 rfl (n8 rfl rfl))) (Vh s t.n)),λ_=>⟨_,rfl,rfl⟩,λ_=>rfl⟩
 refine oH (ρ:=[.im W,.im sp,.im (sD S),h]) rfl ((n9 (ρ':=[.im W,.im sp,.im (sD S),h]) ((oK (px c)).trans ?_)).trans ?_)
 ·unfold h KG;rw[aF];rfl
 ·exact o7 (vO (n8 (px (og (n8 rfl (n8 rfl rfl)) (Qy s))) (n8 (og (n8 rfl (n8 rfl rfl)) (NJ s)) (n8 rfl (n8 (og (n8 rfl (n8 rfl rfl)) (EY s)) rfl)))) (show 4<=1000 by decide))
theorem Jo(s:Sit T A V S y r):sP [pV T M dk y,atD A,dcI V]=some (GE dk s):=by
 let sp:=pV T M dk y;let h:Sl:=.im (.lst ((KG s).map D.str));have hT:=s.hT;have c:=rA (k:=3) (cap:=[0,1]) (g:=gT (oG (gN 0) (oG (gN 1) (oG (gN 2) qA))) 3) (ft:=cT (c2 (dIn false) (c2 ph az eL) (cL (oX pS (n4 aA du))))) (fe:=cV 0) (s:=iL (c2 ph ae kJ)) (λt:Th=>oU t.rw) (λt=>D.str t.n) (λt=>decide (y∈lf s.a t.n)) T (ρ:=[.im sp,.im (atD A),.im (dcI V),.un]) (ρ1:=[.im sp,.im (atD A),.im (dcI V),.un]) rfl (by omega) λt _=>⟨[.im (.str t.n),.im (.str t.k.s),.im (oS t.s),.im sp,.im (atD A)],[.im (.str t.n),.im (.str t.k.s),.im (oS t.s),.im sp,.im (atD A)],rfl,pL (ou (x:=.str y) (ou rfl rfl rfl) (px (og (n8 rfl (n8 rfl rfl)) (HR s.a (KF s.a t.n) (NH s.a t.n)))) (rD false y _)),λ_=>⟨_,rfl,rfl⟩,λ_=>rfl⟩
 refine oH (ρ:=[.im sp,.im (atD A),.im (dcI V),h]) rfl ((n9 (ρ':=[.im sp,.im (atD A),.im (dcI V),h]) ((oK (px c)).trans ?_)).trans ?_)
 ·unfold h KG;rw[aF];rfl
 ·exact o7 (vO (n8 (px (og (n8 rfl (n8 rfl (n8 rfl rfl))) (NN s))) (n8 (og (n8 rfl (n8 rfl (n8 rfl rfl))) (Jm s)) (n8 rfl (n8 (ou (x:=atD A) (y:=.str y) rfl (ou rfl rfl rfl) (zB s.a s.hr)) rfl)))) (show 4<=1000 by decide))
end
section
variable{A:List (Str×Str)}{V:List (Str×Int)}{S:List (Ky×L4.D)}{y r:Str}{T:List Th}{M:List Mk}{dk:aE}{mo:L4.D}{R:List Ky}
abbrev dkV(V:List (Str×Int)):Sl:=.dk (V.map λq=>kS q.1) (V.map λq=>D.int q.2)
def nTg:FG:=gT (oG (gN 3) (oG (gN 4) (oG (gN 5) qA))) 3
def nBd:FS:=(oh (sIf (cT (c2 (dEq true) aA cb)) (pC 1 az aO) oV)
 (sIf (sy (cT (c2 (dEq false) aA b0)) (cT (c2 (dEq false) aA dq))) (pC 2 az aQ) oV))
theorem HS{α:Type}{x:Str}{A:List (Str×α)}(h:x∉A.map au):kS x∉A.map λq=>kS q.1:=λz=>by obtain⟨q,hq,e⟩:=av.mp z;exact h (av.mpr ⟨q,hq,MU e⟩)
theorem CB(sp:L4.D):∀(l:List Th) (A:List (Str×Str)) (V:List (Str×Int)) (p q r:Sl),(∀t∈l,t.k≠.room->oS t.s=.str (t.s.getD ""))->(A.map au++(A0 l).map au).Nodup->(V.map au++nmK l Kd.mk).Nodup->A.length+l.length<=900->V.length+l.length<=900->
  ∃p' q' r',forL nTg nBd (l.map λt=>oU t.rw) [.im sp,dkA A,dkV V,p,q,r,.un]=some (.nx [.im sp,dkA (A++A0 l),dkV (V++(nmK l Kd.mk).map λx=>(x,(0:Int))),p',q',r',.un])
 |[],A,V,p,q,r,_,_,_,_,_=>⟨p,q,r,by rw[show A0 []=[] from rfl,show nmK [] Kd.mk=[] from rfl,bp];unfold dkV;simp only[bS,bp];rfl⟩
 |t::l,A,V,p,q,r,hs,na,nv,la,lv=>by
  rw[aI]at la lv;let ρ:List (Str×Str)->List (Str×Int)->aV:=λA V=>[.im sp,dkA A,dkV V,.im (.str t.n),.im (.str t.k.s),.im (oS t.s),.un];let A':=if t.k=.room then A else A++[(t.n,t.s.getD "")]
  let V':=if t.k.mk=true then V++[(t.n,0)]else V
  have ea:A++A0 (t::l)=A'++A0 l:=by
   unfold A' A0;by_cases h:t.k=.room
   ·rw[aj h,lC (by rw[h];decide)]
   ·rw[ak h,hG (by rw[aR h];rfl),ay,bo];rfl
  have evl:V++(nmK (t::l) Kd.mk).map (λx=>(x,(0:Int)))=V'++(nmK l Kd.mk).map λx=>(x,(0:Int)):=by
   unfold V' nmK;by_cases h:t.k.mk=true
   ·rw[aj h,hG (p:=λt:Th=>t.k.mk) h,ay,ay,bo];rfl
   ·rw[ak h,lC (p:=λt:Th=>t.k.mk) h]
  have e1:sIf (cT (c2 (dEq true) aA cb)) (pC 1 az aO) oV (ρ A V)=some (.nx (ρ A' V)):=by
   unfold A';have te:cT (c2 (dEq true) aA cb) (ρ A V)=some (!decide (t.k=.room),ρ A V):=pL (ou (x:=.str t.k.s) (y:=.str "room") rfl rfl (Ng t));by_cases h:t.k=.room
   ·rw[aZ h]at te;rw[aj h];exact(pd te).trans rfl
   ·rw[aR h]at te;rw[ak h];unfold ρ;rw[<-Nc];refine(pG te).trans ((vE (i:=1) (fk:=cV 3) (fv:=cV 5) (x:=t.n) (d:=.str (t.s.getD "")) ?_ rfl rfl (HS λz=>?_) (by rw[ah];omega) (by rw[ah,ah])).trans rfl)
    ·rw[<-hs t aW h];rfl
    ·rw[bK]at na;refine na.2.2 _ z _ ?_ rfl;unfold A0;rw[hG (by rw[aR h];rfl)];exact aW
  have e2:sIf (sy (cT (c2 (dEq false) aA b0)) (cT (c2 (dEq false) aA dq))) (pC 2 az aQ) oV (ρ A' V)=some (.nx (ρ A' V')):=by
   unfold V';have te:sy (cT (c2 (dEq false) aA b0)) (cT (c2 (dEq false) aA dq)) (ρ A' V)=some (t.k.mk,ρ A' V):=by show sy _ _ [.im sp,dkA A',dkV V,.im (.str t.n),.im (.str t.k.s),.im (oS t.s),.un]=some (t.k.mk,[.im sp,dkA A',dkV V,.im (.str t.n),.im (.str t.k.s),.im (oS t.s),.un]);generalize A'=A1;cases t.k<;>kernel_rfl
   by_cases h:t.k.mk=true
   ·rw[h]at te;rw[aj h];refine(pG te).trans ((vE (i:=2) (fk:=cV 3) (fv:=cC (.int 0)) (x:=t.n) (d:=.int 0) rfl rfl rfl (HS λz=>?_) (by rw[ah];omega) (by rw[ah,ah])).trans ?_)
    ·rw[bK]at nv;refine nv.2.2 _ z _ ?_ rfl;unfold nmK;rw[hG (p:=λt:Th=>t.k.mk) h];exact aW
    ·unfold ρ dkV;rw[aT,aT];rfl
   ·rw[Bool.not_eq_true]at h;rw[h]at te;rw[ak (by rw[h];decide)];exact(pd te).trans rfl
  have la':A'.length+l.length<=900:=by unfold A';split<;>(try rw[aJ,bt])<;>omega
  have lv':V'.length+l.length<=900:=by unfold V';split<;>(try rw[aJ,bt])<;>omega
  obtain⟨p',q',r',h⟩:=CB sp l A' V' (.im (.str t.n)) (.im (.str t.k.s)) (.im (oS t.s)) (λu hu=>hs u (bj _ hu)) (by rw[<-aT,<- ea,aT];exact na)
   (by have q:=aP (kF au) evl;rw[aT,aT,aF,aF]at q;rw[show (nmK l Kd.mk).map (au∘λx=>(x,(0:Int)))=nmK l Kd.mk from cX _,show (nmK (t::l) Kd.mk).map (au∘λx=>(x,(0:Int)))=nmK (t::l) Kd.mk from cX _]at q;rw[<-q];exact nv) la' lv'
  refine⟨p',q',r',?_⟩;rw[ay,ea,evl];unfold forL;rw[show nTg (oU t.rw) [.im sp,dkA A,dkV V,p,q,r,.un]=some (ρ A V) from rfl];have ev:nBd (ρ A V)=some (.nx (ρ A' V')):=(n9 e1).trans e2;simp only[ev];exact h
theorem AQ(sp:L4.D)(A:List (Str×Str))(k:Sl):∀(l:List Mk) (V:List (Str×Int)) (p r s:Sl),(V.map au++l.map Mk.n).Nodup->V.length+l.length<=900->
  ∃p' r' s',forL (gT (oG (gN 3) (oG (gN 5) (oG (gN 6) qA))) 3) (pC 2 az aO) (l.map mkT) [.im sp,dkA A,dkV V,p,k,r,s]=some (.nx [.im sp,dkA A,dkV (V++stM l),p',k,r',s'])
 |[],V,p,r,s,_,_=>⟨p,r,s,by rw[show stM []=[] from rfl,bp];rfl⟩
 |m::l,V,p,r,s,nv,lv=>by
  rw[aI]at lv;have e:V++stM (m::l)=(V++[(m.n,m.st)])++stM l:=by rw[bo];rfl
  obtain⟨p',r',s',h⟩:=AQ sp A k l (V++[(m.n,m.st)]) (.im (.str m.n)) (.im (.int m.st)) (.im (.int m.mo)) (by rw[aT,bo];exact nv) (by rw[aJ,bt];omega);refine⟨p',r',s',?_⟩;rw[ay,e];unfold forL;rw[show gT (oG (gN 3) (oG (gN 5) (oG (gN 6) qA))) 3 (mkT m) [.im sp,dkA A,dkV V,p,k,r,s]=some [.im sp,dkA A,dkV V,.im (.str m.n),k,.im (.int m.st),.im (.int m.mo)] from rfl];have hn:m.n∉V.map au:=λz=>by rw[bK]at nv;exact nv.2.2 _ z _ (by rw[ay];exact aW) rfl
  simp only[vE (i:=2) (fk:=cV 3) (fv:=cV 5) (ρ:=[.im sp,dkA A,dkV V,.im (.str m.n),k,.im (.int m.st),.im (.int m.mo)]) (x:=m.n) (d:=.int m.st) rfl rfl rfl (HS hn) (by rw[ah];omega) (by rw[ah,ah])];refine Eq.trans ?_ h;unfold dkV;rw[aT,aT];rfl
abbrev dk2(A:List (Str×Str))(V:List (Str×Int)):Dk2:=((A.map λq=>kS q.1,A.map λq=>D.str q.2),(V.map λq=>kS q.1,V.map λq=>D.int q.2))
theorem NO(g:Good T M dk):tV [pV T M dk y]=some (dk2 (A0 T) (V0 T M)):=by
 let sp:=pV T M dk y;have hT:=len_T g;have hM:=g.m4;have hs:∀t∈T,t.k≠.room->oS t.s=.str (t.s.getD ""):=λt ht h=>by obtain⟨u,u1,u2,u3,_⟩:=CA (q:=(t.n,t.s.getD "")) g (av.mpr ⟨t,bA.mpr ⟨ht,by rw[aR h];rfl⟩,rfl⟩);have:=EM g.ndT u1 ht u2;subst this;rw[u3];rfl
 obtain⟨p,q,r,e1⟩:=CB sp T [] [] .un .un .un hs (by rw[bS,bq,yH];exact g.ndT.sublist (pZ T _)) (by rw[bS,bq];exact g.ndT.sublist (pZ T _)) (by simp;omega) (by simp;omega);rw[bq,bq]at e1;have ln:((nmK T Kd.mk).map λx=>(x,(0:Int))).length<=T.length:=by rw[ah];have:=(pZ T Kd.mk).length_le;rw[ah]at this;exact this
 obtain⟨p',r',s',e2⟩:=AQ sp (A0 T) q M ((nmK T Kd.mk).map λx=>(x,(0:Int))) p r .un (by rw[aF,show (nmK T Kd.mk).map (au∘λx=>(x,(0:Int)))=nmK T Kd.mk from cX _];exact ndM g) (by omega);have e:wa (stE 7 [sp])=some (.nx [.im sp,dkA (A0 T),dkV (V0 T M),p',q,r',s']):=by refine(n9 (ρ':=[.im sp,dkA [],.un,.un,.un,.un,.un]) rfl).trans ((n9 (ρ':=[.im sp,dkA [],dkV [],.un,.un,.un,.un]) rfl).trans ?_);exact(n9 ((pJ rfl).trans e1)).trans ((n9 ((pJ rfl).trans e2)).trans rfl)
 unfold tV fnP;rw[aj (show ([pV T M dk y]:List L4.D).length=1 from rfl),e];rfl
end
section
variable{A:List (Str×Str)}{V:List (Str×Int)}{S:List (Ky×L4.D)}{y r:Str}{T:List Th}{M:List Mk}{dk:aE}{mo:L4.D}{R:List Ky}
theorem tk{n:Int}(hn:0<n)(hi:IL es)(h0:qH ρ j=some es)(he:e ρ=some (.int n,ρ)):∃r es',IL es'/\0<=r/\r<n/\pW oj j (n4 e oF) ρ=some (.int r,putAt ρ j es'):=by obtain⟨r,es',h1,h2,h3,h4⟩:=qV hi n hn;exact⟨r,es',h1,h2,h3,rZ h0 (n8 he rfl) h0 h4⟩
theorem pk{l:aE}(hl:l≠[])(hi:IL es)(h0:qH ρ j=some es)(hv:cV i ρ=some (.lst (l.map D.str),ρ)):∃x es',x∈l/\IL es'/\c2 dIx (cV i) (pW oj j (n4 (c1 qh (cV i)) oF)) ρ=some (.str x,putAt ρ j es'):=by
 have hp:=lW.mpr hl;obtain⟨r,es',h1,h2,h3,h4⟩:=tk (n:=l.length) (e:=c1 qh (cV i)) (by omega) hi h0 (pj hv (by show some (D.int _)=_;rw[ah]));obtain⟨r,rfl⟩:=cI h2;have hr:r<l.length:=by omega
 exact⟨l[r],es',eW hr,h1,ou hv h4 (vF (aS hr))⟩
theorem D4:∀V:List (Str×Int),Ar (V.map λq=>kS q.1)=some (V.map au)
 |[]=>rfl
 |q::V=>by rw[ay,ay];show (Ar _).map _=_;rw[D4 V];rfl
theorem NP{V:List (Str×Int)}(h:e ρ=some (dcI V,ρ))(hl:V.length<64):yz e ρ=some ((tu (V.map au)).map D.str,ρ):=by unfold yz;rw[h];simp only[D4,ah,hl,if_true]
theorem D5(h:c ρ=some (true,ρ1)):vc c c' ρ=c' ρ1:=by unfold vc;rw[h]
theorem KH(h:c ρ=some (false,ρ1)):vc c c' ρ=some (false,ρ1):=by unfold vc;rw[h]
theorem Vi(k:Kd):dIn false (.str k.s) (.lst [.str "plain", .str "fixed", .str "box", .str "lamp", .str "you"])=some (.bl (!decide (k=.room))):=by cases k<;>kernel_rfl
theorem WV(k:Kd):dIn false (.str k.s) (.lst [.str "room", .str "you", .str "box"])=some (.bl k.hd):=by cases k<;>kernel_rfl
theorem WW(hy:(T.filter λt=>decide (t.k=.you)).map Th.n=[y]):y∈nrm T:=by
 have:y∈(T.filter λt=>decide (t.k=.you)).map Th.n:=by rw[hy];exact jk _
 obtain⟨t,h1,h2⟩:=av.mp this;rw[bA]at h1;exact av.mpr ⟨t,bA.mpr ⟨h1.1,by rw[bz h1.2];rfl⟩,h2⟩
theorem Vj(g:Good T M dk)(hy:(T.filter λt=>decide (t.k=.you)).map Th.n=[y])(hrm:rms T≠[])(c:Int):
  (∃x m n,sO [pV T M dk y,.int c]=some (.tup [.str "mark", .str x,.int n])/\(x,m)∈moL T M/\0<=n/\n<=m)\/
  ∃x z,sO [pV T M dk y,.int c]=some (.tup [.str "at", .str x,.str z])/\x∈nrm T/\z∈nmK T Kd.hd/\(x=y->z∈rms T):=by
 let sp:=pV T M dk y;have hT:=g.len;obtain⟨xs,ix,dx⟩:=Gk c 4 (by decide);obtain⟨V',em,v1,v2,rfl⟩:=Na (y:=y) g;let N:=tu ((moL T M).map au);let L:L4.D:=.lst (N.map D.str);have hN:∀x,x∈N ↔ x∈(moL T M).map au:=λx=>(jv _ leS).mem_iff;have hl:(moL T M).length<=11:=by have:=ER g;have h:=aP bL v1;rw[ah]at h;rw[h];exact this
 let ρ:List L4.D->Sl->Sl->Sl->Sl->aV:=λes a b c' d=>[.im sp,.im (.int c),.ls es,a,b,c',d];let mD:Sl:=.im (dcI (moL T M));have e1:tm 2 (oX su (n4 ag (n4 (cC (.int 4)) oF))) [.im sp,.im (.int c),.un,.un,.un,.un,.un]=some (.nx (ρ xs .un .un .un .un)):=(Eo (og (n8 rfl (n8 rfl rfl)) dx)).trans rfl;have e2:oQ 3 (oa tT du) (ρ xs .un .un .un .un)=some (.nx (ρ xs mD .un .un .un)):=(oK (og (n8 rfl rfl) em)).trans rfl;have e3:oQ 4 (cL (yz az)) (ρ xs mD .un .un .un)=some (.nx (ρ xs mD (.im L) .un .un)):=(oK (px (NP (V:=moL T M) rfl (by omega)))).trans rfl;have rest:∀es,IL es->∃x z es',x∈nrm T/\z∈nmK T Kd.hd/\(x=y->z∈rms T)/\∃P Q,(oh (oQ 4 (cL (oX pU (n4 ae (n4 (cL (pb (n4 gO (n4 gK (n4 b0 (n4 dq (n4 cc oF))))))) oF)))))
   (oh (oQ 5 (c2 dIx aA (pW oj 2 (n4 (c1 qh aA) oF))))
   (oh (oQ 6 (cL (oX pU (n4 ae (n4 (cL (pb (n4 cb oF))) oF)))))
   (oh (sIf (cT (c2 (dEq true) aO (c2 ph ae cc))) (oQ 6 (cL (oX pU (n4 ae (n4 (cL (pb (n4 cb (n4 cc (n4 b0 oF))))) oF))))) oV)
   (oT (qm (n4 dr (n4 aO (n4 (c2 dIx bg (pW oj 2 (n4 (c1 qh bg) oF))) oF))))))))) (ρ es mD (.im L) .un .un)=some (.rt (.tup [.str "at", .str x,.str z]) (ρ es' mD P (.im (.str x)) Q)):=by
  intro es hi;have l1:(nrm T).length<=900:=by have:=Bh g;omega
  let L1:Sl:=.im (.lst ((nrm T).map D.str));obtain⟨x,es1,hx,i1,p1⟩:=pk (i:=4) (j:=2) (l:=nrm T) (ρ:=ρ es mD L1 .un .un) (mf (WW hy)) hi rfl rfl;let L2:Sl:=.im (.lst ((rms T).map D.str));let hd1:aE:=if x=y then rms T else nmK T Kd.hd
  let L3:Sl:=.im (.lst (hd1.map D.str));have ne:hd1≠[]:=by
   unfold hd1;split
   ·exact hrm
   ·intro z;apply hrm;refine List.eq_nil_iff_forall_not_mem.mpr λw hw=>?_;have:w∈nmK T Kd.hd:=EX (λk h=>by rw[bz h];rfl) hw;rw[z]at this;cases this
  obtain⟨z,es2,hz,i2,p2⟩:=pk (i:=6) (j:=2) (l:=hd1) (ρ:=ρ es1 mD L1 (.im (.str x)) L3) ne i1 rfl rfl;refine⟨x,z,es2,hx,?_,λe=>?_,L1,L3,?_⟩
  ·unfold hd1 at hz;split at hz
   ·exact EX (λk h=>by rw[bz h];rfl) hz
   ·exact hz
  ·unfold hd1 at hz;rw[aj e]at hz;exact hz
  ·refine(n9 (ρ':=ρ es mD L1 .un .un) ((oK (px (og (n8 rfl (n8 rfl rfl)) (of_ok (by omega) (λk=>!decide (k=.room)) Vi)))).trans rfl)).trans ?_;refine(n9 (ρ':=ρ es1 mD L1 (.im (.str x)) .un) ((oK p1).trans rfl)).trans ?_;refine(n9 (ρ':=ρ es1 mD L1 (.im (.str x)) L2) ((oK (px (og (n8 rfl (n8 rfl rfl)) (of_ok (by omega) (λk=>decide (k=.room)) Qh)))).trans rfl)).trans ?_;have te:cT (c2 (dEq true) aO (c2 ph ae cc)) (ρ es1 mD L1 (.im (.str x)) L2)=some (!decide (x=y),ρ es1 mD L1 (.im (.str x)) L2):=pL (ou (x:=.str x) (y:=.str y) rfl (ou rfl rfl rfl) (by rw[se];rfl));refine(n9 (ρ':=ρ es1 mD L1 (.im (.str x)) L3) ?_).trans (o7 (vO (n8 rfl (n8 rfl (n8 p2 rfl))) (show 3<=1000 by decide)));by_cases e:x=y
   ·rw[aZ e]at te;refine(pd te).trans ?_;unfold L3 hd1;rw[aj e];rfl
   ·rw[aR e]at te;refine(pG te).trans ?_;unfold L3 hd1;rw[ak e];exact(oK (px (og (n8 rfl (n8 rfl rfl)) (of_ok (by omega) Kd.hd WV)))).trans rfl
 have t1:cT (c2 (dEq true) aA (cL (pb oF))) (ρ xs mD (.im L) .un .un)=some (!N.isEmpty,ρ xs mD (.im L) .un .un):=pL (ou (x:=L) (y:=.lst []) rfl rfl (eq_nil true N));by_cases hne:N=[]
 ·rw[hne]at t1;obtain⟨x,z,es',h1,h2,h3,P,Q,h⟩:=rest xs ix;refine .inr ⟨x,z,oH (ρ:=ρ es' mD P (.im (.str x)) Q) rfl ?_,h1,h2,h3⟩;exact(n9 e1).trans ((n9 e2).trans ((n9 e3).trans ((n9 (ρ':=ρ xs mD (.im L) .un .un) ((pd (KH t1)).trans rfl)).trans h)))
 ·have hN0:N.isEmpty=false:=by cases hN':N with|nil=>exact ao hN' hne|cons _ _=>rfl
  rw[hN0]at t1;obtain⟨v,es1,i1,v0,v1',p1⟩:=tk (n:=3) (j:=2) (e:=cC (.int 3)) (ρ:=ρ xs mD (.im L) .un .un) (by decide) ix rfl rfl;have t2:cT (c2 (dEq false) (pW oj 2 iX) aQ) (ρ xs mD (.im L) .un .un)=some (decide (v=0),ρ es1 mD (.im L) .un .un):=pL (ou (x:=.int v) (y:=.int 0) p1 rfl (by rw[uE];rfl));by_cases hv:v=0
  ·rw[aZ hv]at t2;obtain⟨x,es2,hx,i2,p2⟩:=pk (i:=4) (j:=2) (l:=N) (ρ:=ρ es1 mD (.im L) .un .un) hne i1 rfl rfl;obtain⟨⟨x',m⟩,hm,e⟩:=av.mp ((hN x).mp hx);have e':x'=x:=e;subst e';have m1:1<=m:=v2 _ hm;obtain⟨n,es3,i3,n0,n1,p3⟩:=tk (n:=m+1) (j:=2) (e:=c2 pO (c2 ph az aO) aN) (ρ:=ρ es2 mD (.im L) (.im (.str x')) .un) (by omega) i2 rfl (ou (x:=.int m) (y:=.int 1) (ou (x:=dcI (moL T M)) (y:=.str x') rfl rfl (HM (by rw[EO];exact ndM g) hm)) rfl rfl);refine .inl ⟨x',m,n,oH (ρ:=ρ es3 mD (.im L) (.im (.str x')) .un) rfl ?_,hm,n0,by omega⟩;refine(n9 e1).trans ((n9 e2).trans ((n9 e3).trans (pF ((pG ((D5 t1).trans t2)).trans ?_))));exact(n9 (ρ':=ρ es2 mD (.im L) (.im (.str x')) .un) ((oK p2).trans rfl)).trans (o7 (vO (n8 rfl (n8 rfl (n8 p3 rfl))) (show 3<=1000 by decide)))
  ·rw[aR hv]at t2;obtain⟨x,z,es',h1,h2,h3,P,Q,h⟩:=rest es1 i1;refine .inr ⟨x,z,oH (ρ:=ρ es' mD P (.im (.str x)) Q) rfl ?_,h1,h2,h3⟩;exact(n9 e1).trans ((n9 e2).trans ((n9 e3).trans ((n9 (ρ':=ρ es1 mD (.im L) .un .un) ((pd ((D5 t1).trans t2)).trans rfl)).trans h)))
end
section
variable{A:List (Str×Str)}{V:List (Str×Int)}{S:List (Ky×L4.D)}{y r:Str}{T:List Th}{M:List Mk}{dk:aE}{mo:L4.D}{R:List Ky}
theorem Qz{x w:Str}{l:aE}(c:Ch A w l):x∈w::l->∃C:aE,w∈C/\x∈C/\∀u∈C,u≠x->∃v∈C,(u,v)∈A:=by
 have one:∀w,x=w->∃C:aE,w∈C/\x∈C/\∀u∈C,u≠x->∃v∈C,(u,v)∈A:=λw e=>⟨[x],by rw[e];exact jk _,jk _,λu hu n=>ao (bx.mp hu) n⟩
 induction c with
 |nil h=>exact λhx=>one _ (bx.mp hx)
 |@cons w v l h c ih=>
  intro hx;by_cases e:x=w
  ·exact one _ e
  ·rcases aL.mp hx with hx|hx
   ·exact ao hx e
   ·obtain⟨C,c1,c2,c3⟩:=ih hx;refine⟨w::C,aW,bj _ c2,λu hu n=>?_⟩;rcases aL.mp hu with rfl|hu
    ·exact⟨v,bj _ c1,h⟩
    ·obtain⟨v',h1,h2⟩:=c3 u hu n;exact⟨v',bj _ h1,h2⟩
def crB(S:List (Ky×L4.D))(x:Str):Bool:=match oW [sD S,.str x]with
 |some (.bl b)=>b
 |_=>false
theorem Std.ring(g:Good T M dk)(eR:tI ((sv T M).map kD)=some (R.map kD))(s:Std T M R y A V S){x z:Str}(hx:x∈nrm T)(hz:z∈nmK T Kd.hd)(hy:x=y->z∈rms T)(c:Ch A z lz)(h:x∈z::lz):rK [wM T M dk y,sD (upS ("at", x) (.str z) S)]=some (.bl false):=by
 obtain⟨l1,l2,l3⟩:=s.len g;have hxa:x∈A.map au:=by rw[s.ok.kA];exact hx
 have p:(upS ("at", x) (.str z) S).Perm (bas (upA x z A) V):=by rw[<-Nr];exact s.p.map _
 have o:=Ji p;have nd:((upA x z A).map au).Nodup:=by unfold upA;rw[yG];exact s.ok.a.nd
 have lS:(upS ("at", x) (.str z) S).length<=900:=by unfold upS;rw[ah];omega
 have q:=Q1 g eR p (by rw[ET];exact s.e) (λq hq=>by
   rcases Gw hq with h|rfl
   ·exact s.ok.hH q h.1
   ·exact hz) (λr hr=>by
   rcases Gw hr with h|h
   ·exact s.ok.hY r h.1
   ·cases h;exact hy rfl) s.ok.vb (crB (upS ("at", x) (.str z) S)) λt _=>by
  obtain⟨b,e⟩:=Ny nd o lS t.n;unfold crB;rw[e]
 obtain⟨C,c1,c2,c3⟩:=Qz c h;have hr:=KD nd o lS C (λu hu=>by
  by_cases e:u=x
  ·subst e;exact⟨z,c1,Nq hxa⟩
  ·obtain⟨v,h1,h2⟩:=c3 u hu e;exact⟨v,h1,HP h2 e⟩) c2
 have:(T.all λt=>crB (upS ("at", x) (.str z) S) t.n)=false:=by obtain⟨t,ht,e⟩:=av.mp ((pZ T _).mem hx);rw[List.all_eq_false];refine⟨t,ht,?_⟩;rw[e];unfold crB;rw[hr];decide
 rw[this]at q;exact q
theorem NQ{α:Type}(f:α->L4.D)(x:Str)(v:α):∀A:List (Str×α),FI (A.map λq=>kS q.1) (A.map λq=>f q.2) (kS x) (f v)=(A.map λq=>if q.1=x then (x,v)else q).map λq=>f q.2
 |[]=>rfl
 |q::A=>by
  have:=NQ f x v A;unfold FI at this ⊢;rw[ay,ay,dW,this,ay,ay];congr 1;by_cases h:q.1=x
  ·rw[aj (by rw[h]),aj h]
  ·rw[ak (λz=>h (MU z)),ak h]
theorem QA{α:Type}(x:Str)(v:α)(A:List (Str×α)):((A.map λq=>if q.1=x then (x,v)else q).map λq=>kS q.1)=A.map λq=>kS q.1:=by
 rw[aF];refine dA λq _=>?_;show kS (if q.1=x then (x,v)else q).1=kS q.1;by_cases h:q.1=x
 ·rw[aj h,h]
 ·rw[ak h]
theorem NR{x:Str}(h1:fv ρ=some (d,ρ))(h2:ρ[i]?=some (.dk ks ds))(h3:fk ρ=some (.str x,ρ))(hx:kS x∈ks)(hl:ks.length<1000)(he:ds.length=ks.length):
  pC i fk fv ρ=some (.nx (ρ.set i (.dk ks (FI ks ds (kS x) d)))):=by
 have hk:yW ks (kS x)=true:=by unfold yW;rw[eB];exact⟨_,hx,by simp⟩
 unfold pC;rw[h1];simp only[h2,h3];show (if ks.length<1000 then if ds.length=ks.length then some (Out.nx (ρ.set i (if yW ks (kS x)=true then .dk ks (FI ks ds (kS x) d)else .dk (ks++[kS x]) (ds++[d]))))else none else none)=_;rw[aj hl,aj he,aj hk]
theorem NS{α:Type}(f:α->L4.D){x:Str}{v:α}(A:List (Str×α))(h1:fv ρ=some (f v,ρ))(h2:ρ[i]?=some (.dk (A.map λq=>kS q.1) (A.map λq=>f q.2)))(h3:fk ρ=some (.str x,ρ))(hx:x∈A.map au)(hl:A.length<1000):
  pC i fk fv ρ=some (.nx (ρ.set i (.dk ((A.map λq=>if q.1=x then (x,v)else q).map λq=>kS q.1) ((A.map λq=>if q.1=x then (x,v)else q).map λq=>f q.2)))):=by
 obtain⟨q,hq,e⟩:=av.mp hx;rw[QA,<- NQ];exact NR h1 h2 h3 (av.mpr ⟨q,hq,by rw[e]⟩) (by rw[ah];exact hl) (by rw[ah,ah])
theorem NT(l1 l2:aE)(b:Bool)(r:Str):toD (.tup [.lst (l1.map D.str),.bl b,.lst (l2.map D.str),.str r])=some (.tup [.lst (l1.map L3.Dq.str),.bl b,.lst (l2.map L3.Dq.str),.str r]):=by simp only[toD,yU,z8]
theorem NU(s:Sit T A V S y r):dEq true (GE dk s) (GE dk s)=some (.bl false):=by
 unfold GE;generalize tu (xD dk s)=l1;generalize KG s=l2;generalize xO dk s=b;have e1:=NT l1 l2 b r;generalize hX:D.tup [.lst (l1.map D.str),.bl b,.lst (l2.map D.str),.str r]=X at e1 ⊢;have e0:BH true X X=none:=by rw[<-hX];rfl
 have e2:dpt (.tup [.lst (l1.map L3.Dq.str),.bl b,.lst (l2.map L3.Dq.str),.str r])=2:=by simp[dpt,qo,zH]
 unfold dEq;rw[e0];simp only;unfold Em;rw[e1];simp only;rw[Fk,e2];rfl
theorem CC:∀l:aE,yA (l.map D.str)=true
 |[]=>rfl
 |_::l=>CC l
theorem KI(s:Sit T A V S y r):wY (GE dk s)=true:=by unfold GE;simp only[wY,yA,CC,Bool.and_self]
theorem QB(h1:c (ρ.map Sl.lnd)=some (b,ρ1)):BX c ρ=some (b,ρ):=by unfold BX;rw[h1]
theorem NV(h1:e (ρ.map Sl.lnd)=some (d,ρ1))(hf:qI d=true):Hy e ρ=some (d,ρ):=by unfold Hy;rw[h1];simp only[hf,if_true]
theorem QC(h0:ρ.all Sl.ldk=true)(h1:e (ρ.map Sl.lnd)=some (d,ρ1))(hf:wY d=true):BY e ρ=some (d,ρ):=by unfold BY;rw[aj h0,h1];simp only[hf,if_true]
end
theorem Vk{gg:FG}(h1:f ρ=some (d,ρ1))(h2:gg d ρ1=some ρ2):G0 f gg ρ=some (.nx ρ2):=by unfold G0;rw[h1];simp only[h2]
theorem QD{f:List L4.D->Option Dk2}{a:FA}{d1 d2:List L4.D}{k1 k2:List Key}(h1:a ρ=some (ds,ρ1))(h2:f ds=some ((k1,d1),(k2,d2))):DE i j f a ρ=some (.nx ((ρ1.set i (.dk k1 d1)).set j (.dk k2 d2))):=by unfold DE;rw[h1];simp only[h2]
def rgE:FE:=Hy (qz (c2 (dEq false) cf dr) (c2 (dIn false) (cV 8) (cL (rq (cL (pb gH)) (cL (oX pS (n4 az gH)))))))
def ptS:FS:=sIf (cT (c2 (dEq false) cf dr)) (pC 3 (cV 8) (cV 9)) (pC 4 (cV 8) (cV 9))
def tlS:FS:=(oh (oQ 12 (BY (oa sP je)))
 (oh ptS
 (oh (sIf (BX (cT (c2 (dEq true) (oa rR nP) (oa sP je)))) (oT bJ) oV)
 (oh (sIf (cT (c2 (dEq true) (oa rR nQ) (cV 12))) (oT bJ) oV)
 (oQ 5 dR)))))
def lB:FS:=(oh (G0 (oa sO (n4 ag (a1 bg))) (gT (oG (gN 7) (oG (gN 8) (oG (gN 9) qA))) 3))
 (oh (oQ 10 (oa tE nN))
 (oh (oQ 11 rgE)
 (oh (sIf (p5 (cT (oa tU nL))) (oT bJ) oV)
 (sIf (p5 (cT (cV 11))) tlS oV)))))
variable{so:Str}
section
variable{A A':List (Str×Str)}{V V':List (Str×Int)}{S S':List (Ky×L4.D)}{y r:Str}{T:List Th}{M:List Mk}{dk:aE}{R:List Ky}
abbrev stR(sc:L4.D)(T:List Th)(M:List Mk)(dk:aE)(y:Str)(c:Int)(A:List (Str×Str))(V:List (Str×Int))(S:List (Ky×L4.D))(p7 p8 p9 p10 p11 p12:Sl):aV:=[.im sc,.im (pV T M dk y),.im (wM T M dk y),dkA A,dkV V,.im (sD S),.im (.int c),p7,p8,p9,p10,p11,p12]
theorem ahead(sc:L4.D)(c:Int)(p7 p8 p9 p10 p11 p12:Sl){x:Str}{v:L4.D}(hp:sO [pV T M dk y,.int c]=some (.tup [.str so,.str x,v]))(hw:tE [sD S,.tup [.str so,.str x],v]=some (sD S'))
  (hr:rgE (stR sc T M dk y c A V S (.im (.str so)) (.im (.str x)) (.im v) (.im (sD S')) p11 p12)=some (.bl b,stR sc T M dk y c A V S (.im (.str so)) (.im (.str x)) (.im v) (.im (sD S')) p11 p12)) (hs:rK [wM T M dk y,sD S']=some (.bl (!b))):
  lB (stR sc T M dk y c A V S p7 p8 p9 p10 p11 p12)=sIf (p5 (cT (cV 11))) tlS oV (stR sc T M dk y c A V S (.im (.str so)) (.im (.str x)) (.im v) (.im (sD S')) (.im (.bl b)) p12):=by
 let ρ:=stR sc T M dk y c A V S (.im (.str so)) (.im (.str x)) (.im v);unfold lB;refine(n9 (ρ':=ρ p10 p11 p12) (Vk (og (n8 rfl (n8 rfl rfl)) hp) rfl)).trans ?_;refine(n9 (ρ':=ρ (.im (sD S')) p11 p12) ((oK (og (n8 rfl (n8 (vO (ds:=[.str so,.str x]) (n8 rfl (n8 rfl rfl)) (show 2<=1000 by decide)) (n8 rfl rfl))) hw)).trans rfl)).trans ?_;refine(n9 (ρ':=ρ (.im (sD S')) (.im (.bl b)) p12) ((oK hr).trans rfl)).trans ?_;refine(n9 (ρ':=ρ (.im (sD S')) (.im (.bl b)) p12) ((pd (sT (pL (og (ds:=[.bl (!b),.bl (!b)]) (n8 (og (n8 rfl (n8 rfl rfl)) hs) (n8 ?_ rfl)) (NB _))))).trans rfl)).trans rfl;cases b<;>rfl
theorem Jp(g:Good T M dk)(sc:L4.D)(c:Int)(p12:Sl)(hp:p12.ldk=true){x:Str}{v:L4.D}(s:Std T M R y A V S)(s':Std T M R y A' V' S')
  (hd:∀q,ptS (stR sc T M dk y c A V S (.im (.str so)) (.im (.str x)) (.im v) (.im (sD S')) (.im (.bl false)) q)=some (.nx (stR sc T M dk y c A' V' S (.im (.str so)) (.im (.str x)) (.im v) (.im (sD S')) (.im (.bl false)) q))):
  ∃q,q.ldk=true/\tlS (stR sc T M dk y c A V S (.im (.str so)) (.im (.str x)) (.im v) (.im (sD S')) (.im (.bl false)) p12)=some (.nx (stR sc T M dk y c A' V' S' (.im (.str so)) (.im (.str x)) (.im v) (.im (sD S')) (.im (.bl false)) q)):=by
 obtain⟨r,i⟩:=s.sit g;obtain⟨r',i'⟩:=s'.sit g;let ρ:=λA V S=>stR sc T M dk y c A V S (.im (.str so)) (.im (.str x)) (.im v) (.im (sD S')) (.im (.bl false));let ω:=λ(A:List (Str×Str)) (V:List (Str×Int)) (q:Sl)=>([.im sc,.im (pV T M dk y),.im (wM T M dk y),.im (atD A),.im (dcI V),.im (sD S),.im (.int c),.im (.str so),.im (.str x),.im v,.im (sD S'),.im (.bl false),q.lnd]:aV);let t:L4.D:=GE dk i;refine⟨.im t,rfl,?_⟩;unfold tlS;refine(n9 (ρ':=ρ A V S (.im t)) ((oK (QC (ρ1:=ω A V p12) ?_ (og (n8 rfl (n8 rfl (n8 rfl rfl))) (Jo i)) (KI i))).trans rfl)).trans ?_
 ·show (p12.ldk&&true)=true;rw[hp];rfl
 refine(n9 (hd _)).trans ?_;refine(n9 (ρ':=ρ A' V' S (.im t)) ((pd (QB (ρ1:=ω A' V' (.im t)) (pL (ou (og (n8 rfl (n8 rfl (n8 rfl rfl))) (Jn i')) (og (n8 rfl (n8 rfl (n8 rfl rfl))) (Jo i')) (NU i'))))).trans rfl)).trans ?_;refine(n9 (ρ':=ρ A' V' S (.im t)) ((pd (pL (ou (og (n8 rfl (n8 rfl (n8 rfl rfl))) (Jn i)) rfl (NU i)))).trans rfl)).trans ?_;rfl
theorem QE(g:Good T M dk)(hy:(T.filter λt=>decide (t.k=.you)).map Th.n=[y])(eR:tI ((sv T M).map kD)=some (R.map kD))(sc:L4.D)(s:Std T M R y A V S)(c:Int)(p7 p8 p9 p10 p11 p12:Sl)(hp:p12.ldk=true):
  ∃A' V' S' q7 q8 q9 q10 q11 q12,Std T M R y A' V' S'/\q12.ldk=true/\lB (stR sc T M dk y c A V S p7 p8 p9 p10 p11 p12)=some (.nx (stR sc T M dk y c A' V' S' q7 q8 q9 q10 q11 q12)):=by
 obtain⟨l1,l2,l3⟩:=s.len g;have hrm:rms T≠[]:=by obtain⟨r,hr⟩:=s.ok.a.yo;exact mf (s.ok.hY r hr)
 rcases Vj g hy hrm c with ⟨x,m,n,e,hm,h0,h1⟩|⟨x,z,e,hx,hz,hyz⟩
 ·have s':=s.putV hm h0 h1;have hr:∀p11 p12,rgE (stR sc T M dk y c A V S (.im (.str "mark")) (.im (.str x)) (.im (.int n)) (.im (sD (upS ("mark", x) (.int n) S))) p11 p12)=some (.bl false,stR sc T M dk y c A V S (.im (.str "mark")) (.im (.str x)) (.im (.int n)) (.im (sD (upS ("mark", x) (.int n) S))) p11 p12):=λp11 p12=>NV (xB (ou (x:=.str "mark") (y:=.str "at") rfl rfl (by rw[se];rfl))) rfl
  have hxV:x∈V.map au:=by rw[s.ok.vn,show mks T M=(moL T M).map au from EO.symm];exact av.mpr ⟨_,hm,rfl⟩
  obtain⟨q,hq,et⟩:=Jp g sc c p12 hp (so:="mark") (x:=x) (v:=.int n) s s' λq=>(pd (pL (ou (x:=.str "mark") (y:=.str "at") rfl rfl (by rw[se];rfl)))).trans ((NS D.int (v:=n) V rfl rfl rfl hxV (by omega)).trans rfl)
  exact⟨_,_,_,_,_,_,_,_,_,s',hq,(ahead sc c p7 p8 p9 p10 p11 p12 e (EU S (by omega) ("mark", x) (.int n)) (hr p11 p12) (s'.is g eR)).trans ((pG (sT (b:=false) (pL rfl))).trans et)⟩
 ·have ch:=KF s.ok.a z;have ll:=NH s.ok.a z;generalize lf s.ok.a z=lz at ch ll;have hr:∀p11 p12,rgE (stR sc T M dk y c A V S (.im (.str "at")) (.im (.str x)) (.im (.str z)) (.im (sD (upS ("at", x) (.str z) S))) p11 p12)=some (.bl (decide (x∈z::lz)),stR sc T M dk y c A V S (.im (.str "at")) (.im (.str x)) (.im (.str z)) (.im (sD (upS ("at", x) (.str z) S))) p11 p12):=λp11 p12=>NV ((pQ (ou (x:=.str "at") (y:=.str "at") rfl rfl (by rw[se];rfl))).trans (ou (x:=.str x) (y:=.lst ((z::lz).map D.str)) rfl (px (ue (xs:=[.str z]) (ys:=lz.map D.str) (px (Ep (n8 rfl rfl) (show 1<=1000 by decide))) (px (og (n8 rfl (n8 rfl rfl)) (HR s.ok.a ch ll))) (by rw[ah];show 1+_<=1000;omega))) (rD false x (z::lz)))) rfl
  by_cases hb:x∈z::lz
  ·rw[aZ hb]at hr;exact⟨A,V,S,_,_,_,_,_,p12,s,hp,(ahead sc c p7 p8 p9 p10 p11 p12 e (EU S (by omega) ("at", x) (.str z)) (hr p11 p12) (s.ring g eR hx hz hyz ch hb)).trans ((pd (sT (b:=true) (pL rfl))).trans rfl)⟩
  ·rw[aR hb]at hr;rw[aL,not_or]at hb;have s':=s.putA g hx hz hyz ch (λw=>hb.1 w.symm) hb.2;have hxA:x∈A.map au:=by rw[s.ok.kA];exact hx
   obtain⟨q,hq,et⟩:=Jp g sc c p12 hp (so:="at") (x:=x) (v:=.str z) s s' λq=>(pG (pL (ou (x:=.str "at") (y:=.str "at") rfl rfl (by rw[se];rfl)))).trans ((NS D.str (v:=z) A rfl rfl rfl hxA (by omega)).trans rfl)
   exact⟨_,_,_,_,_,_,_,_,_,s',hq,(ahead sc c p7 p8 p9 p10 p11 p12 e (EU S (by omega) ("at", x) (.str z)) (hr p11 p12) (s'.is g eR)).trans ((pG (sT (b:=false) (pL rfl))).trans et)⟩
end
theorem Vl(ns:List Int)(hl:ns.length<=63):QY [.fzl (ns.map D.int)]=some (.bl true):=by
 obtain⟨c0,e0⟩:=Qv ns 0;obtain⟨T,M,dk,y,es,g,hy⟩:=Qg c0;have ew:=M9 g hy (Nj g);obtain⟨R,pR,eR,oR⟩:=Qq g;obtain⟨S,ef,s⟩:=Nw g hy pR eR;let sc:=D.fzl (ns.map D.int);let W:=wM T M dk y;let sp:=pV T M dk y;let ρ:List (Str×Str)->List (Str×Int)->List (Ky×L4.D)->Sl->Sl->Sl->Sl->Sl->Sl->Sl->aV:=λA V S p6 p7 p8 p9 p10 p11 p12=>[.im sc,.im sp,.im W,dkA A,dkV V,.im (sD S),p6,p7,p8,p9,p10,p11,p12];have loop:∀(l:List Int) (A:List (Str×Str)) (V:List (Str×Int)) (S:List (Ky×L4.D)) (p6 p7 p8 p9 p10 p11 p12:Sl),Std T M R y A V S->p12.ldk=true->∃A' V' S' q6 q7 q8 q9 q10 q11 q12,forL (gN 6) lB (l.map D.int) (ρ A V S p6 p7 p8 p9 p10 p11 p12)=some (.nx (ρ A' V' S' q6 q7 q8 q9 q10 q11 q12)):=by
  intro l
  induction l with
  |nil=>exact λA V S p6 p7 p8 p9 p10 p11 p12 _ _=>⟨A,V,S,p6,p7,p8,p9,p10,p11,p12,rfl⟩
  |cons c l ih=>intro A V S p6 p7 p8 p9 p10 p11 p12 s hp;obtain⟨A',V',S',q7,q8,q9,q10,q11,q12,s',hq,ev⟩:=QE g hy eR sc s c p7 p8 p9 p10 p11 p12 hp;obtain⟨A2,V2,S2,r6,r7,r8,r9,r10,r11,r12,h⟩:=ih A' V' S' (.im (.int c)) q7 q8 q9 q10 q11 q12 s' hq;refine⟨A2,V2,S2,r6,r7,r8,r9,r10,r11,r12,?_⟩;rw[ay];unfold forL;rw[show gN 6 (.int c) (ρ A V S p6 p7 p8 p9 p10 p11 p12)=some (stR sc T M dk y c A V S p7 p8 p9 p10 p11 p12) from rfl];simp only[ev];exact h
 let cs:List Int:=(ns.drop (HT.sIx ns.length 0 (some 1))).take (HT.sIx ns.length ns.length (some 25) - HT.sIx ns.length 0 (some 1));have ec:cutD (ns.map D.int) (some 1) (some 25)=cs.map D.int:=by unfold cutD;rw[ah,<- gf,<- fj]
 obtain⟨A',V',S',q6,q7,q8,q9,q10,q11,q12,e⟩:=loop cs (A0 T) (V0 T M) S .un .un .un .un .un .un .un s rfl;let u:aV:=[.un,.un,.un,.un,.un,.un,.un,.un];refine oH (ρ:=ρ A' V' S' q6 q7 q8 q9 q10 q11 q12) rfl ?_;refine(n9 (ρ':=[.im sc,.im sp,.un,.un,.un]++u) ((oK (og (n8 (og (n8 rfl (n8 rfl rfl)) e0) rfl) es)).trans rfl)).trans ?_;refine(n9 (ρ':=[.im sc,.im sp,.im W,.un,.un]++u) ((oK (og (n8 rfl rfl) ew)).trans rfl)).trans ?_;refine(n9 (ρ':=[.im sc,.im sp,.im W,dkA (A0 T),dkV (V0 T M)]++u) ?_).trans ?_
 ·exact(QD (ds:=[sp]) rfl (NO g)).trans rfl
 refine(n9 (ρ':=ρ (A0 T) (V0 T M) S .un .un .un .un .un .un .un) ((oK (og (n8 rfl rfl) ef)).trans rfl)).trans ?_;refine(n9 ((pJ (ds:=cs.map D.int) (ρ1:=ρ (A0 T) (V0 T M) S .un .un .un .un .un .un .un) ?_).trans e)).trans rfl;exact(show _=some (cutD (ns.map D.int) (some 1) (some 25),ρ (A0 T) (V0 T M) S .un .un .un .un .un .un .un) from rfl).trans (by rw[ec])
end K19x
namespace K19x
open PySem L2 L3 L4
open PySem.W (nsIn)
structure Fx(K:ar)(C0 C1 C2 C3 C4 C5 C6 C7 C8 C9 C10 C11 C12 C13 C14:Addr):Prop where
 a0:nsIn K mainGlobals "Thing" = some (some (.ref C0))
 a1:nsIn K mainGlobals "Mark" = some (some (.ref C1))
 a2:nsIn K mainGlobals "Verb" = some (some (.ref C2))
 a3:nsIn K mainGlobals "At" = some (some (.ref C3))
 a4:nsIn K mainGlobals "Has" = some (some (.ref C4))
 a5:nsIn K mainGlobals "Seen" = some (some (.ref C5))
 a6:nsIn K mainGlobals "Marked" = some (some (.ref C6))
 a7:nsIn K mainGlobals "Kind" = some (some (.ref C7))
 a8:nsIn K mainGlobals "Word" = some (some (.ref C8))
 a9:nsIn K mainGlobals "Not" = some (some (.ref C9))
 a10:nsIn K mainGlobals "Both" = some (some (.ref C10))
 a11:nsIn K mainGlobals "Move" = some (some (.ref C11))
 a12:nsIn K mainGlobals "Put" = some (some (.ref C12))
 a13:nsIn K mainGlobals "Rule" = some (some (.ref C13))
 a14:nsIn K mainGlobals "World" = some (some (.ref C14))
 k0:CF K C0 ["kind", "name", "start", "words"]
 k1:CF K C1 ["most", "name", "start"]
 k2:CF K C2 ["joining", "name", "others", "form"]
 k3:CF K C3 ["place", "term"]
 k4:CF K C4 ["term"]
 k5:CF K C5 []
 k6:CF K C6 ["term", "value"]
 k7:CF K C7 ["kind", "term"]
 k8:CF K C8 []
 k9:CF K C9 ["inner"]
 k10:CF K C10 []
 k11:CF K C11 ["place", "term"]
 k12:CF K C12 ["term", "value"]
 k13:CF K C13 ["verb", "deeds", "refuses", "tests", "text"]
 k14:CF K C14 ["copied_rules", "kept_dark", "kept_marks", "kept_things", "kept_verbs", "mosts_by_name", "shared_rules", "shared_verbs", "things_by_name", "your_name", "kept_rules", "kept_ways", "rules_by_verb", "verbs_by_word"]
 i_Mark:Bb K [C0,C1,C2,C3,C4,C5,C6,C7,C8,C9,C10,C11,C12,C13,C14] C1 1=true
 i_Thing:Bb K [C0,C1,C2,C3,C4,C5,C6,C7,C8,C9,C10,C11,C12,C13,C14] C0 0=true
 nd:decide ([C0,C1,C2,C3,C4,C5,C6,C7,C8,C9,C10,C11,C12,C13,C14]:List Addr).Nodup=true
 e:((["all", "any", "bool", "int", "isinstance", "len", "list", "range", "set", "sorted", "str", "tuple", "zip"]:aE).all λx=>match nsIn K mainGlobals x with|some none=>true|_=>false)=true
 g0:GS K "KINDS" ["room", "plain", "fixed", "box", "lamp", "you"]
 g1:GS K "KINDS_APART" ["room", "you"]
 g2:GS K "KINDS_THAT_HOLD" ["room", "box", "you"]
 g3:GS K "KINDS_WITH_MARK" ["box", "lamp"]
 g4:GC K "MOST_BESIDE" 7
 g5:GC K "MOST_IN_NAME" 8
 g6:GC K "MOST_IN_WORD" 12
 g7:GC K "MOST_MARKS" 4
 g8:GC K "MOST_OF_MARK" 3
 g9:GC K "MOST_ROOMS" 5
 g10:GC K "MOST_RULES" 20
 g11:GC K "MOST_VERBS" 6
 g12:GC K "MOST_WAYS" 10
 g13:GC K "MOST_WORDS" 4
 g14:GS K "NO_NAMES" ["it", "other", "here", "the", "a", "undo", "restart"]
 g15:GS K "NO_WORDS" ["the", "a"]
 g16:GS K "NO_WORDS_OF_ROWS" ["the", "a", "undo", "restart"]
 q17:GD K "is_small_letters" (top 6)
 q18:GD K "is_name" (top 7)
 q19:GD K "is_word" (top 8)
 q20:GD K "is_one_of" (top 10)
 q21:GD K "is_whole" (top 11)
 q22:GD K "is_list_up_to" (top 12)
 q23:GD K "own_list" (top 109)
 q24:GJ K C0 "Thing.__init__" (inClass (top 44) 0) [V.non]
 q25:GM K C1 "__init__" "Mark.__init__" (inClass (top 45) 0)
 q26:GJ K C2 "Verb.__init__" (inClass (top 46) 0) [V.non,(V.str "one"),V.non]
 q27:GM K C3 "__init__" "At.__init__" (inClass (top 86) 0)
 q28:GM K C4 "__init__" "Has.__init__" (inClass (top 87) 0)
 q29:GM K C6 "__init__" "Marked.__init__" (inClass (top 89) 0)
 q30:GM K C7 "__init__" "Kind.__init__" (inClass (top 90) 0)
 q31:GM K C9 "__init__" "Not.__init__" (inClass (top 93) 0)
 q32:GM K C11 "__init__" "Move.__init__" (inClass (top 100) 0)
 q33:GM K C12 "__init__" "Put.__init__" (inClass (top 101) 0)
 q34:GJ K C13 "Rule.__init__" (inClass (top 108) 0) [(V.bl false)]
 q35:GM K C0 "can_hold" "Thing.can_hold" (inClass (top 44) 1)
 q36:GM K C0 "has_mark" "Thing.has_mark" (inClass (top 44) 2)
 q37:GM K C0 "is_plainly" "Thing.is_plainly" (inClass (top 44) 3)
 q38:GD K "refuse_unless" (top 59)
 q39:GD K "count_of" (top 62)
 q40:GD K "plain_ones" (top 63)
 q41:GD K "is_mark" (top 65)
 q42:GD K "check_things" (top 61)
 q43:GD K "check_marks" (top 64)
 q44:GD K "are_unlike" (top 67)
 q45:GD K "check_names" (top 66)
 q46:GD K "mark_names" (top 68)
 q47:GD K "is_start" (top 70)
 q48:GDa K "comes_to_room_checks" "comes_to_room" (top 71)
 q49:GD K "check_starts" (top 69)
 q50:GD K "are_words" (top 74)
 q51:GD K "has_all" (top 76)
 q52:GD K "is_told_apart" (top 75)
 q53:GD K "check_words_of_things" (top 73)
 q54:GD K "check_dark" (top 77)
 q55:GD K "check_ways" (top 78)
 q56:GD K "check_verbs" (top 80)
 q57:GD K "are_apart" (top 83)
 q58:GD K "check_vocabulary" (top 82)
 q59:GD K "check_parts" (top 60)
 q60:GD K "does" (top 132)
 q61:GD K "refuses" (top 133)
 q62:GD K "hand_rules" (top 134)
 q63:GD K "put_rules" (top 135)
 q64:GD K "lid_rules" (top 136)
 q65:GD K "flame_rules" (top 137)
 q66:GD K "go_rules" (top 138)
 q67:GD K "wait_rules" (top 140)
 q68:GD K "common_rules" (top 131)
 q69:GD K "common_verbs" (top 130)
 q70:GD K "by_name" (top 144)
 q71:GD K "mosts_by_name" (top 145)
 q72:GD K "verbs_by_word" (top 146)
 q73:GD K "by_verb" (top 147)
 q74:GM K C14 "of_kind" "World.of_kind" (inClass (top 143) 3)
 q75:GM K C14 "all_verbs" "World.all_verbs" (inClass (top 143) 13)
 q76:GM K C14 "__init__" "World.__init__" (inClass (top 143) 0)
 q77:GD K "is_same_text" (top 9)
 q78:GM K C14 "you" "World.you" (inClass (top 143) 4)
 q79:GM K C14 "names" "World.names" (inClass (top 143) 1)
 q80:GM K C14 "is_dark" "World.is_dark" (inClass (top 143) 5)
 q81:GM K C14 "thing_of" "World.thing_of" (inClass (top 143) 2)
 q82:GM K C14 "most_of" "World.most_of" (inClass (top 143) 6)
 q83:GM K C14 "own_marks" "World.own_marks" (inClass (top 143) 7)
 q84:GM K C14 "parts" "World.parts" (inClass (top 143) 18)
 q85:GD K "own_starts" (top 15)
 q86:GD K "first_value" (top 16)
 q87:GD K "first_stand" (top 14)
 q88:GD K "value_of" (top 17)
 q89:GD K "at_of" (top 18)
 q90:GD K "mark_of" (top 19)
 q91:GD K "with_part" (top 20)
 q92:GD K "holders_of" (top 29)
 q93:GD K "room_of" (top 30)
 q94:GD K "has" (top 33)
 q95:GD K "is_shut" (top 32)
 q96:GD K "in_open" (top 31)
 q97:GD K "burns_in" (top 35)
 q98:GD K "is_lit" (top 34)
 q99:GD K "is_seen" (top 36)
 q100:GD K "seen" (top 37)
 q101:GDa K "comes_to_room_stands" "comes_to_room" (top 26)
 q102:GD K "is_two" (top 22)
 q103:GD K "is_part" (top 23)
 q104:GD K "is_holder" (top 25)
 q105:GD K "is_value" (top 24)
 q106:GD K "is_stand" (top 21)
 q107:GD K "_law_cell_at" (top 149)
 q108:GD K "_law_draws" (top 150)
 q109:GD K "_law_take" (top 151)
 q110:GD K "_law_names" (top 152)
 q111:GD K "_law_others" (top 153)
 q112:GD K "_law_spec" (top 154)
 q113:GD K "_law_world" (top 155)
 q114:GD K "_law_of" (top 156)
 q115:GD K "_law_mosts" (top 157)
 q116:GD K "_law_holders" (top 158)
 q117:GD K "_law_in_open" (top 159)
 q118:GD K "_law_lit" (top 160)
 q119:GD K "_law_seen" (top 161)
 q120:GD K "_law_truth" (top 162)
 q121:GD K "_law_begin" (top 163)
 q122:GD K "_law_put" (top 164)
 q123:GD K "_law_told" (top 165)
 q124:GD K "_law_due" (top 166)
 q125:GD K "law" (top 167)
class Yx(B:Bz):Prop where
 y:Yw B.P B.w B.mg B.base B.G
 f:Fx B.G.K (B.G.ca 0) (B.G.ca 1) (B.G.ca 2) (B.G.ca 3) (B.G.ca 4) (B.G.ca 5) (B.G.ca 6) (B.G.ca 7) (B.G.ca 8) (B.G.ca 9) (B.G.ca 10) (B.G.ca 11) (B.G.ca 12) (B.G.ca 13) (B.G.ca 14)
section
variable{B:Bz}[Y:Yx B]
instance:Yb B:=⟨Y.y⟩
instance:Nb B "all" := ⟨Y.y.n Y.f.e 0 rfl⟩
instance:Nb B "any" := ⟨Y.y.n Y.f.e 1 rfl⟩
instance:Nb B "bool" := ⟨Y.y.n Y.f.e 2 rfl⟩
instance:Nb B "int" := ⟨Y.y.n Y.f.e 3 rfl⟩
instance:Nb B "isinstance" := ⟨Y.y.n Y.f.e 4 rfl⟩
instance:Nb B "len" := ⟨Y.y.n Y.f.e 5 rfl⟩
instance:Nb B "list" := ⟨Y.y.n Y.f.e 6 rfl⟩
instance:Nb B "range" := ⟨Y.y.n Y.f.e 7 rfl⟩
instance:Nb B "set" := ⟨Y.y.n Y.f.e 8 rfl⟩
instance:Nb B "sorted" := ⟨Y.y.n Y.f.e 9 rfl⟩
instance:Nb B "str" := ⟨Y.y.n Y.f.e 10 rfl⟩
instance:Nb B "tuple" := ⟨Y.y.n Y.f.e 11 rfl⟩
instance:Nb B "zip" := ⟨Y.y.n Y.f.e 12 rfl⟩
instance:Co B "KINDS" EH:=⟨Y.y.cs Y.f.g0⟩
instance:Co B "KINDS_APART" xY:=⟨Y.y.cs Y.f.g1⟩
instance:Co B "KINDS_THAT_HOLD" uH:=⟨Y.y.cs Y.f.g2⟩
instance:Co B "KINDS_WITH_MARK" uI:=⟨Y.y.cs Y.f.g3⟩
instance:Co B "MOST_BESIDE" xZ:=⟨Y.y.ci Y.f.g4⟩
instance:Co B "MOST_IN_NAME" xa:=⟨Y.y.ci Y.f.g5⟩
instance:Co B "MOST_IN_WORD" xb:=⟨Y.y.ci Y.f.g6⟩
instance:Co B "MOST_MARKS" tR:=⟨Y.y.ci Y.f.g7⟩
instance:Co B "MOST_OF_MARK" xc:=⟨Y.y.ci Y.f.g8⟩
instance:Co B "MOST_ROOMS" y4:=⟨Y.y.ci Y.f.g9⟩
instance:Co B "MOST_RULES" y7:=⟨Y.y.ci Y.f.g10⟩
instance:Co B "MOST_VERBS" y6:=⟨Y.y.ci Y.f.g11⟩
instance:Co B "MOST_WAYS" As:=⟨Y.y.ci Y.f.g12⟩
instance:Co B "MOST_WORDS" vS:=⟨Y.y.ci Y.f.g13⟩
instance:Co B "NO_NAMES" B2:=⟨Y.y.cs Y.f.g14⟩
instance:Co B "NO_WORDS" B3:=⟨Y.y.cs Y.f.g15⟩
instance:Co B "NO_WORDS_OF_ROWS" uh:=⟨Y.y.cs Y.f.g16⟩
instance:Ff B sJ "copied_rules" := ⟨vR (Y.f.k14.at 0 rfl)⟩
instance:Ff B wZ "joining" := ⟨vR (Y.f.k2.at 0 rfl)⟩
instance:Ff B xX "kept_dark" := ⟨vR (Y.f.k14.at 1 rfl)⟩
instance:Ff B sf "kept_marks" := ⟨vR (Y.f.k14.at 2 rfl)⟩
instance:Ff B pX "kept_things" := ⟨vR (Y.f.k14.at 3 rfl)⟩
instance:Ff B w9 "kept_verbs" := ⟨vR (Y.f.k14.at 4 rfl)⟩
instance:Ff B pB "kind" := ⟨orQ (vR (Y.f.k0.at 0 rfl)) (Y.f.k7.at 0 rfl)⟩
instance:Ff B uf "most" := ⟨vR (Y.f.k1.at 0 rfl)⟩
instance:Ff B uG "mosts_by_name" := ⟨vR (Y.f.k14.at 5 rfl)⟩
instance:Ff B oM "name" := ⟨orQ (orQ (vR (Y.f.k0.at 1 rfl)) (Y.f.k1.at 1 rfl)) (Y.f.k2.at 1 rfl)⟩
instance:Ff B yB "others" := ⟨vR (Y.f.k2.at 2 rfl)⟩
instance:Ff B sL "shared_rules" := ⟨vR (Y.f.k14.at 6 rfl)⟩
instance:Ff B vm "shared_verbs" := ⟨vR (Y.f.k14.at 7 rfl)⟩
instance:Ff B pN "start" := ⟨orQ (vR (Y.f.k0.at 2 rfl)) (Y.f.k1.at 2 rfl)⟩
instance:Ff B ug "things_by_name" := ⟨vR (Y.f.k14.at 8 rfl)⟩
instance:Ff B Gb "verb" := ⟨vR (Y.f.k13.at 0 rfl)⟩
instance:Ff B qL "words" := ⟨vR (Y.f.k0.at 3 rfl)⟩
instance:Ff B sV "your_name" := ⟨vR (Y.f.k14.at 9 rfl)⟩
instance:Af B 0 ["kind", "name", "start", "words"]:=⟨Y.f.k0⟩
instance:Af B 1 ["most", "name", "start"]:=⟨Y.f.k1⟩
instance:Af B 2 ["joining", "name", "others", "form"]:=⟨Y.f.k2⟩
instance:Af B 3 ["place", "term"]:=⟨Y.f.k3⟩
instance:Af B 4 ["term"]:=⟨Y.f.k4⟩
instance:Af B 6 ["term", "value"]:=⟨Y.f.k6⟩
instance:Af B 7 ["kind", "term"]:=⟨Y.f.k7⟩
instance:Af B 9 ["inner"]:=⟨Y.f.k9⟩
instance:Af B 11 ["place", "term"]:=⟨Y.f.k11⟩
instance:Af B 12 ["term", "value"]:=⟨Y.f.k12⟩
instance:Af B 13 ["verb", "deeds", "refuses", "tests", "text"]:=⟨Y.f.k13⟩
instance:Af B 14 ["copied_rules", "kept_dark", "kept_marks", "kept_things", "kept_verbs", "mosts_by_name", "shared_rules", "shared_verbs", "things_by_name", "your_name", "kept_rules", "kept_ways", "rules_by_verb", "verbs_by_word"]:=⟨Y.f.k14⟩
instance:Ic B "Mark" MM:=⟨1,DA Y.f.i_Mark rfl (P0 15 _) (Ku.at ⟨Y.f.k0.ci,Y.f.k1.ci,Y.f.k2.ci,Y.f.k3.ci,Y.f.k4.ci,Y.f.k5.ci,Y.f.k6.ci,Y.f.k7.ci,Y.f.k8.ci,Y.f.k9.ci,Y.f.k10.ci,Y.f.k11.ci,Y.f.k12.ci,Y.f.k13.ci,Y.f.k14.ci,trivial⟩),Y.y.g Y.f.a1⟩
instance:Ic B "Thing" IW:=⟨0,DA Y.f.i_Thing rfl (P0 15 _) (Ku.at ⟨Y.f.k0.ci,Y.f.k1.ci,Y.f.k2.ci,Y.f.k3.ci,Y.f.k4.ci,Y.f.k5.ci,Y.f.k6.ci,Y.f.k7.ci,Y.f.k8.ci,Y.f.k9.ci,Y.f.k10.ci,Y.f.k11.ci,Y.f.k12.ci,Y.f.k13.ci,Y.f.k14.ci,trivial⟩),Y.y.g Y.f.a0⟩
instance:Ij B 15:=⟨W9 Y.f.nd⟩
local macro_rules|`(tactic|trivial)=>do let x:=("WD Ws Wr Wt Wu MK Wy Tr Uo Wv Tp Uu Um S6 S7 Up Ur Ui Tv Ua TB Uv Td Te Tf Tg Ta Us WA Uw Tb Tt Uy Uz Uq UK Ts Tq To S5 TN TQ Ww UB Tj Tn UP Ti WB WC TY S8 S9 TZ Tc UH UI UJ UA UC Wx Tw Tx UD UE T2 TC TF T7 T8 T9 UF UG PY PX PZ Ub Uc Ud TM Ue Ug TR TU TV TX T6 T5 T4 Tu Uk Ul PV Ux TL UT TH TJ UQ UN UO UV UY UW UX UR US PU UL Ut".splitOn " ").toArray.map fun s=>Lean.mkIdent (.mkSimple s);`(tactic|repeat' first|(with_reducible apply eqI);(first|rfl|kernel_rfl)|((with_reducible first|apply Uj|apply zr_cpM);rotate_left 7;rfl)|(with_reducible first $[|apply $x]*)|(with_reducible intro _)|exact mZ)
instance:Df B 1 "is_small_letters" (spF B.G rG):=gF4 rfl Y.f.q17 rfl (by unfold ui;trivial)
instance:Df B 2 "is_name" (spF B.G xJ):=gF4 rfl Y.f.q18 rfl (by unfold DF;trivial)
instance:Df B 2 "is_word" (spF B.G tY):=gF4 rfl Y.f.q19 rfl (by unfold DG;trivial)
instance:Df B 1 "is_one_of" (spF B.G qj):=gF4 rfl Y.f.q20 rfl (by unfold Au;trivial)
instance:Df B 1 "is_whole" (spF B.G uj):=gF4 rfl Y.f.q21 rfl (by unfold B4;trivial)
instance:Df B 1 "is_list_up_to" (spF B.G qe):=gF4 rfl Y.f.q22 rfl (by unfold wo;trivial)
instance:Df B 1 "own_list" (spF B.G yC):=gF4 rfl Y.f.q23 rfl (by unfold B5;trivial)
instance:Kf B 1 "Thing" 0 y9 []:=gJ4 (dds:=[D.non]) Y.f.k0 Y.f.a0 rfl Y.f.q24 rfl rfl (by unfold y8;trivial) 1
instance:Kf B 1 "Mark" 1 Aw []:=gI4 Y.f.k1 Y.f.a1 rfl Y.f.q25 rfl rfl (by unfold Av;trivial)
theorem wg:Bdz B (nmO (inClass (top 46) 0)) "Verb.__init__" (inClass (top 46) 0) (o8 (inClass (top 46) 0)) 0 xf:=by
 unfold xf;refine MK ?_ ?_
 all_goals trivial
instance:Kf B 1 "Verb" 2 qY [D.non,(D.str "one"),D.non]:=gJ4 (dds:=[D.non,(D.str "one"),D.non]) Y.f.k2 Y.f.a2 rfl Y.f.q26 rfl rfl wg 0
instance:Kf B 1 "Verb" 2 qY [D.non]:=gJ4 (dds:=[D.non,(D.str "one"),D.non]) Y.f.k2 Y.f.a2 rfl Y.f.q26 rfl rfl wg 2
instance:Kf B 1 "Verb" 2 qY []:=gJ4 (dds:=[D.non,(D.str "one"),D.non]) Y.f.k2 Y.f.a2 rfl Y.f.q26 rfl rfl wg 3
instance:Kf B 1 "At" 3 DI []:=gI4 Y.f.k3 Y.f.a3 rfl Y.f.q27 rfl rfl (by unfold DH;trivial)
instance:Kf B 1 "Has" 4 yD []:=gI4 Y.f.k4 Y.f.a4 rfl Y.f.q28 rfl rfl (by unfold B6;trivial)
instance:Kf B 1 "Marked" 6 qM []:=gI4 Y.f.k6 Y.f.a6 rfl Y.f.q29 rfl rfl (by unfold x3;trivial)
instance:Kf B 1 "Kind" 7 qZ []:=gI4 Y.f.k7 Y.f.a7 rfl Y.f.q30 rfl rfl (by unfold Ax;trivial)
instance:Kf B 1 "Not" 9 rH []:=gI4 Y.f.k9 Y.f.a9 rfl Y.f.q31 rfl rfl (by unfold B7;trivial)
instance:Kf B 1 "Move" 11 tw []:=gI4 Y.f.k11 Y.f.a11 rfl Y.f.q32 rfl rfl (by unfold Ay;trivial)
instance:Kf B 1 "Put" 12 uk []:=gI4 Y.f.k12 Y.f.a12 rfl Y.f.q33 rfl rfl (by unfold B8;trivial)
instance:Kf B 2 "Rule" 13 xg []:=gJ4 (dds:=[(D.bl false)]) Y.f.k13 Y.f.a13 rfl Y.f.q34 rfl rfl (by unfold AA;trivial) 1
instance:Mf B 9 "can_hold" qa:=⟨λc h e=>by
 unfold qa at e;split at e
 ·cases e;exact hF4 (k:=8) Y.f.k0 rfl Y.f.q35 rfl (by unfold vo;trivial)
 ·cases e⟩
instance:Mf B 9 "has_mark" qq:=⟨λc h e=>by
 unfold qq at e;split at e
 ·cases e;exact hF4 (k:=8) Y.f.k0 rfl Y.f.q36 rfl (by unfold vq;trivial)
 ·cases e⟩
instance:Mf B 9 "is_plainly" qr:=⟨λc h e=>by
 unfold qr at e;split at e
 ·cases e;exact hF4 (k:=8) Y.f.k0 rfl Y.f.q37 rfl (by unfold um;trivial)
 ·cases e⟩
instance:Df B 1 "refuse_unless" (spF B.G oB):=gF4 rfl Y.f.q38 rfl (by unfold wq;trivial)
instance:Df B 1 "count_of" (spF B.G vT):=gF4 rfl Y.f.q39 rfl (by unfold B9;trivial)
instance:Df B 10 "plain_ones" (spN B.G rj):=gN4 rfl Y.f.q40 rfl (by unfold zc;trivial)
instance:Df B 2 "is_mark" (spF B.G zW):=gF4 rfl Y.f.q41 rfl (by unfold zV;trivial)
instance:Df B 11 "check_things" (spF B.G ur):=gF4 rfl Y.f.q42 rfl (by unfold uq;trivial)
instance:Df B 3 "check_marks" (spF B.G uS):=gF4 rfl Y.f.q43 rfl (by unfold uR;trivial)
instance:Df B 1 "are_unlike" (spF B.G qk):=gF4 rfl Y.f.q44 rfl (by unfold zd;trivial)
instance:Df B 3 "check_names" (spF B.G uU):=gF4 rfl Y.f.q45 rfl (by unfold uT;trivial)
instance:Df B 10 "mark_names" (spN B.G qC):=gN4 rfl Y.f.q46 rfl (by unfold zi;trivial)
instance:Df B 10 "is_start" (spF B.G yF):=gF4 rfl Y.f.q47 rfl (by unfold yE;trivial)
instance:Df B 1 "comes_to_room_checks" (spF B.G qD):=gA4 rfl Y.f.q48 rfl (by unfold sj;trivial)
instance:Df B 11 "check_starts" (spF B.G uv):=gF5 ["things", "starts", "thing"] rfl Y.f.q49 rfl (by unfold uu;trivial)
instance:Df B 3 "are_words" (spF B.G xi):=gF4 rfl Y.f.q50 rfl (by unfold xh;trivial)
instance:Df B 1 "has_all" (spF B.G xK):=gF4 rfl Y.f.q51 rfl (by unfold DJ;trivial)
instance:Df B 2 "is_told_apart" (spF B.G tK):=gF4 rfl Y.f.q52 rfl (by unfold tJ;trivial)
instance:Df B 11 "check_words_of_things" (spF B.G qu):=gF4 rfl Y.f.q53 rfl (by unfold qt;trivial)
instance:Df B 2 "check_dark" (spF B.G vV):=gF4 rfl Y.f.q54 rfl (by unfold vU;trivial)
instance:Df B 2 "check_ways" (spF B.G vW):=gF4 rfl Y.f.q55 rfl (by unfold zj;trivial)
instance:Df B 2 "check_verbs" (spF B.G uV):=gF4 rfl Y.f.q56 rfl (by unfold x4;trivial)
instance:Df B 1 "are_apart" (spF B.G tD):=gF4 rfl Y.f.q57 rfl (by unfold AB;trivial)
instance:Df B 11 "check_vocabulary" (spF B.G qE):=gF4 rfl Y.f.q58 rfl (by unfold rJ;trivial)
instance:Df B 12 "check_parts" (spF B.G uX):=gF4 rfl Y.f.q59 rfl (by unfold uW;trivial)
instance:Df B 4 "does" (spF B.G uY):=gF4 rfl Y.f.q60 rfl (by unfold MN;trivial)
instance:Df B 4 "refuses" (spF B.G pK):=gF4 rfl Y.f.q61 rfl (by unfold DK;trivial)
instance:Df B 5 "hand_rules" (spN B.G zm):=gN4 rfl Y.f.q62 rfl (by unfold zk;trivial)
instance:Df B 5 "put_rules" (spN B.G AD):=gN4 rfl Y.f.q63 rfl (by unfold AC;trivial)
instance:Df B 5 "lid_rules" (spN B.G AF):=gN4 rfl Y.f.q64 rfl (by unfold AE;trivial)
instance:Df B 5 "flame_rules" (spN B.G yb):=gN4 rfl Y.f.q65 rfl (by unfold ya;trivial)
instance:Df B 5 "go_rules" (spN B.G Cb):=gN4 rfl Y.f.q66 rfl (by unfold Ca;trivial)
instance:Df B 5 "wait_rules" (spN B.G zq):=gN4 rfl Y.f.q67 rfl (by unfold zp;trivial)
instance:Df B 6 "common_rules" (spN B.G ra):=gN4 rfl Y.f.q68 rfl (by unfold xj;trivial)
instance:Df B 3 "common_verbs" (spN B.G qv):=gN4 rfl Y.f.q69 rfl (by unfold xk;trivial)
instance:Df B 1 "by_name" (spF B.G zY):=gF4 rfl Y.f.q70 rfl (by unfold zX;trivial)
instance:Df B 10 "mosts_by_name" (spF B.G qJ):=gF4 rfl Y.f.q71 rfl (by unfold tL;trivial)
instance:Df B 1 "verbs_by_word" (spF B.G qK):=gF4 rfl Y.f.q72 rfl (by unfold wu;trivial)
instance:Df B 1 "by_verb" (spF B.G vv):=gF4 rfl Y.f.q73 rfl (by unfold DL;refine⟨Ka (stW (by kernel_rfl) Fd rfl) (KW mZ rfl (Ft (Fl B.G.K (GZ (pvI (by kernel_rfl))))) (pgI (by kernel_rfl)) (A3 (HV (Ln B.G.K fX jy l9 zD (Mm (pvI (by kernel_rfl)) (LC (GZ (pvI (by kernel_rfl))) (Ff.p (B:=B))) (K8 uO) ⟨rfl,rfl,rfl,rfl⟩) (qS (pvI (by kernel_rfl)) uO))))) (D9 (PE.ghost (pvI (by kernel_rfl))))⟩)
instance:Mf B 9 "of_kind" qN:=⟨λc h e=>by
 unfold qN at e;split at e
 ·cases e;exact hF4 (k:=8) Y.f.k14 rfl Y.f.q74 rfl (by unfold wx;trivial)
 ·cases e⟩
instance:Mf B 9 "all_verbs" rE:=⟨λc h e=>by
 unfold rE at e;split at e
 ·cases e;exact hF4 (k:=8) Y.f.k14 rfl Y.f.q75 rfl (by unfold uJ;trivial)
 ·cases e⟩
instance:Kf B 13 "World" 14 sq []:=gI4 Y.f.k14 Y.f.a14 rfl Y.f.q76 rfl rfl (by unfold sm;trivial)
instance:Df B 1 "is_same_text" (spF B.G qw):=gF4 rfl Y.f.q77 rfl (by unfold xl;trivial)
instance:Mf B 9 "you" sM:=⟨λc h e=>by
 unfold sM at e;split at e
 ·cases e;exact hF4 (k:=8) Y.f.k14 rfl Y.f.q78 rfl (by unfold AG;trivial)
 ·cases e⟩
instance:Mf B 9 "names" rb:=⟨λc h e=>by
 unfold rb at e;split at e
 ·cases e;exact hF4 (k:=8) Y.f.k14 rfl Y.f.q79 rfl (by unfold yc;trivial)
 ·cases e⟩
instance:Mf B 9 "is_dark" sW:=⟨λc h e=>by
 unfold sW at e;split at e
 ·cases e;exact hF4 (k:=8) Y.f.k14 rfl Y.f.q80 rfl (by unfold wy;trivial)
 ·cases e⟩
instance:Mf B 9 "thing_of" pA:=⟨λc h e=>by
 unfold pA at e;split at e
 ·cases e;exact hF4 (k:=8) Y.f.k14 rfl Y.f.q81 rfl (by unfold vw;trivial)
 ·cases e⟩
instance:Mf B 9 "most_of" sX:=⟨λc h e=>by
 unfold sX at e;split at e
 ·cases e;exact hF4 (k:=8) Y.f.k14 rfl Y.f.q82 rfl (by unfold wA;trivial)
 ·cases e⟩
instance:Mf B 9 "own_marks" tN:=⟨λc h e=>by
 unfold tN at e;split at e
 ·cases e;exact hF4 (k:=8) Y.f.k14 rfl Y.f.q83 rfl (by unfold uK;trivial)
 ·cases e⟩
instance:Mf B 12 "parts" rO:=⟨λc h e=>by
 unfold rO at e;split at e
 ·cases e;exact hF4 (k:=11) Y.f.k14 rfl Y.f.q84 rfl (by unfold ye;trivial)
 ·cases e⟩
instance:Df B 10 "own_starts" (spF B.G vX):=gF4 rfl Y.f.q85 rfl (by unfold zr;trivial)
instance:Df B 10 "first_value" (spF B.G qO):=gF4 rfl Y.f.q86 rfl (by unfold yf;trivial)
instance:Df B 13 "first_stand" (spF B.G uZ):=gF4 rfl Y.f.q87 rfl (by unfold yg;trivial)
instance:Df B 1 "value_of" (spF B.G uw):=gF4 rfl Y.f.q88 rfl (by unfold Cc;trivial)
instance:Df B 2 "at_of" (spF B.G pH):=gF4 rfl Y.f.q89 rfl (by unfold IY;trivial)
instance:Df B 2 "mark_of" (spF B.G vA):=gF4 rfl Y.f.q90 rfl (by unfold DM;trivial)
instance:Df B 1 "with_part" (spF B.G tE):=gF4 rfl Y.f.q91 rfl (by unfold AI;trivial)
instance:Df B 3 "holders_of" (spN B.G tS):=gN4 rfl Y.f.q92 rfl (by unfold zt;trivial)
instance:Df B 10 "room_of" (spF B.G sN):=gF4 rfl Y.f.q93 rfl (by unfold DN;trivial)
instance:Df B 10 "has" (spF B.G IZ):=gF4 rfl Y.f.q94 rfl (by unfold QX;trivial)
instance:Df B 10 "is_shut" (spF B.G rP):=gF4 rfl Y.f.q95 rfl (by unfold DO;trivial)
instance:Df B 11 "in_open" (spF B.G rQ):=gF4 rfl Y.f.q96 rfl (by unfold DP;trivial)
instance:Df B 12 "burns_in" (spF B.G vY):=gF4 rfl Y.f.q97 rfl (by unfold Cd;trivial)
instance:Df B 13 "is_lit" (spF B.G zu):=gF4 rfl Y.f.q98 rfl (by unfold Gc;trivial)
instance:Df B 14 "is_seen" (spF B.G vB):=gF4 rfl Y.f.q99 rfl (by unfold DQ;trivial)
instance:Df B 15 "seen" (spN B.G Hz):=gN4 rfl Y.f.q100 rfl (by unfold MO;trivial)
instance:Df B 3 "comes_to_room_stands" (spF B.G oW):=gA4 rfl Y.f.q101 rfl (by unfold sr;trivial)
instance:Df B 1 "is_two" (spF B.G ux):=gF4 rfl Y.f.q102 rfl (by unfold Gd;trivial)
instance:Df B 2 "is_part" (spF B.G vC):=gF4 rfl Y.f.q103 rfl (by unfold DR;trivial)
instance:Df B 10 "is_holder" (spF B.G xm):=gF4 rfl Y.f.q104 rfl (by unfold AJ;trivial)
instance:Df B 11 "is_value" (spF B.G ql):=gF4 rfl Y.f.q105 rfl (by unfold Ce;trivial)
instance:Df B 13 "is_stand" (spF B.G rK):=gF4 rfl Y.f.q106 rfl (by unfold Cf;trivial)
instance:Df B 1 "_law_cell_at" (spF B.G uy):=gF4 rfl Y.f.q107 rfl (by unfold xn;trivial)
instance:Df B 1 "_law_draws" (spN B.G su):=gN4 rfl Y.f.q108 rfl (by unfold zv;trivial)
instance:Df B 1 "_law_take" (spM B.G oj):=gM4 rfl Y.f.q109 rfl rfl (by unfold AK;trivial)
instance:Df B 2 "_law_names" (spM B.G v3):=gM4 rfl Y.f.q110 rfl rfl (by unfold vZ;trivial)
instance:Df B 2 "_law_others" (spL B.G qP):=gL4 rfl Y.f.q111 rfl (by unfold sZ;trivial)
instance:Df B 3 "_law_spec" (spF B.G xq):=gF4 rfl Y.f.q112 rfl (by unfold xp;trivial)
instance:Df B 15 "_law_world" (spF B.G v7):=gF4 rfl Y.f.q113 rfl (by unfold v5;trivial)
instance:Df B 1 "_law_of" (spN B.G pU):=gN4 rfl Y.f.q114 rfl (by unfold DS;trivial)
instance:Df B 2 "_law_mosts" (spF B.G tT):=gF4 rfl Y.f.q115 rfl (by unfold v8;trivial)
instance:Df B 1 "_law_holders" (spN B.G pS):=gN4 rfl Y.f.q116 rfl (by unfold xt;trivial)
instance:Df B 2 "_law_in_open" (spF B.G pe):=gF4 rfl Y.f.q117 rfl (by unfold xu;trivial)
instance:Df B 3 "_law_lit" (spF B.G v9):=gF4 rfl Y.f.q118 rfl (by unfold Cg;trivial)
instance:Df B 4 "_law_seen" (spN B.G xw):=gN4 rfl Y.f.q119 rfl (by unfold AL;trivial)
instance:Df B 1 "_law_truth" (spF B.G tU):=gF4 rfl Y.f.q120 rfl (by unfold zw;trivial)
instance:Df B 1 "_law_begin" (spP B.G tV):=gP4 rfl rfl Y.f.q121 rfl (by unfold wa;trivial)
instance:Df B 3 "_law_put" (spF B.G sO):=gF4 rfl Y.f.q122 rfl (by unfold Ci;trivial)
instance:Df B 16 "_law_told" (spF B.G rR):=gF4 rfl Y.f.q123 rfl (by unfold AM;trivial)
instance:Df B 5 "_law_due" (spF B.G sP):=gF4 rfl Y.f.q124 rfl (by unfold Cj;trivial)
theorem NW:Bdz B (nmO (top 167)) "law" (top 167) (o8 (top 167)) 16 MP:=by
 unfold MP;refine MK ?_ ?_
 all_goals trivial
end
end K19x
namespace K19x
open PySem L2 L3 L4
def Jq(K:ar):Sp:=λvs H Q _=>∃(a:Addr) (ns:List Int),vs=[.ref a]/\SqL K H a (ns.map V.int)/\ns.length<=63/\∀H',Q (.bl true) H'
theorem D6{G:Bg}{H:Hp}:∀ns:List Int,oi G H (ns.map D.int) (ns.map V.int)
 |[]=>o5
 |n::ns=>oZ (rf n) (D6 ns)
theorem QF{G:Bg}:∀vs H Q E,Jq G.K vs H Q E->spF G QY vs H Q E:=λvs H Q E h=>by obtain⟨a,ns,rfl,hs,hl,k⟩:=h;refine⟨H,[.fzl (ns.map D.int)],.bl true,ox.refl _,oZ (by unfold L4.Rep;exact⟨a,_,rfl,hs,D6 ns⟩) o5,Vl ns hl,λv H0' H' _ _ _ _ r=>?_⟩;unfold L4.Rep at r;subst r;exact k H'
section
variable{K:ar}{x m q:Str}{st:Stmt}{f C:Addr}{oc:aa}{od:Option Addr}{kV doc pm:aa}{an:Option Addr}{cdv ct:aa}{osl:Array (Option aa)}
theorem NX(lk:K.lookup f=some ⟨oc,od,.func (dm x q (rV st) (o8 st) (oE st) .none kV doc pm an cdv ct),osl⟩)(hc:fw K cdv q=true)(kp:cY K (.ref f)=true):∃fd,Fun K x q st f fd:=⟨_,⟨_,_,_,_,_,_,_,_,_,rfl,lk,hc⟩,kp⟩
theorem gd_mk(h:fC K mainGlobals x=some (some (.ref f)))(lk:K.lookup f=some ⟨oc,od,.func (dm x x (rV st) (o8 st) (oE st) .none kV doc pm an cdv ct),osl⟩)(hc:fw K cdv x=true)(kp:cY K (.ref f)=true):GD K x st:=⟨f,(NX lk hc kp).imp λ_ F=>⟨h,F⟩⟩
theorem gm_mk(h:cG K (.ref C) m=some (some (.ref f)))(hf:W.isFn K (.ref f)=true)(lk:K.lookup f=some ⟨oc,od,.func (dm m q (rV st) (o8 st) (oE st) .none kV doc pm an cdv ct),osl⟩)(hc:fw K cdv q=true)(kp:cY K (.ref f)=true):GM K C m q st:=⟨f,(NX lk hc kp).imp λ_ F=>⟨h,hf,F⟩⟩
end
theorem all_mk{l:fz}{w:aw}{K:ar}{h:Heap}{mg:Str->Option aa}{fa:Addr}(X:K.In h)(Gn:h.Ns mainGlobals mg)(hfa:mg "law" = some (.ref fa)){C0 C1 C2 C3 C4 C5 C6 C7 C8 C9 C10 C11 C12 C13 C14:Addr}(F:Fx K C0 C1 C2 C3 C4 C5 C6 C7 C8 C9 C10 C11 C12 C13 C14):
  ∃fd:bD,(∀(s:af) (v:aa),fA s fd ⟨[v],[]⟩ [("_law_script", v)])/\∀base:Heap,K.In base->base.Ns mainGlobals mg->sE l.prog w K mg base CX0 17 fa fd ["_law_script"] (Jq K):=by
 have gen:∃B:Bg,B.K=K/\B.ca 0=C0/\B.ca 1=C1/\B.ca 2=C2/\B.ca 3=C3/\B.ca 4=C4/\B.ca 5=C5/\B.ca 6=C6/\B.ca 7=C7/\B.ca 8=C8/\B.ca 9=C9/\B.ca 10=C10/\B.ca 11=C11/\B.ca 12=C12/\B.ca 13=C13/\B.ca 14=C14:=⟨⟨K,λc=>[C0,C1,C2,C3,C4,C5,C6,C7,C8,C9,C10,C11,C12,C13,C14].getD c 0⟩,rfl,rfl,rfl,rfl,rfl,rfl,rfl,rfl,rfl,rfl,rfl,rfl,rfl,rfl,rfl,rfl⟩;obtain⟨B,rfl,rfl,rfl,rfl,rfl,rfl,rfl,rfl,rfl,rfl,rfl,rfl,rfl,rfl,rfl,rfl⟩:=gen;have Z:∀base,Yx ⟨l.prog,w,mg,base,B⟩:=λbase=>⟨⟨h,X,Gn⟩,F⟩;obtain⟨f,fd,a,FF⟩:=F.q125;have e:=hfa.symm.trans (iW X Gn a);cases e;obtain⟨oc,od,kV,doc,pm,an,cdv,ct,osl,rfl,lk,hcd⟩:=FF.ex;exact⟨_,λs v=>.of_eq rfl,λbase _ _=>(IE rfl rfl rfl FF (okk (N:=nmO (top 167)) (ps:=["_law_script"]) (np:=1) (n:=13) (by kernel_rfl)).1 ((@NW _ (Z base)).ok rfl _)).imp (QF (G:=B))⟩
theorem walk{l:fz}{q:aD}{loose:aE}{XP:(Str->Option aa)->Heap->Prop}{YP:aw->Heap->Prop}{d:DefRec}{K:gB->ar}(hn:l.most=some 63)(hdf:d.params.defaults=[])
  (hY:∀(w:aw) (h:Heap),YP w h->(K w.params).In h)
  (F:∀(w:aw) (mg:Str->Option aa) (fa:Addr) (h:Heap),(K w.params).In h->h.Ns mainGlobals mg->mg d.name=some (.ref fa)->
   ∃fd:bD,(∀(s:af) (u:aa),fA s fd ⟨[u],[]⟩ [("_law_script", u)])/\∀base:Heap,(K w.params).In base->base.Ns mainGlobals mg->sE l.prog w (K w.params) mg base CX0 17 fa fd ["_law_script"] (Jq (K w.params))):
  W.WalkO q loose XP YP l.row.toRowW d [] (λf vs=>kz f vs):=
 L2.Ox (n:=63) (k:=17) (x:="_law_script") (CX:=λ_=>CX0) (sp:=λw=>Jq (K w.params)) hn (by decide) hdf ⟨rfl,by decide,by decide⟩ hY F (λ_ _ a ns hl _ hS=>⟨a,ns,rfl,hS,hl,λ_=>rfl⟩) λ_ _ _ _ _ z=>z
end K19x
set_option maxHeartbeats 0
open PySem PySem.W PyProof.Rows
theorem PySem.Challenge.cw_tellworld_k19_whole_stands_that_go_on_holds : PySem.Challenge.rw_tellworld_k19_whole_stands_that_go_on.Holds := by
 refine hd ?_
 k_fill
 refine K19x.walk (l:=PySem.Challenge.rw_tellworld_k19_whole_stands_that_go_on) rfl rfl (λw h Y=>Y) ?F
 case F=>
  intro w mg fa h KX G hmg;refine' K19x.all_mk KX G hmg ?Q
  case Q=>
   constructor
   all_goals as_aux_lemma=>first
   |k_is
   |kernel_rfl
   |exact⟨⟨⟨by k_is,by k_is,by k_is,by k_is⟩,by k_is,by k_is,by k_is,by k_is⟩,by k_is,by k_is,by kernel_rfl⟩
   |exact⟨_,by k_is⟩
   |exact K19x.gd_mk (by k_is) (by k_is) (by k_is) (by k_is)
   |exact⟨_,_,by k_is,⟨_,_,_,_,_,_,_,_,_,rfl,by k_is,by k_is⟩,by k_is⟩
   |exact K19x.gm_mk (by k_is) (by k_is) (by k_is) (by k_is) (by k_is)
   |exact⟨_,_,_,_,by k_is,by k_is,by rfl,by rfl,by simp,by repeat' first|exact .nil|exact .cons rfl .nil|refine .cons rfl ?_⟩
   |exact⟨_,_,_,_,[_],_,by k_is,by k_is,⟨⟨_,_,_,_,_,_,_,_,_,rfl,by k_is,by k_is⟩,by k_is⟩,by k_is,by rfl,.cons (by first|rfl|exact⟨_,rfl⟩) .nil⟩
   |exact⟨_,_,_,_,[_,_,_],_,by k_is,by k_is,⟨⟨_,_,_,_,_,_,_,_,_,rfl,by k_is,by k_is⟩,by k_is⟩,by k_is,by rfl,.cons (by first|rfl|exact⟨_,rfl⟩) (.cons (by first|rfl|exact⟨_,rfl⟩) (.cons (by first|rfl|exact⟨_,rfl⟩) .nil))⟩
end
