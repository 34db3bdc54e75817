import PyProof.Rows.All
import Open.Pieces
import OpenK.KLine
import PySem.Challenge.RW_tellworld_k09_rules_that_are_none
import Wide.All
import OpenK.AllK
import Wide.FinOn
import PyProof.EqAt
import PyProof.EqKinds
import PyProof.TupleCall
import PyProof.StrWalks
import PyProof.ConsumeWalk
import PyProof.NeKinds
import PyProof.Rows.SetFrom
import KE.KIsAll
import PyProof.WalksMore
import PyProof.TupleKey
import PyProof.DictWalks
import PyProof.Rows.ZipGen
import KE.KDictLaws
import PyProof.DictItems
import KE.KSortTup
import PyProof.TupleOfSeq
import PyProof.Rows.SortStr
import PyProof.Rows.StrInSeq3
import PyProof.TupleIter
import KE.KDictOf
import PyProof.CollectWalk
import PyProof.Rows.SeqMore
set_option genSizeOf false
local macro_rules (kind:=Lean.Parser.Command.declaration)|s=>do
 if s.getPos?.isNone||s[1][1][0].getId.getRoot== `PySem then Lean.Macro.throwUnsupported
 let s:=s.rewriteBottomUp (·.setInfo .none)
 if s[1].getKind∈[``Lean.Parser.Command.definition,``Lean.Parser.Command.abbrev,``Lean.Parser.Command.instance]&&s[0][4].isNone then
  return s.setArg 0 (s[0].setArg 4 (Lean.mkNullNode #[Lean.Syntax.node .none ``Lean.Parser.Command.noncomputable #[Lean.mkAtom "noncomputable"]]))
 return s
set_option compiler.extract_closed false
noncomputable section
open List renaming length_map->ag,length_append->aC,mem_cons_self->aG,all_eq_true->aB,length_cons->aD,mem_cons_of_mem->aN,getElem?_eq_getElem->aV,size_toArray->aL,mem_map_of_mem->aU,mem_append_right->aZ,map_cons->aK,getElem?_eq_some_iff->bu,mem_map->aI,getElem?_map->aX,mem_cons->aO,mem_singleton->ba,mem_append_left->bw,mem_of_getElem?->bx,map_append->bb,getElem?_set->bq,length_replicate->bN,length_singleton->bO,length_take->bz,append_nil->br,range->aS,append_assoc->bI,mem_filter->bA,map_map->bg,mem_append->bC,nil_append->bP,mem_range->bL,nodup_append->bZ,getElem?_append_right->df,getElem?_append_left->dg,length_range->cn,any_eq_true->cp,filterMap_cons->cN,getElem?_drop->cO,zip_cons_cons->cP,length_set->cH,lookup_cons->cQ,length->b8,nodup_cons->cU,find?_cons->cW,lookup->cg,getElem_mem->dj,getD_eq_getElem?_getD->fw,length_filter_le->ee,length_nil->du,all_cons->c3,getElem?_replicate->fz,length_drop->dP,getElem?_set_self->fB,map_nil->c6,zipWith->c8,zipWith_cons_cons->fD,length_zip->dR,any_cons->dA,getElem?_eq_none->fE,perm_append_singleton->gm,mem_of_mem_take->fH,not_mem_nil->eO,drop_eq_getElem_cons->gn,mem_filterMap->fI,take_sublist->fK,take_of_length_le->gq,contains_iff_mem->gu,getElem?_set_ne->gw,of_mem_zip->fM,foldl_cons->fP,length_zipWith->gy,getElem_of_mem->gz,replicate->fQ,flatMap_cons->gV,getElem_inj->gW,getElem?_cons_zero->i7,filter_cons->hE,filter_cons_of_neg->i8,filter_cons_of_pos->i9,drop_eq_nil_of_le->jc,all_map->fW,zip_append->hU,getElem?_toArray->jh,filterMap_append->jk,mem_iff_getElem->jm,nodup_nil->ia,mem_of_mem_drop->jq,getElem?_range->jx,filter_eq_self->jy,length_pos_iff->jz,map_congr_left->jA,zip_map'->ir,contains_cons->jG,ext_getElem?->jK,take_add_one->jO,pairwise_map->jP,flatten->iC,nodup_range->j1,mem_flatMap->j3,map_id->iI,drop_nil->kE,map_drop->kF,map_take->kH,map->iX,rec->lp
open PySem renaming Value->aa,Shared->ae,wpAny_bind->ar,starEach->aq,mainGlobals->aF,wpAny_pure->aA,wpAny->af,sizeLine->ay,Program->au,Around->av,World->ao,compareOp->aM,Spec->m6,wpAny_mono->bh,wpAny_truthy_bool->cf,wpAny_Call_Name_kw->cG,FuncData->bj,backTo->aQ,sizeLine_eq->bV,assignEach->bR,wpAny_holding->cq,bootBuiltins->cu,swapsWith->bS,SetTable->bF,keywordEach->cy,sysModules->cj,attributeBase->cZ,mem_of_lookup->eC,codeAny->bH,letOwnedTupleGo->dQ,binaryOp->bW,codeAny_builtin->dS,behindInMarks->dy,wpAny_pyIter_list->eE,foldedSetIterable->eF,ofAClassStatement->eI,wpAny_setState_of->eK,codeAny_mono->dB,wpAny_execs_nil->eR,wpAny_passesOwn->eS,NameKind->cA,wpAny_specialOf->fN,tupleKind_room_in1->gE,Scope->bM,wpAny_Call_method->gQ,Paired->dD,GenState->dE,wpAny_execs_cons->gX,wpAny_forIn_list->gZ,wpAny_call->eX,Keyword->de,call_meetsIn->fV,wpAny_isTrue_Compare1->jf,wpAny_eqIsQuiet_tuple->ji,Result->cJ,carriedByValue->hZ,codeAny_call_builtin->jn,typeIs_none->fZ,wpAny_standAt->ie,plainId_quiet->ip,wpAny_pyIter_tuple->jE,Within->iu,BindsTo->d7,seqIndex_neg->iA,slot_list_getitem->jM,wpAny_storeSet_of->jS,noFill_tuple_add->jU,seqIndex_of->iH,codeAny_of_tree->j6,wpAny_Name->iK,wpAny_Expr_any->kc,Operator->gf,PlainAttrs->iN,call_meets->iO,meets_dict_get->kj,call->iP,wpAny_seqItems->kl,isSubtype_type->km,boot_len->kq,KeyKind->kz,intBits_le_64->kA,seq_tuple_add->kB,evalPart_none->kC,call_list_seq->kD,CmpOp->dF,Params->fq
open Bool renaming and_eq_true->az,false_ne_true->aT,not_eq_true'->cm,eq_iff_iff->cR,eq_false_iff->dN,false_eq_true->eD,or_eq_false_iff->gx,or_eq_true->fO,false_or->il,not_eq_true->jZ,and_false->kh,not_and->kQ,rec->iW
open PySem.Heap renaming get?_push_of_some->aJ,lt_size->aH,get?_push_size->bf,size_push->dv,SameBut->dX,get?_update_other->jb,get?_update_self->jg,MadeExcOf->kx,FlyingW->kP
open Nat renaming le_refl->aE,ne_of_lt->aP,lt_of_lt_of_le->bB,le_trans->bD,lt_succ_of_lt->dh,lt_succ_self->dq,zero_le->cw,ble_eq->cz,lt_irrefl->dw,le_of_ble_eq_true->fF,ble->bX,min_self->dY,lt_of_le_of_lt->gG,le_succ->eW,zero_add->fS,le_of_lt->fT,add_right_comm->jB,mod_lt->gb,ne_of_gt->iw,succ_pos->iB,le_of_lt_succ->jQ,le_of_not_lt->jX,le_add_right->j2,min_eq_left->j9,beq->fj,le_of_eq->kJ,sub_self->kK,pow_succ->kO
open PySem.W renaming Frag->aj,kia_one->bT,emptyDict->cv,findIn->bU,kitOne->b9,keepIn->ck,instObj->cI,kitx_list->eV,callWith_K->fU,kitx_dict->fY,fnOf->cM,codeIn->d6,plainGet_of->ig,callWith_K0->ik,plainGet->f6,OpenLaw->eZ,kitx_tuple->ix,hideAll_get->iE,cellsFrom_some->jT,methodObj->iF,hasDictIn->iG,of_hideAll->iJ,methodCall_KW->j5,lookIn->gh,looks_findIn->kg,nsIn->d8,makes_of->iR,takerIn->iU,makesIn->iV,mg_of->gj,plainOver->kU,make_core->kW,specialIn->kX,kitx_none->kY,kitx_bool->kZ,isFn->gk
open Array renaming length_toList->bY,getD_eq_getD_getElem?->dG,getElem?_eq_getElem->gp,getElem?_toList->gr,getElem?_eq_some_iff->i3,forIn_toList->jH,replicate->j8,size_map->ku,toList->kI
open Option.some renaming inj->bK,injEq->jN
open Int renaming eq_ofNat_of_zero_le->cE,emod_lt_of_pos->dM,emod_nonneg->dU,toNat_natCast->gL
open PySem.SetTable.layClean renaming free->cF
open PySem.SetTable renaming bits->bQ,runEnd->cX,Probe->cY,insertAt->dO,turns->dW,fits->fR,advance->hG,insertAt_perm->je,grown->ib,fill->iq,layClean->jR,below->kr,laid->kG,has->kN
open False renaming elim->bE
open PyProof.Rows.F renaming plain_set_update_loop->dH,entry_set_update_loop->fA
open PySem.Builtin.List renaming listTooLong->d9
open PySem.Calls renaming spliced_cons->dJ,evalArgs_plain->eh,callWith_builtin->fC,spliced_nil->eG,Name_function_global->iZ
open Prod renaming fst->bG,snd->cb
open Option renaming map_some->dr,getD_none->jW,getD_some->jY
open PySem.Around renaming under_plainId->eA,under->iy
open PySem.F renaming called_set->c9,slot_NoneType_hash->fG,slot_dict_get->eU,slot_list_extend->fJ,plainAttrs_list->fL,slot_list_append->gB,args_dict_get_2->gO,plainAttrs_dict->gS,entry_dict_get->gY,slot_dict_setdefault->jd,args_list_extend_2->jl,sub_list_frozenset->jo,excBase_ValueError->jr,entry_list_extend->jw,args_tuple_add_2->jF,type_list_append->jI,type_list_extend->jJ,entry_tuple_add->jL,slot_tuple_add->jV,type_dict_get->j4,plain_set_new->j7,sub_list_set->ko
open PySem.SetTable.probe renaming go->eJ
open Nat.succ renaming inj->dZ
open PySem.Heap.SameBut renaming update->gA
open PyProof.Rows renaming AllBare->cD,subscriptTail_builtinR->ja,boot_isinstance->hX,IntsAre->fo,Subscript_->iM
open PySem.Obj renaming mapSeq->d5,putSet->iQ
open PySem.SeqAt.EqAt renaming of_refs->gH,same->hJ,none_int->js,none_str->jt,int_none->ju,str_none->jv,int_str->jC,str_int->jD,tuple_none->l9,tuple_bool->ma,tuple_list->md,list_tuple->mf,none_tuple->mh,bool_tuple->mi,none_bool->mj,bool_none->ml,bool_bool->mm,tuple_int->mn,tuple_str->mr,list_none->mw,list_bool->mx,none_list->mB,bool_list->mC,int_tuple->mD,str_tuple->mF,bool_int->mG,bool_str->mH,int_bool->mI,str_bool->mJ,list_int->mL,list_str->mM,int_list->mO,str_list->mP,int_int->mU,str_str->mW
open Classical renaming byContradiction->i4
open List.Sublist renaming refl->gU
open PySem.AutoSeq1 renaming wpAny_loadPart'->i5
open PySem.SeqAt renaming eq_list_lengthsAt->i6,EqAt->f7
open Ne renaming symm->dc
open Sum.inr renaming inj->fX
open LawfulBEq renaming eq_of_beq->eY
open PySem.Paired renaming length->ic,snoc->lb
open PySem.Walks renaming list->f9
open PySem.Code renaming isFrame->iz,frames->la
open PySem.Builtin.Frozenset renaming updateFrom->lq,newClass->ly
open PySem.PassesOwn renaming never->ka
open PySem.SeqAt.RcNeAt renaming lists_lengths->lu,tuples->mQ,lists->mX
open PySem.EqNone renaming eq_none_none->lC,eq_none_bool->lD,eq_bool_none->lE,ne_none_none->lI,ne_none_bool->lK,ne_bool_none->lL,eq_none_int->lO,eq_none_str->lQ,eq_int_none->lS,eq_str_none->lW,ne_none_int->lY,ne_none_str->lZ,ne_int_none->l0,ne_str_none->l5
open PySem.EqMixed renaming eq_bool_str->lF,eq_str_bool->lG,ne_bool_str->lM,ne_str_bool->lN,eq_int_str->lV,eq_str_int->lX,ne_int_str->l4,ne_str_int->l6
open PySem.Value renaming isStrOf->ky,isInt->kT
open PySem.SeqAt.RcAt renaming lists_lengths->l7,tuples->mZ,lists->m4
open PySem.Builtin.Range renaming rangeSize->l8
open PySem.Pv renaming boot_list->kM,boot_int->lh
open Prod.mk renaming inj->kR
open PySem.Moved renaming trans->lg
open PySem.Heap.IsSliceOf renaming new->mS
open PySem.W.WShape renaming has->lj
open PySem.Within renaming cons->mY
open PySem.Txt renaming mul->iY
open List.Pairwise renaming map->m3
open PySem.Heap.DictOf renaming new->m5
def ah:=@if_pos
def ai:=@if_neg
def ak:=@absurd
def aY:=@decide_eq_false
def aW:=@decide_eq_true
def bp:=@decide_eq_true_eq
def bJ:=@of_decide_eq_true
def aR:=@congrArg
set_option Elab.async false
set_option linter.all false
namespace L5
open PySem PySem.W
noncomputable def pick(l:List Obj):Nat->List Addr->List Obj:=
 @lp Obj (λ_=>Nat->List Addr->List Obj) (λ_ _=>[])
  (λo _ ih i as=>@lp Addr (λ_=>List Obj) [] (λa r _=>@iW (λ_=>List Obj) (ih (Nat.succ i) as) (o::ih (Nat.succ i) r) (fj a i)) as) l
theorem Gw(i:Nat)(as:List Addr):pick [] i as=[]:=rfl
theorem Jr(o:Obj)(l:List Obj)(i:Nat)(r:List Addr):pick (o::l) i (i::r)=o::pick l (i+1) r:=by show @iW (λ_=>List Obj) _ _ (fj i i)=_;rw[Nat.beq_refl];rfl
theorem Js(o:Obj)(l:List Obj)(i a:Nat)(r:List Addr)(h:a≠i):pick (o::l) i (a::r)=pick l (i+1) (a::r):=by
 show @iW (λ_=>List Obj) _ _ (fj a i)=_;have:fj a i=false:=by
  cases q:fj a i with
  |false=>rfl
  |true=>exact ak (Nat.eq_of_beq_eq_true q) h
 rw[this];rfl
theorem Bb:∀(l:List Obj) (i:Nat) (as:List Addr),(pick l i as).length=as.length->∀j (hj:j<as.length),∃b,as[j]=i+b/\l[b]?=(pick l i as)[j]?
 |[],i,as,h,j,hj=>by rw[Gw]at h;simp at h;omega
 |o::l,i,[],h,j,hj=>by simp at hj
 |o::l,i,a::r,h,j,hj=>by
  by_cases q:a=i
  ·subst q;rw[Jr]at h ⊢;cases j with
   |zero=>exact⟨0,rfl,rfl⟩
   |succ j=>obtain⟨b,e1,e2⟩:=Bb l (a+1) r (by simpa using h) j (by simpa using hj);exact⟨b+1,by rw[List.getElem_cons_succ,e1];exact jB a 1 b,by simpa using e2⟩
  ·rw[Js _ _ _ _ _ q]at h ⊢;obtain⟨b,e1,e2⟩:=Bb l (i+1) (a::r) h j hj;exact⟨b+1,by rw[e1];exact jB i 1 b,by simpa using e2⟩
def live(o:Obj):Bool:=match o with|⟨_,_,.freed,_⟩=>false|_=>true
theorem Jt{h:Heap}{as:List Addr}{K:Frag}(e:as=K.map (·.1))(x:(pick h.objs.toList 0 as,K.all λp=>live p.2)=(K.map (·.2),true)):K.In h:=by
 obtain⟨x1,x2⟩:=kR x;refine Frag.in_of e (jK λj=>?_);rw[aX,aX];by_cases hj:j<as.length
 ·have hl:(pick h.objs.toList 0 as).length=as.length:=by rw[x1,e,ag,ag]
  obtain⟨b,e1,e2⟩:=Bb _ _ _ hl j hj;have hk:j<K.length:=by rw[e,ag]at hj;exact hj
  rw[aV hj,aV hk,dr,dr,e1,fS];have e3:h.objs[b]?=some (K[j].2):=by rw[<-gr,e2,x1,aX,aV hk];rfl
  have lv:live K[j].2=true:=aB.mp x2 _ (dj hk);refine aR some ?_;unfold Heap.get?;rw[e3];revert lv;cases K[j].2 with
  |mk c d data sl=>cases data<;>intro lv<;>first|rfl|cases lv
 ·rw[fE (by omega),fE (by rw[e,ag]at hj;omega)];rfl
noncomputable def Py(K:fq->Frag) (as:List Addr) (e:∀P,as=(K P).map (·.1)):Hook:=
 ⟨List Obj×Bool,λs=>(pick s.heap.objs.toList 0 as,true),λw=>((K w.params).map (·.2),(K w.params).all λp=>live p.2),InK K,λw s x=>Jt (e w.params) (by
  obtain⟨x1,x2⟩:=kR x;rw[x1,<- x2]),InK.keeps⟩
end L5
section
open PySem PySem.W PyProof.Rows
local macro_rules|`(tactic|o_head ($f:ident $k $as $e))=>`(tactic|o_head ((L5.Py $k $as (fun _=>by kernel_rfl)):W.Hook))
local macro_rules|`(command|#where)=>do
 let mut r:=#[]
 for n in [43:1532] do
  let x:=Lean.mkIdent (.mkSimple s!"tw{((Lean.Name.mkSimple "hd").str s!"o_{n}").hash}")
  r:=r.push ((<-`(command|noncomputable def $x:ident:=0)).raw.rewriteBottomUp (·.setInfo .none))
 return Lean.mkNullNode r
noncomputable section
namespace PySem.W.Fast
def tw6195866539993850631:=0
def tw16100691501515759841:=0
def tw8600003543474550401:=0
def tw11899693301848689474:=0
def tw2195466600730450949:=0
def tw14335442591911757157:=0
def tw14575388751658381831:=0
def tw16380965088707415623:=0
def tw8169806428440432713:=0
def tw10374632558016547081:=0
def tw12063338694597119625:=0
def tw938635154573522699:=0
def tw4260957879368936235:=0
def tw1348686238360321804:=0
def tw7774113678449685934:=0
def tw4891155283279915023:=0
def tw280917380089993231:=0
def tw13342595474641073200:=0
def tw15853837366616553680:=0
def tw10772888853195510384:=0
def tw13274997305513706577:=0
def tw861502493610598483:=0
def tw1179633367757178035:=0
def tw13169389602587208947:=0
def tw2255770438638334868:=0
def tw6211692286114450806:=0
def tw1658382015597488694:=0
def tw2711973275048833399:=0
def tw12620873455715996183:=0
def tw17322059916419148152:=0
def tw8161656369779717402:=0
def tw10257955065651855134:=0
def tw2964640727653848319:=0
def tw7478123994339007903:=0
def tw1296790758570689965:=0
def tw4043706138742882717:=0
def tw11156245012059776263:=0
def tw14093639371245587692:=0
def tw15181078141257973585:=0
def tw472026066189085614:=0
def tw4605971472053405522:=0
def tw10294078964567370430:=0
def tw13823908486322433141:=0
def tw14151252239970057569:=0
def tw8387090941293194387:=0
def tw13857218912954019169:=0
def tw9296065175928017463:=0
def tw12063395154255005496:=0
#where
end PySem.W.Fast
end
set_option maxRecDepth 100000 in
set_option maxHeartbeats 0 in
open_top hd for PySem.Challenge.rw_tellworld_k09_rules_that_are_none
end
set_option maxRecDepth 100000
namespace L2
open PySem PySem.Spec PyProof.Rows
abbrev Key:=Sum Int Str
def zb:Key->aa->Bool
 |.inl k,v=>kT k v
 |.inr x,v=>ky x v
def Pz(w:ao):Key->Int
 |.inl k=>hashInt k
 |.inr x=>hashStr w x
theorem oE:∀{k:Key} {v:aa},zb k v=true->(∃i t,k=Sum.inl i/\v=Value.int i t)\/(∃x t,k=Sum.inr x/\v=Value.str x t)
 |.inl i,v,h=>by obtain⟨t,e⟩:=Value.isInt_shape (k:=i) (v:=v) h;exact .inl ⟨i,t,rfl,e⟩
 |.inr x,v,h=>by obtain⟨t,e⟩:=Value.isStrOf_shape (x:=x) (v:=v) h;exact .inr ⟨x,t,rfl,e⟩
theorem Fk(i:Int)(t:Tok):zb (.inl i) (.int i t)=true:=by simp[zb,kT]
theorem Fl(x:Str)(t:Tok):zb (.inr x) (.str x t)=true:=by simp[zb,ky]
theorem L6(a b:Int):decide ((Sum.inl a:Key)=Sum.inl b)=(a==b):=by
 by_cases e:a=b
 ·subst e;simp
 ·have h:¬(Sum.inl a:Key)=Sum.inl b:=λq=>e (Sum.inl.inj q);rw[aY h];exact(beq_eq_false_iff_ne.mpr e).symm
theorem L7(a b:Str):decide ((Sum.inr a:Key)=Sum.inr b)=decide (a=b):=by
 by_cases e:a=b
 ·subst e;simp
 ·have h:¬(Sum.inr a:Key)=Sum.inr b:=λq=>e (fX q);rw[aY h,aY e]
theorem L8(a:Int)(b:Str):decide ((Sum.inl a:Key)=Sum.inr b)=false:=aY (λq=>nomatch q)
theorem L9(a:Str)(b:Int):decide ((Sum.inr a:Key)=Sum.inl b)=false:=aY (λq=>nomatch q)
def nL(prog:au)(w:ao):kz prog w Key where
 is:=zb
 hash:=Pz w
 inj:=λv a b ha hb=>by
  rcases oE ha with ⟨i,t,rfl,rfl⟩|⟨x,t,rfl,rfl⟩
  ·rcases oE hb with ⟨j,u,rfl,e⟩|⟨y,u,rfl,e⟩
   ·injection e with e1 _;rw[e1]
   ·exact nomatch e
  ·rcases oE hb with ⟨j,u,rfl,e⟩|⟨y,u,rfl,e⟩
   ·exact nomatch e
   ·injection e with e1 _;rw[e1]
 byValue:=λk v h=>by rcases oE h with ⟨i,t,rfl,rfl⟩|⟨x,t,rfl,rfl⟩<;>rfl
 pyHash:=λhv h=>by
  rcases oE hv with ⟨i,t,rfl,rfl⟩|⟨x,t,rfl,rfl⟩
  ·exact wpAny_pyHash_int h
  ·exact wpAny_pyHash_str h
 eqBool:=λhu hv h=>by
  rcases oE hu with ⟨i,t,rfl,rfl⟩|⟨x,t,rfl,rfl⟩
  ·rcases oE hv with ⟨j,u,rfl,rfl⟩|⟨y,u,rfl,rfl⟩
   ·rw[L6]at h;exact wpAny_eqBool_int h
   ·rw[L8]at h;exact jC i t y u _ _ _ _ h
  ·rcases oE hv with ⟨j,u,rfl,rfl⟩|⟨y,u,rfl,rfl⟩
   ·rw[L9]at h;exact jD x t j u _ _ _ _ h
   ·rw[L7]at h;exact wpAny_eqBool_str h
 «strs»:=λk x t v h=>by
  rcases oE h with ⟨i,u,rfl,e⟩|⟨y,u,rfl,e⟩
  ·exact nomatch e
  ·injection e with e1 _;subst e1;cases v<;>rfl
theorem BQ(prog:au)(w:ao)(i:Int)(t:Tok):(nL prog w).is (.inl i) (.int i t)=true:=Fk i t
theorem BR(prog:au)(w:ao)(x:Str)(t:Tok):(nL prog w).is (.inr x) (.str x t)=true:=Fl x t
inductive V where
 |non|bl (b:Bool)|int (i:Int)|str (x:Str)|byt (b:Array UInt8)|flt (b:UInt64)|ref (a:Addr)|ty (n:String)
 deriving DecidableEq
def RelV:V->aa->Prop
 |.non,u=>u=Value.none
 |.bl b,u=>u=Value.bool b
 |.int i,u=>∃t,u=Value.int i t
 |.str x,u=>∃t,u=Value.str x t
 |.byt b,u=>∃t,u=Value.bytes b t
 |.flt b,u=>∃t,u=Value.float b t
 |.ref a,u=>u=Value.ref a
 |.ty n,u=>u=Value.type n
abbrev Vals:List V->List aa->Prop:=dD RelV
variable{us:List aa}
theorem Vals.length{xs:List V}(r:Vals xs us):xs.length=us.length:=ic r
theorem Vals.get:∀{xs:List V} {us:List aa} {i:Nat} {x:V},Vals xs us->xs[i]?=some x->∃u,us[i]?=some u/\RelV x u
 |_,_,_,_,.nil,e=>by simp at e
 |_,_,0,_,.cons r _,e=>by simp at e;subst e;exact⟨_,rfl,r⟩
 |_,_,i+1,x,.cons _ t,e=>by obtain⟨u,h1,h2⟩:=Vals.get (i:=i) (x:=x) t (by simpa using e);exact⟨u,by simpa using h1,h2⟩
variable{u:aa}
theorem Vals.set{x:V}(r:RelV x u):∀{xs:List V} {us:List aa} (i:Nat),Vals xs us->Vals (xs.set i x) (us.set i u)
 |_,_,_,.nil=>.nil
 |_,_,0,.cons _ t=>.cons r t
 |_,_,i+1,.cons q t=>.cons q (Vals.set r i t)
theorem Vals.append:∀{xs ys:List V} {us ws:List aa},Vals xs us->Vals ys ws->Vals (xs++ys) (us++ws)
 |_,_,_,_,.nil,s=>s
 |_,_,_,_,.cons r t,s=>.cons r (Vals.append t s)
theorem Vals.take:∀{xs:List V} {us:List aa} (n:Nat),Vals xs us->Vals (xs.take n) (us.take n)
 |_,_,0,_=>.nil
 |_,_,_+1,.nil=>.nil
 |_,_,n+1,.cons r t=>.cons r (Vals.take n t)
theorem Vals.drop:∀{xs:List V} {us:List aa} (n:Nat),Vals xs us->Vals (xs.drop n) (us.drop n)
 |_,_,0,r=>r
 |_,_,_+1,.nil=>.nil
 |_,_,n+1,.cons _ t=>Vals.drop n t
def uP:Option V->Option aa->Prop
 |some v,some u=>RelV v u
 |none,none=>True
 |_,_=>False
def KV{κ:Type}:List (κ×V)->List (κ×aa)->Prop:=dD λ(p:κ×V) (q:κ×aa)=>p.1=q.1/\RelV p.2 q.2
def kV:Key->V
 |.inl i=>.int i
 |.inr x=>.str x
inductive HO where
 |lst (xs:List V)
 |tup (xs:List V)
 |dK (kvs:List (Key×V))|dT (kvs:List (List Key×V))
 |set (S:Int->Bool) (n:Nat)
 |ins (C dx:Addr) (fs:List (Str×V))
 |own (x:Addr)
 |xd (fs:List (Str×V))
 |met (f x:Addr)
 |rng (lo hi:Int)
 |frz (o:Obj) (u:HO)
 |tbl (ps:Array aa)
 |ext (φ:Heap->Prop)
abbrev Hp:=Addr->Option HO
def upd(H:Hp)(a:Addr)(o:HO):Hp:=λb=>if b=a then some o else H b
variable{a:Addr}{o:HO}
theorem nv{H:Hp}:upd H a o a=some o:=by unfold upd;rw[ah rfl]
variable{b:Addr}
theorem ny{H:Hp}(h:b≠a):upd H a o b=H b:=by unfold upd;rw[ai h]
theorem PB{H:Hp}{u:HO}(h:H a=some o)(h':H b=some u)(d:o≠u):a≠b:=by intro e;subst e;rw[h]at h';exact d (bK h')
theorem pH{H:Hp}(h:H a=some o)(h':H b=none):a≠b:=by intro e;subst e;rw[h]at h';cases h'
section
variable(P:au)(w:ao)
def oQ(H:Hp)(h:Heap)(a:Addr):HO->Prop
 |.lst xs=>xs.length<=ay/\∃(its:List aa) (n:Nat),Vals xs its/\h.get? a=some { cls:=.type "list", data:=.seq its.toArray n }
 |.tup xs=>xs.length<=ay/\∃its:List aa,Vals xs its/\IsTup h a its.toArray
 |.dK kvs=>kvs.length<=ay/\(a==cj)=false/\∃vs,KV kvs vs/\h.DictOf (nL P w) a vs
 |.dT kvs=>kvs.length<=ay/\(a==cj)=false/\∃xs:List (List Key×Addr×aa),
   dD (λ(p:List Key×V) (q:List Key×Addr×aa)=>p.1=q.1/\H q.2.1=some (.tup (p.1.map kV))/\RelV p.2 q.2.2) kvs xs/\
   ∃o es ep,h.get? a=some o/\o.ExactDict/\o.data=.dict es ep/\es.toList=xs.map (entryOfKey (tupleKind (nL P w)))/\(xs.map (·.1)).Nodup
 |.set S n=>h.SetOf (intKind P w) a S n
 |.ins C dx fs=>H dx=some (.own a)/\fs.length<=1000/\dx≠a/\h.get? a=some (cI C dx)/\
   ∃mA,h.Ns1 dx mA/\(∀f,uP (fs.lookup f) (mA f))/\iu mA (fs.map (·.1))
 |.own _=>∃o,h.get? a=some o
 |.xd fs=>∃mA,h.Ns1 a mA/\∀f,uP (fs.lookup f) (mA f)
 |.rng lo hi=>∃t u v,h.get? a=some { cls:=.type "range", data:=.fields #[.int lo t,.int hi u,.int 1 v] }
 |.frz o u=>h.get? a=some o/\oQ H h a u
 |.tbl ps=>h.get? a=some { cls:=.none,data:=.fields ps }
 |.met f x=>h.get? a=some (iF (.ref f) (.ref x))
 |.ext φ=>φ h/\(∃o,h.get? a=some o)/\∀h1 h2:Heap,φ h1->(∀o,h1.get? a=some o->h2.get? a=some o)->φ h2
def HOk(H:Hp)(h:Heap):Prop:=∀a o,H a=some o->oQ P w H h a o
end
section
variable{P:au}{w:ao}{H H':Hp}{h h':Heap}{a:Addr}{o:HO}
theorem oQ.lt(x:oQ P w H h a o):a<h.objs.size:=by
 cases o with
 |lst xs=>obtain⟨_,_,_,_,e⟩:=x;exact aH e
 |tup xs=>obtain⟨_,_,_,p⟩:=x;exact p.lt
 |dK kvs=>obtain⟨_,_,_,_,o,_,_,e,_⟩:=x;exact aH e
 |dT kvs=>obtain⟨_,_,_,_,o,_,_,e,_⟩:=x;exact aH e
 |set S n=>obtain⟨o,_,_,_,e,_⟩:=x;exact aH e
 |ins C dx fs=>obtain⟨_,_,_,e,_⟩:=x;exact aH e
 |own y=>obtain⟨_,e⟩:=x;exact aH e
 |xd fs=>obtain⟨_,⟨_,_,_,e,_⟩,_⟩:=x;exact aH e
 |rng lo hi=>obtain⟨_,_,_,e⟩:=x;exact aH e
 |frz ob u=>obtain⟨e,_⟩:=x;exact aH e
 |tbl ps=>exact aH (show h.get? a=some _ from x)
 |met f y=>exact aH (show h.get? a=some _ from x)
 |ext φ=>obtain⟨_,⟨_,e⟩,_⟩:=x;exact aH e
theorem Paired.mapP{α β:Type}{F G:α->β->Prop}:∀{l₁:List α} {l₂:List β},dD F l₁ l₂->(∀a b,F a b->G a b)->dD G l₁ l₂
 |_,_,.nil,_=>.nil
 |_,_,.cons r t,f=>.cons (f _ _ r) (Paired.mapP t f)
theorem oQ.stay(x:oQ P w H h a o)(k:∀b u,(b=a\/H b=some (.own a))->h.get? b=some u->h'.get? b=some u)
  (ho:∀b,H b=some (.own a)->H' b=some (.own a)) (ht:∀b xs,H b=some (.tup xs)->H' b=some (.tup xs)):oQ P w H' h' a o:=by
 induction o with
 |lst xs=>obtain⟨z,its,n,r,e⟩:=x;exact⟨z,its,n,r,k _ _ (.inl rfl) e⟩
 |tup xs=>obtain⟨z,its,r,ob,e,c⟩:=x;exact⟨z,its,r,ob,k _ _ (.inl rfl) e,c⟩
 |dK kvs=>obtain⟨z,y,vs,r,ob,es,ep,e,c⟩:=x;exact⟨z,y,vs,r,ob,es,ep,k _ _ (.inl rfl) e,c⟩
 |dT kvs=>obtain⟨z,y,xs,r,ob,es,ep,e,c⟩:=x;exact⟨z,y,xs,Paired.mapP r λp q z=>⟨z.1,ht _ _ z.2.1,z.2.2⟩,ob,es,ep,k _ _ (.inl rfl) e,c⟩
 |set S n=>obtain⟨ob,es,ep,t,e,c⟩:=x;exact⟨ob,es,ep,t,k _ _ (.inl rfl) e,c⟩
 |ins C dx fs=>obtain⟨d,z,ne,e,mA,⟨od,es,ep,e2,c⟩,r⟩:=x;exact⟨ho _ d,z,ne,k _ _ (.inl rfl) e,mA,⟨od,es,ep,k _ _ (.inr d) e2,c⟩,r⟩
 |own y=>obtain⟨ob,e⟩:=x;exact⟨ob,k _ _ (.inl rfl) e⟩
 |xd fs=>obtain⟨mA,⟨od,es,ep,e,c⟩,r⟩:=x;exact⟨mA,⟨od,es,ep,k _ _ (.inl rfl) e,c⟩,r⟩
 |rng lo hi=>obtain⟨t,u,v,e⟩:=x;exact⟨t,u,v,k _ _ (.inl rfl) e⟩
 |frz ob u ih=>obtain⟨e,q⟩:=x;exact⟨k _ _ (.inl rfl) e,ih q⟩
 |tbl ps=>have e:h.get? a=some { cls:=.none,data:=.fields ps }:=x;show h'.get? a=some { cls:=.none,data:=.fields ps };exact k a _ (.inl rfl) e
 |met f y=>have e:h.get? a=some (iF (.ref f) (.ref y)):=x;show h'.get? a=some (iF (.ref f) (.ref y));exact k a _ (.inl rfl) e
 |ext φ=>obtain⟨p,⟨o,e⟩,st⟩:=x;exact⟨st _ _ p λo q=>k _ _ (.inl rfl) q,⟨o,k _ _ (.inl rfl) e⟩,st⟩
theorem HOk.lt(x:HOk P w H h)(e:H a=some o):a<h.objs.size:=(x a o e).lt
theorem HOk.fresh(x:HOk P w H h)(e:h.objs.size<=a):H a=none:=by
 cases q:H a with
 |none=>rfl
 |some u=>exact ak (bB (x.lt q) e) (dw _)
theorem HOk.kept(x:HOk P w H h)(k:∀b u,h.get? b=some u->h'.get? b=some u):HOk P w H h':=λa o e=>
 (x a o e).stay (λb u _ q=>k b u q) (λ_ q=>q) λ_ _ q=>q
theorem HOk.laid(x:HOk P w H h)(k:∀b u,h.get? b=some u->h'.get? b=some u)(hp:h.objs.size<=a)(new:oQ P w (upd H a o) h' a o):HOk P w (upd H a o) h':=λb u e=>by
 have hn:=x.fresh hp;by_cases hb:b=a
 ·subst hb;rw[nv]at e;cases e;exact new
 ·rw[ny hb]at e;exact(x b u e).stay (λc v _ q=>k c v q) (λc q=>by rw[ny (pH q hn)];exact q) λc xs q=>by rw[ny (pH q hn)];exact q
end
def Rd(H:Hp)(a:Addr)(u:HO):Prop:=H a=some u\/∃o,H a=some (.frz o u)
theorem Rd.ok{P:au}{w:ao}{H:Hp}{h:Heap}{u:HO}(r:Rd H a u)(x:HOk P w H h):oQ P w H h a u:=by
 rcases r with r|⟨o,r⟩
 ·exact x a u r
 ·obtain⟨_,q⟩:=x a _ r;exact q
def Mut:Option HO->Prop
 |some (.lst _)=>True
 |some (.dK _)=>True
 |some (.dT _)=>True
 |some (.set _ _)=>True
 |some (.ins _ _ _)=>True
 |some (.ext _)=>True
 |_=>False
section
variable{P:au}{w:ao}{H:Hp}{h h':Heap}{x e:Addr}{o':HO}
theorem HOk.write(ok:HOk P w H h)(mu:Mut (H x))(he:e=x\/H e=some (.own x))(k:∀b u,b≠e->h.get? b=some u->h'.get? b=some u)(heo:∃u,h'.get? e=some u)
  (new:oQ P w (upd H x o') h' x o'):HOk P w (upd H x o') h':=λb u q=>by
 have nown:∀c y,H c=some (.own y)->c≠x:=λc y r z=>by subst z;rw[r]at mu;exact mu
 have ntup:∀c xs,H c=some (.tup xs)->c≠x:=λc xs r z=>by subst z;rw[r]at mu;exact mu
 by_cases hb:b=x
 ·subst hb;rw[nv]at q;cases q;exact new
 ·rw[ny hb]at q;by_cases hbe:b=e
  ·have q':H b=some (.own x):=by
    rcases he with z|z
    ·exact ak (hbe.trans z) hb
    ·rw[hbe];exact z
   rw[q]at q';cases q';obtain⟨v,hv⟩:=heo;exact⟨v,by rw[hbe];exact hv⟩
  ·refine(ok b u q).stay (λc v hc r=>k c v ?_ r) (λc r=>by rw[ny (nown c b r)];exact r) λc xs r=>by rw[ny (ntup c xs r)];exact r
   rcases hc with rfl|hc
   ·exact hbe
   ·rintro rfl;rcases he with z|z
    ·exact nown c b hc z
    ·rw[hc]at z;cases z;exact hb rfl
end
structure Un(fs ex:List Addr)(H H':Hp)(h h':Heap):Prop where
 keep:∀b o,h.get? b=some o->H b=none->b∉fs->b∉ex->h'.get? b=some o
 slot:∀b o,h.get? b=some o->H b=none->b∈fs->b∉ex->∃sl,h'.get? b=some { o with slots:=sl }
 free:∀b o,h.get? b=some o->H b=none->b∉ex->H' b=none
 there:∀b o,h.get? b=some o->b∉ex->∃o',h'.get? b=some o'
 tups:∀b xs,H b=some (.tup xs)->H' b=some (.tup xs)
 frzs:∀b o u,H b=some (.frz o u)->H' b=some (.frz o u)
 tbls:∀b ps,H b=some (.tbl ps)->∃more,H' b=some (.tbl (ps++more))
section
variable{fs fs' ex ex':List Addr}{H H1 H2:Hp}{h h1 h2 h':Heap}{a x e:Addr}{o:HO}
theorem Un.any(u:Un fs ex H H1 h h1){ob:Obj}(q:h.get? b=some ob)(n:H b=none)(hx:b∉ex):∃sl,h1.get? b=some { ob with slots:=sl }:=by
 by_cases hb:b∈fs
 ·exact u.slot b ob q n hb hx
 ·exact⟨ob.slots,u.keep b ob q n hb hx⟩
theorem Un.kept(k:∀b u,h.get? b=some u->h'.get? b=some u):Un fs ex H H h h':=
 ⟨λb ob q _ _ _=>k b ob q,λb ob q _ _ _=>⟨ob.slots,k b ob q⟩,λ_ _ _ n _=>n,λb ob q _=>⟨ob,k b ob q⟩,λ_ _ q=>q,λ_ _ _ q=>q,λ_ ps q=>⟨#[],by rw[q];simp⟩⟩
theorem Un.refl:Un fs ex H H h h:=Un.kept λ_ _ q=>q
theorem Un.laid(k:∀b u,h.get? b=some u->h'.get? b=some u)(hp:h.objs.size<=a)(hn:H a=none):Un fs ex H (upd H a o) h h' where
 keep:=λb u q _ _ _=>k b u q
 slot:=λb u q _ _ _=>⟨u.slots,k b u q⟩
 free:=λb u q n _=>by rw[ny (aP (bB (aH q) hp))];exact n
 there:=λb u q _=>⟨u,k b u q⟩
 tups:=λb xs q=>by rw[ny (pH q hn)];exact q
 frzs:=λb u xs q=>by rw[ny (pH q hn)];exact q
 tbls:=λb ps q=>⟨#[],by rw[ny (pH q hn),q];simp⟩
theorem Un.write(mu:Mut (H x))(he:e=x\/H e=some (.own x))(k:∀b u,b≠e->h.get? b=some u->h'.get? b=some u)(heo:∃u,h'.get? e=some u):Un fs ex H (upd H x o) h h':=by
 have hx:∀b,H b=none->b≠x:=λb n z=>by subst z;rw[n]at mu;exact mu
 have hb:∀b,H b=none->b≠e:=λb n z=>by
  subst z;rcases he with r|r
  ·exact hx b n r
  ·rw[n]at r;cases r
 have hm:∀b u,H b=some u->¬Mut (some u)->b≠x:=λb u q nm z=>by subst z;rw[q]at mu;exact nm mu
 refine⟨λb u q n _ _=>k b u (hb b n) q,λb u q n _ _=>⟨u.slots,k b u (hb b n) q⟩,λb u q n _=>by rw[ny (hx b n)];exact n,λb u q _=>?_,
  λb xs q=>by rw[ny (hm b _ q λz=>z)];exact q,λb u xs q=>by rw[ny (hm b _ q λz=>z)];exact q,λb ps q=>⟨#[],by rw[ny (hm b _ q λz=>z),q];simp⟩⟩
 by_cases hbe:b=e
 ·subst hbe;exact heo
 ·exact⟨u,k b u hbe q⟩
end
def trk(h:Heap)(H:Hp):List Addr:=(aS h.objs.size).filter λa=>(H a).isSome
def Bc(h:Heap)(H:Hp):Heap:=W.hideAll h (trk h H)
theorem Fm(h:Heap)(H:Hp):(Bc h H).objs.size=h.objs.size:=W.hideAll_size _ _
theorem Gx{h:Heap}{H:Hp}{o:Obj}(e:h.get? b=some o)(n:H b=none):(Bc h H).get? b=some o:=
 iE _ e λhm=>by have q:(H b).isSome=true:=(bA.mp hm).2;rw[n]at q;simp at q
theorem Ju{h:Heap}{H:Hp}{o:Obj}(e:(Bc h H).get? b=some o):h.get? b=some o/\H b=none:=by
 have e':h.get? b=some o:=iJ (trk h H) e;refine⟨e',?_⟩;cases q:H b with
 |none=>rfl
 |some x=>have hm:b∈trk h H:=bA.mpr ⟨bL.mpr (aH e'),by simp[q]⟩;have z:(Bc h H).get? b=none:=W.hideAll_none (trk h H) hm;rw[z]at e;cases e
def Jv(g h:Heap)(L:Addr):List (Addr×Obj):=(aS h.objs.size).filterMap λa=>if a=L\/(g.get? a).isSome=true then none else (h.get? a).map λo=>(a,o)
def rest(g h:Heap)(L d:Addr):List (Addr×Obj):=(Jv g h L).filter λp=>decide (p.1≠d)
structure Mod(K:aj)(mg:Str->Option aa)(base:Heap):Prop where
 kin:K.In base
 glob:base.Ns aF mg
 blt:∃mb,base.Ns builtinsNs mb/\∀x:Str,x≠"__name__" -> mb x=cu x
 nolimit:base.NoLimit
structure Cx where
 prog:au
 w:ao
 K:aj
 mg:Str->Option aa
 base:Heap
 A:av
 N:List Str
 s₀:ae
 H₀:Hp
 env:Env
 outer:List Env
 stack:List Env
 ex:List Addr
 fn:Str->Bool
 calm:Bool
 pn:List (Addr×Obj)
 xe:aa->ae->Prop
def frs(l:List Env):List Addr:=l.filterMap (·.frame)
abbrev Cx.fs(X:Cx):List Addr:=frs X.outer
def Vis(sc:bM)(x:Str):Prop:=sc.names.lookup x=some .local\/sc.names.lookup x=some .cell\/sc.names.lookup x=some .free
def Loc(sc:bM)(x:Str):Prop:=sc.names.lookup x=some .local\/sc.names.lookup x=some .cell
def Look(env:Env)(h:Heap)(m:Str->Option aa)(x:Str)(u:aa):Prop:=
 (env.kindOf x=some .local/\m x=some u)\/((env.kindOf x=some .cell\/env.kindOf x=some .free)/\∃c,env.cells.lookup x=some c/\h.IsCell c (some u))
structure Cx.Ok(X:Cx):Prop where
 mod:Mod X.K X.mg X.base
 kind:X.env.scope.kind=.function
 glob:X.env.globals=aF
 blt:X.env.builtins=builtinsNs
 above:X.s₀.heap.objs.size<=X.env.locals
 inj:∀x y c,X.env.cells.lookup x=some c->X.env.cells.lookup y=some c->x=y
 has:∀x,(X.env.kindOf x=some .cell\/X.env.kindOf x=some .free)->∃c,X.env.cells.lookup x=some c
 cab:∀x c,X.fn x=true->X.env.cells.lookup x=some c->X.s₀.heap.objs.size<=c
 hd:X.calm=true->X.A.handled=none
 frames:X.A.frames=some X.stack
 stk:X.stack=X.outer\/(X.stack=X.env::X.outer/\X.env.frame=some X.env.locals)
 exf:∀b∈X.ex,b≠X.env.locals/\∀x c,X.env.cells.lookup x=some c->c≠b
 bs:∀b o,X.base.get? b=some o->X.s₀.heap.get? b=some o/\X.H₀ b=none
 bsz:X.base.objs.size<=X.s₀.heap.objs.size
 noex:∀b o,X.base.get? b=some o->b∉X.ex
 exfs:∀b∈X.ex,b∉X.fs
 funs:X.s₀.heap.FunFrames X.base X.outer
 frf:∀b∈X.fs,X.H₀ b=none
structure Inv(X:Cx)(pins:List (Addr×Obj))(σ:List (Option V))(H:Hp)(s:ae):Prop where
 ok:X.Ok
 os:s.os=X.s₀.os
 bare:cD s.gens
 base:Un X.fs X.ex X.H₀ H X.s₀.heap s.heap
 loc:∃m,s.heap.Ns X.env.locals m/\∀(i:Nat) (x:Str) (v:V),X.N[i]?=some x->σ[i]?=some (some v)->Vis X.env.scope x->∃u,RelV v u/\Look X.env s.heap m x u
 cell:∀x c,X.env.cells.lookup x=some c->∃v,s.heap.IsCell c v
 free:H X.env.locals=none
 freeC:∀x c,X.env.cells.lookup x=some c->H c=none
 pin:∀p∈X.pn++pins,s.heap.get? p.1=some p.2/\H p.1=none/\p.1≠X.env.locals/\p.1∉X.fs/\∀v,p.2.data≠.cell v
 hok:HOk X.prog X.w H s.heap
 len:σ.length=X.N.length
variable{g':Array dE}{t' i j:Nat}{d':Drawn}{ch:List Addr}{it:Addr}{N:List Str}{x:Str}{M:Model}{E:aa->ae->Prop}{s':ae}
section
variable{X:Cx}{pins:List (Addr×Obj)}{σ:List (Option V)}{H H':Hp}{s:ae}{h':Heap}
theorem Cx.Ok.nofr(ok:X.Ok){o:Obj}(e:X.base.get? b=some o):b∉X.fs:=λhb=>by have:=(ok.funs.mem hb).1;rw[e]at this;cases this
theorem Inv.bs(I:Inv X pins σ H s):∀b o,X.base.get? b=some o->s.heap.get? b=some o/\H b=none:=λb o e=>
 ⟨I.base.keep b o (I.ok.bs b o e).1 (I.ok.bs b o e).2 (I.ok.nofr e) (I.ok.noex b o e),I.base.free b o (I.ok.bs b o e).1 (I.ok.bs b o e).2 (I.ok.noex b o e)⟩
theorem Inv.bk(I:Inv X pins σ H s):∀b o,X.base.get? b=some o->s.heap.get? b=some o:=λb o e=>(I.bs b o e).1
theorem Inv.mod(I:Inv X pins σ H s):Mod X.K X.mg X.base:=I.ok.mod
theorem Inv.kIn(I:Inv X pins σ H s):X.K.In s.heap:=I.ok.mod.kin.keeps I.bk
theorem Inv.fr(I:Inv X pins σ H s):∃m,Fr X.base X.env.locals s.heap m:=
 let ⟨m,hn,_⟩:=I.loc
 ⟨m,hn,I.bk,bD I.ok.bsz I.ok.above⟩
theorem Inv.lt(I:Inv X pins σ H s):X.env.locals<s.heap.objs.size:=let ⟨_,hn,_⟩:=I.loc;hn.lt
theorem Inv.sz(I:Inv X pins σ H s):X.s₀.heap.objs.size<=s.heap.objs.size:=bD I.ok.above (fT I.lt)
theorem Inv.nofs(I:Inv X pins σ H s)(h:s.heap.objs.size<=a):a∉X.fs:=λhb=>by obtain⟨_,o,ho,_⟩:=I.ok.funs.mem hb;exact ak (bB (aH ho) (bD I.sz h)) (dw _)
theorem Inv.cne(I:Inv X pins σ H s):∀x c,X.env.cells.lookup x=some c->c≠X.env.locals:=λx c e z=>by obtain⟨v,o,ho,hd⟩:=I.cell x c e;obtain⟨m,⟨o',es,ep,ho',hd',_⟩,_⟩:=I.loc;rw[z,ho']at ho;cases ho;rw[hd']at hd;cases hd
theorem Inv.funs(I:Inv X pins σ H s):s.heap.FunFrames X.base X.outer:=by
 have all:∀(l:List Env),(∀b∈frs l,b∈X.fs)->X.s₀.heap.FunFrames X.base l->s.heap.FunFrames X.base l:=by
  intro l
  induction l with
  |nil=>intro _ _;trivial
  |cons env r ih=>intro hs hl;obtain⟨hk,⟨L,o,hf,hn,ho,hd⟩,hr⟩:=hl;have hL:L∈X.fs:=hs L (by unfold frs;rw[cN,hf];exact aG);obtain⟨sl,e⟩:=I.base.slot L o ho (I.ok.frf L hL) hL λz=>I.ok.exfs L z hL;exact⟨hk,⟨L,_,hf,hn,e,hd⟩,ih (λb hb=>hs b (by unfold frs;rw[cN,hf];exact aN _ hb)) hr⟩
 exact all X.outer (λ_ hb=>hb) I.ok.funs
theorem Inv.stack(I:Inv X pins σ H s):s.heap.FunFrames X.base X.stack:=by
 rcases I.ok.stk with e|⟨e,hf⟩
 ·rw[e];exact I.funs
 ·rw[e];obtain⟨m,hn,_⟩:=I.loc;refine .cons (by rw[I.ok.kind];decide) hf hn ?_ I.funs;exact Heap.get?_none_of_le (bD I.ok.bsz I.ok.above)
theorem Inv.stkSub(I:Inv X pins σ H s):∀b∈frs X.stack,b∈X.env.locals::X.fs:=λb hb=>by
 rcases I.ok.stk with e|⟨e,hf⟩
 ·rw[e]at hb;exact aN _ hb
 ·rw[e]at hb;unfold frs at hb;rw[cN,hf]at hb;exact hb
theorem Inv.stkFree(I:Inv X pins σ H s):∀b∈frs X.stack,H b=none:=λb hb=>by
 rcases aO.mp (I.stkSub b hb)with e|hb
 ·rw[e];exact I.free
 ·obtain⟨_,o,ho,_⟩:=I.ok.funs.mem hb;exact I.base.free b o ho (I.ok.frf b hb) λz=>I.ok.exfs b z hb
theorem Inv.step(I:Inv X pins σ H s)
  (hch:∀b∈ch,(b∈X.ex\/X.s₀.heap.objs.size<=b)/\b≠X.env.locals/\(∀x c,X.env.cells.lookup x=some c->c≠b)/\∀p∈X.pn++pins,p.1≠b)
  (keep:∀b o,b≠X.env.locals->b∉X.fs->b∉ch->s.heap.get? b=some o->H b=none->h'.get? b=some o)
  (slot:∀b o,b≠X.env.locals->b∈X.fs->b∉ch->s.heap.get? b=some o->H b=none->∃sl,h'.get? b=some { o with slots:=sl }) (free:∀b o,b∉ch->s.heap.get? b=some o->H b=none->H' b=none)
  (there:∀b o,b∉ch->s.heap.get? b=some o->∃o',h'.get? b=some o')
  (tups:∀b xs,H b=some (.tup xs)->H' b=some (.tup xs)) (frzs:∀b o u,H b=some (.frz o u)->H' b=some (.frz o u)) (tbls:∀b ps,H b=some (.tbl ps)->∃more,H' b=some (.tbl (ps++more)))
  (ns:∀m,s.heap.Ns X.env.locals m->h'.Ns X.env.locals m) (hok:HOk X.prog X.w H' h') (hg:cD g'):
  Inv X pins σ H' { s with heap:=h',gens:=g',drawn:=d',toks:=t' }:=by
 have neL:∀b o,X.s₀.heap.get? b=some o->b≠X.env.locals:=λb o e=>aP (bB (aH e) I.ok.above);have neC:∀b o,X.s₀.heap.get? b=some o->b∉X.ex->b∉ch:=λb o e hx hb=>by
  rcases(hch b hb).1 with z|z
  ·exact hx z
  ·exact ak (bB (aH e) z) (dw _)
 have cellK:∀x c,X.env.cells.lookup x=some c->∀v,s.heap.IsCell c v->h'.IsCell c v:=λx c e v ⟨o,ho,hd⟩=>by
  have nch:c∉ch:=λz=>(hch c z).2.2.1 x c e rfl;by_cases hc:c∈X.fs
  ·obtain⟨sl,q⟩:=slot c o (I.cne x c e) hc nch ho (I.freeC x c e);exact⟨_,q,hd⟩
  ·exact⟨o,keep c o (I.cne x c e) hc nch ho (I.freeC x c e),hd⟩
 refine⟨I.ok,I.os,hg,⟨λb o e n hb hx=>?_,λb o e n hb hx=>?_,λb o e n hx=>?_,λb o e hx=>?_,λb xs e=>tups b xs (I.base.tups b xs e),λb o xs e=>frzs b o xs (I.base.frzs b o xs e),λb ps e=>?_⟩,?_,λx c e=>?_,?_,λx c e=>?_,λp hp=>?_,hok,I.len⟩
 ·exact keep b o (neL b o e) hb (neC b o e hx) (I.base.keep b o e n hb hx) (I.base.free b o e n hx)
 ·obtain⟨sl,e1⟩:=I.base.slot b o e n hb hx;obtain⟨sl',e2⟩:=slot b _ (neL b o e) hb (neC b o e hx) e1 (I.base.free b o e n hx);exact⟨sl',e2⟩
 ·obtain⟨o',e1⟩:=I.base.there b o e hx;exact free b o' (neC b o e hx) e1 (I.base.free b o e n hx)
 ·obtain⟨o',e1⟩:=I.base.there b o e hx;exact there b o' (neC b o e hx) e1
 ·obtain⟨m1,e1⟩:=I.base.tbls b ps e;obtain⟨m2,e2⟩:=tbls b _ e1;exact⟨m1++m2,by rw[e2,Array.append_assoc]⟩
 ·obtain⟨m,hn,hl⟩:=I.loc;refine⟨m,ns m hn,λi x v e1 e2 e3=>?_⟩;obtain⟨u,r,l⟩:=hl i x v e1 e2 e3;refine⟨u,r,?_⟩;rcases l with l|⟨k,c,e,z⟩
  ·exact .inl l
  ·exact .inr ⟨k,c,e,cellK x c e _ z⟩
 ·obtain⟨v,z⟩:=I.cell x c e;exact⟨v,cellK x c e v z⟩
 ·obtain⟨m,⟨o,_,_,ho,_⟩,_⟩:=I.loc;exact free _ o (λz=>(hch _ z).2.1 rfl) ho I.free
 ·obtain⟨v,o,ho,hd⟩:=I.cell x c e;exact free c o (λz=>(hch c z).2.2.1 x c e rfl) ho (I.freeC x c e)
 ·obtain⟨e,n,ne,nf,d⟩:=I.pin p hp;have nch:p.1∉ch:=λz=>(hch p.1 z).2.2.2 p hp rfl;exact⟨keep p.1 p.2 ne nf nch e n,free p.1 p.2 nch e n,ne,nf,d⟩
theorem Inv.un(I:Inv X pins σ H s)(u:Un X.fs [] H H' s.heap h')(hok:HOk X.prog X.w H' h'):Inv X pins σ H' { s with heap:=h',toks:=t' }:=by
 obtain⟨m,⟨o,es,ep,ho,r⟩,_⟩:=id I.loc;obtain⟨sl,hL⟩:=u.any ho I.free (by simp);exact I.step (g':=s.gens) (d':=s.drawn) (ch:=[]) (λ_ z=>nomatch z) (λb o _ hb _ e n=>u.keep b o e n hb (by simp)) (λb o _ hb _ e n=>u.slot b o e n hb (by simp)) (λb o _ e n=>u.free b o e n (by simp)) (λb o _ e=>u.there b o e (by simp)) u.tups u.frzs u.tbls (λm' hm=>by
  obtain⟨o',es',ep',ho',r'⟩:=hm;rw[ho]at ho';cases ho';exact⟨_,es',ep',hL,r'⟩) hok I.bare
theorem Inv.call(I:Inv X pins σ H s)(u:Un (frs X.stack) ch H H' s.heap h')(hok:HOk X.prog X.w H' h')(hg:cD g')
  (hch:∀b∈ch,(b∈X.ex\/X.s₀.heap.objs.size<=b)/\b≠X.env.locals/\(∀x c,X.env.cells.lookup x=some c->c≠b)/\∀p∈X.pn++pins,p.1≠b):
  Inv X pins σ H' { s with heap:=h',gens:=g',drawn:=d',toks:=t' }:=by
 obtain⟨m,⟨o,es,ep,ho,r⟩,_⟩:=id I.loc;obtain⟨sl,hL⟩:=u.any ho I.free λz=>(hch _ z).2.1 rfl;exact I.step (ch:=ch) hch (λb o hL hb hc e n=>u.keep b o e n (λz=>(aO.mp (I.stkSub b z)).elim hL hb) hc) (λb o _ _ hc e n=>u.any e n hc) (λb o hc e n=>u.free b o e n hc) (λb o hc e=>u.there b o e hc) u.tups u.frzs u.tbls (λm' hm=>by
  obtain⟨o',es',ep',ho',r'⟩:=hm;rw[ho]at ho';cases ho';exact⟨_,es',ep',hL,r'⟩) hok hg
theorem Inv.turned(I:Inv X pins σ H s)(k:∀b o,b≠it->s.heap.get? b=some o->h'.get? b=some o)(hn:H it=none)(hL:it≠X.env.locals)
  (h1:it∈X.ex\/X.s₀.heap.objs.size<=it) (h2:∀x c,X.env.cells.lookup x=some c->c≠it) (h3:∀p∈X.pn++pins,p.1≠it):Inv X pins σ H { s with heap:=h',toks:=t' }:=by
 have nit:∀b u,H b=some u->b≠it:=λb u e z=>by rw[z,hn]at e;cases e
 refine I.step (g':=s.gens) (d':=s.drawn) (ch:=[it]) (λb hb=>?_) (λb o _ _ hc e _=>k b o (λz=>hc (by simp[z])) e) (λb o _ _ hc e _=>⟨o.slots,k b o (λz=>hc (by simp[z])) e⟩) (λ_ _ _ _ n=>n)
  (λb o hc e=>⟨o,k b o (λz=>hc (by simp[z])) e⟩) (λ_ _ e=>e) (λ_ _ _ e=>e) (λb ps e=>⟨#[],by rw[e];simp⟩) (λm hm=>?_) (λb u e=>?_) I.bare
 ·have e:b=it:=by simpa using hb
  subst e;exact⟨h1,hL,h2,h3⟩
 ·obtain⟨o,es,ep,ho,r⟩:=hm;exact⟨o,es,ep,k _ o (dc hL) ho,r⟩
 ·refine(I.hok b u e).stay (λc v hc q=>k c v ?_ q) (λ_ q=>q) λ_ _ q=>q;rcases hc with z|z
  ·rw[z];exact nit b u e
  ·exact nit c _ z
theorem Inv.tok(I:Inv X pins σ H s)(t:Nat):Inv X pins σ H { s with toks:=t }:=I.un (h':=s.heap) (t':=t) Un.refl I.hok
theorem Inv.kept(I:Inv X pins σ H s)(k:∀b u,s.heap.get? b=some u->h'.get? b=some u):Inv X pins σ H { s with heap:=h',toks:=t' }:=I.un (Un.kept k) (I.hok.kept k)
theorem Inv.laid(I:Inv X pins σ H s)(k:∀b u,s.heap.get? b=some u->h'.get? b=some u)(hp:s.heap.objs.size<=a)(new:oQ X.prog X.w (upd H a o) h' a o):
  Inv X pins σ (upd H a o) { s with heap:=h',toks:=t' }:=I.un (Un.laid k hp (I.hok.fresh hp)) (I.hok.laid k hp new)
theorem Inv.write{x e:Addr}(I:Inv X pins σ H s)(mu:Mut (H x))(he:e=x\/H e=some (.own x))(k:∀b u,b≠e->s.heap.get? b=some u->h'.get? b=some u)(heo:∃u,h'.get? e=some u)
  (new:oQ X.prog X.w (upd H x o) h' x o):Inv X pins σ (upd H x o) { s with heap:=h',toks:=t' }:=I.un (Un.write mu he k heo) (I.hok.write mu he k heo new)
theorem Inv.weak{σ':List (Option V)}(I:Inv X pins σ H s)(hl:σ'.length=σ.length)(w:∀(i:Nat) v,σ'[i]?=some (some v)->σ[i]?=some (some v)):Inv X pins σ' H s:=
 ⟨I.ok,I.os,I.bare,I.base,let ⟨m,hn,hl'⟩:=I.loc;⟨m,hn,λi x v e1 e2 e3=>hl' i x v e1 (w i v e2) e3⟩,I.cell,I.free,I.freeC,I.pin,I.hok,hl.trans I.len⟩
theorem Inv.pins_of{pins':List (Addr×Obj)}(I:Inv X pins σ H s)(h:∀p∈pins',s.heap.get? p.1=some p.2/\H p.1=none/\p.1≠X.env.locals/\p.1∉X.fs/\∀v,p.2.data≠.cell v):Inv X pins' σ H s:=
 ⟨I.ok,I.os,I.bare,I.base,I.loc,I.cell,I.free,I.freeC,λp hp=>(bC.mp hp).elim (λz=>I.pin p (bw _ z)) (h p),I.hok,I.len⟩
theorem BS(hN:N.Nodup)(a:N[i]?=some x)(b:N[j]?=some x):i=j:=by obtain⟨h1,e1⟩:=bu.mp a;obtain⟨h2,e2⟩:=bu.mp b;exact(gW hN).mp (e1.trans e2.symm)
theorem Fn{A:av}{v:V}{Q:Unit->ae->Prop}(I:Inv X pins σ H s)(hN:X.N.Nodup)(hi:X.N[i]?=some x)(hx:Loc X.env.scope x)(r:RelV v u)
  (h:∀s',Inv X pins (σ.set i (some v)) H s'->(∃a,dX a s.heap s'.heap/\(a=X.env.locals\/X.env.cells.lookup x=some a))->Q () s') (hf:X.fn x=true\/X.env.scope.names.lookup x=some .local:=by first|exact .inl rfl|exact .inr rfl|assumption):af M A (storeName X.env x u) Q E s:=by
 obtain⟨m,hn,hl⟩:=id I.loc;have hcls:(X.env.scope.kind==.class||(X.env.scope.kind==.module&&X.env.locals != X.env.globals))=false:=by rw[I.ok.kind];rfl
 have hiσ:i<σ.length:=by rw[I.len];exact(bu.mp hi).1
 have cne:=I.cne;have tracked:∀{a:Addr} {h':Heap},(∃o,s.heap.get? a=some o/\H a=none)->dX a s.heap h'->HOk X.prog X.w H h':=λ{a h'} ha hs b ob e=>by
  obtain⟨_,_,hfree⟩:=ha;refine(I.hok b ob e).stay (λc w' hc q=>(hs.2 c ?_).trans q) (λ_ q=>q) λ_ _ q=>q;rintro rfl;rcases hc with rfl|hc
  ·rw[hfree]at e;cases e
  ·rw[hfree]at hc;cases hc
 rcases hx with hk|hk
 ·refine wpAny_storeName_local hk hn (λh' hn' hs=>?_) hcls;obtain⟨oL,_,_,hoL,_⟩:=id hn;refine h _ ⟨I.ok,I.os,I.bare,⟨λb o e n hb hx=>?_,λb o e n hb hx=>?_,I.base.free,λb o e hx=>?_,I.base.tups,I.base.frzs,I.base.tbls⟩,⟨_,hn',λj y v' e1 e2 e3=>?_⟩,λy c e=>?_,I.free,I.freeC,λp hp=>?_,tracked ⟨oL,hoL,I.free⟩ hs,by simpa using I.len⟩ ⟨_,hs,.inl rfl⟩
  ·exact(hs.2 b (aP (bB (aH e) I.ok.above))).trans (I.base.keep b o e n hb hx)
  ·obtain⟨sl,e1⟩:=I.base.slot b o e n hb hx;exact⟨sl,(hs.2 b (aP (bB (aH e) I.ok.above))).trans e1⟩
  ·obtain⟨o',e1⟩:=I.base.there b o e hx;exact⟨o',(hs.2 b (aP (bB (aH e) I.ok.above))).trans e1⟩
  ·by_cases hj:j=i
   ·subst hj;rw[hi]at e1;cases e1;rw[fB hiσ]at e2;cases e2;exact⟨u,r,.inl ⟨hk,by simp⟩⟩
   ·rw[gw (dc hj)]at e2;obtain⟨u',r',q⟩:=hl j y v' e1 e2 e3;refine⟨u',r',?_⟩;rcases q with ⟨k,e⟩|⟨k,c,e,z⟩
    ·refine .inl ⟨k,?_⟩;have:y≠x:=λe=>hj (BS hN e1 (e▸hi));simp[this,e]
    ·exact .inr ⟨k,c,e,z.sameBut hs (cne y c e)⟩
  ·obtain⟨w',z⟩:=I.cell y c e;exact⟨w',z.sameBut hs (cne y c e)⟩
  ·obtain⟨e,n,ne,nf,d⟩:=I.pin p hp;exact⟨(hs.2 p.1 ne).trans e,n,ne,nf,d⟩
 ·have hfn:X.fn x=true:=by
   rcases hf with z|z
   ·exact z
   ·rw[z]at hk;cases hk
  obtain⟨c,hc⟩:=I.ok.has x (.inl hk);obtain⟨w',z⟩:=I.cell x c hc;refine wpAny_storeName_cell I.ok.kind hk hc z (λh' hc' hs=>?_);obtain⟨oc,hoc,hocd⟩:=id z;refine h { s with heap:=h' } ⟨I.ok,I.os,I.bare,⟨λb o e n hb hx=>?_,λb o e n hb hx=>?_,I.base.free,λb o e hx=>?_,I.base.tups,I.base.frzs,I.base.tbls⟩,⟨m,hn.sameBut hs (dc (cne x c hc)),λj y v' e1 e2 e3=>?_⟩,λy c' e=>?_,I.free,I.freeC,λp hp=>?_,tracked ⟨oc,hoc,I.freeC x c hc⟩ hs,by simpa using I.len⟩ ⟨c,hs,.inr hc⟩
  ·exact(hs.2 b (aP (bB (aH e) (I.ok.cab x c hfn hc)))).trans (I.base.keep b o e n hb hx)
  ·obtain⟨sl,e1⟩:=I.base.slot b o e n hb hx;exact⟨sl,(hs.2 b (aP (bB (aH e) (I.ok.cab x c hfn hc)))).trans e1⟩
  ·obtain⟨o',e1⟩:=I.base.there b o e hx;exact⟨o',(hs.2 b (aP (bB (aH e) (I.ok.cab x c hfn hc)))).trans e1⟩
  ·by_cases hj:j=i
   ·subst hj;rw[hi]at e1;cases e1;rw[fB hiσ]at e2;cases e2;exact⟨u,r,.inr ⟨.inl hk,c,hc,hc'⟩⟩
   ·rw[gw (dc hj)]at e2;obtain⟨u',r',q⟩:=hl j y v' e1 e2 e3;refine⟨u',r',?_⟩;rcases q with q|⟨k,c',e,z'⟩
    ·exact .inl q
    ·refine .inr ⟨k,c',e,z'.sameBut hs ?_⟩;rintro rfl;exact hj (BS hN e1 (I.ok.inj _ _ _ e hc▸hi))
  ·by_cases hcc:c'=c
   ·subst hcc;exact⟨_,hc'⟩
   ·obtain⟨w2,z2⟩:=I.cell y c' e;exact⟨w2,z2.sameBut hs hcc⟩
  ·obtain⟨e,n,ne,nf,d⟩:=I.pin p hp;refine⟨(hs.2 p.1 ?_).trans e,n,ne,nf,d⟩;intro q;rw[q,hoc]at e;have q':oc=p.2:=bK e;exact d w' (by rw[<-q'];exact hocd)
theorem BU{A:av}{v:V}{Q:Unit->ae->Prop}(I:Inv X pins σ H s)(hN:X.N.Nodup)(hi:X.N[i]?=some x)(hx:Loc X.env.scope x)(r:RelV v u)
  (h:∀s',Inv X pins (σ.set i (some v)) H s'->Q () s') (hf:X.fn x=true\/X.env.scope.names.lookup x=some .local:=by first|exact .inl rfl|exact .inr rfl|assumption):af M A (storeName X.env x u) Q E s:=
 Fn I hN hi hx r (λs' I' _=>h s' I') hf
theorem Inv.call'(I:Inv X pins σ H s)(ho:s'.os=s.os)(u:Un (frs X.stack) ch H H' s.heap s'.heap)(hok:HOk X.prog X.w H' s'.heap)(hg:cD s'.gens)
  (hch:∀b∈ch,(b∈X.ex\/X.s₀.heap.objs.size<=b)/\b≠X.env.locals/\(∀x c,X.env.cells.lookup x=some c->c≠b)/\∀p∈X.pn++pins,p.1≠b):Inv X pins σ H' s':=by
 obtain⟨h',g',d',t',o'⟩:=s';have e:o'=s.os:=ho;subst e;exact I.call (g':=g') (t':=t') (d':=d') u hok hg hch
end
abbrev XK:=aa->Option Addr->Hp->Prop
abbrev St:=List (Option V)
abbrev VK:=V->Hp->Prop
abbrev TE:=St->Hp->VK->Prop
abbrev TT:=St->Hp->(Bool->Hp->Prop)->Prop
abbrev TA:=St->Hp->(List V->Hp->Prop)->Prop
structure Ends where
 nx:St->Hp->Prop
 rt:VK
 bk:St->Hp->Prop:=λ_ _=>False
 ct:St->Hp->Prop:=λ_ _=>False
abbrev TS:=Ends->St->Hp->Prop
def EP(X:Cx)(pins:List (Addr×Obj))(σ:St)(Q:VK)(u:aa)(s':ae):Prop:=∃v H',Inv X pins σ H' s'/\RelV v u/\Q v H'
def TP(X:Cx)(pins:List (Addr×Obj))(σ:St)(Q:Bool->Hp->Prop)(b:Bool)(s':ae):Prop:=∃H',Inv X pins σ H' s'/\Q b H'
def AP(X:Cx)(pins:List (Addr×Obj))(σ:St)(Q:List V->Hp->Prop)(us:List aa)(s':ae):Prop:=∃vs H',Inv X pins σ H' s'/\Vals vs us/\Q vs H'
def SP(X:Cx)(pins:List (Addr×Obj))(D:Ends)(f:Flow)(s':ae):Prop:=
 match f with
 |.next=>∃σ' H',Inv X pins σ' H' s'/\D.nx σ' H'
 |.brk=>∃σ' H',Inv X pins σ' H' s'/\D.bk σ' H'
 |.cont=>∃σ' H',Inv X pins σ' H' s'/\D.ct σ' H'
 |.ret u=>∃v σ' H',Inv X pins σ' H' s'/\RelV v u/\D.rt v H'
def PE(X:Cx)(e:Expr)(t:TE):Prop:=
 ∀(pins:List (Addr×Obj)) (s:ae) (σ:St) (H:Hp) (Q:VK),Inv X pins σ H s->t σ H Q->af (model X.prog X.w) X.A (eval e X.env) (EP X pins σ Q) X.xe s
def PT(X:Cx)(e:Expr)(t:TT):Prop:=
 ∀(pins:List (Addr×Obj)) (s:ae) (σ:St) (H:Hp) (Q:Bool->Hp->Prop),Inv X pins σ H s->t σ H Q->af (model X.prog X.w) X.A (isTrue e X.env (eval e X.env)) (TP X pins σ Q) X.xe s
def PW(X:Cx)(e:Expr)(t:TT):Prop:=
 ∀(whole:Sem aa) (pins:List (Addr×Obj)) (s:ae) (σ:St) (H:Hp) (Q:Bool->Hp->Prop),Inv X pins σ H s->t σ H Q->af (model X.prog X.w) X.A (isTrue e X.env whole) (TP X pins σ Q) X.xe s
variable{X:Cx}{e:Expr}
theorem PW.pt{t:TT}(h:PW X e t):PT X e t:=h _
def PA(X:Cx)(es:List Expr)(t:TA):Prop:=
 ∀(pos:Pos) (pins:List (Addr×Obj)) (s:ae) (σ:St) (H:Hp) (Q:List V->Hp->Prop),Inv X pins σ H s->t σ H Q->af (model X.prog X.w) X.A (spliced (aQ pos (aq es X.env))) (AP X pins σ Q) X.xe s
def PS(X:Cx)(st:Stmt)(t:TS):Prop:=
 ∀(pins:List (Addr×Obj)) (s:ae) (σ:St) (H:Hp) (D:Ends),Inv X pins σ H s->t D σ H->af (model X.prog X.w) X.A (exec st X.env) (SP X pins D) X.xe s
def PSs(X:Cx)(st:List Stmt)(t:TS):Prop:=
 ∀(pins:List (Addr×Obj)) (s:ae) (σ:St) (H:Hp) (D:Ends),Inv X pins σ H s->t D σ H->af (model X.prog X.w) X.A (execs st X.env) (SP X pins D) X.xe s
theorem thn{α:Type}{t:Sem α}{Q Q':α->ae->Prop}{A:av}{s:ae}(h:af M A t Q E s)(hQ:∀a s,Q a s->Q' a s):af M A t Q' E s:=bh h hQ λ_ _ x=>x
variable{pins:List (Addr×Obj)}{σ:St}{pos:Pos}{Q:aa->ae->Prop}{op:dF}{t:TE}{c:Expr}
section
variable{X:Cx}
theorem bin{a b:Expr}{ta tb:TE}(ha:PE X a ta)(hb:PE X b tb){s:ae}{H:Hp}{R:V->V->Hp->Prop}(I:Inv X pins σ H s)(h:ta σ H λx H1=>tb σ H1 λy H2=>R x y H2)
  {α:Type} {Q:α->ae->Prop} {f:aa->aa->Sem α}
  (hf:∀v u s2 x y H2,Inv X pins σ H2 s2->RelV x v->RelV y u->R x y H2->af (model X.prog X.w) X.A (f v u) Q X.xe s2):
  af (model X.prog X.w) X.A (eval a X.env) (λv s₁=>af (model X.prog X.w) X.A (eval b X.env) (λu s₂=>af (model X.prog X.w) X.A (f v u) Q X.xe s₂) X.xe s₁) X.xe s:=by
 refine thn (ha pins s σ H _ I h) λv s1 zz=>?_;obtain⟨x,H1,I1,r1,q1⟩:=zz;refine thn (hb pins s1 σ H1 _ I1 q1) λu s2 zz=>?_;obtain⟨y,H2,I2,r2,q2⟩:=zz;exact hf v u s2 x y H2 I2 r1 r2 q2
def ue(i:Nat):TE:=λσ H Q=>∃v,σ[i]?=some (some v)/\Q v H
def tC(v:V):TE:=λ_ H Q=>Q v H
theorem Ma(hN:X.N[i]?=some x)(hv:Vis X.env.scope x)(hd:(x==("__debug__" : Str))=false:=by decide)(hcd:(x==("__classdict__" : Str))=false:=by decide):PE X (.Name x pos) (ue i):=by
 intro pins s σ H Q I h;obtain⟨v,e,h⟩:=h;obtain⟨m,hn,hl⟩:=I.loc;obtain⟨u,r,l⟩:=hl i x v hN e hv;have fin:EP X pins σ Q u s:=⟨v,H,I,r,h⟩;rcases l with ⟨hk,hm⟩|⟨hk,c,hc,hcell⟩
 ·exact iK (wpAny_loadName_local I.ok.kind hk hn hm fin) hd
 ·rcases hk with hk|hk
  ·exact iK (wpAny_loadName_cell I.ok.kind hk hc hcell fin) hd
  ·exact iK (wpAny_loadName_free I.ok.kind hk hc hcell fin hcd) hd
theorem Gy{i j pos}:PE X (.Constant (.int i) j pos) (tC (.int i)):=λ_ _ _ H _ I h=>wpAny_Constant_int ⟨.int i,H,I.tok _,⟨_,rfl⟩,h⟩
theorem PD{b j pos}:PE X (.Constant (.bool b) j pos) (tC (.bl b)):=λ_ _ _ H _ I h=>Constant_bool ⟨.bl b,H,I,rfl,h⟩
theorem Mb{j pos}:PE X (.Constant .none j pos) (tC .non):=λ_ _ _ H _ I h=>Constant_none ⟨.non,H,I,rfl,h⟩
theorem GA{x j pos}:PE X (.Constant (.str x) j pos) (tC (.str x)):=λ_ _ _ H _ I h=>Calls.Constant_str ⟨.str x,H,I.tok _,⟨_,rfl⟩,h⟩
def Gl(X:Cx)(x:Str):Prop:=X.env.kindOf x=some .globalImplicit
theorem sL{s:ae}{H:Hp}(I:Inv X pins σ H s)(hg:Gl X x)(hm:X.mg x=some u)(h:Q u s)
  (hd:(x==("__debug__" : Str))=false:=by decide):af (model X.prog X.w) X.A (eval (.Name x pos) X.env) Q E s:=
 iZ I.ok.kind hg (Calls.loadGlobal_global (by rw[I.ok.glob];exact I.mod.glob.keeps I.bk) hm h) hd
theorem wg{s:ae}{H:Hp}(I:Inv X pins σ H s)(hg:Gl X x)(hm:X.mg x=none)(hv:cu x=some u)(h:Q u s)
  (hn:x≠"__name__" := by decide) (hd:(x==("__debug__" : Str))=false:=by decide):af (model X.prog X.w) X.A (eval (.Name x pos) X.env) Q E s:=by
 obtain⟨mb,h1,h2⟩:=I.mod.blt;exact iZ I.ok.kind hg (Calls.loadGlobal_builtin (by rw[I.ok.glob];exact I.mod.glob.keeps I.bk) hm (by rw[I.ok.blt];exact h1.keeps I.bk) ((h2 x hn).trans hv) h) hd
theorem yX{v:V}(hg:Gl X x)(hm:X.mg x=some u)(r:RelV v u)(hd:(x==("__debug__" : Str))=false:=by decide):PE X (.Name x pos) (tC v):=
 λ_ _ _ H _ I h=>sL I hg hm ⟨v,H,I,r,h⟩ hd
theorem Jw{v:V}(hg:Gl X x)(hm:X.mg x=none)(hv:cu x=some u)(r:RelV v u)(hn:x≠"__name__" := by decide)(hd:(x==("__debug__" : Str))=false:=by decide):PE X (.Name x pos) (tC v):=
 λ_ _ _ H _ I h=>wg I hg hm hv ⟨v,H,I,r,h⟩ hn hd
variable{a b:Expr}{ta tb:TE}{pos:Pos}
def PC(X:Cx)(op:dF)(a b:Expr)(t:TE):Prop:=
 ∀(pins:List (Addr×Obj)) (s:ae) (σ:St) (H:Hp) (Q:VK),Inv X pins σ H s->t σ H Q->
  af (model X.prog X.w) X.A (eval a X.env) (λv s₁=>af (model X.prog X.w) X.A (eval b X.env) (λu s₂=>af (model X.prog X.w) X.A (aM op v u) (EP X pins σ Q) X.xe s₂) X.xe s₁) X.xe s
def tB(t:TE):TT:=λσ H Q=>t σ H λx H1=>∃c,x=.bl c/\Q c H1
theorem RF(h:PC X op a b t)(h1:dy op b=false:=by first|exact nobehind _ (by decide) (by decide)|rfl):PT X (.Compare a [op] [b] pos) (tB t):=by intro pins s σ H Q I hw;refine jf (thn (h pins s σ H _ I hw) λv s1 h1=>thn h1 λu s2 h2=>thn h2 λc s3 zz=>?_) h1;obtain⟨x,H1,I1,r1,q1⟩:=zz;obtain⟨d,rfl,q⟩:=q1;cases r1;exact cf ⟨H1,I1,q⟩
theorem Mc(h:PE X e t)(he:∀whole,isTrue e X.env whole=(do let v<-whole;standAt e.pos;holding [v] (truthy v)):=by intro _;rfl):PT X e (tB t):=by intro pins s σ H Q I hw;refine isTrue_plain (thn (h pins s σ H _ I hw) λv s1 zz=>?_) (he _);obtain⟨x,H1,I1,r1,q1⟩:=zz;obtain⟨d,rfl,q⟩:=q1;cases r1;exact cf ⟨H1,I1,q⟩
variable{tA tB':TT}{rest:List Expr}
def tOr(t u:TT):TT:=λσ H Q=>t σ H λc H1=>if c=true then Q true H1 else u σ H1 Q
def RG(t:TT):TT:=λσ H Q=>t σ H λc H1=>Q (!c) H1
theorem Md(ha:PT X a tA):PW X (.BoolOp .Or [a] pos) tA:=by
 intro wh pins s σ H Q I h;refine isTrue_or (thn (ha pins s σ H Q I h) λc s1 e=>?_);cases c with
 |false=>exact isTrue_or_nil e
 |true=>exact e
theorem PF(ha:PT X a tA)(hb:PW X (.BoolOp .Or (b::rest) pos) tB'):PW X (.BoolOp .Or (a::b::rest) pos) (tOr tA tB'):=by
 intro wh pins s σ H Q I h;refine isTrue_or (thn (ha pins s σ H _ I h) λc s1 zz=>?_);obtain⟨H1,I1,q1⟩:=zz;cases c with
 |true=>exact⟨H1,I1,q1⟩
 |false=>exact hb wh pins s1 σ H1 Q I1 q1
theorem Me(ha:PT X a tA):PT X (.UnaryOp .Not a pos) (RG tA):=by intro pins s σ H Q I h;exact isTrue_not (ha pins s σ H (λc H1=>Q (!c) H1) I h)
def PH(ta tb:TE):TE:=λσ H Q=>ta σ H λx H1=>∃c,x=.bl c/\if c=true then tb σ H1 Q else Q (.bl false) H1
def RH(ta tb:TE):TE:=λσ H Q=>ta σ H λx H1=>∃c,x=.bl c/\if c=true then Q (.bl true) H1 else tb σ H1 Q
def PJ(ta:TE):TE:=λσ H Q=>ta σ H λx H1=>∃c,x=.bl c/\Q (.bl (!c)) H1
theorem Mg{op}(h:PE X a t):PE X (.BoolOp op [a] pos) t:=λpins s σ H Q I hw=>BoolOp_one (h pins s σ H Q I hw)
theorem Mh(ha:PE X a ta)(hb:PE X (.BoolOp .And (b::rest) pos) tb):PE X (.BoolOp .And (a::b::rest) pos) (PH ta tb):=by
 intro pins s σ H Q I h;refine BoolOp_and (thn (ha pins s σ H _ I h) λv s1 zz=>?_);obtain⟨x,H1,I1,r1,q1⟩:=zz;obtain⟨c,rfl,q1⟩:=q1;cases r1;refine cf ?_;cases c with
 |true=>exact hb pins s1 σ H1 Q I1 q1
 |false=>exact⟨.bl false,H1,I1,rfl,q1⟩
theorem PK(ha:PE X a ta)(hb:PE X (.BoolOp .Or (b::rest) pos) tb):PE X (.BoolOp .Or (a::b::rest) pos) (RH ta tb):=by
 intro pins s σ H Q I h;refine BoolOp_or (thn (ha pins s σ H _ I h) λv s1 zz=>?_);obtain⟨x,H1,I1,r1,q1⟩:=zz;obtain⟨c,rfl,q1⟩:=q1;cases r1;refine cf ?_;cases c with
 |false=>exact hb pins s1 σ H1 Q I1 q1
 |true=>exact⟨.bl true,H1,I1,rfl,q1⟩
theorem Mi(ha:PE X a ta):PE X (.UnaryOp .Not a pos) (PJ ta):=by intro pins s σ H Q I h;refine UnaryOp_ (thn (ha pins s σ H _ I h) λv s1 zz=>?_);obtain⟨x,H1,I1,r1,q1⟩:=zz;obtain⟨c,rfl,q1⟩:=q1;cases r1;exact not_of (cf ⟨.bl (!c),H1,I1,rfl,q1⟩)
def tIf(t:TT)(ta tb:TE):TE:=λσ H Q=>t σ H λc H1=>if c=true then ta σ H1 Q else tb σ H1 Q
theorem GB(hc:PT X c tA)(ha:PE X a ta)(hb:PE X b tb):PE X (.IfExp c a b pos) (tIf tA ta tb):=by
 intro pins s σ H Q I h;refine wpAny_IfExp (thn (hc pins s σ H _ I h) λd s1 zz=>?_);obtain⟨H1,I1,q1⟩:=zz;cases d with
 |true=>exact ha pins s1 σ H1 Q I1 q1
 |false=>exact hb pins s1 σ H1 Q I1 q1
end
def SqL(K:aj)(H:Hp)(a:Addr)(xs:List V):Prop:=
 Rd H a (.lst xs)\/
  ∃(o:Obj) (its:Array aa) (n:Nat),K.lookup a=some o/\o.cls=.type "list" /\ o.dict=none/\o.data=.seq its n/\its.size<=ay/\Vals xs its.toList
def SqT(K:aj)(H:Hp)(a:Addr)(xs:List V):Prop:=
 Rd H a (.tup xs)\/
  ∃(o:Obj) (its:Array aa) (n:Nat),K.lookup a=some o/\o.cls=.type "tuple" /\ o.data=.seq its n/\its.size<=ay/\Vals xs its.toList
def RI:aa->Option V
 |.none=>some .non
 |.bool b=>some (.bl b)
 |.int i _=>some (.int i)
 |.str x _=>some (.str x)
 |.bytes b _=>some (.byt b)
 |.float b _=>some (.flt b)
 |.ref a=>some (.ref a)
 |.type n=>some (.ty n)
 |_=>none
theorem RelV.abs{x:V}(r:RelV x u):RI u=some x:=by
 cases x with
 |non=>cases r;rfl
 |bl _=>cases r;rfl
 |int _=>obtain⟨t,rfl⟩:=r;rfl
 |str _=>obtain⟨t,rfl⟩:=r;rfl
 |byt _=>obtain⟨t,rfl⟩:=r;rfl
 |flt _=>obtain⟨t,rfl⟩:=r;rfl
 |ref _=>cases r;rfl
 |ty _=>cases r;rfl
variable{y:V}
theorem RelV.inj{x:V}(r:RelV x u)(q:RelV y u):x=y:=bK (r.abs.symm.trans q.abs)
theorem Vals.inj:∀{xs ys:List V} {us:List aa},Vals xs us->Vals ys us->xs=ys
 |_,_,_,.nil,.nil=>rfl
 |_,_,_,.cons r t,.cons r' t'=>by rw[r.inj r',Vals.inj t t']
section
variable{X:Cx}{pins:List (Addr×Obj)}{σ:St}{H:Hp}{s:ae}{a:Addr}{xs ys:List V}
theorem SqL.of{K:aj}(h:H a=some (.lst xs)):SqL K H a xs:=.inl (.inl h)
theorem SqT.of{K:aj}(h:H a=some (.tup xs)):SqT K H a xs:=.inl (.inl h)
theorem Inv.list(I:Inv X pins σ H s)(h:SqL X.K H a xs):∃its:List aa,Vals xs its/\PlainL s.heap a its.toArray/\xs.length<=ay:=by
 rcases h with h|⟨o,its,n,hk,hc,hd,hs,hz,r⟩
 ·obtain⟨z,its,n,r,e⟩:=h.ok I.hok;exact⟨its,r,⟨_,n,e,rfl,rfl,rfl⟩,z⟩
 ·refine⟨its.toList,r,⟨o,n,I.kIn a o hk,hc,hd,by simpa using hs⟩,?_⟩;have e:=r.length;simp only[bY]at e;omega
theorem Inv.tuple(I:Inv X pins σ H s)(h:SqT X.K H a xs):∃its:List aa,Vals xs its/\IsTup s.heap a its.toArray/\xs.length<=ay:=by
 rcases h with h|⟨o,its,n,hk,hc,hs,hz,r⟩
 ·obtain⟨z,its,r,p⟩:=h.ok I.hok;exact⟨its,r,p,z⟩
 ·refine⟨its.toList,r,⟨o,I.kIn a o hk,hc,n,by simpa using hs⟩,?_⟩;have e:=r.length;simp only[bY]at e;omega
theorem Inv.list_inj(I:Inv X pins σ H s)(h:SqL X.K H a xs)(h':SqL X.K H a ys):xs=ys:=by
 obtain⟨its,r,⟨o,n,e,_,_,d⟩,_⟩:=I.list h;obtain⟨its',r',⟨o',n',e',_,_,d'⟩,_⟩:=I.list h';rw[e]at e';cases e';rw[d]at d';injection d' with d1 _;have:its=its':=by simpa using aR kI d1
 subst this;exact r.inj r'
theorem Inv.tuple_inj(I:Inv X pins σ H s)(h:SqT X.K H a xs)(h':SqT X.K H a ys):xs=ys:=by
 obtain⟨its,r,⟨o,e,_,n,d⟩,_⟩:=I.tuple h;obtain⟨its',r',⟨o',e',_,n',d'⟩,_⟩:=I.tuple h';rw[e]at e';cases e';rw[d]at d';injection d' with d1 _;have:its=its':=by simpa using aR kI d1
 subst this;exact r.inj r'
end
abbrev Cx.wish(X:Cx)(E:aa->ae->Prop):Cx:={ X with xe:=E }
abbrev Cx.nox(X:Cx):Cx:=X.wish λ_ _=>False
theorem Cx.Ok.wish(ok:X.Ok)(E:aa->ae->Prop):(X.wish E).Ok:=
 ⟨ok.mod,ok.kind,ok.glob,ok.blt,ok.above,ok.inj,ok.has,ok.cab,ok.hd,ok.frames,ok.stk,ok.exf,ok.bs,ok.bsz,ok.noex,ok.exfs,ok.funs,ok.frf⟩
theorem Cx.Ok.unwish(ok:(X.wish E).Ok):X.Ok:=
 ⟨ok.mod,ok.kind,ok.glob,ok.blt,ok.above,ok.inj,ok.has,ok.cab,ok.hd,ok.frames,ok.stk,ok.exf,ok.bs,ok.bsz,ok.noex,ok.exfs,ok.funs,ok.frf⟩
section
variable{X:Cx}{pins:List (Addr×Obj)}{σ:St}{H:Hp}{s:ae}{E:aa->ae->Prop}
theorem Inv.wish(I:Inv X pins σ H s)(E:aa->ae->Prop):Inv (X.wish E) pins σ H s:=⟨I.ok.wish E,I.os,I.bare,I.base,I.loc,I.cell,I.free,I.freeC,I.pin,I.hok,I.len⟩
theorem Inv.unwish(I:Inv (X.wish E) pins σ H s):Inv X pins σ H s:=⟨I.ok.unwish,I.os,I.bare,I.base,I.loc,I.cell,I.free,I.freeC,I.pin,I.hok,I.len⟩
theorem SP.unwish{D:Ends}{f:Flow}(h:SP (X.wish E) pins D f s'):SP X pins D f s':=by
 cases f with
 |next=>obtain⟨σ',H',I,q⟩:=h;exact⟨σ',H',I.unwish,q⟩
 |brk=>obtain⟨σ',H',I,q⟩:=h;exact⟨σ',H',I.unwish,q⟩
 |cont=>obtain⟨σ',H',I,q⟩:=h;exact⟨σ',H',I.unwish,q⟩
 |ret u=>obtain⟨v,σ',H',I,r,q⟩:=h;exact⟨v,σ',H',I.unwish,r,q⟩
theorem PSs.nox{st:List Stmt}{t:TS}(h:PSs X.nox st t):PSs X st t:=λpins s σ H D I hw=>
 bh (h pins s σ H D (I.wish _) hw) (λ_ _ q=>q.unwish) λ_ _ z=>bE z
end
section
variable{X:Cx}{st:Stmt}{rest:List Stmt}{t u:TS}{e:Expr}{te:TE}{pos:Pos}
def PL:TS:=λD σ H=>D.nx σ H
def RJ(t u:TS):TS:=λD σ H=>t { D with nx:=u D } σ H
theorem Eh:PSs X [] PL:=λ_ _ σ H _ I h=>eR ⟨σ,H,I,h⟩
theorem wI(h1:PS X st t)(h2:PSs X rest u):PSs X (st::rest) (RJ t u):=by
 intro pins s σ H D I h;refine gX (thn (h1 pins s σ H { D with nx:=u D } I h) λf s1 q=>?_);cases f with
 |next=>obtain⟨σ',H',I',q⟩:=q;exact h2 pins s1 σ' H' D I' q
 |ret v=>exact q
 |brk=>exact q
 |cont=>exact q
theorem yY(h1:PS X st t):PSs X [st] t:=by
 intro pins s σ H D I h;refine gX (thn (h1 pins s σ H D I h) λf s1 q=>?_);cases f with
 |next=>exact eR q
 |ret v=>exact q
 |brk=>exact q
 |cont=>exact q
theorem Inv.quiet{H:Hp}{s:ae}(I:Inv X pins σ H s):interactive X.env=false:=by simp[interactive,I.ok.kind]
def GE(te:TE):TS:=λD σ H=>te σ H λ_ H1=>D.nx σ H1
theorem Bd(he:PE X e te)(hs:bS e none pos.line X.env=pure false:=by rfl):PS X (.Expr e pos) (GE te):=by intro pins s σ H D I h;exact kc (thn (he pins s σ H _ I h) λv s1 ⟨x,H1,I1,r1,q1⟩=>⟨σ,H1,I1,q1⟩) I.quiet hs
def PM(te:TE):TS:=λD σ H=>te σ H D.rt
theorem Do(he:PE X e te):PS X (.Return (some e) pos) (PM te):=by intro pins s σ H D I h;exact wpAny_Return_some (thn (he pins s σ H _ I h) λv s1 ⟨x,H1,I1,r1,q1⟩=>⟨x,σ,H1,I1,r1,q1⟩)
def RK(c:TT)(t u:TS):TS:=λD σ H=>c σ H λb H1=>if b=true then t D σ H1 else u D σ H1
theorem Lx{a b:List Stmt}{tc:TT}(hc:PT X c tc)(ha:PSs X a t)(hb:PSs X b u):PS X (.If c a b pos) (RK tc t u):=by
 intro pins s σ H D I h;refine wpAny_If (thn (hc pins s σ H _ I h) λd s1 zz=>?_);obtain⟨H1,I1,q1⟩:=zz;cases d with
 |true=>exact ha pins s1 σ H1 D I1 q1
 |false=>exact hb pins s1 σ H1 D I1 q1
end
abbrev TG:=V->St->Hp->(St->Hp->Prop)->Prop
abbrev TGs:=List V->St->Hp->(St->Hp->Prop)->Prop
def PG(X:Cx)(target:Expr)(t:TG):Prop:=
 ∀(pins:List (Addr×Obj)) (s:ae) (σ:St) (H:Hp) (v:V) (u:aa) (Q:St->Hp->Prop),Inv X pins σ H s->RelV v u->t v σ H Q->
  af (model X.prog X.w) X.A (assign target X.env u) (λ_ s'=>∃σ' H',Inv X pins σ' H' s'/\Q σ' H') X.xe s
def PGs(X:Cx)(ts:List Expr)(t:TGs):Prop:=
 ∀(pins:List (Addr×Obj)) (s:ae) (σ:St) (H:Hp) (vs:List V) (us:List aa) (Q:St->Hp->Prop),Inv X pins σ H s->Vals vs us->t vs σ H Q->
  af (model X.prog X.w) X.A (assignInOrder ((bR ts X.env).map (·.2)) us) (λ_ s'=>∃σ' H',Inv X pins σ' H' s'/\Q σ' H') X.xe s
abbrev Mj:=V->V->V->Hp->(Hp->Prop)->Prop
def PN(X:Cx)(t:Mj):Prop:=
 ∀(pins:List (Addr×Obj)) (s:ae) (σ:St) (H:Hp) (o i v:V) (ov iv u:aa) (Q:Hp->Prop),Inv X pins σ H s->RelV o ov->RelV i iv->RelV v u->t o i v H Q->
  af (model X.prog X.w) X.A (setItem ov iv u) (λ_ s'=>∃H',Inv X pins σ H' s'/\Q H') X.xe s
variable{es:List Expr}{tg:Expr}{te:TE}
section
variable{X:Cx}{pos:Pos}
def sM(i:Nat):TG:=λv σ H Q=>Q (σ.set i (some v)) H
theorem Ei(hN:X.N.Nodup)(hi:X.N[i]?=some x)(hx:Loc X.env.scope x)(hf:X.fn x=true\/X.env.scope.names.lookup x=some .local:=by first|exact .inl rfl|exact .inr rfl|assumption):PG X (.Name x pos) (sM i):=by intro pins s σ H v u Q I r h;exact wpAny_assign_Name (BU I hN hi hx r (λs' I'=>⟨_,H,I',h⟩) hf)
def PQ:TGs:=λvs σ H Q=>vs=[]/\Q σ H
def Ly(t:TG)(u:TGs):TGs:=λvs σ H Q=>∃v r,vs=v::r/\t v σ H λσ' H'=>u r σ' H' Q
theorem Jx:PGs X [] PQ:=by intro pins s σ H vs us Q I r h;obtain⟨e,h⟩:=h;subst e;cases r;exact assignInOrder_nil ⟨σ,H,I,h⟩
theorem GF{t:TG}{u:TGs}(h1:PG X e t)(h2:PGs X es u)
  (hs:(bR (e::es) X.env).map (·.2)=assign e X.env::(bR es X.env).map (·.2):=by rfl):PGs X (e::es) (Ly t u):=by
 intro pins s σ H vs us Q I r h;obtain⟨v,vr,e1,h⟩:=h;subst e1;cases r with
 |cons r rr=>rw[hs];refine assignInOrder_cons (thn (h1 pins s σ H _ _ _ I r h) λ_ s1 zz=>?_);obtain⟨σ1,H1,I1,q1⟩:=zz;exact h2 pins s1 σ1 H1 _ _ Q I1 rr q1
def Ml(K:aj)(n:Nat)(t:TGs):TG:=λv σ H Q=>∃a xs,v=.ref a/\SqT K H a xs/\xs.length=n/\t xs σ H Q
theorem Mm{k:Nat}{t:TGs}{n:Nat}(hc:X.calm=true)(h:PGs X es t)
  (hn:(bR es X.env).length=n:=by rfl) (hst:(bR es X.env).findIdx? (·.1)=none:=by rfl):PG X (.Tuple es k pos) (Ml X.K n t):=by
 intro pins s σ H v u Q I r hw;obtain⟨a,xs,e1,hq,hl,hw⟩:=hw;subst e1;cases r;obtain⟨its,rv,ht,hz⟩:=I.tuple hq;refine assign_Tuple_tuple (I.ok.hd hc) ht (by simp[hn,<- hl,rv.length]) hst λh' hx=>?_;have I1:Inv X pins σ H { s with heap:=h' }:=I.kept (t':=s.toks) λb o e=>hx b o (aP (aH e)) e;exact h pins _ σ H xs _ Q I1 (by simpa using rv) hw
def PR(to ti:TE)(t:Mj):TG:=λv σ H Q=>to σ H λo H1=>ti σ H1 λi H2=>t o i v H2 λH3=>Q σ H3
theorem Mn{o i:Expr}{to ti:TE}{t:Mj}(ho:PE X o to)(hi:PE X i ti)(hs:PN X t)
  (ha:∀v,assign (.Subscript o i pos) X.env v=(do
   let ov<-holding [v] (eval o X.env);let iv<-holding [v,ov] (eval i X.env)
   standAt pos
   holding [v,ov,iv] (setItem ov iv v)
   release [v,ov,iv] []):=by intro _;rfl):PG X (.Subscript o i pos) (PR to ti t):=by
 intro pins s σ H v u Q I r h;rw[ha];refine ar (cq (thn (ho pins s σ H _ I h) λov s1 zz=>?_));obtain⟨x,H1,I1,r1,q1⟩:=zz;refine ar (cq (thn (hi pins s1 σ H1 _ I1 q1) λiv s2 zz=>?_));obtain⟨y,H2,I2,r2,q2⟩:=zz;refine ar (ie (ar (cq (thn (hs pins s2 σ H2 x y v ov iv u _ I2 r1 r2 r q2) λ_ s3 zz=>?_))));obtain⟨H3,I3,q3⟩:=zz;exact wpAny_release ⟨σ,H3,I3,q3⟩
def wj(te:TE)(g:TG):TS:=λD σ H=>te σ H λx H1=>g x σ H1 D.nx
theorem GH{g:TG}(he:PE X e te)(hg:PG X tg g)(hs:swapsWithSole [tg] e pos.line X.env=pure false:=by rfl)(hw:swappedStores [tg] e X.env=pure none:=by rfl)
  (h1:(bR [tg] X.env).map (·.2)=[assign tg X.env]:=by rfl):PS X (.Assign [tg] e pos) (wj te g):=by
 intro pins s σ H D I h;refine wpAny_Assign_stores (thn (he pins s σ H _ I h) λv s1 zz=>?_) hs hw;obtain⟨x,H1,I1,r1,q1⟩:=zz;rw[h1];exact thn (hg pins s1 σ H1 x v _ I1 r1 q1) λ_ s2 q=>q
theorem Mo{pos':Pos}(hN:X.N.Nodup)(hi:X.N[i]?=some x)(hx:Loc X.env.scope x)(he:PE X e te)(hs:bS e (some (.Name x pos')) pos.line X.env=pure false:=by rfl)(hf:X.fn x=true\/X.env.scope.names.lookup x=some .local:=by first|exact .inl rfl|exact .inr rfl|assumption):
  PS X (.Assign [.Name x pos'] e pos) (wj te (sM i)):=by
 intro pins s σ H D I h;refine wpAny_Assign_Name (thn (he pins s σ H _ I h) λv s1 zz=>?_) hs;obtain⟨y,H1,I1,r1,q1⟩:=zz;exact BU I1 hN hi hx r1 (λs2 I2=>⟨_,H1,I2,q1⟩) hf
end
structure It where
 go:Nat->Hp->Prop
 yld:Nat->Hp->V->Hp->Prop
 stop:Nat->Hp->Prop
def Be(X:Cx)(pins:List (Addr×Obj))(H:Hp)(b:Addr):Prop:=
 H b=none/\b≠X.env.locals/\b∉X.fs/\(b∈X.ex\/X.s₀.heap.objs.size<=b)/\(∀x c,X.env.cells.lookup x=some c->c≠b)/\∀p∈X.pn++pins,p.1≠b
theorem Inv.fpOk{H H':Hp}{s:ae}(I:Inv X pins σ H s)(hb:s.heap.objs.size<=b)(hn:H' b=none):Be X pins H' b:=by
 refine⟨hn,iw (bB I.lt hb),I.nofs hb,.inr (bD I.sz hb),λx c e z=>?_,λp hp z=>?_⟩
 ·obtain⟨v,q⟩:=I.cell x c e;exact ak (bB q.lt (by rw[z];exact hb)) (dw _)
 ·exact ak (bB (aH (I.pin p hp).1) (by rw[z];exact hb)) (dw _)
structure Turn(P:au)(w:ao)(K:aj)(tg:Expr)(J:It)(fp:List Addr)(it:Addr)(tn:Nat->Heap->Prop):Prop where
 mem:it∈fp
 obj:∀i h,tn i h->∀b∈fp,∃o,h.get? b=some o/\∀v,o.data≠.cell v
 keep:∀i h h',tn i h->(∀b∈fp,∀o,h.get? b=some o->h'.get? b=some o)->tn i h'
 item:∀(X:Cx),X.prog=P->X.w=w->X.K=K->X.calm=true->∀(i:Nat) (pins:List (Addr×Obj)) (s:ae) (σ:St) (H:Hp) (E:aa->ae->Prop),Inv X pins σ H s->(∀b∈fp,Be X pins H b)->tn i s.heap->J.go i H->
  af (model P w) X.A (pyNext (.ref it)) (λr s1=>∃u,r=some u/\
   af (model P w) X.A (dQ tg (.ref it) u) (λ_ s2=>∃x H',Inv X pins σ H' s2/\RelV x u/\J.yld i H x H'/\tn (i+1) s2.heap/\∀b∈fp,H' b=none) E s1) E s
 done:∀(X:Cx),X.prog=P->X.w=w->X.K=K->X.calm=true->∀(i:Nat) (pins:List (Addr×Obj)) (s:ae) (σ:St) (H:Hp) (E:aa->ae->Prop),Inv X pins σ H s->(∀b∈fp,Be X pins H b)->tn i s.heap->J.stop i H->
  af (model P w) X.A (pyNext (.ref it)) (λr s1=>r=none/\Inv X pins σ H s1) E s
 self:∀(A:av) (i:Nat) (s:ae) (Q:aa->ae->Prop) (E:aa->ae->Prop),tn i s.heap->Q (.ref it) s->af (model P w) A (pyIter (.ref it)) Q E s
abbrev TI:=St->Hp->(It->Hp->Prop)->Prop
def PIE(X:Cx)(pins:List (Addr×Obj))(σ:St)(tg:Expr)(R:It->Hp->Prop)(itv:aa)(s2:ae):Prop:=
 ∃(it:Addr) (fp:List Addr) (tn:Nat->Heap->Prop) (J:It) (H':Hp),itv=.ref it/\Inv X pins σ H' s2/\Turn X.prog X.w X.K tg J fp it tn/\tn 0 s2.heap/\(∀b∈fp,Be X pins H' b)/\R J H'
def PI(X:Cx)(tg iter:Expr)(wi:TI):Prop:=
 ∀(pins:List (Addr×Obj)) (s:ae) (σ:St) (H:Hp) (R:It->Hp->Prop),Inv X pins σ H s->wi σ H R->
  af (model X.prog X.w) X.A (eval iter X.env) (λv s1=>af (model X.prog X.w) X.A (pyIter v) (PIE X pins σ tg R) X.xe s1) X.xe s
theorem Ej{A:av}{s:ae}{o:Obj}{n:String}{vs:Array aa}{Q:Unit->ae->Prop}(ho:s.heap.get? it=some o)(hc:o.cls=.type n)(hd:o.data=.fields vs)
  (hn:["enumerate", "zip", "dict_itemiterator", "dict_reverseitemiterator", "odict_iterator", "itertools.zip_longest", "itertools.pairwise"].contains n=false) (hQ:Q () s):af M A (dQ tg (.ref it) u) Q E s:=by
 unfold dQ;cases tg<;>first
  |exact aA hQ
  |(cases u<;>first
    |exact aA hQ
    |(refine ar (wpAny_load ho ?_)
      rw[hc,hd];show af M A (if (["enumerate", "zip", "dict_itemiterator", "dict_reverseitemiterator", "odict_iterator", "itertools.zip_longest", "itertools.pairwise"].contains n&&vs[0]?==some (rawInt _))=true then _ else _) Q E s;rw[ai (by intro h;rw[hn,Bool.false_and]at h;cases h)];exact aA hQ))
def Itl(K:aj)(a:Addr):It:=
 ⟨λi H=>∃xs x,SqL K H a xs/\xs[i]?=some x,λi H x H'=>H'=H/\∀xs,SqL K H a xs->xs[i]?=some x,λi H=>∃xs,SqL K H a xs/\xs.length<=i⟩
def Itt(K:aj)(a:Addr):It:=
 ⟨λi H=>∃xs x,SqT K H a xs/\xs[i]?=some x,λi H x H'=>H'=H/\∀xs,SqT K H a xs->xs[i]?=some x,λi H=>∃xs,SqT K H a xs/\xs.length<=i⟩
def Itr(lo:Int)(n:Nat):It:=⟨λi _=>i<n,λi H x H'=>H'=H/\x=.int (lo+i),λi _=>n<=i⟩
theorem Fo{P:au}{w:ao}{K:aj}(a it:Addr):Turn P w K tg (Itl K a) [it] it (λi h=>h.IsListIter it a i) where
 mem:=by simp
 obj:=λi h st b hb=>by
  have e:b=it:=by simpa using hb
  subst e;obtain⟨o,e,c,d⟩:=st;exact⟨o,e,λv z=>by rw[d]at z;cases z⟩
 keep:=λi h h' st k=>st.at λo e=>k it (by simp) o e
 item:=by intro X hP hw hK hc i pins s σ H E I hf st hg;subst hP hw hK;obtain⟨xs,x,hq,hx⟩:=hg;obtain⟨its,rv,p,hz⟩:=I.list hq;obtain⟨u,hu,ru⟩:=rv.get hx;obtain⟨f0,f1,f2,f3,f4,f5⟩:=hf it (by simp);refine wpAny_pyNext_list_item st p.isList (x:=u) (by simpa using hu) λh' st' sb=>?_;have I1:Inv X pins σ H { s with heap:=h' }:=I.turned (t':=s.toks) (λb o hb e=>(sb.2 b hb).trans e) f0 f1 f3 f4 f5;obtain⟨o,e,c,d⟩:=id st';exact⟨u,rfl,Ej (s:={ s with heap:=h' }) e c d (by decide) ⟨x,H,I1,ru,⟨rfl,λys hy=>by rw[I.list_inj hy hq];exact hx⟩,st',λb hb=>(hf b hb).1⟩⟩
 done:=by intro X hP hw hK hc i pins s σ H E I hf st hg;subst hP hw hK;obtain⟨xs,hq,hx⟩:=hg;obtain⟨its,rv,p,hz⟩:=I.list hq;obtain⟨f0,f1,f2,f3,f4,f5⟩:=hf it (by simp);have hl:=rv.length;exact wpAny_pyNext_list_end (I.ok.hd hc) st p.isList (by simp;omega) λh' eb=>⟨rfl,I.turned (t':=s.toks) (λb o hb e=>eb b o hb e) f0 f1 f3 f4 f5⟩
 self:=λ_ _ _ _ _ st h=>wpAny_pyIter_listiter st h
theorem Dp{P:au}{w:ao}{K:aj}(a it:Addr):Turn P w K tg (Itt K a) [it] it (λi h=>h.IsTupleIter it a i) where
 mem:=by simp
 obj:=λi h st b hb=>by
  have e:b=it:=by simpa using hb
  subst e;obtain⟨o,e,c,d⟩:=st;exact⟨o,e,λv z=>by rw[d]at z;cases z⟩
 keep:=λi h h' st k=>st.at λo e=>k it (by simp) o e
 item:=by intro X hP hw hK hc i pins s σ H E I hf st hg;subst hP hw hK;obtain⟨xs,x,hq,hx⟩:=hg;obtain⟨its,rv,p,hz⟩:=I.tuple hq;obtain⟨u,hu,ru⟩:=rv.get hx;obtain⟨f0,f1,f2,f3,f4,f5⟩:=hf it (by simp);refine wpAny_pyNext_tuple_item st (show s.heap.IsTuple a its.toArray from p) (x:=u) (by simpa using hu) λh' st' sb=>?_;have I1:Inv X pins σ H { s with heap:=h' }:=I.turned (t':=s.toks) (λb o hb e=>(sb.2 b hb).trans e) f0 f1 f3 f4 f5;obtain⟨o,e,c,d⟩:=id st';exact⟨u,rfl,Ej (s:={ s with heap:=h' }) e c d (by decide) ⟨x,H,I1,ru,⟨rfl,λys hy=>by rw[I.tuple_inj hy hq];exact hx⟩,st',λb hb=>(hf b hb).1⟩⟩
 done:=by intro X hP hw hK hc i pins s σ H E I hf st hg;subst hP hw hK;obtain⟨xs,hq,hx⟩:=hg;obtain⟨its,rv,p,hz⟩:=I.tuple hq;obtain⟨f0,f1,f2,f3,f4,f5⟩:=hf it (by simp);have hl:=rv.length;exact wpAny_pyNext_tuple_end (I.ok.hd hc) st (show s.heap.IsTuple a its.toArray from p) (by simp;omega) λh' eb=>⟨rfl,I.turned (t':=s.toks) (λb o hb e=>eb b o hb e) f0 f1 f3 f4 f5⟩
 self:=λ_ _ _ _ _ st h=>wpAny_pyIter_tupleiter st h
theorem Dr{P:au}{w:ao}{K:aj}(it:Addr)(lo:Int)(n:Nat):Turn P w K tg (Itr lo n) [it] it (λi h=>IsRangeIter h it (lo+(i:Nat) * 1) ((n:Int) - (i:Nat)) 1) where
 mem:=by simp
 obj:=λi h st b hb=>by
  have e:b=it:=by simpa using hb
  subst e;exact⟨_,st,λv z=>by
   have z':Data.fields _=Data.cell v:=z;cases z'⟩
 keep:=λi h h' st k=>k it (by simp) _ st
 item:=by intro X hP hw hK hc i pins s σ H E I hf st hg;subst hP hw hK;obtain⟨f0,f1,f2,f3,f4,f5⟩:=hf it (by simp);have W:=Walks.range (prog:=X.prog) (w:=X.w) (I.ok.hd hc) it lo 1 n;refine W.item i s _ _ hg st λv h' tk hv st' kk=>?_;obtain⟨t,rfl⟩:=hv;have I1:Inv X pins σ H { s with heap:=h',toks:=tk }:=I.turned (λb o hb e=>kk b o (by simpa using hb) e) f0 f1 f3 f4 f5;refine⟨_,rfl,Ej (s:={ s with heap:=h',toks:=tk }) (n:="range_iterator") st' rfl rfl (by decide) ⟨.int (lo+i),H,I1,⟨t,?_⟩,⟨rfl,rfl⟩,st',λb hb=>(hf b hb).1⟩⟩;rw[Int.mul_one]
 done:=by intro X hP hw hK hc i pins s σ H E I hf st hg;subst hP hw hK;obtain⟨f0,f1,f2,f3,f4,f5⟩:=hf it (by simp);exact wpAny_pyNext_range_end (I.ok.hd hc) st (by have:n<=i:=hg;omega) λh' eb=>⟨rfl,I.turned (t':=s.toks) (λb o hb e=>eb b o hb e) f0 f1 f3 f4 f5⟩
 self:=λ_ _ _ _ _ st h=>wpAny_pyIter_rangeiter st h
variable{l:Expr}{tl:TE}{ta:TA}{p:Pos}{body:List Stmt}
section
variable{X:Cx}{tg:Expr}
def GK(K:aj)(tl:TE):TI:=λσ H R=>tl σ H λx H1=>∃a,x=.ref a/\(∃xs,SqL K H1 a xs)/\R (Itl K a) H1
def Mp(K:aj)(tl:TE):TI:=λσ H R=>tl σ H λx H1=>∃a,x=.ref a/\(∃xs,SqT K H1 a xs)/\R (Itt K a) H1
theorem Jy(hl:PE X l tl):PI X tg l (GK X.K tl):=by
 intro pins s σ H R I h;refine thn (hl pins s σ H _ I h) λv s1 zz=>?_;obtain⟨x,H1,I1,r1,q1⟩:=zz;obtain⟨a,e,⟨xs,hq⟩,q⟩:=q1;subst e;cases r1;obtain⟨its,rv,p,hz⟩:=I1.list hq;refine eE p.isList ?_;refine⟨s1.heap.objs.size,[s1.heap.objs.size],_,_,H1,rfl,I1.kept (t':=s1.toks) λb o e=>aJ _ e,Fo a _,⟨_,bf _ rfl,rfl,rfl⟩,λb hb=>?_,q⟩;have e:b=s1.heap.objs.size:=by simpa using hb
 subst e;exact I1.fpOk (aE _) (I1.hok.fresh (aE _))
theorem Mq(hl:PE X l tl):PI X tg l (Mp X.K tl):=by
 intro pins s σ H R I h;refine thn (hl pins s σ H _ I h) λv s1 zz=>?_;obtain⟨x,H1,I1,r1,q1⟩:=zz;obtain⟨a,e,⟨xs,hq⟩,q⟩:=q1;subst e;cases r1;obtain⟨its,rv,p,hz⟩:=I1.tuple hq;refine jE (show s1.heap.IsTuple a its.toArray from p) ?_;refine⟨s1.heap.objs.size,[s1.heap.objs.size],_,_,H1,rfl,I1.kept (t':=s1.toks) λb o e=>aJ _ e,Dp a _,⟨_,bf _ rfl,rfl,rfl⟩,λb hb=>?_,q⟩;have e:b=s1.heap.objs.size:=by simpa using hb
 subst e;exact I1.fpOk (aE _) (I1.hok.fresh (aE _))
theorem BV{H:Hp}{s:ae}{R:It->Hp->Prop}{lo hi:Int}{t u v:Tok}{tk:Nat}(I:Inv X pins σ H s)(h1:-(2 ^ 62)<=lo)(h2:lo<2 ^ 62)(h3:-(2 ^ 62)<=hi)(h4:hi<2 ^ 62)
  (q:R (Itr lo (hi - lo).toNat) H):af (model X.prog X.w) X.A (pyIter (.ref s.heap.objs.size)) (PIE X pins σ tg R) E { s with heap:=s.heap.push { cls:=.type "range", data:=.fields #[.int lo t,.int hi u,.int 1 v] },toks:=tk }:=by
 refine wpAny_pyIter_range (IsRange.new ..) (small_one h1 h2 h3 h4) ?_;have I1:Inv X pins σ H { s with heap:=s.heap.push { cls:=.type "range", data:=.fields #[.int lo t,.int hi u,.int 1 v] },toks:=tk }:=I.kept λb o e=>aJ _ e;refine⟨(s.heap.push { cls:=.type "range", data:=.fields #[.int lo t,.int hi u,.int 1 v] }).objs.size,[(s.heap.push { cls:=.type "range", data:=.fields #[.int lo t,.int hi u,.int 1 v] }).objs.size],_,_,H,rfl,
  I1.kept (t':=tk) λb o e=>aJ _ e,Dr _ lo (hi - lo).toNat,?_,λb hb=>?_,q⟩
 ·have e1:lo+((0:Nat):Int) * 1=lo:=by simp
  have e2:(((hi - lo).toNat:Nat):Int) - ((0:Nat):Int)=l8 lo hi 1:=by rw[rangeSize_one];split<;>omega
  show IsRangeIter _ _ (lo+((0:Nat):Int) * 1) ((((hi - lo).toNat:Nat):Int) - ((0:Nat):Int)) 1;rw[e1,e2];exact bf _ rfl
 ·have e:b=(s.heap.push { cls:=.type "range", data:=.fields #[.int lo t,.int hi u,.int 1 v] }).objs.size:=by simpa using hb
  subst e;exact I1.fpOk (aE _) (I1.hok.fresh (aE _))
def LA(ta:TA):TI:=λσ H R=>ta σ H λvs H1=>∃j:Int,vs=[.int j]/\-(2 ^ 62)<=j/\j<2 ^ 62/\R (Itr 0 j.toNat) H1
def LB(ta:TA):TI:=λσ H R=>ta σ H λvs H1=>∃i j:Int,vs=[.int i,.int j]/\(-(2 ^ 62)<=i/\i<2 ^ 62/\-(2 ^ 62)<=j/\j<2 ^ 62)/\R (Itr i (j - i).toNat) H1
theorem Fp{a:Expr}(hg:Gl X "range")(hm:X.mg "range" = none)(ha:PA X [a] ta)(hs:aq [a] X.env=[(false,eval a X.env)]:=by rfl):PI X tg (.Call (.Name "range" p) [a] [] pos) (LA ta):=by
 intro pins s σ H R I h;refine Call_ (wg I hg hm boot_range (callWith_type1 (thn (ha pos pins s σ H _ I h) λus s1 zz=>?_) hs rfl));obtain⟨vs,H1,I1,r1,q1⟩:=zz;obtain⟨j,e,q1,q2,q⟩:=q1;subst e;cases r1 with
 |cons r rr=>cases rr;obtain⟨t,rfl⟩:=r;exact call_range_1 (BV I1 (by omega) (by omega) q1 q2 (by simpa using q))
theorem Fq{a b:Expr}(hg:Gl X "range")(hm:X.mg "range" = none)(ha:PA X [a,b] ta)(hs:aq [a,b] X.env=[(false,eval a X.env),(false,eval b X.env)]:=by rfl)(hs2:aq [b] X.env=[(false,eval b X.env)]:=by rfl):
  PI X tg (.Call (.Name "range" p) [a,b] [] pos) (LB ta):=by
 intro pins s σ H R I h;refine Call_ (wg I hg hm boot_range (callWith_type1 (thn (ha pos pins s σ H _ I h) λus s1 zz=>?_) (by rw[hs,hs2]) (by rw[hs2];rfl)));obtain⟨vs,H1,I1,r1,q1⟩:=zz;obtain⟨i,j,e,⟨q1,q2,q3,q4⟩,q⟩:=q1;subst e;cases r1 with
 |cons r rr=>
  cases rr with
  |cons r' rr=>cases rr;obtain⟨t,rfl⟩:=r;obtain⟨t',rfl⟩:=r';exact call_range_2 (BV I1 q1 q2 q3 q4 q)
def Mr(wi:TI)(g:TG)(tb:TS):TS:=λD σ H=>wi σ H λJ H1=>∃W:Nat->Nat->St->Hp->Prop,(∃m,W 0 m σ H1)/\∀i m σ H,W i m σ H->
 (J.stop i H/\D.nx σ H)\/(J.go i H/\∃N:St->Hp->Prop,(∀σ' H',N σ' H'->∃m',m'<m/\W (i+1) m' σ' H')/\∀x H',J.yld i H x H'->g x σ H' λσ2 H2=>tb { D with nx:=N,ct:=N,bk:=D.nx } σ2 H2)
def zc(fp:List Addr)(h:Heap):List (Addr×Obj):=fp.filterMap λb=>(h.get? b).map λo=>(b,o)
theorem sm{fp:List Addr}{h:Heap}{o:Obj}(hb:b∈fp)(e:h.get? b=some o):(b,o)∈zc fp h:=fI.mpr ⟨b,hb,by rw[e];rfl⟩
theorem Fs{fp:List Addr}{h:Heap}{p:Addr×Obj}(hp:p∈zc fp h):p.1∈fp/\h.get? p.1=some p.2:=by
 obtain⟨b,hb,e⟩:=fI.mp hp;cases q:h.get? b with
 |none=>rw[q]at e;cases e
 |some o=>rw[q]at e;have e':(b,o)=p:=bK e;subst e';exact⟨hb,q⟩
theorem Inv.pinned{H:Hp}{s:ae}{fp:List Addr}(I:Inv X pins σ H s)(hf:∀b∈fp,Be X pins H b)(ho:∀b∈fp,∃o,s.heap.get? b=some o/\∀v,o.data≠.cell v):Inv X (pins++zc fp s.heap) σ H s:=
 I.pins_of λp hp=>(bC.mp hp).elim (λz=>I.pin p (aZ _ z)) λz=>by obtain⟨hb,e⟩:=Fs z;obtain⟨f0,f1,f2,_⟩:=hf p.1 hb;obtain⟨o,e',d⟩:=ho p.1 hb;rw[e]at e';cases e';exact⟨e,f0,f1,f2,d⟩
theorem Inv.unpinned{pl:List (Addr×Obj)}{H:Hp}{s:ae}(I:Inv X (pins++pl) σ H s):Inv X pins σ H s:=I.pins_of λp hp=>I.pin p (aZ _ (bw _ hp))
theorem GL{iter:Expr}{wi:TI}{g:TG}{tb:TS}(hp:PassesOwn (model X.prog X.w) X.A X.env X.xe)(hc:X.calm=true)(hi:PI X tg iter wi)(hg:PG X tg g)(hb:PSs X body tb)
  (hs:∀x,eF iter X.env x=pure x:=by intro _;rfl):PS X (.For tg iter body [] pos) (Mr wi g tb):=by
 intro pins s σ H D I h;refine wpAny_For (thn (hi pins s σ H _ I h) λv s1 h1=>thn h1 λitv s2 h2=>?_) hs;obtain⟨it,fp,tn,J,H2,e,I2,T,st2,f2,W,⟨m0,w0⟩,turn⟩:=h2;subst e;have stat:∀{H':Hp},(∀b∈fp,H' b=none)->∀b∈fp,Be X pins H' b:=λhn b hb=>⟨hn b hb,(f2 b hb).2⟩;refine codeAny_forLoop_any (λn s'=>∃i σ' H',Inv X pins σ' H' s'/\tn i s'.heap/\(∀b∈fp,H' b=none)/\W i n σ' H') ?_ m0 ⟨0,σ,H2,I2,st2,λb hb=>(f2 b hb).1,w0⟩;rintro n s3 ⟨i,σ3,H3,I3,st3,fr3,w3⟩;rcases turn i n σ3 H3 w3 with ⟨stop,qn⟩|⟨go,N,hN,step⟩
 ·refine eS hp (thn (T.done X rfl rfl rfl hc i pins s3 σ3 H3 X.xe I3 (stat fr3) st3 stop) λr s4 zz=>?_);obtain⟨hr,I4⟩:=zz;subst hr;exact eR ⟨σ3,H3,I4,qn⟩
 ·refine eS hp (thn (T.item X rfl rfl rfl hc i pins s3 σ3 H3 X.xe I3 (stat fr3) st3 go) λr s4 zz=>?_);obtain⟨u,hr,h4⟩:=zz;subst hr;refine eS hp (thn h4 λ_ s5 zz=>?_);obtain⟨x,H5,I5,r5,y5,st5,fr5⟩:=zz;have I5':=I5.pinned (stat fr5) (T.obj _ _ st5);refine eS hp (thn (hg _ s5 σ3 H5 x u _ I5' r5 (step x H5 y5)) λ_ s6 zz=>?_);obtain⟨σ6,H6,I6,q6⟩:=zz;refine eS hp (thn (hb _ s6 σ6 H6 _ I6 q6) λf s7 q7=>?_);have again:∀{σ7:St} {H7:Hp},Inv X (pins++zc fp s5.heap) σ7 H7 s7->N σ7 H7->∃m,m<n/\∃i σ' H',Inv X pins σ' H' s7/\tn i s7.heap/\(∀b∈fp,H' b=none)/\W i m σ' H':=λ{σ7 H7} I7 n7=>by obtain⟨m',hm,w7⟩:=hN σ7 H7 n7;refine⟨m',hm,i+1,σ7,H7,I7.unpinned,T.keep _ _ _ st5 λb hb o e=>(I7.pin (b,o) (aZ _ (aZ _ (sm hb e)))).1,λb hb=>?_,w7⟩;obtain⟨o,e,d⟩:=T.obj _ _ st5 b hb;exact(I7.pin (b,o) (aZ _ (aZ _ (sm hb e)))).2.1
  cases f with
  |next=>obtain⟨σ7,H7,I7,n7⟩:=q7;exact again I7 n7
  |cont=>obtain⟨σ7,H7,I7,n7⟩:=q7;exact again I7 n7
  |brk=>obtain⟨σ7,H7,I7,q7⟩:=q7;exact⟨σ7,H7,I7.unpinned,q7⟩
  |ret v=>obtain⟨x7,σ7,H7,I7,r7,q7⟩:=q7;exact⟨x7,σ7,H7,I7.unpinned,r7,q7⟩
end
abbrev R2:=V->V->Hp->VK->Prop
def OpR(X:Cx)(f:aa->aa->Sem aa)(r:R2):Prop:=
 ∀(pins:List (Addr×Obj)) (s:ae) (σ:St) (H:Hp) (x y:V) (v u:aa) (Q:VK),Inv X pins σ H s->RelV x v->RelV y u->r x y H Q->
  af (model X.prog X.w) X.A (f v u) (EP X pins σ Q) X.xe s
def UnR(X:Cx)(f:aa->Sem aa)(r:V->Hp->VK->Prop):Prop:=
 ∀(pins:List (Addr×Obj)) (s:ae) (σ:St) (H:Hp) (x:V) (v:aa) (Q:VK),Inv X pins σ H s->RelV x v->r x H Q->
  af (model X.prog X.w) X.A (f v) (EP X pins σ Q) X.xe s
def pO(X:Cx)(f:aa)(r:List V->Hp->VK->Prop):Prop:=
 ∀(pins:List (Addr×Obj)) (s:ae) (σ:St) (H:Hp) (xs:List V) (us:List aa) (Q:VK),Inv X pins σ H s->Vals xs us->r xs H Q->
  af (model X.prog X.w) X.A (call f us) (EP X pins σ Q) X.xe s
def tOp(r:R2)(ta tb:TE):TE:=λσ H Q=>ta σ H λx H1=>tb σ H1 λy H2=>r x y H2 Q
def tUn(r:V->Hp->VK->Prop)(ta:TE):TE:=λσ H Q=>ta σ H λx H1=>r x H1 Q
def rI(C:Int->Int->Prop)(g:Int->Int->V):R2:=λx y H Q=>∃i j,x=.int i/\y=.int j/\C i j/\Q (g i j) H
def rI0(g:Int->Int->V):R2:=λx y H Q=>∃i j,x=.int i/\y=.int j/\Q (g i j) H
def rU(g:Int->V):V->Hp->VK->Prop:=λx H Q=>∃i,x=.int i/\Q (g i) H
variable{f:aa->aa->Sem aa}{r:R2}
section
variable{X:Cx}{a b c:Expr}{ta tb tc:TE}{pos:Pos}
theorem Ms(ha:PE X a ta)(hb:PE X b tb){s:ae}{H:Hp}{R:V->V->Hp->Prop}(I:Inv X pins σ H s)
  (h:ta σ H λx H1=>tb σ H1 λy H2=>R x y H2)
  (hf:∀v u s2 x y H2,Inv X pins σ H2 s2->RelV x v->RelV y u->R x y H2->af (model X.prog X.w) X.A (f v u) Q X.xe s2):
  af (model X.prog X.w) X.A (eval a X.env) (λv s₁=>af (model X.prog X.w) X.A (eval b X.env) (λu s₂=>af (model X.prog X.w) X.A (f v u) Q X.xe s₂) X.xe s₁) X.xe s:=by
 refine thn (ha pins s σ H _ I h) λv s1 zz=>?_;obtain⟨x,H1,I1,r1,q1⟩:=zz;refine thn (hb pins s1 σ H1 _ I1 q1) λu s2 zz=>?_;obtain⟨y,H2,I2,r2,q2⟩:=zz;exact hf v u s2 x y H2 I2 r1 r2 q2
theorem GN{op:gf}(ho:OpR X (bW op) r)(ha:PE X a ta)(hb:PE X b tb):PE X (.BinOp a op b pos) (tOp r ta tb):=by intro pins s σ H Q I h;exact wpAny_BinOp (Ms ha hb I h λv u s2 x y H2 I2 rx ry q=>ho pins s2 σ H2 x y v u Q I2 rx ry q)
theorem PU{op:UnaryOp}{r:V->Hp->VK->Prop}(ho:UnR X (unaryOp op) r)(ha:PE X a ta):PE X (.UnaryOp op a pos) (tUn r ta):=by intro pins s σ H Q I h;exact UnaryOp_ (thn (ha pins s σ H _ I h) λv s1 ⟨x,H1,I1,r1,q1⟩=>ho pins s1 σ H1 x v Q I1 r1 q1)
theorem opI{C:Int->Int->Prop}{g:Int->Int->Int}
  (rule:∀(i j:Int) (t u:Tok) (s:ae) (Q:aa->ae->Prop) (E:aa->ae->Prop),C i j->Q (.int (g i j) s.toks) { s with toks:=s.toks+1 }->af (model X.prog X.w) X.A (f (.int i t) (.int j u)) Q E s):
  OpR X f (rI C λi j=>.int (g i j)):=by
 intro pins s σ H x y v u Q I rx ry h;obtain⟨i,j,rfl,rfl,hc,q⟩:=h;obtain⟨t,rfl⟩:=rx;obtain⟨t',rfl⟩:=ry;exact rule i j t t' s _ _ hc ⟨.int (g i j),H,I.tok _,⟨_,rfl⟩,q⟩
theorem PV{g:Int->Int->Int}
  (rule:∀(i j:Int) (t u:Tok) (s:ae) (Q:aa->ae->Prop) (E:aa->ae->Prop),Q (.int (g i j) s.toks) { s with toks:=s.toks+1 }->af (model X.prog X.w) X.A (f (.int i t) (.int j u)) Q E s):
  OpR X f (rI0 λi j=>.int (g i j)):=by
 intro pins s σ H x y v u Q I rx ry h;obtain⟨i,j,rfl,rfl,q⟩:=h;obtain⟨t,rfl⟩:=rx;obtain⟨t',rfl⟩:=ry;exact rule i j t t' s _ _ ⟨.int (g i j),H,I.tok _,⟨_,rfl⟩,q⟩
theorem Jz{g:Int->Int->Bool}
  (rule:∀(i j:Int) (t u:Tok) (s:ae) (Q:aa->ae->Prop) (E:aa->ae->Prop),Q (.bool (g i j)) s->af (model X.prog X.w) X.A (f (.int i t) (.int j u)) Q E s):
  OpR X f (rI0 λi j=>.bl (g i j)):=by
 intro pins s σ H x y v u Q I rx ry h;obtain⟨i,j,rfl,rfl,q⟩:=h;obtain⟨t,rfl⟩:=rx;obtain⟨t',rfl⟩:=ry;exact rule i j t t' s _ _ ⟨.bl (g i j),H,I,rfl,q⟩
def Mt(i j:Int):Prop:=0<j/\j<1073741824
def PX(i j:Int):Prop:=0<=j/\j<=1000000/\i.natAbs<2 ^ 64
def JA(i j:Int):Prop:=(-(2 ^ 64)<i/\i<2 ^ 64)\/(-(2 ^ 64)<j/\j<2 ^ 64)
theorem JA.ok{i j:Int}(h:JA i j):IntMulOk i j:=by
 rcases h with ⟨h1,h2⟩|⟨h1,h2⟩
 ·exact .of_left (kA h1 h2)
 ·exact .of_right (kA h1 h2)
theorem Mu:OpR X (bW .Add) (rI0 λi j=>.int (i+j)):=PV λ_ _ _ _ _ _ _ q=>add_int q
theorem Mv:OpR X (bW .Sub) (rI0 λi j=>.int (i - j)):=PV λ_ _ _ _ _ _ _ q=>sub_int q
theorem Mw:OpR X (bW .Mult) (rI JA λi j=>.int (i * j)):=opI λ_ _ _ _ _ _ _ hc q=>mul_int q hc.ok
theorem JB:OpR X (bW .FloorDiv) (rI Mt λi j=>.int (i / j)):=opI λi j _ _ _ _ _ hc q=>by have h1:(0:Int)<j:=hc.1;have h2:j<1073741824:=hc.2;exact floordiv_int (by omega) (by rw[Int.fdiv_eq_ediv_of_nonneg i (by omega)];exact q) (.inl (PyProof.noPylong_small (by omega)))
theorem Mx:OpR X (bW .Mod) (rI (λ_ j=>0<j) λi j=>.int (i % j)):=opI λi j _ _ _ _ _ hc q=>by have h1:(0:Int)<j:=hc;exact mod_int' (by omega) (by rw[Int.fmod_eq_emod_of_nonneg i (by omega)];exact q)
theorem My:OpR X (bW .Pow) (rI PX λi j=>.int (i ^ j.toNat)):=opI λ_ _ _ _ _ _ _ hc q=>pow_int_small hc.1 hc.2.1 hc.2.2 q
theorem unI{f:aa->Sem aa}{g:Int->Int}
  (rule:∀(i:Int) (t:Tok) (s:ae) (Q:aa->ae->Prop) (E:aa->ae->Prop),Q (.int (g i) s.toks) { s with toks:=s.toks+1 }->af (model X.prog X.w) X.A (f (.int i t)) Q E s):
  UnR X f (rU λi=>.int (g i)):=by
 intro pins s σ H x v Q I rx h;obtain⟨i,rfl,q⟩:=h;obtain⟨t,rfl⟩:=rx;exact rule i t s _ _ ⟨.int (g i),H,I.tok _,⟨_,rfl⟩,q⟩
theorem Mz:UnR X (unaryOp .USub) (rU λi=>.int (-i)):=unI λ_ _ _ _ _ q=>neg_int q
end
def GO:V->V->Bool
 |.non,.non=>true|.non,.int _=>true|.int _,.non=>true|.non,.bl _=>true|.bl _,.non=>true|.non,.str _=>true|.str _,.non=>true
 |.int _,.int _=>true|.bl _,.bl _=>true|.str _,.str _=>true|.byt _,.byt _=>true
 |.int _,.str _=>true|.str _,.int _=>true|.bl _,.str _=>true|.str _,.bl _=>true
 |_,_=>false
def rEq:R2:=λx y H Q=>GO x y=true/\Q (.bl (decide (x=y))) H
def rNe:R2:=λx y H Q=>GO x y=true/\Q (.bl (!decide (x=y))) H
theorem Ek{i j:Int}:decide (V.int i=V.int j)=(i==j):=by rw[cR];simp
theorem GP{i j:Bool}:decide (V.bl i=V.bl j)=(i==j):=by rw[cR];simp
theorem El{i j:Str}:decide (V.str i=V.str j)=(i==j):=by rw[cR];simp
theorem Em{i j:Array UInt8}:decide (V.byt i=V.byt j)=(i.toList==j.toList):=by rw[cR];cases i;cases j;simp
variable{op':dF}{r':R2}
section
variable{X:Cx}{a b c:Expr}{ta tb tc:TE}{pos:Pos}
theorem n6{H:Hp}{s:ae}{Q:VK}{k k':Bool}(I:Inv X pins σ H s)(q:Q (.bl k) H)(e:k=k'):EP X pins σ Q (.bool k') s:=by subst e;exact⟨.bl k,H,I,rfl,q⟩
theorem PY:OpR X (aM .Eq) rEq:=by
 intro pins s σ H x y v u Q I rx ry h;obtain⟨hs,q⟩:=h;cases x with
 |non=>
  cases rx;cases y with
  |non=>cases ry;exact lC (n6 I q (by simp))
  |bl j=>cases ry;exact lD (n6 I q (by simp))
  |int j=>obtain⟨t',rfl⟩:=ry;exact lO (n6 I q (by simp))
  |str j=>obtain⟨t',rfl⟩:=ry;exact lQ (n6 I q (by simp))
  |_=>exact ak (show false=true from hs) aT
 |bl i=>
  cases rx;cases y with
  |non=>cases ry;exact lE (n6 I q (by simp))
  |bl j=>cases ry;exact eq_bool (n6 I q GP)
  |str j=>obtain⟨t',rfl⟩:=ry;exact lF (n6 I q (by simp))
  |_=>exact ak (show false=true from hs) aT
 |int i=>
  obtain⟨t,rfl⟩:=rx;cases y with
  |non=>cases ry;exact lS (n6 I q (by simp))
  |int j=>obtain⟨t',rfl⟩:=ry;exact eq_int (n6 I q Ek)
  |str j=>obtain⟨t',rfl⟩:=ry;exact lV (n6 I q (by simp))
  |_=>exact ak (show false=true from hs) aT
 |str i=>
  obtain⟨t,rfl⟩:=rx;cases y with
  |non=>cases ry;exact lW (n6 I q (by simp))
  |bl j=>cases ry;exact lG (n6 I q (by simp))
  |int j=>obtain⟨t',rfl⟩:=ry;exact lX (n6 I q (by simp))
  |str j=>obtain⟨t',rfl⟩:=ry;exact eq_str (n6 I q El)
  |_=>exact ak (show false=true from hs) aT
 |byt i=>
  obtain⟨t,rfl⟩:=rx;cases y with
  |byt j=>obtain⟨t',rfl⟩:=ry;exact W.eq_bytes (n6 I q Em)
  |_=>exact ak (show false=true from hs) aT
 |_=>cases y<;>exact ak (show false=true from hs) aT
theorem PZ:OpR X (aM .NotEq) rNe:=by
 intro pins s σ H x y v u Q I rx ry h;obtain⟨hs,q⟩:=h;cases x with
 |non=>
  cases rx;cases y with
  |non=>cases ry;exact lI (n6 I q (by simp))
  |bl j=>cases ry;exact lK (n6 I q (by simp))
  |int j=>obtain⟨t',rfl⟩:=ry;exact lY (n6 I q (by simp))
  |str j=>obtain⟨t',rfl⟩:=ry;exact lZ (n6 I q (by simp))
  |_=>exact ak (show false=true from hs) aT
 |bl i=>
  cases rx;cases y with
  |non=>cases ry;exact lL (n6 I q (by simp))
  |bl j=>cases ry;exact ne_bool (n6 I q (aR not GP))
  |str j=>obtain⟨t',rfl⟩:=ry;exact lM (n6 I q (by simp))
  |_=>exact ak (show false=true from hs) aT
 |int i=>
  obtain⟨t,rfl⟩:=rx;cases y with
  |non=>cases ry;exact l0 (n6 I q (by simp))
  |int j=>obtain⟨t',rfl⟩:=ry;exact ne_int (n6 I q (aR not Ek))
  |str j=>obtain⟨t',rfl⟩:=ry;exact l4 (n6 I q (by simp))
  |_=>exact ak (show false=true from hs) aT
 |str i=>
  obtain⟨t,rfl⟩:=rx;cases y with
  |non=>cases ry;exact l5 (n6 I q (by simp))
  |bl j=>cases ry;exact lN (n6 I q (by simp))
  |int j=>obtain⟨t',rfl⟩:=ry;exact l6 (n6 I q (by simp))
  |str j=>obtain⟨t',rfl⟩:=ry;exact ne_str (n6 I q (aR not El))
  |_=>exact ak (show false=true from hs) aT
 |byt i=>
  obtain⟨t,rfl⟩:=rx;cases y with
  |byt j=>obtain⟨t',rfl⟩:=ry;exact W.ne_bytes (n6 I q (aR not Em))
  |_=>exact ak (show false=true from hs) aT
 |_=>cases y<;>exact ak (show false=true from hs) aT
theorem P2:OpR X (aM .Lt) (rI0 λi j=>.bl (decide (i<j))):=Jz λ_ _ _ _ _ _ _ q=>lt_int q
theorem P3:OpR X (aM .LtE) (rI0 λi j=>.bl (decide (i<=j))):=Jz λ_ _ _ _ _ _ _ q=>le_int q
theorem P4:OpR X (aM .Gt) (rI0 λi j=>.bl (decide (j<i))):=Jz λ_ _ _ _ _ _ _ q=>gt_int q
theorem P5:OpR X (aM .GtE) (rI0 λi j=>.bl (decide (j<=i))):=Jz λ_ _ _ _ _ _ _ q=>ge_int q
theorem MA:OpR X (aM .Is) (λx y H Q=>y=.non/\Q (.bl (decide (x=.non))) H):=by
 intro pins s σ H x y v u Q I rx ry h;obtain⟨rfl,q⟩:=h;cases ry;refine is_none_gen (n6 I q ?_);cases x<;>first
  |(cases rx;rfl)
  |(obtain⟨t,rfl⟩:=rx;rfl)
theorem JC:OpR X (aM .IsNot) (λx y H Q=>y=.non/\Q (.bl (!decide (x=.non))) H):=by
 intro pins s σ H x y v u Q I rx ry h;obtain⟨rfl,q⟩:=h;cases ry;refine isnot_none_gen (n6 I q ?_);cases x<;>first
  |(cases rx;rfl)
  |(obtain⟨t,rfl⟩:=rx;rfl)
theorem JD(ho:OpR X (aM op) r)(ha:PE X a ta)(hb:PE X b tb)(hm:dy op b=false):PE X (.Compare a [op] [b] pos) (tOp r ta tb):=by intro pins s σ H Q I h;exact wpAny_Compare1 (Ms ha hb I h λv u s2 x y H2 I2 rx ry q=>ho pins s2 σ H2 x y v u Q I2 rx ry q) hm
def GQ(t:TE):TT:=λσ H Q=>t σ H λx H'=>∃k,x=.bl k/\Q k H'
theorem JE(ho:OpR X (aM op) r)(ha:PE X a ta)(hb:PE X b tb)(hm:dy op b=false):PT X (.Compare a [op] [b] pos) (GQ (tOp r ta tb)):=by
 intro pins s σ H Q I h;refine jf (thn (ha pins s σ H _ I h) λv s1 ⟨x,H1,I1,r1,q1⟩=>thn (hb pins s1 σ H1 _ I1 q1) λu s2 ⟨y,H2,I2,r2,q2⟩=>
  thn (ho pins s2 σ H2 x y v u _ I2 r1 r2 q2) λc s3 ⟨z,H3,I3,r3,k,e,q3⟩=>?_) hm
 subst e;cases r3;exact cf ⟨H3,I3,q3⟩
def Ds(r r':R2)(ta tb tc:TE):TE:=λσ H Q=>ta σ H λx H1=>tb σ H1 λy H2=>r x y H2 λz H3=>∃k,z=.bl k/\
 (if k=true then tc σ H3 λw' H4=>r' y w' H4 Q else Q (.bl false) H3)
theorem GR(ho:OpR X (aM op) r)(ho':OpR X (aM op') r')(ha:PE X a ta)(hb:PE X b tb)(hc:PE X c tc)
  (hm:lastMarks [op,op'] [b,c]=false:=by with_unfolding_all rfl):PE X (.Compare a [op,op'] [b,c] pos) (Ds r r' ta tb tc):=by
 intro pins s σ H Q I h;refine Compare_chain (thn (ha pins s σ H _ I h) λv s1 ⟨x,H1,I1,r1,q1⟩=>chain_link (thn (hb pins s1 σ H1 _ I1 q1) λu s2 ⟨y,H2,I2,r2,q2⟩=>
  thn (ho pins s2 σ H2 x y v u _ I2 r1 r2 q2) λd s3 ⟨z,H3,I3,r3,k,e,q3⟩=>?_)) hm
 subst e;cases r3;refine cf ?_;cases k with
 |false=>exact ite_ff ⟨.bl false,H3,I3,rfl,q3⟩
 |true=>exact ite_tt (chain_last (thn (hc pins s3 σ H3 _ I3 q3) λw' s4 ⟨z',H4,I4,r4,q4⟩=>ho' pins s4 σ H4 y z' u w' Q I4 r2 r4 q4))
theorem GT(ho:OpR X (aM op) r)(ho':OpR X (aM op') r')(ha:PE X a ta)(hb:PE X b tb)(hc:PE X c tc)
  (hm:lastMarks [op,op'] [b,c]=false:=by with_unfolding_all rfl):PT X (.Compare a [op,op'] [b,c] pos) (GQ (Ds r r' ta tb tc)):=by
 intro pins s σ H Q I h;refine isTrue_chain (thn (ha pins s σ H _ I h) λv s1 ⟨x,H1,I1,r1,q1⟩=>test_link (thn (hb pins s1 σ H1 _ I1 q1) λu s2 ⟨y,H2,I2,r2,q2⟩=>
  thn (ho pins s2 σ H2 x y v u _ I2 r1 r2 q2) λd s3 ⟨z,H3,I3,r3,k,e,q3⟩=>?_)) hm
 subst e;cases r3;refine cf ?_;cases k with
 |false=>obtain⟨k',e',q'⟩:=q3;cases e';exact ite_ff ⟨H3,I3,q'⟩
 |true=>refine ite_tt (test_last (thn (hc pins s3 σ H3 _ I3 q3) λw' s4 ⟨z',H4,I4,r4,q4⟩=>thn (ho' pins s4 σ H4 y z' u w' _ I4 r2 r4 q4) λd' s5 ⟨z2,H5,I5,r5,k2,e2,q5⟩=>?_));subst e2;cases r5;exact cf ⟨H5,I5,q5⟩
theorem xI:(ay:Nat)<2 ^ 63:=by rw[bV];decide
theorem vals1{x:V}(r:Vals [x] us):∃u,us=[u]/\RelV x u:=by
 cases r with
 |cons r1 r2=>cases r2;exact⟨_,rfl,r1⟩
theorem vals2{x:V}(r:Vals [x,y] us):∃u w',us=[u,w']/\RelV x u/\RelV y w':=by
 cases r with
 |cons r1 r2=>
  cases r2 with
  |cons r3 r4=>cases r4;exact⟨_,_,rfl,r1,r3⟩
theorem Ft(hc:X.calm=true):pO X (.builtin "max") (λxs H Q=>∃i j,xs=[.int i,.int j]/\Q (.int (if j > i then j else i)) H):=by
 intro pins s σ H xs us Q I r h;obtain⟨i,j,rfl,q⟩:=h;obtain⟨u,w',rfl,⟨t,rfl⟩,⟨t',rfl⟩⟩:=vals2 r;refine max_two_ints (I.ok.hd hc) λh' tk k=>⟨_,H,I.kept k,?_,q⟩;by_cases hj:j > i
 ·rw[ah hj,ah hj];exact⟨_,rfl⟩
 ·rw[ai hj,ai hj];exact⟨_,rfl⟩
theorem Fu(hc:X.calm=true):pO X (.builtin "min") (λxs H Q=>∃i j,xs=[.int i,.int j]/\Q (.int (if j<i then j else i)) H):=by
 intro pins s σ H xs us Q I r h;obtain⟨i,j,rfl,q⟩:=h;obtain⟨u,w',rfl,⟨t,rfl⟩,⟨t',rfl⟩⟩:=vals2 r;refine min_two_ints (I.ok.hd hc) λh' tk k=>⟨_,H,I.kept k,?_,q⟩;by_cases hj:j<i
 ·rw[ah hj,ah hj];exact⟨_,rfl⟩
 ·rw[ai hj,ai hj];exact⟨_,rfl⟩
theorem Fv:pO X (.type "int") (λxs H Q=>(∃i,xs=[.int i]/\Q (.int i) H)\/∃k,xs=[.bl k]/\Q (.int (if k then 1 else 0)) H):=by
 intro pins s σ H xs us Q I r h;rcases h with ⟨i,rfl,q⟩|⟨k,rfl,q⟩
 ·obtain⟨u,rfl,t,rfl⟩:=vals1 r;exact call_int_int ⟨.int i,H,I,⟨_,rfl⟩,q⟩
 ·obtain⟨u,rfl,r1⟩:=vals1 r;cases r1;exact call_int_bool ⟨.int (if k then 1 else 0),H,I.tok _,⟨_,rfl⟩,q⟩
end
structure Dt(h:Heap)(x dx C:Addr)(mA:Str->Option aa):Prop where
 obj:h.get? x=some (cI C dx)
 ns:h.Ns1 dx mA
 ne:dx≠x
variable{dx:Addr}{mA:Str->Option aa}
theorem Fw{h:Heap}(n:h.Ns1 dx mA):∃od,h.get? dx=some od/\∀name,gh name od=some (mA name):=by
 obtain⟨o,es,ep,ho,hd,hk,_,hm⟩:=n;refine⟨o,ho,λname=>?_⟩;have e:=hm name;unfold nsFind findBy at e;rw[<-Array.find?_toList]at e;unfold gh;rw[hd];dsimp only;split
 ·rename_i y q;rw[q]at e;exact aR some e
 ·rename_i q;rw[q]at e;have a:es.toList.any (·.refKey)=false:=by rw[List.any_eq_false];intro y hy;obtain⟨z,t,hkey⟩:=hk y (Array.mem_toList_iff.mp hy);simp[DictEntry.refKey,hkey]
  have a':¬es.toList.any (·.refKey)=true:=by rw[a];exact aT
  rw[ai a'];exact aR some e
variable{C:Addr}
theorem Dt.look{h:Heap}{x:Addr}(I:Dt h x dx C mA):∃od,W.InstAt h x (cI C dx) C (some od)/\∀name,gh name od=some (mA name):=
 let ⟨od,ho,hl⟩:=Fw I.ns
 ⟨od,⟨I.obj,rfl,rfl,ho⟩,hl⟩
variable{R:cJ->ae->Prop}{kw:List (Str×aa)}
section
variable{prog:au}{w:ao}{A:av}{E:aa->ae->Prop}{s:ae}{K:aj}{x dx C f:Addr}{mA:Str->Option aa}{name:Str}{v:aa}
theorem get_map{expr:Bool}(X:K.In s.heap)(I:Dt s.heap x dx C mA)(hg:f6 K C name=true)(hh:iG K C=true)
  (ha:bU K (.ref C) name=some none) (hv:mA name=some v) (hv':W.handedIn v=true) (h:Q v { s with toks:=s.toks+1 }):
  af (model prog w) A (getAttr (.ref x) name expr) Q E s:=by
 obtain⟨od,J,hl⟩:=I.look;exact W.get_value X J (ig hg).1 (W.findObj_own hh ha rfl (by rw[hl,hv])) hv' h
theorem GU{pl:Sem Bool}{Q:aa×List aa->ae->Prop}(X:K.In s.heap)(I:Dt s.heap x dx C mA)(hg:f6 K C name=true)
  (hf:bU K (.ref C) name=some (some (.ref f))) (ht:gk K (.ref f)=true) (hv:mA name=none) (h:Q (.ref f,[.ref x]) s):
  af (model prog w) A (getMethod (.ref x) name pl) Q E s:=by
 obtain⟨od,J,hl⟩:=I.look;exact W.method_fn X J (ig hg).1 (ig hg).2 hf (beq_iff_eq.mp ht) (by show (gh name od).map (·.isSome)=some false;rw[hl,hv];rfl) h
theorem JF{ns:List Str}{Q:Unit->ae->Prop}(X:K.In s.heap)(I:Dt s.heap x dx C mA)
  (hs:bU K (.ref C) "__setattr__" = some (some (.builtin "object.__setattr__"))) (hp:kU K C=true) (ht:iU K C name=some none) (hh:iG K C=true)
  (hw:iu mA ns) (hsz:ns.length<=ay)
  (h:∀h',Dt h' x dx C (λy=>if y=name then some v else mA y)->dX dx s.heap h'->Q () { s with heap:=h',toks:=s.toks+2 }):
  af (model prog w) A (setAttr (.ref x) name v) Q E s:=by
 obtain⟨od,J,hl⟩:=I.look;refine W.set_plain X J hs (W.osa_open (s:={ s with toks:=s.toks+1 }) (r:=none) X J hp ht λb=>?_);obtain⟨cd,hc,hd'⟩:=W.any_some hh;have hx:s.heap.get? x=some ⟨.ref C,some dx,.plain,#[]⟩:=I.obj;refine ar (aA (ar (ar (wpAny_loadPart hx (ar (W.Looks.here (s:={ s with toks:=s.toks+1 }) (W.looks_clsIn X hc) ?_))))));rw[hd'];refine aA (a:=some dx) (ar (aA (ar ?_)));refine wpAny_nsSet1 (s:={ s with toks:=s.toks+1 }) I.ns λh' hn2 hs2=>?_;obtain⟨oD,esD,epD,hoD,hdD,hcD⟩:=hn2.count (mY name v hw);refine ar (wpAny_lookBehind hoD (by rw[hdD];exact pastItsLine_dict (bD hcD (by rw[aD];omega))) ?_);exact aA (h _ ⟨(hs2.2 _ (dc I.ne)).trans I.obj,hn2,I.ne⟩ hs2)
theorem BW{vs:List aa}(X:K.In s.heap)(hm:iV K C=true)
  (hi:bU K (.ref C) "__init__" = some (some (.ref f))) (hf:W.typeIn K (.ref f)=some (.type "function"))
  (h:bH (model prog w) (A.under (.builtin "type.__call__" ⟨.ref C::vs,kw⟩)) (.call (.ref f) ⟨.ref (s.heap.objs.size+1)::vs,kw⟩) (W.InitBack (s.heap.objs.size+1) R)
   { s with heap:=(s.heap.push cv).push (cI C s.heap.objs.size) }):
  bH (model prog w) A (.call (.ref C) ⟨vs,kw⟩) R s:=by
 obtain⟨hh,g,d,t,os⟩:=s;exact kW (iR X hm) (kg X hi) (λself=>W.bind_fn X self hf) (.inl rfl) h
theorem Fy(X:K.In s.heap)(hm:iV K C=true)
  (hi:bU K (.ref C) "__init__" = some (some (.builtin "object.__init__")))
  (hb:∀self,W.Looks (model prog w) s.heap (bindSpecial (.builtin "object.__init__") self) (.builtin "object.__init__", [self]))
  (h:bH (model prog w) (A.under (.builtin "type.__call__" ⟨[.ref C],[]⟩)) (.call (.builtin "object.__init__") ⟨[.ref (s.heap.objs.size+1)],[]⟩) (W.InitBack (s.heap.objs.size+1) R)
   { s with heap:=(s.heap.push cv).push (cI C s.heap.objs.size) }):
  bH (model prog w) A (.call (.ref C) ⟨[],[]⟩) R s:=by
 obtain⟨hh,g,d,t,os⟩:=s;exact kW (iR X hm) (kg X hi) hb (.inr ⟨rfl,rfl⟩) h
end
def tT(f:Str)(v:V):List (Str×V)->List (Str×V)
 |[]=>[(f,v)]
 |(g,x)::r=>if g=f then (g,v)::r else (g,x)::tT f v r
theorem yd(f g:Str)(v:V):∀fs:List (Str×V),(tT f v fs).lookup g=if g=f then some v else fs.lookup g
 |[]=>by
  show cg g [(f,v)]=_;by_cases h:g=f
  ·have hb:(g==f)=true:=beq_iff_eq.mpr h;simp only[cg,hb,ah h]
  ·have hb:(g==f)=false:=beq_eq_false_iff_ne.mpr h;simp only[cg,hb,ai h]
 |(k,x)::r=>by
  have ih:=yd f g v r;rw[show tT f v ((k,x)::r)=(if k=f then (k,v)::r else (k,x)::tT f v r) from rfl];by_cases hk:k=f
  ·rw[ah hk];by_cases h:g=k
   ·have hb:(g==k)=true:=beq_iff_eq.mpr h;simp only[cg,hb,ah (h.trans hk)]
   ·have hb:(g==k)=false:=beq_eq_false_iff_ne.mpr h;simp only[cg,hb,ai (λe:g=f=>h (e.trans hk.symm))]
  ·rw[ai hk];by_cases h:g=k
   ·have hb:(g==k)=true:=beq_iff_eq.mpr h;simp only[cg,hb,ai (λe:g=f=>hk (h.symm.trans e))]
   ·have hb:(g==k)=false:=beq_eq_false_iff_ne.mpr h;simp only[cg,hb];exact ih
theorem xJ(f:Str)(v:V):∀fs:List (Str×V),f∈(tT f v fs).map (·.1)/\∀g,g∈fs.map (·.1)->g∈(tT f v fs).map (·.1)
 |[]=>⟨by simp[tT],λg h=>by simp at h⟩
 |(k,x)::r=>by
  obtain⟨i1,i2⟩:=xJ f v r;rw[show tT f v ((k,x)::r)=(if k=f then (k,v)::r else (k,x)::tT f v r) from rfl];by_cases hk:k=f
  ·rw[ah hk];subst hk;exact⟨by simp,λg h=>by simpa using h⟩
  ·rw[ai hk];refine⟨?_,λg h=>?_⟩
   ·rw[aK];exact aN _ i1
   ·rw[aK]at h ⊢;rcases aO.mp h with e|e
    ·exact aO.mpr (.inl e)
    ·exact aN _ (i2 g e)
theorem ye(f:Str)(v:V):∀fs:List (Str×V),(tT f v fs).length<=fs.length+1
 |[]=>by simp[tT]
 |(k,x)::r=>by
  have ih:=ye f v r;rw[show tT f v ((k,x)::r)=(if k=f then (k,v)::r else (k,x)::tT f v r) from rfl];by_cases hk:k=f
  ·rw[ah hk,aD,aD];omega
  ·rw[ai hk,aD,aD];omega
theorem uP.some_of{v:V}{o:Option aa}(r:uP (some v) o):∃u,o=some u/\RelV v u:=by
 cases o with
 |none=>exact(show False from r).elim
 |some u=>exact⟨u,rfl,r⟩
theorem uP.none_of{o:Option aa}(r:uP none o):o=none:=by
 cases o with
 |none=>rfl
 |some u=>exact(show False from r).elim
theorem FB{v:V}(r:RelV v u):W.handedIn u=true:=by
 cases v with
 |non=>cases (show u=Value.none from r);rfl
 |bl b=>cases (show u=Value.bool b from r);rfl
 |int i=>obtain⟨t,e⟩:=(show ∃t,u=Value.int i t from r);cases e;rfl
 |str x=>obtain⟨t,e⟩:=(show ∃t,u=Value.str x t from r);cases e;rfl
 |byt b=>obtain⟨t,e⟩:=(show ∃t,u=Value.bytes b t from r);cases e;rfl
 |flt b=>obtain⟨t,e⟩:=(show ∃t,u=Value.float b t from r);cases e;rfl
 |ref a=>cases (show u=Value.ref a from r);rfl
 |ty n=>cases (show u=Value.type n from r);rfl
section
variable{P:au}{w:ao}{H H':Hp}{h h':Heap}{a C dx:Addr}{fs fs':List (Str×V)}
theorem wJ(hok:HOk P w H h)(e:H a=some (.ins C dx fs)):∃mA,Dt h a dx C mA/\(∀f,uP (fs.lookup f) (mA f))/\iu mA (fs.map (·.1))/\fs.length<=1000/\H dx=some (.own a):=by obtain⟨d,z,ne,ob,mA,n,r,q⟩:=(show oQ P w H h a (.ins C dx fs) from hok a _ e);exact⟨mA,⟨ob,n,ne⟩,r,q,z,d⟩
end
structure Cls(K:aj)(C:Addr):Prop where
 pg:f6 K C Str.empty=true
 hd:iG K C=true
 po:kU K C=true
 sa:bU K (.ref C) "__setattr__" = some (some (.builtin "object.__setattr__"))
theorem Cls.get{K:aj}(c:Cls K C)(f:Str):f6 K C f=true:=c.pg
def sq(K:aj)(C:Addr)(f:Str):Prop:=bU K (.ref C) f=some none
theorem sq.taker{K:aj}{f:Str}(n:sq K C f):iU K C f=some none:=by unfold iU;rw[show bU K (.ref C) f=some none from n];rfl
structure Meth(K:aj)(C:Addr)(m:Str)(f:Addr):Prop where
 at_:bU K (.ref C) m=some (some (.ref f))
 fn:gk K (.ref f)=true
 kp:ck K (.ref f)=true
section
variable{X:Cx}{pins:List (Addr×Obj)}{σ:St}{H:Hp}{s:ae}{a C dx:Addr}{fs:List (Str×V)}{f:Str}{v:V}{A:av}{E:aa->ae->Prop}
theorem Du{b:Bool}(I:Inv X pins σ H s)(e:H a=some (.ins C dx fs))(c:Cls X.K C)(n:sq X.K C f)(l:fs.lookup f=some v)
  (h:∀u s',Inv X pins σ H s'->RelV v u->Q u s'):af (model X.prog X.w) A (getAttr (.ref a) f b) Q E s:=by
 obtain⟨mA,O,r,_,_,_⟩:=wJ I.hok e;obtain⟨u,hu,ru⟩:=uP.some_of (v:=v) (o:=mA f) (by rw[<-l];exact r f);exact get_map I.kIn O (c.get f) c.hd n hu (FB ru) (h u _ (I.tok _) ru)
theorem zd{m:Str}{g:Addr}{pl:Sem Bool}{Q:aa×List aa->ae->Prop}(I:Inv X pins σ H s)(e:H a=some (.ins C dx fs))(c:Cls X.K C)(k:Meth X.K C m g)(l:fs.lookup m=none)
  (h:Q (.ref g,[.ref a]) s):af (model X.prog X.w) A (getMethod (.ref a) m pl) Q E s:=by
 obtain⟨mA,O,r,_,_,_⟩:=wJ I.hok e;have hn:mA m=none:=uP.none_of (by rw[<-l];exact r m);exact GU I.kIn O (c.get m) k.at_ k.fn hn h
theorem Dv{Q:Unit->ae->Prop}(I:Inv X pins σ H s)(e:H a=some (.ins C dx fs))(c:Cls X.K C)(n:sq X.K C f)(hl:fs.length<1000)(ry:RelV y u)
  (h:∀s',Inv X pins σ (upd H a (.ins C dx (tT f y fs))) s'->Q () s'):af (model X.prog X.w) A (setAttr (.ref a) f u) Q E s:=by
 obtain⟨mA,O,r,wi,_,ho⟩:=wJ I.hok e;have hz:(fs.map (·.1)).length<=ay:=by rw[ag,bV];omega
 refine JF I.kIn O c.sa c.po n.taker c.hd wi hz λh' O' sb=>h _ ?_;have hd:∃o,h'.get? dx=some o:=let ⟨o,_,_,e',_⟩:=O'.ns;⟨o,e'⟩;refine I.write (x:=a) (e:=dx) (by rw[e];exact True.intro) (.inr ho) (λb q hb z=>(sb.2 b hb).trans z) hd ?_;refine⟨by rw[ny O.ne];exact ho,?_,O.ne,O'.obj,_,O'.ns,λg=>?_,λg hg=>?_⟩
 ·have:=ye f y fs;omega
 ·show uP ((tT f y fs).lookup g) (if g=f then some u else mA g);rw[yd];by_cases q:g=f
  ·rw[ah q,ah q];exact ry
  ·rw[ai q,ai q];exact r g
 ·by_cases q:g=f
  ·rw[q];exact(xJ f y fs).1
  ·refine(xJ f y fs).2 g (wi g λz=>hg ?_);show (if g=f then some u else mA g)=none;rw[ai q];exact z
theorem Inv.made(I:Inv X pins σ H s):Inv X pins σ (upd (upd H s.heap.objs.size (.own (s.heap.objs.size+1))) (s.heap.objs.size+1) (.ins C s.heap.objs.size []))
  { s with heap:=(s.heap.push cv).push (cI C s.heap.objs.size) }:=by
 have e1:(s.heap.push cv).get? s.heap.objs.size=some cv:=bf s.heap rfl;have e2:((s.heap.push cv).push (cI C s.heap.objs.size)).get? (s.heap.objs.size+1)=some (cI C s.heap.objs.size):=by
  have:=bf (s.heap.push cv) (o:=cI C s.heap.objs.size) rfl
  rwa [dv]at this
 have e3:(s.heap.push cv).Ns s.heap.objs.size (λ_=>none):=⟨cv,#[],_,e1,rfl,(λe he=>ak he (by simp)),λ_=>rfl⟩;have I1:=I.laid (a:=s.heap.objs.size) (o:=.own (s.heap.objs.size+1)) (h':=s.heap.push cv) (t':=s.toks) (λb u q=>aJ _ q) (aE _) ⟨_,e1⟩;refine I1.laid (a:=s.heap.objs.size+1) (o:=.ins C s.heap.objs.size []) (t':=s.toks) (λb u q=>aJ _ q) (kJ (dv _ _)) ?_;have ne:s.heap.objs.size≠s.heap.objs.size+1:=aP (dq _);refine⟨by rw[ny ne,nv],cw _,ne,e2,λ_=>none,(Heap.Ns1.of_empty e3).at λo q=>aJ _ q,λ_=>True.intro,λy hy=>ak rfl hy⟩
theorem JG{prog:au}{w:ao}{env:Env}{f:Str}{s:ae}(hb:cZ e f env (eval e env)=eval e env)
  (h:af (model prog w) A (eval e env) (λo s₁=>af (model prog w) A (getAttr o f true) Q E s₁) E s):af (model prog w) A (eval (.Attribute e f pos) env) Q E s:=
 Attribute_any_ h (by rw[arm_eval_Attribute,hb])
end
def RM(K:aj)(ta:TE)(f:Str):TE:=λσ H Q=>ta σ H λx H1=>∃a C dx fs v,x=.ref a/\H1 a=some (.ins C dx fs)/\Cls K C/\sq K C f/\fs.lookup f=some v/\Q v H1
def P6(K:aj)(ta tv:TE)(f:Str):TS:=λD σ H=>tv σ H λy H1=>ta σ H1 λx H2=>∃a C dx fs,x=.ref a/\H2 a=some (.ins C dx fs)/\Cls K C/\sq K C f/\fs.length<1000/\
 D.nx σ (upd H2 a (.ins C dx (tT f y fs)))
section
variable{X:Cx}{o e value:Expr}{f:Str}{pos pos' tpos:Pos}{ta tv:TE}
theorem MB(he:PE X e ta)(hb:cZ e f X.env (eval e X.env)=eval e X.env):PE X (.Attribute e f pos) (RM X.K ta f):=by intro pins s σ H Q I h;refine JG hb (thn (he pins s σ H _ I h) λu s1 zz=>?_);obtain⟨x,H1,I1,rx,a,C,dx,fs,v,ex,ea,c,n,l,q⟩:=zz;subst ex;obtain rfl:u=Value.ref a:=rx;exact Du I1 ea c n l λu' s2 I2 ru=>⟨v,H1,I2,ru,q⟩
theorem MC(ha:PE X o ta)(hv:PE X value tv)(hs:bS value (some (.Attribute o f pos')) pos.line X.env=pure false):PS X (.Assign [.Attribute o f pos'] value pos) (P6 X.K ta tv f):=by intro pins s σ H D I h;refine plainObj_wpAny_Assign_Attribute (thn (hv pins s σ H _ I h) λu s1 ⟨y,H1,I1,ry,q⟩=>thn (ha pins s1 σ H1 _ I1 q) λov s2 zz=>?_) hs;obtain⟨x,H2,I2,rx,a,C,dx,fs,ex,ea,c,n,l,q2⟩:=zz;subst ex;obtain rfl:ov=Value.ref a:=rx;exact Dv I2 ea c n l ry λs3 I3=>⟨σ,_,I3,q2⟩
end
section
variable{X:Cx}{pins:List (Addr×Obj)}{σ:St}{H:Hp}{s:ae}{A:av}{E:aa->ae->Prop}{Q:aa->ae->Prop}{c:aa}{b:Bool}
inductive yR(K:aj) (H:Hp):V->aa->Prop where
 |non:yR K H .non (.type "NoneType")
 |bl (x:Bool):yR K H (.bl x) (.type "bool")
 |int (i:Int):yR K H (.int i) (.type "int")
 |str (x:Str):yR K H (.str x) (.type "str")
 |flt (x:UInt64):yR K H (.flt x) (.type "float")
 |lst {a:Addr} {xs:List V} (e:H a=some (.lst xs)):yR K H (.ref a) (.type "list")
 |frz {a:Addr} {o:Obj} {xs:List V} (e:H a=some (.frz o (.lst xs))):yR K H (.ref a) (.type "list")
 |tup {a:Addr} {xs:List V} (e:H a=some (.tup xs)):yR K H (.ref a) (.type "tuple")
 |dK {a:Addr} {kvs:List (Key×V)} (e:H a=some (.dK kvs)):yR K H (.ref a) (.type "dict")
 |dT {a:Addr} {kvs:List (List Key×V)} (e:H a=some (.dT kvs)):yR K H (.ref a) (.type "dict")
 |ins {a C dx:Addr} {fs:List (Str×V)} (e:H a=some (.ins C dx fs)) (cl:Cls K C) (ha:bU K (.ref C) "__class__" = some (some (.builtin "object.__class__")))
   (hn:kX K (.builtin "object.__class__") "__get__" = some (some (.builtin "getset_descriptor.__get__"))) (htk:W.takesIn K (.builtin "object.__class__")=some true)
   (hm:W.mroIn K C (.type "object")=some true):yR K H (.ref a) (.ref C)
theorem sf{x:V}{t:aa}(I:Inv X pins σ H s)(rx:RelV x u)(ty:yR X.K H x t)(e:b9 X.K t c=some b)(h:∀tk,Q (.bool b) { s with toks:=tk }):
  af (model X.prog X.w) A (call (.builtin "isinstance") [u,c]) Q E s:=by
 cases ty with
 |non=>cases (show u=Value.none from rx);exact bT kY I.kIn True.intro e (λz=>nomatch z) h
 |bl y=>cases (show u=Value.bool y from rx);exact bT kZ I.kIn True.intro e (λz=>nomatch z) h
 |int i=>obtain⟨t,q⟩:=(show ∃t,u=Value.int i t from rx);cases q;exact bT W.kitx_int I.kIn True.intro e (λz=>nomatch z) h
 |str y=>obtain⟨t,q⟩:=(show ∃t,u=Value.str y t from rx);cases q;exact bT W.kitx_str I.kIn True.intro e (λz=>nomatch z) h
 |flt y=>obtain⟨t,q⟩:=(show ∃t,u=Value.float y t from rx);cases q;exact bT W.kitx_float I.kIn True.intro e (λz=>nomatch z) h
 |@lst a xs ea=>cases (show u=Value.ref a from rx);obtain⟨_,_,n,_,h1⟩:=(show oQ X.prog X.w H s.heap a (.lst xs) from I.hok a _ ea);exact bT eV I.kIn ⟨_,h1,rfl⟩ e (λz=>nomatch z) h
 |@frz a ob xs ea=>cases (show u=Value.ref a from rx);obtain⟨_,_,_,n,_,h1⟩:=(show oQ X.prog X.w H s.heap a (.frz ob (.lst xs)) from I.hok a _ ea);exact bT eV I.kIn ⟨_,h1,rfl⟩ e (λz=>nomatch z) h
 |@tup a xs ea=>cases (show u=Value.ref a from rx);obtain⟨_,_,_,p⟩:=(show oQ X.prog X.w H s.heap a (.tup xs) from I.hok a _ ea);obtain⟨o,h1,h2,_⟩:=p;exact bT ix I.kIn ⟨o,h1,h2⟩ e (λz=>nomatch z) h
 |@dK a kvs ea=>cases (show u=Value.ref a from rx);obtain⟨_,_,vs,_,p⟩:=(show oQ X.prog X.w H s.heap a (.dK kvs) from I.hok a _ ea);obtain⟨o,es,ep,h1,h2,_⟩:=p;exact bT fY I.kIn ⟨o,h1,h2.1⟩ e (λz=>nomatch z) h
 |@dT a kvs ea=>cases (show u=Value.ref a from rx);obtain⟨_,_,xs,_,o,es,ep,h1,h2,_⟩:=(show oQ X.prog X.w H s.heap a (.dT kvs) from I.hok a _ ea);exact bT fY I.kIn ⟨o,h1,h2.1⟩ e (λz=>nomatch z) h
 |@ins a C dx fs ea cl ha hn htk hm=>cases (show u=Value.ref a from rx);obtain⟨mA,O,_⟩:=wJ I.hok ea;obtain⟨od,J,_⟩:=O.look;exact bT (W.kitx_own (cl.get _) cl.hd ha hn htk hm) I.kIn J e (λz=>nomatch z) h
end
structure pd(k:Nat)(A:av):Prop where
 hd:A.handled=none
 dp:A.depth+3 * k+5<recursionLimit
 un:A.units+16 * k+200<cLine
theorem pd.mono{k:Nat}{A:av}(r:pd k A)(h:j<=k):pd j A:=⟨r.hd,by have:=r.dp;omega,by have:=r.un;omega⟩
theorem pd.deeper{k:Nat}{A:av}(r:pd (k+1) A)(env:Env):pd k (A.deeper env):=
 ⟨r.hd,by have:=r.dp;show A.depth+1+3 * k+5<_;omega,by have:=r.un;show A.units+3+16 * k+200<_;omega⟩
theorem Dw{A:av}:(A.under (.builtin "type.__call__" ⟨.ref C::us,kw⟩)).depth=A.depth+1:=by
 first|rfl|simp[iy,Code.weight,Code.isCreation,Code.isGuard,Code.isCaller,la,iz,guardIds]
theorem Dy{A:av}:(A.under (.builtin "type.__call__" ⟨.ref C::us,kw⟩)).units=A.units+1:=by
 first|rfl|simp[iy,Code.cUnits,la,iz]
theorem pd.make{k:Nat}{A:av}(r:pd (k+1) A)(C:Addr)(us:List aa)(kw:List (Str×aa)):pd k (A.under (.builtin "type.__call__" ⟨.ref C::us,kw⟩)):=
 ⟨r.hd,by have:=r.dp;rw[Dw];omega,by have:=r.un;rw[Dy];omega⟩
theorem pd.depth{k:Nat}{A:av}(r:pd k A):A.depth<recursionLimit:=by have:=r.dp;omega
theorem pd.units{k:Nat}{A:av}(r:pd k A):A.units+64<cLine:=by have:=r.un;omega
def ze:TA:=λ_ H Q=>Q [] H
def vS(ta:TE)(tr:TA):TA:=λσ H Q=>ta σ H λx H1=>tr σ H1 λxs H2=>Q (x::xs) H2
section
variable{X:Cx}{e:Expr}{es:List Expr}{te:TE}{t:TA}{pos:Pos}
theorem tu:PA X [] ze:=λ_ _ _ _ H Q I h=>eG ⟨[],H,I,.nil,h⟩
theorem pW(ha:PE X e te)(hr:PA X es t)(hs:aq (e::es) X.env=(false,eval e X.env)::aq es X.env:=by rfl):PA X (e::es) (vS te t):=by intro pos pins s σ H Q I h;rw[hs];show af _ _ (spliced ((false,eval e X.env)::aQ pos (aq es X.env))) _ _ s;refine dJ (thn (ha pins s σ H _ I h) λu s1 zz=>?_);obtain⟨x,H1,I1,r1,q1⟩:=zz;exact thn (hr pos pins s1 σ H1 _ I1 q1) λus s2 ⟨xs,H2,I2,r2,q2⟩=>⟨x::xs,H2,I2,.cons r1 r2,q2⟩
def P7(t:TA):TE:=λσ H Q=>t σ H λxs H1=>xs.length<=ay/\∀p,H1 p=none->Q (.ref p) (upd H1 p (.tup xs))
def P8(t:TA):TE:=λσ H Q=>t σ H λxs H1=>xs.length<=ay/\∀p,H1 p=none->Q (.ref p) (upd H1 p (.lst xs))
theorem GV{x1}(h:PA X es t):PE X (.Tuple es x1 pos) (P7 t):=by intro pins s σ H Q I hq;refine wpAny_Tuple_spliced (thn (h pos pins s σ H _ I hq) λus s1 ⟨xs,H1,I1,r,z,q⟩=>⟨by rw[<-r.length];exact z,?_⟩);have hf:H1 s1.heap.objs.size=none:=I1.hok.fresh (aE _);refine⟨.ref s1.heap.objs.size,upd H1 s1.heap.objs.size (.tup xs),I1.laid (t':=s1.toks) (λb u e=>aJ _ e) (aE _) ?_,rfl,q _ hf⟩;exact⟨z,us,r,⟨_,bf _ rfl,rfl,_,rfl⟩⟩
theorem GW(h:PA X es t):PE X (.List es pos) (P8 t):=by intro pins s σ H Q I hq;refine wpAny_List_spliced (thn (h pos pins s σ H _ I hq) λus s1 ⟨xs,H1,I1,r,z,q⟩=>⟨by rw[<-r.length];exact z,?_⟩);have hf:H1 s1.heap.objs.size=none:=I1.hok.fresh (aE _);refine⟨.ref s1.heap.objs.size,upd H1 s1.heap.objs.size (.lst xs),I1.laid (t':=s1.toks) (λb u e=>aJ _ e) (aE _) ?_,rfl,q _ hf⟩;exact⟨z,us,0,r,bf _ rfl⟩
end
abbrev Sp:=List V->Hp->VK->XK->Prop
abbrev CXT:=List Env->Hp->ae->XK->aa->ae->Prop
structure DA(P:au)(w:ao)(K:aj)(mg:Str->Option aa)(base:Heap)(A:av)(outer:List Env)(s:ae)(H:Hp):Prop where
 frames:A.frames=some outer
 mod:Mod K mg base
 bs:∀b o,base.get? b=some o->s.heap.get? b=some o/\H b=none
 bsz:base.objs.size<=s.heap.objs.size
 funs:s.heap.FunFrames base outer
 frf:∀b∈frs outer,H b=none
 hok:HOk P w H s.heap
 bare:cD s.gens
def CE(outer:List Env)(P:au)(w:ao)(H:Hp)(s:ae)(Q:VK)(u:aa)(s':ae):Prop:=
 ∃v H',s'.os=s.os/\cD s'.gens/\Un (frs outer) [] H H' s.heap s'.heap/\HOk P w H' s'.heap/\RelV v u/\Q v H'
def CR(CX:CXT)(outer:List Env)(P:au)(w:ao)(H:Hp)(s:ae)(Q:VK)(E:XK)(r:cJ)(s':ae):Prop:=
 match r with
 |.ok (.ret u)=>CE outer P w H s Q u s'
 |.ok _=>False
 |.error e=>CX outer H s E e s'
structure qN(P:au)(w:ao)(K:aj)(mg:Str->Option aa)(base:Heap)(CX:CXT)(k:Nat)(f:Addr)(fd:bj)(ps:List Str)(sp:Sp):Prop where
 len:∀vs H Q E,sp vs H Q E->vs.length=ps.length
 run:∀(A:av) (outer:List Env) (s:ae) (H:Hp) (args:Args) (us:List aa) (vs:List V) (Q:VK) (E:XK),pd k A->DA P w K mg base A outer s H->d7 s fd args (ps.zip us)->Vals vs us->sp vs H Q E->
  bH (model P w) A (.call (.ref f) args) (CR CX outer P w H s Q E) s
variable{mg:Str->Option aa}{base:Heap}{CX:CXT}{fd:bj}{ps:List Str}{sp:Sp}
theorem qN.imp{P:au}{w:ao}{K:aj}{k:Nat}{f:Addr}{sp':Sp}(F:qN P w K mg base CX k f fd ps sp)
  (h:∀vs H Q E,sp' vs H Q E->sp vs H Q E):qN P w K mg base CX k f fd ps sp':=
 ⟨λvs H Q E q=>F.len vs H Q E (h _ _ _ _ q),λA outer s H args us vs Q E hr he hb hv hs=>F.run A outer s H args us vs Q E hr he hb hv (h _ _ _ _ hs)⟩
variable{outer:List Env}
theorem DA.make{P:au}{w:ao}{K:aj}{A:av}{s:ae}{H:Hp}(e:DA P w K mg base A outer s H)(C:Addr)(us:List aa)(kw:List (Str×aa)):
  DA P w K mg base (A.under (.builtin "type.__call__" ⟨.ref C::us,kw⟩)) outer s H:=⟨by first|exact e.frames|(simpa [iy,Code.envs,iz,pushEnvs]using e.frames),e.mod,e.bs,e.bsz,e.funs,e.frf,e.hok,e.bare⟩
section
variable{X:Cx}{pins:List (Addr×Obj)}{σ:St}{H:Hp}{s s':ae}
theorem Inv.env0(I:Inv X pins σ H s):DA X.prog X.w X.K X.mg X.base X.A X.stack s H:=
 ⟨I.ok.frames,I.ok.mod,I.bs,bD I.ok.bsz I.sz,I.stack,I.stkFree,I.hok,I.bare⟩
theorem Inv.after{Q:VK}(I:Inv X pins σ H s)(h:CE X.stack X.prog X.w H s Q u s'):EP X pins σ Q u s':=by obtain⟨v,H',os,bare,un,hok,r,q⟩:=h;obtain⟨hh,g,d,t,os'⟩:=s';obtain rfl:os'=s.os:=os;exact⟨v,H',I.call (h':=hh) (g':=g) (d':=d) (t':=t) (ch:=[]) un hok bare (λb z=>ak z (by simp)),r,q⟩
end
def vT(sp:Sp)(dvs:List V)(E:XK)(t:TA):TE:=λσ H Q=>t σ H λvs H1=>sp (vs++dvs) H1 Q E
def En(C:Addr)(sp:Sp)(dvs:List V)(E:XK)(t:TA):TE:=λσ H Q=>t σ H λvs H1=>∀x dx,H1 x=none->H1 dx=none->dx≠x->
 sp (.ref x::(vs++dvs)) (upd (upd H1 dx (.own x)) x (.ins C dx [])) (λv H2=>v=.non/\Q (.ref x) H2) E
def Binds(K:aj)(fd:bj)(ps:List Str)(ds:List aa):Prop:=
 ∀(s:ae) (us:List aa),K.In s.heap->(us++ds).length=ps.length->d7 s fd ⟨us,[]⟩ (ps.zip (us++ds))
theorem Binds.all{K:aj}(h:∀us:List aa,us.length=ps.length->bindArgs fd ⟨us,[]⟩=pure (ps.zip us)):Binds K fd ps []:=λs us _ hl=>by rw[br]at hl ⊢;exact .of_eq (h us hl)
def Passes(CX:CXT)(X:Cx)(E:XK):Prop:=∀(pins:List (Addr×Obj)) (σ:St) (H:Hp) (s:ae) (e:aa) (s':ae),Inv X pins σ H s->CX X.stack H s E e s'->X.xe e s'
section
variable{X:Cx}{CX:CXT}{k:Nat}{f C:Addr}{fd:bj}{ps:List Str}{sp:Sp}{dvs:List V}{ds:List aa}{E:XK}{x m:Str}{p pos apos:Pos}{e o:Expr}{es:List Expr}{ta:TE}{t:TA}
theorem Bf{H:Hp}{s:ae}{Q:VK}{vs:List V}(F:qN X.prog X.w X.K X.mg X.base CX k f fd ps sp)(hr:pd k X.A)(hb:Binds X.K fd ps ds)(hd:Vals dvs ds)(hx:Passes CX X E)
  (I:Inv X pins σ H s) (r:Vals vs us) (h:sp (vs++dvs) H Q E):af (model X.prog X.w) X.A (call (.ref f) us) (EP X pins σ Q) X.xe s:=by
 have r2:Vals (vs++dvs) (us++ds):=r.append hd;have hl:(us++ds).length=ps.length:=by rw[<-r2.length];exact F.len _ _ _ _ h
 refine eX (dB (F.run X.A X.stack s H ⟨us,[]⟩ (us++ds) (vs++dvs) Q E hr I.env0 (hb s us I.kIn hl) r2 h) λr s' hq=>?_);cases r with
 |error e=>exact hx pins σ H s e s' I hq
 |ok fl=>
  cases fl with
  |ret u=>exact I.after hq
  |next=>exact bE hq
  |brk=>exact bE hq
  |cont=>exact bE hq
theorem yZ(F:qN X.prog X.w X.K X.mg X.base CX k f fd ps sp)(hr:pd k X.A)(hg:Gl X x)(hm:X.mg x=some (.ref f))(hk:ck X.K (.ref f)=true)(hb:Binds X.K fd ps ds)(hd:Vals dvs ds)(hx:Passes CX X E)
  (ha:PA X (e::es) t) (hdb:(x==("__debug__" : Str))=false:=by decide) (he:aq (e::es) X.env=(false,eval e X.env)::aq es X.env:=by rfl) (hpl:(aQ pos (aq es X.env)).any (·.1)=false:=by rfl):
  PE X (.Call (.Name x p) (e::es) [] pos) (vT sp dvs E t):=by
 intro pins s σ H Q I h;refine cG (sL I hg hm ?_ hdb);refine fU (h₀:=X.base) I.ok.mod.kin hk (thn (ha pos pins s σ H _ I h) λus s1 ⟨vs,H1,I1,r,q⟩=>⟨I1.kIn,?_⟩) he hpl;exact Bf F hr hb hd hx I1 r q
theorem BX(F:qN X.prog X.w X.K X.mg X.base CX k f fd ps sp)(hr:pd k X.A)(hg:Gl X x)(hm:X.mg x=some (.ref f))(hk:ck X.K (.ref f)=true)(hb:Binds X.K fd ps ds)(hd:Vals dvs ds)(hx:Passes CX X E)
  (hdb:(x==("__debug__" : Str))=false:=by decide):PE X (.Call (.Name x p) [] [] pos) (vT sp dvs E ze):=by
 intro pins s σ H Q I h;refine cG (sL I hg hm ?_ hdb);exact ik I.kIn hk (Bf (us:=[]) F hr hb hd hx I .nil h)
structure Mk(K:aj)(C f:Addr):Prop where
 makes:iV K C=true
 init:bU K (.ref C) "__init__" = some (some (.ref f))
 fn:gk K (.ref f)=true
 kp:ck K (.ref C)=true
theorem GY{H:Hp}{s:ae}{Q:VK}{vs:List V}(M:Mk X.K C f)(F:qN X.prog X.w X.K X.mg X.base CX k f fd ps sp)(hr:pd (k+1) X.A)(hb:Binds X.K fd ps ds)(hd:Vals dvs ds)
  (hx:Passes CX X E) (I:Inv X pins σ H s) (r:Vals vs us)
  (h:∀x dx,H x=none->H dx=none->dx≠x->sp (.ref x::(vs++dvs)) (upd (upd H dx (.own x)) x (.ins C dx [])) (λv H2=>v=.non/\Q (.ref x) H2) E):
  af (model X.prog X.w) X.A (call (.ref C) us) (EP X pins σ Q) X.xe s:=by
 have hq:=h (s.heap.objs.size+1) s.heap.objs.size (I.hok.fresh (eW _)) (I.hok.fresh (aE _)) (aP (dq _));have I2:=Inv.made (C:=C) I;have r2:Vals (V.ref (s.heap.objs.size+1)::(vs++dvs)) (Value.ref (s.heap.objs.size+1)::(us++ds)):=.cons rfl (r.append hd);have hl:(Value.ref (s.heap.objs.size+1)::us++ds).length=ps.length:=by have e:=r2.length;rw[F.len _ _ _ _ hq]at e;exact e.symm
 refine eX (BW (f:=f) I.kIn M.makes M.init (beq_iff_eq.mp M.fn) (dB (F.run _ X.stack _ _ ⟨Value.ref (s.heap.objs.size+1)::us,[]⟩ (Value.ref (s.heap.objs.size+1)::(us++ds)) _ _ E (hr.make C us [])
  (I2.env0.make C us []) (hb _ (Value.ref (s.heap.objs.size+1)::us) I2.kIn hl) r2 hq) λr s' hq'=>?_))
 cases r with
 |error e=>exact hx pins σ _ _ e s' I2 hq'
 |ok fl=>
  cases fl with
  |ret u=>obtain⟨v,H',I3,rv,ev,q3⟩:=I2.after hq';subst ev;exact⟨rv,⟨V.ref (s.heap.objs.size+1),H',I3,rfl,q3⟩⟩
  |next=>exact bE hq'
  |brk=>exact bE hq'
  |cont=>exact bE hq'
theorem JH(M:Mk X.K C f)(F:qN X.prog X.w X.K X.mg X.base CX k f fd ps sp)(hr:pd (k+1) X.A)(hg:Gl X x)(hm:X.mg x=some (.ref C))(hb:Binds X.K fd ps ds)(hd:Vals dvs ds)(hx:Passes CX X E)
  (ha:PA X (e::es) t) (hdb:(x==("__debug__" : Str))=false:=by decide) (he:aq (e::es) X.env=(false,eval e X.env)::aq es X.env:=by rfl) (hpl:(aQ pos (aq es X.env)).any (·.1)=false:=by rfl):
  PE X (.Call (.Name x p) (e::es) [] pos) (En C sp dvs E t):=by
 intro pins s σ H Q I h;refine cG (sL I hg hm ?_ hdb);refine fU (h₀:=X.base) I.ok.mod.kin M.kp (thn (ha pos pins s σ H _ I h) λus s1 ⟨vs,H1,I1,r,q⟩=>⟨I1.kIn,?_⟩) he hpl;exact GY M F hr hb hd hx I1 r q
end
structure pP(N P:List Str)(sc:bM):Prop where
 kind:sc.kind=.function
 co:sc.isCoroutine=false
 gen:sc.isGenerator=false
 nd:N.Nodup
 pre:N.take P.length=P
 par:∀x∈P,sc.names.lookup x=some .local\/sc.names.lookup x=some .cell
 nofree:∀y∈sc.names,y.2≠.free
theorem Ao{kindOf:Str->Option cA}{x:Str}:∀{binds:List (Str×aa)} {m:Str->Option aa},(∀v,(x,v)∉binds)->bindL kindOf binds m x=m x
 |[],_,_=>rfl
 |(n,v)::r,m,h=>by
  unfold bindL;rw[Ao λw hw=>h w (aN _ hw)];split
  ·have:x≠n:=by rintro rfl;exact h v aG
   simp[this]
  ·rfl
theorem Ap{kindOf:Str->Option cA}{x:Str}:∀{binds:List (Str×aa)} {m:Str->Option aa},(∀v,(x,v)∉binds)->bindC kindOf binds m x=m x
 |[],_,_=>rfl
 |(n,v)::r,m,h=>by
  unfold bindC;rw[Ap λw hw=>h w (aN _ hw)];split
  ·rfl
  ·have:x≠n:=by rintro rfl;exact h v aG
   simp[this]
theorem Aq{kindOf:Str->Option cA}{x:Str}{v:aa}:∀{P:List Str} {vs:List aa} {i:Nat} {m:Str->Option aa},P.Nodup->P[i]?=some x->vs[i]?=some v->kindOf x=some .local->
  bindL kindOf (P.zip vs) m x=some v
 |[],_,_,_,_,h,_,_=>by simp at h
 |_::_,[],_,_,_,_,h,_=>by simp at h
 |p::P,w::vs,0,m,nd,h1,h2,hk=>by simp at h1 h2;subst h1;subst h2;show bindL kindOf ((p,w)::P.zip vs) m p=_;unfold bindL;rw[Ao λv hv=>(cU.mp nd).1 (fM hv).1,ah hk];simp
 |p::P,w::vs,i+1,m,nd,h1,h2,hk=>by show bindL kindOf ((p,w)::P.zip vs) m x=_;unfold bindL;exact Aq (i:=i) (cU.mp nd).2 (by simpa using h1) (by simpa using h2) hk
theorem Ar{kindOf:Str->Option cA}{x:Str}{v:aa}:∀{P:List Str} {vs:List aa} {i:Nat} {m:Str->Option aa},P.Nodup->P[i]?=some x->vs[i]?=some v->kindOf x≠some .local->
  bindC kindOf (P.zip vs) m x=some v
 |[],_,_,_,_,h,_,_=>by simp at h
 |_::_,[],_,_,_,_,h,_=>by simp at h
 |p::P,w::vs,0,m,nd,h1,h2,hk=>by simp at h1 h2;subst h1;subst h2;show bindC kindOf ((p,w)::P.zip vs) m p=_;unfold bindC;rw[Ap λv hv=>(cU.mp nd).1 (fM hv).1,ai hk];simp
 |p::P,w::vs,i+1,m,nd,h1,h2,hk=>by show bindC kindOf ((p,w)::P.zip vs) m x=_;unfold bindC;exact Ar (i:=i) (cU.mp nd).2 (by simpa using h1) (by simpa using h2) hk
def start(N:List Str)(vs:List V):St:=vs.map some++fQ (N.length - vs.length) none
def Bh(CX:CXT)(P:au)(w:ao)(K:aj)(mg:Str->Option aa)(base:Heap)(N:List Str)(qual:Str)(scope:bM)(f:Addr)(cd:aa)(A:av)(outer:List Env)(s:ae)(H:Hp)(E:XK):Cx where
 prog:=P
 w:=w
 K:=K
 mg:=mg
 base:=base
 A:=A.deeper (envOfC qual scope s.heap.objs.size f cd)
 N:=N
 s₀:=s
 H₀:=H
 env:=envOfC qual scope s.heap.objs.size f cd
 outer:=outer
 stack:=envOfC qual scope s.heap.objs.size f cd::outer
 ex:=[]
 calm:=true
 fn:=λ_=>true
 pn:=[]
 xe:=λe s'=>af (model P w) (A.deeper (envOfC qual scope s.heap.objs.size f cd)) (leaving (envOfC qual scope s.heap.objs.size f cd) e) (λ_ s''=>CX outer H s E e s'') (λe' s''=>CX outer H s E e' s'') s'
theorem BY{sc:bM}{n:Nat}(h:sc.names.lookup x=some .cell):∃c,(cellsFrom n sc.names []).lookup x=some c:=by have q:=jT sc.names n [] (.inl h);exact Option.isSome_iff_exists.mp q
variable{qual:Str}{scope:bM}
theorem FC{P:au}{w:ao}{K:aj}{f:Addr}{cd:aa}{A:av}{s s1:ae}{H:Hp}{E:XK}{vs:List V}
  (S:pP N ps scope) (hd:A.handled=none) (e0:DA P w K mg base A outer s H) (hl:vs.length=ps.length) (r:Vals vs us)
  (x:InCallC s s.heap.objs.size (bindL (envOfC qual scope s.heap.objs.size f cd).kindOf (ps.zip us) λ_=>none) (cellsFrom (s.heap.objs.size+1) scope.names []) (bindC (envOfC qual scope s.heap.objs.size f cd).kindOf (ps.zip us) λ_=>none) s1):
  Inv (Bh CX P w K mg base N qual scope f cd A outer s H E) [] (start N vs) H s1:=by
 have hpl:ps.length<=N.length:=by have:=aR b8 S.pre;rw[bz]at this;omega
 obtain⟨h1,tk,rfl,hk⟩:=x.done;have noA:∀b:Addr,b∉(Bh CX P w K mg base N qual scope f cd A outer s H E).ex:=λb z=>ak (show b∈([]:List Addr) from z) (by simp);refine⟨⟨e0.mod,S.kind,rfl,rfl,aE _,λy z c h1 h2=>?_,λy hy=>?_,λy c _ h=>?_,λ_=>hd,Around.frames_deeper e0.frames,.inr ⟨rfl,rfl⟩,λb z=>ak z (noA b),e0.bs,e0.bsz,λb _ _=>noA b,λb z=>ak z (noA b),e0.funs,e0.frf⟩,
  rfl,e0.bare,Un.kept hk,⟨_,x.toInCall.ns,λi y v h1 h2 h3=>?_⟩,λy c h=>⟨_,x.cell y c h⟩,e0.hok.fresh (aE _),λy c h=>?_,λp hp=>ak (show p∈([]:List (Addr×Obj)) from hp) (by simp),e0.hok.kept hk,?_⟩
 ·exact name_of_addr x.apart (eC h1) (eC h2)
 ·have hy:scope.names.lookup y=some .cell\/scope.names.lookup y=some .free:=hy;rcases hy with hy|hy
  ·exact BY hy
  ·exact ak rfl (S.nofree _ (eC hy))
 ·exact fT (x.above y c (eC h))
 ·have hi:i<vs.length:=by
   unfold start at h2;by_cases hi:i<vs.length
   ·exact hi
   ·rw[df (by simpa using hi)]at h2;rw[fz]at h2;split at h2<;>cases h2
  have ha:vs[i]?=some v:=by
   unfold start at h2;rw[dg (by simpa using hi),aX]at h2;cases e:vs[i]? with
   |none=>rw[e]at h2;cases h2
   |some a=>rw[e]at h2;cases h2;rfl
  obtain⟨u,hu,rv⟩:=r.get ha;have hp:ps[i]?=some y:=by rw[<-S.pre,List.getElem?_take_of_lt (by omega)];exact h1
  have ndP:ps.Nodup:=by rw[<-S.pre];exact S.nd.sublist (fK _ _)
  refine⟨u,rv,?_⟩;rcases S.par y (bx hp)with k|k
  ·exact .inl ⟨k,Aq ndP hp hu k⟩
  ·obtain⟨c,e⟩:=BY (n:=s.heap.objs.size+1) k;refine .inr ⟨.inl k,c,e,?_⟩;have q:=x.cell y c e;rw[Ar ndP hp hu (by show scope.names.lookup y≠_;rw[k];decide)]at q;exact q
 ·exact e0.hok.fresh (fT (x.above y c (eC h)))
 ·unfold start;show _=N.length;rw[aC,ag,bN];omega
theorem BZ{P:au}{w:ao}{K:aj}{k:Nat}{f:Addr}{name:Str}{params:Arguments}{dV kV doc pm cdv ct oc:aa}{an od:Option Addr}
  {osl:Array (Option aa)} (lk:K.lookup f=some ⟨oc,od,.func (cM name qual params body scope dV kV doc pm an cdv ct),osl⟩) (hcd:d6 K cdv qual=true) (S:pP N ps scope)
  (len:∀vs H Q E,sp vs H Q E->vs.length=ps.length)
  (hbody:∀(A:av) (outer:List Env) (s:ae) (H:Hp) (vs:List V) (Q:VK) (E:XK),pd k (A.deeper (envOfC qual scope s.heap.objs.size f cdv))->sp vs H Q E->
   ∃t,PSs (Bh CX P w K mg base N qual scope f cdv A outer s H E) body t/\t { nx:=λ_ H'=>Q .non H',rt:=Q } (start N vs) H):
  qN P w K mg base CX (k+1) f (cM name qual params body scope dV kV doc pm an cdv ct) ps sp:=by
 refine⟨len,λA outer s H args us vs Q E hr e0 hb r hsp=>?_⟩;have hl:=len _ _ _ _ hsp;have KX:K.In s.heap:=e0.mod.kin.keeps λb o e=>(e0.bs b o e).1;have lim:s.heap.NoLimit:=e0.mod.nolimit.keeps λb o e=>(e0.bs b o e).1;have hkind:∀y∈ps.zip us,scope.names.lookup y.1=some .local\/(scope.names.lookup y.1=some .cell/\((cellsFrom (s.heap.objs.size+1) scope.names []).lookup y.1).isSome=true):=λ⟨n,v⟩ hy=>by
  rcases S.par n (fM hy).1 with q|q
  ·exact .inl q
  ·exact .inr ⟨q,jT _ _ _ (.inl q)⟩
 refine codeAny_call_function hr.depth (KX _ _ lk) rfl S.co S.gen rfl (W.codeRec_of KX hcd) (hb _ _ _ _ ?_);refine wpAny_newFunctionEnv_cells S.kind hkind λenv he s1 x=>?_;subst he;refine⟨lim.keeps x.toInCall.keep,codeAny_func ?_⟩;obtain⟨t,ht,hq⟩:=hbody A outer s H vs Q E (hr.deeper _) hsp;have I:Inv (Bh CX P w K mg base N qual scope f cdv A outer s H E) [] (start N vs) H s1:=FC S hr.hd e0 hl r x;refine bh (ht [] s1 (start N vs) H _ I hq) (λfl s' hs=>?_) λe s' hs=>hs;have fin:∀{σ':St} {H':Hp} {v:V} {u:aa},Inv (Bh CX P w K mg base N qual scope f cdv A outer s H E) [] σ' H' s'->RelV v u->Q v H'->CE outer P w H s Q u s':=
  λ{σ' H' v u} J rv q=>⟨v,H',J.os,J.bare,J.base,J.hok,rv,q⟩
 cases fl with
 |ret u=>obtain⟨v,σ',H',J,rv,q⟩:=hs;exact fin J rv q
 |next=>obtain⟨σ',H',J,q⟩:=hs;exact fin (v:=V.non) (u:=Value.none) J rfl q
 |brk=>obtain⟨_,_,_,q⟩:=hs;exact bE q
 |cont=>obtain⟨_,_,_,q⟩:=hs;exact bE q
section
variable{X:Cx}{x:Str}{p pos:Pos}{e:Expr}{es:List Expr}{t:TA}{id T:String}{r:List V->Hp->VK->Prop}
def tCB(r:List V->Hp->VK->Prop)(t:TA):TE:=λσ H Q=>t σ H λvs H1=>r vs H1 Q
theorem tU(hc:pO X (.builtin id) r)(hg:Gl X x)(hm:X.mg x=none)(hv:cu x=some (.builtin id))(ha:PA X (e::es) t)(hn:x≠"__name__" := by decide)(hdb:(x==("__debug__" : Str))=false:=by decide)
  (he:aq (e::es) X.env=(false,eval e X.env)::aq es X.env:=by rfl) (hpl:(aQ pos (aq es X.env)).any (·.1)=false:=by rfl):PE X (.Call (.Name x p) (e::es) [] pos) (tCB r t):=by
 intro pins s σ H Q I h;refine cG (wg I hg hm hv ?_ hn hdb);exact callWith_builtin1 (thn (ha pos pins s σ H _ I h) λus s1 ⟨vs,H1,I1,r1,q1⟩=>hc pins s1 σ H1 vs us Q I1 r1 q1) he hpl
theorem FD(hc:pO X (.type T) r)(hg:Gl X x)(hm:X.mg x=none)(hv:cu x=some (.type T))(ha:PA X (e::es) t)(hn:x≠"__name__" := by decide)(hdb:(x==("__debug__" : Str))=false:=by decide)
  (he:aq (e::es) X.env=(false,eval e X.env)::aq es X.env:=by rfl) (hpl:(aQ pos (aq es X.env)).any (·.1)=false:=by rfl):PE X (.Call (.Name x p) (e::es) [] pos) (tCB r t):=by
 intro pins s σ H Q I h;refine cG (wg I hg hm hv ?_ hn hdb);exact callWith_type1 (thn (ha pos pins s σ H _ I h) λus s1 ⟨vs,H1,I1,r1,q1⟩=>hc pins s1 σ H1 vs us Q I1 r1 q1) he hpl
end
end L2
namespace HT
open PySem PyProof.Rows
section
variable{prog:au}{w:ao}{A:av}{E:aa->ae->Prop}{s:ae}
theorem JI{t b:Addr}{vs ws:List aa}{Q:aa->ae->Prop}(ht:IsTup s.heap t vs.toArray)(hb:IsTup s.heap b ws.toArray)(hv:vs≠[])
  (h1:ws=[]->Q (.ref t) s) (h2:ws≠[]->Q (.ref s.heap.objs.size) { s with heap:=s.heap.push { cls:=.type "tuple", data:=.seq (vs++ws).toArray } })
  (hsz:vs.length+ws.length<=ay):af (model prog w) A (bW .Add (.ref t) (.ref b)) Q E s:=by
 obtain⟨⟨cls,dd,data,sl⟩,ho,hc,n,hd⟩:=id ht;obtain⟨⟨cls2,dd2,data2,sl2⟩,ho2,hc2,n2,hd2⟩:=id hb;simp only at hc hd hc2 hd2;subst hc hd hc2 hd2;have e:vs.toArray++ws.toArray=(vs++ws).toArray:=by simp
 by_cases hw:ws=[]
 ·exact concat_meets ⟨_,ho,rfl⟩ ⟨_,ho2,rfl⟩ jU kB jV jL (jF _ _)
   (tuple_addW1 t b vs.toArray ws.toArray n n2 dd dd2 sl sl2 (by simpa using hv) (by simp[hw])) ⟨ho,ho2,h1 hw⟩
 ·refine concat_meets ⟨_,ho,rfl⟩ ⟨_,ho2,rfl⟩ jU kB jV jL (jF _ _)
   (tuple_addW2 t b vs.toArray ws.toArray n n2 dd dd2 sl sl2 (by simpa using hv) (by simpa using hw) (by rw[aL,aL];exact hsz)) ⟨ho,ho2,?_⟩
  rw[e];exact h2 hw
def sIx(n d:Nat):Option Int->Nat
 |none=>d
 |some v=>if v<0 then (v+(n:Int)).toNat else min v.toNat n
theorem B2(n d:Nat):sIx n d none=d:=rfl
theorem Eo(n d k:Nat):sIx n d (some (k:Int))=min k n:=by show (if (k:Int)<0 then ((k:Int)+(n:Int)).toNat else min (k:Int).toNat n)=min k n;rw[ai (by omega),gL]
end
end HT
namespace L2
open PySem PySem.Spec PyProof.Rows
abbrev TO:=St->Hp->(Option Int->Hp->Prop)->Prop
def PO(X:Cx)(e:Option Expr)(t:TO):Prop:=
 ∀(pins:List (Addr×Obj)) (s:ae) (σ:St) (H:Hp) (Q:Option Int->Hp->Prop),Inv X pins σ H s->t σ H Q->
  af (model X.prog X.w) X.A (evalPart e X.env) (λu s'=>∃o H',Inv X pins σ H' s'/\IsPart u o/\Q o H') X.xe s
def JJ:TO:=λ_ H Q=>Q none H
def P9(t:TE):TO:=λσ H Q=>t σ H λx H1=>∃i,x=.int i/\Q (some i) H1
section
variable{X:Cx}{e:Expr}{te:TE}{lo hi:Option Expr}{tl th:TO}{pos p2:Pos}
theorem JK:PO X none JJ:=by intro pins s σ H Q I h;rw[kC];exact aA ⟨none,H,I,.none,h⟩
theorem JL(h:PE X e te):PO X (some e) (P9 te):=by intro pins s σ H Q I hw;rw[evalPart_some];refine thn (h pins s σ H _ I hw) λu s1 zz=>?_;obtain⟨x,H1,I1,r1,q1⟩:=zz;obtain⟨i,rfl,q⟩:=q1;obtain⟨t,rfl⟩:=r1;exact⟨some i,H1,I1,.int i t,q⟩
def SlR(X:Cx)(r:V->Option Int->Option Int->Hp->VK->Prop):Prop:=
 ∀(pins:List (Addr×Obj)) (s:ae) (σ:St) (H:Hp) (x:V) (v vl vu:aa) (lo hi:Option Int) (sl:Addr) (Q:VK),Inv X pins σ H s->RelV x v->s.heap.IsSliceOf sl vl vu .none->IsPart vl lo->IsPart vu hi->r x lo hi H Q->
  ∃T id,typeLookup (.type T) "__getitem__" = pure (some (.builtin id))/\s.TypeIs v T/\af (model X.prog X.w) X.A (getItem v (.ref sl)) (EP X pins σ Q) X.xe s
def tSl(r:V->Option Int->Option Int->Hp->VK->Prop)(te:TE)(tl th:TO):TE:=λσ H Q=>te σ H λx H1=>tl σ H1 λl H2=>th σ H2 λu H3=>r x l u H3 Q
theorem GZ{r:V->Option Int->Option Int->Hp->VK->Prop}(hr:SlR X r)(he:PE X e te)(hl:PO X lo tl)(hu:PO X hi th):PE X (.Subscript e (.Slice lo hi none p2) pos) (tSl r te tl th):=by intro pins s σ H Q I h;refine iM (thn (he pins s σ H _ I h) λv s1 zz=>?_);obtain⟨x,H1,I1,r1,q1⟩:=zz;refine wpAny_Slice (thn (hl pins s1 σ H1 _ I1 q1) λvl s2 ⟨l,H2,I2,pl,q2⟩=>thn (hu pins s2 σ H2 _ I2 q2) λvu s3 zz=>?_);obtain⟨u,H3,I3,pu,q3⟩:=zz;rw[kC];refine aA ?_;have I4:Inv X pins σ H3 { s3 with heap:=s3.heap.push { cls:=.type "slice", data:=.fields #[vl,vu,.none] } }:=I3.kept (t':=s3.toks) λb ob q=>aJ _ q;obtain⟨T,id,hT,ht,hg⟩:=hr pins { s3 with heap:=s3.heap.push { cls:=.type "slice", data:=.fields #[vl,vu,.none] } } σ H3 x v vl vu l u s3.heap.objs.size Q I4 r1 (mS ..) pl pu q3;show af (model X.prog X.w) X.A (subscriptTail e (.Slice lo hi none p2) v (.ref s3.heap.objs.size)) (EP X pins σ Q) X.xe { s3 with heap:=s3.heap.push { cls:=.type "slice", data:=.fields #[vl,vu,.none] } };exact tail_any (ops:=[.ref s3.heap.objs.size,v]) ht hT hg (by with_unfolding_all rfl)
def FH(xs:List V)(lo hi:Option Int):List V:=(xs.drop (HT.sIx xs.length 0 lo)).take (HT.sIx xs.length xs.length hi - HT.sIx xs.length 0 lo)
theorem B3(xs:List V)(lo hi:Option Int):(FH xs lo hi).length<=xs.length:=by unfold FH;rw[bz,dP];omega
def Qa(K:aj):R2:=λx y H Q=>∃a b xs ys,x=.ref a/\y=.ref b/\SqT K H a xs/\SqT K H b ys/\xs≠[]/\xs.length+ys.length<=ay/\
 (ys=[]->Q (.ref a) H)/\(ys≠[]->∀p,H p=none->Q (.ref p) (upd H p (.tup (xs++ys))))
theorem Vals.nil_iff{xs:List V}{us:List aa}(r:Vals xs us):us=[] ↔ xs=[]:=by
 cases r with
 |nil=>simp
 |cons _ _=>simp
theorem JM:OpR X (bW .Add) (Qa X.K):=by intro pins s σ H x y v u Q I rx ry h;obtain⟨a,b,xs,ys,rfl,rfl,ha,hb,hx,hz,q1,q2⟩:=h;cases rx;cases ry;obtain⟨its,r1,p1,_⟩:=I.tuple ha;obtain⟨its2,r2,p2,_⟩:=I.tuple hb;refine HT.JI p1 p2 (λz=>hx (r1.nil_iff.mp z)) (λz=>⟨.ref a,H,I,rfl,q1 (r2.nil_iff.mp z)⟩) (λz=>?_) (by rw[<-r1.length,<- r2.length];exact hz);refine⟨.ref s.heap.objs.size,_,I.laid (t':=s.toks) (o:=.tup (xs++ys)) (λb ob q=>aJ _ q) (aE _) ?_,rfl,q2 (λw=>z (r2.nil_iff.mpr w)) _ (I.hok.fresh (aE _))⟩;exact⟨by rw[aC];exact hz,_,r1.append r2,IsTup.new _ _⟩
end
def ixN(n:Nat)(i:Int):Option Nat:=if 0<=i then (if i<n then some i.toNat else none)else if -(n:Int)<=i then some (i+n).toNat else none
def atI{α:Type}(xs:List α)(i:Int):Option α:=(ixN xs.length i).bind λj=>xs[j]?
variable{j:Nat}
theorem Ep{n:Nat}{i:Int}(h:ixN n i=some j):seqIndex? i n=some j/\j<n/\-(n:Int)<=i/\i<n:=by
 unfold ixN at h;by_cases h0:0<=i
 ·rw[ah h0]at h;by_cases h1:i<n
  ·rw[ah h1]at h;have e:i.toNat=j:=bK h;exact⟨by rw[iH h0 h1,e],by omega,by omega,h1⟩
  ·rw[ai h1]at h;cases h
 ·rw[ai h0]at h;by_cases h1:-(n:Int)<=i
  ·rw[ah h1]at h;have e:(i+n).toNat=j:=bK h;exact⟨by rw[iA (by omega) h1,e],by omega,h1,by omega⟩
  ·rw[ai h1]at h;cases h
theorem Bi{α:Type}{xs:List α}{i:Int}{v:α}(h:atI xs i=some v):∃j,seqIndex? i xs.length=some j/\xs[j]?=some v/\j<xs.length/\-(xs.length:Int)<=i/\i<xs.length:=by
 unfold atI at h;cases e:ixN xs.length i with
 |none=>rw[e]at h;cases h
 |some j=>rw[e]at h;obtain⟨h1,h2,h3,h4⟩:=Ep e;exact⟨j,h1,h,h2,h3,h4⟩
theorem vG{α:Type}{xs:List α}{v:α}(h:xs[j]?=some v):atI xs (j:Int)=some v:=by
 have hj:j<xs.length:=(bu.mp h).1;have e:ixN xs.length (j:Int)=some j:=by unfold ixN;rw[ah (by omega),ah (by omega)];simp
 unfold atI;rw[e];exact h
def Er(b:Expr):Prop:=∀o i,subscripted b false o i=operate [o,i] (getItem o i)
def IxR(X:Cx)(r:R2):Prop:=
 ∀(value slice:Expr) (pins:List (Addr×Obj)) (s:ae) (σ:St) (H:Hp) (x y:V) (v u:aa) (Q:VK),Inv X pins σ H s->RelV x v->RelV y u->r x y H Q->
  subscripted slice false v u=operate [v,u] (getItem v u)->af (model X.prog X.w) X.A (subscriptTail value slice v u) (EP X pins σ Q) X.xe s
def MtR(X:Cx)(id:String)(r:V->List V->Hp->VK->Prop):Prop:=
 ∀(pins:List (Addr×Obj)) (s:ae) (σ:St) (H:Hp) (x:V) (xs:List V) (v:aa) (us:List aa) (Q:VK),Inv X pins σ H s->RelV x v->Vals xs us->r x xs H Q->
  af (model X.prog X.w) X.A (call (.builtin id) (v::us)) (EP X pins σ Q) X.xe s
variable{r:R2}{pins:List (Addr×Obj)}{σ:St}{its its':List aa}{y:V}{u:aa}{T:String}
section
variable{X:Cx}{a b:Expr}{ta tb:TE}{pos:Pos}
theorem IxR.or{r':R2}(h:IxR X r)(h':IxR X r'):IxR X (λx y H Q=>r x y H Q\/r' x y H Q):=by
 intro value slice pins s σ H x y v u Q I rx ry q hs;rcases q with q|q
 ·exact h value slice pins s σ H x y v u Q I rx ry q hs
 ·exact h' value slice pins s σ H x y v u Q I rx ry q hs
theorem LC(hr:IxR X r)(ha:PE X a ta)(hb:PE X b tb)(hs:Er b):PE X (.Subscript a b pos) (tOp r ta tb):=by intro pins s σ H Q I h;exact iM (Ms ha hb I h λv u s2 x y H2 I2 rx ry q=>hr a b pins s2 σ H2 x y v u Q I2 rx ry q (hs _ _))
def JN(K:aj):R2:=λx y H Q=>∃p xs i v,x=.ref p/\y=.int i/\SqL K H p xs/\atI xs i=some v/\Q v H
def Qb(K:aj):R2:=λx y H Q=>∃p xs i v,x=.ref p/\y=.int i/\SqT K H p xs/\atI xs i=some v/\Q v H
def Qc:R2:=λx y H Q=>∃z i c,x=.str z/\y=.int i/\z.length<=ay/\atI z.cps.toList i=some c/\Q (.str ⟨#[c]⟩) H
theorem Es:IxR X (JN X.K):=by
 intro value slice pins s σ H x y v u Q I rx ry h hs;obtain⟨p,xs,i,z,rfl,rfl,hq,he,q⟩:=h;cases rx;obtain⟨t,rfl⟩:=ry;obtain⟨its,r,pl,hz⟩:=I.list hq;obtain⟨j,h1,h2,h3,h4,h5⟩:=Bi he;obtain⟨w,ew,rw'⟩:=r.get h2;have hl:=r.length;have hn:=xI;have fin:EP X pins σ Q w s:=⟨z,H,I,rw',q⟩;by_cases h0:0<=i
 ·have hj:i.toNat=j:=by rw[iH h0 h5]at h1;exact bK h1
  exact item_listR pl.isList h0 (by omega) (by rw[hj];simpa using ew) fin hs
 ·have hj:(i+(its.toArray.size:Int)).toNat=j:=by rw[iA (by omega) h4]at h1;rw[aL,<- hl];exact bK h1
  exact ja (x:=w) pl.isList.typeIs jM.lookup
   (wpAny_getItem_list_neg (Q:=λr s'=>r=w/\EP X pins σ Q r s') pl.isList (by omega) (by rw[aL]<;>omega) (by omega) (by rw[hj];simpa using ew) ⟨rfl,fin⟩) hs
theorem ME:IxR X (Qb X.K):=by
 intro value slice pins s σ H x y v u Q I rx ry h hs;obtain⟨p,xs,i,z,rfl,rfl,hq,he,q⟩:=h;cases rx;obtain⟨t,rfl⟩:=ry;obtain⟨its,r,pl,hz⟩:=I.tuple hq;obtain⟨j,h1,h2,h3,h4,h5⟩:=Bi he;obtain⟨w,ew,rw'⟩:=r.get h2;have hl:=r.length;have hn:=xI;have fin:EP X pins σ Q w s:=⟨z,H,I,rw',q⟩;exact ja (x:=w) pl.typeIs slot_tuple_getitem.lookup
  (getItem_tuple (j:=j) (Q:=λr s'=>r=w/\EP X pins σ Q r s') pl (by omega) (by omega) (by rw[aL,<- hl];exact h1) (by simpa using ew) ⟨rfl,fin⟩) hs
theorem MF:IxR X Qc:=by
 intro value slice pins s σ H x y v u Q I rx ry h hs;obtain⟨z,i,c,rfl,rfl,hz,he,q⟩:=h;obtain⟨t,rfl⟩:=rx;obtain⟨t',rfl⟩:=ry;obtain⟨j,h1,h2,h3,h4,h5⟩:=Bi he;have hl:z.cps.toList.length=z.length:=by simp[Str.length]
 rw[hl]at h1 h4 h5;have hn:=xI;exact tail_any (typeIs_str s z t) slot_str_getitem.lookup (getItem_str (c:=c) (by
  have e1:decide (i < -(2 ^ 63:Int))=false:=aY (by omega);have e2:decide (i >= 2 ^ 63)=false:=aY (by omega);rw[e1,e2,Bool.or_false]) (by rw[h1];simpa using h2) ⟨.str ⟨#[c]⟩,H,I.tok _,⟨_,rfl⟩,q⟩) hs
def rIx(K:aj):R2:=λx y H Q=>JN K x y H Q\/Qb K x y H Q\/Qc x y H Q
theorem MG:IxR X (rIx X.K):=Es.or (ME.or MF)
theorem DB(its:List aa)(n j:Nat)(u:aa):d5 (·.setIfInBounds j u) { cls:=.type "list", data:=.seq its.toArray n }={ cls:=.type "list", data:=.seq (its.set j u).toArray n }:=by simp[d5]
theorem Inv.lst{pins:List (Addr×Obj)}{σ:St}{H:Hp}{s:ae}{p:Addr}{xs:List V}(I:Inv X pins σ H s)(h:H p=some (.lst xs)):
  ∃(its:List aa) (n:Nat),Vals xs its/\s.heap.get? p=some { cls:=.type "list", data:=.seq its.toArray n }/\xs.length<=ay:=by
 obtain⟨z,its,n,r,e⟩:=I.hok p _ h;exact⟨its,n,r,e,z⟩
theorem Inv.lstUpd{H:Hp}{s:ae}{p:Addr}{xs ys:List V}{n n':Nat}{f:Obj->Obj}(I:Inv X pins σ H s)(h:H p=some (.lst xs))
  (ho:s.heap.get? p=some { cls:=.type "list", data:=.seq its.toArray n }) (hf:f { cls:=.type "list", data:=.seq its.toArray n }={ cls:=.type "list", data:=.seq its'.toArray n' }) (r:Vals ys its') (hz:ys.length<=ay) (t:Nat):
  Inv X pins σ (upd H p (.lst ys)) { s with heap:=s.heap.update p f,toks:=t }:=by
 have e:(s.heap.update p f).get? p=some { cls:=.type "list", data:=.seq its'.toArray n' }:=by rw[jg f ho (by rw[hf]<;>rfl),hf]
 refine I.write (x:=p) (e:=p) (by rw[h];trivial) (.inl rfl) (λb u hb q=>(jb _ _ (dc hb)).trans q) ⟨_,e⟩ ?_;exact⟨hz,its',n',r,e⟩
def LF:V->V->V->Hp->(Hp->Prop)->Prop:=λo i v H Q=>∃p xs k j,o=.ref p/\i=.int k/\H p=some (.lst xs)/\ixN xs.length k=some j/\Q (upd H p (.lst (xs.set j v)))
theorem set_list:PN X LF:=by
 intro pins s σ H o i v ov iv u Q I ro ri rv h;obtain⟨p,xs,k,j,rfl,rfl,hp,hj,q⟩:=h;cases ro;obtain⟨t,rfl⟩:=ri;obtain⟨its,n,r,ho,hz⟩:=I.lst hp;obtain⟨h1,h2,h3,h4⟩:=Ep hj;have hl:=r.length;have hn:=xI;have I':Inv X pins σ (upd H p (.lst (xs.set j v))) { s with heap:=s.heap.update p (d5 (·.setIfInBounds j u)) }:=
  I.lstUpd hp ho (DB its n j u) (r.set rv j) (by rw[cH];exact hz) s.toks
 by_cases h0:0<=k
 ·have hk:k.toNat=j:=by rw[iH h0 h4]at h1;exact bK h1
  exact W.ki_setAt ho h0 (by omega) (by rw[aL,<- hl];exact h4) (by rw[hk];exact⟨_,I',q⟩)
 ·have hk:(k+(its.toArray.size:Int)).toNat=j:=by rw[iA (by omega) h3]at h1;rw[aL,<- hl];exact bK h1
  exact W.ki_setBack ho (by omega) (by rw[aL,<- hl];exact h3) (by omega) (by rw[hk];exact⟨_,I',q⟩)
theorem Bj(lo hi:Option Int)(n:Nat):(sliceBounds lo hi none n).1=((HT.sIx n 0 lo:Nat):Int)/\(sliceBounds lo hi none n).2.1=((HT.sIx n n hi:Nat):Int)/\(sliceBounds lo hi none n).2.2=1:=by
 refine⟨?_,?_,rfl⟩
 ·cases lo with
  |none=>simp[sliceBounds,HT.sIx]
  |some i=>
   simp only[sliceBounds,HT.sIx,jW,show (1:Int) > 0 by decide,if_true];by_cases h:i<0
   ·simp only[h,if_true]<;>omega
   ·simp only[h,if_false]<;>omega
 ·cases hi with
  |none=>simp[sliceBounds,HT.sIx]
  |some i=>
   simp only[sliceBounds,HT.sIx,jW,show (1:Int) > 0 by decide,if_true];by_cases h:i<0
   ·simp only[h,if_true]<;>omega
   ·simp only[h,if_false]<;>omega
theorem Ag(its:List aa)(lo hi:Option Int):slicePick its.toArray lo hi none=((its.drop (HT.sIx its.length 0 lo)).take (HT.sIx its.length its.length hi - HT.sIx its.length 0 lo)).toArray:=by obtain⟨h1,h2,h3⟩:=Bj lo hi its.toArray.size;unfold slicePick;rw[h1,h2,h3];simp only[sliceRange_one,pick_run,aL]<;>rfl
def JO(K:aj):V->Option Int->Option Int->Hp->VK->Prop:=λx lo hi H Q=>∃a xs,x=.ref a/\SqL K H a xs/\∀p,H p=none->Q (.ref p) (upd H p (.lst (FH xs lo hi)))
theorem JP:SlR X (JO X.K):=by intro pins s σ H x v vl vu lo hi sl Q I rx hs pl pu h;obtain⟨a,xs,rfl,hx,q⟩:=h;cases rx;obtain⟨its,r,ht,hz⟩:=I.list hx;have hlen:=r.length;refine⟨"list", _,jM.lookup,ht.isList.typeIs,?_⟩;refine wpAny_getItem_list_slice ht.isList hs pl pu .none (by simp) ?_ (by rw[aL]<;>omega);rw[Ag,<- hlen];refine⟨.ref s.heap.objs.size,_,I.laid (t':=s.toks) (o:=.lst (FH xs lo hi)) (λb ob q=>aJ _ q) (aE _) ?_,rfl,q _ (I.hok.fresh (aE _))⟩;exact⟨bD (B3 xs lo hi) hz,_,0,(r.drop (HT.sIx xs.length 0 lo)).take (HT.sIx xs.length xs.length hi - HT.sIx xs.length 0 lo),bf _ rfl⟩
def vU:V->Bool
 |.non=>true
 |.bl _=>true
 |.int _=>true
 |.str _=>true
 |_=>false
def eqV:V->V->Bool
 |.non,.non=>true
 |.bl a,.bl b=>a==b
 |.bl a,.int b=>(if a then 1 else 0)==b
 |.int a,.bl b=>a==(if b then 1 else 0)
 |.int a,.int b=>a==b
 |.str a,.str b=>a==b
 |_,_=>false
theorem zf{A:av}{s:ae}{x:V}{v:aa}(ry:RelV y u)(rx:RelV x v)(fy:vU y=true)(fx:vU x=true):f7 A s u v (eqV y x):=by
 cases y with
 |non=>
  cases ry;cases x with
  |non=>cases rx;exact hJ _
  |bl b=>cases rx;exact mj b
  |int b=>obtain⟨t,rfl⟩:=rx;exact js b t
  |str b=>obtain⟨t,rfl⟩:=rx;exact jt b t
  |_=>exact ak (show false=true from fx) aT
 |bl a=>
  cases ry;cases x with
  |non=>cases rx;exact ml a
  |bl b=>cases rx;exact mm a b
  |int b=>obtain⟨t,rfl⟩:=rx;exact mG a b t
  |str b=>obtain⟨t,rfl⟩:=rx;exact mH a b t
  |_=>exact ak (show false=true from fx) aT
 |int a=>
  obtain⟨t',rfl⟩:=ry;cases x with
  |non=>cases rx;exact ju a t'
  |bl b=>cases rx;exact mI a t' b
  |int b=>obtain⟨t,rfl⟩:=rx;exact mU a t' b t
  |str b=>obtain⟨t,rfl⟩:=rx;exact jC a t' b t
  |_=>exact ak (show false=true from fx) aT
 |str a=>
  obtain⟨t',rfl⟩:=ry;cases x with
  |non=>cases rx;exact jv a t'
  |bl b=>cases rx;exact mJ a t' b
  |int b=>obtain⟨t,rfl⟩:=rx;exact jD a t' b t
  |str b=>obtain⟨t,rfl⟩:=rx;exact mW a t' b t
  |_=>exact ak (show false=true from fx) aT
 |_=>exact ak (show false=true from fy) aT
def eqU(x:V)(u:aa):Bool:=match u with
 |.none=>eqV .non x
 |.bool b=>eqV (.bl b) x
 |.int i _=>eqV (.int i) x
 |.str z _=>eqV (.str z) x
 |_=>false
theorem G0{x:V}(r:RelV y u)(f:vU y=true):eqU x u=eqV y x:=by
 cases y with
 |non=>cases r;rfl
 |bl b=>cases r;rfl
 |int i=>obtain⟨t,rfl⟩:=r;rfl
 |str z=>obtain⟨t,rfl⟩:=r;rfl
 |_=>exact ak (show false=true from f) aT
theorem wK{x:V}:∀{xs:List V} {us:List aa},Vals xs us->xs.all vU=true->us.any (eqU x)=xs.any λy=>eqV y x
 |_,_,.nil,_=>rfl
 |y::xs,u::us,.cons r t,f=>by rw[c3,az]at f;rw[dA,dA,G0 r f.1,wK t f.2]
theorem uQ{A:av}{s:ae}{x:V}{v:aa}(rx:RelV x v)(fx:vU x=true):∀{xs:List V} {us:List aa},Vals xs us->xs.all vU=true->∀u∈us,f7 A s u v (eqU x u)
 |_,_,.nil,_=>λu hu=>by cases hu
 |y::xs,u::us,.cons r t,f=>λu' hu=>by
  rw[c3,az]at f;rcases aO.mp hu with rfl|hu
  ·rw[G0 r f.1];exact zf r rx f.1 fx
  ·exact uQ rx fx t f.2 u' hu
def inV(x:V)(xs:List V):Bool:=xs.any λy=>eqV y x
def rIn(K:aj)(neg:Bool):R2:=λx y H Q=>∃p xs,y=.ref p/\(SqL K H p xs\/SqT K H p xs)/\vU x=true/\xs.all vU=true/\Q (.bl (if neg then !inV x xs else inV x xs)) H
theorem FI:OpR X (aM .In) (rIn X.K false):=by
 intro pins s σ H x y v u Q I rx ry h;obtain⟨p,xs,rfl,hq,fx,fs,q⟩:=h;cases ry;rcases hq with hq|hq
 ·obtain⟨its,r,pl,hz⟩:=I.list hq;refine SeqAt.in_listAt (eqU x) pl.isList (λw hw=>uQ rx fx r fs w (by simpa using hw)) ⟨.bl _,H,I,rfl,?_⟩;rw[show its.toArray.any (eqU x)=its.any (eqU x) by simp,wK r fs];exact q
 ·obtain⟨its,r,pl,hz⟩:=I.tuple hq;refine SeqAt.in_tupleAt (eqU x) pl (λw hw=>uQ rx fx r fs w (by simpa using hw)) ⟨.bl _,H,I,rfl,?_⟩;rw[show its.toArray.any (eqU x)=its.any (eqU x) by simp,wK r fs];exact q
theorem Bk:OpR X (aM .NotIn) (rIn X.K true):=by
 intro pins s σ H x y v u Q I rx ry h;obtain⟨p,xs,rfl,hq,fx,fs,q⟩:=h;cases ry;rcases hq with hq|hq
 ·obtain⟨its,r,pl,hz⟩:=I.list hq;refine SeqAt.notIn_listAt (eqU x) pl.isList (λw hw=>uQ rx fx r fs w (by simpa using hw)) ⟨.bl _,H,I,rfl,?_⟩;rw[show its.toArray.any (eqU x)=its.any (eqU x) by simp,wK r fs];exact q
 ·obtain⟨its,r,pl,hz⟩:=I.tuple hq;refine SeqAt.notIn_tupleAt (eqU x) pl (λw hw=>uQ rx fx r fs w (by simpa using hw)) ⟨.bl _,H,I,rfl,?_⟩;rw[show its.toArray.any (eqU x)=its.any (eqU x) by simp,wK r fs];exact q
theorem Bl:pO X (.builtin "len") (λxs H Q=>∃p ys,xs=[.ref p]/\(SqL X.K H p ys\/SqT X.K H p ys)/\Q (.int ys.length) H):=by
 intro pins s σ H xs us Q I r h;obtain⟨p,ys,rfl,hq,q⟩:=h;obtain⟨u,rfl,rx⟩:=vals1 r;cases rx;have hn:=xI;rcases hq with hq|hq
 ·obtain⟨its,r',pl,hz⟩:=I.list hq;have hlen:=r'.length;exact Calls.call_len_list pl.isList (by simp only[aL]<;>omega) ⟨.int ys.length,H,I.tok _,⟨s.toks+1,by rw[aL,hlen]⟩,q⟩
 ·obtain⟨its,r',pl,hz⟩:=I.tuple hq;have hlen:=r'.length;exact len_tuple pl (by simp only[aL]<;>omega) ⟨.int ys.length,H,I.tok _,⟨s.toks+1,by rw[aL,hlen]⟩,q⟩
theorem Bm:pO X (.builtin "len") (λxs H Q=>∃z,xs=[.str z]/\z.length<=ay/\Q (.int z.length) H):=by intro pins s σ H xs us Q I r h;obtain⟨z,rfl,hz,q⟩:=h;obtain⟨u,rfl,t,rfl⟩:=vals1 r;have hn:=xI;exact len_str (by omega) ⟨.int z.length,H,I.tok _,⟨_,rfl⟩,q⟩
theorem Bn:pO X (.type "list") (λxs H Q=>∃p ys,xs=[.ref p]/\(SqL X.K H p ys\/SqT X.K H p ys)/\∀l,H l=none->Q (.ref l) (upd H l (.lst ys))):=by
 intro pins s σ H xs us Q I r h;obtain⟨p,ys,rfl,hq,q⟩:=h;obtain⟨u,rfl,rx⟩:=vals1 r;cases rx;have fin:∀(its:List aa),Vals ys its->ys.length<=ay->∀(h':Heap) (c':Nat),(∀b o',s.heap.get? b=some o'->h'.get? b=some o')->
   h'.get? s.heap.objs.size=some { cls:=.type "list", dict:=none,data:=.seq its.toArray c',slots:=#[] }->EP X pins σ Q (.ref s.heap.objs.size) { s with heap:=h' }:=λits r' hz h' c' kp e=>
  ⟨.ref s.heap.objs.size,_,I.laid (t':=s.toks) kp (aE _) (show oQ X.prog X.w _ h' _ (.lst ys) from⟨hz,its,c',r',e⟩),rfl,q _ (I.hok.fresh (aE _))⟩
 rcases hq with hq|hq
 ·obtain⟨its,r',pl,hz⟩:=I.list hq;have hlen:=r'.length;obtain⟨o,ho,hc,n,hd⟩:=pl.isList;exact kD p (.inl rfl) ho hc hd (λh' c' kp e=>fin its r' hz h' c' kp e) (by simp only[aL]<;>omega)
 ·obtain⟨its,r',pl,hz⟩:=I.tuple hq;have hlen:=r'.length;obtain⟨o,ho,hc,n,hd⟩:=pl;exact kD p (.inr rfl) ho hc hd (λh' c' kp e=>fin its r' hz h' c' kp e) (by simp only[aL]<;>omega)
def tyV(K:aj)(T:String)(x:V)(H:Hp):Prop:=match x with
 |.str _=>T="str"
 |.int _=>T="int"
 |.ref p=>(T="list" /\ ∃xs,SqL K H p xs)\/(T="tuple" /\ ∃o,K.lookup p=some o/\o.cls=.type "tuple" /\ o.dict=none)\/
   (T="dict" /\ ((∃kvs,H p=some (.dK kvs))\/∃kvs,H p=some (.dT kvs)))\/(T="set" /\ ∃S n,H p=some (.set S n))
 |_=>False
theorem MH{H:Hp}{s:ae}{x:V}{v:aa}(I:Inv X pins σ H s)(r:RelV x v)(ty:tyV X.K T x H):
  s.TypeIs v T/\∀a,v=.ref a->∃ob,s.heap.get? a=some ob/\ob.dict=none:=by
 cases x with
 |str z=>obtain⟨t,rfl⟩:=r;cases (show T="str" from ty);exact⟨typeIs_str s z t,λ_ e=>nomatch e⟩
 |int i=>obtain⟨t,rfl⟩:=r;cases (show T="int" from ty);exact⟨typeIs_int s i t,λ_ e=>nomatch e⟩
 |ref p=>
  cases r;rcases ty with ⟨rfl,xs,hq⟩|⟨rfl,o,hk,hc,hd⟩|⟨rfl,hk⟩|⟨rfl,S,n,hk⟩
  ·obtain⟨its,_,pl,_⟩:=I.list hq;refine⟨pl.isList.typeIs,λa e=>?_⟩;cases e;obtain⟨o,n,e,c,hd,_⟩:=pl;exact⟨o,e,hd⟩
  ·refine⟨⟨o,I.kIn p o hk,hc⟩,λa e=>?_⟩;cases e;exact⟨o,I.kIn _ o hk,hd⟩
  ·have z:∃o,s.heap.get? p=some o/\o.ExactDict:=by
    rcases hk with ⟨kvs,hk⟩|⟨kvs,hk⟩
    ·obtain⟨_,_,_,_,o,_,_,e,ex,_⟩:=I.hok p _ hk;exact⟨o,e,ex⟩
    ·obtain⟨_,_,_,_,o,_,_,e,ex,_⟩:=I.hok p _ hk;exact⟨o,e,ex⟩
   obtain⟨o,e,ex⟩:=z;refine⟨⟨o,e,ex.1⟩,λa e2=>?_⟩;cases e2;exact⟨o,e,ex.2.1⟩
  ·obtain⟨o,_,_,_,e,ex,_⟩:=I.hok p _ hk;refine⟨⟨o,e,ex.1⟩,λa e2=>?_⟩;cases e2;exact⟨o,e,ex.2.1⟩
 |_=>exact bE ty
def tBM(K:aj)(T:String)(r:V->List V->Hp->VK->Prop)(to:TE)(t:TA):TE:=λσ H Q=>to σ H λx H1=>tyV K T x H1/\t σ H1 λxs H2=>r x xs H2 Q
variable{o e:Expr}{es:List Expr}{to:TE}{t:TA}{name:Str}{apos cpos:Pos}{T id:String}{r:V->List V->Hp->VK->Prop}
theorem Qd(pa:iN T)(slot:Slot T name id)(hty:typeOf (.builtin id)=pure (.type "method_descriptor"))(hm:MtR X id r)(ho:PE X o to)(ha:PA X (e::es) t)
  (hbase:cZ o name X.env (eval o X.env)=eval o X.env:=by rfl)
  (hfew:((aQ cpos (aq (e::es) X.env)).all (λx=>!x.1)&&(backToKw cpos (cy [] X.env)).all (λx=>x.1.isSome)
   && decide ((e::es).length+([]:List de).length+(if ([]:List de).isEmpty then 0 else 1)<30))=true:=by rfl)
  (hline:(apos.endLine==cpos.line)=true:=by rfl) (hs:aq (e::es) X.env=(false,eval e X.env)::aq es X.env:=by rfl) (hplain:(aQ cpos (aq es X.env)).any (·.1)=false:=by rfl):
  PE X (.Call (.Attribute o name apos) (e::es) [] cpos) (tBM X.K T r to t):=by
 intro pins s σ H Q I h;refine wpAny_Call_method_late hbase hfew hline rfl (thn (ho pins s σ H _ I h) λv s1 zz=>?_);obtain⟨x,H1,I1,r1,ty,q1⟩:=zz;obtain⟨h1,h2⟩:=MH I1 r1 ty;refine⟨T,id,pa,slot,hty,h1,h2,?_⟩;have hA:=ha cpos pins s1 σ H1 _ I1 q1;rw[hs]at hA ⊢;refine fC (by show (false||(aQ cpos (aq es X.env)).any (·.1))=false;rw[hplain]<;>rfl) (eh ?_)
 exact thn hA λus s2 ⟨vs,H2,I2,r2,q2⟩=>hm pins s2 σ H2 x vs v us Q I2 r1 r2 q2
end
def MtM(X:Cx)(id:String)(r:V->List V->Hp->VK->Prop):Prop:=
 ∀(pins:List (Addr×Obj)) (s:ae) (σ:St) (H:Hp) (x:V) (xs:List V) (v:aa) (us:List aa) (Q:VK),Inv X pins σ H s->RelV x v->Vals xs us->r x xs H Q->
  af (model X.prog X.w) X.A (call (.builtin id) (v::us)) (EP X pins σ Q) X.xe s
theorem Vals.one:∀{x:V} {us:List aa},Vals [x] us->∃u,us=[u]/\RelV x u
 |_,_,.cons r .nil=>⟨_,rfl,r⟩
variable{t':Nat}
section
variable{X:Cx}{pins:List (Addr×Obj)}{σ:St}{H:Hp}{s:ae}{l b:Addr}{xs ys zs:List V}
theorem Inv.lset{n:Nat}{f:Array aa->Array aa}(I:Inv X pins σ H s)(hH:H l=some (.lst xs))
  (e:s.heap.get? l=some { cls:=.type "list", data:=.seq its.toArray n }) (hf:f its.toArray=its'.toArray) (hv:Vals ys its') (hz:ys.length<=ay):
  Inv X pins σ (upd H l (.lst ys)) { s with heap:=s.heap.update l (d5 f),toks:=t' }:=by
 have q:=PySem.IsL.update e f;rw[hf]at q;refine I.write (x:=l) (e:=l) (by rw[hH];exact trivial) (.inl rfl) (λb' u hb hu=>(jb s.heap (d5 f) (dc hb)).trans hu) ⟨_,q⟩ ?_;exact⟨hz,its',_,hv,q⟩
theorem Inv.lnew(I:Inv X pins σ H s)(hv:Vals ys its)(hz:ys.length<=ay):
  Inv X pins σ (upd H s.heap.objs.size (.lst ys)) { s with heap:=s.heap.push { cls:=.type "list", data:=.seq its.toArray },toks:=t' }:=
 I.laid (λ_ _ q=>aJ _ q) (aE _) ⟨hz,its,0,hv,bf _ rfl⟩
theorem Inv.fresh(I:Inv X pins σ H s):H s.heap.objs.size=none:=I.hok.fresh (aE _)
theorem Inv.lstM(I:Inv X pins σ H s)(hH:H l=some (.lst xs)):xs.length<=ay/\∃(its:List aa) (n:Nat),Vals xs its/\xs.length=its.length/\s.heap.get? l=some { cls:=.type "list", data:=.seq its.toArray n }:=by obtain⟨z,its,n,r,e⟩:=I.hok l _ hH;exact⟨z,its,n,r,r.length,e⟩
theorem B4{n:Nat}(h:n<=ay):d9 n=false:=by unfold d9;exact aY (by omega)
end
section
variable{X:Cx}
def Bo:V->List V->Hp->VK->Prop:=λx vs H Q=>∃l xs y,x=.ref l/\vs=[y]/\H l=some (.lst xs)/\xs.length<ay/\Q .non (upd H l (.lst (xs++[y])))
theorem xK:MtM X "list.append" Bo:=by intro pins s σ H x vs v us Q I rx rv h;obtain⟨l,xs,y,rfl,rfl,hH,hz,q⟩:=h;cases rx;obtain⟨u,rfl,ru⟩:=rv.one;obtain⟨z,its,n,r,hl,e⟩:=I.lstM hH;refine iO gB ⟨_,e,rfl⟩ F.entry_list_append (F.args_list_append_2 _ _) (PySem.list_append l its.toArray n u (by rw[aL];omega)) ⟨e,?_⟩;refine⟨.non,_,I.lset (its':=its++[u]) hH e (by simp) (r.append (.cons ru .nil)) ?_,rfl,q⟩;rw[aC,bO];omega
def Et:V->List V->Hp->VK->Prop:=λx vs H Q=>∃l b xs zs,x=.ref l/\vs=[.ref b]/\H l=some (.lst xs)/\H b=some (.lst zs)/\xs.length+zs.length<=ay/\Q .non (upd H l (.lst (xs++zs)))
theorem FJ:MtM X "list.extend" Et:=by
 intro pins s σ H x vs v us Q I rx rv h;obtain⟨l,b,xs,zs,rfl,rfl,hH,hB,hz,q⟩:=h;cases rx;obtain⟨u,rfl,ru⟩:=rv.one;cases ru;obtain⟨z,its,n,r,hl,e⟩:=I.lstM hH;obtain⟨z2,its2,n2,r2,hl2,e2⟩:=I.lstM hB;have hsz:its.toArray.size+its2.toArray.size<=ay:=by rw[aL,aL];omega
 have hlong:¬(!its.toArray.isEmpty&&d9 (its.toArray.size+its2.toArray.size))=true:=by rw[B4 hsz,kh];exact aT
 refine iO fJ ⟨_,e,rfl⟩ jw (jl _ _)
  (AutoSeq1.list_extend_list_list_0 l its.toArray n b its2.toArray n2 hlong (by rw[aL];omega) (by omega)) ⟨e,e2,?_⟩
 refine⟨.non,_,I.lset (its':=its++its2) hH e (by simp) (r.append r2) ?_,rfl,q⟩;rw[aC];omega
def RN:R2:=λx y H Q=>∃l b xs zs,x=.ref l/\y=.ref b/\H l=some (.lst xs)/\H b=some (.lst zs)/\xs.length+zs.length<=ay/\∀p,H p=none->Q (.ref p) (upd H p (.lst (xs++zs)))
theorem MI:OpR X (bW .Add) RN:=by
 intro pins s σ H x y v u Q I rx ry h;obtain⟨l,b,xs,zs,rfl,rfl,hH,hB,hz,q⟩:=h;cases rx;cases ry;obtain⟨z,its,n,r,hl,e⟩:=I.lstM hH;obtain⟨z2,its2,n2,r2,hl2,e2⟩:=I.lstM hB;refine PySem.P.add_list e e2 ?_ (by rw[aL,aL];omega);have ea:its.toArray++its2.toArray=(its++its2).toArray:=by simp
 rw[ea];exact⟨.ref _,_,I.lnew (t':=s.toks) (r.append r2) (by rw[aC];omega),rfl,q _ I.fresh⟩
end
section
variable{prog:au}{w:ao}{A:av}{E:aa->ae->Prop}{s:ae}
set_option maxRecDepth 100000 in
end
section
variable{κ:Type}[DecidableEq κ]
def rj(kvs:List (κ×V))(k:κ):Option V:=(kvs.find? λkv=>decide (kv.1=k)).map (·.2)
def putK(kvs:List (κ×V))(k:κ)(v:V):List (κ×V):=
 if (kvs.any λkv=>decide (kv.1=k))=true then kvs.map (λkv=>if kv.1=k then (kv.1,v)else kv)else kvs++[(k,v)]
theorem wL{p:κ×V}{r:List (κ×V)}{k:κ}(e:p.1=k):rj (p::r) k=some p.2:=by simp[rj,cW,e]
theorem wM{p:κ×V}{r:List (κ×V)}{k:κ}(e:¬p.1=k):rj (p::r) k=rj r k:=by simp[rj,cW,e]
theorem zg(k:κ):∀kvs:List (κ×V),(kvs.any λkv=>decide (kv.1=k))=(rj kvs k).isSome
 |[]=>rfl
 |p::r=>by
  rw[dA];by_cases e:p.1=k
  ·simp only[wL e,aW e,Bool.true_or,Option.isSome_some]
  ·rw[wM e,aY e,il];exact zg k r
theorem sN(kvs:List (κ×V))(k:κ)(v:V):(putK kvs k v).length<=kvs.length+1:=by
 unfold putK;split
 ·rw[ag];omega
 ·rw[aC,aD,du];omega
theorem G1{kvs:List (κ×V)}{k:κ}(v:V)(h:rj kvs k=none):putK kvs k v=kvs++[(k,v)]:=by unfold putK;rw[zg,h];exact ai (by decide)
theorem uP.isSome_eq{o:Option V}{u:Option aa}(r:uP o u):o.isSome=u.isSome:=by
 cases o with
 |none=>cases u with
  |none=>rfl
  |some _=>exact(show False from r).elim
 |some _=>cases u with
  |none=>exact(show False from r).elim
  |some _=>rfl
theorem uP.getD{o:Option V}{u:Option aa}{d:V}{d':aa}(r:uP o u)(rd:RelV d d'):RelV (o.getD d) (u.getD d'):=by
 cases o with
 |none=>cases u with
  |none=>exact rd
  |some _=>exact(show False from r).elim
 |some _=>cases u with
  |none=>exact(show False from r).elim
  |some _=>exact r
theorem KV.val{kvs:List (κ×V)}{vs:List (κ×aa)}(r:KV kvs vs)(k:κ):uP (rj kvs k) (valueAt vs k):=by
 unfold KV at r
 induction r with
 |nil=>exact True.intro
 |@cons p q ps qs h t ih=>
  obtain⟨h1,h2⟩:=h;by_cases e:p.1=k
  ·have e':q.1=k:=h1.symm.trans e;have b:valueAt (q::qs) k=some q.2:=by simp[valueAt,cW,e']
   rw[wL e,b];exact h2
  ·have e':¬q.1=k:=λz=>e (h1.trans z);have b:valueAt (q::qs) k=valueAt qs k:=by simp[valueAt,cW,e']
   rw[wM e,b];exact ih
theorem KV.any{kvs:List (κ×V)}{vs:List (κ×aa)}(r:KV kvs vs)(k:κ):(kvs.any λkv=>decide (kv.1=k))=vs.any λkv=>decide (kv.1=k):=by
 unfold KV at r
 induction r with
 |nil=>rfl
 |cons h t ih=>rw[dA,dA,ih,h.1]
theorem KV.repl{kvs:List (κ×V)}{vs:List (κ×aa)}(r:KV kvs vs)(k:κ)(ry:RelV y u):
  KV (kvs.map λkv=>if kv.1=k then (kv.1,y)else kv) (vs.map λkv=>if kv.1=k then (kv.1,u)else kv):=by
 unfold KV at r ⊢
 induction r with
 |nil=>exact .nil
 |@cons p q ps qs h t ih=>
  rw[aK,aK];refine .cons ?_ ih;obtain⟨h1,h2⟩:=h;by_cases e:p.1=k
  ·rw[ah e,ah (h1.symm.trans e)];exact⟨h1,ry⟩
  ·rw[ai e,ai (λz=>e (h1.trans z))];exact⟨h1,h2⟩
theorem KV.put{kvs:List (κ×V)}{vs:List (κ×aa)}(r:KV kvs vs)(k:κ)(ry:RelV y u):KV (putK kvs k y) (stored vs k u):=by
 unfold putK stored;rw[r.any k];by_cases e:(vs.any λkv=>decide (kv.1=k))=true
 ·rw[ah e,ah e];exact r.repl k ry
 ·rw[ai e,ai e];exact lb r ⟨rfl,ry⟩
theorem KV.length{kvs:List (κ×V)}{vs:List (κ×aa)}(r:KV kvs vs):kvs.length=vs.length:=ic r
end
theorem yf{P:au}{w:ao}{k:Key}(r:RelV (kV k) u):(nL P w).is k u=true:=by
 cases k with
 |inl i=>obtain⟨t,e⟩:=(show ∃t,u=Value.int i t from r);subst e;exact BQ P w i t
 |inr x=>obtain⟨t,e⟩:=(show ∃t,u=Value.str x t from r);subst e;exact BR P w x t
theorem As{P:au}{w:ao}:∀{ks:List Key} {us:List aa},Vals (ks.map kV) us->ItemsAre (nL P w) ks us
 |[],_,r=>by rw[c6]at r;cases r;exact .nil
 |k::ks,_,r=>by
  rw[aK]at r;cases r with
  |cons h t=>exact .cons (yf h) (As t)
abbrev KT(H:Hp):List (List Key×V)->List (List Key×Addr×aa)->Prop:=dD λp q=>p.1=q.1/\H q.2.1=some (.tup (p.1.map kV))/\RelV p.2 q.2.2
variable{kvs:List (List Key×V)}{xs:List (List Key×Addr×aa)}
theorem KT.val{H:Hp}(r:KT H kvs xs)(k:List Key):uP (rj kvs k) ((atKey xs k).map (·.2)):=by
 induction r with
 |nil=>exact True.intro
 |@cons p q ps qs h t ih=>
  obtain⟨h1,_,h2⟩:=h;by_cases e:p.1=k
  ·have e':q.1=k:=h1.symm.trans e;have b:atKey (q::qs) k=some q.2:=by simp[atKey,cW,e']
   rw[wL e,b];exact h2
  ·have e':¬q.1=k:=λz=>e (h1.trans z);have b:atKey (q::qs) k=atKey qs k:=by simp[atKey,cW,e']
   rw[wM e,b];exact ih
theorem KT.repl{H:Hp}(r:KT H kvs xs)(k:List Key)(ry:RelV y u):
  KT H (kvs.map λkv=>if kv.1=k then (kv.1,y)else kv) (xs.map (putAt k u)):=by
 induction r with
 |nil=>exact .nil
 |@cons p q ps qs h t ih=>
  rw[aK,aK];refine .cons ?_ ih;obtain⟨h1,h2,h3⟩:=h;unfold putAt;by_cases e:p.1=k
  ·rw[ah e,ah (h1.symm.trans e)];exact⟨h1,h2,ry⟩
  ·rw[ai e,ai (λz=>e (h1.trans z))];exact⟨h1,h2,h3⟩
theorem KT.put{H:Hp}(r:KT H kvs xs)(k:List Key){b:Addr}(hb:H b=some (.tup (k.map kV)))(ry:RelV y u):
  KT H (putK kvs k y) (storedH xs k b u):=by
 have e:(kvs.any λkv=>decide (kv.1=k))=(atKey xs k).isSome:=by rw[zg,(r.val k).isSome_eq,Option.isSome_map]
 unfold putK storedH;rw[e];by_cases q:(atKey xs k).isSome=true
 ·rw[ah q,ah q];exact r.repl k ry
 ·rw[ai q,ai q];exact lb r ⟨rfl,hb,ry⟩
variable{H':Hp}
theorem KT.keeps{H:Hp}(r:KT H kvs xs)(ht:∀b ys,H b=some (.tup ys)->H' b=some (.tup ys)):KT H' kvs xs:=
 Paired.mapP r λ_ _ z=>⟨z.1,ht _ _ z.2.1,z.2.2⟩
section
variable{P:au}{w:ao}{H:Hp}{h:Heap}{a:Addr}
theorem LG{u:HO}(ok:HOk P w H h)(e:Rd H a u):oQ P w H h a u:=e.ok ok
theorem zh{kvs:List (Key×V)}(ok:HOk P w H h)(e:Rd H a (.dK kvs)):kvs.length<=ay/\(a==cj)=false/\∃vs,KV kvs vs/\h.DictOf (nL P w) a vs:=
 show oQ P w H h a (.dK kvs) from LG ok e
theorem G2{kvs:List (Key×V)}(ok:HOk P w H h)(e:H a=some (.dK kvs)):kvs.length<=ay/\(a==cj)=false/\∃vs,KV kvs vs/\h.DictOf (nL P w) a vs:=zh ok (.inl e)
theorem Bp{ks:List Key}(ok:HOk P w H h)(e:H a=some (.tup (ks.map kV))):(tupleKind (nL P w)).is h ks a:=by obtain⟨_,its,r,o,h1,h2,n,h3⟩:=(show oQ P w H h a (.tup (ks.map kV)) from ok a _ e);exact⟨o,its.toArray,n,h1,h2,h3,by simpa using As r⟩
theorem B5(ok:HOk P w H h)(e:Rd H a (.dT kvs)):kvs.length<=ay/\(a==cj)=false/\
  ∃xs,KT H kvs xs/\h.DictOfH (tupleKind (nL P w)) a xs:=by
 obtain⟨z,y,xs,r,o,es,ep,h1,h2,h3,h4,h5⟩:=(show oQ P w H h a (.dT kvs) from LG ok e);refine⟨z,y,xs,r,o,es,ep,h1,h2,h3,h4,λx hx=>?_,h5⟩;have all:∀{l:List (List Key×V)} {m:List (List Key×Addr×aa)},KT H l m->∀x∈m,(tupleKind (nL P w)).is h x.1 x.2.1:=by
  intro l m q
  induction q with
  |nil=>intro x hx;exact nomatch hx
  |@cons p q ps qs hq t ih=>
   intro x hx;rcases aO.mp hx with e|hx
   ·subst e;exact Bp ok (by rw[<-hq.1];exact hq.2.1)
   ·exact ih x hx
 exact all r x hx
theorem Qe(ok:HOk P w H h)(e:H a=some (.dT kvs)):kvs.length<=ay/\(a==cj)=false/\
  ∃xs,KT H kvs xs/\h.DictOfH (tupleKind (nL P w)) a xs:=B5 ok (.inl e)
end
def DGet(H:Hp)(a:Addr)(y:V)(r:Option V):Prop:=
 (∃kvs k,Rd H a (.dK kvs)/\y=kV k/\r=rj kvs k)\/∃kvs k b,Rd H a (.dT kvs)/\y=.ref b/\H b=some (.tup (k.map kV))/\r=rj kvs k
def G3(H:Hp)(a:Addr)(y v:V)(H':Hp):Prop:=
 (∃kvs k,H a=some (.dK kvs)/\y=kV k/\kvs.length<ay/\H'=upd H a (.dK (putK kvs k v)))\/
 ∃kvs k b,H a=some (.dT kvs)/\y=.ref b/\H b=some (.tup (k.map kV))/\kvs.length<ay/\H'=upd H a (.dT (putK kvs k v))
theorem G3.k{H:Hp}{a:Addr}{kvs:List (Key×V)}{k:Key}{v:V}(e:H a=some (.dK kvs))(hl:kvs.length<ay):G3 H a (kV k) v (upd H a (.dK (putK kvs k v))):=.inl ⟨kvs,k,e,rfl,hl,rfl⟩
variable{Q:aa->ae->Prop}{h':Heap}
section
variable{X:Cx}{pins:List (Addr×Obj)}{σ:St}{H:Hp}{s:ae}{a:Addr}{y v:V}{u r:aa}{o:Option V}{A:av}{E:aa->ae->Prop}
theorem Inv.big(I:Inv X pins σ H s):cj<s.heap.objs.size:=by have h:aF<s.heap.objs.size:=(I.mod.glob.keeps I.bk).lt;exact Nat.lt_trans (by decide) h
theorem FK(hu:A.units+1<cLine)(I:Inv X pins σ H s)(g:DGet H a y (some v))(ry:RelV y u)(h:∀w' s',Inv X pins σ H s'->RelV v w'->Q w' s'):
  af (model X.prog X.w) A (getItem (.ref a) u) Q E s:=by
 rcases g with ⟨kvs,k,e,ey,l⟩|⟨kvs,k,b,e,ey,eb,l⟩
 ·subst ey;obtain⟨z,hd,vs,rel,dd⟩:=zh I.hok e;obtain⟨w',hw,rw'⟩:=uP.some_of (v:=v) (o:=valueAt vs k) (by rw[l];exact rel.val k);exact wpAny_getItem_of (yf ry) dd.mapOf hw (h w' _ (I.tok _) rw')
 ·subst ey;cases (show u=Value.ref b from ry);obtain⟨z,hd,xs,rel,dd⟩:=B5 I.hok e;obtain⟨w',hw,rw'⟩:=uP.some_of (v:=v) (o:=(atKey xs k).map (·.2)) (by rw[l];exact rel.val k)
  obtain⟨p,hp,hp2⟩:=Option.map_eq_some_iff.mp hw;refine wpAny_getItem_heap (gE hu) (Bp I.hok eb) dd hp ?_;rw[hp2];exact h w' _ (I.tok _) rw'
theorem y3{ob:HO}(I:Inv X pins σ H s)(mu:Mut (H a))(hs:dX a s.heap h')(he:∃q,h'.get? a=some q)(new:oQ X.prog X.w (upd H a ob) h' a ob):
  Inv X pins σ (upd H a ob) { s with heap:=h',toks:=t' }:=
 I.write (x:=a) (e:=a) mu (.inl rfl) (λb q hb z=>(hs.2 b hb).trans z) he new
theorem DC{P:au}{w:ao}{kvs:List (Key×V)}{vs:List (Key×aa)}(z:kvs.length<=ay)(hd:(a==cj)=false)(rel:KV kvs vs)(dd:h'.DictOf (nL P w) a vs):
  oQ P w H' h' a (.dK kvs):=⟨z,hd,vs,rel,dd⟩
theorem FL{Q:Unit->ae->Prop}(hu:A.units+1<cLine)(I:Inv X pins σ H s)(g:G3 H a y v H')(ry:RelV y u)(rv:RelV v r)(h:∀s',Inv X pins σ H' s'->Q () s'):
  af (model X.prog X.w) A (setItem (.ref a) u r) Q E s:=by
 rcases g with ⟨kvs,k,e,ey,l,eH⟩|⟨kvs,k,b,e,ey,eb,l,eH⟩
 ·subst ey eH;obtain⟨z,hd,vs,rel,dd⟩:=G2 I.hok e;have hz:vs.length<=ay:=by rw[<-rel.length];exact z
  have hl:(putK kvs k v).length<=ay:=by have:=sN kvs k v;omega
  refine wpAny_setItem_pairs (hsz:=hz) (yf ry) dd λh' dd' hs=>h _ ?_;have he:∃q,h'.get? a=some q:=let ⟨q,_,_,hq,_⟩:=dd';⟨q,hq⟩;exact y3 I (by rw[e];exact True.intro) hs he (DC hl hd (rel.put k rv) dd')
 ·subst ey eH;cases (show u=Value.ref b from ry);obtain⟨z,hd,xs,rel,dd⟩:=Qe I.hok e;have hz:xs.length<=ay:=by rw[<-ic rel];exact z
  have hl:(putK kvs k v).length<=ay:=by have:=sN kvs k v;omega
  refine wpAny_setItem_heap (hsz:=hz) (gE hu) (Bp I.hok eb) dd λh' dd' hs=>h _ ?_;obtain⟨q,es,ep,hq,h2,h3,h4,_,h5⟩:=dd';refine y3 I (by rw[e];exact True.intro) hs ⟨q,hq⟩ ⟨hl,hd,_,(rel.put k eb rv).keeps λc ys ec=>?_,q,es,ep,hq,h2,h3,h4,h5⟩;rw[ny (PB ec e (λz=>nomatch z))];exact ec
end
section
variable{X:Cx}{pins:List (Addr×Obj)}{σ:St}{H:Hp}{s:ae}{a:Addr}{kvs:List (Key×V)}{k:Key}{u:aa}{A:av}{E:aa->ae->Prop}
theorem Qf(I:Inv X pins σ H s)(e:Rd H a (.dK kvs))(h:∀t s',Inv X pins σ H s'->Q (.int kvs.length t) s'):af (model X.prog X.w) A (call (.builtin "len") [.ref a]) Q E s:=by obtain⟨z,hd,vs,rel,dd⟩:=zh I.hok e;refine call_len_dict hd dd (by rw[<-rel.length];rw[bV]at z;omega) ?_;rw[<-rel.length];exact h _ _ (I.tok _)
end
def MJ(i:Expr):Prop:=∀ov iv,subscripted i false ov iv=operate [ov,iv] (getItem ov iv)
variable{pos:Pos}
theorem JQ{prog:au}{w:ao}{A:av}{E:aa->ae->Prop}{s:ae}{env:Env}{value slice:Expr}{id:String}
  (hl:typeLookup (.type T) "__getitem__" = pure (some (.builtin id))) (hs:MJ slice)
  (h:af (model prog w) A (eval value env) (λo s₁=>af (model prog w) A (eval slice env) (λi s₂=>s₂.TypeIs o T/\af (model prog w) A (getItem o i) Q E s₂) E s₁) E s):
  af (model prog w) A (eval (.Subscript value slice pos) env) Q E s:=by
 refine iM (bh h (λo s₁ h₁=>bh h₁ (λi s₂ h₂=>?_) λ_ _ x=>x) λ_ _ x=>x);obtain⟨hT,h₂⟩:=h₂;unfold subscriptTail;refine ar ?_;rw[getitemInPython_of_ne hT.not_modules];refine ar (fN hT hl ?_);have fin:af (model prog w) A (subscripted slice false o i) (λr s₃=>af (model prog w) A (letTemporaryGo value o r>>=λ_=>pure r) Q E s₃) E s₂:=by rw[hs o i];exact wpAny_operating (bh h₂ (λr s₃ h₃=>ar (wpAny_letTemporaryGo (aA h₃))) λ_ _ x=>x)
 first
  |exact aA (ar fin)
  |exact ar (aA (ar fin))
  |exact ar fin
variable{X:Cx}{a:Addr}
theorem B6{H:Hp}{s:ae}{o:Option V}(I:Inv X pins σ H s)(g:DGet H a y o):s.TypeIs (.ref a) "dict" := by
 rcases g with ⟨kvs,k,e,_,_⟩|⟨kvs,k,b,e,_,_,_⟩
 ·obtain⟨_,_,vs,_,dd⟩:=zh I.hok e;exact dd.typeIs
 ·obtain⟨_,_,xs,_,dd⟩:=B5 I.hok e;exact dd.typeIs
def Qg(td ty:TE):TE:=λσ H Q=>td σ H λx H1=>ty σ H1 λy H2=>∃a v,x=.ref a/\DGet H2 a y (some v)/\Q v H2
def LH(td ty tv:TE):TS:=λD σ H=>tv σ H λv H1=>td σ H1 λx H2=>ty σ H2 λy H3=>∃a H4,x=.ref a/\G3 H3 a y v H4/\D.nx σ H4
section
variable{X:Cx}{o i e value:Expr}{pos pos' tpos:Pos}{td ty tv:TE}
theorem JR(hu:X.A.units+1<cLine)(ho:PE X o td)(hi:PE X i ty)(hs:MJ i):PE X (.Subscript o i pos) (Qg td ty):=by intro pins s σ H Q I h;refine JQ F.slot_dict_getitem.lookup hs (thn (ho pins s σ H _ I h) λu s1 ⟨x,H1,I1,rx,q1⟩=>thn (hi pins s1 σ H1 _ I1 q1) λiv s2 zz=>?_);obtain⟨y,H2,I2,ry,a,v,ex,g,q2⟩:=zz;subst ex;obtain rfl:u=Value.ref a:=rx;exact⟨B6 I2 g,FK hu I2 g ry λw' s3 I3 rw'=>⟨v,H2,I3,rw',q2⟩⟩
theorem JS(hu:X.A.units+1<cLine)(ho:PE X o td)(hi:PE X i ty)(hv:PE X value tv)(hs:bS value (some (.Subscript o i pos')) pos.line X.env=pure false):
  PS X (.Assign [.Subscript o i pos'] value pos) (LH td ty tv):=by
 intro pins s σ H D I h;refine wpAny_Assign_Subscript (thn (hv pins s σ H _ I h) λr s1 ⟨v,H1,I1,rv,q1⟩=>thn (ho pins s1 σ H1 _ I1 q1) λu s2 ⟨x,H2,I2,rx,q2⟩=>thn (hi pins s2 σ H2 _ I2 q2) λiv s3 zz=>?_) hs;obtain⟨y,H3,I3,ry,a,H4,ex,g,q3⟩:=zz;subst ex;obtain rfl:u=Value.ref a:=rx;exact FL hu I3 g ry rv λs4 I4=>⟨σ,H4,I4,q3⟩
end
theorem B7{P:au}{w:ao}{H:Hp}(h:Heap)(hb:cj<h.objs.size):oQ P w H (h.push { cls:=.type "dict", data:=.dict #[] }) h.objs.size (.dK []):=
 ⟨cw _,beq_eq_false_iff_ne.mpr (dc (aP hb)),[],.nil,m5 h⟩
def DD:TE:=λ_ H Q=>∀p,H p=none->Q (.ref p) (upd H p (.dK []))
section
variable{X:Cx}{pos:Pos}
theorem B8:PE X (.Dict [] [] pos) DD:=λpins s σ H Q I h=>
 wpAny_Dict_empty ⟨.ref s.heap.objs.size,_,I.laid (a:=s.heap.objs.size) (o:=.dK []) (t':=s.toks) (λ_ _ q=>aJ _ q) (aE _) (B7 s.heap I.big),rfl,h _ (I.hok.fresh (aE _))⟩
end
def Bq:List (TE×TE)->St->Hp->(List (V×V)->Hp->Prop)->Prop
 |[],_,H,Q=>Q [] H
 |(tk,tv)::r,σ,H,Q=>tk σ H λx H1=>tv σ H1 λy H2=>Bq r σ H2 λps H3=>Q ((x,y)::ps) H3
abbrev VV:List (V×V)->List (aa×aa)->Prop:=dD λp q=>RelV p.1 q.1/\RelV p.2 q.2
def PPs(X:Cx)(pos:Pos)(keys:List (Option Expr))(values:List Expr)(trs:List (TE×TE)):Prop:=
 ∀(pins:List (Addr×Obj)) (s:ae) (σ:St) (H:Hp) (Q:List (V×V)->Hp->Prop),Inv X pins σ H s->Bq trs σ H Q->
  af (model X.prog X.w) X.A (evalPairs (pairTrees keys values X.env pos)) (λvs s'=>∃ps H',Inv X pins σ H' s'/\VV ps vs/\Q ps H') X.xe s
theorem JT:PPs X pos [] [] []:=λpins s σ H Q I h=>pairTrees_nil_walk ⟨[],H,I,.nil,h⟩
variable{trs:List (TE×TE)}
theorem G4{k v:Expr}{ks:List (Option Expr)}{vs:List Expr}{tk tv:TE}(hk:PE X k tk)(hv:PE X v tv)(hr:PPs X pos ks vs trs):
  PPs X pos (some k::ks) (v::vs) ((tk,tv)::trs):=λpins s σ H Q I h=>
 pairTrees_cons_walk (thn (hk pins s σ H _ I h) λu s1 ⟨x,H1,I1,rx,q1⟩=>thn (hv pins s1 σ H1 _ I1 q1) λw2 s2 ⟨y,H2,I2,ry,q2⟩=>
  thn (hr pins s2 σ H2 _ I2 q2) λws s3 ⟨ps,H3,I3,rel,q3⟩=>⟨(x,y)::ps,H3,I3,.cons ⟨rx,ry⟩ rel,q3⟩)
def wm(kvs more:List (Key×V)):List (Key×V):=more.foldl (λacc kv=>putK acc kv.1 kv.2) kvs
theorem KV.merge:∀{more:List (Key×V)} {rs:List (Key×aa)} {kvs:List (Key×V)} {vs:List (Key×aa)},KV more rs->KV kvs vs->KV (wm kvs more) (merged vs rs):=by
 intro more rs kvs vs r;unfold KV at r
 induction r generalizing kvs vs with
 |nil=>intro q;exact q
 |@cons p q ps qs h t ih=>
  intro r0;have e:KV (putK kvs p.1 p.2) (stored vs q.1 q.2):=by have:=r0.put p.1 h.2;rw[<-h.1];exact this
  exact ih e
theorem vV:∀(more kvs:List (Key×V)),(wm kvs more).length<=kvs.length+more.length
 |[],kvs=>by show kvs.length<=kvs.length+0;omega
 |p::r,kvs=>by have h1:=vV r (putK kvs p.1 p.2);have h2:=sN kvs p.1 p.2;show (wm (putK kvs p.1 p.2) r).length<=_;rw[aD];omega
theorem zi{P:au}{w:ao}:∀{kvs:List (Key×V)} {ws:List (aa×aa)},VV (kvs.map λkv=>(kV kv.1,kv.2)) ws->∃rs,Carries (nL P w) ws rs/\KV kvs rs
 |[],_,r=>by rw[c6]at r;cases r;exact⟨[],True.intro,.nil⟩
 |p::kvs,_,r=>by
  rw[aK]at r;cases r with
  |@cons a b as bs h t=>obtain⟨rs,c,q⟩:=zi (P:=P) (w:=w) t;obtain⟨b1,b2⟩:=b;exact⟨(p.1,b2)::rs,⟨yf h.1,rfl,c⟩,.cons ⟨rfl,h.2⟩ q⟩
def LI(trs:List (TE×TE)):TE:=λσ H Q=>∀p,H p=none->Bq trs σ (upd H p (.dK [])) λps H2=>H2 p=some (.dK [])/\∃kvs:List (Key×V),ps=kvs.map (λkv=>(kV kv.1,kv.2))/\kvs.length<=15/\Q (.ref p) (upd H2 p (.dK (wm [] kvs)))
theorem JU{keys:List (Option Expr)}{values:List Expr}(h:PPs X pos keys values trs)(hall:keys.all (·.isSome)=true)(hl:keys.length=values.length)(h0:keys≠[])
  (h15:keys.length<=15):PE X (.Dict keys values pos) (LI trs):=by
 intro pins s σ H Q I q;have hn:=I.hok.fresh (aE s.heap.objs.size);have I1:=I.laid (a:=s.heap.objs.size) (o:=.dK []) (h':=s.heap.push { cls:=.type "dict", data:=.dict #[] }) (t':=s.toks) (λ_ _ q=>aJ _ q) (aE _) (B7 s.heap I.big);refine wpAny_Dict_walk (knd:=nL X.prog X.w) hall hl h0 h15 (thn (h pins _ σ _ _ I1 (q _ hn)) λws s2 zz=>?_);obtain⟨ps,H2,I2,rel,e,kvs,ep,lk,q2⟩:=zz;subst ep;obtain⟨rs,c,rk⟩:=zi (P:=X.prog) (w:=X.w) rel;obtain⟨z,hd,vs0,r0,dd⟩:=G2 I2.hok e;cases r0;refine⟨rs,c,dd,λh' dd' hs=>⟨.ref s.heap.objs.size,_,?_,rfl,q2⟩⟩;have hz:(wm [] kvs).length<=ay:=by have h1:=vV kvs [];rw[du]at h1;rw[bV];omega
 have he:∃q,h'.get? s.heap.objs.size=some q:=let ⟨q,_,_,hq,_⟩:=dd';⟨q,hq⟩;exact y3 I2 (by rw[e];exact True.intro) hs he (DC hz hd (rk.merge .nil) dd')
structure M1(X:Cx)(o:Expr)(m:Str)(apos:Pos)(e:Expr)(cpos:Pos):Prop where
 base:cZ o m X.env (eval o X.env)=eval o X.env
 few:((aQ cpos (aq [e] X.env)).all (λx=>!x.1)&&(backToKw cpos (cy [] X.env)).all (λx=>x.1.isSome)
  && decide (([e]:List Expr).length+([]:List de).length+(if ([]:List de).isEmpty then 0 else 1)<30))=true
 line:(apos.endLine==cpos.line)=true
 trees:aQ cpos (aq [e] X.env)=[(false,eval e X.env)]
structure M2(X:Cx)(o:Expr)(m:Str)(apos:Pos)(e f:Expr)(cpos:Pos):Prop where
 base:cZ o m X.env (eval o X.env)=eval o X.env
 few:((aQ cpos (aq [e,f] X.env)).all (λx=>!x.1)&&(backToKw cpos (cy [] X.env)).all (λx=>x.1.isSome)
  && decide (([e,f]:List Expr).length+([]:List de).length+(if ([]:List de).isEmpty then 0 else 1)<30))=true
 line:(apos.endLine==cpos.line)=true
 trees:aQ cpos (aq [e,f] X.env)=[(false,eval e X.env),(false,eval f X.env)]
def IsD(H:Hp)(a:Addr):Prop:=(∃kvs,Rd H a (.dK kvs))\/∃kvs,Rd H a (.dT kvs)
theorem DE{H:Hp}{s:ae}(I:Inv X pins σ H s)(d:IsD H a):
  s.TypeIs (.ref a) "dict" /\ (∀b,Value.ref a=.ref b->∃ob,s.heap.get? b=some ob/\ob.dict=none)/\(a==cj)=false:=by
 rcases d with ⟨kvs,e⟩|⟨kvs,e⟩
 ·obtain⟨_,hd,vs,_,dd⟩:=zh I.hok e;refine⟨dd.typeIs,λb q=>?_,hd⟩;cases q;obtain⟨ob,_,_,h1,h2,_⟩:=dd;exact⟨ob,h1,h2.2.1⟩
 ·obtain⟨_,hd,xs,_,dd⟩:=B5 I.hok e;refine⟨dd.typeIs,λb q=>?_,hd⟩;cases q;obtain⟨ob,_,_,h1,h2,_⟩:=dd;exact⟨ob,h1,h2.2.1⟩
section
variable{X:Cx}{pins:List (Addr×Obj)}{σ:St}{H:Hp}{s:ae}{a:Addr}{y d:V}{u r:aa}{o:Option V}{A:av}{E:aa->ae->Prop}
theorem G5(hu:A.units+1<cLine)(I:Inv X pins σ H s)(g:DGet H a y o)(ry:RelV y u)(h:∀w' s',Inv X pins σ H s'->RelV (o.getD .non) w'->Q w' s'):
  af (model X.prog X.w) A (call (.builtin "dict.get") [.ref a,u]) Q E s:=by
 rcases g with ⟨kvs,k,e,ey,l⟩|⟨kvs,k,b,e,ey,eb,l⟩
 ·subst ey;obtain⟨z,hd,vs,rel,dd⟩:=zh I.hok e;refine fV eU dd.typeIs gY (gO _ _) (kj (nL X.prog X.w) a (yf ry) hd) ⟨_,dd.mapOf,h _ _ (I.tok _) ?_⟩;rw[l];exact(rel.val k).getD rfl
 ·subst ey;cases (show u=Value.ref b from ry);obtain⟨z,hd,xs,rel,dd⟩:=B5 I.hok e;refine fV eU dd.typeIs gY (gO _ _) (meetsH_dict_get (tupleKind (nL X.prog X.w)) a b hd) ⟨gE hu,k,xs,Bp I.hok eb,dd,h _ _ (I.tok _) ?_⟩;rw[l];exact(rel.val k).getD rfl
end
def MK(td ty:TE):TE:=λσ H Q=>td σ H λx H1=>∃a,x=.ref a/\IsD H1 a/\ty σ H1 λy H2=>∃o,DGet H2 a y o/\Q (o.getD .non) H2
section
variable{X:Cx}{o e f:Expr}{apos cpos:Pos}{td ty tx:TE}
theorem G6(hu:X.A.units+1<cLine)(ho:PE X o td)(he:PE X e ty)(m:M1 X o "get" apos e cpos):PE X (.Call (.Attribute o "get" apos) [e] [] cpos) (MK td ty):=by intro pins s σ H Q I h;refine gQ m.base m.few m.line gS eU j4 (thn (ho pins s σ H _ I h) λu s1 zz=>?_);obtain⟨x,H1,I1,rx,a,ex,d,q1⟩:=zz;subst ex;obtain rfl:u=Value.ref a:=rx;obtain⟨t1,t2,_⟩:=DE I1 d;refine⟨t1,t2,?_⟩;rw[m.trees];refine fC rfl (eh (dJ (thn (he pins s1 σ H1 _ I1 q1) λiv s2 ⟨y,H2,I2,ry,ov,g,q2⟩=>eG ?_)));exact G5 hu I2 g ry λw' s3 I3 rw'=>⟨_,H2,I3,rw',q2⟩
end
end L2
namespace Att
open PySem PySem.W PySem.Calls PyProof.Rows
theorem yS{P:fq}{h:Heap}:∀(ns:List Int) (vs:List aa),WellAll P h vs (ns.map WData.int)->fo vs ns:=by
 intro ns
 induction ns with
 |nil=>intro vs w;rw[c6]at w;cases w;exact .nil
 |cons n ns ih=>
  intro vs w;rw[aK]at w;cases w with
  |cons a b=>cases a;exact .cons _ _ (ih _ b)
variable{l:eZ}
theorem FM{n:Nat}(hn:l.most=some n){P:fq}{h:Heap}{args:List WData}{vals:List aa}
  (hpre:l.row.toRowW.claim.pre args=true) (hwl:WellAll P h vals args):
  ∃a vs ns,vals=[Value.ref a]/\args=[WData.list (ns.map WData.int)]/\h.get? a=some { cls:=.type "list", data:=.seq vs.toArray }/\fo vs ns/\ns.length<=n:=by
 have hsh:WShape.hasAll [] args [.list .int]=true:=(pre_splitW hpre).1;have hc:l.pre.holds [] { args:=args }=true:=(pre_splitW hpre).2;obtain⟨d,r,rfl,h1,h2⟩:=hasAllW_cons hsh;obtain rfl:=hasAllW_nil h2;obtain⟨xs,rfl,h3⟩:=hasW_list h1;obtain⟨ns,rfl⟩:=items_int h3;have hlen:ns.length<=n:=by
  unfold OpenLaw.pre at hc;have h4:(WTm.not (.lt (.lit (.int (n:Int))) (.len (.arg 0)))).holds [] { args:=[.list (ns.map .int)] }=true:=by have h4:=(holds_andW hc).1;rw[hn]at h4;exact h4
  have h5:=condW_of h4 (w_not (w_lt w_lit (w_len_list (w_arg rfl))));rw[ag]at h5;refine jX λq=>?_;have q':(n:Int)<((ns.length:Nat):Int):=by omega
  first
   |(rw[aW q']at h5;exact ak h5 (by decide))
   |(simp at h5;omega)
 cases hwl with
 |cons w1 w2=>
  cases w2;cases w1 with
  |list ho hall=>exact⟨_,_,ns,rfl,rfl,ho,yS ns _ hall,hlen⟩
theorem FN(l:eZ)(args:List WData):l.row.toRowW.claim.post args (.bool true) args=true:=
 postW_of (r:=l.row.toRowW) (X:=(true==true))
  (show lj [] (.bool true) .bool=true by first|rfl|decide|simp[lj,WShape.arms,WShape.armsAll])
  (show (WTm.eq .res (.lit (.bool true))).value [] { args:=args,res:=some (.bool true),after:=args }=some (.bool (true==true)) from w_eq_bool (w_res rfl) w_lit) rfl
theorem attach_call{n:Nat}{q:au}{loose:List Str}{XP:(Str->Option aa)->Heap->Prop}{YP:ao->Heap->Prop}{d:DefRec}
  (hn:l.most=some n) (hdf:d.params.defaults=[])
  (call:∀(w:ao) (s₀ s₁:ae) (mg mb:Str->Option aa) (fa:Addr) (o:Obj) (pm cd doc:aa) (a:Addr) (vs:List aa) (ns:List Int),
   Ground q loose [] XP w s₀ mg mb s₁.heap->YP w s₁.heap->
   s₁.heap.get? fa=some o->o.data=.func (docDef d.name d.params d.body d.scope pm cd doc)->s₁.heap.CodeRec cd d.name->mg d.name=some (.ref fa)->
   s₁.heap.get? a=some { cls:=.type "list", data:=.seq vs.toArray }->fo vs ns->ns.length<=n->s₁.gens=#[]->
   bH (model l.prog w) callerA (.call (.ref fa) ⟨[.ref a],[]⟩) (λr s'=>r=.ok (.ret (.bool true))/\OldK s₁.heap s'.heap/\s'.os=s₁.os/\cD s'.gens) s₁):
  WalkO q loose XP YP l.row.toRowW d [] (λf vs=>iP f vs):=by
 intro w s₀ s₁ mg mb G Y fa o pm cd doc dV kV ho hd hcd hD hmg hg args vals as hpre hlay hrd hwl hlo;obtain rfl:dV=.none:=Dflts.none hD hdf;obtain rfl:kV=.none:=Dflts.noKw hD;obtain⟨a,vs,ns,rfl,rfl,hobj,hints,hlen⟩:=FM hn hpre hwl;refine enter_call (dB (call w s₀ s₁ mg mb fa o pm cd doc a vs ns G Y ho (fd_plain hd) hcd hmg hobj hints hlen hg) λr s' hq=>?_);obtain⟨rfl,h2,h3,h4⟩:=hq;exact⟨.inl ⟨.bool true,.bool true,[],rfl,λ_=>rfl,.bool true,FN l _,λ_=>⟨List.Pairwise.nil,λ_ hm=>(nomatch hm)⟩⟩,h2,h3,h4⟩
end Att
namespace L2
open PySem PySem.Spec PyProof.Rows
theorem Au:∀{vs:List aa} {ns:List Int},fo vs ns->Vals (ns.map V.int) vs
 |_,_,.nil=>.nil
 |_,_,.cons n t h=>.cons ⟨t,rfl⟩ (Au h)
def ML(H:Hp):Prop:=∀b,H b=none\/∃o xs,H b=some (.frz o (.lst xs))
variable{a:Addr}{fd:bj}{x:Str}{sp:Sp}
theorem G7{P:au}{w:ao}{K:aj}{mg mb:Str->Option aa}{CX:CXT}{k:Nat}{fa:Addr}{s₁:ae}{vs:List aa}{ns:List Int}
  (KX:K.In s₁.heap) (hns:s₁.heap.Ns aF mg) (hb:s₁.heap.Ns builtinsNs mb) (hbb:∀x:Str,x≠"__name__" -> mb x=cu x) (hlim:s₁.heap.NoLimit) (hg:s₁.gens=#[])
  (ha:s₁.heap.get? a=some { cls:=.type "list", data:=.seq vs.toArray }) (hi:fo vs ns) (hl:ns.length<=ay) (hr:pd k callerA)
  (F:∀base:Heap,K.In base->base.Ns aF mg->qN P w K mg base CX k fa fd [x] sp) (hbind:∀(s:ae) (u:aa),d7 s fd ⟨[u],[]⟩ [(x,u)])
  (hsp:∀H:Hp,ML H->SqL K H a (ns.map V.int)->sp [.ref a] H (λv _=>v=.bl true) λ_ _ _=>False)
  (hCX:∀H e s',CX [] H s₁ (λ_ _ _=>False) e s'->False):
  bH (model P w) callerA (.call (.ref fa) ⟨[.ref a],[]⟩) (λr s'=>r=.ok (.ret (.bool true))/\OldK s₁.heap s'.heap/\s'.os=s₁.os/\cD s'.gens) s₁:=by
 have rv:=Au hi;have lenV:=hi.length;have core:∀H:Hp,ML H->SqL K H a (ns.map V.int)->HOk P w H s₁.heap->(∀b,H b≠none->b=a)->(H a≠none->K.lookup a=none)->
   bH (model P w) callerA (.call (.ref fa) ⟨[.ref a],[]⟩) (λr s'=>r=.ok (.ret (.bool true))/\OldK s₁.heap s'.heap/\s'.os=s₁.os/\cD s'.gens) s₁:=by
  intro H hO hS hok hA hK;have base_of:∀{b:Addr} {o:Obj},s₁.heap.get? b=some o->H b=none->(Bc s₁.heap H).get? b=some o:=λe n=>Gx e n;have noA:∀{b:Addr} {o:Obj} {es:Array DictEntry} {ep:Nat},s₁.heap.get? b=some o->o.data=.dict es ep->H b=none:=λ{b o es ep} e d=>by
   cases q:H b with
   |none=>rfl
   |some u=>have e':b=a:=hA b (by rw[q];simp);subst e';rw[ha]at e;cases e;have d':Data.seq vs.toArray _=Data.dict es ep:=d;cases d'
  have nsK:∀{b:Addr} {m:Str->Option aa},s₁.heap.Ns b m->(Bc s₁.heap H).Ns b m:=λ{b m} ⟨o,es,ep,e,d,r⟩=>⟨o,es,ep,base_of e (noA e d),d,r⟩;have hKb:K.In (Bc s₁.heap H):=λb o e=>base_of (KX b o e) (by
   cases q:H b with
   |none=>rfl
   |some u=>
    have e':b=a:=hA b (by rw[q];simp);subst e';rw[hK (by rw[q];simp)]at e;cases e)
  have hM:Mod K mg (Bc s₁.heap H):=⟨hKb,nsK hns,⟨mb,nsK hb,hbb⟩,let ⟨mc,h1,h2⟩:=hlim;⟨mc,nsK h1,h2⟩⟩;have e0:DA P w K mg (Bc s₁.heap H) callerA [] s₁ H:=⟨rfl,hM,λb o e=>Ju e,kJ (Fm _ _),trivial,λb hb=>ak (show b∈([]:List Addr) from hb) (by simp),hok,.of_eq hg⟩;refine dB ((F _ hKb (nsK hns)).run callerA [] s₁ H ⟨[.ref a],[]⟩ [.ref a] [.ref a] _ _ hr e0 (hbind s₁ (.ref a)) (.cons rfl .nil) (hsp H hO hS)) λr s' h=>?_;cases r with
  |error e=>exact(hCX H e s' h).elim
  |ok fl=>
   cases fl with
   |next=>exact bE h
   |brk=>exact bE h
   |cont=>exact bE h
   |ret u=>
    obtain⟨v,H',os,bare,un,hok',r',q⟩:=h;have q':v=.bl true:=q;subst q';obtain rfl:u=Value.bool true:=r';refine⟨rfl,OldK.of_keep λb o e=>?_,os,bare⟩;cases q:H b with
    |none=>exact un.keep b o e q (by intro z;exact ak (show b∈([]:List Addr) from z) (by simp)) (by simp)
    |some u=>
     rcases hO b with z|⟨ob,xs,z⟩
     ·rw[q]at z;cases z
     ·have z2:=un.frzs b ob _ z;obtain⟨e1,_⟩:=hok b _ z;obtain⟨e2,_⟩:=hok' b _ z2;rw[e]at e1;cases e1;exact e2
 cases hk:K.lookup a with
 |some o=>have e:=KX a o hk;rw[ha]at e;cases e;refine core (λ_=>none) (λ_=>.inl rfl) (.inr ⟨_,vs.toArray,_,hk,rfl,rfl,rfl,by rw[aL,lenV];exact hl,by simpa using rv⟩) (λb u z=>by have z':(none:Option HO)=some u:=z;cases z') (λb z=>ak rfl z) λz=>ak rfl z
 |none=>
  refine core (λb=>if b=a then some (.frz { cls:=.type "list", data:=.seq vs.toArray } (.lst (ns.map V.int)))else none) (λb=>?_) (.inl (.inr ⟨{ cls:=.type "list", data:=.seq vs.toArray },ah rfl⟩)) (λb u z=>?_) (λb z=>?_) λ_=>hk
  ·by_cases hb:b=a
   ·exact .inr ⟨_,_,ah hb⟩
   ·exact .inl (ai hb)
  ·by_cases hb:b=a
   ·have z':=(ah hb).symm.trans z;cases z';subst hb;exact⟨ha,by rw[ag];exact hl,vs,_,rv,ha⟩
   ·have z':=(ai hb).symm.trans z;cases z'
  ·by_cases hb:b=a
   ·exact hb
   ·exact ak (ai hb) z
theorem JV{l:eZ}{n k:Nat}{q:au}{loose:List Str}{XP:(Str->Option aa)->Heap->Prop}{YP:ao->Heap->Prop}{d:DefRec}{K:fq->aj}{CX:ao->CXT}{sp:ao->Sp}
  (hn:l.most=some n) (hn2:n<=ay) (hdf:d.params.defaults=[]) (hr:pd k callerA)
  (hY:∀(w:ao) (h:Heap),YP w h->(K w.params).In h)
  (F:∀(w:ao) (mg:Str->Option aa) (fa:Addr) (h:Heap),(K w.params).In h->h.Ns aF mg->mg d.name=some (.ref fa)->
   ∃fd:bj,(∀(s:ae) (u:aa),d7 s fd ⟨[u],[]⟩ [(x,u)])/\
    ∀base:Heap,(K w.params).In base->base.Ns aF mg->qN l.prog w (K w.params) mg base (CX w) k fa fd [x] (sp w))
  (hsp:∀(w:ao) (H:Hp) (a:Addr) (ns:List Int),ns.length<=n->ML H->SqL (K w.params) H a (ns.map V.int)->sp w [.ref a] H (λv _=>v=.bl true) λ_ _ _=>False)
  (hCX:∀(w:ao) (H:Hp) (s:ae) (e:aa) (s':ae),CX w [] H s (λ_ _ _=>False) e s'->False):
  W.WalkO q loose XP YP l.row.toRowW d [] (λf vs=>iP f vs):=by
 refine Att.attach_call hn hdf λw s₀ s₁ mg mb fa o pm cd doc a vs ns G Y ho hd hcd hmg hobj hints hlen hg=>?_;have KX:=hY w _ Y;obtain⟨fd,hb,hF⟩:=F w mg fa _ KX G.T.g hmg;exact G7 KX G.T.g G.T.b G.T.builtins G.T.nolimit hg hobj hints (bD hlen hn2) hr hF hb (λH hO hS=>hsp w H a ns hlen hO hS) λH e s'=>hCX w H s₁ e s'
def inClass(s:Stmt)(j:Nat):Stmt:=match s with
 |.ClassDef _ _ _ body _ _ _ _ _ _ _=>body.getD j (.Pass ⟨0,0,0,0⟩)
 |_=>.Pass ⟨0,0,0,0⟩
def qO(s:Stmt):Arguments:=match s with
 |.FunctionDef _ a _ _ _ _ _ _ _ _=>a
 |_=>{ posonlyargs:=[],args:=[],vararg:=none,kwonlyargs:=[],kw_defaults:=[],kwarg:=none,defaults:=[] }
def nV(s:Stmt):List Stmt:=match s with
 |.FunctionDef _ _ b _ _ _ _ _ _ _=>b
 |_=>[]
def nF(s:Stmt):bM:=match s with
 |.FunctionDef _ _ _ _ _ _ sc _ _ _=>sc
 |_=>{ kind:=.function,names:=[],isGenerator:=false,isCoroutine:=false }
abbrev CX0:CXT:=λ_ _ _ _ _ _=>False
abbrev E0:XK:=λ_ _ _=>False
theorem zj{X:Cx}:Passes CX0 X E0:=λ_ _ _ _ _ _ _ h=>h.elim
structure Fun(K:aj)(x qual:Str)(st:Stmt)(f:Addr)(fd:bj):Prop where
 ex:∃(oc:aa) (od:Option Addr) (kV doc pm:aa) (an:Option Addr) (cdv ct:aa) (osl:Array (Option aa)),
  fd=cM x qual (qO st) (nV st) (nF st) .none kV doc pm an cdv ct/\K.lookup f=some ⟨oc,od,.func fd,osl⟩/\d6 K cdv qual=true
 kp:ck K (.ref f)=true
variable{qual:Str}{st:Stmt}{ps:List Str}
section
variable{P:au}{w:ao}{K:aj}{mg:Str->Option aa}{base:Heap}
theorem Fun.ok{f:Addr}{N:List Str}{k:Nat}(F:Fun K x qual st f fd)(S:pP N ps (nF st))(len:∀vs H Q E,sp vs H Q E->vs.length=ps.length)
  (hbody:∀(cdv:aa) (A:av) (outer:List Env) (s:ae) (H:Hp) (vs:List V) (Q:VK) (E:XK),pd k (A.deeper (envOfC qual (nF st) s.heap.objs.size f cdv))->sp vs H Q E->
   ∃t,PSs (Bh CX0 P w K mg base N qual (nF st) f cdv A outer s H E).nox (nV st) t/\t { nx:=λ_ H'=>Q .non H',rt:=Q } (start N vs) H):qN P w K mg base CX0 (k+1) f fd ps sp:=by
 obtain⟨oc,od,kV,doc,pm,an,cdv,ct,osl,rfl,lk,hcd⟩:=F.ex;refine BZ lk hcd S len λA outer s H vs Q E hr hsp=>?_;obtain⟨t,h,q⟩:=hbody cdv A outer s H vs Q E hr hsp;exact⟨t,h.nox,q⟩
theorem Fun.binds{f:Addr}(F:Fun K x qual st f fd)
  (h:∀(kV doc pm:aa) (an:Option Addr) (cdv ct:aa) (us:List aa),us.length=ps.length->bindArgs (cM x qual (qO st) (nV st) (nF st) .none kV doc pm an cdv ct) ⟨us,[]⟩=pure (ps.zip us)):Binds K fd ps []:=by
 obtain⟨oc,od,kV,doc,pm,an,cdv,ct,osl,rfl,lk,hcd⟩:=F.ex;exact .all (h kV doc pm an cdv ct)
end
theorem Eu{A:av}{k:Nat}(hr:pd k A):A.units+1<cLine:=gG (Nat.add_le_add_left (by decide:1<=64) _) hr.units
theorem vH{n:Nat}(h:n<=1000):n<ay:=gG h (by decide)
section
variable{X:Cx}
theorem pv(i:Nat){pos:Pos}(hN:X.N[i]?=some x:=by rfl)(hv:Vis X.env.scope x:=by first|exact Or.inl rfl|exact Or.inr (Or.inl rfl)|exact Or.inr (Or.inr rfl))(hd:(x==("__debug__" : Str))=false:=by decide)
  (hcd:(x==("__classdict__" : Str))=false:=by decide):PE X (.Name x pos) (ue i):=Ma hN hv hd hcd
end
variable{B:Prop}
theorem B9{A:Prop}(h:B):if false=true then A else B:=by rw[ai aT];exact h
theorem Ca{A:Prop}(h:A):if true=true then A else B:=by rw[ah rfl];exact h
def nz(H H':Hp):Prop:=∀b o,H b=some o->H' b=some o
theorem nz.refl(H:Hp):nz H H:=λ_ _ h=>h
theorem nz.trans{H H1 H2:Hp}(a:nz H H1)(b:nz H1 H2):nz H H2:=λc o h=>b c o (a c o h)
theorem nz.seq{K:aj}{H H':Hp}{xs:List V}(e:nz H H')(h:SqL K H a xs):SqL K H' a xs:=by
 rcases h with (h|⟨o,h⟩)|h
 ·exact .inl (.inl (e _ _ h))
 ·exact .inl (.inr ⟨o,e _ _ h⟩)
 ·exact .inr h
end L2
set_option maxHeartbeats 4000000
namespace L3
open PySem PySem.Spec PyProof.Rows L2
abbrev St:=L2.St
theorem zk{α β:Type}{f:α->β->Sem (ForInStep β)}{g:β->α->β}:∀(l:List α) (b:β),(∀x∈l,∀c,f x c=pure (ForInStep.yield (g c x)))->(forIn l b f:Sem β)=pure (l.foldl g b)
 |[],b,_=>by simp
 |x::r,b,h=>by rw[List.forIn_cons,h x aG b];show (forIn r (g b x) f:Sem β)=_;rw[zk r (g b x) λy hy c=>h y (aN _ hy) c];rfl
def uD(cells:List (Str×Addr))(cs:List (Str×Addr))(x:Str×cA):List (Str×Addr):=if (x.2==NameKind.free)=true then (x.1,(cells.lookup x.1).getD 0)::cs else cs
def rP(cells:List (Str×Addr))(names:List (Str×cA)):List (Str×Addr):=names.foldl (uD cells) []
variable{scope:bM}{env:Env}
theorem Ah(h:∀x∈scope.names,x.2=.free->∃c,env.cells.lookup x.1=some c):
  closureFor scope env=pure (rP env.cells scope.names):=by
 simp only[closureFor];rw[zk (g:=uD env.cells) scope.names [] λx hx c=>by
  obtain⟨n,k⟩:=x;by_cases hk:k=.free
  ·subst hk;obtain⟨a,e⟩:=h _ hx rfl;have e':env.cells.lookup n=some a:=e;simp only[uD,cellOf,e',beq_self_eq_true,if_true,jY];rfl
  ·have hb:(k==NameKind.free)=false:=by simpa using hk
   simp only[uD,hb,eD,if_false]]
 rfl
theorem Cb{cells:List (Str×Addr)}:∀(names:List (Str×cA)) (acc:List (Str×Addr)),(∀x∈names,x.2=.free->∃c,cells.lookup x.1=some c)->(∀x c,acc.lookup x=some c->cells.lookup x=some c)->
  ∀x c,(names.foldl (uD cells) acc).lookup x=some c->cells.lookup x=some c
 |[],acc,_,ha,x,c,e=>ha x c e
 |y::r,acc,h,ha,x,c,e=>by
  refine Cb r (uD cells acc y) (λz hz=>h z (aN _ hz)) (λz d ez=>?_) x c e;obtain⟨n,k⟩:=y;unfold uD at ez;split at ez
  ·rename_i hk;obtain⟨a,ea⟩:=h (n,k) aG (by simpa using hk);have ea':cells.lookup n=some a:=ea;rw[cQ]at ez;cases hb:z==n with
   |true=>rw[hb]at ez;have ez':some ((cells.lookup n).getD 0)=some d:=ez;rw[ea']at ez';rw[eY hb,ea'];exact ez'
   |false=>rw[hb]at ez;exact ha z d ez
  ·exact ha z d ez
theorem Av{cells:List (Str×Addr)}:∀(names:List (Str×cA)) (acc:List (Str×Addr)) (x:Str),(∃c,acc.lookup x=some c)->∃c,(names.foldl (uD cells) acc).lookup x=some c
 |[],_,_,h=>h
 |y::r,acc,x,h=>by
  refine Av r (uD cells acc y) x ?_;unfold uD;split
  ·rw[cQ];cases x==y.1 with
   |true=>exact⟨_,rfl⟩
   |false=>exact h
  ·exact h
theorem zl{cells:List (Str×Addr)}:∀(names:List (Str×cA)) (acc:List (Str×Addr)) (x:Str),(x,NameKind.free)∈names->∃c,(names.foldl (uD cells) acc).lookup x=some c
 |[],_,_,h=>by cases h
 |y::r,acc,x,h=>by
  rcases aO.mp h with e|h
  ·subst e;refine Av r _ x ?_;unfold uD;rw[ah (by simp),cQ];simp
  ·exact zl r _ x h
theorem uf{env:Env}(x:Str):∀(names:List (Str×cA)),
  (names.map λ(n,k)=>if (k==NameKind.free&&env.scope.kind==.function&&env.kindOf n==some .cell)then (n,NameKind.cell)else (n,k)).lookup x=
   (names.lookup x).map λk=>if (k==NameKind.free&&env.scope.kind==.function&&env.kindOf x==some .cell)=true then NameKind.cell else k
 |[]=>rfl
 |(n,k)::r=>by
  have ih:=uf (env:=env) x r;rw[aK,cQ (k:=n)];show cg x ((if (k==NameKind.free&&env.scope.kind==.function&&env.kindOf n==some .cell)=true then (n,NameKind.cell)else (n,k))::_)=_;cases hx:x==n with
  |true=>
   have e:=eY hx;subst e;split
   ·rename_i hc;simp only[cQ,hx,dr,hc,if_true]
   ·rename_i hc;simp only[cQ,hx,dr];rw[ai hc]
  |false=>
   rw[<-ih];split
   ·simp only[cQ,hx]
   ·simp only[cQ,hx]
variable{x:Str}
theorem DF(hcell:∀y∈scope.names,y.2≠.cell)(h:(relabel scope env).names.lookup x=some .cell\/(relabel scope env).names.lookup x=some .free):(x,NameKind.free)∈scope.names:=by
 have e:=uf (env:=env) x scope.names;have h':(scope.names.lookup x).map (λk=>if (k==NameKind.free&&env.scope.kind==.function&&env.kindOf x==some .cell)=true then NameKind.cell else k)=some .cell\/
   (scope.names.lookup x).map (λk=>if (k==NameKind.free&&env.scope.kind==.function&&env.kindOf x==some .cell)=true then NameKind.cell else k)=some .free:=by
  rw[<-e];exact h
 cases q:scope.names.lookup x with
 |none=>rw[q]at h';rcases h' with z|z<;>cases z
 |some k=>
  rw[q]at h';have hm:=mem_of_lookup q;have hc:=hcell _ hm;cases k with
  |free=>exact hm
  |cell=>exact ak rfl hc
  |_=>rcases h' with z|z<;>cases z
theorem Ai(h:scope.names.lookup x=some .free):(relabel scope env).names.lookup x=some .cell\/(relabel scope env).names.lookup x=some .free:=by
 have e:=uf (env:=env) x scope.names;have e':(relabel scope env).names.lookup x=(scope.names.lookup x).map λk=>if (k==NameKind.free&&env.scope.kind==.function&&env.kindOf x==some .cell)=true then NameKind.cell else k:=e
 rw[e',h,dr];split
 ·exact .inl rfl
 ·exact .inr rfl
def pe(X:Cx)(N':List Str)(scope:bM)(cl:List (Str×Addr))(C:Addr)(fp:List Addr)(s:ae)(H:Hp):Cx:=
 { X with N:=N',s₀:=s,H₀:=H,env:=compEnvC scope cl C X.env,outer:=X.stack,ex:=fp,fn:=λ_=>false,pn:=[],xe:=λ_ _=>False }
def PIf(X:Cx)(ifs:List Expr)(t:TT):Prop:=
 ∀(pins:List (Addr×Obj)) (s:ae) (σ:St) (H:Hp) (Q:Bool->Hp->Prop),Inv X pins σ H s->t σ H Q->
  af (model X.prog X.w) X.A (forIn ifs true λc r=>if r=true then do let ok<-isTrue c X.env (eval c X.env);pure (ForInStep.yield ok)else pure (ForInStep.yield r)) (TP X pins σ Q) X.xe s
def RO:TT:=λ_ H Q=>Q true H
variable{X:Cx}
theorem JW:PIf X [] RO:=λ_ _ _ H _ I h=>wpAny_tests_nil ⟨H,I,h⟩
theorem JX{c:Expr}{t:TT}(h:PT X c t):PIf X [c] t:=λpins s σ H Q I hq=>wpAny_tests_one (h pins s σ H Q I hq)
variable{elt iter:Expr}{ifs:List Expr}{pos:Pos}
section
variable{prog:au}{w:ao}{A:av}{R:cJ->ae->Prop}{s:ae}
theorem Br{target:Expr}{it acc:aa}(J:Nat->ae->Prop)
  (turn:∀n s,J n s->af (model prog w) A (pyNext it) (λr s₁=>match r with
   |none=>R (.ok .next) s₁
   |some v=>af (model prog w) A (dQ target it v) (λ_ s₁'=>af (model prog w) A (assign target env v) (λ_ s₂=>
     af (model prog w) A (forIn ifs true λc r=>if r=true then do let ok<-isTrue c env (eval c env);pure (ForInStep.yield ok)else pure (ForInStep.yield r)) (λok s₃=>
      if ok=true then af (model prog w) A (eval elt env) (λx s₄=>
       af (model prog w) A (call (.builtin "list.append") [acc,x]) (λ_ s₅=>∃m,m<n/\J m s₅) (notedBy (model prog w) A env λe s'=>R (.error e) s') s₄) (notedBy (model prog w) A env λe s'=>R (.error e) s') s₃
      else ∃m,m<n/\J m s₃) (notedBy (model prog w) A env λe s'=>R (.error e) s') s₂) (notedBy (model prog w) A env λe s'=>R (.error e) s') s₁')
      (notedBy (model prog w) A env λe s'=>R (.error e) s') s₁) (notedBy (model prog w) A env λe s'=>R (.error e) s') s)
  (n:Nat) (h:J n s):
  bH (model prog w) A (.compLoop (.ListComp elt [⟨target,iter,ifs,0⟩] scope pos) 0 it acc env) R s:=by
 refine codeAny_loop rfl J (λn s hI=>?_) n h;show af _ A ((compTurn (.ListComp elt [⟨target,iter,ifs,0⟩] scope pos) 0 it acc env).onRaise (λx=>do noteFrame x env;theTreesLotGoes x)) _ _ s;refine wpAny_noted ?_;rw[compTurn_list];refine ar (ie (ar (bh (turn n s hI) (λr s₁ h₁=>?_) λ_ _ h'=>h')));cases r with
 |none=>exact aA h₁
 |some v=>
  refine ar (bh h₁ (λ_ s₁' h₁'=>?_) λ_ _ h'=>h');refine ar (bh h₁' (λ_ s₂ h₂=>ar (bh h₂ (λok s₃ h₃=>?_) λ_ _ h'=>h')) λ_ _ h'=>h');cases ok with
  |false=>exact aA ⟨rfl,h₃⟩
  |true=>exact ar (ar (bh h₃ (λx s₄ h₄=>ar (bh h₄ (λ_ s₅ h₅=>aA (aA ⟨rfl,h₅⟩)) λ_ _ h'=>h')) λ_ _ h'=>h'))
end
def qP(k:Nat)(cap:List Nat)(σ:St):St:=fQ k none++cap.map λj=>(σ[j]?).join
variable{σ:St}{i:Nat}
theorem Aw{k:Nat}{cap:List Nat}{v:V}(h:(qP k cap σ)[i]?=some (some v)):k<=i:=by
 by_cases hi:k<=i
 ·exact hi
 ·unfold qP at h;rw[dg (by rw[bN];omega),fz]at h;split at h<;>cases h
variable{N N':List Str}
theorem FP{k:Nat}{cap:List Nat}{v:V}(hcap:(N'.drop k).map some=cap.map λj=>N[j]?)(hx:N'[i]?=some x)(h:(qP k cap σ)[i]?=some (some v)):
  ∃j:Nat,N[j]?=some x/\σ[j]?=some (some v)/\x∈N'.drop k:=by
 have hi:=Aw h;unfold qP at h;rw[df (by rw[bN];exact hi),bN,aX]at h;have hd:(N'.drop k)[i - k]?=some x:=by rw[cO,show k+(i - k)=i by omega];exact hx
 have e:=aR (λl=>l[i - k]?) hcap;simp only[aX,hd,dr]at e;cases q:cap[i - k]? with
 |none=>rw[q]at h;cases h
 |some j=>
  rw[q]at h e;simp only[dr,jN]at h e;refine⟨j,e.symm,?_,bx hd⟩;cases z:σ[j]? with
  |none=>rw[z]at h;cases h
  |some o=>rw[z]at h;have h':o=some v:=h;rw[h']
def yg(wi:TI)(g:TG)(tt:TT)(te:TE)(k:Nat)(cap:List Nat):TE:=λσ H Q=>wi σ H λJ H1=>∀p,H1 p=none->
 ∃W:Nat->Nat->List V->Hp->Prop,(∃m,W 0 m [] (upd H1 p (.lst [])))/\∀i m acc H2,W i m acc H2->
  (J.stop i H2/\Q (.ref p) H2)\/
   (J.go i H2/\∀x H3,J.yld i H2 x H3->g x (qP k cap σ) H3 λσ4 H4=>σ4.drop k=(qP k cap σ).drop k/\tt σ4 H4 λb H5=>
    if b=true then te σ4 H5 λy H6=>∃acc',H6 p=some (.lst acc')/\acc'.length<ay/\∃m',m'<m/\W (i+1) m' (acc'++[y]) (upd H6 p (.lst (acc'++[y])))
    else ∃m',m'<m/\W (i+1) m' acc H5)
variable{tg:Expr}{wi:TI}{tt:TT}{te:TE}
theorem Ax{pins:List (Addr×Obj)}{s:ae}{H:Hp}{use:Option (aa->Sem Unit)}{P:aa->ae->Prop}{Q:V->Hp->Prop}{k:Nat}{cap:List Nat}{g:TG}
  (hc:X.calm=true) (hi:PI X tg iter wi)
  (body:∀(cl:List (Str×Addr)) (C:Addr) (fp:List Addr) (s:ae) (H:Hp),PG (pe X N' scope cl C fp s H) tg g/\PIf (pe X N' scope cl C fp s H) ifs tt/\PE (pe X N' scope cl C fp s H) elt te)
  (hkind:scope.kind=.function) (hcell:(scope.names.all λy=>y.2 != .cell)=true)
  (hloc:(scope.names.all λy=>y.2 != .local||scope.names.lookup y.1==some .local)=true)
  (hfree:(scope.names.all λy=>y.2 != .free||(X.env.kindOf y.1==some .cell||X.env.kindOf y.1==some .free))=true)
  (hlen:N'.length=k+cap.length) (hcap:(N'.drop k).map some=cap.map λj=>X.N[j]?)
  (hcf:((N'.drop k).all λx=>scope.names.lookup x==some .free)=true)
  (hs:∀x,eF iter X.env x=pure x)
  (I:Inv X pins σ H s) (h:yg wi g tt te k cap σ H Q)
  (fin:∀a C m u s4 H3,s4.heap.Ns C m->Inv X pins σ H3 s4->Be X pins H3 C->Q (.ref a) H3->compPost (model X.prog X.w) X.A X.xe use P (.ref a) C (.ok u) s4):
  af (model X.prog X.w) X.A (comprehension (.ListComp elt [⟨tg,iter,ifs,0⟩] scope pos) scope X.env (firstIterPos [⟨tg,iter,ifs,0⟩] pos) (newList []) false (eval iter X.env) use) P X.xe s:=by
 have hcell':∀y∈scope.names,y.2≠.cell:=λy hy e=>by have z:=aB.mp hcell y hy;rw[e]at z;exact ak z (by decide)
 have hloc':∀y∈scope.names,y.2=.local->scope.names.lookup y.1=some .local:=λy hy e=>by have z:=aB.mp hloc y hy;rw[e]at z;simpa using z
 have hfree':∀y∈scope.names,y.2=.free->X.env.kindOf y.1=some .cell\/X.env.kindOf y.1=some .free:=λy hy e=>by have z:=aB.mp hfree y hy;rw[e]at z;simpa using z
 have hcl:∀y∈scope.names,y.2=.free->∃c,X.env.cells.lookup y.1=some c:=λy hy e=>I.ok.has y.1 (hfree' y hy e);refine wpAny_comprehension_free rfl hs (Ah hcl) hkind hloc' (thn (hi pins s σ H _ I h) λxv s₁ h₁=>thn h₁ λit s₂ h₂=>?_);obtain⟨ita,fp,tn,J,H2,e,I2,T,st2,f2,R2⟩:=h₂;subst e;obtain⟨W,⟨m0,w0⟩,turn⟩:=R2 s₂.heap.objs.size (I2.hok.fresh (aE _));refine wpAny_newObj_type (wpAny_newFunctionEnv hcell' (by intro y hy;simp at hy) (λh₁ hns₁ hsb₁=>?_) hkind);dsimp only at hns₁ hsb₁ ⊢;generalize hp:s₂.heap.push { cls:=.type "list", dict:=none,data:=.seq ([]:List aa).toArray }=hpL at hns₁ hsb₁ ⊢;have hsz:hpL.objs.size=s₂.heap.objs.size+1:=by rw[<-hp,dv]
 have I3:Inv X pins σ (upd H2 s₂.heap.objs.size (.lst [])) { s₂ with heap:=hpL }:=by rw[<-hp];exact I2.laid (t':=s₂.toks) (λb u e=>aJ _ e) (aE _) ⟨cw _,[],0,.nil,bf _ rfl⟩
 have old:∀b o,hpL.get? b=some o->h₁.get? b=some o:=λb o e=>hsb₁.extBut b o (aP (aH e)) (aJ _ e);have older:∀b o,s₂.heap.get? b=some o->hpL.get? b=some o:=λb o e=>by rw[<-hp];exact aJ _ e
 have hfpS:∀b∈fp,b<s₂.heap.objs.size:=λb hb=>let ⟨o,e,_⟩:=T.obj _ _ st2 b hb;aH e;have sub:∀x c,(rP X.env.cells scope.names).lookup x=some c->X.env.cells.lookup x=some c:=Cb scope.names [] hcl (λx c e=>by cases e);have ok':(pe X N' scope (rP X.env.cells scope.names) hpL.objs.size fp { s₂ with heap:=hpL } (upd H2 s₂.heap.objs.size (.lst []))).Ok:={
  mod:=I3.ok.mod
  kind:=hkind
  glob:=I3.ok.glob
  blt:=I3.ok.blt
  above:=aE _
  inj:=λx y c h1 h2=>I3.ok.inj x y c (sub x c h1) (sub y c h2)
  has:=λx hx=>zl scope.names [] x (DF hcell' hx)
  cab:=λx c hf _=>ak (show false=true from hf) aT
  hd:=I3.ok.hd
  frames:=I3.ok.frames
  stk:=.inl rfl
  exf:=λb hb=>⟨(by
   show b≠hpL.objs.size;rw[hsz];exact aP (dh (hfpS b hb))),λx c e=>(f2 b hb).2.2.2.2.1 x c (sub x c e)⟩
  bs:=I3.bs
  bsz:=bD I3.ok.bsz I3.sz
  noex:=λb o e hb=>by
   rcases(f2 b hb).2.2.2.1 with z|z
   ·exact I3.ok.noex b o e z
   ·exact ak (bB (aH e) (bD I3.ok.bsz z)) (dw _)
  exfs:=λb hb z=>(aO.mp (I3.stkSub b z)).elim (f2 b hb).2.1 (f2 b hb).2.2.1
  funs:=I3.stack
  frf:=I3.stkFree }
 have IX:Inv (pe X N' scope (rP X.env.cells scope.names) hpL.objs.size fp { s₂ with heap:=hpL } (upd H2 s₂.heap.objs.size (.lst []))) [] (qP k cap σ) (upd H2 s₂.heap.objs.size (.lst []))
   { s₂ with heap:=h₁,toks:=s₂.toks+([]:List (Str×aa)).length }:={
  ok:=ok'
  os:=rfl
  bare:=I3.bare
  base:=Un.kept old
  loc:=⟨_,hns₁,λi x v e1 e2 _=>by
   obtain⟨j,hj,hσ,hm⟩:=FP hcap e1 e2;have hx:scope.names.lookup x=some .free:=by simpa using aB.mp hcf x hm
   have hk:=hfree' (x,.free) (mem_of_lookup hx) rfl;obtain⟨m,hn,hl⟩:=I3.loc;obtain⟨u,r,lk⟩:=hl j x v hj hσ (hk.elim (λz=>.inr (.inl z)) λz=>.inr (.inr z));refine⟨u,r,.inr ⟨Ai hx,?_⟩⟩;rcases lk with ⟨z,_⟩|⟨_,c,e,o,ho,hd⟩
   ·rcases hk with y|y
    ·rw[y]at z;cases z
    ·rw[y]at z;cases z
   ·obtain⟨c',e'⟩:=zl (cells:=X.env.cells) scope.names [] x (mem_of_lookup hx);have ec:=sub x c' e';rw[e]at ec;have ec':c=c':=bK ec;subst ec';exact⟨c,e',o,old _ _ ho,hd⟩⟩
  cell:=λx c e=>by obtain⟨v,o,ho,hd⟩:=I3.cell x c (sub x c e);exact⟨v,o,old _ _ ho,hd⟩
  free:=I3.hok.fresh (aE _)
  freeC:=λx c e=>I3.freeC x c (sub x c e)
  pin:=λp hp=>ak (show p∈([]:List (Addr×Obj)) from hp) (by simp)
  hok:=I3.hok.kept old
  len:=by
   show (qP k cap σ).length=N'.length;rw[hlen];unfold qP;rw[aC,bN,ag] }
 have stat:∀{H':Hp},(∀b∈fp,H' b=none)->∀b∈fp,Be (pe X N' scope (rP X.env.cells scope.names) hpL.objs.size fp { s₂ with heap:=hpL } (upd H2 s₂.heap.objs.size (.lst []))) [] H' b:=λhn b hb=>⟨hn b hb,(ok'.exf b hb).1,ok'.exfs b hb,.inl hb,(ok'.exf b hb).2,λp hp=>ak (show p∈([]:List (Addr×Obj)) from hp) (by simp)⟩
 have st4:tn 0 h₁:=T.keep _ _ _ st2 λb _ o e=>old b o (older b o e);have loop:bH (model X.prog X.w) X.A (.compLoop (.ListComp elt [⟨tg,iter,ifs,0⟩] scope pos) 0 (.ref ita) (.ref s₂.heap.objs.size) (compEnvC scope (rP X.env.cells scope.names) hpL.objs.size X.env))
   (compPost (model X.prog X.w) X.A X.xe use P (.ref s₂.heap.objs.size) hpL.objs.size) { s₂ with heap:=h₁,toks:=s₂.toks+([]:List (Str×aa)).length }:=by
  refine Br (λn s'=>∃i acc H',Inv (pe X N' scope (rP X.env.cells scope.names) hpL.objs.size fp { s₂ with heap:=hpL } (upd H2 s₂.heap.objs.size (.lst []))) [] (qP k cap σ) H' s'/\tn i s'.heap/\(∀b∈fp,H' b=none)/\W i n acc H')
   ?_ m0 ⟨0,[],_,IX,st4,λb hb=>?_,w0⟩
  ·rintro n s3 ⟨i,acc,H3,I4,st3,fr3,w3⟩;rcases turn i n acc H3 w3 with ⟨stop,qn⟩|⟨go,step⟩
   ·refine thn (T.done (pe X N' scope (rP X.env.cells scope.names) hpL.objs.size fp { s₂ with heap:=hpL } (upd H2 s₂.heap.objs.size (.lst []))) rfl rfl rfl hc i [] s3 _ H3 _ I4 (stat fr3) st3 stop) λr s4 zz=>?_;obtain⟨hr,I5⟩:=zz;subst hr;obtain⟨m,hn,_⟩:=id I5.loc;have U:=I5.base;refine fin _ _ m _ _ _ hn (I3.call' (s':=s4) (ch:=fp) I5.os ⟨λb o e n hb hx=>U.keep b o e n hb hx,λb o e n hb hx=>U.slot b o e n hb hx,U.free,λb o e hx=>U.there b o e hx,U.tups,U.frzs,U.tbls⟩ I5.hok I5.bare
     λb hb=>⟨(f2 b hb).2.2.2.1,(f2 b hb).2.1,(f2 b hb).2.2.2.2.1,(f2 b hb).2.2.2.2.2⟩) (I3.fpOk (aE _) I5.free) qn
   ·refine thn (T.item (pe X N' scope (rP X.env.cells scope.names) hpL.objs.size fp { s₂ with heap:=hpL } (upd H2 s₂.heap.objs.size (.lst []))) rfl rfl rfl hc i [] s3 _ H3 _ I4 (stat fr3) st3 go) λr s4 zz=>?_;obtain⟨u,hr,h4⟩:=zz;subst hr;refine thn h4 λ_ s5 zz=>?_;obtain⟨x,H5,I5,r5,y5,st5,fr5⟩:=zz;have I5':=I5.pinned (stat fr5) (T.obj _ _ st5);have again:∀{H8:Hp} {s8:ae} {σ8:St} {acc8:List V} {m':Nat},Inv (pe X N' scope (rP X.env.cells scope.names) hpL.objs.size fp { s₂ with heap:=hpL } (upd H2 s₂.heap.objs.size (.lst []))) ([]++zc fp s5.heap) σ8 H8 s8->σ8.drop k=(qP k cap σ).drop k->m'<n->W (i+1) m' acc8 H8->
      ∃m,m<n/\∃i acc H',Inv (pe X N' scope (rP X.env.cells scope.names) hpL.objs.size fp { s₂ with heap:=hpL } (upd H2 s₂.heap.objs.size (.lst []))) [] (qP k cap σ) H' s8/\tn i s8.heap/\(∀b∈fp,H' b=none)/\W i m acc H':=λ{H8 s8 σ8 acc8 m'} I8 hd8 hm8 w8=>by
     refine⟨m',hm8,i+1,acc8,H8,I8.unpinned.weak (IX.len.trans I8.len.symm) (λj v e=>?_),T.keep _ _ _ st5 λb hb o e=>(I8.pin (b,o) (aZ _ (aZ _ (sm hb e)))).1,λb hb=>?_,w8⟩
     ·have hj:=Aw e;have q:(σ8.drop k)[j - k]?=((qP k cap σ).drop k)[j - k]?:=by rw[hd8]
      rw[cO,cO,show k+(j - k)=j by omega]at q;rw[q];exact e
     ·obtain⟨o,e,d⟩:=T.obj _ _ st5 b hb;exact(I8.pin (b,o) (aZ _ (aZ _ (sm hb e)))).2.1
    refine bh ((body _ _ _ _ _).1 _ s5 _ H5 x u _ I5' r5 (step x H5 y5)) (λ_ s6 h6=>?_) λ_ _ f=>f.elim;obtain⟨σ6,H6,I6,hd6,q6⟩:=h6;refine bh ((body _ _ _ _ _).2.1 _ s6 σ6 H6 _ I6 q6) (λb s7 h7=>?_) λ_ _ f=>f.elim;obtain⟨H7,I7,q7⟩:=h7;cases b with
    |false=>rw[ai aT]at q7;rw[ai aT];obtain⟨m',hm',w7⟩:=q7;exact again I7 hd6 hm' w7
    |true=>rw[ah rfl]at q7;rw[ah rfl];refine bh ((body _ _ _ _ _).2.2 _ s7 σ6 H7 _ I7 q7) (λyv s8 h8=>?_) λ_ _ f=>f.elim;obtain⟨y,H8,I8,r8,acc',hp8,hl8,m',hm',w8⟩:=h8;refine bh (xK (X:=pe X N' scope (rP X.env.cells scope.names) hpL.objs.size fp { s₂ with heap:=hpL } (upd H2 s₂.heap.objs.size (.lst []))) _ s8 σ6 H8 (.ref s₂.heap.objs.size) [y] (.ref s₂.heap.objs.size) [yv] (λ_ Hx=>Hx=upd H8 s₂.heap.objs.size (.lst (acc'++[y]))) I8 rfl (.cons r8 .nil) ⟨_,acc',y,rfl,rfl,hp8,hl8,rfl⟩) (λ_ s9 h9=>?_) λ_ _ f=>f.elim;obtain⟨_,H9,I9,_,e9⟩:=h9;subst e9;exact again I9 hd6 hm' w8
  ·have z:b≠s₂.heap.objs.size:=aP (hfpS b hb);rw[ny z];exact(f2 b hb).1
 exact codeAny_compStart_list loop (T.self _ 0 _ _ _ st4 loop)
theorem JY{k:Nat}{cap:List Nat}{g:TG}
  (hc:X.calm=true) (hi:PI X tg iter wi)
  (body:∀(cl:List (Str×Addr)) (C:Addr) (fp:List Addr) (s:ae) (H:Hp),PG (pe X N' scope cl C fp s H) tg g/\PIf (pe X N' scope cl C fp s H) ifs tt/\PE (pe X N' scope cl C fp s H) elt te)
  (hkind:scope.kind=.function:=by rfl) (hcell:(scope.names.all λy=>y.2 != .cell)=true:=by rfl)
  (hloc:(scope.names.all λy=>y.2 != .local||scope.names.lookup y.1==some .local)=true:=by rfl)
  (hfree:(scope.names.all λy=>y.2 != .free||(X.env.kindOf y.1==some .cell||X.env.kindOf y.1==some .free))=true:=by rfl)
  (hlen:N'.length=k+cap.length:=by rfl) (hcap:(N'.drop k).map some=cap.map λj=>X.N[j]?:=by rfl)
  (hcf:((N'.drop k).all λx=>scope.names.lookup x==some .free)=true:=by rfl)
  (hs:∀x,eF iter X.env x=pure x:=by intro _;rfl):
  PE X (.ListComp elt [⟨tg,iter,ifs,0⟩] scope pos) (yg wi g tt te k cap):=by
 intro pins s σ H Q I h;exact Ax hc hi body hkind hcell hloc hfree hlen hcap hcf hs I h λa C m u s4 H3 hn back fpC qn=>⟨m,hn,λh' hs'=>⟨.ref a,H3,back.turned (t':=s4.toks) (λb o hb e=>(hs'.2 b hb).trans e) fpC.1 fpC.2.1 fpC.2.2.2.1 fpC.2.2.2.2.1 fpC.2.2.2.2.2,rfl,qn⟩⟩
def Its(x:Str):It:=⟨λi _=>i<x.cps.size,λi H v H'=>H'=H/\∃c,x.cps[i]?=some c/\v=.str ⟨#[c]⟩,λi _=>i=x.cps.size⟩
theorem MN{M:Model}{A:av}{E:aa->ae->Prop}{s:ae}{it:Addr}{c:Str}{t:Tok}{Q:Unit->ae->Prop}(hQ:Q () s):af M A (dQ tg (.ref it) (.str c t)) Q E s:=by unfold dQ;cases tg<;>exact aA hQ
theorem Cd{P:au}{w:ao}{K:aj}(it:Addr)(ty:String)(x:Str)(t:Tok)
  (hW:∀A:av,A.handled=none->Walks P w A it [it] [it] x.cps.size (SignAt x) (λi h=>h.IsStrIter it ty x t i))
  (hS:∀(A:av) (i:Nat) (s:ae) (Q:aa->ae->Prop) (E:aa->ae->Prop),s.heap.IsStrIter it ty x t i->Q (.ref it) s->af (model P w) A (pyIter (.ref it)) Q E s):
  Turn P w K tg (Its x) [it] it (λi h=>h.IsStrIter it ty x t i) where
 mem:=by simp
 obj:=λi h st b hb=>by
  have e:b=it:=by simpa using hb
  subst e;obtain⟨o,e,c,d⟩:=st;exact⟨o,e,λv z=>by rw[d]at z;cases z⟩
 keep:=λi h h' st k=>by obtain⟨o,e,r⟩:=st;exact⟨o,k it (by simp) o e,r⟩
 item:=by intro X hP hw hK hc i pins s σ H E I hf st hg;subst hP hw hK;obtain⟨f0,f1,f2,f3,f4,f5⟩:=hf it (by simp);refine(hW _ (I.ok.hd hc)).item i s _ _ hg st λv h' tk hv st' kk=>?_;obtain⟨c,t',hc',rfl⟩:=hv;have I1:Inv X pins σ H { s with heap:=h',toks:=tk }:=I.turned (λb o hb e=>kk b o (by simpa using hb) e) f0 f1 f3 f4 f5;exact⟨_,rfl,MN ⟨.str ⟨#[c]⟩,H,I1,⟨t',rfl⟩,⟨rfl,c,hc',rfl⟩,st',λb hb=>(hf b hb).1⟩⟩
 done:=by intro X hP hw hK hc i pins s σ H E I hf st hg;subst hP hw hK;obtain⟨f0,f1,f2,f3,f4,f5⟩:=hf it (by simp);have hg':i=x.cps.size:=hg;subst hg';exact(hW _ (I.ok.hd hc)).done s _ _ st λh' tk kk=>⟨rfl,I.turned (λb o hb e=>kk b o (by simpa using hb) e) f0 f1 f3 f4 f5⟩
 self:=hS
variable{l:Expr}{tl:TE}
section
variable{X:Cx}{tg:Expr}
def Qh(tl:TE):TI:=λσ H R=>tl σ H λv H1=>∃x,v=.str x/\R (Its x) H1
theorem MO(hl:PE X l tl):PI X tg l (Qh tl):=by
 intro pins s σ H R I h;refine thn (hl pins s σ H _ I h) λv s1 zz=>?_;obtain⟨x,H1,I1,r1,q1⟩:=zz;obtain⟨z,e,q⟩:=q1;subst e;obtain⟨t,rfl⟩:=r1;have fp:∀b∈[s1.heap.objs.size],Be X pins H1 b:=λb hb=>by
  have e:b=s1.heap.objs.size:=by simpa using hb
  subst e;exact I1.fpOk (aE _) (I1.hok.fresh (aE _))
 cases ha:z.cps.all (· < 128)
 ·refine wpAny_pyIter_wide ha ⟨s1.heap.objs.size,[s1.heap.objs.size],_,_,H1,rfl,I1.kept (t':=s1.toks) λb o e=>aJ _ e,Cd _ "str_iterator" z t (λA hA=>Walks.strWide hA _ z t) (λA i s Q E st hQ=>wpAny_pyIter_striter_wide st hQ),⟨_,bf _ rfl,rfl,rfl⟩,fp,q⟩
 ·refine wpAny_pyIter_ascii ha ⟨s1.heap.objs.size,[s1.heap.objs.size],_,_,H1,rfl,I1.kept (t':=s1.toks) λb o e=>aJ _ e,Cd _ "str_ascii_iterator" z t (λA hA=>Walks.strAscii hA _ z t) (λA i s Q E st hQ=>wpAny_pyIter_striter_ascii st hQ),⟨_,bf _ rfl,rfl,rfl⟩,fp,q⟩
end
section
variable{X:Cx}
theorem FQ:OpR X (aM .LtE) (λx y H Q=>∃i j,x=.str i/\y=.str j/\Q (.bl (!decide (j.cps.toList<i.cps.toList))) H):=by intro pins s σ H x y v u Q I rx ry h;obtain⟨i,j,rfl,rfl,q⟩:=h;obtain⟨t,rfl⟩:=rx;obtain⟨t',rfl⟩:=ry;exact PySem.P.le_str (n6 I q rfl)
theorem G8(hc:X.calm=true):pO X (.builtin "all") (λxs H Q=>∃(p:Addr) (bs:List Bool),xs=[.ref p]/\SqL X.K H p (bs.map V.bl)/\Q (.bl (bs.all id)) H):=by
 intro pins s σ H xs us Q I r h;obtain⟨p,bs,rfl,hq,q⟩:=h;obtain⟨u,rfl,ru⟩:=vals1 r;cases ru;obtain⟨its,rv,pl,hz⟩:=I.list hq;have hlt:p<s.heap.objs.size:=by obtain⟨o,ho,_⟩:=pl.isList;exact aH ho
 have hl:bs.length=its.length:=by have:=rv.length;rw[ag]at this;exact this
 refine call_all_walk (eE pl.isList ⟨s.heap.objs.size,_,_,_,_,_,λi=>(bs[i]?).getD true,rfl,f9 (show X.A.in1.handled=none from I.ok.hd hc) _ p (aP hlt) its.toArray,⟨⟨_,bf _ rfl,rfl,rfl⟩,?_⟩,?_,λh' tk hk=>?_⟩)
 ·exact pl.isList.at λo e=>aJ _ e
 ·intro i v s' Q' E' hv hQ';have hv':its[i]?=some v:=by simpa using hv
  have hi:i<its.length:=(bu.mp hv').1;have hb:(bs.map V.bl)[i]?=some (.bl (bs[i]'(by omega))):=by simp[show i<bs.length by omega]
  obtain⟨u,hu,ru⟩:=rv.get hb;rw[hv']at hu;cases hu;cases ru;refine cf ?_;have e:(bs[i]?).getD true=bs[i]'(by omega):=by simp[show i<bs.length by omega]
  rw[<-e];exact hQ'
 ·refine⟨.bl (bs.all id),H,?_,?_,q⟩
  ·exact I.kept (t':=tk) λb o e=>hk b o (by simp;exact aP (aH e)) (aJ _ e)
  ·show Value.bool _=Value.bool _;congr 1;rw[aL,<- hl];rw[cR];simp only[aB,bL,id];constructor
   ·intro hh b hb;obtain⟨i,hi,rfl⟩:=jm.mp hb;have:=hh i hi;simpa [hi]using this
   ·intro hh i hi;simp only[aV hi,jY];exact hh _ (dj hi)
end
inductive Dq where
 |non|bl (b:Bool)|int (i:Int)|str (x:Str)|tup (ds:List Dq)|lst (ds:List Dq)
mutual
def Rep(K:aj)(H:Hp):Dq->V->Prop
 |.non,v=>v=.non
 |.bl b,v=>v=.bl b
 |.int i,v=>v=.int i
 |.str x,v=>v=.str x
 |.tup ds,v=>∃a xs,v=.ref a/\SqT K H a xs/\nt K H ds xs
 |.lst ds,v=>∃a xs,v=.ref a/\SqL K H a xs/\nt K H ds xs
def nt(K:aj)(H:Hp):List Dq->List V->Prop
 |[],xs=>xs=[]
 |d::ds,xs=>∃v r,xs=v::r/\Rep K H d v/\nt K H ds r
end
mutual
def eqD:Dq->Dq->Bool
 |.non,.non=>true
 |.bl a,.bl b=>a==b
 |.bl a,.int b=>(if a then 1 else 0)==b
 |.int a,.bl b=>a==(if b then 1 else 0)
 |.int a,.int b=>a==b
 |.str a,.str b=>a==b
 |.tup a,.tup b=>ug a b
 |.lst a,.lst b=>ug a b
 |_,_=>false
def ug:List Dq->List Dq->Bool
 |[],[]=>true
 |a::r,b::q=>eqD a b&&ug r q
 |_,_=>false
end
mutual
def dpt:Dq->Nat
 |.tup ds=>pY ds+1
 |.lst ds=>pY ds+1
 |_=>0
def pY:List Dq->Nat
 |[]=>0
 |d::r=>max (dpt d) (pY r)
end
mutual
theorem G9:∀d:Dq,eqD d d=true
 |.non=>by unfold eqD;rfl
 |.bl b=>by unfold eqD;simp
 |.int i=>by unfold eqD;simp
 |.str x=>by unfold eqD;simp
 |.tup ds=>by unfold eqD;exact xM ds
 |.lst ds=>by unfold eqD;exact xM ds
theorem xM:∀ds:List Dq,ug ds ds=true
 |[]=>by unfold ug;rfl
 |d::r=>by unfold ug;rw[G9 d,xM r];rfl
end
theorem nu{K:aj}{H:Hp}:∀{ds:List Dq} {xs:List V},nt K H ds xs->ds.length=xs.length
 |[],xs,h=>by unfold nt at h;subst h;rfl
 |d::ds,xs,h=>by unfold nt at h;obtain⟨v,r,rfl,_,h2⟩:=h;rw[aD,aD,nu h2]
def eAt(ds ds':List Dq)(j:Nat):Bool:=match ds[j]?,ds'[j]? with
 |some a,some b=>eqD a b
 |_,_=>true
theorem zm:∀(ds ds':List Dq),ug ds ds'=true ↔ ds.length=ds'.length/\∀j,j<ds.length->eAt ds ds' j=true
 |[],[]=>by simp[ug]
 |[],b::q=>by simp[ug]
 |a::r,[]=>by simp[ug]
 |a::r,b::q=>by
  have ih:=zm r q;unfold ug;rw[az,ih,aD,aD];constructor
  ·rintro⟨h1,h2,h3⟩;refine⟨by omega,λj hj=>?_⟩;cases j with
   |zero=>exact h1
   |succ j=>exact h3 j (by omega)
  ·rintro⟨h1,h2⟩;exact⟨h2 0 (by omega),by omega,λj hj=>h2 (j+1) (by omega)⟩
variable{ds ds':List Dq}
theorem uh{n m:Nat}(hn:ds.length=n)(hm:ds'.length=m):((aS (min n m)).all (eAt ds ds')&&n==m)=ug ds ds':=by
 rw[cR,zm,az,aB];subst hn hm;constructor
 ·rintro⟨h1,h2⟩;have e:ds.length=ds'.length:=by simpa using h2
  exact⟨e,λj hj=>h1 j (bL.mpr (by omega))⟩
 ·rintro⟨e,h⟩;exact⟨λj hj=>h j (by have:=bL.mp hj;omega),by simpa using e⟩
theorem uR{n:Nat}(hn:ds.length=n)(hm:ds'.length=n):(aS n).all (eAt ds ds')=ug ds ds':=by rw[<-uh hn hm];simp
theorem zq(h:ds.length≠ds'.length):ug ds ds'=false:=by
 cases e:ug ds ds' with
 |false=>rfl
 |true=>exact ak ((zm ds ds').mp e).1 h
section
variable{X:Cx}{pins:List (Addr×Obj)}{σ:St}{H:Hp}{s:ae}
theorem LJ(I:Inv X pins σ H s){a:Addr}{xs ys:List V}(h:SqL X.K H a xs)(h':SqT X.K H a ys):False:=by obtain⟨its,_,p,_⟩:=I.list h;obtain⟨its',_,p',_⟩:=I.tuple h';exact SeqAt.ne_of_list_tuple p.isList (show s.heap.IsTuple a its'.toArray from p') rfl
mutual
theorem zr(I:Inv X pins σ H s):∀(d d':Dq) (v:V),Rep X.K H d v->Rep X.K H d' v->eqD d d'=true
 |.non,d',v,h,h'=>by unfold Rep at h;subst h;cases d'<;>unfold Rep at h'<;>first|rfl|(exact nomatch h')|(obtain⟨_,_,e,_⟩:=h';exact nomatch e)
 |.bl b,d',v,h,h'=>by unfold Rep at h;subst h;cases d'<;>unfold Rep at h'<;>first|(obtain⟨_,_,e,_⟩:=h';cases e)|(cases h'<;>simp[eqD])
 |.int b,d',v,h,h'=>by unfold Rep at h;subst h;cases d'<;>unfold Rep at h'<;>first|(obtain⟨_,_,e,_⟩:=h';cases e)|(cases h'<;>simp[eqD])
 |.str b,d',v,h,h'=>by unfold Rep at h;subst h;cases d'<;>unfold Rep at h'<;>first|(obtain⟨_,_,e,_⟩:=h';cases e)|(cases h'<;>simp[eqD])
 |.tup ds,d',v,h,h'=>by
  unfold Rep at h;obtain⟨a,xs,rfl,hq,hr⟩:=h;cases d' with
  |tup ds'=>unfold Rep at h';obtain⟨a',xs',e,hq',hr'⟩:=h';cases e;have ex:=I.tuple_inj hq hq';subst ex;unfold eqD;exact xN I ds ds' xs hr hr'
  |lst ds'=>unfold Rep at h';obtain⟨a',xs',e,hq',hr'⟩:=h';cases e;exact(LJ I hq' hq).elim
  |_=>unfold Rep at h';exact nomatch h'
 |.lst ds,d',v,h,h'=>by
  unfold Rep at h;obtain⟨a,xs,rfl,hq,hr⟩:=h;cases d' with
  |lst ds'=>unfold Rep at h';obtain⟨a',xs',e,hq',hr'⟩:=h';cases e;have ex:=I.list_inj hq hq';subst ex;unfold eqD;exact xN I ds ds' xs hr hr'
  |tup ds'=>unfold Rep at h';obtain⟨a',xs',e,hq',hr'⟩:=h';cases e;exact(LJ I hq hq').elim
  |_=>unfold Rep at h';exact nomatch h'
theorem xN(I:Inv X pins σ H s):∀(ds ds':List Dq) (xs:List V),nt X.K H ds xs->nt X.K H ds' xs->ug ds ds'=true
 |[],ds',xs,h,h'=>by
  unfold nt at h;subst h;cases ds' with
  |nil=>rfl
  |cons d r=>unfold nt at h';obtain⟨_,_,e,_⟩:=h';exact nomatch e
 |d::ds,ds',xs,h,h'=>by
  unfold nt at h;obtain⟨v,r,rfl,h1,h2⟩:=h;cases ds' with
  |nil=>unfold nt at h';exact nomatch h'
  |cons d' r'=>unfold nt at h';obtain⟨v',q,e,h1',h2'⟩:=h';cases e;unfold ug;rw[zr I d d' v h1 h1',xN I ds r' r h2 h2'];rfl
end
mutual
theorem MP(I:Inv X pins σ H s):∀(d d':Dq) (x y:V) (u v:aa) (A:av),Rep X.K H d x->Rep X.K H d' y->RelV x u->RelV y v->A.units+dpt d+dpt d'<cLine->f7 A s u v (eqD d d')
 |.tup ds,d',x,y,u,v,A,hx,hy,ru,rv,hu=>by
  unfold Rep at hx;obtain⟨a,xs,rfl,hq,hr⟩:=hx;cases ru;obtain⟨its,rx,p,_⟩:=I.tuple hq;have p:s.heap.IsTuple a its.toArray:=p;cases d' with
  |non=>unfold Rep at hy;subst hy;cases rv;exact l9 p (by omega)
  |bl b=>unfold Rep at hy;subst hy;cases rv;exact ma b p (by omega)
  |int b=>unfold Rep at hy;subst hy;obtain⟨t,rfl⟩:=rv;exact mn b t p (by omega)
  |str b=>unfold Rep at hy;subst hy;obtain⟨t,rfl⟩:=rv;exact mr b t p (by omega)
  |lst ds'=>unfold Rep at hy;obtain⟨b,ys,rfl,hq',hr'⟩:=hy;cases rv;obtain⟨its',ry,p',_⟩:=I.list hq';exact md p p'.isList (by omega)
  |tup ds'=>
   have hy0:=hy;unfold Rep at hy;obtain⟨b,ys,rfl,hq',hr'⟩:=hy;cases rv;obtain⟨its',ry,p',_⟩:=I.tuple hq';have p':s.heap.IsTuple b its'.toArray:=p';by_cases hab:a=b
   ·subst hab;have e:eqD (.tup ds) (.tup ds')=true:=zr I _ _ (.ref a) (by unfold Rep;exact⟨a,xs,rfl,hq,hr⟩) hy0;rw[e];exact hJ _
   ·have hd:dpt (.tup ds)=pY ds+1:=by rw[dpt]
    have hd':dpt (.tup ds')=pY ds'+1:=by rw[dpt]
    have q:=mZ (A:=A) (e:=eAt ds ds') p p' (by omega) λj h1 h2=>by have z:=ui I ds ds' xs ys its its' A.in1 hr hr' rx ry (by show A.units+1+pY ds+pY ds'<cLine;omega) j (by simpa using h1) (by simpa using h2);simpa using z
    rw[uh (by rw[nu hr,rx.length];simp) (by rw[nu hr',ry.length];simp)]at q;exact gH hab (by unfold eqD;exact q)
 |.lst ds,d',x,y,u,v,A,hx,hy,ru,rv,hu=>by
  unfold Rep at hx;obtain⟨a,xs,rfl,hq,hr⟩:=hx;cases ru;obtain⟨its,rx,p,_⟩:=I.list hq;have p:=p.isList;cases d' with
  |non=>unfold Rep at hy;subst hy;cases rv;exact mw p (by omega)
  |bl b=>unfold Rep at hy;subst hy;cases rv;exact mx b p (by omega)
  |int b=>unfold Rep at hy;subst hy;obtain⟨t,rfl⟩:=rv;exact mL b t p (by omega)
  |str b=>unfold Rep at hy;subst hy;obtain⟨t,rfl⟩:=rv;exact mM b t p (by omega)
  |tup ds'=>unfold Rep at hy;obtain⟨b,ys,rfl,hq',hr'⟩:=hy;cases rv;obtain⟨its',ry,p',_⟩:=I.tuple hq';exact mf p (show s.heap.IsTuple b its'.toArray from p') (by omega)
  |lst ds'=>
   have hy0:=hy;unfold Rep at hy;obtain⟨b,ys,rfl,hq',hr'⟩:=hy;cases rv;obtain⟨its',ry,p',_⟩:=I.list hq';have p':=p'.isList;by_cases hab:a=b
   ·subst hab;have e:eqD (.lst ds) (.lst ds')=true:=zr I _ _ (.ref a) (by unfold Rep;exact⟨a,xs,rfl,hq,hr⟩) hy0;rw[e];exact hJ _
   ·have hd:dpt (.lst ds)=pY ds+1:=by rw[dpt]
    have hd':dpt (.lst ds')=pY ds'+1:=by rw[dpt]
    by_cases hl:its.length=its'.length
    ·have q:=m4 (A:=A) (e:=eAt ds ds') p p' (by simpa using hl) (by omega) λj h1 h2=>by have z:=ui I ds ds' xs ys its its' A.in1 hr hr' rx ry (by show A.units+1+pY ds+pY ds'<cLine;omega) j (by simpa using h1) (by simpa using h2);simpa using z
     rw[uR (by rw[nu hr,rx.length];simp) (by rw[nu hr',ry.length,<- hl];simp)]at q;exact gH hab (by unfold eqD;exact q)
    ·have e:eqD (.lst ds) (.lst ds')=false:=by unfold eqD;exact zq (by rw[nu hr,nu hr',rx.length,ry.length];exact hl)
     rw[e];exact gH hab (l7 p p' (by simpa using hl) (by omega))
 |.non,d',x,y,u,v,A,hx,hy,ru,rv,hu=>by
  unfold Rep at hx;subst hx;cases d' with
  |tup ds'=>unfold Rep at hy;obtain⟨b,ys,rfl,hq',hr'⟩:=hy;cases rv;cases ru;obtain⟨its',ry,p',_⟩:=I.tuple hq';exact mh (show s.heap.IsTuple b its'.toArray from p') (by omega)
  |lst ds'=>unfold Rep at hy;obtain⟨b,ys,rfl,hq',hr'⟩:=hy;cases rv;cases ru;obtain⟨its',ry,p',_⟩:=I.list hq';exact mB p'.isList (by omega)
  |_=>unfold Rep at hy;subst hy;exact zf ru rv rfl rfl
 |.bl c,d',x,y,u,v,A,hx,hy,ru,rv,hu=>by
  unfold Rep at hx;subst hx;cases d' with
  |tup ds'=>unfold Rep at hy;obtain⟨b,ys,rfl,hq',hr'⟩:=hy;cases rv;cases ru;obtain⟨its',ry,p',_⟩:=I.tuple hq';exact mi c (show s.heap.IsTuple b its'.toArray from p') (by omega)
  |lst ds'=>unfold Rep at hy;obtain⟨b,ys,rfl,hq',hr'⟩:=hy;cases rv;cases ru;obtain⟨its',ry,p',_⟩:=I.list hq';exact mC c p'.isList (by omega)
  |_=>unfold Rep at hy;subst hy;exact zf ru rv rfl rfl
 |.int c,d',x,y,u,v,A,hx,hy,ru,rv,hu=>by
  unfold Rep at hx;subst hx;cases d' with
  |tup ds'=>unfold Rep at hy;obtain⟨b,ys,rfl,hq',hr'⟩:=hy;cases rv;obtain⟨t,rfl⟩:=ru;obtain⟨its',ry,p',_⟩:=I.tuple hq';exact mD c t (show s.heap.IsTuple b its'.toArray from p') (by omega)
  |lst ds'=>unfold Rep at hy;obtain⟨b,ys,rfl,hq',hr'⟩:=hy;cases rv;obtain⟨t,rfl⟩:=ru;obtain⟨its',ry,p',_⟩:=I.list hq';exact mO c t p'.isList (by omega)
  |_=>unfold Rep at hy;subst hy;exact zf ru rv rfl rfl
 |.str c,d',x,y,u,v,A,hx,hy,ru,rv,hu=>by
  unfold Rep at hx;subst hx;cases d' with
  |tup ds'=>unfold Rep at hy;obtain⟨b,ys,rfl,hq',hr'⟩:=hy;cases rv;obtain⟨t,rfl⟩:=ru;obtain⟨its',ry,p',_⟩:=I.tuple hq';exact mF c t (show s.heap.IsTuple b its'.toArray from p') (by omega)
  |lst ds'=>unfold Rep at hy;obtain⟨b,ys,rfl,hq',hr'⟩:=hy;cases rv;obtain⟨t,rfl⟩:=ru;obtain⟨its',ry,p',_⟩:=I.list hq';exact mP c t p'.isList (by omega)
  |_=>unfold Rep at hy;subst hy;exact zf ru rv rfl rfl
theorem ui(I:Inv X pins σ H s):∀(ds ds':List Dq) (xs ys:List V) (us vs:List aa) (A:av),nt X.K H ds xs->nt X.K H ds' ys->Vals xs us->Vals ys vs->A.units+pY ds+pY ds'<cLine->
  ∀(j:Nat) (h1:j<us.length) (h2:j<vs.length),f7 A s us[j] vs[j] (eAt ds ds' j)
 |[],ds',xs,ys,us,vs,A,hx,hy,ru,rv,hu,j,h1,h2=>by
  have:=nu hx;have:=ru.length;simp only[du]at *
  omega
 |d::ds,[],xs,ys,us,vs,A,hx,hy,ru,rv,hu,j,h1,h2=>by
  have:=nu hy;have:=rv.length;simp only[du]at *
  omega
 |d::ds,d'::ds',xs,ys,us,vs,A,hx,hy,ru,rv,hu,j,h1,h2=>by
  unfold nt at hx hy;obtain⟨x,xr,rfl,hx1,hx2⟩:=hx;obtain⟨y,yr,rfl,hy1,hy2⟩:=hy;have e1:pY (d::ds)=max (dpt d) (pY ds):=by rw[pY]
  have e2:pY (d'::ds')=max (dpt d') (pY ds'):=by rw[pY]
  cases ru with
  |cons r1 r2=>
   cases rv with
   |cons q1 q2=>
    cases j with
    |zero=>exact MP I d d' x y _ _ A hx1 hy1 r1 q1 (by omega)
    |succ j=>exact ui I ds ds' xr yr _ _ A hx2 hy2 r2 q2 (by omega) j (by simpa using h1) (by simpa using h2)
end
def LK:Dq->Dq->Bool
 |.tup _,.tup _=>true
 |.lst _,.lst _=>true
 |_,_=>false
def DG(K:aj)(neg:Bool):R2:=λx y H Q=>∃d d',Rep K H d x/\Rep K H d' y/\LK d d'=true/\dpt d<=20/\dpt d'<=20/\Q (.bl (if neg then !eqD d d' else eqD d d')) H
theorem MQ(hu:X.A.units+64<cLine):OpR X (aM .Eq) (DG X.K false):=by
 intro pins s σ H x y u v Q I ru rv h;obtain⟨d,d',hx,hy,hd,h1,h2,q⟩:=h;cases d with
 |tup ds=>
  cases d' with
  |tup ds'=>
   have hd1:dpt (.tup ds)=pY ds+1:=by rw[dpt]
   have hd2:dpt (.tup ds')=pY ds'+1:=by rw[dpt]
   unfold Rep at hx hy;obtain⟨a,xs,rfl,hq,hr⟩:=hx;obtain⟨b,ys,rfl,hq',hr'⟩:=hy;cases ru;cases rv;obtain⟨its,rx,p,_⟩:=I.tuple hq;obtain⟨its',ry,p',_⟩:=I.tuple hq';refine SeqAt.eq_tupleAt (e:=eAt ds ds') (show s.heap.IsTuple a its.toArray from p) (show s.heap.IsTuple b its'.toArray from p') (by omega) (λj h1 h2=>?_) ?_
   ·have z:=ui I ds ds' xs ys its its' X.A.in1 hr hr' rx ry (by show X.A.units+1+pY ds+pY ds'<cLine;omega) j (by simpa using h1) (by simpa using h2);simpa using z
   ·rw[uh (by rw[nu hr,rx.length];simp) (by rw[nu hr',ry.length];simp)];unfold eqD at q;exact n6 I q rfl
  |_=>exact nomatch hd
 |lst ds=>
  cases d' with
  |lst ds'=>
   have hd1:dpt (.lst ds)=pY ds+1:=by rw[dpt]
   have hd2:dpt (.lst ds')=pY ds'+1:=by rw[dpt]
   unfold Rep at hx hy;obtain⟨a,xs,rfl,hq,hr⟩:=hx;obtain⟨b,ys,rfl,hq',hr'⟩:=hy;cases ru;cases rv;obtain⟨its,rx,p,_⟩:=I.list hq;obtain⟨its',ry,p',_⟩:=I.list hq';by_cases hl:its.length=its'.length
   ·refine SeqAt.eq_listAt (e:=eAt ds ds') p.isList p'.isList (by simpa using hl) (by omega) (λj h1 h2=>?_) ?_
    ·have z:=ui I ds ds' xs ys its its' X.A.in1 hr hr' rx ry (by show X.A.units+1+pY ds+pY ds'<cLine;omega) j (by simpa using h1) (by simpa using h2);simpa using z
    ·rw[uR (by rw[nu hr,rx.length];simp) (by rw[nu hr',ry.length,<- hl];simp)];unfold eqD at q;exact n6 I q rfl
   ·refine i6 p.isList p'.isList (by simpa using hl) (by omega) ?_;have e:ug ds ds'=false:=zq (by rw[nu hr,nu hr',rx.length,ry.length];exact hl);unfold eqD at q;rw[e]at q;exact n6 I q rfl
  |_=>exact nomatch hd
 |_=>exact nomatch hd
theorem MR(hu:X.A.units+64<cLine):OpR X (aM .NotEq) (DG X.K true):=by
 intro pins s σ H x y u v Q I ru rv h;obtain⟨d,d',hx,hy,hd,h1,h2,q⟩:=h;cases d with
 |tup ds=>
  cases d' with
  |tup ds'=>
   have hd1:dpt (.tup ds)=pY ds+1:=by rw[dpt]
   have hd2:dpt (.tup ds')=pY ds'+1:=by rw[dpt]
   unfold Rep at hx hy;obtain⟨a,xs,rfl,hq,hr⟩:=hx;obtain⟨b,ys,rfl,hq',hr'⟩:=hy;cases ru;cases rv;obtain⟨its,rx,p,_⟩:=I.tuple hq;obtain⟨its',ry,p',_⟩:=I.tuple hq';have w:=mQ (A:=X.A) (e:=eAt ds ds') (show s.heap.IsTuple a its.toArray from p) (show s.heap.IsTuple b its'.toArray from p') (by omega) (λj h1 h2=>by
    have z:=ui I ds ds' xs ys its its' X.A.in1 hr hr' rx ry (by show X.A.units+1+pY ds+pY ds'<cLine;omega) j (by simpa using h1) (by simpa using h2);simpa using z)
   rw[uh (by rw[nu hr,rx.length];simp) (by rw[nu hr',ry.length];simp)]at w;unfold eqD at q;exact w X.prog X.w X.xe _ (n6 I q rfl)
  |_=>exact nomatch hd
 |lst ds=>
  cases d' with
  |lst ds'=>
   have hd1:dpt (.lst ds)=pY ds+1:=by rw[dpt]
   have hd2:dpt (.lst ds')=pY ds'+1:=by rw[dpt]
   unfold Rep at hx hy;obtain⟨a,xs,rfl,hq,hr⟩:=hx;obtain⟨b,ys,rfl,hq',hr'⟩:=hy;cases ru;cases rv;obtain⟨its,rx,p,_⟩:=I.list hq;obtain⟨its',ry,p',_⟩:=I.list hq';by_cases hl:its.length=its'.length
   ·have w:=mX (A:=X.A) (e:=eAt ds ds') p.isList p'.isList (by simpa using hl) (by omega) (λj h1 h2=>by
     have z:=ui I ds ds' xs ys its its' X.A.in1 hr hr' rx ry (by show X.A.units+1+pY ds+pY ds'<cLine;omega) j (by simpa using h1) (by simpa using h2);simpa using z)
    rw[uR (by rw[nu hr,rx.length];simp) (by rw[nu hr',ry.length,<- hl];simp)]at w;unfold eqD at q;exact w X.prog X.w X.xe _ (n6 I q rfl)
   ·have e:ug ds ds'=false:=zq (by rw[nu hr,nu hr',rx.length,ry.length];exact hl);unfold eqD at q;rw[e]at q;exact lu p.isList p'.isList (by simpa using hl) (by omega) X.prog X.w X.xe _ (n6 I q rfl)
  |_=>exact nomatch hd
 |_=>exact nomatch hd
end
inductive StrsAre:List Expr->List V->Prop
 |nil:StrsAre [] []
 |cons {x:Str} {j:Nat} {pos:Pos} {es:List Expr} {vs:List V} (h:StrsAre es vs):StrsAre (.Constant (.str x) j pos::es) (.str x::vs)
theorem qB{n:Nat}(h:n<=1000):n<=ay:=fT (vH h)
theorem nz.new{p:Addr}{H H1:Hp}(x:nz H H1)(hp:H1 p=none)(o:HO):nz H (upd H1 p o):=λb u e=>by have z:=x b u e;rw[ny (pH z hp)];exact z
structure FR(K:aj)(x qual:Str)(st:Stmt)(f:Addr)(fd:bj)(T:Addr):Prop where
 ex:∃(oc:aa) (od:Option Addr) (kV doc pm:aa) (an:Option Addr) (cdv ct:aa) (osl:Array (Option aa)),
  fd=cM x qual (qO st) (nV st) (nF st) (.ref T) kV doc pm an cdv ct/\K.lookup f=some ⟨oc,od,.func fd,osl⟩/\d6 K cdv qual=true
 kp:ck K (.ref f)=true
variable{qual:Str}{st:Stmt}{f T:Addr}{fd:bj}{ps:List Str}
section
variable{P:au}{w:ao}{K:aj}{mg:Str->Option aa}{base:Heap}
theorem FR.ok{k:Nat}{sp:Sp}(F:FR K x qual st f fd T)(S:pP N ps (nF st))(len:∀vs H Q E,sp vs H Q E->vs.length=ps.length)
  (hbody:∀(cdv:aa) (A:av) (outer:List Env) (s:ae) (H:Hp) (vs:List V) (Q:VK) (E:XK),pd k (A.deeper (envOfC qual (nF st) s.heap.objs.size f cdv))->sp vs H Q E->
   ∃t,PSs (Bh CX0 P w K mg base N qual (nF st) f cdv A outer s H E).nox (nV st) t/\t { nx:=λ_ H'=>Q .non H',rt:=Q } (L2.start N vs) H):qN P w K mg base CX0 (k+1) f fd ps sp:=by
 obtain⟨oc,od,kV,doc,pm,an,cdv,ct,osl,rfl,lk,hcd⟩:=F.ex;refine BZ lk hcd S len λA outer s H vs Q E hr hsp=>?_;obtain⟨t,h,q⟩:=hbody cdv A outer s H vs Q E hr hsp;exact⟨t,h.nox,q⟩
end
theorem FR.binds{K:aj}{ds:List aa}{o:Obj}{items:Array aa}{n:Nat}(F:FR K x qual st f fd T)(ho:K.lookup T=some o)(hs:o.data=.seq items n)
  (h:∀(kV doc pm:aa) (an:Option Addr) (cdv ct:aa) (us:List aa),us.length=ps.length - ds.length->∃k,bindArgs (cM x qual (qO st) (nV st) (nF st) (.ref T) kV doc pm an cdv ct) ⟨us,[]⟩=seqItems? (.ref T)>>=k/\k (some items)=pure (ps.zip (us++ds))):Binds K fd ps ds:=by
 obtain⟨oc,od,kV,doc,pm,an,cdv,ct,osl,rfl,lk,hcd⟩:=F.ex;intro s us KX hl;obtain⟨k,h1,h2⟩:=h kV doc pm an cdv ct us (by rw[aC]at hl;omega);exact BindsTo.of_defaults (k:=k) rfl (KX _ _ ho) hs h1 h2
section
variable{X:Cx}
theorem DH:OpR X (bW .Mult) (λx y H Q=>∃z n,x=.str z/\y=.int n/\MulOk z n/\Q (.str (iY z n)) H):=by intro pins s σ H x y v u Q I rx ry h;obtain⟨z,n,rfl,rfl,hm,q⟩:=h;obtain⟨t,rfl⟩:=rx;obtain⟨t',rfl⟩:=ry;exact SB.mul hm λt2 k=>⟨.str _,H,I.tok _,⟨t2,rfl⟩,q⟩
end
section
variable{X:Cx}(K:aj)
theorem He(hK:X.K=K:=by rfl):IxR X (JN K):=by subst hK;exact Es
theorem Ce(hl:PE X l tl)(hK:X.K=K:=by rfl):PI X tg l (GK K tl):=by subst hK;exact Jy hl
theorem JZ(hl:PE X l tl)(hK:X.K=K:=by rfl):PI X tg l (Mp K tl):=by subst hK;exact Mq hl
theorem J0{es:List Expr}{k:Nat}{t:TGs}{n:Nat}(hc:X.calm=true)(h:PGs X es t)(hn:(bR es X.env).length=n:=by rfl)(hst:(bR es X.env).findIdx? (·.1)=none:=by rfl)(hK:X.K=K:=by rfl):PG X (.Tuple es k pos) (Ml K n t):=by subst hK;exact Mm hc h hn hst
variable{o e:Expr}{es:List Expr}{to:TE}{t:TA}{name:Str}{apos cpos:Pos}{T id:String}{r:V->List V->Hp->VK->Prop}
theorem Hf(pa:iN T)(slot:Slot T name id)(hty:typeOf (.builtin id)=pure (.type "method_descriptor"))(hm:MtR X id r)(ho:PE X o to)(ha:PA X (e::es) t)
  (hbase:cZ o name X.env (eval o X.env)=eval o X.env:=by rfl)
  (hfew:((aQ cpos (aq (e::es) X.env)).all (λx=>!x.1)&&(backToKw cpos (cy [] X.env)).all (λx=>x.1.isSome)
   && decide ((e::es).length+([]:List de).length+(if ([]:List de).isEmpty then 0 else 1)<30))=true:=by rfl)
  (hline:(apos.endLine==cpos.line)=true:=by rfl) (hs:aq (e::es) X.env=(false,eval e X.env)::aq es X.env:=by rfl) (hplain:(aQ cpos (aq es X.env)).any (·.1)=false:=by rfl) (hK:X.K=K:=by rfl):
  PE X (.Call (.Attribute o name apos) (e::es) [] cpos) (tBM K T r to t):=by subst hK;exact Qd pa slot hty hm ho ha hbase hfew hline hs hplain
end
end L3
namespace L2
open PySem PySem.Spec PyProof.Rows
variable{a:Addr}
section
variable{X:Cx}{pins:List (Addr×Obj)}{σ:St}{H:Hp}{s:ae}
theorem tV{H:Hp}{c:Addr}{u v:HO}(e:H a=some u)(q:H c=some v)(d:u≠v)(n:HO):upd H a n c=some v:=by rw[ny (λz=>by subst z;rw[e]at q;exact d (bK q))];exact q
theorem Inv.freeze{kvs:List (Key×V)}(I:Inv X pins σ H s)(e:H a=some (.dK kvs)):∃o,Inv X pins σ (upd H a (.frz o (.dK kvs))) s:=by
 obtain⟨z,y,vs,r,ob,es,ep,e1,c⟩:=(show oQ X.prog X.w H s.heap a (.dK kvs) from I.hok a _ e);refine⟨ob,?_⟩;have I':=I.step (H':=upd H a (.frz ob (.dK kvs))) (h':=s.heap) (g':=s.gens) (d':=s.drawn) (t':=s.toks) (ch:=[]) (λ_ z=>nomatch z) (λb o _ _ _ q _=>q) (λb o _ _ _ q _=>⟨o.slots,q⟩)
  (λb o _ _ n=>by rw[ny (λz=>by subst z;rw[e]at n;cases n)];exact n) (λb o _ q=>⟨o,q⟩) (λb xs q=>tV e q (λz=>nomatch z) _) (λb o u q=>tV e q (λz=>nomatch z) _)
  (λb ps q=>⟨#[],by rw[tV e q (λz=>nomatch z) _];simp⟩) (λm q=>q) ?_ I.bare
 ·obtain⟨h,g,d,t,os⟩:=s;exact I'
 ·intro b u q;have st:∀{b:Addr} {u:HO},oQ X.prog X.w H s.heap b u->oQ X.prog X.w (upd H a (.frz ob (.dK kvs))) s.heap b u:=λ{b u} x=>x.stay (λ_ _ _ q=>q) (λc q=>tV e q (λz=>nomatch z) _) λc xs q=>tV e q (λz=>nomatch z) _
  by_cases hb:b=a
  ·subst hb;rw[nv]at q;cases q;exact⟨e1,st (I.hok b _ e)⟩
  ·rw[ny hb]at q;exact st (I.hok b u q)
theorem PE.ghost{e:Expr}{t:TE}(h:PE X e t):PE X e (λσ H Q=>t σ H λx H1=>Q x H1\/∃a kvs,H1 a=some (.dK kvs)/\∀o,Q x (upd H1 a (.frz o (.dK kvs)))):=λpins s σ H Q I hq=>
 thn (h pins s σ H _ I hq) λu s1 ⟨x,H1,I1,r1,q1⟩=>by
  rcases q1 with q|⟨a,kvs,e,q⟩
  ·exact⟨x,H1,I1,r1,q⟩
  ·obtain⟨o,I2⟩:=I1.freeze e;exact⟨x,_,I2,r1,q o⟩
end
end L2
namespace L4
open PySem PySem.Spec PyProof.Rows L2 L3
abbrev St:=L2.St
inductive D where
 |non|bl (b:Bool)|int (i:Int)|str (x:Str)
 |tup (ds:List D)|lst (ds:List D)
 |fzl (ds:List D)
 |obj (c:Nat) (ns:List Str) (ds:List D)
 |dic (ks:List Key) (ds:List D)
structure Bg where
 K:aj
 ca:Nat->Addr
mutual
def Rep(G:Bg)(H:Hp):D->V->Prop
 |.non,v=>v=.non
 |.bl b,v=>v=.bl b
 |.int i,v=>v=.int i
 |.str x,v=>v=.str x
 |.tup ds,v=>∃a xs,v=.ref a/\SqT G.K H a xs/\nt G H ds xs
 |.lst ds,v=>∃a xs,v=.ref a/\H a=some (.lst xs)/\nt G H ds xs
 |.fzl ds,v=>∃a xs,v=.ref a/\SqL G.K H a xs/\nt G H ds xs
 |.obj c ns ds,v=>∃a dx xs,v=.ref a/\H a=some (.ins (G.ca c) dx (ns.zip xs))/\ns.length=xs.length/\nt G H ds xs
 |.dic ks ds,v=>∃a o xs,v=.ref a/\H a=some (.frz o (.dK (ks.zip xs)))/\ks.length=xs.length/\nt G H ds xs
def nt(G:Bg)(H:Hp):List D->List V->Prop
 |[],xs=>xs=[]
 |d::ds,xs=>∃v r,xs=v::r/\Rep G H d v/\nt G H ds r
end
variable{H':Hp}{a:Addr}{xs:List V}
theorem SqT.mono{K:aj}{H:Hp}(e:nz H H')(h:SqT K H a xs):SqT K H' a xs:=by
 rcases h with (h|⟨o,h⟩)|h
 ·exact .inl (.inl (e _ _ h))
 ·exact .inl (.inr ⟨o,e _ _ h⟩)
 ·exact .inr h
mutual
theorem Rep.mono{G:Bg}{H H':Hp}(e:nz H H'):∀(d:D) (v:V),Rep G H d v->Rep G H' d v
 |.non,v,h=>by unfold Rep at h ⊢;exact h
 |.bl b,v,h=>by unfold Rep at h ⊢;exact h
 |.int i,v,h=>by unfold Rep at h ⊢;exact h
 |.str x,v,h=>by unfold Rep at h ⊢;exact h
 |.tup ds,v,h=>by unfold Rep at h ⊢;obtain⟨a,xs,rfl,h1,h2⟩:=h;exact⟨a,xs,rfl,SqT.mono e h1,nt.mono e ds xs h2⟩
 |.lst ds,v,h=>by unfold Rep at h ⊢;obtain⟨a,xs,rfl,h1,h2⟩:=h;exact⟨a,xs,rfl,e _ _ h1,nt.mono e ds xs h2⟩
 |.fzl ds,v,h=>by unfold Rep at h ⊢;obtain⟨a,xs,rfl,h1,h2⟩:=h;exact⟨a,xs,rfl,e.seq h1,nt.mono e ds xs h2⟩
 |.obj c ns ds,v,h=>by unfold Rep at h ⊢;obtain⟨a,dx,xs,rfl,h1,h2,h3⟩:=h;exact⟨a,dx,xs,rfl,e _ _ h1,h2,nt.mono e ds xs h3⟩
 |.dic ks ds,v,h=>by unfold Rep at h ⊢;obtain⟨a,o,xs,rfl,h1,h2,h3⟩:=h;exact⟨a,o,xs,rfl,e _ _ h1,h2,nt.mono e ds xs h3⟩
theorem nt.mono{G:Bg}{H H':Hp}(e:nz H H'):∀(ds:List D) (xs:List V),nt G H ds xs->nt G H' ds xs
 |[],xs,h=>by unfold nt at h ⊢;exact h
 |d::ds,xs,h=>by unfold nt at h ⊢;obtain⟨v,r,rfl,h1,h2⟩:=h;exact⟨v,r,rfl,Rep.mono e d v h1,nt.mono e ds r h2⟩
end
variable{d:D}{ds:List D}
section
variable{G:Bg}{H:Hp}
theorem nY:nt G H [] []:=by unfold nt;rfl
theorem oi{v:V}(h:Rep G H d v)(r:nt G H ds xs):nt G H (d::ds) (v::xs):=by unfold nt;exact⟨v,xs,rfl,h,r⟩
theorem nu:∀{ds:List D} {xs:List V},nt G H ds xs->ds.length=xs.length
 |[],xs,h=>by unfold nt at h;subst h;rfl
 |d::ds,xs,h=>by unfold nt at h;obtain⟨v,r,rfl,_,h2⟩:=h;rw[aD,aD,nu h2]
theorem pK:∀{ds es:List D} {xs ys:List V},nt G H ds xs->nt G H es ys->nt G H (ds++es) (xs++ys)
 |[],es,xs,ys,h,h'=>by unfold nt at h;subst h;exact h'
 |d::ds,es,xs,ys,h,h'=>by unfold nt at h;obtain⟨v,r,rfl,h1,h2⟩:=h;exact oi h1 (pK h2 h')
theorem rM:∀{ds:List D} {xs:List V} {i:Nat} {d:D},nt G H ds xs->ds[i]?=some d->∃v,xs[i]?=some v/\Rep G H d v
 |[],xs,i,d,h,e=>by simp at e
 |d'::ds,xs,i,d,h,e=>by
  unfold nt at h;obtain⟨v,r,rfl,h1,h2⟩:=h;cases i with
  |zero=>simp at e;subst e;exact⟨v,rfl,h1⟩
  |succ i=>simpa using rM (i:=i) (d:=d) h2 (by simpa using e)
theorem Cf:∀{ds:List D} {xs:List V} (i:Nat) {d:D} {v:V},nt G H ds xs->Rep G H d v->nt G H (ds.set i d) (xs.set i v)
 |[],xs,i,d,v,h,e=>by unfold nt at h;subst h;exact nY
 |d'::ds,xs,i,d,v,h,e=>by
  unfold nt at h;obtain⟨v',r,rfl,h1,h2⟩:=h;cases i with
  |zero=>exact oi e h2
  |succ i=>exact oi h1 (Cf i h2 e)
theorem Ay:∀{ds:List D} {xs:List V} (n:Nat),nt G H ds xs->nt G H (ds.drop n) (xs.drop n)
 |ds,xs,0,h=>h
 |[],xs,n+1,h=>by unfold nt at h;subst h;exact nY
 |d::ds,xs,n+1,h=>by unfold nt at h;obtain⟨v,r,rfl,h1,h2⟩:=h;exact Ay n h2
theorem AA:∀{ds:List D} {xs:List V} (n:Nat),nt G H ds xs->nt G H (ds.take n) (xs.take n)
 |ds,xs,0,h=>nY
 |[],xs,n+1,h=>by unfold nt at h;subst h;exact nY
 |d::ds,xs,n+1,h=>by unfold nt at h;obtain⟨v,r,rfl,h1,h2⟩:=h;exact oi h1 (AA n h2)
theorem Bs(h:SqT G.K H a xs)(r:nt G H ds xs):Rep G H (.tup ds) (.ref a):=by unfold Rep;exact⟨a,xs,rfl,h,r⟩
theorem uj(h:H a=some (.lst xs))(r:nt G H ds xs):Rep G H (.lst ds) (.ref a):=by unfold Rep;exact⟨a,xs,rfl,h,r⟩
theorem pJ(i:Int):Rep G H (.int i) (.int i):=by unfold Rep;rfl
theorem pZ(i:Bool):Rep G H (.bl i) (.bl i):=by unfold Rep;rfl
theorem vI(i:Str):Rep G H (.str i) (.str i):=by unfold Rep;rfl
theorem sO:Rep G H .non .non:=by unfold Rep;rfl
end
inductive Sl where
 |un
 |im (d:D)
 |ls (ds:List D)
 |pm (ds:List D)
 |dk (ks:List Key) (ds:List D)
 |ob (c:Nat) (ns:List Str) (ds:List D)
def Sl.own:Sl->Bool
 |.ls _=>true
 |.pm _=>true
 |.dk _ _=>true
 |.ob _ _ _=>true
 |_=>false
structure Fr where
 B0:Hp
 B:Hp
 A:List Addr
def wq(G:Bg)(F:Fr)(H0 H:Hp)(o:Option V):Sl->Prop
 |.un=>True
 |.im d=>∃v,o=some v/\Rep G H0 d v
 |.ls ds=>∃a xs,o=some (.ref a)/\H a=some (.lst xs)/\H0 a=none/\F.B a=none/\nt G H0 ds xs
 |.pm ds=>∃a xs,o=some (.ref a)/\H a=some (.lst xs)/\H0 a=none/\a∈F.A/\nt G H0 ds xs
 |.dk ks ds=>∃a xs,o=some (.ref a)/\H a=some (.dK (ks.zip xs))/\H0 a=none/\F.B a=none/\ks.length=xs.length/\nt G H0 ds xs
 |.ob c ns ds=>∃a dx xs,o=some (.ref a)/\H a=some (.ins (G.ca c) dx (ns.zip xs))/\H0 a=none/\a∈F.A/\ns.length=xs.length/\nt G H0 ds xs
structure nG(G:Bg)(F:Fr)(σ:St)(ρ:List Sl)(H0 H:Hp):Prop where
 sub:nz H0 H
 g0:nz F.B0 H0
 keep:∀b o,F.B b=some o->b∉F.A->H b=some o
 fr:∀b o,H0 b=some o->F.B0 b=some o\/F.B b=none
 am:∀a∈F.A,∃o,H a=some o
 len:σ.length=ρ.length
 sl:∀(i:Nat) (s:Sl),ρ[i]?=some s->wq G F H0 H (σ[i]?).join s
 ap:∀(i j:Nat) (s t:Sl) (a:Addr),i≠j->ρ[i]?=some s->ρ[j]?=some t->s.own=true->t.own=true->(σ[i]?).join=some (.ref a)->(σ[j]?).join=some (.ref a)->False
variable{G:Bg}{F:Fr}{H0:Hp}
theorem wq.at{H:Hp}{o:Option V}{s:Sl}(h:wq G F H0 H o s)(e:s.own=true):∃a u,o=some (.ref a)/\H a=some u/\H0 a=none/\(F.B a=none\/a∈F.A):=by
 cases s with
 |un=>cases e
 |im d=>cases e
 |ls ds=>obtain⟨a,xs,h1,h2,h3,h4,_⟩:=h;exact⟨a,_,h1,h2,h3,.inl h4⟩
 |pm ds=>obtain⟨a,xs,h1,h2,h3,h4,_⟩:=h;exact⟨a,_,h1,h2,h3,.inr h4⟩
 |dk ks ds=>obtain⟨a,xs,h1,h2,h3,h4,_⟩:=h;exact⟨a,_,h1,h2,h3,.inl h4⟩
 |ob c ns ds=>obtain⟨a,dx,xs,h1,h2,h3,h4,_⟩:=h;exact⟨a,_,h1,h2,h3,.inr h4⟩
variable{H0':Hp}
theorem wq.grow{H:Hp}{o:Option V}{s:Sl}(h:wq G F H0 H o s)(h0:nz H0 H0')(hk:∀a u,o=some (.ref a)->s.own=true->H a=some u->H' a=some u)
  (hn:∀a u,o=some (.ref a)->s.own=true->H a=some u->H0 a=none->H0' a=none):wq G F H0' H' o s:=by
 cases s with
 |un=>trivial
 |im d=>obtain⟨v,h1,h2⟩:=h;exact⟨v,h1,Rep.mono h0 _ _ h2⟩
 |ls ds=>obtain⟨a,xs,h1,h2,h3,h4,h5⟩:=h;exact⟨a,xs,h1,hk _ _ h1 rfl h2,hn _ _ h1 rfl h2 h3,h4,nt.mono h0 _ _ h5⟩
 |pm ds=>obtain⟨a,xs,h1,h2,h3,h4,h5⟩:=h;exact⟨a,xs,h1,hk _ _ h1 rfl h2,hn _ _ h1 rfl h2 h3,h4,nt.mono h0 _ _ h5⟩
 |dk ks ds=>obtain⟨a,xs,h1,h2,h3,h4,h5,h6⟩:=h;exact⟨a,xs,h1,hk _ _ h1 rfl h2,hn _ _ h1 rfl h2 h3,h4,h5,nt.mono h0 _ _ h6⟩
 |ob c ns ds=>obtain⟨a,dx,xs,h1,h2,h3,h4,h5,h6⟩:=h;exact⟨a,dx,xs,h1,hk _ _ h1 rfl h2,hn _ _ h1 rfl h2 h3,h4,h5,nt.mono h0 _ _ h6⟩
variable{p:Addr}{i j:Nat}
section
variable{G:Bg}{F:Fr}{σ:St}{ρ:List Sl}{H0 H H0' H':Hp}
theorem nG.bNone(R:nG G F σ ρ H0 H){b:Addr}(h:H b=none):F.B b=none:=by
 cases e:F.B b with
 |none=>rfl
 |some o=>
  by_cases ha:b∈F.A
  ·obtain⟨xs,q⟩:=R.am b ha;rw[q]at h;cases h
  ·have q:=R.keep b o e ha;rw[q]at h;cases h
theorem nG.grow(R:nG G F σ ρ H0 H)(hs:nz H H')(h0:nz H0 H0')(sub':nz H0' H')(hf:∀b o,H0' b=some o->H0 b=some o\/H b=none):nG G F σ ρ H0' H' where
 sub:=sub'
 g0:=R.g0.trans h0
 keep:=λb o e n=>hs _ _ (R.keep b o e n)
 fr:=λb o e=>by
  rcases hf b o e with q|q
  ·exact R.fr b o q
  ·exact .inr (R.bNone q)
 am:=λa ha=>let ⟨xs,q⟩:=R.am a ha;⟨xs,hs _ _ q⟩
 len:=R.len
 sl:=λi s e=>(R.sl i s e).grow h0 (λa u _ _ q=>hs _ _ q) λa u _ _ q q0=>by
  cases z:H0' a with
  |none=>rfl
  |some o=>
   rcases hf a o z with y|y
   ·rw[y]at q0;cases q0
   ·rw[y]at q;cases q
 ap:=R.ap
theorem nI{H:Hp}(hp:H p=none)(o:HO):nz H (upd H p o):=nz.new (nz.refl H) hp o
theorem nG.h0none(R:nG G F σ ρ H0 H)(hp:H p=none):H0 p=none:=by
 cases e:H0 p with
 |none=>rfl
 |some o=>have:=R.sub _ _ e;rw[this]at hp;cases hp
theorem Hg{H0 H:Hp}(s:nz H0 H)(p:Addr)(o:HO):nz (upd H0 p o) (upd H p o):=λb u e=>by
 by_cases hb:b=p
 ·subst hb;rw[nv]at e ⊢;exact e
 ·rw[ny hb]at e ⊢;exact s _ _ e
theorem nG.newIm(R:nG G F σ ρ H0 H)(hp:H p=none)(o:HO):nG G F σ ρ (upd H0 p o) (upd H p o):=
 R.grow (nI hp o) (nI (R.h0none hp) o) (Hg R.sub p o) λb u e=>by
  by_cases hb:b=p
  ·subst hb;exact .inr hp
  ·rw[ny hb]at e;exact .inl e
theorem nG.newOwn(R:nG G F σ ρ H0 H)(hp:H p=none)(o:HO):nG G F σ ρ H0 (upd H p o):=
 R.grow (nI hp o) (nz.refl _) (λb u e=>by rw[ny (pH (R.sub _ _ e) hp)];exact R.sub _ _ e) λb u e=>.inl e
def Apart(σ:St)(ρ:List Sl)(p:Addr):Prop:=∀(i:Nat) (s:Sl),ρ[i]?=some s->s.own=true->(σ[i]?).join≠some (.ref p)
theorem nG.apart(R:nG G F σ ρ H0 H)(hp:H p=none):Apart σ ρ p:=λi s e so z=>by obtain⟨a,u,h1,h2,_⟩:=(R.sl i s e).at so;rw[z]at h1;cases h1;rw[hp]at h2;cases h2
theorem nG.freeze(R:nG G F σ ρ H0 H){o:HO}(hp:H p=some o)(h0:H0 p=none)(hb:F.B p=none)(ap:Apart σ ρ p):nG G F σ ρ (upd H0 p o) H where
 sub:=λb u e=>by
  by_cases hb:b=p
  ·subst hb;rw[nv]at e;cases e;exact hp
  ·rw[ny hb]at e;exact R.sub _ _ e
 g0:=R.g0.trans (nI h0 o)
 keep:=R.keep
 fr:=λb u e=>by
  by_cases hb':b=p
  ·subst hb';exact .inr hb
  ·rw[ny hb']at e;exact R.fr _ _ e
 am:=R.am
 len:=R.len
 sl:=λi s e=>(R.sl i s e).grow (nI h0 o) (λa u _ _ q=>q) λa u z so q q0=>by rw[ny (λy=>ap i s e so (by rw[z,y]))];exact q0
 ap:=R.ap
theorem Cg{σ:St}{v:Option V}(hi:i<σ.length):((σ.set i v)[j]?).join=if j=i then v else (σ[j]?).join:=by
 rw[bq];by_cases h:i=j
 ·subst h;simp[hi]
 ·rw[ai h,ai (λz=>h z.symm)]
theorem nG.set(R:nG G F σ ρ H0 H){v:V}{s:Sl}(hs:wq G F H0 H (some v) s)(ap:s.own=true->∀a,v=.ref a->∀(j:Nat) (t:Sl),j≠i->ρ[j]?=some t->t.own=true->(σ[j]?).join≠some (.ref a)):
  nG G F (σ.set i (some v)) (ρ.set i s) H0 H where
 sub:=R.sub
 g0:=R.g0
 keep:=R.keep
 fr:=R.fr
 am:=R.am
 len:=by rw[cH,cH,R.len]
 sl:=λj t e=>by
  rw[bq]at e;by_cases h:i=j
  ·subst h;rw[ah rfl]at e;split at e
   ·rename_i hi;cases e;rw[Cg (by rw[R.len];exact hi),ah rfl];exact hs
   ·cases e
  ·rw[ai h]at e;have hh:=R.sl j t e;rw[bq,ai h];exact hh
 ap:=λj k t u a hjk ej ek tj tk vj vk=>by
  have gen:∀{m:Nat} {x:Sl},(ρ.set i s)[m]?=some x->m≠i->ρ[m]?=some x/\((σ.set i (some v))[m]?).join=(σ[m]?).join:=λ{m x} e hm=>by rw[bq,ai (λz=>hm z.symm)]at e;exact⟨e,by rw[bq,ai (λz=>hm z.symm)]⟩
  have self:∀{x:Sl},(ρ.set i s)[i]?=some x->x=s/\((σ.set i (some v))[i]?).join=some v:=λ{x} e=>by
   rw[bq,ah rfl]at e;split at e
   ·rename_i hi;cases e;exact⟨rfl,by rw[Cg (by rw[R.len];exact hi),ah rfl]⟩
   ·cases e
  by_cases hj:j=i
  ·subst hj;obtain⟨rfl,ev⟩:=self ej;rw[ev]at vj;cases vj;obtain⟨e2,e3⟩:=gen ek (λz=>hjk z.symm);rw[e3]at vk;exact ap tj a rfl k u (λz=>hjk z.symm) e2 tk vk
  ·obtain⟨e2,e3⟩:=gen ej hj;by_cases hk:k=i
   ·subst hk;obtain⟨rfl,ev⟩:=self ek;rw[ev]at vk;cases vk;rw[e3]at vj;exact ap tk a rfl j t hj e2 tj vj
   ·obtain⟨e4,e5⟩:=gen ek hk;rw[e3]at vj;rw[e5]at vk;exact R.ap j k t u a hjk e2 e4 tj tk vj vk
theorem nG.setIm(R:nG G F σ ρ H0 H)(i:Nat){v:V}(h:Rep G H0 d v):nG G F (σ.set i (some v)) (ρ.set i (.im d)) H0 H:=R.set ⟨v,rfl,h⟩ λz=>by cases z
theorem nG.setLs(R:nG G F σ ρ H0 H)(i:Nat)(hp:H p=some (.lst xs))(h0:H0 p=none)(hb:F.B p=none)(ap:Apart σ ρ p)(h:nt G H0 ds xs):nG G F (σ.set i (some (.ref p))) (ρ.set i (.ls ds)) H0 H:=
 R.set ⟨p,xs,rfl,hp,h0,hb,h⟩ λ_ a e j t _ ej tj=>by cases e;exact ap j t ej tj
theorem nG.mut(R:nG G F σ ρ H0 H){s s':Sl}{o:HO}(hi:ρ[i]?=some s)(so:s.own=true)(ha:(σ[i]?).join=some (.ref a))(ok:∀H',H' a=some o->wq G F H0 H' (some (.ref a)) s')
  (so':s'.own=true):nG G F σ (ρ.set i s') H0 (upd H a o):=by
 obtain⟨a',u,e1,e2,e3,e4⟩:=(R.sl i s hi).at so;rw[ha]at e1;cases e1;exact {
  sub:=λb w e=>by rw[ny (λz=>by rw[z,e3]at e;cases e)];exact R.sub _ _ e
  g0:=R.g0
  keep:=λb w e n=>by
   have nb:b≠a:=λz=>by
    subst z;rcases e4 with q|q
    ·rw[q]at e;cases e
    ·exact n q
   rw[ny nb];exact R.keep b w e n
  fr:=R.fr
  am:=λb hb=>by
   by_cases z:b=a
   ·subst z;exact⟨o,nv⟩
   ·rw[ny z];exact R.am b hb
  len:=by rw[cH];exact R.len
  sl:=λj t e=>by
   rw[bq]at e;by_cases h:i=j
   ·subst h;rw[ah rfl]at e;split at e
    ·cases e;rw[ha];exact ok _ nv
    ·cases e
   ·rw[ai h]at e;refine(R.sl j t e).grow (nz.refl _) (λb w z to q=>?_) λb w _ _ _ q=>q;rw[ny (λy=>by subst y;exact R.ap j i t s b (λy=>h y.symm) e hi to so z ha)];exact q
  ap:=λj k t u b hjk ej ek tj tk vj vk=>by
   have gen:∀{m:Nat} {x:Sl},(ρ.set i s')[m]?=some x->∃y,ρ[m]?=some y/\(x.own=true->y.own=true):=λ{m x} e=>by
    rw[bq]at e;by_cases h:i=m
    ·subst h;exact⟨s,hi,λ_=>so⟩
    ·rw[ai h]at e;exact⟨x,e,λq=>q⟩
   obtain⟨y,ey,oy⟩:=gen ej;obtain⟨z,ez,oz⟩:=gen ek;exact R.ap j k y z b hjk ey ez (oy tj) (oz tk) vj vk }
end
abbrev FE:=List Sl->Option (D×List Sl)
abbrev FT:=List Sl->Option (Bool×List Sl)
abbrev FA:=List Sl->Option (List D×List Sl)
def tF(G:Bg)(f:FE):TE:=λσ H Q=>∃F ρ H0 d ρ',nG G F σ ρ H0 H/\f ρ=some (d,ρ')/\∀v H0' H',nz H0 H0'->nG G F σ ρ' H0' H'->Rep G H0' d v->Q v H'
def tFT(G:Bg)(f:FT):TT:=λσ H Q=>∃F ρ H0 d ρ',nG G F σ ρ H0 H/\f ρ=some (d,ρ')/\∀H0' H',nz H0 H0'->nG G F σ ρ' H0' H'->Q d H'
def tFA(G:Bg)(f:FA):TA:=λσ H Q=>∃F ρ H0 ds ρ',nG G F σ ρ H0 H/\f ρ=some (ds,ρ')/\∀xs H0' H',nz H0 H0'->nG G F σ ρ' H0' H'->nt G H0' ds xs->Q xs H'
def tFN(G:Bg)(f:FA):TE:=λσ H Q=>∃F ρ H0 ds ρ',nG G F σ ρ H0 H/\f ρ=some (ds,ρ')/\∀p xs H0' H',nz H0 H0'->nG G F σ ρ' H0' H'->H' p=some (.lst xs)->H0' p=none->F.B p=none->Apart σ ρ' p->nt G H0' ds xs->Q (.ref p) H'
variable{X:Cx}{e:Expr}
theorem PE.weak{t t':TE}(h:PE X e t)(w:∀σ H Q,t' σ H Q->t σ H Q):PE X e t':=λpins s σ H Q I hq=>h pins s σ H Q I (w _ _ _ hq)
theorem PT.weak{t t':TT}(h:PT X e t)(w:∀σ H Q,t' σ H Q->t σ H Q):PT X e t':=λpins s σ H Q I hq=>h pins s σ H Q I (w _ _ _ hq)
theorem PW.weak{t t':TT}(h:PW X e t)(w:∀σ H Q,t' σ H Q->t σ H Q):PW X e t':=λwh pins s σ H Q I hq=>h wh pins s σ H Q I (w _ _ _ hq)
theorem PA.weak{e:List Expr}{t t':TA}(h:PA X e t)(w:∀σ H Q,t' σ H Q->t σ H Q):PA X e t':=λpos pins s σ H Q I hq=>h pos pins s σ H Q I (w _ _ _ hq)
noncomputable def cC(d:D):FE:=λρ=>some (d,ρ)
noncomputable def cV(i:Nat):FE:=λρ=>match ρ[i]? with
 |some (.im d)=>some (d,ρ)
 |_=>none
noncomputable def c1(g:D->Option D) (f:FE):FE:=λρ=>match f ρ with
 |some (d,ρ')=>match g d with
  |some x=>some (x,ρ')
  |none=>none
 |none=>none
noncomputable def c2(g:D->D->Option D) (f f':FE):FE:=λρ=>match f ρ with
 |some (x,ρ1)=>match f' ρ1 with
  |some (y,ρ2)=>match g x y with
   |some z=>some (z,ρ2)
   |none=>none
  |none=>none
 |none=>none
variable{f:FE}{ρ ρ':List Sl}{z:D}
theorem wN{g:D->Option D}(h:c1 g f ρ=some (z,ρ')):∃d,f ρ=some (d,ρ')/\g d=some z:=by
 unfold c1 at h;cases e:f ρ with
 |none=>rw[e]at h;cases h
 |some p=>
  obtain⟨d,ρ1⟩:=p;rw[e]at h;cases e2:g d with
  |none=>simp only[e2]at h;cases h
  |some x=>simp only[e2]at h;cases h;exact⟨d,rfl,e2⟩
variable{f':FE}
theorem wO{g:D->D->Option D}(h:c2 g f f' ρ=some (z,ρ')):∃x y ρ1,f ρ=some (x,ρ1)/\f' ρ1=some (y,ρ')/\g x y=some z:=by
 unfold c2 at h;cases e:f ρ with
 |none=>rw[e]at h;cases h
 |some p=>
  obtain⟨x,ρ1⟩:=p;simp only[e]at h;cases e2:f' ρ1 with
  |none=>simp only[e2]at h;cases h
  |some q=>
   obtain⟨y,ρ2⟩:=q;simp only[e2]at h;cases e3:g x y with
   |none=>simp only[e3]at h;cases h
   |some w=>simp only[e3]at h;cases h;exact⟨x,y,ρ1,rfl,e2,e3⟩
variable{b:Expr}{pos:Pos}{op:dF}{es:List Expr}
section
variable{X:Cx}{G:Bg}
theorem MS{i j pos}:PE X (.Constant (.int i) j pos) (tF G (cC (.int i))):=PE.weak Gy λσ H Q h=>by obtain⟨F,ρ,H0,d,ρ',R,e,k⟩:=h;cases e;exact k _ _ _ (nz.refl _) R (pJ i)
theorem Qi{i j pos}:PE X (.Constant (.bool i) j pos) (tF G (cC (.bl i))):=PE.weak PD λσ H Q h=>by obtain⟨F,ρ,H0,d,ρ',R,e,k⟩:=h;cases e;exact k _ _ _ (nz.refl _) R (pZ i)
theorem MU{i j pos}:PE X (.Constant (.str i) j pos) (tF G (cC (.str i))):=PE.weak GA λσ H Q h=>by obtain⟨F,ρ,H0,d,ρ',R,e,k⟩:=h;cases e;exact k _ _ _ (nz.refl _) R (vI i)
theorem MV{j pos}:PE X (.Constant .none j pos) (tF G (cC .non)):=PE.weak Mb λσ H Q h=>by obtain⟨F,ρ,H0,d,ρ',R,e,k⟩:=h;cases e;exact k _ _ _ (nz.refl _) R sO
theorem J1(h:cV i ρ=some (d,ρ')):ρ[i]?=some (.im d)/\ρ'=ρ:=by
 unfold cV at h;split at h
 ·rename_i e;cases h;exact⟨e,rfl⟩
 ·cases h
theorem qQ{α:Type}{o:Option (Option α)}{v:α}(h:o.join=some v):o=some (some v):=by
 cases o with
 |none=>cases h
 |some u=>cases u with
  |none=>cases h
  |some w=>cases h;rfl
theorem DI(h:PE X e (ue i)):PE X e (tF G (cV i)):=PE.weak h λσ H Q hh=>by obtain⟨F,ρ,H0,d,ρ',R,e,k⟩:=hh;obtain⟨e1,rfl⟩:=J1 e;obtain⟨v,e2,e3⟩:=R.sl i _ e1;exact⟨v,qQ e2,k _ _ _ (nz.refl _) R e3⟩
theorem J2{v:V}(h:PE X e (tC v))(r:∀H,Rep G H d v):PE X e (tF G (cC d)):=PE.weak h λσ H Q hh=>by obtain⟨F,ρ,H0,d',ρ',R,e,k⟩:=hh;cases e;exact k _ _ _ (nz.refl _) R (r _)
def OpD(G:Bg)(r:R2)(g:D->D->Option D):Prop:=∀x y z H0 H v u (Q:VK),g x y=some z->nz H0 H->Rep G H0 x v->Rep G H0 y u->(∀w,(∀H0',nz H0 H0'->Rep G H0' z w)->Q w H)->r v u H Q
theorem Ew{r:R2}{g:D->D->Option D}(ho:OpD G r g):∀σ H Q,tF G (c2 g f f') σ H Q->tOp r (tF G f) (tF G f') σ H Q:=λσ H Q hh=>by obtain⟨F,ρ,H0,d,ρ',R,e,k⟩:=hh;obtain⟨x,y,ρ1,e1,e2,e3⟩:=wO e;refine⟨F,ρ,H0,x,ρ1,R,e1,λv H1 H1' s1 R1 r1=>⟨F,ρ1,H1,y,ρ',R1,e2,λu H2 H2' s2 R2 r2=>?_⟩⟩;exact ho x y d H2 H2' v u Q e3 R2.sub (Rep.mono s2 _ _ r1) r2 λw hw=>k w H2 H2' (s1.trans s2) R2 (hw _ (nz.refl _))
theorem Qj{a:Expr}{op:gf}{r:R2}{g:D->D->Option D}(hr:OpR X (bW op) r)(ho:OpD G r g)(ha:PE X a (tF G f))(hb:PE X b (tF G f')):PE X (.BinOp a op b pos) (tF G (c2 g f f')):=PE.weak (GN hr ha hb) (Ew ho)
theorem MW{a:Expr}{r:R2}{g:D->D->Option D}(hr:OpR X (aM op) r)(ho:OpD G r g)(ha:PE X a (tF G f))(hb:PE X b (tF G f'))(hm:dy op b=false):PE X (.Compare a [op] [b] pos) (tF G (c2 g f f')):=PE.weak (JD hr ha hb hm) (Ew ho)
theorem Qk{a:Expr}{r:R2}{g:D->D->Option D}(hr:IxR X r)(ho:OpD G r g)(ha:PE X a (tF G f))(hb:PE X b (tF G f'))(hs:Er b):PE X (.Subscript a b pos) (tF G (c2 g f f')):=PE.weak (LC hr ha hb hs) (Ew ho)
def cT(f:FE):FT:=λρ=>match f ρ with
 |some (.bl b,ρ')=>some (b,ρ')
 |_=>none
theorem Ex{b:Bool}(h:cT f ρ=some (b,ρ')):f ρ=some (.bl b,ρ'):=by
 unfold cT at h;split at h
 ·rename_i e;cases h;exact e
 ·cases h
theorem Ey:∀σ H Q,tFT G (cT f) σ H Q->GQ (tF G f) σ H Q:=λσ H Q hh=>by obtain⟨F,ρ,H0,d,ρ',R,e,k⟩:=hh;refine⟨F,ρ,H0,_,ρ',R,Ex e,λv H0' H' s R' r=>?_⟩;unfold Rep at r;exact⟨d,r,k _ _ s R'⟩
theorem J3{a:Expr}{r:R2}{g:D->D->Option D}(hr:OpR X (aM op) r)(ho:OpD G r g)(ha:PE X a (tF G f))(hb:PE X b (tF G f'))(hm:dy op b=false):
  PT X (.Compare a [op] [b] pos) (tFT G (cT (c2 g f f'))):=PT.weak (JE hr ha hb hm) λσ H Q hh=>by
 obtain⟨F,ρ,H0,d,ρ',R,e,k⟩:=Ey σ H Q hh;exact Ew ho σ H _ ⟨F,ρ,H0,d,ρ',R,e,k⟩
theorem J4(h:PE X e (tF G f))(he:∀whole,isTrue e X.env whole=(do let v<-whole;standAt e.pos;holding [v] (truthy v)):=by intro _;rfl):PT X e (tFT G (cT f)):=PT.weak (Mc h he) λσ H Q hh=>by obtain⟨F,ρ,H0,d,ρ',R,e,k⟩:=hh;refine⟨F,ρ,H0,_,ρ',R,Ex e,λv H0' H' s R' r=>?_⟩;unfold Rep at r;exact⟨d,r,k _ _ s R'⟩
def px(f:FT):FT:=λρ=>match f ρ with
 |some (b,ρ')=>some (!b,ρ')
 |none=>none
def rp(f g:FT):FT:=λρ=>match f ρ with
 |some (false,ρ')=>g ρ'
 |r=>r
theorem J7{a:Expr}{f:FT}(h:PT X a (tFT G f)):PT X (.UnaryOp .Not a pos) (tFT G (px f)):=PT.weak (Me h) λσ H Q hh=>by
 obtain⟨F,ρ,H0,d,ρ',R,e,k⟩:=hh;unfold px at e;cases e1:f ρ with
 |none=>simp only[e1]at e;cases e
 |some p=>obtain⟨b,ρ1⟩:=p;simp only[e1]at e;cases e;exact⟨F,ρ,H0,b,_,R,e1,λH0' H' s R'=>k _ _ s R'⟩
theorem Ql{f g:FT}:∀σ H Q,tFT G (rp f g) σ H Q->tOr (tFT G f) (tFT G g) σ H Q:=λσ H Q hh=>by
 obtain⟨F,ρ,H0,d,ρ',R,e,k⟩:=hh;unfold rp at e;cases e1:f ρ with
 |none=>simp only[e1]at e;cases e
 |some p=>
  obtain⟨b,ρ1⟩:=p;cases b with
  |false=>simp only[e1]at e;exact⟨F,ρ,H0,false,ρ1,R,e1,λH0' H' s R'=>B9 ⟨F,ρ1,H0',d,ρ',R',e,λH2 H2' s2 R2=>k _ _ (s.trans s2) R2⟩⟩
  |true=>simp only[e1]at e;cases e;exact⟨F,ρ,H0,true,_,R,e1,λH0' H' s R'=>Ca (k _ _ s R')⟩
theorem J8{a:Expr}{f:FT}(h:PT X a (tFT G f)):PW X (.BoolOp .Or [a] pos) (tFT G f):=Md h
theorem Hh{a:Expr}{rest:List Expr}{f g:FT}(ha:PT X a (tFT G f))(hb:PW X (.BoolOp .Or (b::rest) pos) (tFT G g)):PW X (.BoolOp .Or (a::b::rest) pos) (tFT G (rp f g)):=PW.weak (PF ha hb) Ql
def oP(f g:FE):FE:=λρ=>match f ρ with
 |some (.bl true,ρ')=>g ρ'
 |some (.bl false,ρ')=>some (.bl false,ρ')
 |_=>none
def cOr(f g:FE):FE:=λρ=>match f ρ with
 |some (.bl false,ρ')=>g ρ'
 |some (.bl true,ρ')=>some (.bl true,ρ')
 |_=>none
def yT(f:FE):FE:=λρ=>match f ρ with
 |some (.bl b,ρ')=>some (.bl !b,ρ')
 |_=>none
def cIf(c:FT)(f g:FE):FE:=λρ=>match c ρ with
 |some (true,ρ')=>f ρ'
 |some (false,ρ')=>g ρ'
 |none=>none
theorem MX{a:Expr}{op}(h:PE X a (tF G f)):PE X (.BoolOp op [a] pos) (tF G f):=Mg h
theorem Ci:(∃ρ1,f ρ=some (.bl true,ρ1))\/(∃ρ1,f ρ=some (.bl false,ρ1))\/(∀b ρ1,f ρ≠some (.bl b,ρ1)):=by
 by_cases h1:∃ρ1,f ρ=some (.bl true,ρ1)
 ·exact .inl h1
 by_cases h2:∃ρ1,f ρ=some (.bl false,ρ1)
 ·exact .inr (.inl h2)
 refine .inr (.inr λb ρ1 z=>?_);cases b with
 |true=>exact h1 ⟨ρ1,z⟩
 |false=>exact h2 ⟨ρ1,z⟩
theorem FU{g:FE}(h:∀b ρ1,f ρ≠some (.bl b,ρ1)):oP f g ρ=none:=by
 unfold oP;split
 ·rename_i e;exact ak e (h _ _)
 ·rename_i e;exact ak e (h _ _)
 ·rfl
theorem Hk{g:FE}(h:∀b ρ1,f ρ≠some (.bl b,ρ1)):cOr f g ρ=none:=by
 unfold cOr;split
 ·rename_i e;exact ak e (h _ _)
 ·rename_i e;exact ak e (h _ _)
 ·rfl
theorem MY{a:Expr}{rest:List Expr}{g:FE}(ha:PE X a (tF G f))(hb:PE X (.BoolOp .And (b::rest) pos) (tF G g)):PE X (.BoolOp .And (a::b::rest) pos) (tF G (oP f g)):=PE.weak (Mh ha hb) λσ H Q hh=>by
 obtain⟨F,ρ,H0,d,ρ',R,e,k⟩:=hh;rcases Ci (f:=f) (ρ:=ρ)with ⟨ρ1,e1⟩|⟨ρ1,e1⟩|e1
 ·have e':g ρ1=some (d,ρ'):=by unfold oP at e;simp only[e1]at e;exact e
  refine⟨F,ρ,H0,_,ρ1,R,e1,λv H1 H1' s R' r=>?_⟩;unfold Rep at r;refine⟨true,r,?_⟩;exact Ca ⟨F,ρ1,H1,d,ρ',R',e',λv H2 H2' s2 R2 r2=>k _ _ _ (s.trans s2) R2 r2⟩
 ·have e':some (D.bl false,ρ1)=some (d,ρ'):=by unfold oP at e;simp only[e1]at e;exact e
  cases e';refine⟨F,ρ,H0,_,_,R,e1,λv H1 H1' s R' r=>?_⟩;have r':=r;unfold Rep at r';refine⟨false,r',?_⟩;exact B9 (k _ _ _ s R' (pZ false))
 ·rw[FU e1]at e;cases e
theorem Qm{a:Expr}{rest:List Expr}{g:FE}(ha:PE X a (tF G f))(hb:PE X (.BoolOp .Or (b::rest) pos) (tF G g)):PE X (.BoolOp .Or (a::b::rest) pos) (tF G (cOr f g)):=PE.weak (PK ha hb) λσ H Q hh=>by
 obtain⟨F,ρ,H0,d,ρ',R,e,k⟩:=hh;rcases Ci (f:=f) (ρ:=ρ)with ⟨ρ1,e1⟩|⟨ρ1,e1⟩|e1
 ·have e':some (D.bl true,ρ1)=some (d,ρ'):=by unfold cOr at e;simp only[e1]at e;exact e
  cases e';refine⟨F,ρ,H0,_,_,R,e1,λv H1 H1' s R' r=>?_⟩;unfold Rep at r;refine⟨true,r,?_⟩;exact Ca (k _ _ _ s R' (pZ true))
 ·have e':g ρ1=some (d,ρ'):=by unfold cOr at e;simp only[e1]at e;exact e
  refine⟨F,ρ,H0,_,ρ1,R,e1,λv H1 H1' s R' r=>?_⟩;unfold Rep at r;refine⟨false,r,?_⟩;exact B9 ⟨F,ρ1,H1,d,ρ',R',e',λv H2 H2' s2 R2 r2=>k _ _ _ (s.trans s2) R2 r2⟩
 ·rw[Hk e1]at e;cases e
theorem MZ{a:Expr}(ha:PE X a (tF G f)):PE X (.UnaryOp .Not a pos) (tF G (yT f)):=PE.weak (Mi ha) λσ H Q hh=>by
 obtain⟨F,ρ,H0,d,ρ',R,e,k⟩:=hh;unfold yT at e;split at e
 ·rename_i b ρ1 e1;cases e;refine⟨F,ρ,H0,_,_,R,e1,λv H1 H1' s R' r=>?_⟩;unfold Rep at r;exact⟨b,r,k _ _ _ s R' (pZ _)⟩
 ·cases e
theorem Qn{c a:Expr}{h:FT}{g:FE}(hc:PT X c (tFT G h))(ha:PE X a (tF G f))(hb:PE X b (tF G g)):PE X (.IfExp c a b pos) (tF G (cIf h f g)):=PE.weak (GB hc ha hb) λσ H Q hh=>by
 obtain⟨F,ρ,H0,d,ρ',R,e,k⟩:=hh;unfold cIf at e;cases e1:h ρ with
 |none=>simp only[e1]at e;cases e
 |some p=>
  obtain⟨b,ρ1⟩:=p;refine⟨F,ρ,H0,b,ρ1,R,e1,λH1 H1' s R'=>?_⟩;cases b with
  |true=>simp only[e1]at e;exact Ca ⟨F,ρ1,H1,d,ρ',R',e,λv H2 H2' s2 R2 r2=>k _ _ _ (s.trans s2) R2 r2⟩
  |false=>simp only[e1]at e;exact B9 ⟨F,ρ1,H1,d,ρ',R',e,λv H2 H2' s2 R2 r2=>k _ _ _ (s.trans s2) R2 r2⟩
noncomputable def oe:FA:=λρ=>some ([],ρ)
noncomputable def aCons(f:FE) (g:FA):FA:=λρ=>match f ρ with
 |some (d,ρ1)=>match g ρ1 with
  |some (ds,ρ2)=>some (d::ds,ρ2)
  |none=>none
 |none=>none
theorem DJ{g:FA}(h:aCons f g ρ=some (ds,ρ')):∃d r ρ1,f ρ=some (d,ρ1)/\g ρ1=some (r,ρ')/\ds=d::r:=by
 unfold aCons at h;cases e:f ρ with
 |none=>rw[e]at h;cases h
 |some p=>
  obtain⟨x,ρ1⟩:=p;simp only[e]at h;cases e2:g ρ1 with
  |none=>simp only[e2]at h;cases h
  |some q=>obtain⟨y,ρ2⟩:=q;simp only[e2]at h;cases h;exact⟨x,y,ρ1,rfl,e2,rfl⟩
theorem rY:PA X [] (tFA G oe):=PA.weak tu λσ H Q hh=>by obtain⟨F,ρ,H0,d,ρ',R,e,k⟩:=hh;cases e;exact k _ _ _ (nz.refl _) R nY
theorem pT{g:FA}(ha:PE X e (tF G f))(hr:PA X es (tFA G g))(hs:aq (e::es) X.env=(false,eval e X.env)::aq es X.env:=by rfl):PA X (e::es) (tFA G (aCons f g)):=PA.weak (pW ha hr hs) λσ H Q hh=>by obtain⟨F,ρ,H0,d,ρ',R,e,k⟩:=hh;obtain⟨x,r,ρ1,e1,e2,rfl⟩:=DJ e;exact⟨F,ρ,H0,x,ρ1,R,e1,λv H1 H1' s R' rv=>⟨F,ρ1,H1,r,ρ',R',e2,λxs H2 H2' s2 R2 rs=>k _ _ _ (s.trans s2) R2 (oi (Rep.mono s2 _ _ rv) rs)⟩⟩
def nO(g:FA):FE:=λρ=>match g ρ with
 |some (ds,ρ')=>if ds.length<=1000 then some (.tup ds,ρ')else none
 |none=>none
def nH(g:FA):FA:=λρ=>match g ρ with
 |some (ds,ρ')=>if ds.length<=1000 then some (ds,ρ')else none
 |none=>none
theorem M0{x1}{g:FA}(h:PA X es (tFA G g)):PE X (.Tuple es x1 pos) (tF G (nO g)):=PE.weak (GV h) λσ H Q hh=>by
 obtain⟨F,ρ,H0,d,ρ',R,e,k⟩:=hh;unfold nO at e;cases e1:g ρ with
 |none=>simp only[e1]at e;cases e
 |some p=>
  obtain⟨ds,ρ1⟩:=p;simp only[e1]at e;split at e
  ·rename_i hl;cases e;refine⟨F,ρ,H0,_,_,R,e1,λxs H1 H1' s R' rs=>⟨by rw[<-nu rs];exact qB hl,λp hp=>?_⟩⟩;exact k _ _ _ (s.trans (nI (R'.h0none hp) _)) (R'.newIm hp _) (Bs (SqT.of nv) (nt.mono (nI (R'.h0none hp) _) _ _ rs))
  ·cases e
theorem J9{g:FA}(h:PA X es (tFA G g)):PE X (.List es pos) (tFN G (nH g)):=PE.weak (GW h) λσ H Q hh=>by
 obtain⟨F,ρ,H0,d,ρ',R,e,k⟩:=hh;unfold nH at e;cases e1:g ρ with
 |none=>simp only[e1]at e;cases e
 |some p=>
  obtain⟨ds,ρ1⟩:=p;simp only[e1]at e;split at e
  ·rename_i hl;cases e;refine⟨F,ρ,H0,_,_,R,e1,λxs H1 H1' s R' rs=>⟨by rw[<-nu rs];exact qB hl,λp hp=>?_⟩⟩;exact k _ _ _ _ s (R'.newOwn hp _) nv (R'.h0none hp) (R'.bNone hp) (R'.apart hp) rs
  ·cases e
def cL(g:FA):FE:=λρ=>match g ρ with
 |some (ds,ρ')=>some (.lst ds,ρ')
 |none=>none
theorem Ka{g:FA}(h:cL g ρ=some (d,ρ')):∃ds,g ρ=some (ds,ρ')/\d=.lst ds:=by
 unfold cL at h;cases e:g ρ with
 |none=>simp only[e]at h;cases h
 |some p=>obtain⟨ds,ρ1⟩:=p;simp only[e]at h;cases h;exact⟨ds,rfl,rfl⟩
theorem Qo{g:FA}:∀σ H Q,tF G (cL g) σ H Q->tFN G g σ H Q:=λσ H Q hh=>by obtain⟨F,ρ,H0,d,ρ',R,e,k⟩:=hh;obtain⟨ds,e1,rfl⟩:=Ka e;refine⟨F,ρ,H0,ds,ρ',R,e1,λp xs H1 H1' s R' hp h0 hb ap rs=>?_⟩;exact k _ _ _ (s.trans (nI h0 _)) (R'.freeze hp h0 hb ap) (uj nv (nt.mono (nI h0 _) _ _ rs))
theorem M3{g:FA}(h:PE X e (tFN G g)):PE X e (tF G (cL g)):=PE.weak h Qo
end
inductive Out where
 |nx (ρ:List Sl)|bk (ρ:List Sl)|ct (ρ:List Sl)
 |rt (d:D) (ρ:List Sl)
 |rn (ds:List D) (ρ:List Sl)
abbrev FS:=List Sl->Option Out
def EA(G:Bg)(F:Fr)(H0:Hp)(E:Ends):Out->Prop
 |.nx ρ'=>∀σ' H0' H',nz H0 H0'->nG G F σ' ρ' H0' H'->E.nx σ' H'
 |.bk ρ'=>∀σ' H0' H',nz H0 H0'->nG G F σ' ρ' H0' H'->E.bk σ' H'
 |.ct ρ'=>∀σ' H0' H',nz H0 H0'->nG G F σ' ρ' H0' H'->E.ct σ' H'
 |.rt d ρ'=>∀v σ' H0' H',nz H0 H0'->nG G F σ' ρ' H0' H'->Rep G H0' d v->E.rt v H'
 |.rn ds ρ'=>∀p xs σ' H0' H',nz H0 H0'->nG G F σ' ρ' H0' H'->H' p=some (.lst xs)->H0' p=none->F.B p=none->Apart σ' ρ' p->nt G H0' ds xs->E.rt (.ref p) H'
def tFS(G:Bg)(f:FS):TS:=λE σ H=>∃F ρ H0 o,nG G F σ ρ H0 H/\f ρ=some o/\EA G F H0 E o/\(∀p,E.rt p=E.rt p)
variable{H1:Hp}
theorem EA.back{E:Ends}{o:Out}(h:EA G F H0 E o)(s:nz H0 H1):EA G F H1 E o:=by
 cases o with
 |nx ρ=>exact λσ' H0' H' s' R=>h σ' H0' H' (s.trans s') R
 |bk ρ=>exact λσ' H0' H' s' R=>h σ' H0' H' (s.trans s') R
 |ct ρ=>exact λσ' H0' H' s' R=>h σ' H0' H' (s.trans s') R
 |rt d ρ=>exact λv σ' H0' H' s' R=>h v σ' H0' H' (s.trans s') R
 |rn ds ρ=>exact λp xs σ' H0' H' s' R=>h p xs σ' H0' H' (s.trans s') R
theorem PS.weak{e:Stmt}{t t':TS}(h:PS X e t)(w:∀E σ H,t' E σ H->t E σ H):PS X e t':=λpins s σ H D I hq=>h pins s σ H D I (w _ _ _ hq)
theorem PSs.weak{e:List Stmt}{t t':TS}(h:PSs X e t)(w:∀E σ H,t' E σ H->t E σ H):PSs X e t':=λpins s σ H D I hq=>h pins s σ H D I (w _ _ _ hq)
def ou:FS:=λρ=>some (.nx ρ)
noncomputable def ni(f g:FS):FS:=λρ=>match f ρ with
 |some (.nx ρ')=>g ρ'
 |r=>r
variable{σ:St}{st:Stmt}{tg:Expr}{gs:List D->List Sl->Option (List Sl)}{N:List Str}{vs:List V}{np:Nat}
section
variable{X:Cx}{G:Bg}
theorem Hl{E:Ends}{H:Hp}(h:tFS G ou E σ H):E.nx σ H:=by obtain⟨F,ρ,H0,o,R,e,k,_⟩:=h;cases e;exact k _ _ _ (nz.refl _) R
theorem Kb:PSs X [] (tFS G ou):=PSs.weak Eh λE σ H h=>Hl h
theorem Hm{rest:List Stmt}{f g:FS}(h1:PS X st (tFS G f))(h2:PSs X rest (tFS G g)):PSs X (st::rest) (tFS G (ni f g)):=PSs.weak (wI h1 h2) λE σ H h=>by
 obtain⟨F,ρ,H0,o,R,e,k,k2⟩:=h;unfold ni at e;cases e1:f ρ with
 |none=>simp only[e1]at e;cases e
 |some o1=>
  cases o1 with
  |nx ρ1=>simp only[e1]at e;exact⟨F,ρ,H0,_,R,e1,λσ' H0' H' s R'=>⟨F,ρ1,H0',o,R',e,k.back s,k2⟩,k2⟩
  |bk ρ1=>simp only[e1]at e;cases e;exact⟨F,ρ,H0,_,R,e1,k,k2⟩
  |ct ρ1=>simp only[e1]at e;cases e;exact⟨F,ρ,H0,_,R,e1,k,k2⟩
  |rt d ρ1=>simp only[e1]at e;cases e;exact⟨F,ρ,H0,_,R,e1,k,k2⟩
  |rn d ρ1=>simp only[e1]at e;cases e;exact⟨F,ρ,H0,_,R,e1,k,k2⟩
theorem Kc{f:FS}(h1:PS X st (tFS G f)):PSs X [st] (tFS G f):=yY h1
noncomputable def nT(f:FE):FS:=λρ=>match f ρ with
 |some (d,ρ')=>some (.rt d ρ')
 |none=>none
noncomputable def p6(f:FA):FS:=λρ=>match f ρ with
 |some (d,ρ')=>some (.rn d ρ')
 |none=>none
theorem nM{α:Type}{f:List Sl->Option (α×List Sl)}:f ρ=none\/∃d ρ',f ρ=some (d,ρ'):=by
 cases e:f ρ with
 |none=>exact .inl rfl
 |some p=>exact .inr ⟨p.1,p.2,rfl⟩
theorem Ke(h:PE X e (tF G f)):PS X (.Return (some e) pos) (tFS G (nT f)):=PS.weak (Do h) λE σ H hh=>by
 obtain⟨F,ρ,H0,o,R,e,k,k2⟩:=hh;unfold nT at e;rcases nM (f:=f) (ρ:=ρ)with e1|⟨d,ρ',e1⟩<;>simp only[e1]at e
 ·cases e
 ·cases e;exact⟨F,ρ,H0,d,ρ',R,e1,λv H0' H' s R' r=>k _ _ _ _ s R' r⟩
theorem Hn{f:FA}(h:PE X e (tFN G f)):PS X (.Return (some e) pos) (tFS G (p6 f)):=PS.weak (Do h) λE σ H hh=>by
 obtain⟨F,ρ,H0,o,R,e,k,k2⟩:=hh;unfold p6 at e;rcases nM (f:=f) (ρ:=ρ)with e1|⟨d,ρ',e1⟩<;>simp only[e1]at e
 ·cases e
 ·cases e;exact⟨F,ρ,H0,d,ρ',R,e1,λp xs H0' H' s R' h1 h2 h3 h4 h5=>k _ _ _ _ _ s R' h1 h2 h3 h4 h5⟩
noncomputable def pb(f:FE):FS:=λρ=>match f ρ with
 |some (_,ρ')=>some (.nx ρ')
 |none=>none
theorem Ho(h:PE X e (tF G f))(hs:bS e none pos.line X.env=pure false:=by rfl):PS X (.Expr e pos) (tFS G (pb f)):=PS.weak (Bd h hs) λE σ H hh=>by
 obtain⟨F,ρ,H0,o,R,e,k,k2⟩:=hh;unfold pb at e;rcases nM (f:=f) (ρ:=ρ)with e1|⟨d,ρ',e1⟩<;>simp only[e1]at e
 ·cases e
 ·cases e;exact⟨F,ρ,H0,d,ρ',R,e1,λv H0' H' s R' r=>k _ _ _ s R'⟩
noncomputable def sIf(c:FT) (f g:FS):FS:=λρ=>match c ρ with
 |some (true,ρ')=>f ρ'
 |some (false,ρ')=>g ρ'
 |none=>none
theorem M4{c:Expr}{a b:List Stmt}{h:FT}{f g:FS}(hc:PT X c (tFT G h))(ha:PSs X a (tFS G f))(hb:PSs X b (tFS G g)):PS X (.If c a b pos) (tFS G (sIf h f g)):=PS.weak (Lx hc ha hb) λE σ H hh=>by
 obtain⟨F,ρ,H0,o,R,e,k,k2⟩:=hh;unfold sIf at e;rcases nM (f:=h) (ρ:=ρ)with e1|⟨d,ρ',e1⟩
 ·simp only[e1]at e;cases e
 ·refine⟨F,ρ,H0,d,ρ',R,e1,λH0' H' s R'=>?_⟩;cases d with
  |true=>simp only[e1]at e;exact Ca ⟨F,ρ',H0',o,R',e,k.back s,k2⟩
  |false=>simp only[e1]at e;exact B9 ⟨F,ρ',H0',o,R',e,k.back s,k2⟩
abbrev FG:=D->List Sl->Option (List Sl)
def tFG(G:Bg)(n:Nat)(g:FG):TG:=λv σ H Q=>∃F ρ H0 d ρ',nG G F σ ρ H0 H/\Rep G H0 d v/\g d ρ=some ρ'/\∀σ',σ'.drop n=σ.drop n->nG G F σ' ρ' H0 H->Q σ' H
def Hr(G:Bg)(n:Nat)(g:List D->List Sl->Option (List Sl)):TGs:=λvs σ H Q=>∃F ρ H0 ds ρ',nG G F σ ρ H0 H/\nt G H0 ds vs/\g ds ρ=some ρ'/\∀σ',σ'.drop n=σ.drop n->nG G F σ' ρ' H0 H->Q σ' H
theorem PG.weak{t t':TG}(h:PG X e t)(w:∀v σ H Q,t' v σ H Q->t v σ H Q):PG X e t':=λpins s σ H x u Q I r hq=>h pins s σ H x u Q I r (w _ _ _ _ hq)
theorem PGs.weak{e:List Expr}{t t':TGs}(h:PGs X e t)(w:∀v σ H Q,t' v σ H Q->t v σ H Q):PGs X e t':=λpins s σ H x u Q I r hq=>h pins s σ H x u Q I r (w _ _ _ _ hq)
def gN(i:Nat):FG:=λd ρ=>some (ρ.set i (.im d))
theorem Cj{α:Type}{l:List α}{n:Nat}{x:α}(h:i<n):(l.set i x).drop n=l.drop n:=by apply jK;intro j;rw[cO,cO,bq,ai (by omega)]
theorem Ht(n:Nat)(h:PG X tg (sM i))(hi:i<n):PG X tg (tFG G n (gN i)):=PG.weak h λv σ H Q hh=>by obtain⟨F,ρ,H0,d,ρ',R,r,e,k⟩:=hh;cases e;exact k _ (Cj hi) (R.setIm i r)
def yh:List D->List Sl->Option (List Sl):=λds ρ=>match ds with
 |[]=>some ρ
 |_=>none
def qC(g:FG)(gs:List D->List Sl->Option (List Sl)):List D->List Sl->Option (List Sl):=λds ρ=>match ds with
 |d::r=>match g d ρ with
  |some ρ'=>gs r ρ'
  |none=>none
 |[]=>none
theorem Kg{n:Nat}(h:PGs X [] PQ):PGs X [] (Hr G n yh):=PGs.weak h λv σ H Q hh=>by
 obtain⟨F,ρ,H0,ds,ρ',R,r,e,k⟩:=hh;cases ds with
 |nil=>cases e;unfold nt at r;exact⟨r,k _ rfl R⟩
 |cons d ds=>cases e
theorem Hu{n:Nat}{g:FG}(h:PGs X (e::es) (Ly (tFG G n g) (Hr G n gs))):PGs X (e::es) (Hr G n (qC g gs)):=PGs.weak h λv σ H Q hh=>by
 obtain⟨F,ρ,H0,ds,ρ',R,r,e,k⟩:=hh;cases ds with
 |nil=>cases e
 |cons d ds=>
  unfold nt at r;obtain⟨v1,r1,rfl,q1,q2⟩:=r;unfold qC at e;cases e1:g d ρ with
  |none=>simp only[e1]at e;cases e
  |some ρ1=>simp only[e1]at e;exact⟨v1,r1,rfl,F,ρ,H0,d,ρ1,R,q1,e1,λσ' s R'=>⟨F,ρ1,H0,ds,ρ',R',q2,e,λσ'' s' R''=>k _ (s'.trans s) R''⟩⟩
def gT(gs:List D->List Sl->Option (List Sl))(n:Nat):FG:=λd ρ=>match d with
 |.tup ds=>if ds.length=n then gs ds ρ else none
 |_=>none
theorem Kh{n m:Nat}{k:Nat}(h:PG X (.Tuple es k pos) (Ml G.K m (Hr G n gs))):PG X (.Tuple es k pos) (tFG G n (gT gs m)):=PG.weak h λv σ H Q hh=>by
 obtain⟨F,ρ,H0,d,ρ',R,r,e,k⟩:=hh;cases d with
 |tup ds=>
  unfold gT at e;simp only at e;split at e
  ·rename_i hl;unfold Rep at r;obtain⟨a,xs,rfl,h1,h2⟩:=r;exact⟨a,xs,rfl,SqT.mono R.sub h1,by rw[<-nu h2];exact hl,F,ρ,H0,ds,ρ',R,h2,e,k⟩
  ·cases e
 |_=>cases e
def FV(f:FE)(g:FG):FS:=λρ=>match f ρ with
 |some (d,ρ')=>match g d ρ' with
  |some ρ2=>some (.nx ρ2)
  |none=>none
 |none=>none
theorem Ki{g:FG}{n:Nat}(h:PS X st (wj (tF G f) (tFG G n g))):PS X st (tFS G (FV f g)):=PS.weak h λE σ H hh=>by
 obtain⟨F,ρ,H0,o,R,e,k,k2⟩:=hh;unfold FV at e;rcases nM (f:=f) (ρ:=ρ)with e1|⟨d,ρ',e1⟩<;>simp only[e1]at e
 ·cases e
 ·cases e2:g d ρ' with
  |none=>simp only[e2]at e;cases e
  |some ρ2=>simp only[e2]at e;cases e;exact⟨F,ρ,H0,d,ρ',R,e1,λv H0' H' s R' r=>⟨F,ρ',H0',d,ρ2,R',r,e2,λσ' _ R2=>k _ _ _ s R2⟩⟩
def oM(i:Nat)(f:FE):FS:=λρ=>match f ρ with
 |some (d,ρ')=>some (.nx (ρ'.set i (.im d)))
 |none=>none
theorem EB(h:PS X st (wj (tF G f) (sM i))):PS X st (tFS G (oM i f)):=PS.weak h λE σ H hh=>by
 obtain⟨F,ρ,H0,o,R,e,k,k2⟩:=hh;unfold oM at e;rcases nM (f:=f) (ρ:=ρ)with e1|⟨d,ρ',e1⟩<;>simp only[e1]at e
 ·cases e
 ·cases e;exact⟨F,ρ,H0,d,ρ',R,e1,λv H0' H' s R' r=>k _ _ _ s (R'.setIm i r)⟩
def oY(i:Nat)(f:FA):FS:=λρ=>match f ρ with
 |some (d,ρ')=>some (.nx (ρ'.set i (.ls d)))
 |none=>none
theorem Ck{f:FA}(h:PS X st (wj (tFN G f) (sM i))):PS X st (tFS G (oY i f)):=PS.weak h λE σ H hh=>by
 obtain⟨F,ρ,H0,o,R,e,k,k2⟩:=hh;unfold oY at e;rcases nM (f:=f) (ρ:=ρ)with e1|⟨d,ρ',e1⟩<;>simp only[e1]at e
 ·cases e
 ·cases e;exact⟨F,ρ,H0,d,ρ',R,e1,λp xs H0' H' s R' h1 h2 h3 h4 h5=>k _ _ _ s (R'.setLs i h1 h2 h3 h4 h5)⟩
def stE(n:Nat)(ds:List D):List Sl:=ds.map Sl.im++fQ (n - ds.length) .un
def fnD(np n:Nat)(f:FS):List D->Option D:=λds=>if ds.length=np then match f (stE n ds)with
 |some (.rt d _)=>some d
 |some (.rn ds _)=>some (.lst ds)
 |some (.nx _)=>some .non
 |_=>none
 else none
def fnN(np n:Nat)(f:FS):List D->Option (List D):=λds=>if ds.length=np then match f (stE n ds)with
 |some (.rn ds _)=>some ds
 |_=>none
 else none
def spF(G:Bg)(g:List D->Option D):Sp:=λvs H Q _=>∃H0 ds d,nz H0 H/\nt G H0 ds vs/\g ds=some d/\
 ∀v H0' H',nz H0 H0'->nz H0' H'->nz H H'->(∀b o,H0' b=some o->H0 b=some o\/H b=none)->Rep G H0' d v->Q v H'
def spN(G:Bg)(g:List D->Option (List D)):Sp:=λvs H Q _=>∃H0 ds d,nz H0 H/\nt G H0 ds vs/\g ds=some d/\
 ∀p xs H0' H',nz H0 H0'->nz H0' H'->nz H H'->(∀b o,H0' b=some o->H0 b=some o\/H b=none)->H p=none->H' p=some (.lst xs)->H0' p=none->nt G H0' d xs->Q (.ref p) H'
theorem wQ{n:Nat}{s:Sl}(h:(stE n ds)[i]?=some s):s=.un\/∃d,ds[i]?=some d/\s=.im d:=by
 unfold stE at h;by_cases hi:i<ds.length
 ·rw[dg (by simpa using hi),aX,aV hi]at h;cases h;exact .inr ⟨_,aV hi,rfl⟩
 ·rw[df (by simpa using hi),fz]at h;split at h
  ·cases h;exact .inl rfl
  ·cases h
theorem rq{v:V}(h:vs[i]?=some v):((L2.start N vs)[i]?).join=some v:=by unfold L2.start;have hi:=(bu.mp h).1;rw[dg (by simpa using hi),aX,h];rfl
theorem xO{H:Hp}(s:nz H0 H)(r:nt G H0 ds vs)(hl:vs.length<=N.length):nG G ⟨H0,H,[]⟩ (L2.start N vs) (stE N.length ds) H0 H where
 sub:=s
 g0:=nz.refl _
 keep:=λb o e _=>e
 fr:=λb o e=>.inl e
 am:=λa h=>by cases h
 len:=by unfold L2.start stE;rw[aC,aC,ag,ag,bN,bN,nu r]
 sl:=λi t e=>by
  rcases wQ e with rfl|⟨d,e1,rfl⟩
  ·trivial
  ·obtain⟨v,e2,e3⟩:=rM r e1;exact⟨v,rq e2,e3⟩
 ap:=λi j t u a _ e _ ht=>by rcases wQ e with rfl|⟨d,_,rfl⟩<;>cases ht
theorem Cm{n:Nat}{f:FS}(h:fnD np n f ds=some d):ds.length=np/\((∃ρ,f (stE n ds)=some (.rt d ρ))\/(∃xs ρ,f (stE n ds)=some (.rn xs ρ)/\d=.lst xs)\/∃ρ,f (stE n ds)=some (.nx ρ)/\d=.non):=by
 unfold fnD at h;split at h
 ·rename_i hl;refine⟨hl,?_⟩;split at h
  ·rename_i e;cases h;exact .inl ⟨_,e⟩
  ·rename_i e;cases h;exact .inr (.inl ⟨_,_,e,rfl⟩)
  ·rename_i e;cases h;exact .inr (.inr ⟨_,e,rfl⟩)
  ·cases h
 ·cases h
theorem Cn{n:Nat}{f:FS}{xs:List D}(h:fnN np n f ds=some xs):ds.length=np/\∃ρ,f (stE n ds)=some (.rn xs ρ):=by
 unfold fnN at h;split at h
 ·rename_i hl;refine⟨hl,?_⟩;split at h
  ·rename_i e;cases h;exact⟨_,e⟩
  ·cases h
 ·cases h
end
variable{E:XK}
theorem Kj{f:FS}{H:Hp}{Q:VK}(hN:np<=N.length)(h:spF G (fnD np N.length f) vs H Q E):tFS G f { nx:=λ_ H'=>Q .non H',rt:=Q } (L2.start N vs) H:=by
 obtain⟨H0,ds,d,s,r,e,k⟩:=h;obtain⟨hl,e'⟩:=Cm e;clear e;have R:=xO (N:=N) s r (by rw[<-nu r,hl];exact hN);have fin:∀{σ':St} {ρ':List Sl} {H0' H':Hp},nG G ⟨H0,H,[]⟩ σ' ρ' H0' H'->nz H H'/\nz H0' H'/\∀b o,H0' b=some o->H0 b=some o\/H b=none:=λR'=>⟨λb o e=>R'.keep b o e (by simp),R'.sub,R'.fr⟩;rcases e' with ⟨ρ,e⟩|⟨xs,ρ,e,rfl⟩|⟨ρ,e,rfl⟩
 ·refine⟨_,_,H0,_,R,e,λv σ' H0' H' s' R' rv=>?_,λ_=>rfl⟩;obtain⟨h1,h2,h3⟩:=fin R';exact k v H0' H' s' h2 h1 h3 rv
 ·refine⟨_,_,H0,_,R,e,λp ys σ' H0' H' s' R' hp h0 hb ap rs=>?_,λ_=>rfl⟩;have R2:=R'.freeze hp h0 hb ap;obtain⟨h1,h2,h3⟩:=fin R2;exact k _ _ H' (s'.trans (nI h0 _)) h2 h1 h3 (uj nv (nt.mono (nI h0 _) _ _ rs))
 ·refine⟨_,_,H0,_,R,e,λσ' H0' H' s' R'=>?_,λ_=>rfl⟩;obtain⟨h1,h2,h3⟩:=fin R';exact k _ H0' H' s' h2 h1 h3 sO
theorem Kk{f:FS}{H:Hp}{Q:VK}(hN:np<=N.length)(h:spN G (fnN np N.length f) vs H Q E):tFS G f { nx:=λ_ H'=>Q .non H',rt:=Q } (L2.start N vs) H:=by obtain⟨H0,ds,d,s,r,e,k⟩:=h;obtain⟨hl,ρ,e⟩:=Cn e;have R:=xO (N:=N) s r (by rw[<-nu r,hl];exact hN);refine⟨_,_,H0,_,R,e,λp ys σ' H0' H' s' R' hp h0 hb ap rs=>?_,λ_=>rfl⟩;exact k p ys H0' H' s' R'.sub (λb o e=>R'.keep b o e (by simp)) R'.fr hb hp h0 rs
theorem Qp{g:List D->Option D}(hg:∀ds d,g ds=some d->ds.length=np):∀vs H Q E,spF G g vs H Q E->vs.length=np:=λvs H Q E h=>by obtain⟨H0,ds,d,_,r,e,_⟩:=h;rw[<-nu r];exact hg _ _ e
theorem Qq{g:List D->Option (List D)}(hg:∀ds d,g ds=some d->ds.length=np):∀vs H Q E,spN G g vs H Q E->vs.length=np:=λvs H Q E h=>by obtain⟨H0,ds,d,_,r,e,_⟩:=h;rw[<-nu r];exact hg _ _ e
theorem Kl{n:Nat}{f:FS}:∀ds d,fnD np n f ds=some d->ds.length=np:=λ_ _ h=>(Cm h).1
theorem Km{n:Nat}{f:FS}:∀ds d,fnN np n f ds=some d->ds.length=np:=λ_ _ h=>(Cn h).1
def xP{α:Type}(g:List D->Option α)(a:FA):List Sl->Option (α×List Sl):=λρ=>match a ρ with
 |some (ds,ρ')=>match g ds with
  |some d=>some (d,ρ')
  |none=>none
 |none=>none
abbrev m7(g:List D->Option D)(a:FA):FE:=xP g a
abbrev o4(g:List D->Option (List D))(a:FA):FA:=xP g a
theorem uk{α:Type}{g:List D->Option α}{a:FA}{d:α}(h:xP g a ρ=some (d,ρ')):∃ds,a ρ=some (ds,ρ')/\g ds=some d:=by
 unfold xP at h;rcases nM (f:=a) (ρ:=ρ)with e1|⟨ds,ρ1,e1⟩<;>simp only[e1]at h
 ·cases h
 ·cases e2:g ds with
  |none=>simp only[e2]at h;cases h
  |some x=>simp only[e2]at h;cases h;exact⟨ds,e1,e2⟩
variable{dvs:List V}{dds:List D}
section
variable{X:Cx}{G:Bg}
theorem Kn{g:List D->Option D}{a:FA}(hd:∀H,nt G H dds dvs):∀σ H Q,tF G (m7 (λds=>g (ds++dds)) a) σ H Q->vT (spF G g) dvs E (tFA G a) σ H Q:=λσ H Q hh=>by obtain⟨F,ρ,H0,d,ρ',R,e,k⟩:=hh;obtain⟨ds,e1,e2⟩:=uk e;refine⟨F,ρ,H0,ds,ρ',R,e1,λxs H1 H1' s R' rs=>⟨H1,ds++dds,d,R'.sub,pK rs (hd _),e2,λv H2 H2' s1 s2 s3 fr rv=>?_⟩⟩;exact k v H2 H2' (s.trans s1) (R'.grow s3 s1 s2 fr) rv
theorem Ko{g:List D->Option (List D)}{a:FA}(hd:∀H,nt G H dds dvs):∀σ H Q,tFN G (o4 (λds=>g (ds++dds)) a) σ H Q->vT (spN G g) dvs E (tFA G a) σ H Q:=λσ H Q hh=>by obtain⟨F,ρ,H0,d,ρ',R,e,k⟩:=hh;obtain⟨ds,e1,e2⟩:=uk e;refine⟨F,ρ,H0,ds,ρ',R,e1,λxs H1 H1' s R' rs=>⟨H1,ds++dds,d,R'.sub,pK rs (hd _),e2,λp ys H2 H2' s1 s2 s3 fr hn hp h0 rv=>?_⟩⟩;exact k p ys H2 H2' (s.trans s1) (R'.grow s3 s1 s2 fr) hp h0 (R'.bNone hn) (R'.apart hn) rv
end
variable{ff:FE}{ta:TE}{apos:Pos}{c:Nat}
section
variable{X:Cx}{G:Bg}
theorem Kp{g:List D->Option D}{a:FA}(hd:∀H,nt G H dds dvs)(h:PE X e (vT (spF G g) dvs E (tFA G a))):PE X e (tF G (m7 (λds=>g (ds++dds)) a)):=PE.weak h (Kn hd)
theorem Hv{g:List D->Option (List D)}{a:FA}(hd:∀H,nt G H dds dvs)(h:PE X e (vT (spN G g) dvs E (tFA G a))):PE X e (tFN G (o4 (λds=>g (ds++dds)) a)):=PE.weak h (Ko hd)
theorem Hw{g:List D->Option D}(h:PE X e (vT (spF G g) [] E ze)):PE X e (tF G (m7 g oe)):=PE.weak h λσ H Q hh=>by obtain⟨F,ρ,H0,d,ρ',R,e,k⟩:=hh;obtain⟨ds,e1,e2⟩:=uk e;cases e1;exact⟨H0,[],d,R.sub,nY,e2,λv H2 H2' s1 s2 s3 fr rv=>k v H2 H2' s1 (R.grow s3 s1 s2 fr) rv⟩
theorem FW{g:List D->Option (List D)}(h:PE X e (vT (spN G g) [] E ze)):PE X e (tFN G (o4 g oe)):=PE.weak h λσ H Q hh=>by obtain⟨F,ρ,H0,d,ρ',R,e,k⟩:=hh;obtain⟨ds,e1,e2⟩:=uk e;cases e1;exact⟨H0,[],d,R.sub,nY,e2,λp ys H2 H2' s1 s2 s3 fr hn hp h0 rv=>k p ys H2 H2' s1 (R.grow s3 s1 s2 fr) hp h0 (R.bNone hn) (R.apart hn) rv⟩
def FX:List Str->List D->Str->Option D
 |n::ns,d::ds,f=>if n=f then some d else FX ns ds f
 |_,_,_=>none
theorem AB{H:Hp}:∀{ns:List Str} {ds:List D} {xs:List V} {f:Str} {d:D},nt G H ds xs->FX ns ds f=some d->∃v,(ns.zip xs).lookup f=some v/\Rep G H d v
 |[],ds,xs,f,d,r,e=>by simp[FX]at e
 |n::ns,[],xs,f,d,r,e=>by simp[FX]at e
 |n::ns,d'::ds,xs,f,d,r,e=>by
  unfold nt at r;obtain⟨v,q,rfl,h1,h2⟩:=r;unfold FX at e;by_cases hn:n=f
  ·rw[ah hn]at e;cases e;subst hn;exact⟨v,by simp[cg],h1⟩
  ·rw[ai hn]at e;obtain⟨w,e1,e2⟩:=AB h2 e;refine⟨w,?_,e2⟩;have hb:(f==n)=false:=beq_eq_false_iff_ne.mpr λz=>hn z.symm;simp only[cP,cg,hb];exact e1
def nE(ok:Nat->Bool)(f:Str):D->Option D
 |.obj c ns ds=>if ok c=true then FX ns ds f else none
 |_=>none
theorem Hy{f:Str}{ok:Nat->Bool}(he:PE X e (tF G ff))(hc:∀c,ok c=true->Cls X.K (G.ca c)/\sq X.K (G.ca c) f)(hb:cZ e f X.env (eval e X.env)=eval e X.env:=by rfl):PE X (.Attribute e f pos) (tF G (c1 (nE ok f) ff)):=PE.weak (MB he hb) λσ H Q hh=>by
 obtain⟨F,ρ,H0,d,ρ',R,e,k⟩:=hh;obtain⟨x,e1,e2⟩:=wN e;cases x with
 |obj c ns ds=>
  unfold nE at e2;simp only at e2;split at e2
  ·rename_i hk;refine⟨F,ρ,H0,_,ρ',R,e1,λv H1 H1' s R' r=>?_⟩;unfold Rep at r;obtain⟨a,dx,xs,rfl,h1,h2,h3⟩:=r;obtain⟨w,l1,l2⟩:=AB h3 e2;exact⟨a,_,dx,_,w,rfl,R'.sub _ _ h1,(hc c hk).1,(hc c hk).2,l1,k _ _ _ s R' l2⟩
  ·cases e2
 |_=>cases e2
def MOk(X:Cx)(C:Addr)(m:Str)(sp:Sp)(dvs:List V)(E:XK):Prop:=∃(k:Nat) (f:Addr) (fd:bj) (ps:List Str) (ds:List aa),Cls X.K C/\Meth X.K C m f/\qN X.prog X.w X.K X.mg X.base CX0 k f fd ps sp/\pd k X.A/\Binds X.K fd ps ds/\Vals dvs ds/\Passes CX0 X E
def pz(g:Nat->Option (List D->Option D))(m:Str)(f:FE)(a:FA):FE:=λρ=>match f ρ with
 |some (.obj c ns ds,ρ1)=>match g c with
  |some h=>if ns.contains m=true then none else match a ρ1 with
   |some (es,ρ2)=>match h (.obj c ns ds::es)with
    |some d=>some (d,ρ2)
    |none=>none
   |none=>none
  |none=>none
 |_=>none
theorem zt{g:Nat->Option (List D->Option D)}{m:Str}{a:FA}(h:pz g m f a ρ=some (d,ρ')):
  ∃c ns ds ρ1 hh es,f ρ=some (.obj c ns ds,ρ1)/\g c=some hh/\ns.contains m=false/\a ρ1=some (es,ρ')/\hh (.obj c ns ds::es)=some d:=by
 unfold pz at h;split at h
 ·rename_i c ns ds ρ1 e1;cases e2:g c with
  |none=>simp only[e2]at h;cases h
  |some hh=>
   simp only[e2]at h;cases e3:ns.contains m with
   |true=>simp only[e3,if_true]at h;cases h
   |false=>
    simp only[e3,eD,if_false]at h;rcases nM (f:=a) (ρ:=ρ1)with e4|⟨es,ρ2,e4⟩<;>simp only[e4]at h
    ·cases h
    ·cases e5:hh (.obj c ns ds::es)with
     |none=>simp only[e5]at h;cases h
     |some x=>simp only[e5]at h;cases h;exact⟨c,ns,ds,ρ1,hh,es,e1,e2,e3,e4,e5⟩
 ·cases h
theorem wu{m:Str}:∀{ns:List Str} {xs:List V},ns.contains m=false->(ns.zip xs).lookup m=none
 |[],xs,h=>rfl
 |n::ns,[],h=>rfl
 |n::ns,x::xs,h=>by rw[jG,gx]at h;simp only[cP,cg,h.1];exact wu h.2
theorem Hz{o:Expr}{t:TA}{m:Str}{pl:Sem Bool}(T:Addr->Sp->Prop)(hT:∀C sp,T C sp->MOk X C m sp dvs E)(he:PE X o ta)(ha:PA X (e::es) t)
  (hst:aq (e::es) X.env=(false,eval e X.env)::aq es X.env:=by rfl) (hpl:(aQ pos (aq es X.env)).any (·.1)=false:=by rfl)
  (ht:eval (.Call (.Attribute o m apos) (e::es) [] pos) X.env=(do
   let ov<-eval o X.env
   standAt apos.atName
   let (f,first)<-holding [ov] (getMethod ov m pl)
   callWith pos f first (aQ pos (aq (e::es) X.env)) (backToKw pos (cy [] X.env))):=by rfl):
  PE X (.Call (.Attribute o m apos) (e::es) [] pos) (λσ H Q=>ta σ H λx H1=>∃a C dx fs sp,x=.ref a/\H1 a=some (.ins C dx fs)/\T C sp/\fs.lookup m=none/\t σ H1 λvs H2=>sp (x::(vs++dvs)) H2 Q E):=by
 intro pins s σ H Q I h;refine j5 (pl:=pl) (thn (he pins s σ H _ I h) λu s1 zz=>?_) ht;obtain⟨x,H1,I1,rx,a,C,dx,fs,sp,ex,ea,ht,l,q⟩:=zz;obtain⟨k,f,fd,ps,ds,c,hm,F,hr,hb,hd,hx⟩:=hT C sp ht;subst ex;obtain rfl:u=Value.ref a:=rx;refine zd I1 ea c hm l ?_;refine fU (first:=[.ref a]) (h₀:=X.base) I.ok.mod.kin hm.kp (thn (ha pos pins s1 σ H1 _ I1 q) λus s2 ⟨vs,H2,I2,r,q2⟩=>⟨I2.kIn,?_⟩) hst hpl;exact Bf (us:=.ref a::us) (vs:=.ref a::vs) F hr hb hd hx I2 (.cons rfl r) q2
theorem FY{o:Expr}{m:Str}{pl:Sem Bool}(T:Addr->Sp->Prop)(hT:∀C sp,T C sp->MOk X C m sp dvs E)(he:PE X o ta)
  (ht:eval (.Call (.Attribute o m apos) [] [] pos) X.env=(do
   let ov<-eval o X.env
   standAt apos.atName
   let (f,first)<-holding [ov] (getMethod ov m pl)
   callWith pos f first (aQ pos (aq [] X.env)) (backToKw pos (cy [] X.env))):=by rfl):
  PE X (.Call (.Attribute o m apos) [] [] pos) (λσ H Q=>ta σ H λx H1=>∃a C dx fs sp,x=.ref a/\H1 a=some (.ins C dx fs)/\T C sp/\fs.lookup m=none/\sp (x::dvs) H1 Q E):=by
 intro pins s σ H Q I h;refine j5 (pl:=pl) (thn (he pins s σ H _ I h) λu s1 zz=>?_) ht;obtain⟨x,H1,I1,rx,a,C,dx,fs,sp,ex,ea,ht,l,q⟩:=zz;obtain⟨k,f,fd,ps,ds,c,hm,F,hr,hb,hd,hx⟩:=hT C sp ht;subst ex;obtain rfl:u=Value.ref a:=rx;refine zd I1 ea c hm l ?_;exact ik (first:=[.ref a]) I1.kIn hm.kp (Bf (us:=[.ref a]) (vs:=[.ref a]) F hr hb hd hx I1 (.cons rfl .nil) q)
def MT(G:Bg)(g:Nat->Option (List D->Option D)):Addr->Sp->Prop:=λC sp=>∃c h,g c=some h/\C=G.ca c/\sp=spF G h
theorem Kq{o:Expr}{a:FA}{m:Str}{g:Nat->Option (List D->Option D)}(h:PE X (.Call (.Attribute o m apos) (e::es) [] pos) (λσ H Q=>tF G f σ H λx H1=>∃a' C dx fs sp,x=.ref a'/\H1 a'=some (.ins C dx fs)/\MT G g C sp/\fs.lookup m=none/\tFA G a σ H1 λvs H2=>sp (x::(vs++[])) H2 Q E)):
  PE X (.Call (.Attribute o m apos) (e::es) [] pos) (tF G (pz g m f a)):=PE.weak h λσ H Q hh=>by
 obtain⟨F,ρ,H0,d,ρ',R,e,k⟩:=hh;obtain⟨c,ns,ds,ρ1,hh,es',e1,e2,e3,e4,e5⟩:=zt e;refine⟨F,ρ,H0,_,ρ1,R,e1,λv H1 H1' s R' r=>?_⟩;have r0:=r;unfold Rep at r;obtain⟨a',dx,xs,rfl,h1,h2,h3⟩:=r;refine⟨a',_,dx,_,_,rfl,R'.sub _ _ h1,⟨c,hh,e2,rfl,rfl⟩,wu e3,F,ρ1,H1,es',ρ',R',e4,λys H2 H2' s2 R2 rs=>?_⟩;show spF G hh (V.ref a'::(ys++[])) H2' Q E;rw[br];exact⟨H2,_,d,R2.sub,oi (Rep.mono s2 _ _ r0) rs,e5,λv H3 H3' t1 t2 t3 fr rv=>k v H3 H3' (s.trans (s2.trans t1)) (R2.grow t3 t1 t2 fr) rv⟩
theorem HA{o:Expr}{m:Str}{g:Nat->Option (List D->Option D)}(h:PE X (.Call (.Attribute o m apos) [] [] pos) (λσ H Q=>tF G f σ H λx H1=>∃a' C dx fs sp,x=.ref a'/\H1 a'=some (.ins C dx fs)/\MT G g C sp/\fs.lookup m=none/\sp (x::[]) H1 Q E)):
  PE X (.Call (.Attribute o m apos) [] [] pos) (tF G (pz g m f oe)):=PE.weak h λσ H Q hh=>by
 obtain⟨F,ρ,H0,d,ρ',R,e,k⟩:=hh;obtain⟨c,ns,ds,ρ1,hh,es',e1,e2,e3,e4,e5⟩:=zt e;cases e4;refine⟨F,ρ,H0,_,_,R,e1,λv H1 H1' s R' r=>?_⟩;have r0:=r;unfold Rep at r;obtain⟨a',dx,xs,rfl,h1,h2,h3⟩:=r;refine⟨a',_,dx,_,_,rfl,R'.sub _ _ h1,⟨c,hh,e2,rfl,rfl⟩,wu e3,?_⟩;exact⟨H1,_,d,R'.sub,oi r0 nY,e5,λv H3 H3' t1 t2 t3 fr rv=>k v H3 H3' (s.trans t1) (R'.grow t3 t1 t2 fr) rv⟩
def spI(G:Bg)(c:Nat)(g:List D->Option (List Str×List D)):Sp:=λvs H Q _=>∃(p dx:Addr) (us:List V) (H0:Hp) (ds:List D) (ns:List Str) (es:List D),vs=.ref p::us/\H p=some (.ins (G.ca c) dx [])/\H0 p=none/\nz H0 H/\nt G H0 ds us/\g ds=some (ns,es)/\
 ∀ys dx' H0' H',nz H0 H0'->nz H0' H'->(∀b o,H b=some o->b≠p->H' b=some o)->(∀b o,H0' b=some o->H0 b=some o\/H b=none)->H0' p=none->H' p=some (.ins (G.ca c) dx' (ns.zip ys))->ns.length=ys.length->nt G H0' es ys->Q .non H'
def nh(c:Nat)(g:List D->Option (List Str×List D))(a:FA):FE:=λρ=>match a ρ with
 |some (ds,ρ')=>match g ds with
  |some (ns,es)=>some (.obj c ns es,ρ')
  |none=>none
 |none=>none
theorem Kr{g:List D->Option (List Str×List D)}{a:FA}(hd:∀H,nt G H dds dvs)(h:PE X e (En (G.ca c) (spI G c g) dvs E (tFA G a))):PE X e (tF G (nh c (λds=>g (ds++dds)) a)):=PE.weak h λσ H Q hh=>by
 obtain⟨F,ρ,H0,d,ρ',R,e,k⟩:=hh;unfold nh at e;rcases nM (f:=a) (ρ:=ρ)with e1|⟨ds,ρ1,e1⟩<;>simp only[e1]at e
 ·cases e
 ·cases e2:g (ds++dds)with
  |none=>simp only[e2]at e;cases e
  |some q=>
   obtain⟨ns,es⟩:=q;simp only[e2]at e;cases e;refine⟨F,ρ,H0,ds,ρ',R,e1,λxs H1 H1' s R' rs x dx hx hdx ne=>?_⟩;have hx2:(upd H1' dx (.own x)) x=none:=by rw[ny (λz=>ne z.symm)];exact hx
   have sx:nz H1' (upd (upd H1' dx (.own x)) x (.ins (G.ca c) dx [])):=(nI hdx _).trans (nI hx2 _);refine⟨x,dx,_,H1,ds++dds,ns,es,rfl,nv,R'.h0none hx,R'.sub.trans sx,pK rs (hd _),e2,λys dx' H2 H2' t1 t2 t3 fr h0 hp hl ry=>⟨rfl,?_⟩⟩;have t4:nz H1' H2':=λb o e=>t3 b o (sx b o e) (pH e hx);have fr1:∀b o,H2 b=some o->H1 b=some o\/H1' b=none:=λb o e=>by
    rcases fr b o e with q|q
    ·exact .inl q
    ·cases z:H1' b with
     |none=>exact .inr rfl
     |some u=>rw[sx b u z]at q;cases q
   have R2:=R'.grow t4 t1 t2 fr1;have hb:F.B x=none:=R'.bNone hx;have R3:=R2.freeze hp h0 hb (λi t ei to z=>R'.apart hx i t ei to z);refine k _ _ _ (s.trans (t1.trans (nI h0 _))) R3 ?_;unfold Rep;exact⟨x,dx',ys,rfl,nv,hl,nt.mono (nI h0 _) _ _ ry⟩
def n4(c0:Nat)(i:Nat)(f:Str)(ff:FE):FS:=λρ=>match ff ρ with
 |some (d,ρ1)=>match ρ1[i]? with
  |some (.ob c ns ds)=>if c=c0 then if ns.contains f=true then none else if ds.length=ns.length then if ns.length<900 then some (.nx (ρ1.set i (.ob c (ns++[f]) (ds++[d]))))else none else none else none
  |_=>none
 |none=>none
theorem Cp{f:Str}{v:V}:∀{ns:List Str} {xs:List V},ns.contains f=false->ns.length=xs.length->tT f v (ns.zip xs)=(ns++[f]).zip (xs++[v])
 |[],[],h,l=>rfl
 |[],x::xs,h,l=>by cases l
 |n::ns,[],h,l=>by cases l
 |n::ns,x::xs,h,l=>by
  rw[jG,gx]at h;have hn:¬n=f:=λz=>by rw[z]at h;simp at h
  have ih:=Cp (f:=f) (v:=v) (ns:=ns) (xs:=xs) h.2 (by simpa using l);show tT f v ((n,x)::ns.zip xs)=_;rw[show tT f v ((n,x)::ns.zip xs)=(if n=f then (n,v)::ns.zip xs else (n,x)::tT f v (ns.zip xs)) from rfl,ai hn,ih];rfl
theorem Ks{c0:Nat}{f:Str}(h:PS X st (P6 X.K (ue i) (tF G ff) f))(hc:Cls X.K (G.ca c0)/\sq X.K (G.ca c0) f):PS X st (tFS G (n4 c0 i f ff)):=PS.weak h λE σ H hh=>by
 obtain⟨F,ρ,H0,o,R,e,k,k2⟩:=hh;unfold n4 at e;rcases nM (f:=ff) (ρ:=ρ)with e1|⟨d,ρ1,e1⟩<;>simp only[e1]at e
 ·cases e
 ·split at e
  ·rename_i c ns ds e2;split at e
   ·rename_i hcc;subst hcc;split at e
    ·cases e
    rename_i hnc;split at e
    ·rename_i hl;split at e
     ·rename_i h9;cases e;refine⟨F,ρ,H0,d,ρ1,R,e1,λv H1 H1' s R' r=>?_⟩;obtain⟨a,dx,xs,e3,e4,e5,e6,e7,e8⟩:=R'.sl i _ e2;refine⟨_,qQ e3,a,_,dx,_,rfl,e4,hc.1,hc.2,by rw[dR];omega,?_⟩;have hnf:ns.contains f=false:=by simpa using hnc
      rw[Cp hnf e7];refine k _ _ _ s (R'.mut e2 rfl e3 (λH' hH=>?_) rfl);exact⟨a,dx,xs++[v],rfl,hH,e5,e6,by rw[aC,aC,e7];rfl,pK e8 (oi r nY)⟩
     ·cases e
    ·cases e
   ·cases e
  ·cases e
def stI(c n:Nat)(ds:List D):List Sl:=.ob c [] []::stE (n - 1) ds
def fnI(c np n:Nat)(f:FS):List D->Option (List Str×List D):=λds=>if ds.length=np then match f (stI c n ds)with
 |some (.nx ρ)=>match (ρ:List Sl)[0]? with
  |some (Sl.ob c' ns es)=>if c'=c then if ns.length=es.length then some (ns,es)else none else none
  |_=>none
 |_=>none
 else none
theorem zu{n:Nat}{f:FS}{q:List Str×List D}(h:fnI c np n f ds=some q):ds.length=np/\∃ρ,f (stI c n ds)=some (.nx ρ)/\ρ[0]?=some (.ob c q.1 q.2)/\q.1.length=q.2.length:=by
 unfold fnI at h;split at h
 ·rename_i hl;refine⟨hl,?_⟩;split at h
  ·rename_i ρ e;split at h
   ·rename_i c' ns es e2;split at h
    ·rename_i hc;split at h
     ·rename_i h3;subst hc;cases h;exact⟨ρ,e,e2,h3⟩
     ·cases h
    ·cases h
   ·cases h
  ·cases h
 ·cases h
theorem Bt{f:FS}{H:Hp}{Q:VK}(hN:np+1<=N.length)(h:spI G c (fnI c np N.length f) vs H Q E):tFS G f { nx:=λ_ H'=>Q .non H',rt:=Q } (L2.start N vs) H:=by
 obtain⟨p,dx,us,H0,ds,ns,es,rfl,hp,h0,s,r,e,k⟩:=h;obtain⟨hl,ρ,e1,e2,e3⟩:=zu e;have hul:us.length=np:=by rw[<-nu r];exact hl
 have gets:∀{i:Nat} {t:Sl},(stI c N.length ds)[i]?=some t->(i=0/\t=.ob c [] [])\/t=.un\/∃(j:Nat) (d:D),i=j+1/\ds[j]?=some d/\t=.im d:=λ{i t} e=>by
  cases i with
  |zero=>cases e;exact .inl ⟨rfl,rfl⟩
  |succ j=>
   have e':(stE (N.length - 1) ds)[j]?=some t:=e;rcases wQ e' with rfl|⟨d,e1,rfl⟩
   ·exact .inr (.inl rfl)
   ·exact .inr (.inr ⟨j,d,rfl,e1,rfl⟩)
 have R:nG G ⟨H0,H,[p]⟩ (L2.start N (.ref p::us)) (stI c N.length ds) H0 H:={
  sub:=s
  g0:=nz.refl _
  keep:=λb o e _=>e
  fr:=λb o e=>.inl e
  am:=λa ha=>by
   have ea:a=p:=by simpa using ha
   subst ea;exact⟨_,hp⟩
  len:=by unfold L2.start stI stE;simp only[aC,ag,bN,aD];have:=nu r;omega
  sl:=λi t e=>by
   rcases gets e with ⟨rfl,rfl⟩|rfl|⟨j,d,rfl,e1,rfl⟩
   ·exact⟨p,dx,[],rq rfl,hp,h0,by simp,rfl,nY⟩
   ·trivial
   ·obtain⟨v,e2,e3⟩:=rM r e1;exact⟨v,rq (by simpa using e2),e3⟩
  ap:=λi j t u a hij ei ej ht hu=>by
   rcases gets ei with ⟨rfl,rfl⟩|rfl|⟨_,_,_,_,rfl⟩
   ·rcases gets ej with ⟨rfl,rfl⟩|rfl|⟨_,_,_,_,rfl⟩
    ·exact ak rfl hij
    ·cases hu
    ·cases hu
   ·cases ht
   ·cases ht }
 refine⟨_,_,H0,_,R,e1,λσ' H0' H' s' R'=>?_,λ_=>rfl⟩;obtain⟨a,dx',ys,q1,q2,q3,q4,q5,q6⟩:=R'.sl 0 _ e2;have ea:a=p:=by simpa using q4
 subst ea;exact k ys dx' H0' H' s' R'.sub (λb o e n=>R'.keep b o e (by simpa using n)) R'.fr q3 q2 q5 q6
end
def Sl.L:Sl->Option (List D)
 |.ls ds=>some ds
 |.pm ds=>some ds
 |_=>none
def Sl.putL:Sl->List D->Sl
 |.pm _,ds=>.pm ds
 |_,ds=>.ls ds
theorem Sl.L_own{s:Sl}(h:s.L=some ds):s.own=true:=by cases s<;>first|rfl|cases h
theorem Sl.putL_L{s:Sl}:(s.putL ds).L=some ds:=by cases s<;>rfl
section
variable{G:Bg}{F:Fr}{σ:St}{ρ:List Sl}{H0 H:Hp}
theorem wq.lst{o:Option V}{s:Sl}{ds:List D}(h:wq G F H0 H o s)(e:s.L=some ds):∃a xs,o=some (.ref a)/\H a=some (.lst xs)/\H0 a=none/\nt G H0 ds xs:=by
 cases s with
 |ls ds'=>cases e;obtain⟨a,xs,h1,h2,h3,h4,h5⟩:=h;exact⟨a,xs,h1,h2,h3,h5⟩
 |pm ds'=>cases e;obtain⟨a,xs,h1,h2,h3,h4,h5⟩:=h;exact⟨a,xs,h1,h2,h3,h5⟩
 |_=>cases e
theorem nG.mutL(R:nG G F σ ρ H0 H){s:Sl}{ds':List D}{xs':List V}(hi:ρ[i]?=some s)(hs:s.L=some ds)(ha:(σ[i]?).join=some (.ref a))(r:nt G H0 ds' xs'):
  nG G F σ (ρ.set i (s.putL ds')) H0 (upd H a (.lst xs')):=by
 have ok:=R.sl i s hi;rw[ha]at ok;refine R.mut hi (Sl.L_own hs) ha (λH' hH=>?_) (Sl.L_own Sl.putL_L);cases s with
 |ls ds0=>obtain⟨b,xs,h1,h2,h3,h4,h5⟩:=ok;cases h1;exact⟨a,xs',rfl,hH,h3,h4,r⟩
 |pm ds0=>obtain⟨b,xs,h1,h2,h3,h4,h5⟩:=ok;cases h1;exact⟨a,xs',rfl,hH,h3,h4,r⟩
 |_=>cases hs
end
def pI(ρ:List Sl)(i:Nat):Option (List D):=match ρ[i]? with
 |some s=>s.L
 |none=>none
theorem rA(h:pI ρ i=some ds):∃s,ρ[i]?=some s/\s.L=some ds:=by
 unfold pI at h;cases e:ρ[i]? with
 |none=>rw[e]at h;cases h
 |some s=>rw[e]at h;exact⟨s,rfl,h⟩
def putAt(ρ:List Sl)(i:Nat)(ds:List D):List Sl:=match ρ[i]? with
 |some s=>ρ.set i (s.putL ds)
 |none=>ρ
def sr(i:Nat)(f:FE):FE:=λρ=>match pI ρ i with
 |some _=>match f ρ with
  |some (d,ρ1)=>match pI ρ1 i with
   |some ds=>if ds.length<1000 then some (.non,putAt ρ1 i (ds++[d]))else none
   |none=>none
  |none=>none
 |none=>none
section
variable{X:Cx}{G:Bg}
theorem qr{H:Hp}(R:nG G F σ ρ H0 H)(h:pI ρ i=some ds):∃a xs,σ[i]?=some (some (.ref a))/\H a=some (.lst xs)/\nt G H0 ds xs/\
  (∀ds' xs',nt G H0 ds' xs'->nG G F σ (putAt ρ i ds') H0 (upd H a (.lst xs'))):=by
 obtain⟨s,e1,e2⟩:=rA h;obtain⟨a,xs,e3,e4,e5,e6⟩:=(R.sl i s e1).lst e2;refine⟨a,xs,qQ e3,e4,e6,λds' xs' r=>?_⟩;unfold putAt;rw[e1];exact R.mutL e1 e2 e3 r
theorem FZ(h:PE X e (tBM G.K "list" Bo (ue i) (tFA G (aCons f oe)))):PE X e (tF G (sr i f)):=PE.weak h λσ H Q hh=>by
 obtain⟨F,ρ,H0,d,ρ',R,e,k⟩:=hh;unfold sr at e;cases e0:pI ρ i with
 |none=>simp only[e0]at e;cases e
 |some ds0=>
  simp only[e0]at e;rcases nM (f:=f) (ρ:=ρ)with e1|⟨x,ρ1,e1⟩<;>simp only[e1]at e
  ·cases e
  ·cases e2:pI ρ1 i with
   |none=>simp only[e2]at e;cases e
   |some ds=>
    simp only[e2]at e;split at e
    ·rename_i hl;cases e;obtain⟨a,xs,s1,s2,s3,_⟩:=qr R e0;refine⟨.ref a,s1,.inl ⟨rfl,xs,SqL.of s2⟩,F,ρ,H0,[x],ρ1,R,by unfold aCons;rw[e1];rfl,λys H1 H1' s R' rs=>?_⟩;unfold nt at rs;obtain⟨v,r0,rfl,rv,rn⟩:=rs;unfold nt at rn;subst rn;obtain⟨a',xs',t1,t2,t3,t4⟩:=qr R' e2;rw[s1]at t1;cases t1;exact⟨a,xs',v,rfl,rfl,t2,by rw[<-nu t3];exact vH (by omega),k _ _ _ s (t4 _ _ (pK t3 (oi rv nY))) sO⟩
    ·cases e
def Kt(i:Nat)(f:FA):FE:=λρ=>match pI ρ i with
 |some _=>match f ρ with
  |some (es,ρ1)=>match pI ρ1 i with
   |some ds=>if ds.length+es.length<=1000 then some (.non,putAt ρ1 i (ds++es))else none
   |none=>none
  |none=>none
 |none=>none
theorem F0{f:FA}(h:PE X e (tBM G.K "list" Et (ue i) (vS (tFN G f) ze))):PE X e (tF G (Kt i f)):=PE.weak h λσ H Q hh=>by
 obtain⟨F,ρ,H0,d,ρ',R,e,k⟩:=hh;unfold Kt at e;cases e0:pI ρ i with
 |none=>simp only[e0]at e;cases e
 |some ds0=>
  simp only[e0]at e;rcases nM (f:=f) (ρ:=ρ)with e1|⟨x,ρ1,e1⟩<;>simp only[e1]at e
  ·cases e
  ·cases e2:pI ρ1 i with
   |none=>simp only[e2]at e;cases e
   |some ds=>
    simp only[e2]at e;split at e
    ·rename_i hl;cases e;obtain⟨a,xs,s1,s2,s3,_⟩:=qr R e0;refine⟨.ref a,s1,.inl ⟨rfl,xs,SqL.of s2⟩,F,ρ,H0,x,ρ1,R,e1,λp ys H1 H1' s R' hp h0 hb ap rs=>?_⟩;obtain⟨a',xs',t1,t2,t3,t4⟩:=qr R' e2;rw[s1]at t1;cases t1;refine⟨a,p,xs',ys,rfl,rfl,t2,hp,?_,k _ _ _ s (t4 _ _ (pK t3 rs)) sO⟩;rw[<-nu t3,<- nu rs];exact qB hl
    ·cases e
def RY(i:Nat):FE:=λρ=>match pI ρ i with
 |some (d::ds)=>some (d,putAt ρ i ds)
 |_=>none
theorem wR{i:Int}(r:nt G H0 ds xs)(h:atI ds i=some d):∃v,atI xs i=some v/\Rep G H0 d v:=by
 unfold atI at h ⊢;rw[<-nu r];cases e:ixN ds.length i with
 |none=>rw[e]at h;cases h
 |some j=>rw[e]at h;exact rM r h
def DK(i:Nat)(f:FE):FE:=λρ=>match pI ρ i with
 |some _=>match f ρ with
  |some (.int j,ρ1)=>match pI ρ1 i with
   |some ds=>match atI ds j with
    |some d=>some (d,ρ1)
    |none=>none
   |none=>none
  |_=>none
 |none=>none
theorem M5(h:PE X e (tOp (JN G.K) (ue i) (tF G f))):PE X e (tF G (DK i f)):=PE.weak h λσ H Q hh=>by
 obtain⟨F,ρ,H0,d,ρ',R,e,k⟩:=hh;unfold DK at e;cases e9:pI ρ i with
 |none=>simp only[e9]at e;cases e
 |some ds9=>
  simp only[e9]at e;obtain⟨a9,xs9,ev,_⟩:=qr R e9;split at e
  ·rename_i j ρ1 e1;cases e0:pI ρ1 i with
   |none=>simp only[e0]at e;cases e
   |some ds=>
    simp only[e0]at e;cases e2:atI ds j with
    |none=>simp only[e2]at e;cases e
    |some x=>simp only[e2]at e;cases e;refine⟨.ref a9,ev,F,ρ,H0,_,_,R,e1,λu H1 H1' s R' r=>?_⟩;unfold Rep at r;subst r;obtain⟨a,xs,s1,s2,s3,s4⟩:=qr R' e0;rw[ev]at s1;cases s1;obtain⟨w,w1,w2⟩:=wR s3 e2;exact⟨_,xs,j,w,rfl,rfl,SqL.of s2,w1,k _ _ _ s R' w2⟩
  ·cases e
def cFz(i:Nat):FE:=λρ=>match ρ[i]? with
 |some (.ls ds)=>some (.lst ds,ρ.set i (.im (.lst ds)))
 |some (.dk ks ds)=>some (.dic ks ds,ρ.set i (.im (.dic ks ds)))
 |some (.im d)=>some (d,ρ)
 |_=>none
theorem nG.toIm{H:Hp}(R:nG G F σ ρ H0 H){s:Sl}{o:HO}(hi:ρ[i]?=some s)(hs:(σ[i]?).join=some (.ref p))(so:s.own=true)(hp:H p=some o)(h0:H0 p=none)(hb:F.B p=none)(r:Rep G (upd H0 p o) d (.ref p)):
  nG G F σ (ρ.set i (.im d)) (upd H0 p o) H where
 sub:=λb u e=>by
  by_cases hb:b=p
  ·subst hb;rw[nv]at e;cases e;exact hp
  ·rw[ny hb]at e;exact R.sub _ _ e
 g0:=R.g0.trans (nI h0 o)
 keep:=R.keep
 fr:=λb u e=>by
  by_cases hb':b=p
  ·subst hb';exact .inr hb
  ·rw[ny hb']at e;exact R.fr _ _ e
 am:=R.am
 len:=by rw[cH];exact R.len
 sl:=λj t e=>by
  rw[bq]at e;by_cases h:i=j
  ·subst h;rw[ah rfl]at e;split at e
   ·cases e;exact⟨_,hs,r⟩
   ·cases e
  ·rw[ai h]at e;refine(R.sl j t e).grow (nI h0 o) (λa u _ _ q=>q) λa u z to q q0=>?_;rw[ny (λy=>by subst y;exact R.ap j i t s a (λy=>h y.symm) e hi to so z hs)];exact q0
 ap:=λj k t u b hjk ej ek tj tk vj vk=>by
  have gen:∀{m:Nat} {x:Sl},(ρ.set i (.im d))[m]?=some x->x.own=true->ρ[m]?=some x:=λ{m x} e xo=>by
   rw[bq]at e;by_cases h:i=m
   ·subst h;rw[ah rfl]at e;split at e
    ·cases e;cases xo
    ·cases e
   ·rw[ai h]at e;exact e
  exact R.ap j k t u b hjk (gen ej tj) (gen ek tk) tj tk vj vk
theorem nG.toImD{H:Hp}(R:nG G F σ ρ H0 H){s:Sl}{o:HO}(hi:ρ[i]?=some s)(hs:(σ[i]?).join=some (.ref p))(so:s.own=true)(h0:H0 p=none)(hb:F.B p=none)(r:Rep G (upd H0 p o) d (.ref p)):
  nG G F σ (ρ.set i (.im d)) (upd H0 p o) (upd H p o) where
 sub:=λb u e=>by
  by_cases hb:b=p
  ·subst hb;rw[nv]at e ⊢;exact e
  ·rw[ny hb]at e ⊢;exact R.sub _ _ e
 g0:=R.g0.trans (nI h0 o)
 keep:=λb u e n=>by rw[ny (λz=>by subst z;rw[hb]at e;cases e)];exact R.keep b u e n
 fr:=λb u e=>by
  by_cases hb':b=p
  ·subst hb';exact .inr hb
  ·rw[ny hb']at e;exact R.fr _ _ e
 am:=λb hm=>by
  by_cases hb':b=p
  ·subst hb';exact⟨o,nv⟩
  ·rw[ny hb'];exact R.am b hm
 len:=by rw[cH];exact R.len
 sl:=λj t e=>by
  rw[bq]at e;by_cases h:i=j
  ·subst h;rw[ah rfl]at e;split at e
   ·cases e;exact⟨_,hs,r⟩
   ·cases e
  ·rw[ai h]at e;refine(R.sl j t e).grow (nI h0 o) (λa u z to q=>?_) λa u z to q q0=>?_
   ·rw[ny (λy=>by subst y;exact R.ap j i t s a (λy=>h y.symm) e hi to so z hs)];exact q
   ·rw[ny (λy=>by subst y;exact R.ap j i t s a (λy=>h y.symm) e hi to so z hs)];exact q0
 ap:=λj k t u b hjk ej ek tj tk vj vk=>by
  have gen:∀{m:Nat} {x:Sl},(ρ.set i (.im d))[m]?=some x->x.own=true->ρ[m]?=some x:=λ{m x} e xo=>by
   rw[bq]at e;by_cases h:i=m
   ·subst h;rw[ah rfl]at e;split at e
    ·cases e;cases xo
    ·cases e
   ·rw[ai h]at e;exact e
  exact R.ap j k t u b hjk (gen ej tj) (gen ek tk) tj tk vj vk
theorem Qr(h:PE X e (ue i)):PE X e (tF G (cFz i)):=PE.weak (PE.ghost h) λσ H Q hh=>by
 obtain⟨F,ρ,H0,d,ρ',R,e,k⟩:=hh;unfold cFz at e;split at e
 ·rename_i ds e0;cases e;obtain⟨a,xs,h1,h2,h3,h4,h5⟩:=R.sl i _ e0;have rr:Rep G (upd H0 a (.lst xs)) (.lst ds) (.ref a):=uj nv (nt.mono (nI h3 _) _ _ h5);exact⟨_,qQ h1,.inl (k _ _ _ (nI h3 _) (R.toIm e0 h1 rfl h2 h3 h4 rr) rr)⟩
 ·rename_i ks ds e0;cases e;obtain⟨a,xs,h1,h2,h3,h4,h5,h6⟩:=R.sl i _ e0;refine⟨_,qQ h1,.inr ⟨a,_,h2,λo=>?_⟩⟩;have rr:Rep G (upd H0 a (.frz o (.dK (ks.zip xs)))) (.dic ks ds) (.ref a):=by unfold Rep;exact⟨a,o,xs,rfl,nv,h5,nt.mono (nI h3 _) _ _ h6⟩
  exact k _ _ _ (nI h3 _) (R.toImD e0 h1 rfl h3 h4 rr) rr
 ·rename_i d' e0;cases e;obtain⟨v,e2,e3⟩:=R.sl i _ e0;exact⟨v,qQ e2,.inl (k _ _ _ (nz.refl _) R e3)⟩
 ·cases e
def Ku(i:Nat):FA:=λρ=>match ρ[i]? with
 |some (.ls ds)=>some (ds,ρ.set i .un)
 |_=>none
theorem Kv(h:PE X e (ue i)):PE X e (tFN G (Ku i)):=PE.weak h λσ H Q hh=>by
 obtain⟨F,ρ,H0,d,ρ',R,e,k⟩:=hh;unfold Ku at e;split at e
 ·rename_i ds e0;cases e;obtain⟨a,xs,h1,h2,h3,h4,h5⟩:=R.sl i _ e0;have gen:∀{m:Nat} {x:Sl},(ρ.set i .un)[m]?=some x->x.own=true->m≠i/\ρ[m]?=some x:=λ{m x} e xo=>by
   rw[bq]at e;by_cases h:i=m
   ·subst h;rw[ah rfl]at e;split at e
    ·cases e;cases xo
    ·cases e
   ·rw[ai h]at e;exact⟨λz=>h z.symm,e⟩
  have R':nG G F σ (ρ.set i .un) H0 H:={
   sub:=R.sub,g0:=R.g0,keep:=R.keep,fr:=R.fr,am:=R.am
   len:=by rw[cH];exact R.len
   sl:=λj t e=>by
    rw[bq]at e;by_cases h:i=j
    ·subst h;rw[ah rfl]at e;split at e
     ·cases e;trivial
     ·cases e
    ·rw[ai h]at e;exact R.sl j t e
   ap:=λj k t u b hjk ej ek tj tk vj vk=>R.ap j k t u b hjk (gen ej tj).2 (gen ek tk).2 tj tk vj vk }
  refine⟨_,qQ h1,k a xs _ _ (nz.refl _) R' h2 h3 h4 (λj t ej to z=>?_) h5⟩;obtain⟨nj,ej'⟩:=gen ej to;exact R.ap j i t _ a nj ej' e0 to rfl z h1
 ·cases e
end
def spM(G:Bg)(g:List D->List D->Option (D×List D)):Sp:=λvs H Q _=>∃(a:Addr) (us xs:List V) (H0:Hp) (es ds:List D) (d:D) (es':List D),vs=.ref a::us/\H a=some (.lst xs)/\H0 a=none/\nz H0 H/\nt G H0 es xs/\nt G H0 ds us/\g es ds=some (d,es')/\
 ∀v xs' H0' H',nz H0 H0'->nz H0' H'->(∀b o,H b=some o->b≠a->H' b=some o)->(∀b o,H0' b=some o->H0 b=some o\/H b=none)->H0' a=none->H' a=some (.lst xs')->nt G H0' es' xs'->Rep G H0' d v->Q v H'
def stM(n:Nat)(es ds:List D):List Sl:=.pm es::stE (n - 1) ds
def wU(ρ:List Sl):Option (List D):=match ρ with
 |.pm es::_=>some es
 |_=>none
def fnM(np n:Nat)(f:FS):List D->List D->Option (D×List D):=λes ds=>if ds.length=np then match f (stM n es ds)with
 |some (.rt d ρ)=>match wU ρ with
  |some es'=>some (d,es')
  |none=>none
 |some (.rn xs ρ)=>match wU ρ with
  |some es'=>some (.lst xs,es')
  |none=>none
 |_=>none
 else none
theorem zv{es:List D}(h:wU ρ=some es):ρ[0]?=some (.pm es):=by
 unfold wU at h;split at h
 ·cases h;rfl
 ·cases h
variable{es':List D}
theorem Cq{n:Nat}{f:FS}{es:List D}(h:fnM np n f es ds=some (d,es')):ds.length=np/\((∃ρ,f (stM n es ds)=some (.rt d ρ)/\ρ[0]?=some (.pm es'))\/∃xs ρ,f (stM n es ds)=some (.rn xs ρ)/\ρ[0]?=some (.pm es')/\d=.lst xs):=by
 unfold fnM at h;split at h
 ·rename_i hl;refine⟨hl,?_⟩;split at h
  ·rename_i x ρ e;cases e2:wU ρ with
   |none=>simp only[e2]at h;cases h
   |some q=>simp only[e2]at h;cases h;exact .inl ⟨ρ,e,zv e2⟩
  ·rename_i x ρ e;cases e2:wU ρ with
   |none=>simp only[e2]at h;cases h
   |some q=>simp only[e2]at h;cases h;exact .inr ⟨x,ρ,e,zv e2,rfl⟩
  ·cases h
 ·cases h
section
variable{X:Cx}{G:Bg}
theorem Kw{f:FS}{H:Hp}{Q:VK}(hN:np+1<=N.length)(h:spM G (fnM np N.length f) vs H Q E):tFS G f { nx:=λ_ H'=>Q .non H',rt:=Q } (L2.start N vs) H:=by
 obtain⟨a,us,xs,H0,es,ds,d,es',rfl,ha,h0,s,r1,r,e,k⟩:=h;obtain⟨hl,e1⟩:=Cq e;have hul:us.length=np:=by rw[<-nu r];exact hl
 have gets:∀{i:Nat} {t:Sl},(stM N.length es ds)[i]?=some t->(i=0/\t=.pm es)\/t=.un\/∃(j:Nat) (d:D),i=j+1/\ds[j]?=some d/\t=.im d:=λ{i t} e=>by
  cases i with
  |zero=>cases e;exact .inl ⟨rfl,rfl⟩
  |succ j=>
   have e':(stE (N.length - 1) ds)[j]?=some t:=e;rcases wQ e' with rfl|⟨d,e1,rfl⟩
   ·exact .inr (.inl rfl)
   ·exact .inr (.inr ⟨j,d,rfl,e1,rfl⟩)
 have R:nG G ⟨H0,H,[a]⟩ (L2.start N (.ref a::us)) (stM N.length es ds) H0 H:={
  sub:=s
  g0:=nz.refl _
  keep:=λb o e _=>e
  fr:=λb o e=>.inl e
  am:=λb hb=>by
   have eb:b=a:=by simpa using hb
   subst eb;exact⟨_,ha⟩
  len:=by unfold L2.start stM stE;simp only[aC,ag,bN,aD];have:=nu r;omega
  sl:=λi t e=>by
   rcases gets e with ⟨rfl,rfl⟩|rfl|⟨j,d,rfl,e1,rfl⟩
   ·exact⟨a,xs,rq rfl,ha,h0,by simp,r1⟩
   ·trivial
   ·obtain⟨v,e2,e3⟩:=rM r e1;exact⟨v,rq (by simpa using e2),e3⟩
  ap:=λi j t u b hij ei ej ht hu=>by
   rcases gets ei with ⟨rfl,rfl⟩|rfl|⟨_,_,_,_,rfl⟩
   ·rcases gets ej with ⟨rfl,rfl⟩|rfl|⟨_,_,_,_,rfl⟩
    ·exact ak rfl hij
    ·cases hu
    ·cases hu
   ·cases ht
   ·cases ht }
 have fin:∀{v:V} {σ':St} {ρ':List Sl} {H0' H':Hp},nz H0 H0'->nG G ⟨H0,H,[a]⟩ σ' ρ' H0' H'->ρ'[0]?=some (.pm es')->Rep G H0' d v->Q v H':=λs' R' e2 rv=>by
  obtain⟨a',ys,q1,q2,q3,q4,q5⟩:=R'.sl 0 _ e2;have ea:a'=a:=by simpa using q4
  subst ea;exact k _ ys _ _ s' R'.sub (λb o e n=>R'.keep b o e (by simpa using n)) R'.fr q3 q2 q5 rv
 rcases e1 with ⟨ρ,e1,e2⟩|⟨zs,ρ,e1,e2,rfl⟩
 ·exact⟨_,_,H0,_,R,e1,λv σ' H0' H' s' R' rv=>fin s' R' e2 rv,λ_=>rfl⟩
 ·refine⟨_,_,H0,_,R,e1,λp ys σ' H0' H' s' R' hp hp0 hb ap rs=>?_,λ_=>rfl⟩;exact fin (s'.trans (nI hp0 _)) (R'.freeze hp hp0 hb ap) e2 (uj nv (nt.mono (nI hp0 _) _ _ rs))
theorem Qs{g:List D->List D->Option (D×List D)}(hg:∀es ds d,g es ds=some d->ds.length=np):∀vs H Q E,spM G g vs H Q E->vs.length=np+1:=λvs H Q E h=>by obtain⟨a,us,xs,H0,es,ds,d,es',rfl,_,_,_,_,r,e,_⟩:=h;rw[aD,<- nu r,hg _ _ _ e]
theorem Ky{n:Nat}{f:FS}:∀es ds d,fnM np n f es ds=some d->ds.length=np:=λ_ _ d h=>(Cq (d:=d.1) (es':=d.2) h).1
theorem nG.call1{H:Hp}(R:nG G F σ ρ H0 H){s:Sl}{es:List D}{b:Addr}{zs:List V}(hi:ρ[i]?=some s)(hs:s.L=some es)(hb:(σ[i]?).join=some (.ref b))
  (s1:nz H0 H0') (s2:nz H0' H') (s3:∀c o,H c=some o->c≠b->H' c=some o) (fr:∀c o,H0' c=some o->H0 c=some o\/H c=none) (h0:H0' b=none) (hz:H' b=some (.lst zs)) (r:nt G H0' es' zs):
  nG G F σ (ρ.set i (s.putL es')) H0' H':=by
 have so:=Sl.L_own hs;obtain⟨b',u,e1,e2,e3,e4⟩:=(R.sl i s hi).at so;rw[hb]at e1;cases e1;exact {
  sub:=s2
  g0:=R.g0.trans s1
  keep:=λc o e n=>by
   refine s3 c o (R.keep c o e n) λz=>?_;subst z;rcases e4 with q|q
   ·rw[q]at e;cases e
   ·exact n q
  fr:=λc o e=>by
   rcases fr c o e with q|q
   ·exact R.fr c o q
   ·exact .inr (R.bNone q)
  am:=λc hc=>by
   by_cases z:c=b
   ·subst z;exact⟨_,hz⟩
   ·obtain⟨o,q⟩:=R.am c hc;exact⟨o,s3 c o q z⟩
  len:=by rw[cH];exact R.len
  sl:=λj t e=>by
   rw[bq]at e;by_cases h:i=j
   ·subst h;rw[ah rfl]at e;split at e
    ·cases e;rw[hb];have ok:=R.sl i s hi;rw[hb]at ok;cases s with
     |ls ds0=>obtain⟨c,xs,h1,h2,h3,h4,h5⟩:=ok;cases h1;exact⟨b,zs,rfl,hz,h0,h4,r⟩
     |pm ds0=>obtain⟨c,xs,h1,h2,h3,h4,h5⟩:=ok;cases h1;exact⟨b,zs,rfl,hz,h0,h4,r⟩
     |_=>cases hs
    ·cases e
   ·rw[ai h]at e;refine(R.sl j t e).grow s1 (λc w z to q=>s3 c w q λy=>?_) λc w z to q q0=>?_
    ·subst y;exact R.ap j i t s c (λy=>h y.symm) e hi to so z hb
    ·cases y:H0' c with
     |none=>rfl
     |some o=>
      rcases fr c o y with x|x
      ·rw[x]at q0;cases q0
      ·rw[x]at q;cases q
  ap:=λj k t u c hjk ej ek tj tk vj vk=>by
   have gen:∀{m:Nat} {x:Sl},(ρ.set i (s.putL es'))[m]?=some x->∃y,ρ[m]?=some y/\(x.own=true->y.own=true):=λ{m x} e=>by
    rw[bq]at e;by_cases h:i=m
    ·subst h;exact⟨s,hi,λ_=>so⟩
    ·rw[ai h]at e;exact⟨x,e,λq=>q⟩
   obtain⟨y,ey,oy⟩:=gen ej;obtain⟨z,ez,oz⟩:=gen ek;exact R.ap j k y z c hjk ey ez (oy tj) (oz tk) vj vk }
def sJ(g:List D->List D->Option (D×List D))(i:Nat)(a:FA):FE:=λρ=>match pI ρ i with
 |some _=>match a ρ with
  |some (ds,ρ1)=>match pI ρ1 i with
   |some es=>match g es ds with
    |some (d,es')=>some (d,putAt ρ1 i es')
    |none=>none
   |none=>none
  |none=>none
 |none=>none
theorem M6{g:List D->List D->Option (D×List D)}{a:FA}(h:PE X e (vT (spM G g) [] E (vS (ue i) (tFA G a)))):PE X e (tF G (sJ g i a)):=PE.weak h λσ H Q hh=>by
 obtain⟨F,ρ,H0,d,ρ',R,e,k⟩:=hh;unfold sJ at e;cases e0:pI ρ i with
 |none=>simp only[e0]at e;cases e
 |some ds0=>
  simp only[e0]at e;rcases nM (f:=a) (ρ:=ρ)with e1|⟨ds,ρ1,e1⟩<;>simp only[e1]at e
  ·cases e
  ·cases e2:pI ρ1 i with
   |none=>simp only[e2]at e;cases e
   |some es=>
    simp only[e2]at e;cases e3:g es ds with
    |none=>simp only[e3]at e;cases e
    |some q=>
     obtain⟨d1,es'⟩:=q;simp only[e3]at e;cases e;obtain⟨b,xs,s1,s2,s3,_⟩:=qr R e0;refine⟨.ref b,s1,F,ρ,H0,ds,ρ1,R,e1,λys H1 H1' s R' rs=>?_⟩;obtain⟨s,es0,es1⟩:=rA e2;obtain⟨b',xs',t1,t2,t3,t4⟩:=(R'.sl i s es0).lst es1;rw[qQ t1]at s1;cases s1;refine⟨b,ys,xs',H1,es,ds,d,es',?_,t2,t3,R'.sub,t4,rs,e3,λv zs H2 H2' u1 u2 u3 fr w0 w1 w2 w3=>?_⟩
     ·show V.ref b::ys++[]=_;rw[br]
     ·refine k _ _ _ (nz.trans ‹nz H0 H1› u1) ?_ w3;unfold putAt;rw[es0];exact R'.call1 es0 es1 t1 u1 u2 u3 fr w0 w1 w2
def Walk(G:Bg)(J:It)(ds:List D)(H0:Hp):Prop:=∀(i:Nat) (H1 H1':Hp),nz H0 H1->nz H1 H1'->
 (∀d,ds[i]?=some d->J.go i H1'/\∀x H2',J.yld i H1' x H2'->∃H2,nz H1 H2/\nz H2 H2'/\nz H1' H2'/\(∀b o,H2 b=some o->H1 b=some o\/H1' b=none)/\Rep G H2 d x)/\(i=ds.length->J.stop i H1')
def tFI(G:Bg)(f:FA):TI:=λσ H R=>∃F ρ H0 ds ρ',nG G F σ ρ H0 H/\f ρ=some (ds,ρ')/\∀J H0' H',nz H0 H0'->nG G F σ ρ' H0' H'->Walk G J ds H0'->R J H'
theorem PI.weak{t t':TI}(h:PI X tg e t)(w:∀σ H R,t' σ H R->t σ H R):PI X tg e t':=λpins s σ H R I hq=>h pins s σ H R I (w _ _ _ hq)
theorem zw(h:SqL G.K H0 a xs)(r:nt G H0 ds xs):Walk G (Itl G.K a) ds H0:=λi H1 H1' s s'=>by have h1:SqL G.K H1' a xs:=(s.trans s').seq h;refine⟨λd e=>?_,λhl=>⟨xs,h1,by rw[<-nu r,hl];exact aE _⟩⟩;obtain⟨v,e1,e2⟩:=rM r e;refine⟨⟨xs,v,h1,e1⟩,λx H2' y=>?_⟩;obtain⟨e3,e4⟩:=y;have e5:=e4 xs h1;rw[e1]at e5;cases e5;subst e3;exact⟨H1,nz.refl _,s',nz.refl _,λb o e=>.inl e,Rep.mono s _ _ e2⟩
theorem HB(h:SqT G.K H0 a xs)(r:nt G H0 ds xs):Walk G (Itt G.K a) ds H0:=λi H1 H1' s s'=>by have h1:SqT G.K H1' a xs:=SqT.mono (s.trans s') h;refine⟨λd e=>?_,λhl=>⟨xs,h1,by rw[<-nu r,hl];exact aE _⟩⟩;obtain⟨v,e1,e2⟩:=rM r e;refine⟨⟨xs,v,h1,e1⟩,λx H2' y=>?_⟩;obtain⟨e3,e4⟩:=y;have e5:=e4 xs h1;rw[e1]at e5;cases e5;subst e3;exact⟨H1,nz.refl _,s',nz.refl _,λb o e=>.inl e,Rep.mono s _ _ e2⟩
def iL(f:FE):FA:=λρ=>match f ρ with
 |some (.lst ds,ρ')=>some (ds,ρ')
 |some (.fzl ds,ρ')=>some (ds,ρ')
 |_=>none
def iT(f:FE):FA:=λρ=>match f ρ with
 |some (.tup ds,ρ')=>some (ds,ρ')
 |_=>none
theorem Cr(h:PI X tg e (GK G.K (tF G f))):PI X tg e (tFI G (iL f)):=PI.weak h λσ H R hh=>by
 obtain⟨F,ρ,H0,ds,ρ',R,e,k⟩:=hh;unfold iL at e;split at e
 ·rename_i ds' ρ1 e1;cases e;refine⟨F,ρ,H0,_,_,R,e1,λv H1 H1' s R' r=>?_⟩;unfold Rep at r;obtain⟨a,xs,rfl,r1,r2⟩:=r;exact⟨a,rfl,⟨xs,R'.sub.seq (SqL.of r1)⟩,k _ _ _ s R' (zw (SqL.of r1) r2)⟩
 ·rename_i ds' ρ1 e1;cases e;refine⟨F,ρ,H0,_,_,R,e1,λv H1 H1' s R' r=>?_⟩;unfold Rep at r;obtain⟨a,xs,rfl,r1,r2⟩:=r;exact⟨a,rfl,⟨xs,R'.sub.seq r1⟩,k _ _ _ s R' (zw r1 r2)⟩
 ·cases e
theorem Kz(h:PI X tg e (Mp G.K (tF G f))):PI X tg e (tFI G (iT f)):=PI.weak h λσ H R hh=>by
 obtain⟨F,ρ,H0,ds,ρ',R,e,k⟩:=hh;unfold iT at e;split at e
 ·rename_i ds' ρ1 e1;cases e;refine⟨F,ρ,H0,_,_,R,e1,λv H1 H1' s R' r=>?_⟩;unfold Rep at r;obtain⟨a,xs,rfl,r1,r2⟩:=r;exact⟨a,rfl,⟨xs,SqT.mono R'.sub r1⟩,k _ _ _ s R' (HB r1 r2)⟩
 ·cases e
def wx(lo:Int)(n:Nat):List D:=(aS n).map λ(i:Nat)=>D.int (lo+(i:Int))
theorem Cs{lo:Int}{n:Nat}:Walk G (Itr lo n) (wx lo n) H0:=λi H1 H1' s s'=>by
 refine⟨λd e=>?_,λhl=>by show n<=i;rw[hl];simp[wx]⟩;unfold wx at e;rw[aX]at e;by_cases hi:i<n
 ·rw[jx hi]at e;cases e;refine⟨hi,λx H2' y=>?_⟩;obtain⟨e3,rfl⟩:=y;subst e3;exact⟨H1,nz.refl _,s',nz.refl _,λb o e=>.inl e,pJ _⟩
 ·rw[fE (by simpa using hi)]at e;cases e
def iR1(f:FE):FA:=λρ=>match f ρ with
 |some (.int n,ρ')=>if -1000000<=n/\n<=1000000 then some (wx 0 n.toNat,ρ')else none
 |_=>none
theorem DL(h:PI X tg e (LA (tFA G (aCons f oe)))):PI X tg e (tFI G (iR1 f)):=PI.weak h λσ H R hh=>by
 obtain⟨F,ρ,H0,ds,ρ',R,e,k⟩:=hh;unfold iR1 at e;split at e
 ·rename_i n ρ1 e1;split at e
  ·rename_i hn;cases e;refine⟨F,ρ,H0,[.int n],_,R,by unfold aCons;rw[e1];rfl,λxs H1 H1' s R' rs=>?_⟩;unfold nt at rs;obtain⟨v,r0,rfl,rv,rn⟩:=rs;unfold nt at rn;unfold Rep at rv;subst rn rv;exact⟨n,rfl,by omega,by omega,k _ _ _ s R' Cs⟩
  ·cases e
 ·cases e
def forL(g:FG)(b:FS):List D->FS
 |[],ρ=>some (.nx ρ)
 |d::r,ρ=>match g d ρ with
  |none=>none
  |some ρ1=>match b ρ1 with
   |some (.nx ρ2)=>forL g b r ρ2
   |some (.ct ρ2)=>forL g b r ρ2
   |some (.bk ρ2)=>some (.nx ρ2)
   |some (.rt d ρ2)=>some (.rt d ρ2)
   |some (.rn d ρ2)=>some (.rn d ρ2)
   |none=>none
def qt(s:FA)(g:FG)(b:FS):FS:=λρ=>match s ρ with
 |some (ds,ρ')=>forL g b ds ρ'
 |none=>none
theorem KA{n:Nat}{s:FA}{g:FG}{b:FS}(h:PS X st (Mr (tFI G s) (tFG G n g) (tFS G b))):PS X st (tFS G (qt s g b)):=PS.weak h λE σ H hh=>by
 obtain⟨F,ρ,H0,o,R,e,k,k2⟩:=hh;unfold qt at e;rcases nM (f:=s) (ρ:=ρ)with e1|⟨ds,ρ1,e1⟩<;>simp only[e1]at e
 ·cases e
 ·refine⟨F,ρ,H0,ds,ρ1,R,e1,λJ H1 H1' s1 R1 wk=>?_⟩;refine⟨λi m σ H=>m=ds.length - i/\i<=ds.length/\∃ρi Hi,nz H1 Hi/\nG G F σ ρi Hi H/\forL g b (ds.drop i) ρi=some o,⟨_,rfl,cw _,ρ1,H1,nz.refl _,R1,e⟩,?_⟩;rintro i m σi Hi' ⟨rfl,hi,ρi,Hi,si,Ri,ei⟩;by_cases hlt:i<ds.length
  ·have ed:ds.drop i=ds[i]::ds.drop (i+1):=gn hlt;rw[ed]at ei;unfold forL at ei;obtain⟨go,yl⟩:=(wk i Hi Hi' si Ri.sub).1 ds[i] (aV hlt);refine .inr ⟨go,λσ' H'=>∃ρi Hi,nz H1 Hi/\nG G F σ' ρi Hi H'/\forL g b (ds.drop (i+1)) ρi=some o,λσ' H' q=>⟨ds.length - (i+1),by omega,rfl,hlt,q⟩,λx H' y=>?_⟩;obtain⟨H2,t1,t2,t3,t4,t5⟩:=yl x H' y;have R2:=Ri.grow t3 t1 t2 t4;cases e2:g ds[i] ρi with
   |none=>simp only[e2]at ei;cases ei
   |some ρ2=>
    simp only[e2]at ei;refine⟨F,ρi,H2,_,ρ2,R2,t5,e2,λσ3 _ R3=>?_⟩;have kk:=k.back (s1.trans (si.trans t1));cases e3:b ρ2 with
    |none=>simp only[e3]at ei;cases ei
    |some q=>
     refine⟨F,ρ2,H2,q,R3,e3,?_,λ_=>rfl⟩;cases q with
     |nx ρ3=>simp only[e3]at ei;exact λσ' H0' H' s' R'=>⟨ρ3,H0',si.trans (t1.trans s'),R',ei⟩
     |ct ρ3=>simp only[e3]at ei;exact λσ' H0' H' s' R'=>⟨ρ3,H0',si.trans (t1.trans s'),R',ei⟩
     |bk ρ3=>simp only[e3]at ei;cases ei;exact kk
     |rt d ρ3=>simp only[e3]at ei;cases ei;exact kk
     |rn d ρ3=>simp only[e3]at ei;cases ei;exact kk
  ·have ez:ds.drop i=[]:=jc (by omega);rw[ez]at ei;unfold forL at ei;cases ei;exact .inl ⟨(wk i Hi Hi' si Ri.sub).2 (by omega),k _ _ _ (s1.trans si) Ri⟩
end
def Sl.cap:Sl->Sl
 |.im d=>.im d
 |.ls ds=>.pm ds
 |.pm ds=>.pm ds
 |_=>.un
def xQ(k:Nat)(cap:List Nat)(ρ:List Sl):List Sl:=fQ k .un++cap.map λj=>((ρ[j]?).getD .un).cap
def qR:List Nat->List Sl->List Sl->Option (List Sl)
 |[],_,ρ=>some ρ
 |j::cap,t::ts,ρ=>match pI ρ j with
  |some _=>match t with
   |.pm ds=>qR cap ts (putAt ρ j ds)
   |_=>none
  |none=>qR cap ts ρ
 |_::_,[],_=>none
def su(k:Nat)(cap:List Nat)(g:FG)(ft:FT)(fe:FE):List D->List Sl->Option (List D×List Sl)
 |[],ρ=>some ([],ρ)
 |d::r,ρ=>match g d (xQ k cap ρ)with
  |none=>none
  |some ρ1=>match ft ρ1 with
   |some (true,ρ2)=>match fe ρ2 with
    |some (x,ρ3)=>match qR cap (ρ3.drop k) ρ with
     |some ρ'=>match su k cap g ft fe r ρ' with
      |some (xs,ρ'')=>some (x::xs,ρ'')
      |none=>none
     |none=>none
    |none=>none
   |some (false,ρ2)=>match qR cap (ρ2.drop k) ρ with
    |some ρ'=>su k cap g ft fe r ρ'
    |none=>none
   |none=>none
def nJ(k:Nat)(cap:List Nat)(s:FA)(g:FG)(ft:FT)(fe:FE):FA:=λρ=>match s ρ with
 |some (ds,ρ')=>if ds.length<=1000 then su k cap g ft fe ds ρ' else none
 |none=>none
def oK:FT:=λρ=>some (true,ρ)
theorem um:∀{cap:List Nat} {ts ρ ρ':List Sl},qR cap ts ρ=some ρ'->ρ'.length=ρ.length/\
  (∀(j:Nat) (s':Sl),ρ'[j]?=some s'->∃s,ρ[j]?=some s/\((s'=s/\(s.L≠none->j∉cap))\/∃(m:Nat) (ds ds0:List D),cap[m]?=some j/\ts[m]?=some (Sl.pm ds)/\s.L=some ds0/\s'=s.putL ds))
 |[],ts,ρ,ρ',h=>by cases h;exact⟨rfl,λj s' e=>⟨s',e,.inl ⟨rfl,λ_ z=>by cases z⟩⟩⟩
 |j0::cap,[],ρ,ρ',h=>by cases h
 |j0::cap,t::ts,ρ,ρ',h=>by
  unfold qR at h;cases e0:pI ρ j0 with
  |none=>
   simp only[e0]at h;obtain⟨h1,h2⟩:=um h;refine⟨h1,λj s' e=>?_⟩;obtain⟨s,e1,q⟩:=h2 j s' e;refine⟨s,e1,?_⟩;rcases q with ⟨rfl,q⟩|⟨m,ds,ds0,q1,q2,q3,q4⟩
   ·refine .inl ⟨rfl,λz y=>?_⟩;rcases aO.mp y with y|y
    ·subst y;unfold pI at e0;rw[e1]at e0;exact z e0
    ·exact q z y
   ·exact .inr ⟨m+1,ds,ds0,q1,q2,q3,q4⟩
  |some ds1=>
   simp only[e0]at h;cases t with
   |pm ds=>
    simp only at h;obtain⟨s0,e1,e2⟩:=rA e0;unfold putAt at h;rw[e1]at h;simp only at h;obtain⟨h1,h2⟩:=um h;refine⟨by rw[h1,cH],λj s' e=>?_⟩;obtain⟨s,e3,q⟩:=h2 j s' e;by_cases hj:j0=j
    ·subst hj;rw[bq,ah rfl]at e3;split at e3
     ·cases e3;refine⟨s0,e1,.inr ?_⟩;rcases q with ⟨rfl,q⟩|⟨m,ds',ds0,q1,q2,q3,q4⟩
      ·exact⟨0,ds,ds1,rfl,rfl,e2,rfl⟩
      ·refine⟨m+1,ds',ds1,q1,q2,e2,?_⟩;rw[q4];cases s0<;>rfl
     ·cases e3
    ·rw[bq,ai hj]at e3;refine⟨s,e3,?_⟩;rcases q with ⟨rfl,q⟩|⟨m,ds',ds0,q1,q2,q3,q4⟩
     ·refine .inl ⟨rfl,λz y=>?_⟩;rcases aO.mp y with y|y
      ·exact hj y.symm
      ·exact q z y
     ·exact .inr ⟨m+1,ds',ds0,q1,q2,q3,q4⟩
   |_=>cases h
def Aj(cap:List Nat)(σ:St)(ρ:List Sl):List Addr:=cap.filterMap λj=>match pI ρ j,(σ[j]?).join with
 |some _,some (.ref a)=>some a
 |_,_=>none
theorem uS{cap:List Nat}:a∈Aj cap σ ρ ↔ ∃j∈cap,(∃ds,pI ρ j=some ds)/\(σ[j]?).join=some (.ref a):=by
 unfold Aj;rw[fI];constructor
 ·rintro⟨j,hj,e⟩;refine⟨j,hj,?_⟩;split at e
  ·rename_i ds a' e1 e2;cases e;exact⟨⟨ds,e1⟩,e2⟩
  ·cases e
 ·rintro⟨j,hj,⟨ds,e1⟩,e2⟩;refine⟨j,hj,?_⟩;rw[e1,e2]
variable{H1':Hp}{ft:FT}{fe:FE}
section
variable{X:Cx}{G:Bg}{F:Fr}{σ:St}{ρ:List Sl}{H0 H:Hp}
theorem zx{k:Nat}{cap:List Nat}{s:Sl}(h:(xQ k cap ρ)[i]?=some s):s=.un\/∃m j,i=k+m/\cap[m]?=some j/\s=((ρ[j]?).getD .un).cap:=by
 unfold xQ at h;by_cases hi:i<k
 ·rw[dg (by simpa using hi),fz,ah hi]at h;cases h;exact .inl rfl
 ·rw[df (by simpa using jX hi),bN,aX]at h;cases e:cap[i - k]? with
  |none=>rw[e]at h;cases h
  |some j=>rw[e]at h;cases h;exact .inr ⟨i - k,j,by omega,e,rfl⟩
theorem wV{k:Nat}{cap:List Nat}{m:Nat}(h:cap[m]?=some j):((qP k cap σ)[k+m]?).join=(σ[j]?).join:=by unfold qP;rw[df (by simp),bN,show k+m - k=m by omega,aX,h];rfl
theorem nG.cap(R:nG G F σ ρ H0 H)(k:Nat)(cap:List Nat)(nd:cap.Nodup):nG G ⟨H0,H,Aj cap σ ρ⟩ (qP k cap σ) (xQ k cap ρ) H0 H where
 sub:=R.sub
 g0:=nz.refl _
 keep:=λb o e _=>e
 fr:=λb o e=>.inl e
 am:=λa ha=>by obtain⟨j,hj,⟨ds,e1⟩,e2⟩:=uS.mp ha;obtain⟨s,e3,e4⟩:=rA e1;obtain⟨a',xs,h1,h2,_⟩:=(R.sl j s e3).lst e4;rw[e2]at h1;cases h1;exact⟨_,h2⟩
 len:=by unfold qP xQ;rw[aC,aC,bN,bN,ag,ag]
 sl:=λi s e=>by
  rcases zx e with rfl|⟨m,j,rfl,e1,rfl⟩
  ·trivial
  ·rw[wV e1];cases e2:ρ[j]? with
   |none=>trivial
   |some s=>
    have ok:=R.sl j s e2;have mem:∀{a:Addr} {ds:List D},s.L=some ds->(σ[j]?).join=some (.ref a)->a∈Aj cap σ ρ:=λh1 h2=>uS.mpr ⟨j,bx e1,⟨_,by unfold pI;rw[e2];exact h1⟩,h2⟩;cases s with
    |un=>trivial
    |im d=>exact ok
    |ls ds=>obtain⟨a,xs,h1,h2,h3,h4,h5⟩:=ok;exact⟨a,xs,h1,h2,h3,mem rfl h1,h5⟩
    |pm ds=>obtain⟨a,xs,h1,h2,h3,h4,h5⟩:=ok;exact⟨a,xs,h1,h2,h3,mem rfl h1,h5⟩
    |dk ks ds=>trivial
    |ob c ns ds=>trivial
 ap:=λi i' s t a hii e e' so to v v'=>by
  rcases zx e with rfl|⟨m,j,rfl,e1,rfl⟩
  ·cases so
  rcases zx e' with rfl|⟨m',j',rfl,e1',rfl⟩
  ·cases to
  rw[wV e1]at v;rw[wV e1']at v';have own:∀{j:Nat},(((ρ[j]?).getD Sl.un).cap).own=true->∃s,ρ[j]?=some s/\s.own=true:=λ{j} h=>by
   cases z:ρ[j]? with
   |none=>rw[z]at h;cases h
   |some s=>rw[z]at h;refine⟨s,rfl,?_⟩;cases s<;>first|rfl|cases h
  obtain⟨s,z,zo⟩:=own so;obtain⟨s',z',zo'⟩:=own to;by_cases hj:j=j'
  ·subst hj;have:m=m':=(List.getElem?_inj (bu.mp e1).1 nd).mp (e1.trans e1'.symm);exact hii (by rw[this])
  ·exact R.ap j j' s s' a hj z z' zo zo' v v'
theorem nG.uncap(R:nG G F σ ρ H0 H){k:Nat}{cap:List Nat}{σ4:St}{ρ4:List Sl}(R4:nG G ⟨H0,H,Aj cap σ ρ⟩ σ4 ρ4 H1 H1')(hd:σ4.drop k=(qP k cap σ).drop k)(hu:qR cap (ρ4.drop k) ρ=some ρ'):nG G F σ ρ' H1 H1':=by
 obtain⟨hl,hc⟩:=um hu;have at4:∀{m j:Nat},cap[m]?=some j->(σ4[k+m]?).join=(σ[j]?).join:=λ{m j} e=>by
  have q:(σ4.drop k)[m]?=((qP k cap σ).drop k)[m]?:=by rw[hd]
  rw[cO,cO]at q;rw[q];exact wV e
 have nA:∀{j:Nat} {s:Sl} {a:Addr},ρ[j]?=some s->s.own=true->(σ[j]?).join=some (.ref a)->(s.L≠none->j∉cap)->a∉Aj cap σ ρ:=λ{j s a} e so z hn ha=>by
  obtain⟨i,hi,⟨ds,e1⟩,e2⟩:=uS.mp ha;obtain⟨t,e3,e4⟩:=rA e1;by_cases hij:i=j
  ·subst hij;rw[e]at e3;cases e3;exact hn (by rw[e4];simp) hi
  ·exact R.ap i j t s a hij e3 e (Sl.L_own e4) so e2 z
 have hA:∀a∈Aj cap σ ρ,F.B a=none\/a∈F.A:=λa ha=>by obtain⟨i,hi,⟨ds,e1⟩,e2⟩:=uS.mp ha;obtain⟨t,e3,e4⟩:=rA e1;obtain⟨a',u,h1,h2,h3,h4⟩:=(R.sl i t e3).at (Sl.L_own e4);rw[e2]at h1;cases h1;exact h4
 have own':∀{j:Nat} {s':Sl},ρ'[j]?=some s'->s'.own=true->∃s,ρ[j]?=some s/\s.own=true:=λ{j s'} e so=>by
  obtain⟨s,e1,q⟩:=hc j s' e;rcases q with ⟨rfl,q⟩|⟨m,ds,ds0,q1,q2,q3,q4⟩
  ·exact⟨s',e1,so⟩
  ·exact⟨s,e1,Sl.L_own q3⟩
 exact {
  sub:=R4.sub
  g0:=R.g0.trans R4.g0
  keep:=λb o e n=>by
   refine R4.keep b o (R.keep b o e n) λha=>?_;rcases hA b ha with q|q
   ·rw[q]at e;cases e
   ·exact n q
  fr:=λb o e=>by
   rcases R4.fr b o e with q|q
   ·exact R.fr b o q
   ·exact .inr (R.bNone q)
  am:=λa ha=>by
   obtain⟨o,q⟩:=R.am a ha;by_cases z:a∈Aj cap σ ρ
   ·exact R4.am a z
   ·exact⟨o,R4.keep a o q z⟩
  len:=by rw[hl];exact R.len
  sl:=λj s' e=>by
   obtain⟨s,e1,q⟩:=hc j s' e;rcases q with ⟨rfl,q⟩|⟨m,ds,ds0,q1,q2,q3,q4⟩
   ·refine(R.sl j s' e1).grow R4.g0 (λa u z so y=>R4.keep a u y (nA e1 so z q)) λa u z so y y0=>?_;cases w:H1 a with
    |none=>rfl
    |some o=>
     rcases R4.fr a o w with x|x
     ·have x':H0 a=some o:=x;rw[x']at y0;cases y0
     ·have x':H a=none:=x;rw[x']at y;cases y
   ·rw[cO]at q2;obtain⟨a,xs,h1,h2,h3,h4,h5⟩:=R4.sl _ _ q2;rw[at4 q1]at h1;have ok:=R.sl j s e1;subst q4;cases s with
    |ls ds1=>obtain⟨a',xs',g1,g2,g3,g4,g5⟩:=ok;rw[h1]at g1;cases g1;exact⟨a,xs,h1,h2,h3,g4,h5⟩
    |pm ds1=>obtain⟨a',xs',g1,g2,g3,g4,g5⟩:=ok;rw[h1]at g1;cases g1;exact⟨a,xs,h1,h2,h3,g4,h5⟩
    |_=>cases q3
  ap:=λi j s t a hij ei ej so to v v'=>by
   obtain⟨s0,z,zo⟩:=own' ei so;obtain⟨t0,y,yo⟩:=own' ej to;exact R.ap i j s0 t0 a hij z y zo yo v v' }
theorem uT{k:Nat}{cap:List Nat}{ts:List Sl}(h:Apart σ ρ p)(hu:qR cap ts ρ=some ρ'):Apart σ ρ' p:=λi s' e so=>by
 obtain⟨s,e1,q⟩:=(um hu).2 i s' e;rcases q with ⟨rfl,q⟩|⟨m,ds,ds0,q1,q2,q3,q4⟩
 ·exact h i s' e1 so
 ·exact h i s e1 (Sl.L_own q3)
inductive CI(G:Bg) (F:Fr) (σ:St) (H1:Hp) (p:Addr) (k:Nat) (cap:List Nat) (g:FG) (ft:FT) (fe:FE) (ds es:List D) (ρ':List Sl) (i m:Nat) (acc:List V) (H2:Hp):Prop
 |mk (ρi:List Sl) (Hi:Hp) (dn rest:List D):m=ds.length - i->i<=ds.length->nz H1 Hi->nG G F σ ρi Hi H2->H2 p=some (.lst acc)->Hi p=none->Apart σ ρi p->nt G Hi dn acc->dn.length<=i->su k cap g ft fe (ds.drop i) ρi=some (rest,ρ')->es=dn++rest->CI G F σ H1 p k cap g ft fe ds es ρ' i m acc H2
theorem Bu{k:Nat}{cap:List Nat}{s:FA}{g:FG}(nd:cap.Nodup):∀σ H Q,tFN G (nJ k cap s g ft fe) σ H Q->yg (tFI G s) (tFG G k g) (tFT G ft) (tF G fe) k cap σ H Q:=λσ H Q hh=>by
 obtain⟨F,ρ,H0,es,ρ',R,e,kk⟩:=hh;unfold nJ at e;rcases nM (f:=s) (ρ:=ρ)with e1|⟨ds,ρ1,e1⟩<;>simp only[e1]at e
 ·cases e
 ·split at e
  ·rename_i hlen;refine⟨F,ρ,H0,ds,ρ1,R,e1,λJ H1 H1' s1 R1 wk p hp=>?_⟩;refine⟨CI G F σ H1 p k cap g ft fe ds es ρ',
    ⟨_,ρ1,H1,[],es,rfl,cw _,nz.refl _,R1.newOwn hp _,nv,R1.h0none hp,R1.apart hp,nY,aE _,e,rfl⟩,?_⟩
   rintro i m acc H2 ⟨ρi,Hi,dn,rest,rfl,hi,si,Ri,hp2,hp0,apt,rs,hdn,ei,rfl⟩;by_cases hlt:i<ds.length
   ·have ed:ds.drop i=ds[i]::ds.drop (i+1):=gn hlt;rw[ed]at ei;unfold su at ei;obtain⟨go,yl⟩:=(wk i Hi H2 si Ri.sub).1 ds[i] (aV hlt);refine .inr ⟨go,λx H3 y=>?_⟩;obtain⟨Hj,t1,t2,t3,t4,t5⟩:=yl x H3 y;have R2:=Ri.grow t3 t1 t2 t4;have hp3:H3 p=some (.lst acc):=t3 _ _ hp2;have hpj:Hj p=none:=by
     cases w:Hj p with
     |none=>rfl
     |some o=>
      rcases t4 p o w with z|z
      ·rw[hp0]at z;cases z
      ·rw[hp2]at z;cases z
    have RC:=R2.cap k cap nd;have npA:p∉Aj cap σ ρi:=λz=>by obtain⟨j,_,⟨ds',q1⟩,q2⟩:=uS.mp z;obtain⟨t,q3,q4⟩:=rA q1;exact apt j t q3 (Sl.L_own q4) q2
    cases e2:g ds[i] (xQ k cap ρi)with
    |none=>simp only[e2]at ei;cases ei
    |some ρ2=>
     simp only[e2]at ei;refine⟨_,_,Hj,ds[i],ρ2,RC,t5,e2,λσ4 hd4 R4=>⟨hd4,?_⟩⟩;rcases nM (f:=ft) (ρ:=ρ2)with e3|⟨b,ρ3,e3⟩
     ·simp only[e3]at ei;cases ei
     ·refine⟨_,ρ2,Hj,b,ρ3,R4,e3,λH5 H5' s5 R5=>?_⟩;have keepP:∀{σ':St} {ρ'':List Sl} {Ha Ha':Hp},nG G ⟨Hj,H3,Aj cap σ ρi⟩ σ' ρ'' Ha Ha'->Ha' p=some (.lst acc)/\Ha p=none:=λRz=>by
       refine⟨Rz.keep p _ hp3 npA,?_⟩;refine Option.eq_none_iff_forall_ne_some.mpr λo w2=>?_;rcases Rz.fr p o w2 with z|z
       ·have z':Hj p=some o:=z;rw[hpj]at z';cases z'
       ·have z':H3 p=none:=z;rw[hp3]at z';cases z'
      cases b with
      |false=>
       simp only[e3]at ei;refine B9 ?_;cases e4:qR cap (ρ3.drop k) ρi with
       |none=>simp only[e4]at ei;cases ei
       |some ρn=>simp only[e4]at ei;obtain⟨w1,w2⟩:=keepP R5;exact⟨ds.length - (i+1),by omega,ρn,H5,dn,rest,rfl,hlt,si.trans (t1.trans s5),R2.uncap R5 hd4 e4,w1,w2,uT (k:=k) apt e4,nt.mono (t1.trans s5) _ _ rs,by omega,ei,rfl⟩
      |true=>
       simp only[e3]at ei;refine Ca ?_;rcases nM (f:=fe) (ρ:=ρ3)with e5|⟨x5,ρ5,e5⟩
       ·simp only[e5]at ei;cases ei
       ·simp only[e5]at ei;refine⟨_,ρ3,H5,x5,ρ5,R5,e5,λv H6 H6' s6 R6 rv=>?_⟩;obtain⟨w1,w2⟩:=keepP R6;cases e4:qR cap (ρ5.drop k) ρi with
        |none=>simp only[e4]at ei;cases ei
        |some ρn=>
         simp only[e4]at ei;cases e6:su k cap g ft fe (ds.drop (i+1)) ρn with
         |none=>simp only[e6]at ei;cases ei
         |some q=>
          obtain⟨rest',ρz⟩:=q;simp only[e6]at ei;cases ei;have Rn:=R2.uncap R6 hd4 e4;have lacc:acc.length=dn.length:=(nu rs).symm;refine⟨acc,w1,vH (by omega),ds.length - (i+1),by omega,ρn,H6,dn++[x5],rest',rfl,hlt,si.trans (t1.trans (s5.trans s6)),?_,nv,w2,uT (k:=k) apt e4,pK (nt.mono (t1.trans (s5.trans s6)) _ _ rs) (oi rv nY),by rw[aC,bO];omega,e6,by rw[bI];rfl⟩;exact {
           sub:=λb o e=>by rw[ny (λz=>by rw[z,w2]at e;cases e)];exact Rn.sub b o e
           g0:=Rn.g0
           keep:=λb o e n=>by rw[ny (λz=>by subst z;rw[R1.bNone hp]at e;cases e)];exact Rn.keep b o e n
           fr:=Rn.fr
           am:=λb hb=>by
            by_cases z:b=p
            ·subst z;exact⟨_,nv⟩
            ·rw[ny z];exact Rn.am b hb
           len:=Rn.len
           sl:=λj t ej=>(Rn.sl j t ej).grow (nz.refl _) (λb u z to q=>by rw[ny (λy=>uT (k:=k) apt e4 j t ej to (by rw[z,y]))];exact q) λb u _ _ _ q=>q
           ap:=Rn.ap }
   ·have ez:ds.drop i=[]:=jc (by omega);rw[ez]at ei;unfold su at ei;cases ei;rw[br]at kk;exact .inl ⟨(wk i Hi H2 si Ri.sub).2 (by omega),kk p acc Hi H2 (s1.trans si) Ri hp2 hp0 (R1.bNone hp) apt rs⟩
  ·cases e
theorem HC{k:Nat}{cap:List Nat}{s:FA}{g:FG}(nd:cap.Nodup)(h:PE X e (yg (tFI G s) (tFG G k g) (tFT G ft) (tF G fe) k cap)):PE X e (tFN G (nJ k cap s g ft fe)):=PE.weak h (Bu nd)
theorem HD:PIf X [] (tFT G oK):=λpins s σ H Q I h=>by obtain⟨F,ρ,H0,b,ρ',R,e,k⟩:=h;cases e;exact JW pins s σ H Q I (k _ _ (nz.refl _) R)
end
def p7:D->Bool
 |.non=>true|.bl _=>true|.int _=>true|.str _=>true|_=>false
def vD:D->V
 |.non=>.non|.bl b=>.bl b|.int i=>.int i|.str x=>.str x|_=>.non
variable{r':R2}{g':D->D->Option D}{neg:Bool}{r:List V->Hp->VK->Prop}
section
variable{X:Cx}{G:Bg}{H:Hp}
theorem rN{v:V}(h:Rep G H d v)(f:p7 d=true):v=vD d:=by cases d<;>first|(unfold Rep at h;exact h)|cases f
theorem wW(f:p7 d=true):∀H,Rep G H d (vD d):=λH=>by cases d<;>first|(unfold Rep;rfl)|cases f
theorem xR:∀{ds:List D} {xs:List V},nt G H ds xs->ds.all p7=true->xs=ds.map vD
 |[],xs,h,f=>by unfold nt at h;exact h
 |d::ds,xs,h,f=>by unfold nt at h;obtain⟨v,r,rfl,h1,h2⟩:=h;rw[c3,az]at f;rw[aK,rN h1 f.1,xR h2 f.2]
theorem Ct(f:p7 d=true):vU (vD d)=true:=by cases d<;>first|rfl|cases f
theorem AC:∀{ds:List D},ds.all p7=true->(ds.map vD).all vU=true
 |[],_=>rfl
 |d::ds,f=>by rw[c3,az]at f;rw[aK,c3,Ct f.1,AC f.2];rfl
theorem OpR.or{f:aa->aa->Sem aa}{r:R2}(h:OpR X f r)(h':OpR X f r'):OpR X f (λx y H Q=>r x y H Q\/r' x y H Q):=λpins s σ H x y v u Q I rx ry q=>q.elim (h pins s σ H x y v u Q I rx ry) (h' pins s σ H x y v u Q I rx ry)
theorem OpD.or{r:R2}{g:D->D->Option D}(h:OpD G r g)(h':OpD G r' g'):OpD G (λx y H Q=>r x y H Q\/r' x y H Q) (λx y=>match g x y with|some z=>some z|none=>g' x y):=λx y z H0 H v u Q e s rx ry k=>by
 cases e1:g x y with
 |some w=>simp only[e1]at e;cases e;exact .inl (h x y _ H0 H v u Q e1 s rx ry k)
 |none=>simp only[e1]at e;exact .inr (h' x y z H0 H v u Q e s rx ry k)
def dI(C:Int->Int->Bool)(g:Int->Int->D):D->D->Option D
 |.int a,.int b=>if C a b=true then some (g a b)else none
 |_,_=>none
theorem EC{C:Int->Int->Bool}{C':Int->Int->Prop}{g:Int->Int->D}{g':Int->Int->V}(hC:∀a b,C a b=true->C' a b)(hf:∀a b,p7 (g a b)=true/\vD (g a b)=g' a b):OpD G (rI C' g') (dI C g):=λx y z H0 H v u Q e s rx ry k=>by
 unfold dI at e;split at e
 ·rename_i a b;split at e
  ·rename_i hc;cases e;unfold Rep at rx ry;exact⟨a,b,rx,ry,hC _ _ hc,by rw[<-(hf a b).2];exact k _ λH0' _=>wW (hf a b).1 H0'⟩
  ·cases e
 ·cases e
theorem xT{g:Int->Int->D}{g':Int->Int->V}(hf:∀a b,p7 (g a b)=true/\vD (g a b)=g' a b):OpD G (rI0 g') (dI (λ_ _=>true) g):=λx y z H0 H v u Q e s rx ry k=>by
 unfold dI at e;split at e
 ·rename_i a b;split at e
  ·cases e;unfold Rep at rx ry;exact⟨a,b,rx,ry,by rw[<-(hf a b).2];exact k _ λH0' _=>wW (hf a b).1 H0'⟩
  ·cases e
 ·cases e
def qG:=dI (λ_ _=>true) λa b=>.int (a+b)
def AD:=dI (λ_ _=>true) λa b=>.int (a - b)
def tD(a:Int):Bool:=decide (-(2 ^ 64)<a)&&decide (a<2 ^ 64)
def sv:=dI (λa b=>tD a||tD b) λa b=>.int (a * b)
def qm:=dI (λ_ b=>decide (0<b)) λa b=>.int (a % b)
def uE:=dI (λ_ b=>decide (0<b)&&decide (b<1073741824)) λa b=>.int (a / b)
def Cu:=dI (λa b=>decide (0<=b)&&decide (b<=1000000)&&decide (a.natAbs<2 ^ 64)) λa b=>.int (a ^ b.toNat)
def DM:=dI (λ_ _=>true) λa b=>.bl (decide (a<b))
def rl:=dI (λ_ _=>true) λa b=>.bl (decide (a<=b))
def HE:=dI (λ_ _=>true) λa b=>.bl (decide (b<a))
def M7:=dI (λ_ _=>true) λa b=>.bl (decide (b<=a))
theorem M8:OpD G (rI0 λi j=>.int (i+j)) qG:=xT λ_ _=>⟨rfl,rfl⟩
theorem M9:OpD G (rI0 λi j=>.int (i - j)) AD:=xT λ_ _=>⟨rfl,rfl⟩
theorem Na:OpD G (rI JA λi j=>.int (i * j)) sv:=EC (λa b h=>by
 unfold tD at h;simp only[fO,az,bp]at h;exact h) λ_ _=>⟨rfl,rfl⟩
theorem Nc:OpD G (rI (λ_ j=>0<j) λi j=>.int (i % j)) qm:=EC (λa b h=>by simpa using h) λ_ _=>⟨rfl,rfl⟩
theorem Nd:OpD G (rI Mt λi j=>.int (i / j)) uE:=EC (λa b h=>by unfold Mt;simpa using h) λ_ _=>⟨rfl,rfl⟩
theorem Nf:OpD G (rI PX λi j=>.int (i ^ j.toNat)) Cu:=EC (λa b h=>by
 simp only[az,bp]at h;exact⟨h.1.1,h.1.2,h.2⟩) λ_ _=>⟨rfl,rfl⟩
theorem Qt:OpD G (rI0 λi j=>.bl (decide (i<j))) DM:=xT λ_ _=>⟨rfl,rfl⟩
theorem Qu:OpD G (rI0 λi j=>.bl (decide (i<=j))) rl:=xT λ_ _=>⟨rfl,rfl⟩
theorem Qv:OpD G (rI0 λi j=>.bl (decide (j<i))) HE:=xT λ_ _=>⟨rfl,rfl⟩
theorem Qw:OpD G (rI0 λi j=>.bl (decide (j<=i))) M7:=xT λ_ _=>⟨rfl,rfl⟩
def RZ:D->D->Option D
 |.str a,.str b=>if a.length+b.length<=100000 then some (.str (a++b))else none
 |_,_=>none
theorem Cv{n:Nat}(h:n<=100000):n<=ay:=bD h (by rw[bV];decide)
def HF:D->D->Option D
 |.str a,.str b=>some (.bl (!decide (b.cps.toList<a.cps.toList)))
 |_,_=>none
theorem Ng:OpD G (λx y H Q=>∃i j,x=.str i/\y=.str j/\Q (.bl (!decide (j.cps.toList<i.cps.toList))) H) HF:=λx y z H0 H v u Q e s rx ry k=>by
 unfold HF at e;split at e
 ·rename_i a b;cases e;unfold Rep at rx ry;exact⟨a,b,rx,ry,k _ λ_ _=>pZ _⟩
 ·cases e
def yU:D->D->Option D
 |.non,.non=>some (.bl true)
 |_,.non=>some (.bl false)
 |_,_=>none
def sP:D->D->Option D
 |.non,.non=>some (.bl false)
 |_,.non=>some (.bl true)
 |_,_=>none
theorem ED{v:V}(h:Rep G H d v):decide (v=.non)=(match d with|.non=>true|_=>false):=by
 cases d<;>unfold Rep at h
 ·subst h;rfl
 ·subst h;rfl
 ·subst h;rfl
 ·subst h;rfl
 ·obtain⟨a,xs,rfl,_⟩:=h;rfl
 ·obtain⟨a,xs,rfl,_⟩:=h;rfl
 ·obtain⟨a,xs,rfl,_⟩:=h;rfl
 ·obtain⟨a,dx,xs,rfl,_⟩:=h;rfl
 ·obtain⟨a,ob,xs,rfl,_⟩:=h;rfl
theorem Nh:OpD G (λx y H Q=>y=.non/\Q (.bl (decide (x=.non))) H) yU:=λx y z H0 H v u Q e s rx ry k=>by
 have e0:=ED rx;cases y<;>first|(cases x<;>cases e)|skip
 all_goals (unfold Rep at ry;refine⟨ry,?_⟩;rw[e0];exact k _ λ_ _=>pZ _)
theorem KB:OpD G (λx y H Q=>y=.non/\Q (.bl (!decide (x=.non))) H) sP:=λx y z H0 H v u Q e s rx ry k=>by
 have e0:=ED rx;cases y<;>first|(cases x<;>cases e)|skip
 all_goals (unfold Rep at ry;refine⟨ry,?_⟩;rw[e0];exact k _ λ_ _=>pZ _)
def RE:D->D->Option D
 |.bl a,.bl b=>some (.bl (a != b))
 |_,_=>none
mutual
def toD:D->Option L3.Dq
 |.non=>some .non
 |.bl b=>some (.bl b)
 |.int i=>some (.int i)
 |.str x=>some (.str x)
 |.tup ds=>match Bv ds with
  |some l=>some (.tup l)
  |none=>none
 |.lst ds=>match Bv ds with
  |some l=>some (.lst l)
  |none=>none
 |.fzl _=>none
 |.obj _ _ _=>none
 |.dic _ _=>none
def Bv:List D->Option (List L3.Dq)
 |[]=>some []
 |d::ds=>match toD d with
  |some x=>match Bv ds with
   |some l=>some (x::l)
   |none=>none
  |none=>none
end
mutual
theorem Bw:∀(d:D) (v:V) (x:L3.Dq),Rep G H d v->toD d=some x->L3.Rep G.K H x v
 |.non,v,x,h,e=>by unfold toD at e;cases e;unfold Rep at h;unfold L3.Rep;exact h
 |.bl b,v,x,h,e=>by unfold toD at e;cases e;unfold Rep at h;unfold L3.Rep;exact h
 |.int b,v,x,h,e=>by unfold toD at e;cases e;unfold Rep at h;unfold L3.Rep;exact h
 |.str b,v,x,h,e=>by unfold toD at e;cases e;unfold Rep at h;unfold L3.Rep;exact h
 |.tup ds,v,x,h,e=>by
  unfold toD at e;cases e1:Bv ds with
  |none=>simp only[e1]at e;cases e
  |some l=>simp only[e1]at e;cases e;unfold Rep at h;obtain⟨a,xs,rfl,h1,h2⟩:=h;unfold L3.Rep;exact⟨a,xs,rfl,h1,zy ds xs l h2 e1⟩
 |.lst ds,v,x,h,e=>by
  unfold toD at e;cases e1:Bv ds with
  |none=>simp only[e1]at e;cases e
  |some l=>simp only[e1]at e;cases e;unfold Rep at h;obtain⟨a,xs,rfl,h1,h2⟩:=h;unfold L3.Rep;exact⟨a,xs,rfl,SqL.of h1,zy ds xs l h2 e1⟩
 |.fzl _,v,x,h,e=>by unfold toD at e;cases e
 |.obj _ _ _,v,x,h,e=>by unfold toD at e;cases e
 |.dic _ _,v,x,h,e=>by unfold toD at e;cases e
theorem zy:∀(ds:List D) (xs:List V) (l:List L3.Dq),nt G H ds xs->Bv ds=some l->L3.nt G.K H l xs
 |[],xs,l,h,e=>by unfold Bv at e;cases e;unfold nt at h;unfold L3.nt;exact h
 |d::ds,xs,l,h,e=>by
  unfold Bv at e;cases e1:toD d with
  |none=>simp only[e1]at e;cases e
  |some x=>
   simp only[e1]at e;cases e2:Bv ds with
   |none=>simp only[e2]at e;cases e
   |some l'=>simp only[e2]at e;cases e;unfold nt at h;obtain⟨v,r,rfl,h1,h2⟩:=h;unfold L3.nt;exact⟨v,r,rfl,Bw d v x h1 e1,zy ds r l' h2 e2⟩
end
def DN(neg:Bool):D->D->Option D:=λx y=>match p7 x&&p7 y&&GO (vD x) (vD y)with
 |true=>some (.bl (if neg then !decide (vD x=vD y)else decide (vD x=vD y)))
 |false=>none
def Ni(neg:Bool):D->D->Option D:=λx y=>match toD x,toD y with
 |some a,some b=>if LK a b&&decide (dpt a<=20)&&decide (dpt b<=20)then some (.bl (if neg then !eqD a b else eqD a b))else none
 |_,_=>none
def dEq(neg:Bool):D->D->Option D:=λx y=>match DN neg x y with
 |some z=>some z
 |none=>Ni neg x y
theorem Nj:OpD G rEq (DN false):=λx y z H0 H v u Q e s rx ry k=>by
 unfold DN at e;cases e1:p7 x&&p7 y&&GO (vD x) (vD y)with
 |false=>simp only[e1]at e;cases e
 |true=>simp only[e1]at e;cases e;simp only[az]at e1;rw[rN rx e1.1.1,rN ry e1.1.2];exact⟨e1.2,k _ λ_ _=>pZ _⟩
theorem Nk:OpD G rNe (DN true):=λx y z H0 H v u Q e s rx ry k=>by
 unfold DN at e;cases e1:p7 x&&p7 y&&GO (vD x) (vD y)with
 |false=>simp only[e1]at e;cases e
 |true=>simp only[e1]at e;cases e;simp only[az]at e1;rw[rN rx e1.1.1,rN ry e1.1.2];exact⟨e1.2,k _ λ_ _=>pZ _⟩
theorem HG:OpD G (DG G.K neg) (Ni neg):=λx y z H0 H v u Q e s rx ry k=>by
 unfold Ni at e;cases e1:toD x with
 |none=>simp only[e1]at e;cases e
 |some a=>
  cases e2:toD y with
  |none=>simp only[e1,e2]at e;cases e
  |some b=>
   simp only[e1,e2]at e;split at e
   ·rename_i hc;cases e;simp only[az,bp]at hc;exact⟨a,b,Bw x v a (Rep.mono s _ _ rx) e1,Bw y u b (Rep.mono s _ _ ry) e2,hc.1.1,hc.1.2,hc.2,k _ λ_ _=>pZ _⟩
   ·cases e
theorem Nl(hu:X.A.units+64<cLine)(hK:X.K=G.K:=by rfl):OpR X (aM .Eq) (λx y H Q=>rEq x y H Q\/DG G.K false x y H Q):=by rw[<-hK];exact OpR.or PY (MQ hu)
theorem Nm(hu:X.A.units+64<cLine)(hK:X.K=G.K:=by rfl):OpR X (aM .NotEq) (λx y H Q=>rNe x y H Q\/DG G.K true x y H Q):=by rw[<-hK];exact OpR.or PZ (MR hu)
theorem Qx:OpD G (λx y H Q=>rEq x y H Q\/DG G.K false x y H Q) (dEq false):=OpD.or Nj HG
theorem Qy:OpD G (λx y H Q=>rNe x y H Q\/DG G.K true x y H Q) (dEq true):=OpD.or Nk HG
def HI:D->Option (List D)
 |.tup ds=>some ds
 |.lst ds=>some ds
 |.fzl ds=>some ds
 |_=>none
theorem EE{v:V}(h:Rep G H d v)(e:HI d=some ds):∃p xs,v=.ref p/\(SqL G.K H p xs\/SqT G.K H p xs)/\nt G H ds xs:=by
 cases d with
 |tup l=>cases e;unfold Rep at h;obtain⟨a,xs,rfl,h1,h2⟩:=h;exact⟨a,xs,rfl,.inr h1,h2⟩
 |lst l=>cases e;unfold Rep at h;obtain⟨a,xs,rfl,h1,h2⟩:=h;exact⟨a,xs,rfl,.inl (SqL.of h1),h2⟩
 |fzl l=>cases e;unfold Rep at h;obtain⟨a,xs,rfl,h1,h2⟩:=h;exact⟨a,xs,rfl,.inl h1,h2⟩
 |_=>cases e
def dIn(neg:Bool):D->D->Option D:=λx y=>match HI y with
 |some ds=>if p7 x&&ds.all p7 then some (.bl (if neg then !inV (vD x) (ds.map vD)else inV (vD x) (ds.map vD)))else none
 |none=>none
theorem EF{K:aj}{H:Hp}(s:nz H H')(h:SqL K H p xs\/SqT K H p xs):SqL K H' p xs\/SqT K H' p xs:=h.imp s.seq (SqT.mono s)
theorem LL:OpD G (rIn G.K neg) (dIn neg):=λx y z H0 H v u Q e s rx ry k=>by
 unfold dIn at e;cases e1:HI y with
 |none=>simp only[e1]at e;cases e
 |some ds=>
  simp only[e1]at e;split at e
  ·rename_i hc;cases e;simp only[az]at hc;obtain⟨p,xs,rfl,h1,h2⟩:=EE ry e1;refine⟨p,xs,rfl,EF s h1,?_,?_,?_⟩
   ·rw[rN rx hc.1];exact Ct hc.1
   ·rw[xR h2 hc.2];exact AC hc.2
   ·rw[rN rx hc.1,xR h2 hc.2];exact k _ λ_ _=>pZ _
  ·cases e
theorem Np(hK:X.K=G.K:=by rfl):OpR X (aM .In) (rIn G.K false):=by rw[<-hK];exact FI
theorem F1(hK:X.K=G.K:=by rfl):OpR X (aM .NotIn) (rIn G.K true):=by rw[<-hK];exact Bk
def dIx:D->D->Option D
 |.tup ds,.int i=>atI ds i
 |.lst ds,.int i=>atI ds i
 |.fzl ds,.int i=>atI ds i
 |.str x,.int i=>if x.length<=100000 then (atI x.cps.toList i).map λc=>.str ⟨#[c]⟩else none
 |_,_=>none
theorem Qz:OpD G (rIx G.K) dIx:=λx y z H0 H v u Q e s rx ry k=>by
 cases y with
 |int i=>
  unfold Rep at ry;subst ry;cases x with
  |tup ds=>unfold Rep at rx;obtain⟨a,xs,rfl,h1,h2⟩:=rx;obtain⟨w,w1,w2⟩:=wR h2 (show atI ds i=some z from e);exact .inr (.inl ⟨a,xs,i,w,rfl,rfl,SqT.mono s h1,w1,k _ λH0' s'=>Rep.mono s' _ _ w2⟩)
  |lst ds=>unfold Rep at rx;obtain⟨a,xs,rfl,h1,h2⟩:=rx;obtain⟨w,w1,w2⟩:=wR h2 (show atI ds i=some z from e);exact .inl ⟨a,xs,i,w,rfl,rfl,s.seq (SqL.of h1),w1,k _ λH0' s'=>Rep.mono s' _ _ w2⟩
  |fzl ds=>unfold Rep at rx;obtain⟨a,xs,rfl,h1,h2⟩:=rx;obtain⟨w,w1,w2⟩:=wR h2 (show atI ds i=some z from e);exact .inl ⟨a,xs,i,w,rfl,rfl,s.seq h1,w1,k _ λH0' s'=>Rep.mono s' _ _ w2⟩
  |str t=>
   unfold Rep at rx;subst rx;unfold dIx at e;simp only at e;split at e
   ·rename_i hl;cases e1:atI t.cps.toList i with
    |none=>rw[e1]at e;cases e
    |some c=>rw[e1]at e;cases e;exact .inr (.inr ⟨t,i,c,rfl,rfl,Cv hl,e1,k _ λ_ _=>vI _⟩)
   ·cases e
  |_=>cases e
 |_=>cases x<;>cases e
theorem RP(hK:X.K=G.K:=by rfl):IxR X (rIx G.K):=by rw[<-hK];exact MG
def AE(G:Bg)(r:List V->Hp->VK->Prop)(g:D->Option D):Prop:=∀x z H0 H v (Q:VK),g x=some z->nz H0 H->Rep G H0 x v->(∀w,(∀H0',nz H0 H0'->Rep G H0' z w)->Q w H)->r [v] H Q
theorem LM{g:D->Option D}(hr:AE G r g)(h:PE X e (tCB r (tFA G (aCons f oe)))):PE X e (tF G (c1 g f)):=PE.weak h λσ H Q hh=>by obtain⟨F,ρ,H0,d,ρ',R,e,k⟩:=hh;obtain⟨x,e1,e2⟩:=wN e;refine⟨F,ρ,H0,[x],ρ',R,by unfold aCons;rw[e1];rfl,λys H1 H1' s R' rs=>?_⟩;unfold nt at rs;obtain⟨v,r0,rfl,rv,rn⟩:=rs;unfold nt at rn;subst rn;exact hr x d H1 H1' v Q e2 R'.sub rv λw hw=>k _ _ _ s R' (hw _ (nz.refl _))
theorem pO.or{f:aa}{r':List V->Hp->VK->Prop}(h:pO X f r)(h':pO X f r'):pO X f (λx H Q=>r x H Q\/r' x H Q):=λpins s σ H xs us Q I rv q=>q.elim (h pins s σ H xs us Q I rv) (h' pins s σ H xs us Q I rv)
def pX:D->Option D
 |.tup ds=>some (.int ds.length)
 |.lst ds=>some (.int ds.length)
 |.fzl ds=>some (.int ds.length)
 |.str x=>if x.length<=100000 then some (.int x.length)else none
 |.dic ks ds=>some (.int ks.length)
 |_=>none
theorem F2:pO X (.builtin "len") (λxs H Q=>∃a kvs,xs=[V.ref a]/\Rd H a (.dK kvs)/\Q (.int kvs.length) H):=by intro pins s σ H xs us Q I r h;obtain⟨a,kvs,rfl,ha,q⟩:=h;obtain⟨u,rfl,ru⟩:=vals1 r;cases ru;exact Qf I ha λt s' I'=>⟨.int kvs.length,H,I',⟨t,rfl⟩,q⟩
def LN(K:aj):List V->Hp->VK->Prop:=λxs H Q=>(∃p ys,xs=[.ref p]/\(SqL K H p ys\/SqT K H p ys)/\Q (.int ys.length) H)\/((∃z,xs=[.str z]/\z.length<=ay/\Q (.int z.length) H)\/(∃a kvs,xs=[V.ref a]/\Rd H a (.dK kvs)/\Q (.int kvs.length) H))
theorem F3(hK:X.K=G.K:=by rfl):pO X (.builtin "len") (LN G.K):=by rw[<-hK];exact pO.or Bl (pO.or Bm F2)
theorem Nq:AE G (LN G.K) pX:=λx z H0 H v Q e s rx k=>by
 cases x with
 |tup ds=>cases e;unfold Rep at rx;obtain⟨a,xs,rfl,h1,h2⟩:=rx;refine .inl ⟨a,xs,rfl,.inr (SqT.mono s h1),?_⟩;rw[<-nu h2];exact k _ λ_ _=>pJ _
 |lst ds=>cases e;unfold Rep at rx;obtain⟨a,xs,rfl,h1,h2⟩:=rx;refine .inl ⟨a,xs,rfl,.inl (s.seq (SqL.of h1)),?_⟩;rw[<-nu h2];exact k _ λ_ _=>pJ _
 |fzl ds=>cases e;unfold Rep at rx;obtain⟨a,xs,rfl,h1,h2⟩:=rx;refine .inl ⟨a,xs,rfl,.inl (s.seq h1),?_⟩;rw[<-nu h2];exact k _ λ_ _=>pJ _
 |str t=>
  unfold pX at e;simp only at e;split at e
  ·rename_i hl;cases e;unfold Rep at rx;exact .inr (.inl ⟨t,by rw[rx],Cv hl,k _ λ_ _=>pJ _⟩)
  ·cases e
 |dic ks ds=>cases e;unfold Rep at rx;obtain⟨a,o,xs,rfl,h1,h2,h3⟩:=rx;refine .inr (.inr ⟨a,_,rfl,.inr ⟨o,s _ _ h1⟩,?_⟩);rw[dR,<- h2,dY];exact k _ λ_ _=>pJ _
 |_=>cases e
def Nr:D->Option D
 |.int i=>some (.int i)
 |.bl b=>some (.int (if b then 1 else 0))
 |_=>none
theorem Nt:AE G (λxs H Q=>(∃i,xs=[.int i]/\Q (.int i) H)\/∃k,xs=[.bl k]/\Q (.int (if k then 1 else 0)) H) Nr:=λx z H0 H v Q e s rx k=>by
 cases x with
 |int i=>cases e;unfold Rep at rx;subst rx;exact .inl ⟨i,rfl,k _ λ_ _=>pJ _⟩
 |bl b=>cases e;unfold Rep at rx;subst rx;exact .inr ⟨b,rfl,k _ λ_ _=>pJ _⟩
 |_=>cases e
def Ak:List D->Option (List Bool)
 |[]=>some []
 |.bl b::r=>(Ak r).map (b::·)
 |_=>none
theorem zz:∀{ds:List D} {xs:List V} {bs:List Bool},nt G H ds xs->Ak ds=some bs->xs=bs.map V.bl
 |[],xs,bs,h,e=>by cases e;unfold nt at h;exact h
 |.bl b::r,xs,bs,h,e=>by
  unfold nt at h;obtain⟨v,q,rfl,h1,h2⟩:=h;unfold Ak at e;cases e1:Ak r with
  |none=>rw[e1]at e;cases e
  |some l=>rw[e1]at e;cases e;unfold Rep at h1;subst h1;rw[zz h2 e1];rfl
 |.non::r,xs,bs,h,e=>by cases e
 |.int _::r,xs,bs,h,e=>by cases e
 |.str _::r,xs,bs,h,e=>by cases e
 |.tup _::r,xs,bs,h,e=>by cases e
 |.lst _::r,xs,bs,h,e=>by cases e
 |.fzl _::r,xs,bs,h,e=>by cases e
 |.obj _ _ _::r,xs,bs,h,e=>by cases e
 |.dic _ _::r,xs,bs,h,e=>by cases e
def qd:D->Option D
 |.lst ds=>(Ak ds).map λbs=>.bl (bs.all id)
 |_=>none
theorem Nu:AE G (λxs H Q=>∃(p:Addr) (bs:List Bool),xs=[.ref p]/\SqL G.K H p (bs.map V.bl)/\Q (.bl (bs.all id)) H) qd:=λx z H0 H v Q e s rx k=>by
 cases x with
 |lst ds=>
  unfold qd at e;simp only at e;cases e1:Ak ds with
  |none=>rw[e1]at e;cases e
  |some bs=>rw[e1]at e;cases e;unfold Rep at rx;obtain⟨a,xs,rfl,h1,h2⟩:=rx;rw[zz h2 e1]at h1;exact⟨a,bs,rfl,s.seq (SqL.of h1),k _ λ_ _=>pZ _⟩
 |_=>cases e
theorem F4(hc:X.calm=true)(hK:X.K=G.K:=by rfl):pO X (.builtin "all") (λxs H Q=>∃(p:Addr) (bs:List Bool),xs=[.ref p]/\SqL G.K H p (bs.map V.bl)/\Q (.bl (bs.all id)) H):=by rw[<-hK];exact G8 hc
inductive Ty where
 |b (n:String)|c (k:Nat)
def Ty.val(G:Bg):Ty->aa
 |.b n=>.type n
 |.c k=>.ref (G.ca k)
def Ty.v(G:Bg):Ty->V
 |.b n=>.ty n
 |.c k=>.ref (G.ca k)
def tyD:D->Ty
 |.non=>.b "NoneType" |.bl _=>.b "bool" |.int _=>.b "int" |.str _=>.b "str" |.tup _=>.b "tuple" |.lst _=>.b "list" |.fzl _=>.b "list" |.dic _ _=>.b "dict" |.obj c _ _=>.c c
structure Cw(K:aj)(C:Addr):Prop where
 cl:Cls K C
 ha:bU K (.ref C) "__class__" = some (some (.builtin "object.__class__"))
 hn:kX K (.builtin "object.__class__") "__get__" = some (some (.builtin "getset_descriptor.__get__"))
 htk:W.takesIn K (.builtin "object.__class__")=some true
 hm:W.mroIn K C (.type "object")=some true
theorem HJ{pins:List (Addr×Obj)}{s:ae}{A:av}{E:aa->ae->Prop}{Q:aa->ae->Prop}{c:aa}{b:Bool}{v:V}{u:aa}(I:Inv X pins σ H s)(hK:X.K=G.K)(hd:Rep G H d v)(rv:RelV v u)(hc:∀k ns ds,d=.obj k ns ds->Cw X.K (G.ca k))
  (e:b9 X.K ((tyD d).val G) c=some b) (h:∀tk,Q (.bool b) { s with toks:=tk }):af (model X.prog X.w) A (call (.builtin "isinstance") [u,c]) Q E s:=by
 cases d with
 |non=>unfold Rep at hd;subst hd;exact sf I rv .non e h
 |bl x=>unfold Rep at hd;subst hd;exact sf I rv (.bl x) e h
 |int x=>unfold Rep at hd;subst hd;exact sf I rv (.int x) e h
 |str x=>unfold Rep at hd;subst hd;exact sf I rv (.str x) e h
 |tup ds=>unfold Rep at hd;obtain⟨a,xs,rfl,h1,h2⟩:=hd;cases rv;rw[<-hK]at h1;obtain⟨its,_,p,_⟩:=I.tuple h1;obtain⟨o,q1,q2,_⟩:=p;exact bT ix I.kIn ⟨o,q1,q2⟩ e (λz=>nomatch z) h
 |lst ds=>unfold Rep at hd;obtain⟨a,xs,rfl,h1,h2⟩:=hd;exact sf I rv (.lst h1) e h
 |fzl ds=>unfold Rep at hd;obtain⟨a,xs,rfl,h1,h2⟩:=hd;cases rv;rw[<-hK]at h1;obtain⟨its,_,p,_⟩:=I.list h1;obtain⟨o,n,q1,q2,_⟩:=p;exact bT eV I.kIn ⟨o,q1,q2⟩ e (λz=>nomatch z) h
 |dic ks ds=>unfold Rep at hd;obtain⟨a,o,xs,rfl,h1,h2,h3⟩:=hd;cases rv;obtain⟨q0,_,_,vs,_,ob,es,ep,q1,q2,_⟩:=(show oQ X.prog X.w H s.heap a (.frz o (.dK (ks.zip xs))) from I.hok a _ h1);exact bT fY I.kIn ⟨ob,q1,q2.1⟩ e (λz=>nomatch z) h
 |obj k ns ds=>have ci:=hc k ns ds rfl;unfold Rep at hd;obtain⟨a,dx,xs,rfl,h1,h2,h3⟩:=hd;exact sf I rv (.ins h1 ci.cl ci.ha ci.hn ci.htk ci.hm) e h
def nZ(t:Ty->Option Bool):D->Option D:=λd=>(t (tyD d)).map .bl
theorem AF(c:Ty){t:Ty->Option Bool}(ht:∀y b,t y=some b->b9 X.K (y.val G) (c.val G)=some b)(hc:∀k b,t (.c k)=some b->Cw X.K (G.ca k))(hK:X.K=G.K:=by rfl):
  pO X (.builtin "isinstance") (λxs H Q=>∃d x b,xs=[x,c.v G]/\Rep G H d x/\t (tyD d)=some b/\Q (.bl b) H):=by
 intro pins s σ H xs us Q I r h;obtain⟨d,x,b,rfl,hd,e,q⟩:=h;obtain⟨u,w',rfl,ru,rw'⟩:=vals2 r;have ew:w'=c.val G:=by cases c<;>exact rw'
 subst ew;exact HJ I hK hd ru (λk ns ds z=>by subst z;exact hc k b e) (ht _ _ e) λtk=>⟨.bl b,H,I.tok _,rfl,q⟩
theorem EG{c:Ty}{t:Ty->Option Bool}(h:PE X e (tCB (λxs H Q=>∃d x b,xs=[x,c.v G]/\Rep G H d x/\t (tyD d)=some b/\Q (.bl b) H) (vS (tF G f) (vS (tC (c.v G)) ze)))):PE X e (tF G (c1 (nZ t) f)):=PE.weak h λσ H Q hh=>by
 obtain⟨F,ρ,H0,d,ρ',R,e,k⟩:=hh;obtain⟨x,e1,e2⟩:=wN e;unfold nZ at e2;cases e3:t (tyD x)with
 |none=>rw[e3]at e2;cases e2
 |some b=>rw[e3]at e2;cases e2;exact⟨F,ρ,H0,x,ρ',R,e1,λv H1 H1' s R' r=>⟨x,v,b,rfl,Rep.mono R'.sub _ _ r,e3,k _ _ _ s R' (pZ b)⟩⟩
def oR(f g:FE):FA:=λρ=>match f ρ with
 |some (.lst xs,ρ1)=>match g ρ1 with
  |some (.lst ys,ρ2)=>if xs.length+ys.length<=1000 then some (xs++ys,ρ2)else none
  |_=>none
 |_=>none
theorem KC{a:Expr}{g:FE}(ha:PE X a (tF G f))(hb:PE X b (tF G g)):PE X (.BinOp a .Add b pos) (tFN G (oR f g)):=PE.weak (GN MI ha hb) λσ H Q hh=>by
 obtain⟨F,ρ,H0,d,ρ',R,e,k⟩:=hh;unfold oR at e;split at e
 ·rename_i xs ρ1 e1;split at e
  ·rename_i ys ρ2 e2;split at e
   ·rename_i hl;cases e;refine⟨F,ρ,H0,_,ρ1,R,e1,λv H1 H1' s R' r=>⟨F,ρ1,H1,_,_,R',e2,λu H2 H2' s2 R2 r2=>?_⟩⟩;have r':=Rep.mono s2 _ _ r;unfold Rep at r' r2;obtain⟨a1,xs1,rfl,h1,h2⟩:=r';obtain⟨a2,xs2,rfl,h3,h4⟩:=r2;refine⟨a1,a2,xs1,xs2,rfl,rfl,R2.sub _ _ h1,R2.sub _ _ h3,by rw[<-nu h2,<- nu h4];exact qB hl,λp hp=>?_⟩;exact k p _ _ _ (s.trans s2) (R2.newOwn hp _) nv (R2.h0none hp) (R2.bNone hp) (R2.apart hp) (pK h2 h4)
   ·cases e
  ·cases e
 ·cases e
def uU(f:FE):FA:=λρ=>match f ρ with
 |some (d,ρ1)=>match HI d with
  |some ds=>some (ds,ρ1)
  |none=>none
 |none=>none
theorem HK(h:PE X e (tCB (λxs H Q=>∃p ys,xs=[.ref p]/\(SqL G.K H p ys\/SqT G.K H p ys)/\∀l,H l=none->Q (.ref l) (upd H l (.lst ys))) (tFA G (aCons f oe)))):PE X e (tFN G (uU f)):=PE.weak h λσ H Q hh=>by
 obtain⟨F,ρ,H0,ds,ρ',R,e,k⟩:=hh;unfold uU at e;rcases nM (f:=f) (ρ:=ρ)with e1|⟨d,ρ1,e1⟩<;>simp only[e1]at e
 ·cases e
 ·cases e2:HI d with
  |none=>simp only[e2]at e;cases e
  |some ds'=>simp only[e2]at e;cases e;refine⟨F,ρ,H0,[d],_,R,by unfold aCons;rw[e1];rfl,λys H1 H1' s R' rs=>?_⟩;unfold nt at rs;obtain⟨v,r0,rfl,rv,rn⟩:=rs;unfold nt at rn;subst rn;obtain⟨p,xs,rfl,h1,h2⟩:=EE rv e2;exact⟨p,xs,rfl,EF R'.sub h1,λl hl=>k l _ _ _ s (R'.newOwn hl _) nv (R'.h0none hl) (R'.bNone hl) (R'.apart hl) h2⟩
theorem DO(hK:X.K=G.K:=by rfl):pO X (.type "list") (λxs H Q=>∃p ys,xs=[.ref p]/\(SqL G.K H p ys\/SqT G.K H p ys)/\∀l,H l=none->Q (.ref l) (upd H l (.lst ys))):=by rw[<-hK];exact Bn
def cutD(xs:List D)(lo hi:Option Int):List D:=(xs.drop (HT.sIx xs.length 0 lo)).take (HT.sIx xs.length xs.length hi - HT.sIx xs.length 0 lo)
theorem HL{lo hi:Option Int}(r:nt G H0 ds xs):nt G H0 (cutD ds lo hi) (FH xs lo hi):=by unfold cutD FH;rw[<-nu r];exact AA _ (Ay _ r)
theorem RQ(hK:X.K=G.K:=by rfl):SlR X (JO G.K):=by rw[<-hK];exact JP
end
def Sl.bor:Sl->Sl
 |.un=>.un
 |.im d=>.im d
 |.ls ds=>.im (.lst ds)
 |.pm ds=>.im (.lst ds)
 |.dk _ _=>.un
 |.ob c ns ds=>.im (.obj c ns ds)
variable{fa fb fc:FE}{op':dF}
section
variable{X:Cx}{G:Bg}
theorem nG.bor{H:Hp}(R:nG G F σ ρ H0 H):nG G ⟨H,H,[]⟩ σ (ρ.map Sl.bor) H H where
 sub:=nz.refl _
 g0:=nz.refl _
 keep:=λb o e _=>e
 fr:=λb o e=>.inl e
 am:=λa h=>by cases h
 len:=by rw[ag];exact R.len
 sl:=λi s e=>by
  rw[aX]at e;cases e1:ρ[i]? with
  |none=>rw[e1]at e;cases e
  |some t=>
   rw[e1]at e;cases e;have ok:=R.sl i t e1;cases t with
   |un=>trivial
   |im d=>obtain⟨v,h1,h2⟩:=ok;exact⟨v,h1,Rep.mono R.sub _ _ h2⟩
   |ls ds=>obtain⟨a,xs,h1,h2,h3,h4,h5⟩:=ok;exact⟨_,h1,uj h2 (nt.mono R.sub _ _ h5)⟩
   |pm ds=>obtain⟨a,xs,h1,h2,h3,h4,h5⟩:=ok;exact⟨_,h1,uj h2 (nt.mono R.sub _ _ h5)⟩
   |dk ks ds=>trivial
   |ob c ns ds=>obtain⟨a,dx,xs,h1,h2,h3,h4,h5,h6⟩:=ok;exact⟨_,h1,by unfold Rep;exact⟨a,dx,xs,rfl,h2,h5,nt.mono R.sub _ _ h6⟩⟩
 ap:=λi j s t a _ e _ so=>by
  rw[aX]at e;cases e1:ρ[i]? with
  |none=>rw[e1]at e;cases e
  |some t=>rw[e1]at e;cases e;cases t<;>cases so
theorem nG.unbor{σ':St}{H:Hp}(R:nG G F σ ρ H0 H)(R':nG G ⟨H,H,[]⟩ σ' ρ' H1 H1'):nG G F σ ρ H0 H1':=
 R.grow (λb o e=>R'.keep b o e (by simp)) (nz.refl _) (λb o e=>R'.keep b o (R.sub _ _ e) (by simp)) λb o e=>.inl e
def uo(f:FE):FE:=λρ=>match f (ρ.map Sl.bor)with
 |some (d,_)=>if p7 d=true then some (d,ρ)else none
 |none=>none
def zA(f:FT):FT:=λρ=>match f (ρ.map Sl.bor)with
 |some (d,_)=>some (d,ρ)
 |none=>none
theorem Nv(h:PE X e (tF G f)):PE X e (tF G (uo f)):=PE.weak h λσ H Q hh=>by
 obtain⟨F,ρ,H0,d,ρ',R,e,k⟩:=hh;unfold uo at e;rcases nM (f:=f) (ρ:=ρ.map Sl.bor)with e1|⟨x,ρ1,e1⟩<;>simp only[e1]at e
 ·cases e
 ·split at e
  ·rename_i hf;cases e;refine⟨_,_,H,d,ρ1,R.bor,e1,λv H1 H1' s R' r=>?_⟩;rw[rN r hf];exact k _ _ _ (nz.refl _) (R.unbor R') (wW hf _)
  ·cases e
theorem KD{f:FT}(h:PT X e (tFT G f)):PT X e (tFT G (zA f)):=PT.weak h λσ H Q hh=>by
 obtain⟨F,ρ,H0,d,ρ',R,e,k⟩:=hh;unfold zA at e;rcases nM (f:=f) (ρ:=ρ.map Sl.bor)with e1|⟨x,ρ1,e1⟩<;>simp only[e1]at e
 ·cases e
 ·cases e;exact⟨_,_,H,d,ρ1,R.bor,e1,λH1 H1' s R'=>k _ _ (nz.refl _) (R.unbor R')⟩
def qo(g g':D->D->Option D)(fa fb fc:FE):FE:=λρ=>match fa ρ with
 |some (x,ρ1)=>match fb ρ1 with
  |some (y,ρ2)=>match g x y with
   |some (.bl true)=>match fc ρ2 with
    |some (z,ρ3)=>match g' y z with
     |some w=>some (w,ρ3)
     |none=>none
    |none=>none
   |some (.bl false)=>some (.bl false,ρ2)
   |_=>none
  |none=>none
 |none=>none
theorem Cy{r:R2}{g:D->D->Option D}(ho:OpD G r g)(ho':OpD G r' g'):∀σ H Q,tF G (qo g g' fa fb fc) σ H Q->Ds r r' (tF G fa) (tF G fb) (tF G fc) σ H Q:=λσ H Q hh=>by
 obtain⟨F,ρ,H0,d,ρ',R,e,k⟩:=hh;unfold qo at e;rcases nM (f:=fa) (ρ:=ρ)with e1|⟨x,ρ1,e1⟩<;>simp only[e1]at e
 ·cases e
 rcases nM (f:=fb) (ρ:=ρ1)with e2|⟨y,ρ2,e2⟩<;>simp only[e2]at e
 ·cases e
 refine⟨F,ρ,H0,x,ρ1,R,e1,λv H1 H1' s1 R1 r1=>⟨F,ρ1,H1,y,ρ2,R1,e2,λu H2 H2' s2 R2 r2=>?_⟩⟩;split at e
 ·rename_i e3;refine ho x y _ H2 H2' v u _ e3 R2.sub (Rep.mono s2 _ _ r1) r2 λw hw=>?_;have hw':=hw H2 (nz.refl _);unfold Rep at hw';refine⟨true,hw',Ca ?_⟩;rcases nM (f:=fc) (ρ:=ρ2)with e4|⟨z,ρ3,e4⟩<;>simp only[e4]at e
  ·cases e
  cases e5:g' y z with
  |none=>simp only[e5]at e;cases e
  |some q=>simp only[e5]at e;cases e;refine⟨F,ρ2,H2,z,_,R2,e4,λt H3 H3' s3 R3 r3=>?_⟩;exact ho' y z _ H3 H3' u t Q e5 R3.sub (Rep.mono s3 _ _ r2) r3 λw hw=>k w H3 H3' (s1.trans (s2.trans s3)) R3 (hw _ (nz.refl _))
 ·rename_i e3;cases e;refine ho x y _ H2 H2' v u _ e3 R2.sub (Rep.mono s2 _ _ r1) r2 λw hw=>?_;have hw':=hw H2 (nz.refl _);unfold Rep at hw';exact⟨false,hw',B9 (k _ _ _ (s1.trans s2) R2 (pZ false))⟩
 ·cases e
theorem HM{a c:Expr}{r:R2}{g:D->D->Option D}(hr:OpR X (aM op) r)(hr':OpR X (aM op') r')(ho:OpD G r g)(ho':OpD G r' g')(ha:PE X a (tF G fa))(hb:PE X b (tF G fb))(hc:PE X c (tF G fc))
  (hm:lastMarks [op,op'] [b,c]=false:=by with_unfolding_all rfl):PE X (.Compare a [op,op'] [b,c] pos) (tF G (qo g g' fa fb fc)):=PE.weak (GR hr hr' ha hb hc hm) (Cy ho ho')
theorem F5{a c:Expr}{r:R2}{g:D->D->Option D}(hr:OpR X (aM op) r)(hr':OpR X (aM op') r')(ho:OpD G r g)(ho':OpD G r' g')(ha:PE X a (tF G fa))(hb:PE X b (tF G fb))(hc:PE X c (tF G fc))
  (hm:lastMarks [op,op'] [b,c]=false:=by with_unfolding_all rfl):PT X (.Compare a [op,op'] [b,c] pos) (tFT G (cT (qo g g' fa fb fc))):=PT.weak (GT hr hr' ha hb hc hm) λσ H Q hh=>by
 obtain⟨F,ρ,H0,d,ρ',R,e,k⟩:=Ey σ H Q hh;exact Cy ho ho' σ H _ ⟨F,ρ,H0,d,ρ',R,e,k⟩
end
def uV(P:au)(w:ao)(K:aj)(mg:Str->Option aa)(base:Heap)(k:Nat)(x:Str)(ps:List Str)(sp:Sp):Prop:=
 ∃(f:Addr) (fd:bj),mg x=some (.ref f)/\ck K (.ref f)=true/\Binds K fd ps []/\qN P w K mg base CX0 k f fd ps sp
def By(G:Bg)(P:au)(w:ao)(mg:Str->Option aa)(base:Heap)(k:Nat)(x:Str)(c:Nat)(ps:List Str)(dvs:List V)(g:List D->Option (List Str×List D)):Prop:=
 ∃(f:Addr) (fd:bj) (ds:List aa),Mk G.K (G.ca c) f/\mg x=some (.ref (G.ca c))/\Binds G.K fd ps ds/\Vals dvs ds/\qN P w G.K mg base CX0 k f fd ps (spI G c g)
def xU(G:Bg)(P:au)(w:ao)(mg:Str->Option aa)(base:Heap)(k:Nat)(m:Str)(c:Nat)(h:List D->Option D):Prop:=
 ∃(f:Addr) (fd:bj) (ps:List Str),Cls G.K (G.ca c)/\Meth G.K (G.ca c) m f/\Binds G.K fd ps []/\qN P w G.K mg base CX0 k f fd ps (spF G h)
section
variable{X:Cx}{G:Bg}{k:Nat}{x m:Str}{p pos apos:Pos}{e o:Expr}{es:List Expr}{a:FA}{ps:List Str}
theorem yi{α:Type}(g:List D->α):(λds=>g (ds++[]))=g:=funext λds=>by rw[br]
theorem Nw{g:List D->Option D}(D:uV X.prog X.w X.K X.mg X.base k x ps (spF G g))(hr:pd k X.A)(ha:PA X (e::es) (tFA G a))(hg:Gl X x:=by rfl)(hdb:(x==("__debug__" : Str))=false:=by decide)(he:aq (e::es) X.env=(false,eval e X.env)::aq es X.env:=by rfl)(hpl:(aQ pos (aq es X.env)).any (·.1)=false:=by rfl):
  PE X (.Call (.Name x p) (e::es) [] pos) (tF G (m7 g a)):=by
 obtain⟨f,fd,h1,h2,h3,h4⟩:=D;have q:=Kp (dvs:=[]) (dds:=[]) (λ_=>nY) (yZ (p:=p) (pos:=pos) h4 hr hg h1 h2 h3 .nil zj ha hdb he hpl);rw[yi]at q;exact q
theorem KE{g:List D->Option D}(D:uV X.prog X.w X.K X.mg X.base k x ps (spF G g))(hr:pd k X.A)(hg:Gl X x:=by rfl)(hdb:(x==("__debug__" : Str))=false:=by decide):PE X (.Call (.Name x p) [] [] pos) (tF G (m7 g oe)):=by obtain⟨f,fd,h1,h2,h3,h4⟩:=D;exact Hw (BX h4 hr hg h1 h2 h3 .nil zj hdb)
theorem KF{g:List D->Option (List D)}(D:uV X.prog X.w X.K X.mg X.base k x ps (spN G g))(hr:pd k X.A)(ha:PA X (e::es) (tFA G a))(hg:Gl X x:=by rfl)(hdb:(x==("__debug__" : Str))=false:=by decide)(he:aq (e::es) X.env=(false,eval e X.env)::aq es X.env:=by rfl)(hpl:(aQ pos (aq es X.env)).any (·.1)=false:=by rfl):
  PE X (.Call (.Name x p) (e::es) [] pos) (tFN G (o4 g a)):=by
 obtain⟨f,fd,h1,h2,h3,h4⟩:=D;have q:=Hv (dvs:=[]) (dds:=[]) (λ_=>nY) (yZ (p:=p) (pos:=pos) h4 hr hg h1 h2 h3 .nil zj ha hdb he hpl);rw[yi]at q;exact q
theorem HN{g:List D->Option (List D)}(D:uV X.prog X.w X.K X.mg X.base k x ps (spN G g))(hr:pd k X.A)(hg:Gl X x:=by rfl)(hdb:(x==("__debug__" : Str))=false:=by decide):PE X (.Call (.Name x p) [] [] pos) (tFN G (o4 g oe)):=by obtain⟨f,fd,h1,h2,h3,h4⟩:=D;exact FW (BX h4 hr hg h1 h2 h3 .nil zj hdb)
theorem KG{g:List D->List D->Option (D×List D)}(D:uV X.prog X.w X.K X.mg X.base k x ps (spM G g))(hr:pd k X.A)(hv:PE X e (ue i))(ha:PA X es (tFA G a))(hg:Gl X x:=by rfl)(hdb:(x==("__debug__" : Str))=false:=by decide)(he:aq (e::es) X.env=(false,eval e X.env)::aq es X.env:=by rfl)(hpl:(aQ pos (aq es X.env)).any (·.1)=false:=by rfl):
  PE X (.Call (.Name x p) (e::es) [] pos) (tF G (sJ g i a)):=by
 obtain⟨f,fd,h1,h2,h3,h4⟩:=D;exact M6 (yZ (p:=p) (pos:=pos) h4 hr hg h1 h2 h3 .nil zj (pW hv ha he) hdb he hpl)
theorem KH{g:List D->Option (List Str×List D)}(M:By G X.prog X.w X.mg X.base k x c ps dvs g)(hd:∀H,nt G H dds dvs)(hr:pd (k+1) X.A)(ha:PA X (e::es) (tFA G a))(hK:X.K=G.K:=by rfl)(hg:Gl X x:=by rfl)(hdb:(x==("__debug__" : Str))=false:=by decide)
  (he:aq (e::es) X.env=(false,eval e X.env)::aq es X.env:=by rfl) (hpl:(aQ pos (aq es X.env)).any (·.1)=false:=by rfl):
  PE X (.Call (.Name x p) (e::es) [] pos) (tF G (nh c (λds=>g (ds++dds)) a)):=by
 obtain⟨f,fd,ds,h1,h2,h3,h4,h5⟩:=M;rw[<-hK]at h1 h3 h5;exact Kr hd (JH (p:=p) (pos:=pos) h1 h5 hr hg h2 h3 h4 zj ha hdb he hpl)
theorem LO{g:Nat->Option (List D->Option D)}(M:∀c h,g c=some h->xU G X.prog X.w X.mg X.base k m c h)(hr:pd k X.A)(hK:X.K=G.K):∀C sp,MT G g C sp->MOk X C m sp [] E0:=λC sp h=>by obtain⟨c,h,e,rfl,rfl⟩:=h;obtain⟨f,fd,ps,q1,q2,q3,q4⟩:=M c h e;rw[<-hK]at q1 q2 q3 q4;exact⟨k,f,fd,ps,[],q1,q2,q4,hr,q3,.nil,zj⟩
theorem F6{g:Nat->Option (List D->Option D)}{pl:Sem Bool}(M:∀c h,g c=some h->xU G X.prog X.w X.mg X.base k m c h)(hr:pd k X.A)(ho:PE X o (tF G f))(ha:PA X (e::es) (tFA G a))(hK:X.K=G.K:=by rfl)
  (hst:aq (e::es) X.env=(false,eval e X.env)::aq es X.env:=by rfl) (hpl:(aQ pos (aq es X.env)).any (·.1)=false:=by rfl)
  (ht:eval (.Call (.Attribute o m apos) (e::es) [] pos) X.env=(do
   let ov<-eval o X.env
   standAt apos.atName
   let (f,first)<-holding [ov] (getMethod ov m pl)
   callWith pos f first (aQ pos (aq (e::es) X.env)) (backToKw pos (cy [] X.env))):=by rfl):
  PE X (.Call (.Attribute o m apos) (e::es) [] pos) (tF G (pz g m f a)):=Kq (E:=E0) (Hz (dvs:=[]) (MT G g) (LO M hr hK) ho ha hst hpl ht)
theorem DP{g:Nat->Option (List D->Option D)}{pl:Sem Bool}(M:∀c h,g c=some h->xU G X.prog X.w X.mg X.base k m c h)(hr:pd k X.A)(ho:PE X o (tF G f))(hK:X.K=G.K:=by rfl)
  (ht:eval (.Call (.Attribute o m apos) [] [] pos) X.env=(do
   let ov<-eval o X.env
   standAt apos.atName
   let (f,first)<-holding [ov] (getMethod ov m pl)
   callWith pos f first (aQ pos (aq [] X.env)) (backToKw pos (cy [] X.env))):=by rfl):
  PE X (.Call (.Attribute o m apos) [] [] pos) (tF G (pz g m f oe)):=HA (E:=E0) (FY (dvs:=[]) (MT G g) (LO M hr hK) ho ht)
end
section
variable{P:au}{w:ao}{K:aj}{mg:Str->Option aa}{base:Heap}{x qual:Str}{st:Stmt}{f T:Addr}{fd:bj}{N ps:List Str}{k:Nat}{G:Bg}
abbrev uW(P:au)(w:ao)(K:aj)(mg:Str->Option aa)(base:Heap)(N:List Str)(qual:Str)(st:Stmt)(f:Addr)(cdv:aa)(A:av)(outer:List Env)(s:ae)(H:Hp)(E:XK):Cx:=(Bh CX0 P w K mg base N qual (nF st) f cdv A outer s H E).nox
theorem HP{n:Nat}{g:List D->Option D}{b:FS}(hg:g=fnD np n b)(hp:ps.length=np)(hN:N.length=n)(F:Fun K x qual st f fd)(S:pP N ps (nF st))(body:∀(cdv:aa) (A:av) (outer:List Env) (s:ae) (H:Hp) (E:XK),pd k (A.deeper (envOfC qual (nF st) s.heap.objs.size f cdv))->PSs (uW P w K mg base N qual st f cdv A outer s H E) (nV st) (tFS G b)):
  qN P w K mg base CX0 (k+1) f fd ps (spF G g):=by
 subst hg hp hN;exact F.ok S (Qp Kl) λcdv A outer s H vs Q E hr h=>⟨_,body cdv A outer s H E hr,Kj (by have:=aR b8 S.pre;rw[bz]at this;omega) h⟩
theorem QA{n:Nat}{g:List D->Option (List D)}{b:FS}(hg:g=fnN np n b)(hp:ps.length=np)(hN:N.length=n)(F:Fun K x qual st f fd)(S:pP N ps (nF st))(body:∀(cdv:aa) (A:av) (outer:List Env) (s:ae) (H:Hp) (E:XK),pd k (A.deeper (envOfC qual (nF st) s.heap.objs.size f cdv))->PSs (uW P w K mg base N qual st f cdv A outer s H E) (nV st) (tFS G b)):
  qN P w K mg base CX0 (k+1) f fd ps (spN G g):=by
 subst hg hp hN;exact F.ok S (Qq Km) λcdv A outer s H vs Q E hr h=>⟨_,body cdv A outer s H E hr,Kk (by have:=aR b8 S.pre;rw[bz]at this;omega) h⟩
theorem QB{n:Nat}{g:List D->List D->Option (D×List D)}{b:FS}{p:Str}{ps:List Str}(hg:g=fnM np n b)(hp:ps.length=np)(hN:N.length=n)(F:Fun K x qual st f fd)(S:pP N (p::ps) (nF st))(body:∀(cdv:aa) (A:av) (outer:List Env) (s:ae) (H:Hp) (E:XK),pd k (A.deeper (envOfC qual (nF st) s.heap.objs.size f cdv))->PSs (uW P w K mg base N qual st f cdv A outer s H E) (nV st) (tFS G b)):
  qN P w K mg base CX0 (k+1) f fd (p::ps) (spM G g):=by
 subst hg hp hN;exact F.ok S (Qs Ky) λcdv A outer s H vs Q E hr h=>⟨_,body cdv A outer s H E hr,Kw (by have:=aR b8 S.pre;rw[bz,aD]at this;omega) h⟩
theorem LP{g:List D->Option (List Str×List D)}(hg:∀ds q,g ds=some q->ds.length=np):∀vs H Q E,spI G c g vs H Q E->vs.length=np+1:=λvs H Q E h=>by obtain⟨p,dx,us,H0,ds,ns,es,rfl,_,_,_,r,e,_⟩:=h;rw[aD,<- nu r,hg _ _ e]
theorem QC{n:Nat}{g:List D->Option (List Str×List D)}{b:FS}{p:Str}{ps:List Str}(hg:g=fnI c np n b)(hp:ps.length=np)(hN:N.length=n)(F:Fun K x qual st f fd)(S:pP N (p::ps) (nF st))(body:∀(cdv:aa) (A:av) (outer:List Env) (s:ae) (H:Hp) (E:XK),pd k (A.deeper (envOfC qual (nF st) s.heap.objs.size f cdv))->PSs (uW P w K mg base N qual st f cdv A outer s H E) (nV st) (tFS G b)):
  qN P w K mg base CX0 (k+1) f fd (p::ps) (spI G c g):=by
 subst hg hp hN;exact F.ok S (LP λds q h=>(zu h).1) λcdv A outer s H vs Q E hr h=>⟨_,body cdv A outer s H E hr,Bt (by have:=aR b8 S.pre;rw[bz,aD]at this;omega) h⟩
theorem Nx{n:Nat}{g:List D->Option (List Str×List D)}{b:FS}{p:Str}{ps:List Str}(hg:g=fnI c np n b)(hp:ps.length=np)(hN:N.length=n)(F:FR K x qual st f fd T)(S:pP N (p::ps) (nF st))(body:∀(cdv:aa) (A:av) (outer:List Env) (s:ae) (H:Hp) (E:XK),pd k (A.deeper (envOfC qual (nF st) s.heap.objs.size f cdv))->PSs (uW P w K mg base N qual st f cdv A outer s H E) (nV st) (tFS G b)):
  qN P w K mg base CX0 (k+1) f fd (p::ps) (spI G c g):=by
 subst hg hp hN;exact F.ok S (LP λds q h=>(zu h).1) λcdv A outer s H vs Q E hr h=>⟨_,body cdv A outer s H E hr,Bt (by have:=aR b8 S.pre;rw[bz,aD]at this;omega) h⟩
end
section
variable{X:Cx}{G:Bg}
def vJ(G:Bg)(mg:Str->Option aa)(x:Str)(d:D):Prop:=∃(v:V) (u:aa),mg x=some u/\RelV v u/\∀H,Rep G H d v
theorem HQ{x:Str}(h:vJ G X.mg x d)(hg:Gl X x:=by rfl)(hd:(x==("__debug__" : Str))=false:=by decide):PE X (.Name x pos) (tF G (cC d)):=by obtain⟨v,u,h1,h2,h3⟩:=h;exact J2 (yX hg h1 h2 hd) h3
def QD:FS:=λ_=>none
def tE(i:Nat)(j:Int)(f:FE):FS:=λρ=>match f ρ with
 |some (d,ρ1)=>match pI ρ1 i with
  |some ds=>match ixN ds.length j with
   |some k=>some (.nx (putAt ρ1 i (ds.set k d)))
   |none=>none
  |none=>none
 |none=>none
theorem F7{j:Int}(h:PS X st (wj (tF G f) (PR (ue i) (tC (.int j)) LF))):PS X st (tFS G (tE i j f)):=PS.weak h λE σ H hh=>by
 obtain⟨F,ρ,H0,o,R,e,k,k2⟩:=hh;unfold tE at e;rcases nM (f:=f) (ρ:=ρ)with e1|⟨d,ρ1,e1⟩<;>simp only[e1]at e
 ·cases e
 cases e2:pI ρ1 i with
 |none=>simp only[e2]at e;cases e
 |some ds=>
  simp only[e2]at e;cases e3:ixN ds.length j with
  |none=>simp only[e3]at e;cases e
  |some m=>simp only[e3]at e;cases e;refine⟨F,ρ,H0,d,ρ1,R,e1,λv H1 H1' s R' r=>?_⟩;obtain⟨a,xs,s1,s2,s3,s4⟩:=qr R' e2;exact⟨.ref a,s1,a,xs,j,m,rfl,rfl,s2,by rw[<-nu s3];exact e3,k _ _ _ s (s4 _ _ (Cf m s3 r))⟩
def oZ(T:String):Ty->Option Bool
 |.b n=>if n="NoneType" then some false else if n="bool" then some (T=="bool" ||T=="int")else if n="int" then some (T=="int")else if n="str" then some (T=="str")else if n="tuple" then some (T=="tuple")else if n="list" then some (T=="list")else if n="dict" then some (T=="dict")else none
 |.c _=>none
theorem HR{T:String}:∀k b,oZ T (.c k)=some b->Cw X.K (G.ca k):=λk b h=>by cases h
theorem HU:∀y b,oZ "list" y=some b->b9 X.K (y.val G) (.type "list")=some b:=λy b h=>by
 cases y with
 |c k=>cases h
 |b n=>
  unfold oZ at h;simp only at h
  iterate 7 (split at h;· rename_i e;subst e;cases h;first|rfl|kernel_rfl)
  cases h
theorem KI:∀y b,oZ "str" y=some b->b9 X.K (y.val G) (.type "str")=some b:=λy b h=>by
 cases y with
 |c k=>cases h
 |b n=>
  unfold oZ at h;simp only at h
  iterate 7 (split at h;· rename_i e;subst e;cases h;first|rfl|kernel_rfl)
  cases h
end
end L4
namespace L3
open PySem PySem.Spec PyProof.Rows L2
theorem KJ{X:Cx}{i:Nat}{y:Str}{py spos:Pos}{elt iter tg:Expr}{ifs:List Expr}{scope:bM}{pos:Pos}{N':List Str}{k:Nat}{cap:List Nat}{wi:TI}{g:TG}{tt:TT}{te:TE}
  (hc:X.calm=true) (hN:X.N.Nodup) (hy:X.N[i]?=some y) (hyl:Loc X.env.scope y) (hi:PI X tg iter wi)
  (body:∀(cl:List (Str×Addr)) (C:Addr) (fp:List Addr) (s:ae) (H:Hp),PG (pe X N' scope cl C fp s H) tg g/\PIf (pe X N' scope cl C fp s H) ifs tt/\PE (pe X N' scope cl C fp s H) elt te)
  (hkind:scope.kind=.function:=by rfl) (hcell:(scope.names.all λy=>y.2 != .cell)=true:=by rfl)
  (hloc:(scope.names.all λy=>y.2 != .local||scope.names.lookup y.1==some .local)=true:=by rfl)
  (hfree:(scope.names.all λy=>y.2 != .free||(X.env.kindOf y.1==some .cell||X.env.kindOf y.1==some .free))=true:=by rfl)
  (hlen:N'.length=k+cap.length:=by rfl) (hcap:(N'.drop k).map some=cap.map λj=>X.N[j]?:=by rfl)
  (hcf:((N'.drop k).all λx=>scope.names.lookup x==some .free)=true:=by rfl)
  (hs:∀x,eF iter X.env x=pure x:=by intro _;rfl)
  (hsw:bS (.ListComp elt [⟨tg,iter,ifs,0⟩] scope pos) (some (.Name y py)) spos.line X.env=pure true:=by rfl)
  (hfy:X.fn y=true\/X.env.scope.names.lookup y=some .local:=by first|exact .inl rfl|exact .inr rfl|assumption):
  PS X (.Assign [.Name y py] (.ListComp elt [⟨tg,iter,ifs,0⟩] scope pos) spos) (wj (yg wi g tt te k cap) (sM i)):=by
 intro pins s σ H D I h;rw[exec_Assign_Name_used _ _ _ _ hsw];refine ar (ie (ar ?_));show af _ X.A (do let _<-comprehension (.ListComp elt [⟨tg,iter,ifs,0⟩] scope pos) scope X.env _ (newList []) false (eval iter X.env) (some (assign (.Name y py) X.env))) _ _ s;refine ar (bh (Ax (P:=λ_ s'=>SP X pins D .next s') hc hi body hkind hcell hloc hfree hlen hcap hcf hs I h λa C m u s4 H3 hn back fpC qn=>?_) (λ_ s' hq=>aA (aA hq)) λ_ _ e=>e);obtain⟨oC,esC,nC,gC,dC,rC⟩:=id hn;have I7:=back.pinned (fp:=[C]) (λb hb=>ba.mp hb▸fpC) (λb hb=>ba.mp hb▸⟨oC,gC,λv z=>by rw[dC]at z;cases z⟩);show af _ X.A (assign (.Name y py) X.env (.ref a)) _ _ s4;refine thn (Ei (pos:=py) hN hy hyl hfy _ s4 σ H3 (.ref a) (.ref a) (λσ' H'=>D.nx σ' H') I7 rfl qn) λ_ s6 zz=>?_;obtain⟨σ6,H6,I8,q6⟩:=zz;obtain⟨p1,p2,_⟩:=I8.pin (C,oC) (aZ _ (aZ _ (sm (by simp) gC)));exact⟨m,⟨oC,esC,nC,p1,dC,rC⟩,λh' hs'=>⟨σ6,H6,I8.unpinned.turned (t':=s6.toks) (λb o hb e=>(hs'.2 b hb).trans e) p2 fpC.2.1 fpC.2.2.2.1 fpC.2.2.2.2.1 fpC.2.2.2.2.2,q6⟩⟩
end L3
namespace L4
open PySem PySem.Spec PyProof.Rows L2 L3
variable{st:Stmt}{te:TE}{i:Nat}{ft:FT}{fe:FE}
section
variable{X:Cx}{G:Bg}
theorem zB{te':TE}{g:TG}(h:PS X st (wj te g))(w:∀σ H Q,te' σ H Q->te σ H Q):PS X st (wj te' g):=PS.weak h λE σ H hh=>w _ _ _ hh
theorem F8{k:Nat}{cap:List Nat}{s:FA}{g:FG}(nd:cap.Nodup)(h:PS X st (wj (yg (tFI G s) (tFG G k g) (tFT G ft) (tF G fe) k cap) (sM i))):PS X st (tFS G (oY i (nJ k cap s g ft fe))):=Ck (zB h (Bu nd))
theorem HV{k:Nat}{cap:List Nat}{s:FA}{g:FG}(nd:cap.Nodup)(h:PS X st (wj (yg (tFI G s) (tFG G k g) (tFT G ft) (tF G fe) k cap) (sM i))):PS X st (tFS G (oM i (cL (nJ k cap s g ft fe)))):=EB (zB (zB h (Bu nd)) Qo)
end
variable{es0 es':List D}{np:Nat}
section
variable{f g h:FS}{c:FT}{e e' e2:FE}{a a':FA}{ρ ρ' ρ1 ρ2 ρ3:List Sl}{d x y z:D}{o:Out}{ds xs ys:List D}
theorem m9(h:f ρ=some (.nx ρ')):ni f g ρ=g ρ':=by unfold ni;rw[h]
theorem n5(h:f ρ=some (.rt d ρ')):ni f g ρ=some (.rt d ρ'):=by unfold ni;rw[h]
theorem oG(h:c ρ=some (true,ρ')):sIf c f g ρ=f ρ':=by unfold sIf;rw[h]
theorem qx(h:c ρ=some (false,ρ')):sIf c f g ρ=g ρ':=by unfold sIf;rw[h]
theorem oT(h:e ρ=some (d,ρ')):oM i e ρ=some (.nx (ρ'.set i (.im d))):=by unfold oM;rw[h]
theorem BA(h:a ρ=some (ds,ρ')):oY i a ρ=some (.nx (ρ'.set i (.ls ds))):=by unfold oY;rw[h]
theorem n9(h:e ρ=some (d,ρ')):nT e ρ=some (.rt d ρ'):=by unfold nT;rw[h]
theorem y4(h:a ρ=some (ds,ρ')):p6 a ρ=some (.rn ds ρ'):=by unfold p6;rw[h]
theorem wX(h:e ρ=some (d,ρ')):pb e ρ=some (.nx ρ'):=by unfold pb;rw[h]
theorem CA{k:Nat}{j:Int}(h:e ρ=some (d,ρ1))(h1:pI ρ1 i=some ds)(h2:ixN ds.length j=some k):tE i j e ρ=some (.nx (putAt ρ1 i (ds.set k d))):=by unfold tE;rw[h];simp only[h1,h2]
theorem nP{g:D->D->Option D}(h1:e ρ=some (x,ρ1))(h2:e' ρ1=some (y,ρ2))(h3:g x y=some z):c2 g e e' ρ=some (z,ρ2):=by unfold c2;rw[h1];simp only[h2,h3]
theorem oa{g:D->Option D}(h1:e ρ=some (x,ρ1))(h3:g x=some z):c1 g e ρ=some (z,ρ1):=by unfold c1;rw[h1];simp only[h3]
theorem BB(h1:e (ρ.map Sl.bor)=some (d,ρ1))(hf:p7 d=true):uo e ρ=some (d,ρ):=by unfold uo;rw[h1];simp only[hf,if_true]
theorem qp{b:Bool}(h1:e ρ=some (.bl b,ρ1)):cT e ρ=some (b,ρ1):=by unfold cT;rw[h1]
theorem uq{b:Bool}(h1:c ρ=some (b,ρ1)):px c ρ=some (!b,ρ1):=by unfold px;rw[h1]
theorem BC{b:Bool}{c':FT}(h1:c ρ=some (false,ρ1))(h2:c' ρ1=some (b,ρ2)):rp c c' ρ=some (b,ρ2):=by unfold rp;rw[h1];exact h2
theorem nD(h1:e ρ=some (d,ρ1))(h2:a ρ1=some (ds,ρ2)):aCons e a ρ=some (d::ds,ρ2):=by unfold aCons;rw[h1];simp only[h2]
theorem ng{α:Type}{g:List D->Option α}{r:α}(h1:a ρ=some (ds,ρ1))(h2:g ds=some r):xP g a ρ=some (r,ρ1):=by unfold xP;rw[h1];simp only[h2]
theorem qq(h1:a ρ=some (ds,ρ1)):cL a ρ=some (.lst ds,ρ1):=by unfold cL;rw[h1]
theorem Ny(h1:a ρ=some (ds,ρ1))(hl:ds.length<=1000):nH a ρ=some (ds,ρ1):=by unfold nH;rw[h1];simp only[hl,if_true]
theorem tG(h1:e ρ=some (.lst xs,ρ1))(h2:e' ρ1=some (.lst ys,ρ2))(hl:xs.length+ys.length<=1000):oR e e' ρ=some (xs++ys,ρ2):=by unfold oR;rw[h1];simp only[h2,hl,if_true]
theorem DQ{g:List D->List D->Option (D×List D)}{es:List D}(h0:pI ρ i=some es0)(h1:a ρ=some (ds,ρ1))(h2:pI ρ1 i=some es)(h3:g es ds=some (d,es')):sJ g i a ρ=some (d,putAt ρ1 i es'):=by unfold sJ;rw[h0];simp only[h1,h2,h3]
theorem DR{es:List D}(h0:pI ρ i=some es0)(h1:e ρ=some (d,ρ1))(h2:pI ρ1 i=some es)(hl:es.length<1000):sr i e ρ=some (.non,putAt ρ1 i (es++[d])):=by unfold sr;rw[h0];simp only[h1,h2,hl,if_true]
theorem tH{s:FA}{g:FG}(h1:s ρ=some (ds,ρ1)):qt s g f ρ=forL g f ds ρ1:=by unfold qt;rw[h1]
theorem BD{k:Nat}{cap:List Nat}{s:FA}{g:FG}(h1:s ρ=some (ds,ρ1))(hl:ds.length<=1000):nJ k cap s g ft fe ρ=su k cap g ft fe ds ρ1:=by unfold nJ;rw[h1];simp only[hl,if_true]
theorem HW{n:Nat}{b:FS}{es:List D}(hl:ds.length=np)(h:b (L4.stM n es ds)=some (.rt d ρ))(h0:wU ρ=some es'):fnM np n b es ds=some (d,es'):=by unfold fnM;rw[ah hl,h];simp only[h0]
theorem NA{n:Nat}{b:FS}{es:List D}(hl:ds.length=np)(h:b (L4.stM n es ds)=some (.rn xs ρ))(h0:wU ρ=some es'):fnM np n b es ds=some (.lst xs,es'):=by unfold fnM;rw[ah hl,h];simp only[h0]
theorem HX{n:Nat}{b:FS}(hl:ds.length=np)(h:b (L4.stE n ds)=some (.rn xs ρ)):fnN np n b ds=some xs:=by unfold fnN;rw[ah hl,h]
theorem oh{n:Nat}{b:FS}(hl:ds.length=np)(h:b (L4.stE n ds)=some (.rt d ρ)):fnD np n b ds=some d:=by unfold fnD;rw[ah hl,h]
end
def wy(es:List D):Prop:=(∃c,es=[.int c])\/∃q r n,es=[.int q,.int r,.int n]
theorem sg{a b:Int}(h:tD a=true\/tD b=true):sv (.int a) (.int b)=some (.int (a * b)):=by unfold sv dI;simp only;rw[ah (by simpa using h)]
theorem sQ{a b:Int}(h:0<b):qm (.int a) (.int b)=some (.int (a % b)):=by unfold qm dI;simp only;rw[ah (by simpa using h)]
theorem div_pos{a b:Int}(h:0<b)(h':b<1073741824):uE (.int a) (.int b)=some (.int (a / b)):=by unfold uE dI;simp only;rw[ah (by simp[h,h'])]
theorem CB{a:Int}(h:0<=a)(h':a<2147483647):tD a=true:=by unfold tD;simp only[az,bp];omega
def uX:D->Option Key
 |.int i=>some (.inl i)
 |.str x=>some (.inr x)
 |_=>none
def qS:List Key->List D->Key->Option D
 |k::ks,d::ds,j=>if k=j then some d else qS ks ds j
 |_,_,_=>none
def KL(ks:List Key)(ds:List D)(k:Key)(d:D):List D:=c8 (λk' d'=>if k'=k then d else d') ks ds
def yV(ks:List Key)(k:Key):Bool:=ks.any λk'=>decide (k'=k)
variable{d:D}{a:Addr}{o:Obj}{kvs:List (Key×V)}{b tg e:Expr}{f f' fk:FE}{pos apos cpos:Pos}
section
variable{X:Cx}{G:Bg}{H:Hp}
theorem vK{v:V}{k:Key}(h:Rep G H d v)(e:uX d=some k):v=kV k:=by
 cases d<;>first|cases e|skip
 all_goals (unfold Rep at h;exact h)
theorem wY:∀{ks:List Key} {ds:List D} {xs:List V} (j:Key),nt G H ds xs->ks.length=xs.length->match qS ks ds j with
  |some d=>∃v,rj (ks.zip xs) j=some v/\Rep G H d v
  |none=>rj (ks.zip xs) j=none
 |[],ds,xs,j,r,l=>by cases ds<;>rfl
 |k::ks,ds,[],j,r,l=>by cases l
 |k::ks,[],x::xs,j,r,l=>by unfold nt at r;cases r
 |k::ks,d::ds,x::xs,j,r,l=>by
  unfold nt at r;obtain⟨v,q,e,h1,h2⟩:=r;cases e;unfold qS;by_cases hk:k=j
  ·rw[ah hk];exact⟨x,wL (p:=(k,x)) hk,h1⟩
  ·rw[ai hk];have ih:=wY (ks:=ks) (ds:=ds) (xs:=xs) j h2 (by simpa using l);have e1:rj ((k::ks).zip (x::xs)) j=rj (ks.zip xs) j:=wM (p:=(k,x)) hk;rw[e1];exact ih
theorem BE{k:Key}:∀{ks:List Key} {xs:List V},ks.length=xs.length->((ks.zip xs).any λkv=>decide (kv.1=k))=yV ks k
 |[],xs,_=>by cases xs<;>rfl
 |k'::ks,[],l=>by cases l
 |k'::ks,x::xs,l=>by unfold yV;rw[cP,dA,dA,BE (by simpa using l)];rfl
theorem EH{k:Key}{v:V}:∀{ks:List Key} {xs:List V},ks.length=xs.length->(ks.zip xs).map (λkv=>if kv.1=k then (kv.1,v)else kv)=ks.zip (c8 (λk' x=>if k'=k then v else x) ks xs)
 |[],xs,_=>by cases xs<;>rfl
 |k'::ks,[],l=>by cases l
 |k'::ks,x::xs,l=>by
  rw[cP,aK,EH (by simpa using l),fD,cP];congr 1;by_cases hk:k'=k
  ·rw[ah hk,ah hk]
  ·rw[ai hk,ai hk]
theorem CC{k:Key}{d:D}{v:V}(hd:Rep G H d v):∀{ks:List Key} {ds:List D} {xs:List V},nt G H ds xs->ks.length=xs.length->nt G H (KL ks ds k d) (c8 (λk' x=>if k'=k then v else x) ks xs)
 |[],ds,xs,r,l=>by unfold KL;cases ds<;>cases xs<;>exact nY
 |k'::ks,ds,[],r,l=>by cases l
 |k'::ks,[],x::xs,r,l=>by unfold nt at r;cases r
 |k'::ks,d'::ds,x::xs,r,l=>by
  unfold nt at r;obtain⟨w,q,e,h1,h2⟩:=r;cases e;unfold KL;rw[fD,fD];refine oi ?_ (CC hd h2 (by simpa using l));by_cases hk:k'=k
  ·rw[ah hk,ah hk];exact hd
  ·rw[ai hk,ai hk];exact h1
theorem _root_.L2.DGet.kf{H:Hp}{k:Key}(e:H a=some (.frz o (.dK kvs))):DGet H a (kV k) (rj kvs k):=.inl ⟨kvs,k,.inr ⟨o,e⟩,rfl,rfl⟩
def vW:D->D->Option D:=λx y=>match x,uX y with
 |.dic ks ds,some k=>qS ks ds k
 |_,_=>none
theorem KM{a:Expr}(hu:X.A.units+1<cLine)(ha:PE X a (tF G f))(hb:PE X b (tF G f'))(hs:MJ b:=by exact λ_ _=>rfl):PE X (.Subscript a b pos) (tF G (c2 vW f f')):=PE.weak (JR hu ha hb hs) λσ H Q hh=>by
 obtain⟨F,ρ,H0,d,ρ',R,e,k⟩:=hh;obtain⟨x,y,ρ1,e1,e2,e3⟩:=wO e;refine⟨F,ρ,H0,x,ρ1,R,e1,λv H1 H1' s1 R1 r1=>⟨F,ρ1,H1,y,ρ',R1,e2,λu H2 H2' s2 R2 r2=>?_⟩⟩;have r1':=Rep.mono s2 _ _ r1;cases x with
 |dic ks ds=>
  unfold vW at e3;cases ek:uX y with
  |none=>simp only[ek]at e3;cases e3
  |some j=>simp only[ek]at e3;unfold Rep at r1';obtain⟨p,ob,xs,rfl,h1,h2,h3⟩:=r1';have lv:=wY (ks:=ks) j h3 h2;rw[e3]at lv;obtain⟨w,w1,w2⟩:=lv;refine⟨p,w,rfl,?_,k w H2 H2' (s1.trans s2) R2 w2⟩;rw[vK r2 ek,<- w1];exact DGet.kf (R2.sub _ _ h1)
 |_=>unfold vW at e3;cases e3
def vX:D->D->Option D:=λx y=>match x,uX y with
 |.dic ks ds,some k=>some ((qS ks ds k).getD .non)
 |_,_=>none
theorem HY{a:Expr}(hu:X.A.units+1<cLine)(ha:PE X a (tF G f))(hb:PE X b (tF G f'))(m:M1 X a "get" apos b cpos):PE X (.Call (.Attribute a "get" apos) [b] [] cpos) (tF G (c2 vX f f')):=PE.weak (G6 hu ha hb m) λσ H Q hh=>by
 obtain⟨F,ρ,H0,d,ρ',R,e,k⟩:=hh;obtain⟨x,y,ρ1,e1,e2,e3⟩:=wO e;cases x with
 |dic ks ds=>
  refine⟨F,ρ,H0,_,ρ1,R,e1,λv H1 H1' s1 R1 r1=>?_⟩;have r1':=r1;unfold Rep at r1';obtain⟨p,ob,xs,rfl,h1,h2,h3⟩:=r1';refine⟨p,rfl,.inl ⟨_,.inr ⟨_,R1.sub _ _ h1⟩⟩,F,ρ1,H1,y,ρ',R1,e2,λu H2 H2' s2 R2 r2=>?_⟩;unfold vX at e3;cases ek:uX y with
  |none=>simp only[ek]at e3;cases e3
  |some j=>
   simp only[ek]at e3;cases e3;have lv:=wY (ks:=ks) j (nt.mono s2 _ _ h3) h2;refine⟨rj (ks.zip xs) j,?_,?_⟩
   ·rw[vK r2 ek];exact DGet.kf (R2.sub _ _ (s2 _ _ h1))
   ·cases el:qS ks ds j with
    |none=>rw[el]at lv k;rw[lv];exact k _ H2 H2' (s1.trans s2) R2 sO
    |some z=>rw[el]at lv k;obtain⟨w,w1,w2⟩:=lv;rw[w1];exact k _ H2 H2' (s1.trans s2) R2 w2
 |_=>unfold vX at e3;cases e3
def AG(i:Nat):FS:=λρ=>some (.nx (ρ.set i (.dk [] [])))
theorem HZ(h:PS X st (wj DD (sM i))):PS X st (tFS G (AG i)):=PS.weak h λE σ H hh=>by obtain⟨F,ρ,H0,o,R,e,k,k2⟩:=hh;cases e;intro p hp;have R1:=R.newOwn hp (.dK []);refine k _ _ _ (nz.refl _) (R1.set (s:=.dk [] []) ⟨p,[],rfl,nv,R.h0none hp,R.bNone hp,rfl,nY⟩ λ_ a ea j t _ ej to=>?_);cases ea;exact R.apart hp j t ej to
def rQ(i:Nat)(fk fv:FE):FS:=λρ=>match fv ρ with
 |some (d,ρ1)=>match ρ1[i]? with
  |some (.dk _ _)=>match fk ρ1 with
   |some (y,ρ2)=>match uX y with
    |some k=>match ρ2[i]? with
     |some (.dk ks ds)=>if ks.length<1000 then if ds.length=ks.length then some (.nx (ρ2.set i (if yV ks k=true then .dk ks (KL ks ds k d)else .dk (ks++[k]) (ds++[d]))))else none else none
     |_=>none
    |none=>none
   |none=>none
  |_=>none
 |none=>none
theorem Ia{fv:FE}(h:PS X st (LH (ue i) (tF G fk) (tF G fv))):PS X st (tFS G (rQ i fk fv)):=PS.weak h λE σ H hh=>by
 obtain⟨F,ρ,H0,o,R,e,k,k2⟩:=hh;unfold rQ at e;rcases nM (f:=fv) (ρ:=ρ)with e1|⟨d,ρ1,e1⟩<;>simp only[e1]at e
 ·cases e
 split at e
 ·rename_i ks0 ds0 ei;rcases nM (f:=fk) (ρ:=ρ1)with e2|⟨y,ρ2,e2⟩<;>simp only[e2]at e
  ·cases e
  cases ek:uX y with
  |none=>simp only[ek]at e;cases e
  |some j=>
   simp only[ek]at e;split at e
   ·rename_i ks ds ei2;split at e
    ·rename_i hl;split at e
     ·rename_i hl2;cases e;refine⟨F,ρ,H0,d,ρ1,R,e1,λv H1 H1' s1 R1 r1=>?_⟩;obtain⟨a0,xs0,a1,_⟩:=R1.sl i _ ei;refine⟨_,qQ a1,F,ρ1,H1,y,ρ2,R1,e2,λu H2 H2' s2 R2 r2=>?_⟩;obtain⟨a,xs,b1,b2,b3,b4,b5,b6⟩:=R2.sl i _ ei2;rw[a1]at b1;cases b1;refine⟨a0,upd H2' a0 (.dK (putK (ks.zip xs) j v)),rfl,?_,?_⟩
      ·rw[vK r2 ek];exact G3.k b2 (by rw[dR];exact gG (Nat.min_le_left _ _) (vH (by omega)))
      ·have rv:=Rep.mono s2 _ _ r1;refine k _ _ _ (s1.trans s2) (R2.mut ei2 rfl a1 (λH' hH=>?_) ?_)
       ·by_cases hk:yV ks j=true
        ·rw[ah hk];refine⟨a0,c8 (λk' x=>if k'=j then v else x) ks xs,rfl,?_,b3,b4,by rw[gy,b5,dY],CC rv b6 b5⟩;rw[hH];unfold putK;rw[BE b5,ah hk,EH b5]
        ·rw[ai hk];refine⟨a0,xs++[v],rfl,?_,b3,b4,by rw[aC,aC,b5];rfl,pK b6 (oi rv nY)⟩;rw[hH];unfold putK;rw[BE b5,ai hk,hU b5];rfl
       ·split<;>rfl
     ·cases e
    ·cases e
   ·cases e
 ·cases e
def zC:D->Option D
 |.lst ds=>(Ak ds).map λbs=>.bl (bs.any id)
 |_=>none
theorem F9(hc:X.calm=true)(hK:X.K=G.K:=by rfl):pO X (.builtin "any") (λxs H Q=>∃(p:Addr) (bs:List Bool),xs=[.ref p]/\SqL G.K H p (bs.map V.bl)/\Q (.bl (bs.any id)) H):=by
 rw[<-hK];intro pins s σ H xs us Q I r h;obtain⟨p,bs,rfl,hq,q⟩:=h;obtain⟨u,rfl,ru⟩:=vals1 r;cases ru;obtain⟨its,rv,pl,hz⟩:=I.list hq;have hlt:p<s.heap.objs.size:=by obtain⟨o,ho,_⟩:=pl.isList;exact aH ho
 have hl:bs.length=its.length:=by have:=rv.length;rw[ag]at this;exact this
 refine call_any_walk (eE pl.isList ⟨s.heap.objs.size,_,_,_,_,_,λi=>(bs[i]?).getD false,rfl,f9 (show X.A.in1.handled=none from I.ok.hd hc) _ p (aP hlt) its.toArray,⟨⟨_,bf _ rfl,rfl,rfl⟩,?_⟩,?_,λh' tk hk=>?_⟩)
 ·exact pl.isList.at λo e=>aJ _ e
 ·intro i v s' Q' E' hv hQ';have hv':its[i]?=some v:=by simpa using hv
  have hi:i<its.length:=(bu.mp hv').1;have hb:(bs.map V.bl)[i]?=some (.bl (bs[i]'(by omega))):=by simp[show i<bs.length by omega]
  obtain⟨u,hu,ru⟩:=rv.get hb;rw[hv']at hu;cases hu;cases ru;refine cf ?_;have e:(bs[i]?).getD false=bs[i]'(by omega):=by simp[show i<bs.length by omega]
  rw[<-e];exact hQ'
 ·refine⟨.bl (bs.any id),H,?_,?_,q⟩
  ·exact I.kept (t':=tk) λb o e=>hk b o (by simp;exact aP (aH e)) (aJ _ e)
  ·show Value.bool _=Value.bool _;congr 1;rw[aL,<- hl];rw[cR];simp only[cp,bL,id];constructor
   ·rintro⟨i,hi,h⟩;exact⟨bs[i],dj hi,by simpa [hi]using h⟩
   ·rintro⟨b,hb,h⟩;obtain⟨i,hi,rfl⟩:=jm.mp hb;exact⟨i,hi,by simpa [hi]using h⟩
theorem NB:AE G (λxs H Q=>∃(p:Addr) (bs:List Bool),xs=[.ref p]/\SqL G.K H p (bs.map V.bl)/\Q (.bl (bs.any id)) H) zC:=λx z H0 H v Q e s rx k=>by
 cases x with
 |lst ds=>
  unfold zC at e;simp only at e;cases e1:Ak ds with
  |none=>rw[e1]at e;cases e
  |some bs=>rw[e1]at e;cases e;unfold Rep at rx;obtain⟨a,xs,rfl,h1,h2⟩:=rx;rw[zz h2 e1]at h1;exact⟨a,bs,rfl,s.seq (SqL.of h1),k _ λ_ _=>pZ _⟩
 |_=>cases e
def iS(f:FE):FA:=λρ=>match f ρ with
 |some (.str x,ρ')=>some (x.cps.toList.map λc=>D.str ⟨#[c]⟩,ρ')
 |_=>none
theorem KN(h:PI X tg e (Qh (tF G f))):PI X tg e (tFI G (iS f)):=PI.weak h λσ H R hh=>by
 obtain⟨F,ρ,H0,ds,ρ',R,e,k⟩:=hh;unfold iS at e;split at e
 ·rename_i x ρ1 e1;cases e;refine⟨F,ρ,H0,_,_,R,e1,λv H1 H1' s R' r=>?_⟩;unfold Rep at r;refine⟨x,r,k _ _ _ s R' λi H2 H2' t t'=>⟨λd ed=>?_,λhl=>?_⟩⟩
  ·rw[aX]at ed;cases ec:x.cps.toList[i]? with
   |none=>rw[ec]at ed;cases ed
   |some c=>
    rw[ec]at ed;cases ed;have ec':x.cps[i]?=some c:=by simpa using ec
    refine⟨(i3.mp ec').1,λz H3 y=>?_⟩;obtain⟨e3,c',hc',rfl⟩:=y;rw[ec']at hc';cases hc';subst e3;exact⟨H2,nz.refl _,t',nz.refl _,λb o e=>.inl e,vI _⟩
  ·show i=x.cps.size;rw[hl,ag];simp
 ·cases e
def yj(f g:FE):FE:=λρ=>match f ρ with
 |some (.tup (x::xs),ρ1)=>match g ρ1 with
  |some (.tup ys,ρ2)=>if xs.length+ys.length<=900 then some (.tup (x::xs++ys),ρ2)else none
  |_=>none
 |_=>none
theorem KO{a:Expr}{g:FE}(ha:PE X a (tF G f))(hb:PE X b (tF G g))(hK:X.K=G.K:=by rfl):PE X (.BinOp a .Add b pos) (tF G (yj f g)):=PE.weak (GN JM ha hb) λσ H Q hh=>by
 rw[hK];obtain⟨F,ρ,H0,d,ρ',R,e,k⟩:=hh;unfold yj at e;split at e
 ·rename_i x xs ρ1 e1;split at e
  ·rename_i ys ρ2 e2;split at e
   ·rename_i hl;cases e;refine⟨F,ρ,H0,_,ρ1,R,e1,λv H1 H1' s R' r=>⟨F,ρ1,H1,_,_,R',e2,λu H2 H2' s2 R2 r2=>?_⟩⟩;have r':=Rep.mono s2 _ _ r;have r0:=r';unfold Rep at r' r2;obtain⟨a1,xs1,rfl,h1,h2⟩:=r';obtain⟨a2,xs2,rfl,h3,h4⟩:=r2;have l1:=nu h2;have l2:=nu h4;rw[aD]at l1;refine⟨a1,a2,xs1,xs2,rfl,rfl,SqT.mono R2.sub h1,SqT.mono R2.sub h3,(λz=>by rw[z]at l1;cases l1),by rw[<-l1,<- l2];exact qB (by omega),λz=>?_,λ_ p hp=>?_⟩
    ·have ey:ys=[]:=by rw[z]at l2;exact List.length_eq_zero_iff.mp l2
     subst ey;rw[br]at k;exact k _ _ _ (s.trans s2) R2 r0
    ·exact k _ _ _ ((s.trans s2).trans (nI (R2.h0none hp) _)) (R2.newIm hp _) (Bs (SqT.of nv) (nt.mono (nI (R2.h0none hp) _) _ _ (pK h2 h4)))
   ·cases e
  ·cases e
 ·cases e
end
section
variable{X:Cx}{G:Bg}
abbrev FO:=List Sl->Option (Option Int×List Sl)
def tFO(G:Bg)(f:FO):TO:=λσ H Q=>∃F ρ H0 d ρ',nG G F σ ρ H0 H/\f ρ=some (d,ρ')/\∀H0' H',nz H0 H0'->nG G F σ ρ' H0' H'->Q d H'
def oNo:FO:=λρ=>some (none,ρ)
def oAt(f:FE):FO:=λρ=>match f ρ with
 |some (.int i,ρ')=>some (some i,ρ')
 |_=>none
theorem PO.weak{e:Option Expr}{t t':TO}(h:PO X e t)(w:∀σ H Q,t' σ H Q->t σ H Q):PO X e t':=λpins s σ H Q I hq=>h pins s σ H Q I (w _ _ _ hq)
theorem NC:PO X none (tFO G oNo):=PO.weak JK λσ H Q hh=>by obtain⟨F,ρ,H0,d,ρ',R,e,k⟩:=hh;cases e;exact k _ _ (nz.refl _) R
theorem ND(h:PE X e (tF G f)):PO X (some e) (tFO G (oAt f)):=PO.weak (JL h) λσ H Q hh=>by
 obtain⟨F,ρ,H0,d,ρ',R,e,k⟩:=hh;unfold oAt at e;split at e
 ·rename_i i ρ1 e1;cases e;refine⟨F,ρ,H0,_,_,R,e1,λv H1 H1' s R' r=>?_⟩;unfold Rep at r;exact⟨i,r,k _ _ s R'⟩
 ·cases e
def wZ(f:FE)(lo hi:FO):FA:=λρ=>match f ρ with
 |some (d,ρ1)=>match d with
  |.lst ds=>match lo ρ1 with
   |some (l,ρ2)=>match hi ρ2 with
    |some (h,ρ3)=>some (cutD ds l h,ρ3)
    |none=>none
   |none=>none
  |.fzl ds=>match lo ρ1 with
   |some (l,ρ2)=>match hi ρ2 with
    |some (h,ρ3)=>some (cutD ds l h,ρ3)
    |none=>none
   |none=>none
  |_=>none
 |none=>none
theorem DS{lo hi:FO}(h:PE X e (tSl (JO G.K) (tF G f) (tFO G lo) (tFO G hi))):PE X e (tFN G (wZ f lo hi)):=PE.weak h λσ H Q hh=>by
 obtain⟨F,ρ,H0,ds,ρ',R,e,k⟩:=hh;unfold wZ at e;rcases nM (f:=f) (ρ:=ρ)with e1|⟨d,ρ1,e1⟩<;>simp only[e1]at e
 ·cases e
 have gen:∀(xs:List D),(∀{H1:Hp} {v:V},Rep G H1 d v->∃a ys,v=.ref a/\SqL G.K H1 a ys/\nt G H1 xs ys)->(match lo ρ1 with
   |some (l,ρ2)=>match hi ρ2 with
    |some (h,ρ3)=>some (cutD xs l h,ρ3)
    |none=>none
   |none=>none)=some (ds,ρ')->tSl (JO G.K) (tF G f) (tFO G lo) (tFO G hi) σ H Q:=λxs rd e=>by
  rcases nM (f:=lo) (ρ:=ρ1)with e2|⟨l,ρ2,e2⟩<;>simp only[e2]at e
  ·cases e
  rcases nM (f:=hi) (ρ:=ρ2)with e3|⟨u,ρ3,e3⟩<;>simp only[e3]at e
  ·cases e
  cases e;refine⟨F,ρ,H0,d,ρ1,R,e1,λv H1 H1' s1 R1 r1=>⟨F,ρ1,H1,l,ρ2,R1,e2,λH2 H2' s2 R2=>⟨F,ρ2,H2,u,_,R2,e3,λH3 H3' s3 R3=>?_⟩⟩⟩;obtain⟨a,ys,rfl,q1,q2⟩:=rd (Rep.mono (s2.trans s3) _ _ r1);exact⟨a,ys,rfl,R3.sub.seq q1,λp hp=>k p _ _ _ (s1.trans (s2.trans s3)) (R3.newOwn hp _) nv (R3.h0none hp) (R3.bNone hp) (R3.apart hp) (HL q2)⟩
 cases d with
 |lst xs=>exact gen xs (λr=>by unfold Rep at r;obtain⟨a,ys,rfl,q1,q2⟩:=r;exact⟨a,ys,rfl,SqL.of q1,q2⟩) e
 |fzl xs=>exact gen xs (λr=>by unfold Rep at r;exact r) e
 |_=>cases e
def CD:D->D->Option D
 |.str x,.int n=>if 0<=n/\n<=1000/\x.length<=100 then some (.str (iY x n))else none
 |_,_=>none
end
variable{t:Ty->Option Bool}
section
variable{X:Cx}{G:Bg}
def zD(G:Bg)(c:Nat)(t:Ty->Option Bool):Prop:=(∀y b,t y=some b->b9 G.K (y.val G) (.ref (G.ca c))=some b)/\∀j b,t (.c j)=some b->Cw G.K (G.ca j)
theorem DT{c:Nat}(h:zD G c t)(hK:X.K=G.K:=by rfl):pO X (.builtin "isinstance") (λxs H Q=>∃d x b,xs=[x,(Ty.c c).v G]/\Rep G H d x/\t (tyD d)=some b/\Q (.bl b) H):=
 AF (X:=X) (.c c) (by rw[hK];exact h.1) (by rw[hK];exact h.2) hK
end
def ddp(acc:List Key)(k:Key):List Key:=if acc.any (λz=>decide (z=k))then acc else acc++[k]
def sy(ks:List Key):List Key:=ks.foldl ddp []
theorem KP(acc:List Key)(k j:Key):(ddp acc k).any (λz=>decide (z=j))=(acc.any (λz=>decide (z=j))||decide (j=k)):=by
 unfold ddp;by_cases h:acc.any (λz=>decide (z=k))=true
 ·rw[ah h];by_cases e:j=k
  ·subst e;rw[h];simp
  ·simp[e]
 ·rw[ai h,List.any_append];by_cases e:j=k
  ·subst e;simp
  ·have hb:¬k=j:=λz=>e z.symm;simp[hb,e]
theorem EI(acc:List Key)(k:Key):(ddp acc k).length=if acc.any (λz=>decide (z=k))=true then acc.length else acc.length+1:=by unfold ddp;split<;>simp
theorem AH(ks:List Key)(i:Nat)(h:i<ks.length):sy (ks.take (i+1))=ddp (sy (ks.take i)) ks[i]:=by unfold sy;rw[jO,aV h,List.foldl_append];rfl
theorem Ib(ks:List Key):(sy ks).length<=ks.length:=by
 have gen:∀(l:List Key) (acc:List Key),(l.foldl ddp acc).length<=acc.length+l.length:=by
  intro l
  induction l with
  |nil=>intro acc;simp
  |cons k l ih=>
   intro acc;rw[fP,aD];have h1:=ih (ddp acc k);have h2:(ddp acc k).length<=acc.length+1:=by rw[EI];split<;>omega
   omega
 have:=gen ks [];simpa [sy]using this
theorem set_same{prog:au}{w:ao}{h:Heap}{S S':Key->Bool}{n n':Nat}(hS:h.SetOf (nL prog w) a S n)(e:∀k,S k=S' k)(en:n=n'):h.SetOf (nL prog w) a S' n':=by obtain rfl:S=S':=funext e;subst en;exact hS
section
variable{prog:au}{w:ao}{A:av}{R:cJ->ae->Prop}{I:Addr}{fp wr:List Addr}{GG:Array dE->Array dE->Prop}{n:Nat}{PP:Nat->aa->Prop}{SS:Nat->ae->Prop}
theorem Ie(W:WalksS prog w A.in1 I fp wr GG n PP SS)(S:Addr)(hSf:S∉fp)(ks:List Key)(hn:ks.length=n)
  (hval:∀i v (h:i<ks.length),PP i v->(nL prog w).is ks[i] v=true/\v.scannable=true) (hb:n+1<scanBound):∀(k i:Nat) (s:ae),n - i=k->i<=n->SS i s->
   s.heap.SetOf (nL prog w) S (λj=>(sy (ks.take i)).any (λz=>decide (z=j))) (sy (ks.take i)).length->
   (∀s',Moved (S::wr) GG s s'->s'.heap.SetOf (nL prog w) S (λj=>(sy ks).any (λz=>decide (z=j))) (sy ks).length->R (.ok (.ret .none)) s')->
   bH (model prog w) A (.builtin "set.update.loop" ⟨[.ref S,.ref I],[]⟩) R s:=by
 have hSw:S∉wr:=λz=>hSf (W.sub _ z);have up:∀b∈wr,b∈S::wr:=λb z=>aN _ z;intro k
 induction k with
 |zero=>
  intro i s hk hi hst hS hR;obtain rfl:i=n:=by omega
  refine dS fA ?_;rw[eA dH _];show af _ A.in1 (pyNext (.ref I)>>=_) _ _ s;refine ar (W.done s _ _ hst λs' hm=>?_);show af _ A.in1 (ret Value.none) _ _ s';rw[gq (by omega)]at hS;refine aA (hR s' (hm.mono up) ?_);obtain⟨o,es,ep,t,ho,more⟩:=hS;exact⟨o,es,ep,t,hm.heap S _ hSw ho,more⟩
 |succ k ih=>
  intro i s hk hi hst hS hR;have hlt:i<n:=by omega
  have hlk:i<ks.length:=by omega
  refine dS fA ?_;rw[eA dH _];show af _ A.in1 (pyNext (.ref I)>>=_) _ _ s;refine ar (W.item i s _ _ hlt hst λv s' hP hst' hm=>?_);obtain⟨kv,sc⟩:=hval i v hlk hP;have hS':s'.heap.SetOf (nL prog w) S (λj=>(sy (ks.take i)).any (λz=>decide (z=j))) (sy (ks.take i)).length:=by obtain⟨o,es,ep,t,ho,more⟩:=hS;exact⟨o,es,ep,t,hm.heap S _ hSw ho,more⟩
  show af _ A.in1 (holding [v] (setAdd S v)>>=_) _ _ s';refine ar (cq ?_);unfold setAdd;refine cq ?_;refine ar ((nL prog w).pyHash (k:=ks[i]) kv ?_);have room:(sy (ks.take i)).length+1<scanBound:=by have:=Ib (ks.take i);rw[bz]at this;omega
  refine wpAny_setAddHashed_of (knd:=nL prog w) (s:={ s' with toks:=s'.toks+1 }) kv sc hS' room λh' hsb hS2=>?_;have hSi:h'.SetOf (nL prog w) S (λj=>(sy (ks.take (i+1))).any (λz=>decide (z=j))) (sy (ks.take (i+1))).length:=
   set_same hS2 (λj=>by rw[AH ks i hlk,KP]) (by rw[AH ks i hlk,EI])
  refine aA ⟨ip dH _,ih (i+1) _ (by omega) hlt (W.frame _ s' _ _ hst' (eW _) λb z o e=>?_) hSi λs'' hm'' hS''=>?_⟩
  ·rw[hsb.2 b (λy:b=S=>hSf (by rw[<-y];exact z))];exact e
  ·refine hR s'' (lg W.gtrans ((hm.mono up).then_heap (eW _) λb o z e=>?_) hm'') hS'';rw[hsb.2 b (λy:b=S=>z (by rw[y];exact aG))];exact e
end
theorem KQ(l:Addr)(us:Array aa)(m:Nat)(b:Addr)(o:Obj)(ws:Array aa)(m2:Nat)(hc:o.cls=.type "tuple")(hd:o.data=.seq ws m2)(z0:¬(!us.isEmpty&&d9 (us.size+ws.size))=true)(z1:us.size<=ay)(z2:us.size+ws.size<=ay+1):
  Meets (Builtin.«list.extend» ⟨[.ref l,.ref b],[]⟩) (λ_ R s=>s.heap.get? l=some { cls:=.type "list", data:=.seq us m }/\s.heap.get? b=some o/\R (.ok (.ret Value.none)) { s with heap:=s.heap.update l (d5 λx=>x++ws),toks:=s.toks }):=by
 obtain⟨c,dd,data,sl⟩:=o;cases hc;cases hd;refine .of_wp λprog w A R s h=>?_;obtain⟨hp,g,d,tk,os⟩:=s;obtain⟨hl,hb,h⟩:=h;have f2:=AutoSeq1.sub_tuple_tuple;have f3:=AutoSeq1.sub_list_list;have f4:=AutoSeq1.sub_tuple_list;have f5:=AutoSeq1.sub_list_tuple;have z3:(us++ws).size<=ay+1:=Array.size_append (xs:=us) (ys:=ws)▸z2
 wp_walk using (wpAny_updateSeq hl rfl (hz:=z1) (_hz':=z3)),i5 hl,i5 hb
 exact⟨_,rfl,h⟩
section
variable{X:Cx}{G:Bg}
def CG(K:aj):V->List V->Hp->VK->Prop:=λx vs H Q=>∃l b xs zs,x=.ref l/\vs=[.ref b]/\H l=some (.lst xs)/\SqT K H b zs/\xs.length+zs.length<=ay/\Q .non (upd H l (.lst (xs++zs)))
theorem DU:MtM X "list.extend" (CG X.K):=by
 intro pins s σ H x vs v us Q I rx rv h;obtain⟨l,b,xs,zs,rfl,rfl,hH,hB,hz,q⟩:=h;cases rx;obtain⟨u,rfl,ru⟩:=rv.one;cases ru;obtain⟨z,its,n,r,hl,e⟩:=I.lstM hH;obtain⟨its2,r2,⟨o,e2,hc,n2,hd⟩,hz2⟩:=I.tuple hB;have hl2:=r2.length;have hsz:its.toArray.size+its2.toArray.size<=ay:=by rw[aL,aL];omega
 have hlong:¬(!its.toArray.isEmpty&&d9 (its.toArray.size+its2.toArray.size))=true:=by rw[B4 hsz,kh];exact aT
 refine iO fJ ⟨_,e,rfl⟩ jw (jl _ _)
  (KQ l its.toArray n b o its2.toArray n2 hc hd hlong (by rw[aL];omega) (by omega)) ⟨e,e2,?_⟩
 refine⟨.non,_,I.lset (its':=its++its2) hH e (by simp) (r.append r2) ?_,rfl,q⟩;rw[aC];omega
def uY(i:Nat)(f:FE):FE:=λρ=>match pI ρ i with
 |some _=>match f ρ with
  |some (.tup es,ρ1)=>match pI ρ1 i with
   |some ds=>if ds.length+es.length<=1000 then some (.non,putAt ρ1 i (ds++es))else none
   |none=>none
  |_=>none
 |none=>none
theorem DV(h:PE X e (tBM G.K "list" (CG G.K) (ue i) (vS (tF G f) ze))):PE X e (tF G (uY i f)):=PE.weak h λσ H Q hh=>by
 obtain⟨F,ρ,H0,d,ρ',R,e,k⟩:=hh;unfold uY at e;cases e0:pI ρ i with
 |none=>simp only[e0]at e;cases e
 |some ds0=>
  simp only[e0]at e;rcases nM (f:=f) (ρ:=ρ)with e1|⟨x,ρ1,e1⟩<;>simp only[e1]at e
  ·cases e
  ·cases x with
   |tup es=>
    cases e2:pI ρ1 i with
    |none=>simp only[e2]at e;cases e
    |some ds=>
     simp only[e2]at e;split at e
     ·rename_i hl;cases e;obtain⟨a,xs,s1,s2,s3,_⟩:=qr R e0;refine⟨.ref a,s1,.inl ⟨rfl,xs,SqL.of s2⟩,F,ρ,H0,_,ρ1,R,e1,λv H1 H1' s R' rs=>?_⟩;unfold Rep at rs;obtain⟨p,ys,rfl,hp,rs⟩:=rs;obtain⟨a',xs',t1,t2,t3,t4⟩:=qr R' e2;rw[s1]at t1;cases t1;refine⟨a,p,xs',ys,rfl,rfl,t2,SqT.mono R'.sub hp,?_,k _ _ _ s (t4 _ _ (pK t3 rs)) sO⟩;rw[<-nu t3,<- nu rs];exact qB hl
     ·cases e
   |_=>cases e
end
variable{σ:St}{u:aa}{its:List aa}
section
variable{X:Cx}{G:Bg}{H:Hp}
theorem NF{pins:List (Addr×Obj)}{s:ae}{v:V}(I:Inv X pins σ H s)(hK:X.K=G.K)(hd:Rep G H d v)(rv:RelV v u)(hc:∀k ns ds,d=.obj k ns ds->Cw X.K (G.ca k)):
  ∃HH:Heap->Prop,W.KitX X.K u ((tyD d).val G) HH/\HH s.heap/\u≠.builtin "__main__.__loader__#opaque" := by
 cases d with
 |non=>unfold Rep at hd;subst hd;cases (show u=Value.none from rv);exact⟨_,kY,True.intro,λz=>nomatch z⟩
 |bl x=>unfold Rep at hd;subst hd;cases (show u=Value.bool x from rv);exact⟨_,kZ,True.intro,λz=>nomatch z⟩
 |int x=>unfold Rep at hd;subst hd;obtain⟨t,q⟩:=(show ∃t,u=Value.int x t from rv);cases q;exact⟨_,W.kitx_int,True.intro,λz=>nomatch z⟩
 |str x=>unfold Rep at hd;subst hd;obtain⟨t,q⟩:=(show ∃t,u=Value.str x t from rv);cases q;exact⟨_,W.kitx_str,True.intro,λz=>nomatch z⟩
 |tup ds=>unfold Rep at hd;obtain⟨a,xs,rfl,h1,h2⟩:=hd;cases rv;rw[<-hK]at h1;obtain⟨its,_,⟨o,q1,q2,_⟩,_⟩:=I.tuple h1;exact⟨_,ix,⟨o,q1,q2⟩,λz=>nomatch z⟩
 |lst ds=>unfold Rep at hd;obtain⟨a,xs,rfl,h1,h2⟩:=hd;cases rv;obtain⟨_,_,n,_,q⟩:=(show oQ X.prog X.w H s.heap a (.lst xs) from I.hok a _ h1);exact⟨_,eV,⟨_,q,rfl⟩,λz=>nomatch z⟩
 |fzl ds=>unfold Rep at hd;obtain⟨a,xs,rfl,h1,h2⟩:=hd;cases rv;rw[<-hK]at h1;obtain⟨its,_,⟨o,n,q1,q2,_⟩,_⟩:=I.list h1;exact⟨_,eV,⟨o,q1,q2⟩,λz=>nomatch z⟩
 |dic ks ds=>unfold Rep at hd;obtain⟨a,ob,xs,rfl,h1,h2,h3⟩:=hd;cases rv;obtain⟨_,_,_,vs,_,o,es,ep,q1,q2,_⟩:=(show oQ X.prog X.w H s.heap a (.frz ob (.dK (ks.zip xs))) from I.hok a _ h1);exact⟨_,fY,⟨o,q1,q2.1⟩,λz=>nomatch z⟩
 |obj k ns ds=>have ci:=hc k ns ds rfl;unfold Rep at hd;obtain⟨a,dx,xs,rfl,h1,h2,h3⟩:=hd;cases rv;obtain⟨mA,O,_⟩:=wJ I.hok h1;obtain⟨od,J,_⟩:=O.look;exact⟨_,W.kitx_own (ci.cl.get _) ci.cl.hd ci.ha ci.hn ci.htk ci.hm,J,λz=>nomatch z⟩
def Ga(G:Bg)(cs:List Nat):List V:=cs.map λc=>.ref (G.ca c)
def Ig(G:Bg)(cs:List Nat):List aa:=cs.map λc=>.ref (G.ca c)
theorem Ih(cs:List Nat)(r:Vals (Ga G cs) its):its=Ig G cs:=by
 induction cs generalizing its with
 |nil=>cases r;rfl
 |cons c cs ih=>
  cases r with
  |cons r rr=>cases r;exact aR _ (ih rr)
def EJ(G:Bg)(cs:List Nat)(t:Ty->Option Bool):Prop:=(∀y b,t y=some b->W.kitAny G.K (y.val G) (Ig G cs)=some b)/\∀j b,t (.c j)=some b->Cw G.K (G.ca j)
theorem DW{cs:List Nat}(ht:EJ G cs t)(hK:X.K=G.K:=by rfl):pO X (.builtin "isinstance") (λxs H Q=>∃d x b tp,xs=[x,.ref tp]/\H tp=some (.tup (Ga G cs))/\Rep G H d x/\t (tyD d)=some b/\Q (.bl b) H):=by
 intro pins s σ H xs us Q I r h;obtain⟨d,x,b,tp,rfl,h1,hd,e,q⟩:=h;obtain⟨u,w',rfl,ru,rw'⟩:=vals2 r;cases rw';obtain⟨HH,Z,z,ne⟩:=NF I hK hd ru λk ns ds y=>by subst y;rw[hK];exact ht.2 k b e
 obtain⟨_,its,rv,⟨⟨c,dd,da,sl⟩,q1,q2,n,q3⟩⟩:=(show oQ X.prog X.w H s.heap tp (.tup (Ga G cs)) from I.hok tp _ h1);cases q2;cases q3;have ei:=Ih cs rv;subst ei;exact W.kia_tup Z I.kIn z q1 (by rw[hK];exact ht.1 _ _ e) ne λtk=>⟨.bl b,H,I.tok _,rfl,q⟩
def NG(G:Bg):List Nat->TA
 |[]=>ze
 |c::r=>vS (tC (.ref (G.ca c))) (NG G r)
theorem EK:∀(cs:List Nat) (σ:St) (H:Hp) (Q:List V->Hp->Prop),Q (Ga G cs) H->NG G cs σ H Q
 |[],_,_,_,h=>h
 |c::r,σ,H,Q,h=>EK r σ H (λxs H2=>Q (.ref (G.ca c)::xs) H2) h
theorem Ii{cs:List Nat}(h:PE X e (tCB (λxs H Q=>∃d x b tp,xs=[x,.ref tp]/\H tp=some (.tup (Ga G cs))/\Rep G H d x/\t (tyD d)=some b/\Q (.bl b) H) (vS (tF G f) (vS (P7 (NG G cs)) ze))))(hl:cs.length<=1000:=by decide):PE X e (tF G (c1 (nZ t) f)):=PE.weak h λσ H Q hh=>by
 obtain⟨F,ρ,H0,d,ρ',R,e,k⟩:=hh;obtain⟨x,e1,e2⟩:=wN e;unfold nZ at e2;cases e3:t (tyD x)with
 |none=>rw[e3]at e2;cases e2
 |some b=>
  rw[e3]at e2;cases e2;refine⟨F,ρ,H0,x,ρ',R,e1,λv H1 H1' s R' r=>EK cs _ _ _ ⟨?_,λp hp=>?_⟩⟩
  ·unfold Ga;rw[ag];exact qB hl
  ·exact⟨x,v,b,p,rfl,nv,Rep.mono (R'.sub.trans (nI hp _)) _ _ r,e3,k _ _ _ (s.trans (nI (R'.h0none hp) _)) (R'.newIm hp _) (pZ b)⟩
end
abbrev one(j:Nat)(led pl:Bool):bF:=⟨7,#[j],#[],0,led,0,pl⟩
variable{ks:List Key}
section
variable{prog:au}{w:ao}{A:av}{E:aa->ae->Prop}{s:ae}
abbrev TK(prog:au)(w:ao):=IsTupleKey (nL prog w)
theorem cls_val(n:Nat){v:aa}(h:hZ v=true):eI n v=pure false:=by
 cases v with
 |ref a=>simp[hZ]at h
 |_=>first|rfl|simp[eI]|(unfold eI;rfl)
theorem EL{Q:Bool->ae->Prop}(hk:TK prog w s.heap ks a)(h:Q false s):af (model prog w) A (eI 8 (.ref a)) Q E s:=by
 have hT:=hk.typeIs;obtain⟨o,items,n,ho,_,hd,hi⟩:=hk;unfold eI;refine ar (wpAny_typeOf hT ?_);show af _ _ (pure true>>=_) _ _ s;refine ar (aA ?_);simp only[Bool.not_true,eD,if_false];refine ar (kl ho hd ?_);refine ar ?_;show af _ _ (forIn items _ _) _ _ s;rw[<-jH];refine gZ _ (λrest r s'=>r.1=none/\s'=s/\∀v∈rest,hZ v=true) _ ?_ ?_ _ _ ⟨rfl,rfl,hi.byValue⟩
 ·rintro v rest r s' ⟨hr,rfl,hall⟩;rw[cls_val _ (hall v aG)];refine ar (aA ?_);simp only[eD,if_false];exact aA ⟨rfl,rfl,λu hu'=>hall u (aN _ hu')⟩
 ·rintro⟨r1,r2⟩ s' ⟨hr,rfl,_⟩;simp only at hr;subst hr;exact aA h
end
variable{ep:Nat}
section
variable{prog:au}{w:ao}{A:av}{E:aa->ae->Prop}{s:ae}
theorem Ik{hp:Heap}{S:Addr}{es es':Array (Int×aa)}{t t':bF}(ho:hp.get? S=some o)(hd:o.data=.set es ep t):(hp.update S (iQ es' t')).get? S=some { o with data:=.set es' (ep+1) t' }:=by have:=jg (iQ es' t') ho (by rw[putSet_of es' t' hd];rfl);rw[putSet_of es' t' hd]at this;exact this
end
section
variable{prog:au}{w:ao}{A:av}{R:cJ->ae->Prop}{I:Addr}{fp wr:List Addr}{GG:Array dE->Array dE->Prop}{PP:Nat->aa->Prop}{SS:Nat->ae->Prop}
theorem TK.kept{h h':Heap}(t:TK prog w h ks a)(e:∀o,h.get? a=some o->h'.get? a=some o):TK prog w h' ks a:=by obtain⟨o,its,n,ho,m⟩:=t;exact⟨o,its,n,e o ho,m⟩
def QE(h:Heap)(S:Addr)(n:Nat):Prop:=∃o es ep t,h.get? S=some o/\o.ExactSet/\o.data=.set es ep t/\es.size<scanBound/\t.fits es.size=true/\es.size=n
end
theorem sub_tuple_set:isSubtype (.type "tuple") (.type "set")=pure false:=by rw[km];kernel_rfl
theorem sub_tuple_frozenset:isSubtype (.type "tuple") (.type "frozenset")=pure false:=by rw[km];kernel_rfl
variable{ax:Addr}{itO:Obj}
section
variable{prog:au}{w:ao}{A:av}{E:aa->ae->Prop}{s:ae}{Q:aa->ae->Prop}
abbrev ur(led:Bool):Obj:={ cls:=.type "set", dict:=none,data:=.set #[] 0 (.fresh 0 0 led) }
abbrev inK(ks:List Key):Key->Bool:=λj=>(sy ks).any (λz=>decide (z=j))
structure QF(prog:au)(w:ao)(h:Heap)(a:Addr)(items:Array aa)(ks:List Key):Prop where
 len:ks.length=items.size
 key:∀i v (hi:i<ks.length),items[i]?=some v->(nL prog w).is ks[i] v=true/\v.scannable=true
 bnd:items.size+1<scanBound
def KR(s:ae)(PS:Heap->Prop)(E:aa->ae->Prop):cJ->ae->Prop:=
 wants (λr s2=>r=.none/\∃h2 k2,s2={ s with heap:=h2,toks:=k2 }/\PS h2/\∀b o,b<s.heap.objs.size->s.heap.get? b=some o->h2.get? b=some o) E
theorem CH{items:Array aa}{led:Bool}{SS:Nat->Heap->Prop}(K:QF prog w s.heap ax items ks)(hlt:ax<s.heap.objs.size)
  (W:Walks prog w A.in1 (s.heap.objs.size+1) [s.heap.objs.size+1,ax] [s.heap.objs.size+1] items.size (λi v=>items[i]?=some v) SS) (st:SS 0 ((s.heap.push (ur led)).push itO)) {R:cJ->ae->Prop}
  (hR:∀h2 k2,h2.SetOf (nL prog w) s.heap.objs.size (inK ks) (sy ks).length->(∀b o,b<s.heap.objs.size->s.heap.get? b=some o->h2.get? b=some o)->R (.ok (.ret .none)) { s with heap:=h2,toks:=k2 }) (tk:Nat):
  bH (model prog w) A (.builtin "set.update.loop" ⟨[.ref s.heap.objs.size,.ref (s.heap.objs.size+1)],[]⟩) R { s with heap:=(s.heap.push (ur led)).push itO,toks:=tk }:=by
 have notin:s.heap.objs.size∉[s.heap.objs.size+1,ax]:=by
  intro z;rcases aO.mp z with z|z
  ·exact ak z (aP (dq _))
  ·exact ak (ba.mp z) (iw hlt)
 have e0:((s.heap.push (ur led)).push itO).get? s.heap.objs.size=some (ur led):=aJ _ (bf _ rfl);refine Ie W.toS s.heap.objs.size notin ks K.len (λi v hi hv=>K.key i v hi hv) K.bnd (items.size - 0) 0 _ (by omega) (cw _) st ?_ λs2 mv S2=>?_
 ·exact⟨_,#[],0,_,e0,⟨rfl,rfl,rfl⟩,rfl,λe he=>by simp at he,λk=>by simp[sy],by unfold scanBound;decide,by rfl,rfl⟩
 ·obtain⟨h2,g2,d2,k2,o2⟩:=s2;have eg:g2=s.gens:=mv.gens;have ed:d2=s.drawn:=mv.drawn;have eo:o2=s.os:=mv.os;subst eg ed eo;refine hR h2 k2 S2 λb o hb e=>mv.heap b o (λz=>?_) (aJ _ (aJ _ e));rcases aO.mp z with z|z
  ·exact ak z (aP hb)
  ·exact ak (ba.mp z) (aP (dh hb))
theorem DX(a:aa){Q₁:aa->ae->Prop}(h:Q₁ (.ref s.heap.objs.size) { s with heap:=s.heap.push (ur (!w.params.followText "set-order")) }):
  bH (model prog w) A (.call (.builtin "set.__new__") ⟨[.type "set", a],[]⟩) (wants Q₁ E) s:=by
 refine j6 ?_;show af _ A.in1 (do checkBuiltinCall "set.__new__" ⟨[.type "set", a],[]⟩;again (.builtin "set.__new__" ⟨[.type "set", a],[]⟩)) _ _ s;refine ar (wpAny_of_eq (F.newCall_set_1 a) (aA ⟨ip j7 _,dS F.entry_set_new ?_⟩));rw[eA j7 _];unfold Builtin.«set.__new__» ly;have hsub:=sub_set_self;obtain⟨hp,g,d,tk,os⟩:=s;dsimp only
 wp_walk
 refine wpAny_askSetting (aA ?_);dsimp only;simp only[newObj];refine ar (wpAny_alloc (aA ?_));exact aA h
theorem zF{T:String}{PS:Heap->Prop}(ho:s.heap.get? ax=some o)(hc:o.cls=.type T)
  (u1:isSubtype (.type T) (.type "set")=pure false) (u2:isSubtype (.type T) (.type "frozenset")=pure false) (u3:(Value.type T==Value.type "dict")=false)
  (itr:∀(A:av) (Q:aa->ae->Prop) (E:aa->ae->Prop) (s1:ae),s1.heap.get? ax=some o->Q (.ref s1.heap.objs.size) { s1 with heap:=s1.heap.push itO }->af (model prog w) A (pyIter (.ref ax)) Q E s1)
  (fil:∀tk (R:cJ->ae->Prop),(∀h2 k2,PS h2->(∀b o,b<s.heap.objs.size->s.heap.get? b=some o->h2.get? b=some o)->R (.ok (.ret .none)) { s with heap:=h2,toks:=k2 })->
   bH (model prog w) A.in1.in1 (.builtin "set.update.loop" ⟨[.ref s.heap.objs.size,.ref (s.heap.objs.size+1)],[]⟩) R { s with heap:=(s.heap.push (ur (!w.params.followText "set-order"))).push itO,toks:=tk })
  (h:∀h2 k2,PS h2->(∀b o,b<s.heap.objs.size->s.heap.get? b=some o->h2.get? b=some o)->Q (.ref s.heap.objs.size) { s with heap:=h2,toks:=k2 }):
  af (model prog w) A (call (.type "set") [.ref ax]) Q E s:=by
 have hlt:ax<s.heap.objs.size:=aH ho;obtain⟨c,tl,hmro⟩:=c9.mro;have made:=c9.made;have subs:=c9.sub;refine eX (j6 ?_);show af _ _ (callAny (.type "set") _) _ _ _;refine aA ⟨Code.quiet_builtin _ (by decide +kernel),dS F.entry_type_call ?_⟩;rw[Around.under_plain (weight_type_call_type "set" [.ref ax] []) rfl];have n1:=c9.notType;have n2:=c9.canCreate;have n3:=F.typeCall_set_1 (.ref ax)
 repeat (any_goals (first|assumption|wp_step))
 let led:Bool:=!w.params.followText "set-order";refine dB (DX (.ref ax) (E:=E) (Q₁:=λv s1=>v=.ref s.heap.objs.size/\s1={ s with heap:=s.heap.push (ur led) }) ⟨rfl,rfl⟩) λr s1 hr=>?_;cases r with
 |error e=>exact hr
 |ok fl=>
  cases fl with
  |ret v=>
   obtain⟨rfl,rfl⟩:=hr;have e0:(s.heap.push (ur led)).get? s.heap.objs.size=some (ur led):=bf _ rfl;have ty0:Shared.TypeIs { s with heap:=s.heap.push (ur led) } (.ref s.heap.objs.size) "set" := ⟨_,e0,rfl⟩;have l1:=c9.init.lookup;have l2:=c9.init.bind (.ref s.heap.objs.size)
   repeat (any_goals (first|assumption|wp_step))
   refine dB (jn (R:=KR s PS E) c9.init.plain F.entry_set_init (check_set_init_1 ty0 ?_)) λr2 s2 hr2=>?_
   ·obtain⟨oc,od,oda,osl⟩:=o;cases hc;have e1:(s.heap.push (ur led)).get? ax=some { cls:=.type T,dict:=od,data:=oda,slots:=osl }:=aJ _ ho;unfold Builtin.«set.__init__» noKeywords lq;generalize gP:pyIter=PP
    wp_walk
    subst gP;refine itr _ _ _ _ e1 ?_;refine ar (wpAny_runValue ?_);have ez:(s.heap.push (ur led)).objs.size=s.heap.objs.size+1:=dv _ _;show bH _ _ (.builtin "set.update.loop" ⟨[.ref s.heap.objs.size,.ref (s.heap.push (ur led)).objs.size],[]⟩) _ _;rw[ez];refine fil _ _ λh2 k2 S2 kk=>?_;show af _ _ _ _ _ _;refine aA ?_;show af _ _ (ret Value.none) _ _ _;exact aA ⟨rfl,h2,k2,rfl,S2,kk⟩
   ·cases r2 with
    |error e=>exact hr2
    |ok fl2=>
     cases fl2 with
     |ret r=>
      obtain⟨rfl,h2,k2,rfl,S2,kk⟩:=hr2
      repeat (any_goals (first|assumption|wp_step))
      exact h _ _ S2 kk
     |_=>exact hr2.elim
  |_=>exact hr.elim
end
variable{S:aj->Hp->Addr->Nat->Prop}
section
variable{X:Cx}{G:Bg}{H:Hp}{pins:List (Addr×Obj)}{σ:St}{s:ae}
theorem Il{P:au}{w:ao}{k:Key}{v:aa}(h:(nL P w).is k v=true):v.scannable=true:=by rcases oE h with ⟨i,t,_,rfl⟩|⟨x,t,_,rfl⟩<;>rfl
theorem Im(r:Vals (ks.map kV) its)(hb:ks.length+1<scanBound):QF X.prog X.w s.heap a its.toArray ks:=by
 have hl:ks.length=its.length:=by have:=r.length;rw[ag]at this;exact this
 refine⟨by rw[aL];exact hl,λi v hi hv=>?_,by rw[aL];omega⟩;have e:(ks.map kV)[i]?=some (kV ks[i]):=by rw[aX,aV hi];rfl
 obtain⟨u,hu,ru⟩:=r.get e;have eu:v=u:=by rw[jh]at hv;rw[hv]at hu;exact bK hu
 subst eu;have:=yf (P:=X.prog) (w:=X.w) ru;exact⟨this,Il this⟩
theorem QG(I:Inv X pins σ H s)(h:SqT X.K H a (ks.map kV)):TK X.prog X.w s.heap ks a:=by
 obtain⟨its,r,p,_⟩:=I.tuple h;obtain⟨o,ho,hc,n,hd⟩:=p;refine⟨o,_,n,ho,hc,hd,?_⟩;have gen:∀(ks:List Key) (its:List aa),Vals (ks.map kV) its->PySem.ItemsAre (nL X.prog X.w) ks its:=λks=>by
  induction ks with
  |nil=>intro its r;cases r;exact .nil
  |cons k ks ih=>intro its r;cases r with|cons h1 h2=>exact .cons (yf h1) (ih _ h2)
 exact gen ks its r
def NH(K:aj)(H:Hp)(a:Addr)(n:Nat):Prop:=∃ks,(SqL K H a (ks.map kV)\/SqT K H a (ks.map kV))/\ks.length+1<scanBound/\n=(sy ks).length
def NI(X:Cx)(S:aj->Hp->Addr->Nat->Prop):Prop:=∀{pins:List (Addr×Obj)} {σ:St} {H:Hp} {s:ae} {A:av} {E:aa->ae->Prop} {Q:aa->ae->Prop} {a:Addr} {n:Nat},Inv X pins σ H s->A.handled=none->A.units+8<cLine->S X.K H a n->
 (∀h2 k2,QE h2 s.heap.objs.size n->(∀b o,b<s.heap.objs.size->s.heap.get? b=some o->h2.get? b=some o)->Q (.ref s.heap.objs.size) { s with heap:=h2,toks:=k2 })->af (model X.prog X.w) A (call (.type "set") [.ref a]) Q E s
theorem QH:NI X (NH):=by
 intro pins σ H s A E Q a n I hh hu hq h;have h3:A.in1.in1.in1.handled=none:=by simp[hh]
 have gt:∀{h2:Heap} {ks:List Key},h2.SetOf (nL X.prog X.w) s.heap.objs.size (inK ks) (sy ks).length->QE h2 s.heap.objs.size (sy ks).length:=λS=>by obtain⟨o,es,ep,t,ho,hex,hd,_,_,hz,hf,hn⟩:=S;exact⟨o,es,ep,t,ho,hex,hd,hz,hf,hn⟩
 have it:∀{o:Obj} {led:Bool},o.isFreed=false->((s.heap.push (ur led)).push o).get? (s.heap.objs.size+1)=some o:=λ{o led} z=>by rw[show s.heap.objs.size+1=(s.heap.push (ur led)).objs.size from(dv _ _).symm];exact bf _ z
 obtain⟨ks,hq|hq,hb,rfl⟩:=hq
 ·obtain⟨its,r,p,_⟩:=I.list hq;obtain⟨o,ho,hc,n,hd⟩:=p.isList;have hne:a≠s.heap.objs.size+1:=aP (dh (aH ho));refine zF ho hc ko jo (by decide) (itO:={ cls:=.type "list_iterator", data:=.fields #[.ref a,.int 0 0] })
   (λA Q E s1 e k=>eE ⟨o,e,hc,n,hd⟩ k) (λtk R hR=>CH (Im r hb) (aH ho) (f9 h3 _ a hne its.toArray) ⟨⟨_,it rfl,rfl,rfl⟩,⟨o,aJ _ (aJ _ ho),hc,n,hd⟩⟩ (λh2 k2 S=>hR h2 k2 (gt S)) tk) h
 ·obtain⟨its,r,p,_⟩:=I.tuple hq;obtain⟨o,ho,hc,n,hd⟩:=p;have hne:a≠s.heap.objs.size+1:=aP (dh (aH ho));refine zF ho hc sub_tuple_set sub_tuple_frozenset (by decide) (itO:={ cls:=.type "tuple_iterator", data:=.fields #[.ref a,.int 0 0] })
   (λA Q E s1 e k=>jE ⟨o,e,hc,n,hd⟩ k) (λtk R hR=>CH (Im r hb) (aH ho) (Walks.tuple h3 _ a hne its.toArray) ⟨⟨_,it rfl,rfl,rfl⟩,⟨o,aJ _ (aJ _ ho),hc,n,hd⟩⟩ (λh2 k2 S=>hR h2 k2 (gt S)) tk) h
def EM(S:aj->Hp->Addr->Nat->Prop)(K:aj)(te:TE):TE:=λσ H Q=>te σ H λx H1=>∃a n,x=.ref a/\S K H1 a n/\Q (.int n) H1
theorem Gb{p1 p2 p3 p4:Pos}(hV:NI X S)(hu:X.A.units+64<cLine)(hc:X.calm=true)(g1:Gl X "len")(m1:X.mg "len" = none)(g2:Gl X "set")(m2:X.mg "set" = none)(he:PE X e te)
  (z1:aq [Expr.Call (.Name "set" p2) [e] [] p3] X.env=[(false,eval (.Call (.Name "set" p2) [e] [] p3) X.env)]:=by rfl) (z2:aq [e] X.env=[(false,eval e X.env)]:=by rfl):PE X (.Call (.Name "len" p1) [.Call (.Name "set" p2) [e] [] p3] [] p4) (EM S X.K te):=by
 intro pins s σ H Q I h;refine cG (wg I g1 m1 kq ?_ (by decide) (by decide));refine callWith_builtin1 ?_ z1 rfl;rw[z1];show af _ _ (spliced [(false,eval (.Call (.Name "set" p2) [e] [] p3) X.env)]) _ _ s;refine dJ ?_;refine cG (wg I g2 m2 Pv.boot_set ?_ (by decide) (by decide));refine callWith_type1 (thn (pW he tu z2 p3 pins s σ H (λvs H1=>match vs with
  |[x]=>∃a n,x=.ref a/\S X.K H1 a n/\Q (.int n) H1
  |_=>False) I h) λus s1 ⟨vs,H1,I1,r1,q1⟩=>?_) z2 rfl
 match vs,r1,q1 with
 |[x],r1,q1=>
 obtain⟨a,n,e1,hq,q⟩:=q1;subst e1;obtain⟨u,rfl,ru⟩:=vals1 r1;cases ru;refine hV I1 (I1.ok.hd hc) (by omega) hq λh2 k2 S2 kk=>?_;refine eG ?_;obtain⟨o,es,ep,t,ho,hex,hd,hz,hf,hn⟩:=S2;have I2:Inv X pins σ H1 { s1 with heap:=h2,toks:=k2 }:=I1.kept λb o e=>kk b o (aH e) e;refine call_len_set ho hex hd hf (by unfold scanBound at hz;omega) ⟨.int n,H1,I2.tok _,⟨_,by rw[hn]⟩,q⟩
def vY:List D->Option (List Key)
 |[]=>some []
 |d::ds=>match uX d,vY ds with
  |some k,some ks=>some (k::ks)
  |_,_=>none
theorem AI:∀{ds:List D} {xs:List V} {ks:List Key},nt G H ds xs->vY ds=some ks->xs=ks.map kV
 |[],xs,ks,r,e=>by cases e;unfold nt at r;exact r
 |d::ds,xs,ks,r,e=>by
  unfold vY at e;cases e1:uX d with
  |none=>rw[e1]at e;cases e
  |some k=>
   cases e2:vY ds with
   |none=>rw[e1,e2]at e;cases e
   |some ks'=>rw[e1,e2]at e;cases e;unfold nt at r;obtain⟨v,r',rfl,h1,h2⟩:=r;rw[vK h1 e1,AI h2 e2];rfl
def qe(ds:List D):Option D:=match vY ds with
 |some ks=>if ks.length<=1000 then some (.int (sy ks).length)else none
 |none=>none
def w5(g:List D->Option D):D->Option D
 |.lst ds=>match qe ds with
  |some r=>some r
  |none=>g ds
 |.tup ds=>qe ds
 |.fzl ds=>qe ds
 |_=>none
theorem EN{g:List D->Option D}{ds:List D}{r:D}(h:qe ds=some r):w5 g (.lst ds)=some r:=by show (match qe ds with|some r=>some r|none=>g ds)=some r;rw[h]
theorem DY{g:List D->Option D}(hK:X.K=G.K)(hO:∀{H a n},NH X.K H a n->S X.K H a n)
  (hg:∀{ds d H1 H1' a xs},g ds=some d->SqL X.K H1' a xs->nt G H1 ds xs->nz H1 H1'->∃n:Nat,S X.K H1' a n/\d=.int n)
  (h:PE X e (EM S X.K (tF G f))):PE X e (tF G (c1 (w5 g) f)):=PE.weak h λσ H Q hh=>by
 obtain⟨F,ρ,H0,d,ρ',R,e,k⟩:=hh;obtain⟨x,e1,e2⟩:=wN e;have key:∀{ds:List D} {xs:List V} {a:Addr} {H1 H1':Hp},qe ds=some d->nt G H1 ds xs->nz H0 H1->nG G F σ ρ' H1 H1'->(SqL X.K H1' a xs\/SqT X.K H1' a xs)->
   ∃a' n,V.ref a=.ref a'/\S X.K H1' a' n/\Q (.int n) H1':=λ{ds xs a H1 H1'} ed rs s R' hq=>by
  unfold qe at ed;cases ek:vY ds with
  |none=>rw[ek]at ed;cases ed
  |some ks=>
   rw[ek]at ed;simp only at ed;split at ed
   ·rename_i hl;cases ed;rw[AI rs ek]at hq;exact⟨a,_,rfl,hO ⟨ks,hq,by unfold scanBound;omega,rfl⟩,k _ _ _ s R' (pJ _)⟩
   ·cases ed
 refine⟨F,ρ,H0,x,ρ',R,e1,λv H1 H1' s R' r=>?_⟩;cases x with
 |lst ds=>
  unfold Rep at r;obtain⟨a,xs,rfl,h1,h2⟩:=r;have hq:SqL X.K H1' a xs:=SqL.of (R'.sub _ _ h1);replace e2:(match qe ds with|some r=>some r|none=>g ds)=some d:=e2;cases e3:qe ds with
  |some r=>rw[e3]at e2;cases e2;exact key e3 h2 s R' (.inl hq)
  |none=>rw[e3]at e2;obtain⟨n,h3,rfl⟩:=hg e2 hq h2 R'.sub;exact⟨a,n,rfl,h3,k _ _ _ s R' (pJ _)⟩
 |tup ds=>unfold Rep at r;obtain⟨a,xs,rfl,h1,h2⟩:=r;rw[<-hK]at h1;exact key e2 h2 s R' (.inr (SqT.mono R'.sub h1))
 |fzl ds=>unfold Rep at r;obtain⟨a,xs,rfl,h1,h2⟩:=r;rw[<-hK]at h1;exact key e2 h2 s R' (.inl (R'.sub.seq h1))
 |_=>cases e2
end
theorem EO{P:au}{w:ao}{k:Key}{v:aa}(h:(nL P w).is k v=true):RelV (kV k) v:=by
 rcases oE h with ⟨i,t,rfl,rfl⟩|⟨x,t,rfl,rfl⟩
 ·exact⟨t,rfl⟩
 ·exact⟨t,rfl⟩
def Itd(a:Addr)(o:Obj)(kvs:List (Key×V)):It:=
 ⟨λi H=>i<kvs.length/\H a=some (.frz o (.dK kvs)),λi H x H'=>H'=H/\∃k z,kvs[i]?=some (k,z)/\x=kV k,λi H=>kvs.length<=i/\H a=some (.frz o (.dK kvs))⟩
section
variable{X:Cx}{pins:List (Addr×Obj)}{σ:St}{H:Hp}{s:ae}
theorem yk{es:Array DictEntry}(I:Inv X pins σ H s)(e:H a=some (.frz o (.dK kvs)))(hd:o.data=.dict es ep):
  (a==cj)=false/\s.heap.get? a=some o/\∃vs,KV kvs vs/\s.heap.DictAt (nL X.prog X.w) a vs ep:=by
 obtain⟨q0,_,y,vs,r,ob,es',ep',q1,q2,q3,q4⟩:=(show oQ X.prog X.w H s.heap a (.frz o (.dK kvs)) from I.hok a _ e);rw[q0]at q1;cases q1;rw[hd]at q3;cases q3;exact⟨y,q0,vs,r,o,es,q0,q2,hd,q4⟩
theorem NJ{vs:List (Key×aa)}(r:KV kvs vs){k:Key}{x:aa}(e:vs[i]?=some (k,x)):∃z,kvs[i]?=some (k,z):=by
 induction r generalizing i with
 |nil=>cases e
 |@cons p q l l' h _ ih=>
  cases i with
  |zero=>obtain⟨pk,pv⟩:=p;cases e;exact⟨pv,by rw[show pk=k from h.1];rfl⟩
  |succ i=>exact ih e
end
theorem Gc{P:au}{w:ao}{K:aj}(a it:Addr)(o:Obj)(kvs:List (Key×V)):Turn P w K tg (Itd a o kvs) [it] it (λi h=>∃es ep,o.data=.dict es ep/\h.IsKeyIter it a i kvs.length ep) where
 mem:=by simp
 obj:=λi h st b hb=>by
  have e:b=it:=by simpa using hb
  subst e;obtain⟨es,ep,hd,ob,e,c,d⟩:=st;exact⟨ob,e,λv z=>by rw[d]at z;cases z⟩
 keep:=λi h h' st k=>by obtain⟨es,ep,hd,x⟩:=st;exact⟨es,ep,hd,x.at λo e=>k it (by simp) o e⟩
 item:=by
  intro X hP hw hK hc i pins s σ H E I hf st hg;subst hP hw hK;obtain⟨hi,he⟩:=hg;obtain⟨es,ep,hd,ki⟩:=st;obtain⟨f0,f1,f2,f3,f4,f5⟩:=hf it (by simp);obtain⟨_,_,vs,r,da⟩:=yk I he hd;have hl:kvs.length=vs.length:=r.length;have hne:a≠it:=λz=>by subst z;rw[he]at f0;cases f0
  have W:=Walks.dictKeys (knd:=nL X.prog X.w) (A:=X.A) (I.ok.hd hc) it a hne vs ep;refine W.item i s _ _ (by omega) ⟨by rw[<-hl];exact ki,da⟩ λv h' tk hv st' kk=>?_;obtain⟨k,x,hx,hk⟩:=hv;obtain⟨z,hz⟩:=NJ r hx;have I1:Inv X pins σ H { s with heap:=h',toks:=tk }:=I.turned (λb o hb e=>kk b o (by simpa using hb) e) f0 f1 f3 f4 f5;obtain⟨ki',_⟩:=st';rw[<-hl]at ki';obtain⟨ob,e,c,d⟩:=id ki';exact⟨v,rfl,Ej (s:={ s with heap:=h',toks:=tk }) e c d (by decide) ⟨kV k,H,I1,EO hk,⟨rfl,k,z,hz,rfl⟩,⟨es,ep,hd,ki'⟩,λb hb=>(hf b hb).1⟩⟩
 done:=by intro X hP hw hK hc i pins s σ H E I hf st hg;subst hP hw hK;obtain⟨hi,he⟩:=hg;obtain⟨es,ep,hd,ki⟩:=st;obtain⟨f0,f1,f2,f3,f4,f5⟩:=hf it (by simp);obtain⟨_,_,vs,r,da⟩:=yk I he hd;have hl:kvs.length=vs.length:=r.length;exact wpAny_pyNext_dict_end (I.ok.hd hc) (by rw[<-hl];exact ki) da (fE (by rw[<-hl];exact hi)) λh' eb=>⟨rfl,I.turned (t':=s.toks) (λb o hb e=>eb b o hb e) f0 f1 f3 f4 f5⟩
 self:=λ_ _ _ _ _ st h=>by obtain⟨es,ep,hd,ki⟩:=st;exact wpAny_pyIter_keyiter ki h
section
variable{X:Cx}{G:Bg}{tg:Expr}
def QI(tl:TE):TI:=λσ H R=>tl σ H λx H1=>∃a o kvs,x=.ref a/\H1 a=some (.frz o (.dK kvs))/\R (Itd a o kvs) H1
theorem KU{l:Expr}{tl:TE}(hl:PE X l tl):PI X tg l (QI tl):=by
 intro pins s σ H R I h;refine thn (hl pins s σ H _ I h) λv s1 zz=>?_;obtain⟨x,H1,I1,r1,q1⟩:=zz;obtain⟨a,o,kvs,e,he,q⟩:=q1;subst e;cases r1;obtain⟨q0,_,y,vs,r,ob,es,ep,e1,e2,e3,e4⟩:=(show oQ X.prog X.w H1 s1.heap a (.frz o (.dK kvs)) from I1.hok a _ he);rw[q0]at e1;cases e1;have hl:kvs.length=vs.length:=r.length;refine wpAny_pyIter_dict (knd:=nL X.prog X.w) (kvs:=vs) (ep:=ep) y ⟨o,es,q0,e2,e3,e4⟩ ?_;refine⟨s1.heap.objs.size,[s1.heap.objs.size],_,_,H1,rfl,I1.kept (t':=s1.toks) λb o e=>aJ _ e,Gc a _ o kvs,⟨es,ep,e3,⟨_,bf _ rfl,rfl,by rw[hl];rfl⟩⟩,λb hb=>?_,q⟩;have e:b=s1.heap.objs.size:=by simpa using hb
 subst e;exact I1.fpOk (aE _) (I1.hok.fresh (aE _))
def NK:Key->D
 |.inl i=>.int i
 |.inr x=>.str x
theorem KW(k:Key){H:Hp}:Rep G H (NK k) (kV k):=by
 cases k with
 |inl i=>exact pJ i
 |inr x=>exact vI x
def iD(f:FE):FA:=λρ=>match f ρ with
 |some (.dic ks ds,ρ1)=>if ks.length=ds.length then some (ks.map NK,ρ1)else none
 |_=>none
theorem Io{tg:Expr}(h:PI X tg e (QI (tF G f))):PI X tg e (tFI G (iD f)):=PI.weak h λσ H R hh=>by
 obtain⟨F,ρ,H0,ds,ρ',R,e,k⟩:=hh;unfold iD at e;split at e
 ·rename_i ks ds' ρ1 e1;split at e
  ·rename_i hlen;cases e;refine⟨F,ρ,H0,_,_,R,e1,λv H1 H1' s R' r=>?_⟩;unfold Rep at r;obtain⟨a,o,xs,rfl,r1,r2,r3⟩:=r;have hz:(ks.zip xs).length=ks.length:=by rw[dR,<- r2,dY]
   refine⟨a,o,_,rfl,R'.sub _ _ r1,k _ _ _ s R' λi H2 H2' t t'=>⟨λd ed=>?_,λhl=>?_⟩⟩
   ·rw[aX]at ed;cases ek:ks[i]? with
    |none=>rw[ek]at ed;cases ed
    |some j=>
     rw[ek]at ed;cases ed;have hi:i<ks.length:=(bu.mp ek).1;refine⟨⟨by rw[hz];exact hi,t' _ _ (t _ _ r1)⟩,λz H3 y=>?_⟩;obtain⟨e3,k',z',hk',rfl⟩:=y;subst e3;have:k'=j:=by rw[List.getElem?_zip_eq_some]at hk';have:=hk'.1;rw[ek]at this;exact(bK this).symm
     subst this;exact⟨H2,nz.refl _,t',nz.refl _,λb o e=>.inl e,KW _⟩
   ·refine⟨by rw[hz,hl,ag];exact aE _,t' _ _ (t _ _ r1)⟩
  ·cases e
 ·cases e
end
mutual
def noC(N c:Nat):D->Bool
 |.non=>true
 |.bl _=>true
 |.int _=>true
 |.str _=>true
 |.tup ds=>sA N c ds
 |.lst ds=>sA N c ds
 |.fzl ds=>sA N c ds
 |.obj k _ ds=>decide (k<N)&&decide (k≠c)&&sA N c ds
 |.dic _ ds=>sA N c ds
def sA(N c:Nat):List D->Bool
 |[]=>true
 |d::ds=>noC N c d&&sA N c ds
end
def without(H:Hp)(a:Addr):Hp:=λb=>if b=a then none else H b
theorem zG{H:Hp}{b:Addr}(h:b≠a):without H a b=H b:=by unfold without;rw[ai h]
theorem w6{H:Hp}{b:Addr}{o:HO}(h:without H a b=some o):b≠a/\H b=some o:=by
 unfold without at h;by_cases hb:b=a
 ·rw[ah hb]at h;cases h
 ·rw[ai hb]at h;exact⟨hb,h⟩
theorem qD{H:Hp}{b:Addr}{u v:HO}(ha:H a=some u)(hb:H b=some v)(d:u≠v):without H a b=some v:=by rw[zG (λz=>by subst z;rw[ha]at hb;exact d (bK hb))];exact hb
variable{p:Addr}{xs:List V}
section
variable{G:Bg}{H:Hp}{a dx:Addr}{fs:List (Str×V)}{N c:Nat}
theorem CJ(ha:H a=some (.ins (G.ca c) dx fs))(h:SqT G.K H p xs):SqT G.K (without H a) p xs:=by
 rcases h with (h|⟨o,h⟩)|h
 ·exact .inl (.inl (qD ha h (λz=>nomatch z)))
 ·exact .inl (.inr ⟨o,qD ha h (λz=>nomatch z)⟩)
 ·exact .inr h
theorem CK(ha:H a=some (.ins (G.ca c) dx fs))(h:SqL G.K H p xs):SqL G.K (without H a) p xs:=by
 rcases h with (h|⟨o,h⟩)|h
 ·exact .inl (.inl (qD ha h (λz=>nomatch z)))
 ·exact .inl (.inr ⟨o,qD ha h (λz=>nomatch z)⟩)
 ·exact .inr h
mutual
theorem ym(inj:∀j k,j<N->k<N->G.ca j=G.ca k->j=k)(hc:c<N)(ha:H a=some (.ins (G.ca c) dx fs)):∀(d:D) (v:V),noC N c d=true->Rep G H d v->Rep G (without H a) d v
 |.non,v,_,h=>by unfold Rep at h ⊢;exact h
 |.bl _,v,_,h=>by unfold Rep at h ⊢;exact h
 |.int _,v,_,h=>by unfold Rep at h ⊢;exact h
 |.str _,v,_,h=>by unfold Rep at h ⊢;exact h
 |.tup ds,v,n,h=>by unfold noC at n;unfold Rep at h ⊢;obtain⟨p,xs,e,h1,h2⟩:=h;exact⟨p,xs,e,CJ ha h1,qf inj hc ha ds xs n h2⟩
 |.lst ds,v,n,h=>by unfold noC at n;unfold Rep at h ⊢;obtain⟨p,xs,e,h1,h2⟩:=h;exact⟨p,xs,e,qD ha h1 (λz=>nomatch z),qf inj hc ha ds xs n h2⟩
 |.fzl ds,v,n,h=>by unfold noC at n;unfold Rep at h ⊢;obtain⟨p,xs,e,h1,h2⟩:=h;exact⟨p,xs,e,CK ha h1,qf inj hc ha ds xs n h2⟩
 |.obj k ns ds,v,n,h=>by unfold noC at n;simp only[az,bp]at n;unfold Rep at h ⊢;obtain⟨p,dx',xs,e,h1,h2,h3⟩:=h;refine⟨p,dx',xs,e,qD ha h1 (λz=>?_),h2,qf inj hc ha ds xs n.2 h3⟩;injection z with z1;exact n.1.2 (inj k c n.1.1 hc z1.symm)
 |.dic ks ds,v,n,h=>by unfold noC at n;unfold Rep at h ⊢;obtain⟨p,o,xs,e,h1,h2,h3⟩:=h;exact⟨p,o,xs,e,qD ha h1 (λz=>nomatch z),h2,qf inj hc ha ds xs n h3⟩
theorem qf(inj:∀j k,j<N->k<N->G.ca j=G.ca k->j=k)(hc:c<N)(ha:H a=some (.ins (G.ca c) dx fs)):∀(ds:List D) (xs:List V),sA N c ds=true->nt G H ds xs->nt G (without H a) ds xs
 |[],xs,_,h=>by unfold nt at h ⊢;exact h
 |d::ds,xs,n,h=>by unfold sA at n;simp only[az]at n;unfold nt at h ⊢;obtain⟨v,r,e,h1,h2⟩:=h;exact⟨v,r,e,ym inj hc ha d v n.1 h1,qf inj hc ha ds r n.2 h2⟩
end
end
def sC:Sl->Sl
 |.im d=>.im d
 |_=>.un
def uF(N:Nat)(f:FE):FE:=λρ=>match ρ with
 |.ob c ns ds::r=>match f (.im (.obj c ns ds)::r.map sC)with
  |some (d,_)=>if (decide (c<N)&&noC N c d)=true then some (d,ρ)else none
  |none=>none
 |_=>none
section
variable{X:Cx}{G:Bg}
theorem DZ{s:Sl}:(sC s).own=false:=by cases s<;>rfl
theorem KY{N:Nat}(inj:∀j k,j<N->k<N->G.ca j=G.ca k->j=k)(h:PE X e (tF G f)):PE X e (tF G (uF N f)):=PE.weak h λσ H Q hh=>by
 obtain⟨F,ρ,H0,d,ρ',R,e,k⟩:=hh;unfold uF at e;split at e
 ·rename_i c ns ds r;rcases nM (f:=f) (ρ:=.im (.obj c ns ds)::r.map sC)with e1|⟨x,ρ1,e1⟩<;>simp only[e1]at e
  ·cases e
  split at e
  ·rename_i hn;cases e;simp only[az,bp]at hn;obtain⟨a,dx,xs,h1,h2,h3,h4,h5,h6⟩:=R.sl 0 _ rfl;have RL:nG G ⟨upd H0 a (.ins (G.ca c) dx (ns.zip xs)),H,[]⟩ σ (.im (.obj c ns ds)::r.map sC) (upd H0 a (.ins (G.ca c) dx (ns.zip xs))) H:={
    sub:=λb o q=>by
     by_cases hb:b=a
     ·subst hb;rw[nv]at q;cases q;exact h2
     ·rw[ny hb]at q;exact R.sub _ _ q
    g0:=nz.refl _
    keep:=λb o q _=>q
    fr:=λb o q=>.inl q
    am:=λb q=>by cases q
    len:=by have:=R.len;simpa using this
    sl:=λi s q=>by
     cases i with
     |zero=>cases q;exact⟨.ref a,h1,by unfold Rep;exact⟨a,dx,xs,rfl,nv,h5,nt.mono (nI h3 _) _ _ h6⟩⟩
     |succ i=>
      have q':(r.map sC)[i]?=some s:=q;rw[aX]at q';cases q1:r[i]? with
      |none=>rw[q1]at q';cases q'
      |some t=>
       rw[q1]at q';cases q';have ok:=R.sl (i+1) t q1;cases t with
       |im d=>obtain⟨v,g1,g2⟩:=ok;exact⟨v,g1,Rep.mono (nI h3 _) _ _ g2⟩
       |_=>trivial
    ap:=λi j s t b _ qi _ so=>by
     cases i with
     |zero=>cases qi;cases so
     |succ i=>
      have q':(r.map sC)[i]?=some s:=qi;rw[aX]at q';cases q1:r[i]? with
      |none=>rw[q1]at q';cases q'
      |some t=>rw[q1]at q';cases q';rw[DZ]at so;cases so }
   refine⟨_,_,_,d,ρ1,RL,e1,λv H1 H1' s R' rd=>?_⟩;have ha:H1 a=some (.ins (G.ca c) dx (ns.zip xs)):=s _ _ nv;have s0:nz H0 (without H1 a):=λb o q=>by
    have hb:b≠a:=λz=>by subst z;rw[h3]at q;cases q
    rw[zG hb];exact s b o (by rw[ny hb];exact q)
   refine k v (without H1 a) H1' s0 ?_ (ym inj hn.1 ha d v hn.2 rd);refine R.grow (λb o q=>R'.keep b o q (by simp)) s0 (λb o q=>R'.sub _ _ (w6 q).2) λb o q=>?_;obtain⟨hb,q⟩:=w6 q;rcases R'.fr b o q with z|z
   ·have z':upd H0 a (.ins (G.ca c) dx (ns.zip xs)) b=some o:=z;rw[ny hb]at z';exact .inl z'
   ·exact .inr z
  ·cases e
 ·cases e
end
section
variable{X:Cx}{pins:List (Addr×Obj)}{σ:St}{H:Hp}{s:ae}{a:Addr}{A:av}{E:aa->ae->Prop}
theorem NL{k:Key}{z:V}{r:aa}{Q:aa->ae->Prop}(I:Inv X pins σ H s)(e:H a=some (.dK kvs))(ry:RelV (kV k) u)(rz:RelV z r)(hl:kvs.length<ay)
  (h1:∀v w s',rj kvs k=some v->Inv X pins σ H s'->RelV v w->Q w s') (h2:∀s',rj kvs k=none->Inv X pins σ (upd H a (.dK (putK kvs k z))) s'->Q r s'):
  af (model X.prog X.w) A (call (.builtin "dict.setdefault") [.ref a,u,r]) Q E s:=by
 obtain⟨y,hd,vs,rel,dd⟩:=G2 I.hok e;have hz:vs.length<=ay:=by rw[<-rel.length];exact y
 have hp:(putK kvs k z).length<=ay:=by have:=sN kvs k z;omega
 have rv:=rel.val k;refine fV jd dd.typeIs F.entry_dict_setdefault (F.args_dict_setdefault_3 _ _ _) (kt_meets_setdefault (nL X.prog X.w) a (yf ry) hd r) ⟨vs,dd,hz,λw hw=>?_,λhn h' dd' hs=>?_⟩
 ·rw[hw]at rv;cases ev:rj kvs k with
  |none=>rw[ev]at rv;exact rv.elim
  |some v=>rw[ev]at rv;exact h1 v w _ ev (I.tok _) rv
 ·rw[hn]at rv;cases ev:rj kvs k with
  |some v=>rw[ev]at rv;exact rv.elim
  |none=>have he:∃q,h'.get? a=some q:=let ⟨q,_,_,hq,_⟩:=dd';⟨q,hq⟩;exact h2 _ ev (y3 I (by rw[e];exact True.intro) hs he (DC hp hd (rel.put k rz) dd'))
def Ip(td ty tx:TE):TE:=λσ H Q=>td σ H λx H1=>∃a,x=.ref a/\IsD H1 a/\ty σ H1 λy H2=>tx σ H2 λz H3=>∃kvs k,H3 a=some (.dK kvs)/\y=kV k/\kvs.length<ay/\
 (∀v,rj kvs k=some v->Q v H3)/\(rj kvs k=none->Q z (upd H3 a (.dK (putK kvs k z))))
theorem Iq{o f:Expr}{td ty tx:TE}(ho:PE X o td)(he:PE X e ty)(hf:PE X f tx)(m:M2 X o "setdefault" apos e f cpos):PE X (.Call (.Attribute o "setdefault" apos) [e,f] [] cpos) (Ip td ty tx):=by
 intro pins s σ H Q I h;refine gQ m.base m.few m.line gS jd F.type_dict_setdefault (thn (ho pins s σ H _ I h) λu s1 zz=>?_);obtain⟨x,H1,I1,rx,a,ex,d,q1⟩:=zz;subst ex;obtain rfl:u=Value.ref a:=rx;obtain⟨t1,t2,_⟩:=DE I1 d;refine⟨t1,t2,?_⟩;rw[m.trees];refine fC rfl (eh (dJ (thn (he pins s1 σ H1 _ I1 q1) λiv s2 ⟨y,H2,I2,ry,q2⟩=>
  dJ (thn (hf pins s2 σ H2 _ I2 q2) λfv s3 ⟨z,H3,I3,rz,kvs,k,e3,ey,hl,g1,g2⟩=>eG ?_))))
 subst ey;exact NL I3 e3 ry rz hl (λv w s' ev I' rw'=>⟨v,H3,I',rw',g1 v ev⟩) λs' ev I'=>⟨z,_,I',rz,g2 ev⟩
end
def uZ(ks:List Key)(dss:List (List D))(k:Key)(d:D):List Key×List (List D):=
 if yV ks k=true then (ks,c8 (λk' ds=>if k'=k then ds++[d]else ds) ks dss)else (ks++[k],dss++[[d]])
theorem CL{k:Key}:yV ks k=true ↔ k∈ks:=by unfold yV;rw[cp];exact⟨λ⟨x,h1,h2⟩=>bJ h2▸h1,λh=>⟨k,h,aW rfl⟩⟩
variable{vs:List V}
theorem Ir{k:Key}{v:V}:ks.length=vs.length->rj (ks.zip vs) k=some v->∃j:Nat,ks[j]?=some k/\vs[j]?=some v:=by
 induction ks generalizing vs with
 |nil=>intro _ h;cases h
 |cons k0 ks ih=>
  intro hl h;cases vs with
  |nil=>cases hl
  |cons v0 vs=>
   unfold rj at h;rw[cP,cW]at h;by_cases e:k0=k
   ·subst e;simp only[decide_true]at h;cases h;exact⟨0,rfl,rfl⟩
   ·simp only[e,decide_false]at h;obtain⟨j,h1,h2⟩:=ih (by simpa using hl) h;exact⟨j+1,h1,h2⟩
theorem Iu{k:Key}:ks.length=vs.length->rj (ks.zip vs) k=none->k∉ks:=by
 induction ks generalizing vs with
 |nil=>intro _ _ h;cases h
 |cons k0 ks ih=>
  intro hl h hm;cases vs with
  |nil=>cases hl
  |cons v0 vs=>
   unfold rj at h;rw[cP,cW]at h;by_cases e:k0=k
   ·subst e;simp only[decide_true]at h;cases h
   ·simp only[e,decide_false]at h;rcases aO.mp hm with z|z
    ·exact e z.symm
    ·exact ih (by simpa using hl) h z
structure Grp(G:Bg)(F:Fr)(H0 H:Hp)(a:Addr)(ks:List Key)(dss:List (List D))(bs:List Addr):Prop where
 at_:H a=some (.dK (ks.zip (bs.map V.ref)))
 n0:H0 a=none
 nB:F.B a=none
 len:ks.length=bs.length
 len':bs.length=dss.length
 nd:bs.Nodup
 kd:ks.Nodup
 each:∀(i:Nat) (b:Addr) (ds:List D),bs[i]?=some b->dss[i]?=some ds->∃xs,H b=some (.lst xs)/\H0 b=none/\F.B b=none/\nt G H0 ds xs
variable{j:Nat}
section
variable{G:Bg}{F:Fr}{σ:St}{ρ:List Sl}{H0 H H0' H':Hp}{a:Addr}{ks:List Key}{dss:List (List D)}{bs:List Addr}
theorem Grp.grow(g:Grp G F H0 H a ks dss bs)(hs:nz H H')(h0:nz H0 H0')(hf:∀b o,H0' b=some o->H0 b=some o\/H b=none):Grp G F H0' H' a ks dss bs where
 at_:=hs _ _ g.at_
 n0:=by
  cases q:H0' a with
  |none=>rfl
  |some o=>
   rcases hf a o q with z|z
   ·rw[g.n0]at z;cases z
   ·rw[g.at_]at z;cases z
 nB:=g.nB
 len:=g.len
 len':=g.len'
 nd:=g.nd
 kd:=g.kd
 each:=λi b ds e1 e2=>by
  obtain⟨xs,q1,q2,q3,q4⟩:=g.each i b ds e1 e2;refine⟨xs,hs _ _ q1,?_,q3,nt.mono h0 _ _ q4⟩;cases q:H0' b with
  |none=>rfl
  |some o=>
   rcases hf b o q with z|z
   ·rw[q2]at z;cases z
   ·rw[q1]at z;cases z
theorem nG.still(R:nG G F σ ρ H0 H)(no:∀s∈ρ,s.own=false):nG G ⟨H0,H,[]⟩ σ ρ H0 H where
 sub:=R.sub
 g0:=nz.refl _
 keep:=λb o e _=>e
 fr:=λb o e=>.inl e
 am:=λa h=>by cases h
 len:=R.len
 sl:=λi s e=>by
  have ok:=R.sl i s e;have n:=no s (bx e);cases s with
  |un=>trivial
  |im d=>exact ok
  |_=>cases n
 ap:=λi j s t b _ e _ so=>by rw[no s (bx e)]at so;cases so
theorem nG.touch(R:nG G F σ ρ H0 H)(no:∀s∈ρ,s.own=false)(hk:∀b o,H b=some o->(H0 b≠none\/F.B b≠none)->H' b=some o)(ha:∀b o,H b=some o->∃o',H' b=some o'):nG G F σ ρ H0 H' where
 sub:=λb o e=>hk b o (R.sub _ _ e) (.inl (by rw[e];exact λz=>nomatch z))
 g0:=R.g0
 keep:=λb o e n=>hk b o (R.keep b o e n) (.inr (by rw[e];exact λz=>nomatch z))
 fr:=R.fr
 am:=λb hb=>by obtain⟨o,e⟩:=R.am b hb;exact ha b o e
 len:=R.len
 sl:=λi s e=>by
  have ok:=R.sl i s e;have n:=no s (bx e);cases s with
  |un=>trivial
  |im d=>exact ok
  |_=>cases n
 ap:=λi j s t b _ e _ so=>by rw[no s (bx e)]at so;cases so
theorem NM{bs:List Addr}(h:bs.Nodup){b:Addr}(e1:bs[i]?=some b)(e2:bs[j]?=some b):i=j:=by obtain⟨h1,q1⟩:=bu.mp e1;obtain⟨h2,q2⟩:=bu.mp e2;exact(gW h).mp (q1.trans q2.symm)
theorem NN{ks:List Key}(h:ks.Nodup){b:Key}(e1:ks[i]?=some b)(e2:ks[j]?=some b):i=j:=by obtain⟨h1,q1⟩:=bu.mp e1;obtain⟨h2,q2⟩:=bu.mp e2;exact(gW h).mp (q1.trans q2.symm)
theorem Grp.more(g:Grp G F H0 H a ks dss bs){k:Key}{b:Addr}{v:V}(ek:ks[j]?=some k)(eb:bs[j]?=some b)(hx:H b=some (.lst xs))(rd:Rep G H0 d v):
  Grp G F H0 (upd H b (.lst (xs++[v]))) a (uZ ks dss k d).1 (uZ ks dss k d).2 bs:=by
 have hm:yV ks k=true:=CL.mpr (bx ek);unfold uZ;rw[ah hm];have ne:a≠b:=λz=>by subst z;rw[g.at_]at hx;cases hx
 refine⟨by rw[ny ne];exact g.at_,g.n0,g.nB,g.len,?_,g.nd,g.kd,λi c ds e1 e2=>?_⟩
 ·rw[gy,<- g.len',<- g.len,dY,g.len]
 ·rw[List.getElem?_zipWith]at e2;cases q1:ks[i]? with
  |none=>rw[q1]at e2;cases e2
  |some k'=>
   cases q2:dss[i]? with
   |none=>rw[q1,q2]at e2;cases e2
   |some ds'=>
    rw[q1,q2]at e2;cases e2;obtain⟨ys,w1,w2,w3,w4⟩:=g.each i c ds' e1 q2;by_cases hk:k'=k
    ·subst hk;have ij:=NN g.kd q1 ek;subst ij;rw[e1]at eb;cases eb;rw[w1]at hx;cases hx;rw[ah rfl];exact⟨_,nv,w2,w3,pK w4 (oi rd nY)⟩
    ·rw[ai hk];have nc:c≠b:=λz=>by subst z;have ij:=NM g.nd e1 eb;subst ij;rw[q1]at ek;cases ek;exact hk rfl
     exact⟨ys,by rw[ny nc];exact w1,w2,w3,w4⟩
theorem Grp.fresh(g:Grp G F H0 H a ks dss bs){k:Key}{v:V}(hk:k∉ks)(hp:H p=none)(h0:H0 p=none)(hB:F.B p=none)(rd:Rep G H0 d v):
  Grp G F H0 (upd (upd (upd H p (.lst [])) a (.dK ((ks++[k]).zip ((bs++[p]).map V.ref)))) p (.lst [v])) a (uZ ks dss k d).1 (uZ ks dss k d).2 (bs++[p]):=by
 have hm:¬yV ks k=true:=λz=>hk (CL.mp z);unfold uZ;rw[ai hm];have ne:a≠p:=λz=>by subst z;rw[g.at_]at hp;cases hp
 have np:p∉bs:=λz=>by
  obtain⟨i,hi,e⟩:=gz z;have e1:bs[i]?=some p:=by rw[aV hi,e]
  obtain⟨ds,e2⟩:∃ds,dss[i]?=some ds:=⟨dss[i]'(by rw[<-g.len'];exact hi),aV _⟩;obtain⟨ys,w1,_⟩:=g.each i p ds e1 e2;rw[hp]at w1;cases w1
 refine⟨by rw[ny ne,nv],g.n0,g.nB,by simp[g.len],by simp[g.len'],?_,?_,λi c ds e1 e2=>?_⟩
 ·rw[bZ];refine⟨g.nd,by simp,λx hx y hy=>?_⟩;rw[ba]at hy;subst hy;exact λz=>np (z▸hx)
 ·rw[bZ];refine⟨g.kd,by simp,λx hx y hy=>?_⟩;rw[ba]at hy;subst hy;exact λz=>hk (z▸hx)
 ·by_cases hi:i<bs.length
  ·rw[dg hi]at e1;rw[dg (by rw[<-g.len'];exact hi)]at e2;obtain⟨ys,w1,w2,w3,w4⟩:=g.each i c ds e1 e2;have nc:c≠p:=λz=>np (z▸bx e1);have na:c≠a:=λz=>by subst z;rw[g.at_]at w1;cases w1
   exact⟨ys,by rw[ny nc,ny na,ny nc];exact w1,w2,w3,w4⟩
  ·have hi':i=bs.length:=by have:i<(bs++[p]).length:=(bu.mp e1).1;rw[aC,bO]at this;omega
   subst hi';rw[df (aE _),kK]at e1;rw[g.len',df (aE _),kK]at e2;cases e1;cases e2;exact⟨[v],nv,h0,hB,oi rd nY⟩
def CM(G:Bg)(fk:FE):TS:=GE (tBM G.K "list" Bo (Ip (ue 1) (tF G fk) (P8 ze)) (vS (ue 2) ze))
theorem Iv{D0:Ends}{x:D}{k:Key}{vr:V}(R:nG G F σ ρ H0 H)(no:∀s∈ρ,s.own=false)(h1:σ[1]?=some (some (.ref a)))(h2:σ[2]?=some (some vr))(rd:Rep G H0 d vr)
  (g:Grp G F H0 H a ks dss bs) (hk:fk ρ=some (x,ρ)) (ek:uX x=some k) (l1:ks.length<1000) (l2:∀ds∈dss,ds.length<1000)
  (kont:∀Hi Hj bs',nz H0 Hi->nG G F σ ρ Hi Hj->Grp G F Hi Hj a (uZ ks dss k d).1 (uZ ks dss k d).2 bs'->D0.nx σ Hj):CM G fk D0 σ H:=by
 refine⟨.ref a,h1,a,rfl,.inl ⟨_,.inl g.at_⟩,_,_,_,x,ρ,nG.still R no,hk,λv H1 H1' s R1 r=>?_⟩;have hs:nz H H1':=λb o e=>R1.keep b o e (by simp);have hf:∀b o,H1 b=some o->H0 b=some o\/H b=none:=R1.fr;have R2:nG G F σ ρ H1 H1':=R.grow hs s R1.sub hf;have g2:Grp G F H1 H1' a ks dss bs:=g.grow hs s hf;have rd2:=Rep.mono s _ _ rd;refine⟨cw _,λp hp=>?_⟩;have np:a≠p:=λz=>by subst z;rw[g2.at_]at hp;cases hp
 have R3:nG G F σ ρ H1 (upd H1' p (.lst [])):=R2.newOwn hp _;have g3:Grp G F H1 (upd H1' p (.lst [])) a ks dss bs:=g2.grow (nI hp _) (nz.refl _) λb o e=>.inl e;have lz:(ks.zip (bs.map V.ref)).length<ay:=by rw[dR,ag,<- g.len,dY,bV];omega
 refine⟨_,k,g3.at_,vK r ek,lz,λw ev=>?_,λev=>?_⟩
 ·obtain⟨j,e1,e2⟩:=Ir (by rw[ag];exact g.len) ev;rw[aX]at e2;cases eb:bs[j]? with
  |none=>rw[eb]at e2;cases e2
  |some b=>
   rw[eb]at e2;cases e2;obtain⟨ds,ed⟩:∃ds,dss[j]?=some ds:=⟨dss[j]'(by rw[<-g.len'];exact(bu.mp eb).1),aV _⟩;obtain⟨xs,w1,w2,w3,w4⟩:=g3.each j b ds eb ed;have lx:xs.length<ay:=by rw[<-nu w4,bV];have:=l2 ds (bx ed);omega
   refine⟨.inl ⟨rfl,xs,SqL.of w1⟩,vr,h2,b,xs,vr,rfl,rfl,w1,lx,?_⟩;refine kont H1 _ bs s (nG.touch R3 no (λc o e z=>?_) λc o e=>?_) (g3.more e1 eb w1 rd2)
   ·have nc:c≠b:=λy=>by
     subst y;rcases z with z|z
     ·exact z w2
     ·exact z w3
    rw[ny nc];exact e
   ·by_cases y:c=b
    ·subst y;exact⟨_,nv⟩
    ·rw[ny y];exact⟨o,e⟩
 ·have nk:=Iu (by rw[ag];exact g.len) ev;have h0p:H1 p=none:=R2.h0none hp;have hBp:F.B p=none:=R2.bNone hp;have ez:putK (ks.zip (bs.map V.ref)) k (.ref p)=(ks++[k]).zip ((bs++[p]).map V.ref):=by rw[G1 _ ev,bb,hU (by rw[ag];exact g.len)];rfl
  rw[ez];have q0:upd (upd H1' p (.lst [])) a (.dK ((ks++[k]).zip ((bs++[p]).map V.ref))) p=some (.lst []):=by rw[ny (λz=>np z.symm),nv]
  refine⟨.inl ⟨rfl,[],SqL.of q0⟩,vr,h2,p,[],vr,rfl,rfl,q0,by rw[bV];decide,?_⟩;refine kont H1 _ (bs++[p]) s (nG.touch R3 no (λc o e z=>?_) λc o e=>?_) (g2.fresh nk hp h0p hBp rd2)
  ·have n1:c≠p:=λy=>by
    subst y;rcases z with z|z
    ·exact z h0p
    ·exact z hBp
   have n2:c≠a:=λy=>by
    subst y;rcases z with z|z
    ·exact z g2.n0
    ·exact z g2.nB
   rw[bP,ny n1,ny n2];exact e
  ·by_cases y:c=p
   ·subst y;exact⟨_,nv⟩
   ·rw[ny y];by_cases y2:c=a
    ·subst y2;exact⟨_,nv⟩
    ·rw[ny y2];exact⟨o,e⟩
end
def u4(vk:D->Option D):List D->List Key->List (List D)->Option (List Key×List (List D))
 |[],ks,dss=>some (ks,dss)
 |d::r,ks,dss=>match vk d with
  |some x=>match uX x with
   |some k=>if (decide (ks.length<1000)&&dss.all λds=>decide (ds.length<1000))=true then u4 vk r (uZ ks dss k d).1 (uZ ks dss k d).2 else none
   |none=>none
  |none=>none
def D1(vk:D->Option D):FS:=λρ=>match ρ with
 |[.im (.lst L),.un,.un]=>match u4 vk L [] []with
  |some (ks,dss)=>some (.rt (.dic ks (dss.map .lst)) [.im (.lst L),.un,.un])
  |none=>none
 |_=>none
variable{F:Fr}{H0:Hp}
section
variable{X:Cx}{G:Bg}
theorem yn{Hq:Hp}:∀(bs:List Addr) (dss:List (List D)),bs.length=dss.length->(∀(i:Nat) (b:Addr) (ds:List D),bs[i]?=some b->dss[i]?=some ds->∃xs,Hq b=some (.lst xs)/\nt G Hq ds xs)->
  nt G Hq (dss.map .lst) (bs.map V.ref)
 |[],[],_,_=>nY
 |[],_::_,h,_=>by cases h
 |_::_,[],h,_=>by cases h
 |b::bs,ds::dss,h,k=>by obtain⟨xs,h1,h2⟩:=k 0 b ds rfl rfl;exact oi (uj h1 h2) (yn bs dss (by simpa using h) λi b ds e1 e2=>k (i+1) b ds e1 e2)
theorem KZ{H:Hp}{dss:List (List D)}{bs:List Addr}{L:List D}{s2:Sl}(R:nG G F σ [.im (.lst L),.un,s2] H0 H)(g:Grp G F H0 H a ks dss bs)(o:Obj):
  ∃Hq,nz H0 Hq/\nG G F σ [.im (.lst L),.un,.un] Hq (upd H a (.frz o (.dK (ks.zip (bs.map V.ref)))))/\Rep G Hq (.dic ks (dss.map .lst)) (.ref a):=by
 have mb:∀{b:Addr},b∈bs->∃xs,H b=some (.lst xs)/\H0 b=none/\F.B b=none:=λ{b} hb=>by obtain⟨i,hi,e⟩:=gz hb;obtain⟨xs,w1,w2,w3,_⟩:=g.each i b (dss[i]'(by rw[<-g.len'];exact hi)) (by rw[aV hi,e]) (aV _);exact⟨xs,w1,w2,w3⟩
 have na:a∉bs:=λz=>by obtain⟨xs,w1,_⟩:=mb z;rw[g.at_]at w1;cases w1
 have s0:nz H0 (λc=>if c=a then some (.frz o (.dK (ks.zip (bs.map V.ref))))else if c∈bs then H c else H0 c):=λc u e=>by
  have n1:c≠a:=λz=>by subst z;rw[g.n0]at e;cases e
  have n2:c∉bs:=λz=>by obtain⟨_,_,w2,_⟩:=mb z;rw[w2]at e;cases e
  show (if c=a then _ else if c∈bs then H c else H0 c)=_;rw[ai n1,ai n2];exact e
 refine⟨_,s0,?_,?_⟩
 ·exact {
   sub:=λc u e=>by
    have e':(if c=a then some (HO.frz o (.dK (ks.zip (bs.map V.ref))))else if c∈bs then H c else H0 c)=some u:=e;by_cases n1:c=a
    ·subst n1;rw[ah rfl]at e';rw[nv];exact e'
    ·rw[ai n1]at e';rw[ny n1];by_cases n2:c∈bs
     ·rw[ah n2]at e';exact e'
     ·rw[ai n2]at e';exact R.sub _ _ e'
   g0:=R.g0.trans s0
   keep:=λc u e n=>by rw[ny (λz=>by subst z;rw[g.nB]at e;cases e)];exact R.keep c u e n
   fr:=λc u e=>by
    have e':(if c=a then some (HO.frz o (.dK (ks.zip (bs.map V.ref))))else if c∈bs then H c else H0 c)=some u:=e;by_cases n1:c=a
    ·subst n1;exact .inr g.nB
    ·rw[ai n1]at e';by_cases n2:c∈bs
     ·obtain⟨_,_,_,w3⟩:=mb n2;exact .inr w3
     ·rw[ai n2]at e';exact R.fr _ _ e'
   am:=λc hc=>by
    by_cases n1:c=a
    ·subst n1;exact⟨_,nv⟩
    ·rw[ny n1];exact R.am c hc
   len:=R.len
   sl:=λi s e=>by
    match i,e with
    |0,e=>cases e;obtain⟨v,w1,w2⟩:=R.sl 0 _ rfl;exact⟨v,w1,Rep.mono s0 _ _ w2⟩
    |1,e=>cases e;trivial
    |2,e=>cases e;trivial
    |i+3,e=>cases e
   ap:=λi j s t b _ e _ so=>by
    match i,e with
    |0,e=>cases e;cases so
    |1,e=>cases e;cases so
    |2,e=>cases e;cases so
    |i+3,e=>cases e }
 ·unfold Rep;refine⟨a,o,bs.map V.ref,rfl,by show (if a=a then _ else _)=_;rw[ah rfl],by rw[ag];exact g.len,yn bs dss g.len' λi b ds e1 e2=>?_⟩;obtain⟨xs,w1,w2,w3,w4⟩:=g.each i b ds e1 e2;have hb:=bx e1;refine⟨xs,?_,nt.mono s0 _ _ w4⟩;show (if b=a then _ else if b∈bs then H b else H0 b)=_;have nb:b≠a:=λz=>na (by rw[<-z];exact hb);rw[ai nb,ah hb];exact w1
def Iw{L:List D}{s2:Sl}(h:s2.own=false):∀s∈[Sl.im (.lst L),.un,s2],s.own=false:=λs hs=>by
 simp only[aO,eO,or_false]at hs;rcases hs with rfl|rfl|rfl
 ·rfl
 ·rfl
 ·exact h
inductive GI(G:Bg) (F:Fr) (Ha:Hp) (p:Addr) (L:List D) (vk:D->Option D) (KS:List Key) (DSS:List (List D)) (i:Nat) (σ':St) (H':Hp):Prop
 |mk (Hi:Hp) (ks:List Key) (dss:List (List D)) (bs:List Addr) (s2:Sl):nz Ha Hi->Sl.own s2=false->nG G F σ' [.im (.lst L),.un,s2] Hi H'->σ'[1]?=some (some (.ref p))->Grp G F Hi H' p ks dss bs->u4 vk (L.drop i) ks dss=some (KS,DSS)->GI G F Ha p L vk KS DSS i σ' H'
theorem Gd{st1 st2 st3:Stmt}{vk:D->Option D}(h1:PS X st1 (wj DD (sM 1)))(h2:PS X st2 (Mr (tFI G (iL (cV 0))) (sM 2) (CM G (c1 vk (cV 2)))))
  (h3:PS X st3 (PM (λσ H Q=>ue 1 σ H λx H1=>Q x H1\/∃a kvs,H1 a=some (.dK kvs)/\∀o,Q x (upd H1 a (.frz o (.dK kvs)))))):PSs X [st1,st2,st3] (tFS G (D1 vk)):=
 PSs.weak (wI h1 (wI h2 (yY h3))) λE σ H hh=>by
  obtain⟨F,ρ,H0,o,R,e,k,k2⟩:=hh;unfold D1 at e;split at e
  ·rename_i L;cases eg:u4 vk L [] []with
   |none=>simp only[eg]at e;cases e
   |some p=>
    obtain⟨KS,DSS⟩:=p;simp only[eg]at e;cases e;intro p hp;have R1:nG G F (σ.set 1 (some (.ref p))) [.im (.lst L),.un,.un] H0 (upd H p (.dK [])):=(R.newOwn hp (.dK [])).set (i:=1) (v:=.ref p) (s:=.un) trivial (λz=>by cases z);have hlen:σ.length=3:=R.len;have g1:Grp G F H0 (upd H p (.dK [])) p [] [] []:=⟨nv,R.h0none hp,R.bNone hp,rfl,rfl,ia,ia,λi b ds e1=>by cases e1⟩;have v1:(σ.set 1 (some (V.ref p)))[1]?=some (some (.ref p)):=by rw[fB (by rw[hlen];decide)]
    refine⟨_,_,_,L,_,nG.still R1 (Iw rfl),rfl,λJ Ha Hb s Ra wk=>?_⟩;have hs:nz (upd H p (.dK [])) Hb:=λb o e=>Ra.keep b o e (by simp);have R2:=R1.grow hs s Ra.sub Ra.fr;have g2:=g1.grow hs s Ra.fr;refine⟨λi m σ' H'=>m=L.length - i/\i<=L.length/\GI G F Ha p L vk KS DSS i σ' H',
     ⟨_,rfl,cw _,Ha,[],[],[],.un,nz.refl _,rfl,R2,v1,g2,eg⟩,?_⟩
    rintro i m σi Hi' ⟨rfl,hi,Hi,ks,dss,bs,s2,si,n2,Ri,vi,gi,ei⟩;by_cases hlt:i<L.length
    ·have ed:L.drop i=L[i]::L.drop (i+1):=gn hlt;rw[ed]at ei;unfold u4 at ei;cases ev:vk L[i]with
     |none=>simp only[ev]at ei;cases ei
     |some x=>
      simp only[ev]at ei;cases ek:uX x with
      |none=>simp only[ek]at ei;cases ei
      |some kk=>
       simp only[ek]at ei;split at ei
       ·rename_i hb;simp only[az,bp,aB]at hb;obtain⟨go,yl⟩:=(wk i Hi Hi' si Ri.sub).1 L[i] (aV hlt);refine .inr ⟨go,GI G F Ha p L vk KS DSS (i+1),
         λσ' H' q=>⟨L.length - (i+1),by omega,rfl,hlt,q⟩,λxv H' y=>?_⟩
        obtain⟨H2,t1,t2,t3,t4,t5⟩:=yl xv H' y;have hl3:σi.length=3:=Ri.len;have R3:nG G F (σi.set 2 (some xv)) [.im (.lst L),.un,.im L[i]] H2 H':=(Ri.grow t3 t1 t2 t4).setIm 2 t5;have w1:(σi.set 2 (some xv))[1]?=some (some (.ref p)):=by rw[gw (by decide)];exact vi
        have w2:(σi.set 2 (some xv))[2]?=some (some xv):=by rw[fB (by rw[hl3];decide)]
        refine Iv R3 (Iw rfl) w1 w2 t5 (gi.grow t3 t1 t4) (by show c1 vk (cV 2) _=_;unfold c1 cV;simp only[List.getElem?_cons_succ,i7,ev]) ek hb.1 (λds hd=>hb.2 ds hd) λHc Hd bs' sc Rc gc=>?_;exact⟨Hc,_,_,bs',_,si.trans (t1.trans sc),rfl,Rc,w1,gc,ei⟩
       ·cases ei
    ·have hi':i=L.length:=by omega
     refine .inl ⟨(wk i Hi Hi' si Ri.sub).2 hi',?_⟩;subst hi';rw[List.drop_length]at ei;cases ei;refine⟨.ref p,vi,.inr ⟨p,_,gi.at_,λo=>?_⟩⟩;obtain⟨Hq,q1,q2,q3⟩:=KZ Ri gi o;exact k _ _ Hq _ (s.trans (si.trans q1)) q2 q3
  ·cases e
end
section
variable{X:Cx}{G:Bg}
theorem K0:∀y b,oZ "int" y=some b->b9 X.K (y.val G) (.type "int")=some b:=λy b h=>by
 cases y with
 |c k=>cases h
 |b n=>
  unfold oZ at h;simp only at h
  iterate 7 (split at h;· rename_i e;subst e;cases h;first|rfl|kernel_rfl)
  cases h
theorem Iy:∀y b,oZ "bool" y=some b->b9 X.K (y.val G) (.type "bool")=some b:=λy b h=>by
 cases y with
 |c k=>cases h
 |b n=>
  unfold oZ at h;simp only at h
  iterate 7 (split at h;· rename_i e;subst e;cases h;first|rfl|kernel_rfl)
  cases h
theorem kit_tuple:∀y b,oZ "tuple" y=some b->b9 X.K (y.val G) (.type "tuple")=some b:=λy b h=>by
 cases y with
 |c k=>cases h
 |b n=>
  unfold oZ at h;simp only at h
  iterate 7 (split at h;· rename_i e;subst e;cases h;first|rfl|kernel_rfl)
  cases h
end
def hold(F:Fr)(p:Addr)(o:HO):Fr:=⟨F.B0,λb=>if b=p then some o else F.B b,F.A⟩
theorem y6{o:HO}:(hold F p o).B p=some o:=by show (if p=p then _ else _)=_;rw[ah rfl]
theorem vL{b:Addr}{o:HO}(h:b≠p):(hold F p o).B b=F.B b:=by show (if b=p then _ else _)=_;rw[ai h]
theorem wq.frame{G:Bg}{F':Fr}{H:Hp}{o:Option V}{s:Sl}(h:wq G F H0 H o s)(hA:F'.A=F.A)(hB:∀a,o=some (.ref a)->s.own=true->F.B a=none->F'.B a=none):wq G F' H0 H o s:=by
 cases s with
 |un=>trivial
 |im d=>exact h
 |ls ds=>obtain⟨a,xs,h1,h2,h3,h4,h5⟩:=h;exact⟨a,xs,h1,h2,h3,hB a h1 rfl h4,h5⟩
 |pm ds=>obtain⟨a,xs,h1,h2,h3,h4,h5⟩:=h;exact⟨a,xs,h1,h2,h3,by rw[hA];exact h4,h5⟩
 |dk ks ds=>obtain⟨a,xs,h1,h2,h3,h4,h5,h6⟩:=h;exact⟨a,xs,h1,h2,h3,hB a h1 rfl h4,h5,h6⟩
 |ob c ns ds=>obtain⟨a,dx,xs,h1,h2,h3,h4,h5,h6⟩:=h;exact⟨a,dx,xs,h1,h2,h3,by rw[hA];exact h4,h5,h6⟩
section
variable{X:Cx}{G:Bg}{F:Fr}{σ:St}{ρ:List Sl}{H0 H:Hp}{p:Addr}{o:HO}
theorem nG.hold(R:nG G F σ ρ H0 H)(hp:H p=none)(o:HO):nG G (L4.hold F p o) σ ρ H0 (upd H p o) where
 sub:=(R.newOwn hp o).sub
 g0:=R.g0
 keep:=λb u e n=>by
  by_cases hb:b=p
  ·subst hb;rw[y6]at e;rw[nv];exact e
  ·rw[vL hb]at e;exact(R.newOwn hp o).keep b u e n
 fr:=λb u e=>by
  have hb:b≠p:=λz=>by subst z;rw[R.h0none hp]at e;cases e
  rw[vL hb];exact R.fr b u e
 am:=(R.newOwn hp o).am
 len:=R.len
 sl:=λi s e=>by refine wq.frame ((R.newOwn hp o).sl i s e) rfl λa h1 so hB=>?_;obtain⟨a',u,q1,q2,_⟩:=(R.sl i s e).at so;rw[h1]at q1;cases q1;rw[vL (λz=>by subst z;rw[hp]at q2;cases q2)];exact hB
 ap:=R.ap
theorem nG.unhold(R:nG G (L4.hold F p o) σ ρ H0 H)(hB:F.B p=none):nG G F σ ρ H0 H where
 sub:=R.sub
 g0:=R.g0
 keep:=λb u e n=>R.keep b u (by rw[vL (λz=>by subst z;rw[hB]at e;cases e)];exact e) n
 fr:=λb u e=>by
  rcases R.fr b u e with z|z
  ·exact .inl z
  ·by_cases hb:b=p
   ·subst hb;exact .inr hB
   ·rw[vL hb]at z;exact .inr z
 am:=R.am
 len:=R.len
 sl:=λi s e=>wq.frame (R.sl i s e) rfl λa h1 so q=>by
  by_cases hb:a=p
  ·subst hb;exact hB
  ·rw[vL hb]at q;exact q
 ap:=R.ap
theorem nG.layHeld(R:nG G (L4.hold F p o) σ ρ H0 H)(hB:F.B p=none)(h0:H0 p=none)(nA:p∉F.A)(u:HO):nG G F σ ρ (upd H0 p u) (upd H p u) where
 sub:=λb v e=>by
  by_cases hb:b=p
  ·subst hb;rw[nv]at e ⊢;exact e
  ·rw[ny hb]at e ⊢;exact R.sub _ _ e
 g0:=(nG.unhold R hB).g0.trans (nI h0 u)
 keep:=λb v e n=>by rw[ny (λz=>by subst z;rw[hB]at e;cases e)];exact(nG.unhold R hB).keep b v e n
 fr:=λb v e=>by
  by_cases hb:b=p
  ·subst hb;exact .inr hB
  ·rw[ny hb]at e;exact(nG.unhold R hB).fr _ _ e
 am:=λb hb=>by
  have hb':b≠p:=λz=>by subst z;exact nA hb
  rw[ny hb'];exact R.am b hb
 len:=R.len
 sl:=λj t e=>by
  have ne:∀a,(σ[j]?).join=some (.ref a)->t.own=true->a≠p:=λa z to y=>by
   subst y;obtain⟨a',v,q1,_,_,q4⟩:=(R.sl j t e).at to;rw[z]at q1;cases q1;rcases q4 with q|q
   ·rw[y6]at q;cases q
   ·exact nA q
  refine((nG.unhold R hB).sl j t e).grow (nI h0 u) (λa v z to q=>?_) λa v z to q q0=>?_
  ·rw[ny (ne a z to)];exact q
  ·rw[ny (ne a z to)];exact q0
 ap:=R.ap
def uu:List (Str×FE)->List Sl->Option (List D×List Sl)
 |[],ρ=>some ([],ρ)
 |(_,f)::r,ρ=>match f ρ with
  |some (d,ρ1)=>match uu r ρ1 with
   |some (ds,ρ2)=>some (d::ds,ρ2)
   |none=>none
  |none=>none
def IA(G:Bg)(kfs:List (Str×FE)):List (TE×TE):=kfs.map λq=>(tC (.str q.1),tF G q.2)
theorem CN:∀(kfs:List (Str×FE)) (ρ ρ':List Sl) (ds:List D) (H0 H:Hp) (Q:List (V×V)->Hp->Prop),nG G F σ ρ H0 H->uu kfs ρ=some (ds,ρ')->
  (∀vs H1 H1',nz H0 H1->nG G F σ ρ' H1 H1'->nt G H1 ds vs->Q (c8 (λk v=>(V.str k,v)) (kfs.map (·.1)) vs) H1')->Bq (IA G kfs) σ H Q
 |[],ρ,ρ',ds,H0,H,Q,R,e,k=>by cases e;exact k [] H0 H (nz.refl _) R nY
 |(x,f)::r,ρ,ρ',ds,H0,H,Q,R,e,k=>by
  unfold uu at e;cases e1:f ρ with
  |none=>simp only[e1]at e;cases e
  |some q=>
   obtain⟨d,ρ1⟩:=q;simp only[e1]at e;cases e2:uu r ρ1 with
   |none=>simp only[e2]at e;cases e
   |some q=>obtain⟨ds',ρ2⟩:=q;simp only[e2]at e;cases e;refine⟨F,ρ,H0,d,ρ1,R,e1,λv H1 H1' s R1 rv=>?_⟩;exact CN r ρ1 _ ds' H1 H1' _ R1 e2 λvs H2 H2' s2 R2 rs=>k (v::vs) H2 H2' (s.trans s2) R2 (oi (Rep.mono s2 _ _ rv) rs)
theorem CO:∀(more acc:List (Key×V)),((acc++more).map (·.1)).Nodup->wm acc more=acc++more
 |[],acc,_=>by rw[br];rfl
 |q::r,acc,h=>by
  have nq:(acc.any λkv=>decide (kv.1=q.1))=false:=by rw[dN];intro z;obtain⟨y,hy,ey⟩:=cp.mp z;rw[bb,bZ]at h;exact h.2.2 y.1 (aU hy) q.1 (aU aG) (bJ ey)
  have e:putK acc q.1 q.2=acc++[q]:=by unfold putK;rw[nq];rfl
  show wm (putK acc q.1 q.2) r=_;rw[e,CO r (acc++[q]) (by simpa using h)];simp
theorem Ge{H:Hp}{p:Addr}{x y:HO}:upd (upd H p x) p y=upd H p y:=by
 funext b
 by_cases hb:b=p
 ·subst hb;rw[nv,nv]
 ·rw[ny hb,ny hb,ny hb]
def ER(kfs:List (Str×FE)):FE:=λρ=>match uu kfs ρ with
 |some (ds,ρ')=>some (.dic (kfs.map λq=>Sum.inr q.1) ds,ρ')
 |none=>none
theorem zH:∀{kfs:List (Str×FE)} {ρ ρ':List Sl} {ds:List D},uu kfs ρ=some (ds,ρ')->ds.length=kfs.length
 |[],ρ,ρ',ds,e=>by cases e;rfl
 |(x,f)::r,ρ,ρ',ds,e=>by
  unfold uu at e;cases e1:f ρ with
  |none=>simp only[e1]at e;cases e
  |some q=>
   obtain⟨d,ρ1⟩:=q;simp only[e1]at e;cases e2:uu r ρ1 with
   |none=>simp only[e2]at e;cases e
   |some q=>obtain⟨ds',ρ2⟩:=q;simp only[e2]at e;cases e;rw[aD,aD,zH e2]
theorem CP:∀(ks:List Str) (vs:List V),c8 (λk v=>(V.str k,v)) ks vs=((ks.map λk=>(Sum.inr k:Key)).zip vs).map λkv=>(kV kv.1,kv.2)
 |[],vs=>rfl
 |k::ks,[]=>rfl
 |k::ks,v::vs=>by show (V.str k,v)::_=_;rw[CP ks vs];rfl
theorem K1{kfs:List (Str×FE)}(h:PE X e (LI (IA G kfs)))(nd:(kfs.map λq=>(Sum.inr q.1:Key)).Nodup)(h15:kfs.length<=15):PE X e (tF G (ER kfs)):=PE.weak (PE.ghost h) λσ H Q hh=>by
 obtain⟨F,ρ,H0,d,ρ',R,e,k⟩:=hh;unfold ER at e;cases e1:uu kfs ρ with
 |none=>simp only[e1]at e;cases e
 |some q=>
  obtain⟨ds,ρ1⟩:=q;simp only[e1]at e;cases e;intro p hp;have hB:F.B p=none:=R.bNone hp;have nA:p∉F.A:=λz=>by obtain⟨u,q⟩:=R.am p z;rw[hp]at q;cases q
  refine CN kfs ρ _ ds H0 _ _ (nG.hold R hp (.dK [])) e1 λvs H1 H1' s R1 rs=>?_;have q0:H1' p=some (.dK []):=R1.keep p _ y6 nA;have h0:H1 p=none:=by
   cases q:H1 p with
   |none=>rfl
   |some u=>
    rcases R1.fr p u q with z|z
    ·have:=R.g0 _ _ z;rw[R.h0none hp]at this;cases this
    ·rw[y6]at z;cases z
  have lv:(kfs.map λq=>(Sum.inr q.1:Key)).length=vs.length:=by rw[ag,<- zH e1,nu rs]
  have kn:(((kfs.map λq=>(Sum.inr q.1:Key)).zip vs).map (·.1))=kfs.map λq=>(Sum.inr q.1:Key):=List.map_fst_zip (by rw[lv];exact aE _)
  refine⟨q0,(kfs.map λq=>(Sum.inr q.1:Key)).zip vs,?_,?_,.inr ⟨p,_,nv,λob=>?_⟩⟩
  ·rw[CP,bg];rfl
  ·rw[dR,<- lv,dY,ag];exact h15
  ·rw[Ge,CO _ [] (by rw[bP,kn];exact nd),bP];refine k _ _ _ (s.trans (nI h0 _)) (nG.layHeld R1 hB h0 nA _) ?_;unfold Rep;exact⟨p,ob,vs,rfl,nv,lv,nt.mono (nI h0 _) _ _ rs⟩
end
end L4
namespace L4
open PySem PySem.Spec PySem.Calls PyProof.Rows PySem.W L2 L3
inductive StrsAre:List aa->List Str->Prop
 |nil:StrsAre [] []
 |cons (x:Str) (t:Tok) {vs:List aa} {xs:List Str} (h:StrsAre vs xs):StrsAre (.str x t::vs) (x::xs)
end L4
namespace L4
open PySem PySem.Spec PyProof.Rows L2 L3
section
variable{X:Cx}{G:Bg}
theorem K2:OpD G (λx y H Q=>∃z n,x=.str z/\y=.int n/\MulOk z n/\Q (.str (iY z n)) H) CD:=λx y z H0 H v u Q e s rx ry k=>by
 unfold CD at e;split at e
 ·rename_i a n;split at e
  ·rename_i hl;obtain⟨h0,h1,h2⟩:=hl;cases e;unfold Rep at rx ry;refine⟨a,n,rx,ry,⟨?_,λh3 h4 h5=>?_,λh3 h4=>?_⟩,k _ λ_ _=>vI _⟩
   ·rw[gx];exact⟨aY (by omega),aY (by omega)⟩
   ·have hn:(0:Int)<n:=by omega
    have q:(9223372036854775807:Int) / n >= 9223372036854775:=by have:=Int.le_ediv_of_mul_le (a:=9223372036854775) (b:=9223372036854775807) hn (by omega);exact this
    have:((2:Int) ^ 63 - 1)=9223372036854775807:=by decide
    rw[this]at h5;omega
   ·have hn:n.toNat<=1000:=by omega
    have:a.length * n.toNat<=100 * 1000:=Nat.mul_le_mul h2 hn;refine aY ?_;rw[bV];omega
  ·cases e
 ·cases e
end
def ES:List String:=["NoneType", "bool", "int", "str", "tuple", "list", "dict"]
def qT(n c:Nat):Ty->Option Bool:=λy=>match y with
 |.b x=>if ES.contains x=true then some false else none
 |.c k=>if k<n then some (k==c)else none
def pC(K:aj)(cs:List Addr)(C:Addr)(c:Nat):Bool:=
 ES.all (λx=>b9 K (.type x) (.ref C)==some false)&&(aS cs.length).all λk=>b9 K (.ref (cs.getD k 0)) (.ref C)==some (k==c)
theorem oN{B:Bg}{n c:Nat}{cs:List Addr}(h:pC B.K cs (B.ca c) c=true)(hn:cs.length=n)(hc:∀k,k<n->cs.getD k 0=B.ca k)(hI:∀k,k<n->Cw B.K (B.ca k)):zD B c (qT n c):=by
 unfold pC at h;rw[az,aB,aB]at h;refine⟨λy b e=>?_,λj b e=>?_⟩
 ·cases y with
  |b x=>
   unfold qT at e;simp only at e;split at e
   ·rename_i hx;cases e;exact eY (h.1 x (gu.mp hx))
   ·cases e
  |c k=>
   unfold qT at e;simp only at e;split at e
   ·rename_i hk;cases e;have:=eY (h.2 k (bL.mpr (by omega)));rw[hc k hk]at this;exact this
   ·cases e
 ·unfold qT at e;simp only at e;split at e
  ·rename_i hk;exact hI j hk
  ·cases e
theorem NO{l:List Addr}(h:l.Nodup){j k:Nat}(hj:j<l.length)(hk:k<l.length)(e:l.getD j 0=l.getD k 0):j=k:=by
 rw[fw,fw,aV hj,aV hk]at e;have pw:=List.pairwise_iff_getElem.mp h;rcases Nat.lt_trichotomy j k with y|y|y
 ·exact ak e (pw j k hj hk y)
 ·exact y
 ·exact ak e.symm (pw k j hk hj y)
variable{x:Str}
section
variable{B:Bg}{K:aj}{mg:Str->Option aa}{h:Heap}
theorem const_int{i:Int}{t:Tok}(X:K.In h)(Gn:h.Ns aF mg)(e:d8 K aF x=some (some (.int i t))):vJ B mg x (.int i):=
 ⟨.int i,_,gj X Gn e,⟨_,rfl⟩,λ_=>pJ _⟩
inductive uv:List aa->List Str->Prop
 |nil:uv [] []
 |cons {v:aa} {x:Str} {t:Tok} {vs:List aa} {xs:List Str} (e:v=.str x t) (h:uv vs xs):uv (v::vs) (x::xs)
theorem uv.vals{vs:List aa}{xs:List Str}(h:uv vs xs):Vals (xs.map V.str) vs:=by
 induction h with
 |nil=>exact .nil
 |cons e h ih=>exact .cons ⟨_,e⟩ ih
theorem zI{H:Hp}:∀xs:List Str,nt B H (xs.map D.str) (xs.map V.str)
 |[]=>nY
 |x::xs=>oi (vI x) (zI xs)
theorem D2{a:Addr}{o:Obj}{its:Array aa}{n:Nat}(xs:List Str)(X:B.K.In h)(Gn:h.Ns aF mg)(e:d8 B.K aF x=some (some (.ref a)))(l:B.K.lookup a=some o)(hc:o.cls=.type "tuple")(hd:o.data=.seq its n)(hz:its.size<=1000)
  (r:uv its.toList xs):vJ B mg x (.tup (xs.map D.str)):=
 ⟨.ref a,_,gj X Gn e,rfl,λH=>Bs (.inr ⟨o,its,n,l,hc,hd,by rw[bV];omega,r.vals⟩) (zI xs)⟩
end
variable{l ns:List Str}
section
variable{f g' h:FS}{c:FT}{e e' e2:FE}{a a':FA}{ρ ρ' ρ1 ρ2 ρ3:List Sl}{d x y z:D}{ds xs ys:List D}{k:Nat}{cap:List Nat}{g:FG}{ft:FT}{fe:FE}
theorem zJ{α:Type}(dd:α->D)(p:α->Bool)(h:α->D):∀l:List α,
  (∀a∈l,∃ρ1 ρ2,g (dd a) (xQ k cap ρ)=some ρ1/\ft ρ1=some (p a,ρ2)/\(p a=true->∃ρ3,fe ρ2=some (h a,ρ3)/\qR cap (ρ3.drop k) ρ=some ρ)/\(p a=false->qR cap (ρ2.drop k) ρ=some ρ))->
  su k cap g ft fe (l.map dd) ρ=some ((l.filter p).map h,ρ)
 |[],_=>rfl
 |a::l,st=>by
  obtain⟨ρ1,ρ2,h1,h2,h3,h4⟩:=st a aG;have ih:=zJ dd p h l λa' ha=>st a' (aN _ ha);rw[aK];unfold su;rw[h1];simp only[h2];cases hp:p a with
  |true=>obtain⟨ρ3,h5,h6⟩:=h3 hp;simp only[h5,h6,ih,hE,hp,if_true,aK]
  |false=>simp only[h4 hp,ih,hE,hp];rfl
theorem K3{α:Type}(dd:α->D)(h:α->D)(l:List α)(st:∀a∈l,∃ρ1 ρ3,g (dd a) (xQ k cap ρ)=some ρ1/\fe ρ1=some (h a,ρ3)/\qR cap (ρ3.drop k) ρ=some ρ):su k cap g oK fe (l.map dd) ρ=some (l.map h,ρ):=by have:=zJ (ft:=oK) dd (λ_=>true) h l λa ha=>let ⟨ρ1,ρ3,h1,h2,h3⟩:=st a ha;⟨ρ1,ρ1,h1,rfl,λ_=>⟨ρ3,h2,h3⟩,λz=>by cases z⟩;rw[this,jy.mpr λ_ _=>rfl]
theorem BF(neg:Bool)(a b:Str):dEq neg (.str a) (.str b)=some (.bl (if neg then !decide (a=b)else decide (a=b))):=by
 have e:DN neg (.str a) (.str b)=some (.bl (if neg then !decide (V.str a=V.str b)else decide (V.str a=V.str b))):=rfl;have e2:decide (V.str a=V.str b)=decide (a=b):=by
  by_cases h:a=b
  ·subst h;simp
  ·rw[aY h,aY (λz=>h (by injection z))]
 unfold dEq;rw[e,e2]
theorem IB(a:Str)(l:List Str):inV (V.str a) (l.map V.str)=decide (a∈l):=by
 unfold inV;rw[cR,cp,bp];constructor
 ·rintro⟨v,hv,he⟩;obtain⟨b,hb,rfl⟩:=aI.mp hv;have:b=a:=by unfold eqV at he;simpa using he
  rw[<-this];exact hb
 ·intro ha;refine⟨.str a,aU ha,?_⟩;unfold eqV;simp
theorem Gf(l:List Str):(l.map D.str).all p7=true:=by rw[fW,aB];intro x _;rfl
theorem K4(l:List Str):(l.map D.str).map vD=l.map V.str:=by rw[bg];rfl
theorem zK(neg:Bool)(a:Str)(l:List Str):dIn neg (.str a) (.lst (l.map D.str))=some (.bl (if neg then !decide (a∈l)else decide (a∈l))):=by unfold dIn;show (if p7 (.str a)&&(l.map D.str).all p7 then some (D.bl (if neg then !inV (vD (.str a)) ((l.map D.str).map vD)else inV (vD (.str a)) ((l.map D.str).map vD)))else none)=_;rw[Gf,K4];show some (D.bl (if neg then !inV (V.str a) (l.map V.str)else inV (V.str a) (l.map V.str)))=_;rw[IB]
theorem IC(neg:Bool)(a:Str)(l:List Str):dIn neg (.str a) (.tup (l.map D.str))=some (.bl (if neg then !decide (a∈l)else decide (a∈l))):=zK neg a l
theorem BG:∀bs:List Bool,Ak (bs.map D.bl)=some bs
 |[]=>rfl
 |b::bs=>by rw[aK];unfold Ak;rw[BG bs];rfl
theorem ID(bs:List Bool):qd (.lst (bs.map D.bl))=some (.bl (bs.all id)):=by unfold qd;simp only[BG];rfl
theorem IE(bs:List Bool):zC (.lst (bs.map D.bl))=some (.bl (bs.any id)):=by unfold zC;simp only[BG];rfl
theorem K5{α:Type}(l:List α)(p:α->Bool):qd (.lst (l.map λa=>D.bl (p a)))=some (.bl (l.all p)):=by rw[show (l.map λa=>D.bl (p a))=(l.map p).map D.bl by rw[bg];rfl,ID,fW];rfl
theorem K6{α:Type}(l:List α)(p:α->Bool):zC (.lst (l.map λa=>D.bl (p a)))=some (.bl (l.any p)):=by rw[show (l.map λa=>D.bl (p a))=(l.map p).map D.bl by rw[bg];rfl,IE,List.any_map];rfl
theorem zL:∀l:List Str,vY (l.map D.str)=some (l.map Sum.inr)
 |[]=>rfl
 |x::l=>by rw[aK];unfold vY;rw[zL l];rfl
theorem IF:∀(l acc:List Key),(acc++l).Nodup->l.foldl ddp acc=acc++l
 |[],acc,_=>by rw[br];rfl
 |k::l,acc,h=>by
  have hn:acc.any (λz=>decide (z=k))=false:=by rw[dN];intro z;obtain⟨y,hy,ey⟩:=cp.mp z;rw[bZ]at h;exact h.2.2 y hy k aG (bJ ey)
  rw[fP,show ddp acc k=acc++[k] by unfold ddp;rw[hn];rfl,IF l (acc++[k]) (by simpa using h)];simp
theorem AJ(h:l.Nodup):(l.map (Sum.inr:Str->Key)).Nodup:=by unfold List.Nodup at h ⊢;rw[jP];exact h.imp λhne z=>hne (fX z)
theorem CQ(h:l.Nodup)(hl:l.length<=1000):qe (l.map D.str)=some (.int l.length):=by unfold qe;rw[zL];simp only[ag,hl,if_true];unfold sy;rw[IF _ [] (by simpa using AJ h)];simp
theorem BH(neg:Bool)(a b:Int):dEq neg (.int a) (.int b)=some (.bl (if neg then !decide (a=b)else decide (a=b))):=by
 have e:DN neg (.int a) (.int b)=some (.bl (if neg then !decide (V.int a=V.int b)else decide (V.int a=V.int b))):=rfl;have e2:decide (V.int a=V.int b)=decide (a=b):=by
  by_cases h:a=b
  ·subst h;simp
  ·rw[aY h,aY (λz=>h (by injection z))]
 unfold dEq;rw[e,e2]
theorem o6(h1:e ρ=some (.bl true,ρ1)):oP e e' ρ=e' ρ1:=by unfold oP;rw[h1]
theorem rZ{g:Nat->Option (List D->Option D)}{m:Str}{c:Nat}{hh:List D->Option D}(h1:e ρ=some (.obj c ns xs,ρ1))(h2:g c=some hh)(h3:ns.contains m=false)(h4:a ρ1=some (ys,ρ2))(h5:hh (.obj c ns xs::ys)=some d):pz g m e a ρ=some (d,ρ2):=by unfold pz;rw[h1];simp only[h2,h3,h4,h5];rfl
theorem ET{c:Nat}{g:List D->Option (List Str×List D)}(h1:a ρ=some (ds,ρ1))(h2:g ds=some (ns,xs)):nh c g a ρ=some (.obj c ns xs,ρ1):=by unfold nh;rw[h1];simp only[h2]
theorem NP{np n:Nat}{b:FS}(hl:ds.length=np)(h:b (L4.stE n ds)=some (.rn xs ρ)):fnD np n b ds=some (.lst xs):=by unfold fnD;rw[ah hl,h]
theorem w9:∀{ks:List Key} {ds:List D} {k:Key} {d:D},ks.Nodup->(k,d)∈ks.zip ds->qS ks ds k=some d
 |[],_,k,d,_,h=>by simp at h
 |k'::ks,[],k,d,_,h=>by simp at h
 |k'::ks,d'::ds,k,d,nd,h=>by
  unfold qS;rw[cP]at h;rcases aO.mp h with e|h
  ·cases e;rw[ah rfl]
  ·rw[cU]at nd;rw[ai (λz=>nd.1 (by subst z;exact(fM h).1))];exact w9 nd.2 h
theorem xV:∀{ks:List Key} {ds:List D} {k:Key},k∉ks->qS ks ds k=none
 |[],ds,k,_=>by unfold qS;rfl
 |k'::ks,[],k,_=>by unfold qS;rfl
 |k'::ks,d'::ds,k,h=>by unfold qS;rw[ai (λz=>h (by subst z;exact aG))];exact xV λz=>h (aN _ z)
end
end L4
namespace L4
open PySem PySem.Spec PyProof.Rows L2 L3
open PySem.W (nsIn findIn keepIn isFn makesIn fnOf)
def D3{α:Type}:Nat->(List α->Prop)->Prop
 |0,P=>P []
 |n+1,P=>∀a,D3 n λl=>P (a::l)
theorem y7{α:Type}:∀{n:Nat} {P:List α->Prop},D3 n P->∀l,l.length=n->P l
 |0,P,h,[],_=>h
 |n+1,P,h,a::l,e=>y7 (P:=λl=>P (a::l)) (h a) l (dZ e)
structure CF(K:aj)(C:Addr)(xs:List Str):Prop where
 ci:Cw K C
 mks:makesIn K C=true
 kp:keepIn K (.ref C)=true
 na:(xs.all λx=>match findIn K (.ref C) x with|some none=>true|_=>false)=true
theorem CF.at{K:aj}{C:Addr}{xs:List Str}(c:CF K C xs)(i:Nat){x:Str}(h:xs[i]?=some x):Cls K C/\sq K C x:=⟨c.ci.cl,by
 have e:=aB.mp c.na x (bx h);unfold sq;split at e
 ·rename_i e1;exact e1
 ·cases e⟩
variable{i:Nat}
theorem qM{Q:Nat->Prop}(h:Q i):∀c,(c==i)=true->Q c:=λc e=>by rw[beq_iff_eq]at e;subst e;exact h
theorem orQ{Q:Nat->Prop}{p:Nat->Bool}(h:∀c,p c=true->Q c)(h':Q i):∀c,(p c||c==i)=true->Q c:=λc e=>by
 rw[fO]at e;rcases e with e|e
 ·exact h c e
 ·exact qM h' c e
structure Yw(P:au)(w:ao)(mg:Str->Option aa)(base:Heap)(G:Bg):Prop where
 m:∃h:Heap,G.K.In h/\h.Ns aF mg
variable{np:Nat}{vs:List V}{us:List aa}
section
variable{P:au}{w:ao}{mg:Str->Option aa}{base:Heap}{G:Bg}{x m qual:Str}{st:Stmt}{N ps:List Str}{k c:Nat}{K:aj}
theorem Yw.g(y:Yw P w mg base G){v:aa}(e:nsIn G.K aF x=some (some v)):mg x=some v:=by obtain⟨h,X,Gn⟩:=y.m;exact gj X Gn e
theorem Yw.n(y:Yw P w mg base G){xs:List Str}(h:(xs.all λx=>match nsIn G.K aF x with|some none=>true|_=>false)=true)(i:Nat)(hi:xs[i]?=some x):mg x=none:=by
 obtain⟨hh,X,Gn⟩:=y.m;have e:=aB.mp h x (bx hi);split at e
 ·rename_i e1;exact W.mg_none_of X Gn e1
 ·cases e
def GC(K:aj)(x:Str)(i:Int):Prop:=∃t:Tok,nsIn K aF x=some (some (.int i t))
theorem Yw.ci(y:Yw P w mg base G){i:Int}(q:GC G.K x i):vJ G mg x (.int i):=by obtain⟨h,X,Gn⟩:=y.m;obtain⟨t,e⟩:=q;exact const_int X Gn e
def GS(K:aj)(x:Str)(xs:List Str):Prop:=∃(a:Addr) (o:Obj) (its:Array aa) (n:Nat),nsIn K aF x=some (some (.ref a))/\K.lookup a=some o/\o.cls=.type "tuple" /\ o.data=.seq its n/\its.size<=1000/\uv its.toList xs
theorem Yw.cs(y:Yw P w mg base G){xs:List Str}(q:GS G.K x xs):vJ G mg x (.tup (xs.map D.str)):=by obtain⟨h,X,Gn⟩:=y.m;obtain⟨a,o,its,n,e,l,h1,h2,h3,h4⟩:=q;exact D2 xs X Gn e l h1 h2 h3 h4
def GD(K:aj)(x:Str)(st:Stmt):Prop:=∃(f:Addr) (fd:bj),nsIn K aF x=some (some (.ref f))/\Fun K x x st f fd
def GM(K:aj)(C:Addr)(m qual:Str)(st:Stmt):Prop:=∃(f:Addr) (fd:bj),findIn K (.ref C) m=some (some (.ref f))/\isFn K (.ref f)=true/\Fun K m qual st f fd
def GJ(K:aj)(C:Addr)(qual:Str)(st:Stmt)(vs:List V):Prop:=∃(f:Addr) (fd:bj) (T:Addr) (o:Obj) (dl:List aa) (n:Nat),findIn K (.ref C) "__init__" = some (some (.ref f))/\isFn K (.ref f)=true/\FR K "__init__" qual st f fd T/\K.lookup T=some o/\o.data=.seq dl.toArray n/\Vals vs dl
abbrev Bdy(P:au)(w:ao)(K:aj)(mg:Str->Option aa)(base:Heap)(N:List Str)(qual:Str)(st:Stmt)(k:Nat)(t:TS):Prop:=∀(f:Addr) (cdv:aa) (A:av) (outer:List Env) (s:ae) (H:Hp) (E:XK),pd k (A.deeper (envOfC qual (nF st) s.heap.objs.size f cdv))->PSs (uW P w K mg base N qual st f cdv A outer s H E) (nV st) t
abbrev Bds(x qual:Str)(st:Stmt)(ps:List Str):Prop:=D3 ps.length λus=>∀(kV doc pm:aa) (an:Option Addr) (cdv ct:aa),bindArgs (fnOf x qual (qO st) (nV st) (nF st) .none kV doc pm an cdv ct) ⟨us,[]⟩=pure (ps.zip us)
theorem Bds.ok{f:Addr}{fd:bj}(b:Bds x qual st ps)(F:Fun K x qual st f fd):Binds K fd ps []:=F.binds λkV doc pm an cdv ct us hl=>y7 b us hl kV doc pm an cdv ct
theorem gD{sp:Sp}(y:Yw P w mg base G)(q:GD G.K x st)(bd:Bds x x st ps)(ok:∀f fd,Fun G.K x x st f fd->qN P w G.K mg base CX0 k f fd ps sp):uV P w G.K mg base k x ps sp:=by obtain⟨f,fd,a,F⟩:=q;exact⟨f,fd,y.g a,F.kp,bd.ok F,ok f fd F⟩
theorem gF{n:Nat}{g:List D->Option D}{b:FS}(hg:g=fnD np n b)(y:Yw P w mg base G)(q:GD G.K x st)(S:pP N ps (nF st))(body:Bdy P w G.K mg base N x st k (tFS G b))(hp:ps.length=np:=by rfl)(hN:N.length=n:=by rfl)(bd:Bds x x st ps:=by (repeat intro _);rfl):uV P w G.K mg base (k+1) x ps (spF G g):=
 gD y q bd λf fd F=>HP hg hp hN F S (body f)
theorem gN'{n:Nat}{g:List D->Option (List D)}{b:FS}(hg:g=fnN np n b)(y:Yw P w mg base G)(q:GD G.K x st)(S:pP N ps (nF st))(body:Bdy P w G.K mg base N x st k (tFS G b))(hp:ps.length=np:=by rfl)(hN:N.length=n:=by rfl)(bd:Bds x x st ps:=by (repeat intro _);rfl):uV P w G.K mg base (k+1) x ps (spN G g):=
 gD y q bd λf fd F=>QA hg hp hN F S (body f)
theorem gM{n:Nat}{g:List D->List D->Option (D×List D)}{b:FS}{p:Str}(hg:g=fnM np n b)(y:Yw P w mg base G)(q:GD G.K x st)(S:pP N (p::ps) (nF st))(body:Bdy P w G.K mg base N x st k (tFS G b))(hp:ps.length=np:=by rfl)(hN:N.length=n:=by rfl)(bd:Bds x x st (p::ps):=by (repeat intro _);rfl):uV P w G.K mg base (k+1) x (p::ps) (spM G g):=
 gD y q bd λf fd F=>QB hg hp hN F S (body f)
theorem gI{n:Nat}{g:List D->Option (List Str×List D)}{b:FS}{xs:List Str}{p:Str}(hg:g=fnI c np n b)(y:Yw P w mg base G)(C:CF G.K (G.ca c) xs)(a:nsIn G.K aF x=some (some (.ref (G.ca c))))(q:GM G.K (G.ca c) "__init__" qual st)(S:pP N (p::ps) (nF st))(body:Bdy P w G.K mg base N qual st k (tFS G b))(hp:ps.length=np:=by rfl)(hN:N.length=n:=by rfl)(bd:Bds "__init__" qual st (p::ps):=by (repeat intro _);rfl):By G P w mg base (k+1) x c (p::ps) [] g:=by obtain⟨f,fd,i,i',F⟩:=q;exact⟨f,fd,[],⟨C.mks,i,i',C.kp⟩,y.g a,bd.ok F,.nil,QC hg hp hN F S (body f)⟩
theorem CS(h:Vals vs us):us.length=vs.length:=by
 induction h with
 |nil=>rfl
 |cons _ _ ih=>rw[aD,aD,ih]
theorem Gg(h:Vals vs us):∀j,Vals (vs.drop j) (us.drop j):=by
 induction h with
 |nil=>intro j;rw[kE,kE];exact .nil
 |cons a b ih=>
  intro j;cases j with
  |zero=>exact .cons a b
  |succ j=>exact ih j
theorem gJ{n:Nat}{g:List D->Option (List Str×List D)}{b:FS}{xs:List Str}{p:Str}(hg:g=fnI c np n b)(y:Yw P w mg base G)(C:CF G.K (G.ca c) xs)(a:nsIn G.K aF x=some (some (.ref (G.ca c))))(q:GJ G.K (G.ca c) qual st vs)(S:pP N (p::ps) (nF st))(body:Bdy P w G.K mg base N qual st k (tFS G b))(j:Nat)(hp:ps.length=np:=by rfl)(hN:N.length=n:=by rfl)
  (bd:D3 vs.length λdl=>D3 ((p::ps).length - (vs.drop j).length) λus=>∀(T:Addr) (kV doc pm:aa) (an:Option Addr) (cdv ct:aa),∃k,bindArgs (fnOf "__init__" qual (qO st) (nV st) (nF st) (.ref T) kV doc pm an cdv ct) ⟨us,[]⟩=seqItems? (.ref T)>>=k/\k (some dl.toArray)=pure ((p::ps).zip (us++dl.drop j)):=by (repeat intro _);exact⟨_,rfl,rfl⟩):By G P w mg base (k+1) x c (p::ps) (vs.drop j) g:=by
 obtain⟨f,fd,T,o,dl,n,i,i',F,l,e,r⟩:=q;refine⟨f,fd,dl.drop j,⟨C.mks,i,i',C.kp⟩,y.g a,F.binds l e λkV doc pm an cdv ct us hl=>?_,Gg r j,Nx hg hp hN F S (body f)⟩;exact y7 (y7 bd dl (CS r)) us (by rw[hl,dP,dP,CS r]) T kV doc pm an cdv ct
end
end L4
namespace L4
open PySem PySem.Spec PyProof.Rows L2 L3
section
variable{X:Cx}{G:Bg}{pins:List (Addr×Obj)}{σ:St}{H:Hp}{s:ae}
def AK:D->Option D
 |.int i=>some (.int (-i))
 |_=>none
theorem NQ{a:Expr}{f:FE}{pos:Pos}(ha:PE X a (tF G f)):PE X (.UnaryOp .USub a pos) (tF G (c1 AK f)):=PE.weak (PU Mz ha) λσ H Q hh=>by
 obtain⟨F,ρ,H0,d,ρ',R,e,k⟩:=hh;unfold c1 at e;split at e
 ·rename_i x ρ1 e1;cases x with
  |int i=>simp only[AK]at e;cases e;refine⟨F,ρ,H0,_,_,R,e1,λv H1 H1' s R' r=>?_⟩;unfold Rep at r;subst r;exact⟨i,rfl,k _ H1 H1' s R' (pJ _)⟩
  |_=>simp only[AK]at e;cases e
 ·cases e
end
end L4
namespace L4
open PySem PySem.Spec PySem.Calls PyProof.Rows PySem.W L2 L3
structure Sto(c:Nat->Nat->Bool)(n:Nat):Prop where
 tr:∀i j k,i<n->j<n->k<n->c i j=true->c j k=true->c i k=true
 tot:∀i j,i<n->j<n->i≠j->c i j=false->c j i=true
section
variable{X:Cx}{G:Bg}{pins:List (Addr×Obj)}{σ:St}{H:Hp}{s:ae}
def RR(K:aj)(H:Hp)(y:V)(k:List Str):Prop:=∃a p q,y=.ref a/\k=[p,q]/\SqT K H a [.str p,.str q]
end
def key2:D->Option (List Str)
 |.tup [.str p,.str q]=>some [p,q]
 |_=>none
def AL:List D->Option (List (List Str))
 |[]=>some []
 |d::ds=>match key2 d,AL ds with
  |some k,some ks=>some (k::ks)
  |_,_=>none
section
variable{X:Cx}{G:Bg}{H:Hp}
theorem IG{d:D}{v:V}{k:List Str}(r:Rep G H d v)(e:key2 d=some k):RR G.K H v k:=by
 unfold key2 at e;split at e
 ·rename_i p q;cases e;unfold Rep at r;obtain⟨a,xs,rfl,h1,h2⟩:=r;unfold nt at h2;obtain⟨v1,r1,rfl,q1,q2⟩:=h2;unfold nt at q2;obtain⟨v2,r2,rfl,q3,q4⟩:=q2;unfold nt at q4;unfold Rep at q1 q3;subst q4 q1 q3;exact⟨a,p,q,rfl,rfl,h1⟩
 ·cases e
end
end L4
namespace L4
open PySem PySem.Spec PyProof.Rows L2 L3
structure Bz where
 P:au
 w:ao
 mg:Str->Option aa
 base:Heap
 G:Bg
structure ZE(X:Cx)(B:Bz)(e:Expr)(f:FE):Prop where p:PE X e (tF B.G f)
structure ZN(X:Cx)(B:Bz)(e:Expr)(f:FA):Prop where p:PE X e (tFN B.G f)
structure ZT(X:Cx)(B:Bz)(e:Expr)(f:FT):Prop where p:PT X e (tFT B.G f)
structure ZW(X:Cx)(B:Bz)(e:Expr)(f:FT):Prop where p:PW X e (tFT B.G f)
structure ZF(X:Cx)(B:Bz)(e:List Expr)(f:FT):Prop where p:PIf X e (tFT B.G f)
structure ZA(X:Cx)(B:Bz)(e:List Expr)(f:FA):Prop where p:PA X e (tFA B.G f)
structure ZS(X:Cx)(B:Bz)(e:Stmt)(f:FS):Prop where p:PS X e (tFS B.G f)
structure ZB(X:Cx)(B:Bz)(e:List Stmt)(f:FS):Prop where p:PSs X e (tFS B.G f)
structure ZI(X:Cx)(B:Bz)(tg e:Expr)(f:FA):Prop where p:PI X tg e (tFI B.G f)
structure ZO(X:Cx)(B:Bz)(e:Option Expr)(f:FO):Prop where p:PO X e (tFO B.G f)
structure ZG(X:Cx)(B:Bz)(e:Expr)(n:Nat)(f:FG):Prop where p:PG X e (tFG B.G n f)
structure ZH(X:Cx)(B:Bz)(e:List Expr)(n:Nat)(f:List D->List Sl->Option (List Sl)):Prop where p:PGs X e (Hr B.G n f)
structure ZP(X:Cx)(B:Bz)(pos:Pos)(ks:List (Option Expr))(vs:List Expr)(l:List (Str×FE)):Prop where p:PPs X pos ks vs (IA B.G l)
structure ZV(X:Cx)(e:Expr)(i:Nat):Prop where p:PE X e (ue i)
abbrev Gz(X:Cx)(x:Str):Prop:=X.env.kindOf x=some .globalImplicit
abbrev Dz(x:Str):Prop:=(x==("__debug__" : Str))=false
abbrev Nz(x:Str):Prop:=(decide (x≠"__name__")&&!(x==("__debug__" : Str)))=true
abbrev Sz(X:Cx)(e:Expr)(es:List Expr):Prop:=aq (e::es) X.env=(false,eval e X.env)::aq es X.env
abbrev S1(X:Cx)(e:Expr):Prop:=aq [e] X.env=[(false,eval e X.env)]
abbrev Lz(X:Cx)(pos:Pos)(es:List Expr):Prop:=(aQ pos (aq es X.env)).any (·.1)=false
abbrev Wz(X:Cx)(e o:Expr)(pos:Pos):Prop:=bS e (some o) pos.line X.env=pure false
abbrev Az(X:Cx)(o:Expr)(m:Str):Prop:=cZ o m X.env (eval o X.env)=eval o X.env
abbrev Ez(p pos:Pos):Prop:=(p.endLine==pos.line)=true
abbrev Iz(e:Expr):Prop:=(λo i=>subscripted e false o i)=λo i=>operate [o,i] (getItem o i)
abbrev Fz(X:Cx)(e:Expr):Prop:=(λx=>eF e X.env x)=λx=>pure x
class Cz(X:Cx)(B:outParam Bz)(k:outParam Nat):Prop where
 P:X.prog=B.P
 w:X.w=B.w
 K:X.K=B.G.K
 mg:X.mg=B.mg
 b:X.base=B.base
 c:X.calm=true
 r:pd k X.A
class Yb(B:Bz):Prop where y:Yw B.P B.w B.mg B.base B.G
class Df(B:Bz)(j:outParam Nat)(x:Str)(sp:Sp):Prop where p:∃ps,uV B.P B.w B.G.K B.mg B.base j x ps sp
class Kf(B:Bz)(j:outParam Nat)(x:Str)(c:Nat)(g:List D->Option (List Str×List D))(dds:List D):Prop where
 p:∃ps,By B.G B.P B.w B.mg B.base j x c ps (dds.map vD) g
 f:dds.all p7=true
class Mf(B:Bz)(j:outParam Nat)(m:Str)(g:Nat->Option (List D->Option D)):Prop where p:∀c h,g c=some h->xU B.G B.P B.w B.mg B.base j m c h
class Ff(B:Bz)(ok:Nat->Bool)(f:Str):Prop where p:∀c,ok c=true->Cls B.G.K (B.G.ca c)/\sq B.G.K (B.G.ca c) f
class Af(B:Bz)(c:Nat)(xs:outParam (List Str)):Prop where p:CF B.G.K (B.G.ca c) xs
class Nb(B:Bz)(x:Str):Prop where p:B.mg x=none
class Co(B:Bz)(x:Str)(d:D):Prop where p:vJ B.G B.mg x d
class Ic(B:Bz)(x:Str)(t:Ty->Option Bool):Prop where p:∃c,zD B.G c t/\B.mg x=some (.ref (B.G.ca c))
class Ij(B:Bz)(n:Nat):Prop where p:∀j k,j<n->k<n->B.G.ca j=B.G.ca k->j=k
class OpC(op:gf)(g:D->D->Option D):Prop where p:∀(X:Cx) (G:Bg),∃r,OpR X (bW op) r/\OpD G r g
instance in1:OpC .Mod qm:=⟨λ_ _=>⟨_,Mx,Nc⟩⟩
instance in2:OpC .FloorDiv uE:=⟨λ_ _=>⟨_,JB,Nd⟩⟩
instance in3:OpC .Mult sv:=⟨λ_ _=>⟨_,Mw,Na⟩⟩
instance in4:OpC .Sub AD:=⟨λ_ _=>⟨_,Mv,M9⟩⟩
instance in5:OpC .Pow Cu:=⟨λ_ _=>⟨_,My,Nf⟩⟩
instance in6:OpC .Add qG:=⟨λ_ _=>⟨_,Mu,M8⟩⟩
instance in8:OpC .Mult CD:=⟨λ_ _=>⟨_,DH,K2⟩⟩
class CmC(op:dF)(g:D->D->Option D):Prop where p:∀(X:Cx) (G:Bg),X.K=G.K->X.A.units+64<cLine->∃r,OpR X (aM op) r/\OpD G r g
instance in9:CmC .Eq (dEq false):=⟨λ_ _ h u=>⟨_,Nl u h,Qx⟩⟩
instance in10:CmC .NotEq (dEq true):=⟨λ_ _ h u=>⟨_,Nm u h,Qy⟩⟩
instance in11:CmC .In (dIn false):=⟨λ_ _ h _=>⟨_,Np h,LL⟩⟩
instance in12:CmC .NotIn (dIn true):=⟨λ_ _ h _=>⟨_,F1 h,LL⟩⟩
instance in13:CmC .Is yU:=⟨λ_ _ _ _=>⟨_,MA,Nh⟩⟩
instance in14:CmC .IsNot sP:=⟨λ_ _ _ _=>⟨_,JC,KB⟩⟩
instance in16:CmC .Lt DM:=⟨λ_ _ _ _=>⟨_,P2,Qt⟩⟩
instance in17:CmC .LtE rl:=⟨λ_ _ _ _=>⟨_,P3,Qu⟩⟩
instance in18:CmC .Gt HE:=⟨λ_ _ _ _=>⟨_,P4,Qv⟩⟩
instance in19:CmC .GtE M7:=⟨λ_ _ _ _=>⟨_,P5,Qw⟩⟩
instance in20:CmC .LtE HF:=⟨λ_ _ _ _=>⟨_,FQ,Ng⟩⟩
class B1(x:Str)(g:D->Option D):Prop where p:∀(X:Cx) (G:Bg),X.K=G.K->X.calm=true->∃(id:String) (r:List V->Hp->VK->Prop),pO X (.builtin id) r/\AE G r g/\cu x=some (.builtin id)
instance in21:B1 "len" pX:=⟨λ_ _ h _=>⟨_,_,F3 h,Nq,kq⟩⟩
instance in22:B1 "all" qd:=⟨λ_ _ h c=>⟨_,_,F4 c h,Nu,boot_all⟩⟩
instance in23:B1 "any" zC:=⟨λ_ _ h c=>⟨_,_,F9 c h,NB,boot_any⟩⟩
class KtC(x:Str)(T:outParam String):Prop where p:(∀(X:Cx) (G:Bg) y b,oZ T y=some b->b9 X.K (y.val G) (.type T)=some b)/\cu x=some (.type T)
instance in24:KtC "str" "str" := ⟨λ_ _=>KI,Pv.boot_str⟩
instance in25:KtC "int" "int" := ⟨λ_ _=>K0,lh⟩
instance in26:KtC "bool" "bool" := ⟨λ_ _=>Iy,Pv.boot_bool⟩
instance in27:KtC "list" "list" := ⟨λ_ _=>HU,kM⟩
instance in28:KtC "tuple" "tuple" := ⟨λ_ _=>kit_tuple,Pv.boot_tuple⟩
theorem LQ{G:Bg}{H:Hp}:∀{dds:List D},dds.all p7=true->nt G H dds (dds.map vD)
 |[],_=>nY
 |d::ds,h=>by rw[c3,az]at h;exact oi (wW h.1 H) (LQ h.2)
theorem eqI{α:Sort u}{a b:α}(h:a=b):a=b:=h
def sees(X:Cx)(i:Nat)(x:Str):Bool:=decide (X.N[i]?=some x)&&(match X.env.scope.names.lookup x with|some .local=>true|some .cell=>true|some .free=>true|_=>false)&&!(x==("__debug__" : Str))&&!(x==("__classdict__" : Str))
def sets(X:Cx)(i:Nat)(x:Str):Bool:=decide X.N.Nodup&&decide (X.N[i]?=some x)&&(match X.env.scope.names.lookup x with|some .local=>true|some .cell=>X.fn x|_=>false)
variable{fu:FT}{id T:String}{r:List V->Hp->VK->Prop}{y:Str}
section
variable{X:Cx}{B:Bz}{k j i n c0:Nat}{x m:Str}{e e' o tg it:Expr}{es:List Expr}{p p2 p3 pos apos:Pos}{f f' f2:FE}{a:FA}{g:D->D->Option D}
theorem pvI(h:sees X i x=true):PE X (.Name x p) (ue i):=by
 unfold sees at h;simp only[az,bp,cm]at h;obtain⟨⟨⟨h1,h2⟩,h3⟩,h4⟩:=h;refine pv i h1 ?_ h3 h4;unfold Vis;split at h2
 ·rename_i e;exact .inl e
 ·rename_i e;exact .inr (.inl e)
 ·rename_i e;exact .inr (.inr e)
 ·cases h2
theorem QJ(h:sees X i x=true):ZE X B (.Name x p) (cV i):=⟨DI (pvI h)⟩
theorem NR(h:sees X i x=true):ZE X B (.Name x p) (cFz i):=⟨Qr (pvI h)⟩
theorem K7(h:sees X i x=true):ZN X B (.Name x p) (Ku i):=⟨Kv (pvI h)⟩
theorem BI(h:sets X i x=true):X.N.Nodup/\X.N[i]?=some x/\L2.Loc X.env.scope x/\(X.fn x=true\/X.env.scope.names.lookup x=some .local):=by
 unfold sets at h;simp only[az,bp]at h;obtain⟨⟨h1,h2⟩,h3⟩:=h;unfold L2.Loc;split at h3
 ·rename_i e;exact⟨h1,h2,.inl e,.inr e⟩
 ·rename_i e;exact⟨h1,h2,.inr e,.inl h3⟩
 ·cases h3
theorem pgI(h:sets X i x=true):PG X (.Name x p) (sM i):=by obtain⟨h1,h2,h3,h4⟩:=BI h;exact Ei h1 h2 h3 h4
theorem NS(h:sets X i x=true)(hi:Nat.blt i n=true):ZG X B (.Name x p) n (gN i):=⟨Ht n (pgI h) (Nat.blt_eq.mp hi)⟩
theorem stW{te:TE}(h:sets X i x=true)(he:PE X e te)(hs:Wz X e (.Name x p) pos):PS X (.Assign [.Name x p] e pos) (wj te (sM i)):=by obtain⟨h1,h2,h3,h4⟩:=BI h;exact Mo h1 h2 h3 he hs h4
theorem NT(h:sets X i x=true)(he:ZE X B e f)(hs:Wz X e (.Name x p) pos):ZS X B (.Assign [.Name x p] e pos) (oM i f):=⟨EB (stW h he.p hs)⟩
theorem NU(h:sets X i x=true)(he:ZN X B e a)(hs:Wz X e (.Name x p) pos):ZS X B (.Assign [.Name x p] e pos) (oY i a):=⟨Ck (stW h he.p hs)⟩
theorem NV(h:sets X i x=true)(hs:Wz X (.Dict [] [] p2) (.Name x p) pos):ZS X B (.Assign [.Name x p] (.Dict [] [] p2) pos) (AG i):=⟨HZ (stW h B8 hs)⟩
theorem NW{op:gf}[O:OpC op g](ha:ZE X B e f)(hb:ZE X B e' f'):ZE X B (.BinOp e op e' pos) (c2 g f f'):=by obtain⟨r,h1,h2⟩:=O.p X B.G;exact⟨Qj h1 h2 ha.p hb.p⟩
theorem NX [C:Cz X B k](ha:ZE X B e f)(hb:ZE X B e' f')(hs:Iz e'):ZE X B (.Subscript e e' pos) (c2 dIx f f'):=⟨Qk (RP C.K) Qz ha.p hb.p λo i=>congrFun (congrFun hs o) i⟩
theorem K8 [C:Cz X B k](h:sees X i x=true)(hb:ZE X B e' f')(hs:Iz e'):ZE X B (.Subscript (.Name x p) e' pos) (DK i f'):=⟨M5 (LC (He B.G.K C.K) (pvI h) hb.p λo i=>congrFun (congrFun hs o) i)⟩
theorem NY [C:Cz X B k](ha:ZE X B e f)(hb:ZE X B e' f')(hs:Iz e'):ZE X B (.Subscript e e' pos) (c2 vW f f'):=⟨KM (Eu C.r) ha.p hb.p λo i=>congrFun (congrFun hs o) i⟩
section
variable{op op':dF}{g':D->D->Option D}
theorem NZ [O:CmC op g][C:Cz X B k](ha:ZE X B e f)(hb:ZE X B e' f')(hm:dy op e'=false):ZE X B (.Compare e [op] [e'] pos) (c2 g f f'):=by obtain⟨r,h1,h2⟩:=O.p X B.G C.K C.r.units;exact⟨MW h1 h2 ha.p hb.p hm⟩
theorem N0 [O:CmC op g][C:Cz X B k](ha:ZE X B e f)(hb:ZE X B e' f')(hm:dy op e'=false):ZT X B (.Compare e [op] [e'] pos) (cT (c2 g f f')):=by obtain⟨r,h1,h2⟩:=O.p X B.G C.K C.r.units;exact⟨J3 h1 h2 ha.p hb.p hm⟩
theorem N1 [O:CmC op g][O':CmC op' g'][C:Cz X B k](ha:ZE X B e f)(hb:ZE X B e' f')(hc:ZE X B o f2)(hm:lastMarks [op,op'] [e',o]=false):ZE X B (.Compare e [op,op'] [e',o] pos) (qo g g' f f' f2):=by obtain⟨r,h1,h2⟩:=O.p X B.G C.K C.r.units;obtain⟨r',h3,h4⟩:=O'.p X B.G C.K C.r.units;exact⟨HM h1 h3 h2 h4 ha.p hb.p hc.p hm⟩
theorem N2 [O:CmC op g][O':CmC op' g'][C:Cz X B k](ha:ZE X B e f)(hb:ZE X B e' f')(hc:ZE X B o f2)(hm:lastMarks [op,op'] [e',o]=false):ZT X B (.Compare e [op,op'] [e',o] pos) (cT (qo g g' f f' f2)):=by obtain⟨r,h1,h2⟩:=O.p X B.G C.K C.r.units;obtain⟨r',h3,h4⟩:=O'.p X B.G C.K C.r.units;exact⟨F5 h1 h3 h2 h4 ha.p hb.p hc.p hm⟩
end
theorem N3(h:ZE X B e f)(he:(λwhole=>isTrue e X.env whole)=λwhole=>(do let v<-whole;standAt e.pos;holding [v] (truthy v))):ZT X B e (cT f):=⟨J4 h.p λw=>congrFun he w⟩
theorem N4{ft:FT}(ha:ZT X B e ft)(hb:ZW X B (.BoolOp .Or (e'::es) pos) fu):ZT X B (.BoolOp .Or (e::e'::es) pos) (rp ft fu):=⟨PW.pt (Hh ha.p hb.p)⟩
theorem N5{d:D}[C:Cz X B k][Q:Co B x d](hg:Gz X x)(hd:Dz x):ZE X B (.Name x pos) (cC d):=⟨HQ (C.mg▸Q.p) hg hd⟩
theorem N6{ok:Nat->Bool}[C:Cz X B k][Q:Ff B ok m](he:ZE X B e f)(hb:Az X e m):ZE X B (.Attribute e m pos) (c1 (nE ok m) f):=⟨Hy he.p (C.K▸Q.p) hb⟩
section
variable(hg:Gz X x)(hd:Dz x)(hs:Sz X e es)(hl:Lz X pos es)
include hg hd
theorem dz{sp:Sp}[C:Cz X B k][Q:Df B j x sp]:∃ps,uV X.prog X.w X.K X.mg X.base j x ps sp:=by rw[C.P,C.w,C.K,C.mg,C.b];exact Q.p
theorem N7{g:List D->Option (List D)}[C:Cz X B k][Q:Df B j x (spN B.G g)](hj:bX j k=true):ZN X B (.Call (.Name x p) [] [] pos) (o4 g oe):=by obtain⟨ps,q⟩:=dz hg hd (X:=X) (Q:=Q);exact⟨HN q (C.r.mono (cz.mp hj)) hg hd⟩
include hs hl
theorem N8{g:List D->Option D}[C:Cz X B k][Q:Df B j x (spF B.G g)](ha:ZA X B (e::es) a)(hj:bX j k=true):ZE X B (.Call (.Name x p) (e::es) [] pos) (m7 g a):=by obtain⟨ps,q⟩:=dz hg hd (X:=X) (Q:=Q);exact⟨Nw q (C.r.mono (cz.mp hj)) ha.p hg hd hs hl⟩
theorem N9{g:List D->Option (List D)}[C:Cz X B k][Q:Df B j x (spN B.G g)](ha:ZA X B (e::es) a)(hj:bX j k=true):ZN X B (.Call (.Name x p) (e::es) [] pos) (o4 g a):=by obtain⟨ps,q⟩:=dz hg hd (X:=X) (Q:=Q);exact⟨KF q (C.r.mono (cz.mp hj)) ha.p hg hd hs hl⟩
theorem Oa{g:List D->List D->Option (D×List D)}[C:Cz X B k][Q:Df B j x (spM B.G g)](hv:ZV X e i)(ha:ZA X B es a)(hj:bX j k=true):ZE X B (.Call (.Name x p) (e::es) [] pos) (sJ g i a):=by obtain⟨ps,q⟩:=dz hg hd (X:=X) (Q:=Q);exact⟨KG q (C.r.mono (cz.mp hj)) hv.p ha.p hg hd hs hl⟩
theorem Ob{g:List D->Option (List Str×List D)}{dds:List D}[C:Cz X B k][Q:Kf B j x c0 g dds](ha:ZA X B (e::es) a)(hj:bX (j+1) k=true):ZE X B (.Call (.Name x p) (e::es) [] pos) (nh c0 (λds=>g (ds++dds)) a):=by obtain⟨ps,q⟩:=Q.p;exact⟨KH (by rw[C.P,C.w,C.mg,C.b];exact q) (λH=>LQ Q.f) (C.r.mono (cz.mp hj)) ha.p C.K hg hd hs hl⟩
end
theorem mz{g:Nat->Option (List D->Option D)}[C:Cz X B k][Q:Mf B j m g]:∀c h,g c=some h->xU B.G X.prog X.w X.mg X.base j m c h:=by rw[C.P,C.w,C.mg,C.b];exact Q.p
theorem Oc{g:Nat->Option (List D->Option D)}{pl:Sem Bool}[C:Cz X B k][Q:Mf B j m g](ho:ZE X B o f)(hj:bX j k=true)
  (ht:eval (.Call (.Attribute o m apos) [] [] pos) X.env=(do
   let ov<-eval o X.env
   standAt apos.atName
   let (f,first)<-holding [ov] (getMethod ov m pl)
   callWith pos f first (aQ pos (aq [] X.env)) (backToKw pos (cy [] X.env)))):ZE X B (.Call (.Attribute o m apos) [] [] pos) (pz g m f oe):=⟨DP mz (C.r.mono (cz.mp hj)) ho.p C.K ht⟩
theorem Od{g:Nat->Option (List D->Option D)}{pl:Sem Bool}[C:Cz X B k][Q:Mf B j m g](ho:ZE X B o f)(ha:ZA X B (e::es) a)(hj:bX j k=true)(hs:Sz X e es)(hl:Lz X pos es)
  (ht:eval (.Call (.Attribute o m apos) (e::es) [] pos) X.env=(do
   let ov<-eval o X.env
   standAt apos.atName
   let (f,first)<-holding [ov] (getMethod ov m pl)
   callWith pos f first (aQ pos (aq (e::es) X.env)) (backToKw pos (cy [] X.env)))):ZE X B (.Call (.Attribute o m apos) (e::es) [] pos) (pz g m f a):=⟨F6 mz (C.r.mono (cz.mp hj)) ho.p ha.p C.K hs hl ht⟩
section
variable(hg:Gz X x)(hd:Nz x)(hs:S1 X e)
include hg hd hs
theorem cbI{t:TA}[C:Cz X B k][N:Nb B x](hc:pO X (.builtin id) r)(hv:cu x=some (.builtin id))(ha:PA X [e] t):PE X (.Call (.Name x p) [e] [] pos) (tCB r t):=by simp only[az,bp,cm]at hd;exact tU hc hg (C.mg▸N.p) hv ha hd.1 hd.2 hs rfl
theorem ctI{t:TA}[C:Cz X B k][N:Nb B x](hc:pO X (.type T) r)(hv:cu x=some (.type T))(ha:PA X [e] t):PE X (.Call (.Name x p) [e] [] pos) (tCB r t):=by simp only[az,bp,cm]at hd;exact FD hc hg (C.mg▸N.p) hv ha hd.1 hd.2 hs rfl
theorem Oe{g:D->Option D}[Q:B1 x g][C:Cz X B k][N:Nb B x](ha:ZE X B e f):ZE X B (.Call (.Name x p) [e] [] pos) (c1 g f):=by obtain⟨id,r,h1,h2,h3⟩:=Q.p X B.G C.K C.c;exact⟨LM h2 (cbI hg hd hs h1 h3 (pT ha.p rY hs))⟩
end
section
variable(hs:S1 X e)
include hs
theorem Of [C:Cz X B k][N:Nb B "list"](hg:Gz X "list")(ha:ZE X B e f):ZN X B (.Call (.Name "list" p) [e] [] pos) (uU f):=⟨HK (ctI hg (by decide) hs (DO C.K) kM (pT ha.p rY hs))⟩
theorem Og [C:Cz X B k][N:Nb B "range"](hg:Gz X "range")(ha:ZE X B e f):ZI X B tg (.Call (.Name "range" p) [e] [] pos) (iR1 f):=⟨DL (Fp hg (C.mg▸N.p) (pT ha.p rY hs) hs)⟩
end
section
variable(hi:Gz X "isinstance")(hg:Gz X x)(hs:aq [e,.Name x p2] X.env=[(false,eval e X.env),(false,eval (.Name x p2) X.env)])(hs':S1 X (.Name x p2))
include hi hg hs hs'
theorem Oh [Q:KtC x T][C:Cz X B k][N:Nb B "isinstance"][N':Nb B x](ha:ZE X B e f)(hd:Nz x):ZE X B (.Call (.Name "isinstance" p) [e,.Name x p2] [] pos) (c1 (nZ (oZ T)) f):=by
 simp only[az,bp,cm]at hd;refine⟨EG (c:=.b T) (tU (AF (.b T) (Q.p.1 X B.G) HR C.K) hi (C.mg▸N.p) hX (pW ha.p (pW (Jw (v:=.ty T) hg (C.mg▸N'.p) Q.p.2 rfl hd.1 hd.2) tu ?_) ?_) (by decide) (by decide) ?_ ?_)⟩
 ·exact hs'
 ·rw[hs,hs']
 ·rw[hs,hs']
 ·rw[hs'];rfl
theorem Oi{t:Ty->Option Bool}[Q:Ic B x t][C:Cz X B k][N:Nb B "isinstance"](ha:ZE X B e f)(hd:Dz x):ZE X B (.Call (.Name "isinstance" p) [e,.Name x p2] [] pos) (c1 (nZ t) f):=by
 obtain⟨c,q1,q2⟩:=Q.p;refine⟨EG (c:=.c c) (tU (DT q1 C.K) hi (C.mg▸N.p) hX (pW ha.p (pW (yX (v:=.ref (B.G.ca c)) hg (C.mg▸q2) rfl hd) tu ?_) ?_) (by decide) (by decide) ?_ ?_)⟩
 ·exact hs'
 ·rw[hs,hs']
 ·rw[hs,hs']
 ·rw[hs'];rfl
end
section
variable(hb:Az X o m)(hl:Ez apos pos)(hs:S1 X e)
include hb hl hs
theorem bmI{r:V->List V->Hp->VK->Prop}{to:TE}{t:TA}[C:Cz X B k](pa:iN T)(slot:Slot T m id)(hty:typeOf (.builtin id)=pure (.type "method_descriptor"))(hm:MtR X id r)(ho:PE X o to)(ha:PA X [e] t):PE X (.Call (.Attribute o m apos) [e] [] pos) (tBM B.G.K T r to t):=
 Hf B.G.K pa slot hty hm ho ha hb (by rw[hs];rfl) hl hs rfl C.K
end
section
variable(h:sees X i x=true)(hb:Az X (.Name x p) m)(hl:Ez apos pos)(hs:S1 X e)
include h hb hl hs
theorem Oj [C:Cz X B k](hm:m="append")(ha:ZE X B e f):ZE X B (.Call (.Attribute (.Name x p) m apos) [e] [] pos) (sr i f):=by subst hm;exact⟨FZ (bmI hb hl hs fL gB jI xK (pvI h) (pT ha.p rY hs))⟩
theorem Ol [C:Cz X B k](hm:m="extend")(ha:ZE X B e f):ZE X B (.Call (.Attribute (.Name x p) m apos) [e] [] pos) (uY i f):=by subst hm;exact⟨DV (bmI hb hl hs fL fJ jJ (C.K▸DU) (pvI h) (pW ha.p tu hs))⟩
end
theorem Om [C:Cz X B k](ha:ZE X B e f)(hb:ZE X B e' f')(h1:Az X e "get")(h2:Ez apos pos)(h3:S1 X e'):ZE X B (.Call (.Attribute e "get" apos) [e'] [] pos) (c2 vX f f'):=⟨HY (Eu C.r) ha.p hb.p ⟨h1,by rw[h3];rfl,h2,by rw[h3];rfl⟩⟩
theorem On{xs:List Str}[C:Cz X B k][Q:Af B c0 xs](hx:xs.contains m=true)(h:sees X i x=true)(hv:ZE X B e f)(hs:Wz X e (.Attribute (.Name x p) m apos) pos):ZS X B (.Assign [.Attribute (.Name x p) m apos] e pos) (n4 c0 i m f):=⟨Ks (MC (pvI h) hv.p hs) (by obtain⟨i,_,e⟩:=gz (gu.mp hx);exact C.K▸Q.p.at i (bu.mpr ⟨_,e⟩))⟩
theorem Oo [C:Cz X B k](h:sees X i x=true)(hk:ZE X B e' f')(hv:ZE X B e f)(hs:Wz X e (.Subscript (.Name x p) e' apos) pos):ZS X B (.Assign [.Subscript (.Name x p) e' apos] e pos) (rQ i f' f):=⟨Ia (JS (Eu C.r) (pvI h) hk.p hv.p hs)⟩
theorem Oq{n:Nat}[Q:Ij B n](h:ZE X B e f):ZE X B e (uF n f):=⟨KY Q.p h.p⟩
section
variable{ks:List (Option Expr)}{kfs:List (Str×FE)}
theorem Os:ZP X B pos [] [] []:=⟨JT⟩
theorem Ot(hv:ZE X B e f)(hr:ZP X B pos ks es kfs):ZP X B pos (some (.Constant (.str y) j p)::ks) (e::es) ((y,f)::kfs):=⟨G4 GA hv.p hr.p⟩
theorem Ou(h:ZP X B pos ks es kfs)(h1:(ks.all (·.isSome)&&decide (ks.length=es.length)&&!ks.isEmpty&&decide (ks.length<=15)&&decide (kfs.map λq=>(Sum.inr q.1:Key)).Nodup&&decide (kfs.length<=15))=true):ZE X B (.Dict ks es pos) (ER kfs):=by simp only[az,bp,cm]at h1;obtain⟨⟨⟨⟨⟨a1,a2⟩,a3⟩,a4⟩,a5⟩,a6⟩:=h1;exact⟨K1 (JU h.p a1 a2 (λz=>by rw[z]at a3;cases a3) a4) a5 a6⟩
end
theorem Ov{lo hi:Option Expr}{fl fh:FO}[C:Cz X B k](he:ZE X B e f)(hl:ZO X B lo fl)(hh:ZO X B hi fh):ZN X B (.Subscript e (.Slice lo hi none p) pos) (wZ f fl fh):=⟨DS (GZ (RQ C.K) he.p hl.p hh.p)⟩
theorem Ow [C:Cz X B k](h:ZE X B e f):ZI X B tg e (iL f):=⟨Cr (Ce B.G.K h.p C.K)⟩
theorem Ox [C:Cz X B k](h:ZE X B e f):ZI X B tg e (iT f):=⟨Kz (JZ B.G.K h.p C.K)⟩
theorem Oy(h:ZE X B e f):ZI X B tg e (iD f):=⟨Io (KU h.p)⟩
theorem Oz(h:ZE X B e f):ZI X B tg e (iS f):=⟨KN (MO h.p)⟩
section
variable{gg:FG}{gs:List D->List Sl->Option (List Sl)}
theorem K9:ZH X B [] n yh:=⟨Kg Jx⟩
theorem La(h1:ZG X B e n gg)(h2:ZH X B es n gs)(hs:(bR (e::es) X.env).map (·.2)=assign e X.env::(bR es X.env).map (·.2)):ZH X B (e::es) n (qC gg gs):=⟨Hu (GF h1.p h2.p hs)⟩
theorem Lb{n' k':Nat}[C:Cz X B k](h:ZH X B es n gs)(hn:(bR es X.env).length=n')(ht:(bR es X.env).findIdx? (·.1)=none):ZG X B (.Tuple es k' pos) n (gT gs n'):=⟨Kh (J0 B.G.K C.c h.p hn ht C.K)⟩
end
def tgN:Expr->List Str
 |.Name x _=>[x]
 |.Tuple es _ _=>es.filterMap λe=>match e with|.Name x _=>some x|_=>none
 |_=>[]
def cpN(X:Cx)(tg:Expr)(cap:List Nat):List Str:=tgN tg++cap.map λj=>X.N.getD j ""
instance inCz [C:Cz X B k]{N':List Str}{sc:bM}{cl:List (Str×Addr)}{A:Addr}{fp:List Addr}{s:ae}{H:Hp}:Cz (pe X N' sc cl A fp s H) B k:=⟨C.P,C.w,C.K,C.mg,C.b,C.c,C.r⟩
def OA(X:Cx)(N':List Str)(sc:bM)(n:Nat)(cap:List Nat):Bool:=decide cap.Nodup&&decide (sc.kind=.function)&&(sc.names.all λy=>y.2 != .cell)&&(sc.names.all λy=>y.2 != .local||sc.names.lookup y.1==some .local)&&(sc.names.all λy=>y.2 != .free||(X.env.kindOf y.1==some .cell||X.env.kindOf y.1==some .free))&&decide (N'.length=n+cap.length)&&decide ((N'.drop n).map some=cap.map λj=>X.N[j]?)&&((N'.drop n).all λx=>sc.names.lookup x==some .free)
section
variable{sc:bM}{cap:List Nat}{ifs:List Expr}{gg:FG}{ft:FT}{s:FA}
 (h0:OA X (cpN X tg cap) sc n cap=true) (hs:Fz X it) (hi:ZI X B tg it s)
 (h1:∀(cl:List (Str×Addr)) (A:Addr) (fp:List Addr) (s:ae) (H:Hp),ZG (pe X (cpN X tg cap) sc cl A fp s H) B tg n gg)
 (h2:∀(cl:List (Str×Addr)) (A:Addr) (fp:List Addr) (s:ae) (H:Hp),ZF (pe X (cpN X tg cap) sc cl A fp s H) B ifs ft)
 (h3:∀(cl:List (Str×Addr)) (A:Addr) (fp:List Addr) (s:ae) (H:Hp),ZE (pe X (cpN X tg cap) sc cl A fp s H) B e f)
include h0 hs hi h1 h2 h3
theorem OB [C:Cz X B k]:ZN X B (.ListComp e [⟨tg,it,ifs,0⟩] sc pos) (nJ n cap s gg ft f):=by unfold OA at h0;simp only[az,bp]at h0;obtain⟨⟨⟨⟨⟨⟨⟨a1,a2⟩,a3⟩,a4⟩,a5⟩,a6⟩,a7⟩,a8⟩:=h0;exact⟨HC a1 (JY (N':=cpN X tg cap) C.c hi.p (λcl A fp s H=>⟨(h1 cl A fp s H).p,(h2 cl A fp s H).p,(h3 cl A fp s H).p⟩) a2 a3 a4 a5 a6 a7 a8 λx=>congrFun hs x)⟩
theorem cpW [C:Cz X B k](h:sets X i x=true)(hw:bS (.ListComp e [⟨tg,it,ifs,0⟩] sc pos) (some (.Name x p)) apos.line X.env=pure true):PS X (.Assign [.Name x p] (.ListComp e [⟨tg,it,ifs,0⟩] sc pos) apos) (wj (yg (tFI B.G s) (tFG B.G n gg) (tFT B.G ft) (tF B.G f) n cap) (sM i))/\cap.Nodup:=by unfold OA at h0;simp only[az,bp]at h0;obtain⟨⟨⟨⟨⟨⟨⟨a1,a2⟩,a3⟩,a4⟩,a5⟩,a6⟩,a7⟩,a8⟩:=h0;obtain⟨b1,b2,b3,b4⟩:=BI h;exact⟨KJ (N':=cpN X tg cap) C.c b1 b2 b3 hi.p (λcl A fp s H=>⟨(h1 cl A fp s H).p,(h2 cl A fp s H).p,(h3 cl A fp s H).p⟩) a2 a3 a4 a5 a6 a7 a8 (λx=>congrFun hs x) hw b4,a1⟩
theorem OC [C:Cz X B k](h:sets X i x=true)(hw:bS (.ListComp e [⟨tg,it,ifs,0⟩] sc pos) (some (.Name x p)) apos.line X.env=pure true):ZS X B (.Assign [.Name x p] (.ListComp e [⟨tg,it,ifs,0⟩] sc pos) apos) (oM i (cL (nJ n cap s gg ft f))):=by have z:=cpW (k:=k) h0 hs hi h1 h2 h3 h hw;exact⟨HV z.2 z.1⟩
theorem OD [C:Cz X B k](h:sets X i x=true)(hw:bS (.ListComp e [⟨tg,it,ifs,0⟩] sc pos) (some (.Name x p)) apos.line X.env=pure true):ZS X B (.Assign [.Name x p] (.ListComp e [⟨tg,it,ifs,0⟩] sc pos) apos) (oY i (nJ n cap s gg ft f)):=by have z:=cpW (k:=k) h0 hs hi h1 h2 h3 h hw;exact⟨F8 z.2 z.1⟩
end
section
variable{st:Stmt}{sts:List Stmt}{fs fs':FS}{ft:FT}{a':FA}{z1:Nat}
theorem QK(ha:ZE X B e f)(hr:ZA X B es a)(hs:Sz X e es):ZA X B (e::es) (aCons f a):=⟨pT ha.p hr.p hs⟩
theorem QL:ZA X B [] oe:=⟨rY⟩
theorem OE(h:sees X i x=true):ZV X (.Name x p) i:=⟨pvI h⟩
theorem OF(h:ZN X B e a):ZE X B e (cL a):=⟨M3 h.p⟩
theorem QM:ZE X B (.Constant (.str y) j pos) (cC (.str y)):=⟨MU⟩
theorem QN{y:Int}:ZE X B (.Constant (.int y) j pos) (cC (.int y)):=⟨MS⟩
theorem QO{y:Bool}:ZE X B (.Constant (.bool y) j pos) (cC (.bl y)):=⟨Qi⟩
theorem QP:ZE X B (.Constant .none j pos) (cC .non):=⟨MV⟩
theorem CT(h1:ZS X B st fs)(h2:ZB X B sts fs'):ZB X B (st::sts) (ni fs fs'):=⟨Hm h1.p h2.p⟩
theorem QQ(h1:ZS X B st fs):ZB X B [st] fs:=⟨Kc h1.p⟩
theorem QR:ZB X B [] ou:=⟨Kb⟩
theorem OG(h:ZE X B e f):ZS X B (.Return (some e) pos) (nT f):=⟨Ke h.p⟩
theorem OH(h:ZN X B e a):ZS X B (.Return (some e) pos) (p6 a):=⟨Hn h.p⟩
theorem OJ(h:ZE X B e f)(hs:bS e none pos.line X.env=pure false):ZS X B (.Expr e pos) (pb f):=⟨Ho h.p hs⟩
theorem OK(h:ZT X B e ft)(h1:ZB X B sts fs){sts':List Stmt}(h2:ZB X B sts' fs'):ZS X B (.If e sts sts' pos) (sIf ft fs fs'):=⟨M4 h.p h1.p h2.p⟩
theorem OL(h:ZA X B es a):ZN X B (.List es pos) (nH a):=⟨J9 h.p⟩
theorem OM(h:ZA X B es a):ZE X B (.Tuple es z1 pos) (nO a):=⟨M0 h.p⟩
theorem ON(ha:ZE X B e f)(hb:ZE X B e' f'):ZN X B (.BinOp e .Add e' pos) (oR f f'):=⟨KC ha.p hb.p⟩
theorem OO [C:Cz X B k](ha:ZE X B e f)(hb:ZE X B e' f'):ZE X B (.BinOp e .Add e' pos) (yj f f'):=⟨KO ha.p hb.p C.K⟩
theorem OP(ha:ZE X B e f)(hb:ZE X B (.BoolOp .And (e'::es) pos) f'):ZE X B (.BoolOp .And (e::e'::es) pos) (oP f f'):=⟨MY ha.p hb.p⟩
theorem OQ(ha:ZE X B e f)(hb:ZE X B (.BoolOp .Or (e'::es) pos) f'):ZE X B (.BoolOp .Or (e::e'::es) pos) (cOr f f'):=⟨Qm ha.p hb.p⟩
theorem OR{op}(ha:ZE X B e f):ZE X B (.BoolOp op [e] pos) f:=⟨MX ha.p⟩
theorem OS(ha:ZE X B e f):ZE X B (.UnaryOp .Not e pos) (yT f):=⟨MZ ha.p⟩
theorem OT(ha:ZT X B e ft):ZT X B (.UnaryOp .Not e pos) (px ft):=⟨J7 ha.p⟩
theorem OU(h:ZT X B o ft)(ha:ZE X B e f)(hb:ZE X B e' f'):ZE X B (.IfExp o e e' pos) (cIf ft f f'):=⟨Qn h.p ha.p hb.p⟩
theorem QS(h:ZT X B e ft):ZF X B [e] ft:=⟨JX h.p⟩
theorem QT:ZF X B [] oK:=⟨HD⟩
theorem OV(h:ZE X B e f):ZE X B e (uo f):=⟨Nv h.p⟩
theorem OW(h:ZT X B e ft):ZT X B e (zA ft):=⟨KD h.p⟩
theorem OX(h:ZE X B e f):ZO X B (some e) (oAt f):=⟨ND h.p⟩
theorem OY:ZO X B none oNo:=⟨NC⟩
theorem OZ(ha:ZT X B e ft)(hb:ZW X B (.BoolOp .Or (e'::es) pos) fu):ZW X B (.BoolOp .Or (e::e'::es) pos) (rp ft fu):=⟨Hh ha.p hb.p⟩
theorem O0(h:ZT X B e ft):ZW X B (.BoolOp .Or [e] pos) ft:=⟨J8 h.p⟩
end
theorem O1{body:List Stmt}{s:FA}{gg:FG}{b:FS}[C:Cz X B k](hp:PassesOwn (model X.prog X.w) X.A X.env X.xe)(hn:X.N.length=n)(hi:ZI X B tg it s)(hg:ZG X B tg n gg)(hb:ZB X B body b)(hs:Fz X it):ZS X B (.For tg it body [] pos) (qt s gg b):=⟨KA (GL hp C.c hi.p hg.p hb.p λx=>congrFun hs x)⟩
end
end L4
namespace L4
open PySem PySem.Spec PyProof.Rows L2 L3
open PySem.W (fnOf)
def nmO(st:Stmt):List Str:=(nF st).names.filterMap λy=>match y.2 with|.local=>some y.1|.cell=>some y.1|_=>none
def psO(st:Stmt):List Str:=(qO st).args.map (·.arg)
def okO(N ps:List Str)(st:Stmt)(np n:Nat):Bool:=decide ((nF st).kind=.function)&&(nF st).isCoroutine==false&&(nF st).isGenerator==false&&decide N.Nodup&&decide (N.take ps.length=ps)&&(ps.all λx=>match (nF st).names.lookup x with|some .local=>true|some .cell=>true|_=>false)&&((nF st).names.all λy=>y.2 != .free)&&decide (ps.length=np)&&decide (N.length=n)
theorem okk{N ps:List Str}{st:Stmt}{np n:Nat}(h:okO N ps st np n=true):pP N ps (nF st)/\ps.length=np/\N.length=n:=by
 unfold okO at h;simp only[az,bp,beq_iff_eq]at h;obtain⟨⟨⟨⟨⟨⟨⟨⟨h1,h2⟩,h3⟩,h4⟩,h5⟩,h6⟩,h7⟩,h8⟩,h9⟩:=h;refine⟨⟨h1,h2,h3,h4,h5,λx hx=>?_,λy hy e=>?_⟩,h8,h9⟩
 ·have z:=aB.mp h6 x hx;split at z
  ·rename_i e;exact .inl e
  ·rename_i e;exact .inr e
  ·cases z
 ·have z:=aB.mp h7 y hy;rw[e]at z;exact ak z (by decide)
section
variable{B:Bz}[Y:Yb B]{x m qual:Str}{st s0:Stmt}{l:List Stmt}{k c np n:Nat}{b:FS}{p:Str}{ps xs:List Str}{N:List Str}
abbrev Bdz(B:Bz)(N:List Str)(qual:Str)(st:Stmt)(l:List Stmt)(k:Nat)(b:FS):Prop:=∀{f:Addr} {cdv:aa} {A:av} {outer:List Env} {s:ae} {H:Hp} {E:XK} [Cz (uW B.P B.w B.G.K B.mg B.base N qual st f cdv A outer s H E) B k],ZB (uW B.P B.w B.G.K B.mg B.base N qual st f cdv A outer s H E) B l b
omit Y in
theorem Bdz.ok(h:Bdz B N qual st l k b)(hl:nV st=l):Bdy B.P B.w B.G.K B.mg B.base N qual st k (tFS B.G b):=λf cdv A outer s H E hr=>by subst hl;exact(@h f cdv A outer s H E ⟨rfl,rfl,rfl,rfl,rfl,rfl,hr⟩).p
theorem gF4{g:List D->Option D}(hg:g=fnD np n b)(q:GD B.G.K x st)(hl:nV st=s0::l)(body:Bdz B (nmO st) x st (s0::l) k b)(S:okO (nmO st) (psO st) st np n=true:=by kernel_rfl)(bd:Bds x x st (psO st):=by (repeat intro _);rfl):Df B (k+1) x (spF B.G g):=
 ⟨_,gF hg Y.y q (okk S).1 (body.ok hl) (okk S).2.1 (okk S).2.2 bd⟩
theorem gN4{g:List D->Option (List D)}(hg:g=fnN np n b)(q:GD B.G.K x st)(hl:nV st=s0::l)(body:Bdz B (nmO st) x st (s0::l) k b)(S:okO (nmO st) (psO st) st np n=true:=by kernel_rfl)(bd:Bds x x st (psO st):=by (repeat intro _);rfl):Df B (k+1) x (spN B.G g):=
 ⟨_,gN' hg Y.y q (okk S).1 (body.ok hl) (okk S).2.1 (okk S).2.2 bd⟩
theorem gM4{g:List D->List D->Option (D×List D)}(hg:g=fnM np n b)(q:GD B.G.K x st)(hl:nV st=s0::l)(hp:psO st=p::ps)(body:Bdz B (nmO st) x st (s0::l) k b)(S:okO (nmO st) (p::ps) st (np+1) n=true:=by kernel_rfl)(bd:Bds x x st (p::ps):=by (repeat intro _);rfl):Df B (k+1) x (spM B.G g):=
 ⟨_,gM hg Y.y q (okk S).1 (body.ok hl) (dZ (okk S).2.1) (okk S).2.2 bd⟩
theorem hF4{g:List D->Option D}(C:CF B.G.K (B.G.ca c) xs)(hg:g=fnD np n b)(q:GM B.G.K (B.G.ca c) m qual st)(hl:nV st=s0::l)(body:Bdz B (nmO st) qual st (s0::l) k b)(S:okO (nmO st) (psO st) st np n=true:=by kernel_rfl)(bd:Bds m qual st (psO st):=by (repeat intro _);rfl):xU B.G B.P B.w B.mg B.base (k+1) m c g:=by obtain⟨f,fd,a,i,F⟩:=q;exact⟨f,fd,_,C.ci.cl,⟨a,i,F.kp⟩,bd.ok F,HP hg (okk S).2.1 (okk S).2.2 F (okk S).1 (body.ok hl f)⟩
theorem gI4{g:List D->Option (List Str×List D)}(C:CF B.G.K (B.G.ca c) xs)(a:d8 B.G.K aF x=some (some (.ref (B.G.ca c))))(hg:g=fnI c np n b)(q:GM B.G.K (B.G.ca c) "__init__" qual st)(hl:nV st=s0::l)(hp:psO st=p::ps)(body:Bdz B (nmO st) qual st (s0::l) k b)(S:okO (nmO st) (p::ps) st (np+1) n=true:=by kernel_rfl)(bd:Bds "__init__" qual st (p::ps):=by (repeat intro _);rfl):Kf B (k+1) x c g []:=
 ⟨⟨_,gI hg Y.y C a q (okk S).1 (body.ok hl) (dZ (okk S).2.1) (okk S).2.2 bd⟩,rfl⟩
theorem gJ4{g:List D->Option (List Str×List D)}{dds:List D}(C:CF B.G.K (B.G.ca c) xs)(a:d8 B.G.K aF x=some (some (.ref (B.G.ca c))))(hg:g=fnI c np n b)(q:GJ B.G.K (B.G.ca c) qual st (dds.map vD))(hl:nV st=s0::l)(hp:psO st=p::ps)(body:Bdz B (nmO st) qual st (s0::l) k b)(j:Nat)(S:okO (nmO st) (p::ps) st (np+1) n=true:=by kernel_rfl)(hf:dds.all p7=true:=by rfl)
  (bd:D3 (dds.map vD).length λdl=>D3 ((p::ps).length - ((dds.map vD).drop j).length) λus=>∀(T:Addr) (kV doc pm:aa) (an:Option Addr) (cdv ct:aa),∃k,bindArgs (fnOf "__init__" qual (qO st) (nV st) (nF st) (.ref T) kV doc pm an cdv ct) ⟨us,[]⟩=seqItems? (.ref T)>>=k/\k (some dl.toArray)=pure ((p::ps).zip (us++dl.drop j)):=by (repeat intro _);exact⟨_,rfl,rfl⟩):Kf B (k+1) x c g (dds.drop j):=
 ⟨⟨_,by rw[kF];exact gJ hg Y.y C a q (okk S).1 (body.ok hl) j (dZ (okk S).2.1) (okk S).2.2 bd⟩,by
  rw[aB]at hf ⊢;exact λd h=>hf d (jq h)⟩
theorem va(n:Nat)(ca:Nat->Addr):∀k,k<n->((aS n).map ca).getD k 0=ca k:=λk h=>by rw[fw,aX,jx h];rfl
theorem RT{n:Nat}{ca:Nat->Addr}(h:decide ((aS n).map ca).Nodup=true):∀j k,j<n->k<n->ca j=ca k->j=k:=λj k hj hk e=>by rw[<-va n ca j hj,<- va n ca k hk]at e;exact NO (bJ h) (by simpa using hj) (by simpa using hk) e
def uw:Nat->(Nat->Prop)->Prop
 |0,_=>True
 |n+1,Q=>Q 0/\uw n λk=>Q (k+1)
theorem uw.at:∀{n:Nat} {Q:Nat->Prop},uw n Q->∀k,k<n->Q k
 |_+1,_,h,0,_=>h.1
 |_+1,_,h,k+1,hk=>uw.at (Q:=λk=>_) h.2 k (Nat.lt_of_succ_lt_succ hk)
end
section
variable{X:Cx}{B:Bz}{k j i n:Nat}{x y:Str}{e e' tg:Expr}{es:List Expr}{p p2 p3 pos apos:Pos}{f f':FE}{a:FA}{st:Stmt}{sts:List Stmt}{fs fs':FS}{ft:FT}
theorem O2{gg:FG}(hn:X.N.length=n)(he:ZE X B e f)(hg:ZG X B tg n gg)(hs:swapsWithSole [tg] e pos.line X.env=pure false)(hw:swappedStores [tg] e X.env=pure none)(h1:(bR [tg] X.env).map (·.2)=[assign tg X.env]):ZS X B (.Assign [tg] e pos) (FV f gg):=⟨Ki (GH he.p hg.p hs hw h1)⟩
theorem O3 [C:Cz X B k][N:Nb B "int"](hg:Gz X "int")(hs:S1 X e)(ha:ZE X B e f):ZE X B (.Call (.Name "int" p) [e] [] pos) (c1 Nr f):=⟨LM Nt (ctI hg (by decide) hs Fv lh (pT ha.p rY hs))⟩
theorem O4(ha:ZE X B e f):ZE X B (.UnaryOp .USub e pos) (c1 AK f):=⟨NQ ha.p⟩
end
end L4
namespace L4
open PySem PySem.Spec PyProof.Rows L2 L3
theorem LR{α:Type}[DecidableEq α]:∀{l L:List α},l.Nodup->(∀x∈l,x∈L)->l.length<=L.length
 |[],L,_,_=>cw _
 |a::l,L,nd,h=>by have h1:=h a aG;have nd':=cU.mp nd;have:=LR (l:=l) (L:=L.erase a) nd'.2 λx hx=>(List.mem_erase_of_ne (λe:x=a=>nd'.1 (by rw[<-e];exact hx))).mpr (h x (aN _ hx));rw[List.length_erase_of_mem h1]at this;have:=List.length_pos_of_mem h1;rw[aD];omega
structure Tb(t:bF)(m n:Nat):Prop where
 mask:t.mask=m
 dm:t.dummies=#[]
 pl:t.place.size=n
variable{i q:Nat}
section
variable{t:bF}{m n:Nat}
theorem Tb.slot(T:Tb t m n)(j:Nat):(∃i,t.slot j=.live i/\t.place[i]?=some j)\/t.slot j=.empty:=by
 unfold SetTable.slot;by_cases h:(t.place[kr t.place j]?==some j)=true
 ·left;simp only[h,if_true];exact⟨_,rfl,eY h⟩
 ·right;rw[jZ]at h;rw[T.dm];simp[h,kN]
theorem Tb.free(T:Tb t m n)(h:n<=m):∃r,r<=m/\t.slot r=.empty:=by
 apply i4;intro no;have:(aS (m+1)).length<=t.place.toList.length:=LR j1 λr hr=>by
  rcases T.slot r with ⟨i,_,e⟩|e
  ·rw[<-gr]at e;exact bx e
  ·exact ak ⟨r,by have:=bL.mp hr;omega,e⟩ no
 rw[cn,bY,T.pl]at this;omega
def Emp(t:bF):Nat->cY->Prop
 |0,_=>False
 |f+1,p=>t.slot p.j=.empty\/Emp t f (t.advance p)
theorem Emp.mono:∀{f f':Nat} {p:cY},Emp t f p->f<=f'->Emp t f' p
 |0,_,_,h,_=>h.elim
 |f+1,0,_,_,h=>ak h (by omega)
 |f+1,f'+1,p,h,hl=>h.imp id λh=>h.mono (by omega)
def rs(m i q:Nat):cY:=⟨i,cX m i - i,i,q,none⟩
theorem O5(m i:Nat):cX m i - i<=9:=by unfold cX;split<;>omega
theorem Emp.run(T:Tb t m n){f:Nat}(h:Emp t f (rs m ((i * 5+1+q / 32) % (m+1)) (q / 32))):∀(k j:Nat),Emp t (f+k+1) ⟨j,k,i,q,none⟩
 |0,j=>.inr (by
   have e:t.advance ⟨j,0,i,q,none⟩=rs m ((i * 5+1+q / 32) % (m+1)) (q / 32):=by unfold hG SetTable.leap;rw[T.mask];rfl
   rw[e];exact h)
 |k+1,j=>.inr (by
   have e:t.advance ⟨j,k+1,i,q,none⟩=⟨j+1,k,i,q,none⟩:=by unfold hG;rw[ah (iB k)];rfl
   rw[e];exact Emp.run T h k (j+1))
theorem Emp.leap(T:Tb t m n){f:Nat}(h:Emp t f (rs m ((i * 5+1+q / 32) % (m+1)) (q / 32))):Emp t (f+10) (rs m i q):=
 (Emp.run T h (cX m i - i) i).mono (by have:=O5 m i;omega)
def orb(m:Nat):Nat->Nat->List Nat
 |0,_=>[]
 |k+1,i=>i::orb m k ((i * 5+1) % (m+1))
theorem Emp.orb(T:Tb t m n){r:Nat}(hr:t.slot r=.empty):∀(k i:Nat),r∈orb m k i->Emp t (10 * k) (rs m i 0)
 |0,i,h=>by cases h
 |k+1,i,h=>by
  rcases aO.mp h with e|h
  ·exact Emp.mono (f:=1) (.inl (by rw[e]at hr;exact hr)) (by omega)
  ·have:=Emp.leap T (q:=0) (i:=i) (Emp.orb T hr k _ h);exact this.mono (by omega)
theorem EU(hm:m=7\/m=31){r:Nat}(hi:i<=m)(hr:r<=m):r∈orb m (m+1) i:=by
 have h:∀m∈[7,31],((aS (m+1)).all λi=>(aS (m+1)).all λr=>(orb m (m+1) i).contains r)=true:=by decide +kernel
 have:=aB.mp (aB.mp (h m (by rcases hm with rfl|rfl<;>simp)) i (bL.mpr (by omega))) r (bL.mpr (by omega));exact gu.mp this
theorem Emp.all(T:Tb t m n)(hm:m=7\/m=31)(hn:n<=m):∀(k i q:Nat),i<=m->q<32 ^ k->Emp t (10 * (k+(m+1))) (rs m i q)
 |0,i,q,hi,hq=>by
  obtain⟨r,hr,e⟩:=T.free hn;have q0:q=0:=by simpa using hq
  rw[q0,fS];exact Emp.orb T e _ _ (EU hm hi hr)
 |k+1,i,q,hi,hq=>by have:=Emp.leap T (Emp.all T hm hn k ((i * 5+1+q / 32) % (m+1)) (q / 32) (jQ (gb _ (iB m))) (by rw[kO]at hq;omega));exact this.mono (by omega)
theorem Emp.start(T:Tb t m n)(hm:m=7\/m=31)(hn:n<=m)(h:Int):Emp t (10 * (m+14)) (t.probeStart h):=by
 have hb:bQ h<32 ^ 13:=by unfold bQ;omega
 have:=Emp.all T hm hn 13 (bQ h % (m+1)) (bQ h) (jQ (gb _ (iB m))) hb;have e:t.probeStart h=rs m (bQ h % (m+1)) (bQ h):=by unfold SetTable.probeStart;rw[T.mask];rfl
 rw[e];exact this.mono (by omega)
theorem IH{p:cY}(h:p.dummy=none):(t.advance p).dummy=none:=by unfold hG;split<;>exact h
theorem II(T:Tb t m n)(F:Nat->Int)(h:Int):∀(f:Nat) (p:cY),p.dummy=none->Emp t f p->∀g,f<=g->(∃j,t.slot j=.empty/\eJ t F h g p=some (.empty j none))\/
  ∃j i next f',f'<f/\t.slot j=.live i/\t.place[i]?=some j/\F i=h/\eJ t F h g p=some (.candidate j i next)/\next.dummy=none/\Emp t f' next
 |0,p,_,he,g,_=>he.elim
 |f+1,p,hd,he,0,hg=>ak hg (by omega)
 |f+1,p,hd,he,g+1,hg=>by
  unfold eJ;rcases T.slot p.j with ⟨i,e1,e2⟩|e1
  ·have he:Emp t f (t.advance p):=he.resolve_left λe=>by rw[e1]at e;cases e
   rw[e1];dsimp only;by_cases hh:F i=h
   ·right;exact⟨p.j,i,t.advance p,f,dq f,e1,e2,hh,by rw[ah (by rw[hh];simp)],IH hd,he⟩
   ·rw[ai (by simpa using hh)];rcases II T F h f (t.advance p) (IH hd) he g (by omega)with h1|⟨j,i',nx,f',h1,h2,h3⟩
    ·exact .inl h1
    ·exact .inr ⟨j,i',nx,f',by omega,h2,h3⟩
  ·left;rw[e1];exact⟨p.j,e1,by rw[hd]⟩
end
theorem O6{t:bF}{F F':Nat->Int}{h:Int}(e:∀i,F i=F' i)(g:Nat)(p:cY):eJ t F h g p=eJ t F' h g p:=by obtain rfl:F=F':=funext e;rfl
variable{Q:Bool->ae->Prop}
section
variable{prog:au}{w:ao}{A:av}{E:aa->ae->Prop}{s:ae}
theorem IJ{a2:Addr}{k2:List Key}{l:List aa}(h1:∀v∈l,∃k a,v=.ref a/\TK prog w s.heap k a)(h2:TK prog w s.heap k2 a2)(h:Q false s):af (model prog w) A (searchCouldBeSeen (.ref a2) l) Q E s:=by
 unfold searchCouldBeSeen;refine ar ?_;show af _ _ (forIn l _ _) _ _ s;refine gZ _ (λrest r s'=>r=(none,())/\s'=s/\∀v∈rest,∃k a,v=.ref a/\TK prog w s.heap k a) _ ?_ ?_ _ _ ⟨rfl,rfl,h1⟩
 ·rintro v rest r s' ⟨rfl,rfl,hall⟩;obtain⟨k,a1,rfl,h1⟩:=hall v aG;have go:∀v∈rest,∃k a,v=Value.ref a/\TK prog w s'.heap k a:=λu hu'=>hall u (aN _ hu');dsimp only;split
  ·exact aA ⟨rfl,rfl,go⟩
  ·refine ar (ji h2 ?_);refine ar (ji h1 ?_);refine ar (EL h2 ?_);refine ar (EL h1 ?_);exact aA ⟨rfl,rfl,go⟩
 ·rintro r s' ⟨rfl,rfl,_⟩;exact aA h
structure Els(prog:au)(w:ao)(h:Heap)(L:List (List Key×Addr))(es:Array (Int×aa)):Prop where
 tk:∀q∈L,TK prog w h q.1 q.2
 p:(es.toList.map cb).Perm (L.map λq=>Value.ref q.2)
variable{L:List (List Key×Addr)}{es:Array (Int×aa)}{t:bF}{m n ep:Nat}{S a2:Addr}{k2:List Key}{o:Obj}{h:Int}
theorem CU{Q:SetFound->ae->Prop}(hu:A.units<cLine)(T:Tb t m n)(hm:m=7\/m=31)(hf:t.fits es.size=true)(l:Els prog w s.heap L es)(t2:TK prog w s.heap k2 a2)(ne:k2∉L.map bG)
  (ho:s.heap.get? S=some o) (hd:o.data=.set es ep t) (hQ:∀j,t.slot j=.empty->Q (.free j false) s):∀(fuel f:Nat) (st:Option cY),f<fuel->f<=10 * dW m->(st.getD (t.probeStart h)).dummy=none->Emp t f (st.getD (t.probeStart h))->
   af (model prog w) A (setSearchFrom S (.ref a2) h true fuel st) Q E s
 |0,f,st,hl,_,_,_=>ak hl (by omega)
 |fuel+1,f,st,hl,hg,hdm,he=>by
  have sz:es.size=n:=by unfold fR at hf;rw[az,beq_iff_eq,T.pl]at hf;exact hf.1.symm
  unfold setSearchFrom;refine ar (eK ho hd hf ?_);dsimp only;rw[ai (by unfold SetTable.gaveWay;rw[T.mask];rcases hm with rfl|rfl<;>decide)];unfold SetTable.probe;rw[O6 (F':=λi=>(es[i]?.map (·.1)).getD 0),T.mask]
  rotate_left
  ·intro i;rfl
  rcases II T (λi=>(es[i]?.map (·.1)).getD 0) h f _ hdm he (10 * dW m) hg with ⟨j,e1,e2⟩|⟨j,i,nx,f',h1,h2,h3,h4,h5,h6,h7⟩
  ·rw[e2];exact aA (hQ j e1)
  ·rw[h5];dsimp only;have hi:i<es.size:=by rw[sz,<- T.pl];exact(i3.mp h3).1
   obtain⟨⟨h',y⟩,ey⟩:∃e,es[i]?=some e:=⟨es[i],gp hi⟩;have my:y∈es.toList.map cb:=aI.mpr ⟨(h',y),by rw[<-gr]at ey;exact bx ey,rfl⟩;obtain⟨q,hq,rfl⟩:=aI.mp (l.p.mem_iff.mp my);have t1:=l.tk q hq;have nk:q.1≠k2:=λe=>ne (aI.mpr ⟨q,hq,e⟩);have si:t.sameMemory t.moves m=some true:=by unfold SetTable.sameMemory;simp
   have rest:af (model prog w) A (setSearchFrom S (.ref a2) h true fuel (some nx)) Q E s:=CU hu T hm hf l t2 ne ho hd hQ fuel f' (some nx) (by omega) (by omega) h6 h7;have sb:∀v∈iX (λx:Int×aa=>x.snd) (Array.filter (λx=>x.fst==h) es).toList,∃k a,v=Value.ref a/\TK prog w s.heap k a:=λv hv=>by
    obtain⟨e,he,rfl⟩:=aI.mp hv;have he:e∈es.toList:=by rw[Array.toList_filter]at he;exact(bA.mp he).1
    obtain⟨q,hq,e2⟩:=aI.mp (l.p.mem_iff.mp (aI.mpr ⟨e,he,rfl⟩));exact⟨q.1,q.2,e2.symm,l.tk q hq⟩
   cases hb:t.led;refine ar (IJ sb t2 ?_)
   all_goals
    rw[ey];refine ar (cq (wpAny_eqBool_tuple hu t1 t2 ?_));refine ar (eK ho hd hf ?_);rw[aY nk];dsimp only;rw[ai (by decide),si];dsimp only;rw[ah rfl,h2];dsimp only;rw[ey];refine ar (wpAny_isSame_ref_self ?_);refine ar (aA ?_);exact rest
end
def Nn(ow:Array (Option Nat))(j:Nat):Prop:=(ow.getD j (some 0)).isNone=true
variable{j:Nat}{led:Bool}
section
variable{ow:Array (Option Nat)}
theorem O7(i:Nat):0<cX 31 i+1 - i:=by unfold cX;split<;>omega
theorem AM{f:Nat}:(∃j,Nn ow j/\cF 31 ow (f+1) i q=some j)\/(¬Nn ow i/\cF 31 ow (f+1) i q=cF 31 ow f ((i * 5+1+q / 32) % 32) (q / 32)):=by
 have ef:cF 31 ow (f+1) i q=match (aS (cX 31 i+1 - i)).find? λk=>(ow.getD (i+k) (some 0)).isNone with
  |some k=>some (i+k)
  |none=>cF 31 ow f ((i * 5+1+q / 32) % 32) (q / 32):=rfl
 rw[ef];cases e:(aS (cX 31 i+1 - i)).find? λk=>(ow.getD (i+k) (some 0)).isNone with
 |some k=>exact .inl ⟨i+k,List.find?_some (p:=λk=>(ow.getD (i+k) (some 0)).isNone) e,rfl⟩
 |none=>refine .inr ⟨λh=>?_,rfl⟩;have:=List.find?_eq_none.mp e 0 (bL.mpr (O7 i));exact this h
theorem CV{r:Nat}(hr:Nn ow r):∀(k f i:Nat),k<=f->r∈orb 31 k i->∃j,Nn ow j/\cF 31 ow f i 0=some j
 |0,f,i,_,h=>by cases h
 |k+1,0,i,hf,_=>ak hf (by omega)
 |k+1,f+1,i,hf,h=>by
  rcases AM (ow:=ow) (f:=f) (i:=i) (q:=0)with h1|⟨h1,h2⟩
  ·exact h1
  ·rcases aO.mp h with e|h
   ·exact ak (e▸hr) h1
   ·rw[h2];exact CV hr k f _ (by omega) h
theorem CW{r:Nat}(hr:Nn ow r)(h32:r<=31):∀(k f i q:Nat),k+32<=f->i<=31->q<32 ^ k->∃j,Nn ow j/\cF 31 ow f i q=some j
 |0,f,i,q,hf,hi,hq=>by
  have q0:q=0:=by simpa using hq
  rw[q0];exact CV hr 32 f i (by omega) (EU (m:=31) (.inr rfl) hi h32)
 |k+1,0,i,q,hf,_,_=>ak hf (by omega)
 |k+1,f+1,i,q,hf,hi,hq=>by
  rcases AM (ow:=ow) (f:=f) (i:=i) (q:=q)with h1|⟨_,h2⟩
  ·exact h1
  ·rw[h2];exact CW hr h32 k f _ _ (by omega) (by omega) (by rw[kO]at hq;omega)
def lv(ow:Array (Option Nat)):List (Nat×Nat):=(aS 32).filterMap λj=>(ow.getD j none).map (j,·)
theorem QU(hs:ow.size=32)(h:Nn ow j):j<32/\ow.getD j none=none:=by
 unfold Nn at h;by_cases hj:j<ow.size
 ·refine⟨by omega,?_⟩;rw[dG,gp hj]at h ⊢;simpa using h
 ·rw[dG,Array.getElem?_eq_none (by omega)]at h;cases h
theorem O8(hs:ow.size=32){k:Nat}(h:Nn ow j):(lv (ow.setIfInBounds j (some k))).Perm ((j,k)::lv ow):=by
 obtain⟨hj,e⟩:=QU hs h;have get:∀i,(ow.setIfInBounds j (some k)).getD i none=if i=j then some k else ow.getD i none:=λi=>by
  rw[dG,dG,Array.getElem?_setIfInBounds];by_cases hi:j=i
  ·subst hi;rw[ah rfl,ah (by omega),ah rfl];rfl
  ·rw[ai hi,ai (λe=>hi e.symm)]
 obtain⟨a,b,sp⟩:=List.append_of_mem (bL.mpr hj);have nd:(aS 32).Nodup:=j1;rw[sp,bZ,cU]at nd;unfold lv;rw[sp,jk,jk,cN,cN,get j,ah rfl,e];have eq:∀l:List Nat,j∉l->l.filterMap (λi=>((ow.setIfInBounds j (some k)).getD i none).map (i,·))=l.filterMap λi=>(ow.getD i none).map (i,·):=λl hl=>by
  induction l with
  |nil=>rfl
  |cons i l ih=>rw[cN,cN,ih λz=>hl (aN _ z),get i,ai λe=>hl (by rw[<-e];exact aG)]
 rw[eq a λz=>nd.2.2 j z j aG rfl,eq b nd.2.1.1];exact List.perm_middle
theorem IK:∀(hs:List Int) (ow:Array (Option Nat)) (k:Nat),ow.size=32->((lv ow).map cb).Perm (aS k)->k+hs.length<=31->∃ow',ow'.size=32/\((lv ow').map cb).Perm (aS (k+hs.length))/\
  (hs.foldl (λacc h=>do
   let (owner,k)<-acc;let j<-cF 31 owner (dW 31) (bQ h % (31+1)) (bQ h)
   pure (owner.setIfInBounds j (some k),k+1)) (some (ow,k)))=some (ow',k+hs.length)
 |[],ow,k,h1,h2,_=>⟨ow,h1,h2,rfl⟩
 |h::hs,ow,k,h1,h2,h3=>by
  rw[aD]at h3 ⊢;have fr:∃r,r<=31/\Nn ow r:=by
   apply i4;intro no;have len:(lv ow).length=32:=by
    have:∀l:List Nat,(∀j∈l,j<=31)->(l.filterMap λj=>(ow.getD j none).map (j,·)).length=l.length:=λl hl=>by
     induction l with
     |nil=>rfl
     |cons j l ih=>
      have hj:=hl j aG;have hn:¬Nn ow j:=λe=>no ⟨j,hj,e⟩;cases e:ow.getD j none with
      |none=>refine ak ?_ hn;unfold Nn;rw[dG,gp (by omega)]at e ⊢;simpa using e
      |some x=>rw[cN,e];show (List.filterMap _ l).length+1=l.length+1;rw[ih λz hz=>hl z (aN _ hz)]
    exact(this (aS 32) λj hj=>by have:=bL.mp hj;omega).trans cn
   have:=h2.length_eq;rw[ag,cn,len]at this;omega
  obtain⟨r,hr,nr⟩:=fr;have hb:bQ h<32 ^ 13:=by unfold bQ;omega
  obtain⟨j,nj,ej⟩:=CW nr hr 13 (dW 31) (bQ h % (31+1)) (bQ h) (by decide) (by omega) hb;obtain⟨ow',q1,q2,q3⟩:=IK hs (ow.setIfInBounds j (some k)) (k+1) (by rw[Array.size_setIfInBounds];exact h1) (by
   refine((O8 h1 nj).map cb).trans ?_;rw[aK,List.range_succ];exact((List.Perm.cons k h2).trans (gm k _).symm)) (by omega)
  refine⟨ow',q1,by rw[show k+(hs.length+1)=k+1+hs.length by omega];exact q2,?_⟩;rw[fP,show k+(hs.length+1)=k+1+hs.length by omega,<- q3];congr 1;show (cF 31 ow (dW 31) (bQ h % (31+1)) (bQ h)).bind _=_;rw[ej];rfl
theorem Lc{fg mv:Nat}{pl:Bool}(hs:Array Int)(hn:hs.size<=31):∃t order,kG 31 fg mv led pl hs=some (t,order)/\Tb t 31 hs.size/\t.led=led/\t.plain=pl/\order.toList.Perm (aS hs.size):=by
 obtain⟨ow,h1,h2,h3⟩:=IK hs.toList (j8 32 none) 0 (by simp) (by
  have:lv (j8 32 none)=[]:=by unfold lv;rw[List.filterMap_eq_nil_iff];intro j hj;rw[dG,Array.getElem?_replicate,ah (bL.mp hj)];rfl
  rw[this];exact .nil) (by rw[bY];omega)
 rw[fS,bY]at h2 h3;have e:jR 31 hs=some ow:=by unfold jR;rw[<-Array.foldl_toList];exact aR (Option.map bG) h3
 refine⟨_,_,by unfold kG;rw[e];rfl,⟨rfl,rfl,?_⟩,rfl,rfl,?_⟩
 ·have:=h2.length_eq;rw[ag,cn]at this;show (iX _ (lv ow)).toArray.size=_;rw[aL,ag,this]
 ·exact h2
end
def Cz2(m n:Nat):Prop:=(m=7/\n<=4)\/(m=31/\n<=18)\/(m=127/\19<=n/\n<=63)
variable{x:Str}
section
variable{prog:au}{w:ao}{A:av}{E:aa->ae->Prop}{s:ae}
theorem IL{ks:List Key}{a:Addr}(hk:TK prog w s.heap (Sum.inr x::ks) a)(h:Q false s):af (model prog w) A (hashByValue 8 (.ref a)) Q E s:=by
 have hT:=hk.typeIs;obtain⟨o,items,n,ho,_,hd,hi⟩:=hk;unfold hashByValue;refine ar (fN hT F.slot_tuple_hash.lookup ?_);show af _ _ (seqItems? (.ref a)>>=_) _ _ s;refine ar (kl ho hd ?_);refine ar ?_;show af _ _ (forIn items _ _) _ _ s;rw[<-jH];generalize items.toList=l at hi ⊢;cases hi with
 |@cons _ v _ vs h1 h2=>
  obtain⟨t,rfl⟩:∃t,v=.str x t:=EO h1;refine gZ _ (λrest r s'=>s'=s/\∃u,rest=.str x t::u) _ ?_ ?_ _ _ ⟨rfl,vs,rfl⟩
  ·rintro v rest r s' ⟨rfl,u,e⟩;cases e;refine ar (m:=hashByValue 7 (.str x t)) (aA ?_);exact aA (aA h)
  ·rintro r s' ⟨rfl,u,e⟩;cases e
variable{L:List (List Key×Addr)}{es:Array (Int×aa)}{t:bF}{m n ep:Nat}{S a2:Addr}{k2:List Key}{o:Obj}{h:Int}
theorem IM{Q:Unit->ae->Prop}(hc:t.mask=7)(ho:s.heap.get? S=some o)(hd:o.data=.set es ep t)(hf:t.fits es.size=true)(h5:es.size=5)
  (hQ:∀h' es' t',dX S s.heap h'->h'.get? S=some { o with data:=.set es' (ep+1) t' }->Tb t' 31 5->t'.led=t.led->t'.plain=t.plain->es'.toList.Perm es.toList->Q () { s with heap:=h' }):af (model prog w) A (setRelay S (ib 5)) Q E s:=by
 unfold setRelay;refine ar (eK ho hd hf ?_);dsimp only;rw[ai (by rw[bV];decide)];obtain⟨t',order,e1,T,e2,e3,e4⟩:=Lc (fg:=t.finger) (mv:=t.movedTo 31) (led:=t.led) (pl:=t.plain) (es.map (·.1)) (by rw[ku];omega)
 rw[ku]at T e4;have hp:(order.filterMap (es[·]?)).toList.Perm es.toList:=by rw[Array.toList_filterMap];exact(e4.filterMap _).trans (by rw[filterMap_getElem?_range])
 have er:t.relaid (es.map (·.1)) (ib 5)=some (t',order):=e1
 rw[er];have sz:(order.filterMap (es[·]?)).size=es.size:=by have:=hp.length_eq;rw[bY,bY]at this;exact this
 refine ar ?_;wp_delta;dsimp only;rw[ai (by rw[sz];simp)];refine aA ?_;refine jS ho hd ?_ (by show (order.filterMap (es[·]?)).size<=ay;rw[sz,bV];omega)
 exact hQ _ _ _ (gA ..) (Ik ho hd) (by rw[h5]at T;exact T) e2 e3 hp
theorem add_n(hu:A.units<cLine)(T:Tb t m n)(hc:Cz2 m n)(h8:n<=8)(hf:t.fits es.size=true)(l:Els prog w s.heap L es)(t2:TK prog w s.heap (Sum.inr x::k2) a2)(ne:(Sum.inr x::k2)∉L.map bG)
  (ho:s.heap.get? S=some o) (hd:o.data=.set es ep t)
  (hQ:∀h' es' t' ep' m',dX S s.heap h'->h'.get? S=some { o with data:=.set es' ep' t' }->Tb t' m' (n+1)->Cz2 m' (n+1)->t'.led=t.led->t'.plain=false->(es'.toList.map cb).Perm (.ref a2::es.toList.map cb)->Q true { s with heap:=h' }):
  af (model prog w) A (setAddHashed S (.ref a2) h) Q E s:=by
 have hc:(m=7/\n<=4)\/(m=31/\n<=9):=by unfold Cz2 at hc;omega
 have hm:m=7\/m=31:=hc.imp And.left And.left;have sz:es.size=n:=by unfold fR at hf;rw[az,beq_iff_eq,T.pl]at hf;exact hf.1.symm
 unfold setAddHashed setAddHashedIn;refine cq (ar (eK ho hd hf ?_));dsimp only;rw[ai (by simp[byScan,Value.scannable])];have nm:n<=m:=by rcases hc with ⟨rfl,h⟩|⟨rfl,h⟩<;>omega
 refine ar (CU hu T hm hf l t2 ne ho hd (λj hj=>?_) 100000 (10 * (m+14)) none (by rcases hm with rfl|rfl<;>decide) (by unfold dW;omega) rfl (Emp.start T hm nm h));dsimp only;refine ar (eK ho hd hf ?_);dsimp only;have p1:(t.put j).1.mask=m:=T.mask;have p2:(t.put j).1.dummies=#[]:=by show (if kN t.dummies j then _ else t.dummies)=_;rw[T.dm];rfl
 have p3:(t.put j).1.place.size=n+1:=by have:=(je t.place (kr t.place j) j).length_eq;rw[bY,bY,Array.size_push,T.pl]at this;exact this
 have p4:(dO es (t.put j).2 (h,Value.ref a2)).toList.Perm ((h,.ref a2)::es.toList):=by refine(je es _ _).trans ?_;rw[Array.toList_push];exact gm _ _
 have p5:(dO es (t.put j).2 (h,Value.ref a2)).size=n+1:=by have:=p4.length_eq;rw[bY,aD,bY,sz]at this;exact this
 let t1:bF:={ (t.put j).1 with plain:=false };have T1:Tb t1 m (n+1):=⟨p1,p2,p3⟩;have f1:t1.fits (dO es (t.put j).2 (h,Value.ref a2)).size=true:=by unfold fR iq;rw[p5,T1.pl,T1.dm,T1.mask,az];exact⟨by simp,aW (by rcases hc with ⟨rfl,h⟩|⟨rfl,h⟩<;>simp<;>omega)⟩
 have fin:∀t0:bF,t0=t1->af (model prog w) A (do
   storeSet S (dO es (t.put j).2 (h,.ref a2)) t0
   if (!false&&t0.tooFull)=true then do setRelay S (ib (es.size+1));pure true else pure true) Q E s:=λt0 e=>by
  subst e;refine ar (jS ho hd ?_ (by rw[p5,bV];omega));have g1:=Ik (es':=dO es (t.put j).2 (h,Value.ref a2)) (t':=t1) ho hd;have tf:t1.tooFull=decide ((n+1) * 5 >= m * 3):=by unfold SetTable.tooFull iq;rw[T1.pl,T1.dm,T1.mask];rfl
  rw[tf];by_cases h5:(n+1) * 5 >= m * 3
  ·rw[aW h5,ah (by decide)];obtain⟨rfl,rfl⟩:m=7/\n=4:=by rcases hc with ⟨rfl,h⟩|⟨rfl,h⟩<;>omega
   rw[sz];refine ar (IM (s:={ s with heap:=s.heap.update S (iQ (dO es (t.put j).2 (h,.ref a2)) t1) }) T1.mask g1 rfl f1 p5 λh' es' t' b1 b2 b3 b4 b5 b6=>?_);refine aA (hQ h' es' t' _ 31 ((gA ..).trans b1) b2 b3 (.inr (.inl ⟨rfl,by decide⟩)) b4 b5 ?_);exact(b6.map _).trans (p4.map _)
  ·rw[aY h5,ai (by decide)];refine aA (hQ _ _ _ _ m (gA ..) g1 T1 ?_ rfl rfl (p4.map _));rcases hc with ⟨rfl,h⟩|⟨rfl,h⟩
   ·exact .inl ⟨rfl,by omega⟩
   ·exact .inr (.inl ⟨rfl,by omega⟩)
 split
 ·refine ar (IL t2 ?_);exact fin _ rfl
 ·rename_i hp;refine ar (aA (fin _ ?_));rw[jZ]at hp;rw[ah rfl];show (t.put j).1={ (t.put j).1 with plain:=false };rw[<-hp]
end
structure Al(h:Heap)(S:Addr)(L:List (List Key×Addr))(led:Bool)(n:Nat)(o:Obj)(es:Array (Int×aa))(ep:Nat)(t:bF):Prop where
 at_:h.get? S=some o
 ex:o.ExactSet
 d:o.data=.set es ep t
 c:∃m,Tb t m n/\Cz2 m n
 led:t.led=led
 pl:0<n->t.plain=false
 p:(es.toList.map cb).Perm (L.map λq=>Value.ref q.2)
variable{o:Obj}{ep:Nat}
theorem Al.sz{h:Heap}{S:Addr}{L:List (List Key×Addr)}{n:Nat}{es:Array (Int×aa)}{t:bF}(x:Al h S L led n o es ep t):es.size=L.length:=by have:=x.p.length_eq;rw[ag,ag,bY]at this;exact this
theorem Al.fits{h:Heap}{S:Addr}{L:List (List Key×Addr)}{n:Nat}{es:Array (Int×aa)}{t:bF}(x:Al h S L led n o es ep t)(hl:L.length=n):t.fits es.size=true:=by obtain⟨m,T,c⟩:=x.c;unfold fR iq;rw[x.sz,hl,T.pl,T.dm,T.mask,az];exact⟨by simp,aW (by unfold Cz2 at c;simp;omega)⟩
section
variable{prog:au}{w:ao}{A:av}{R:cJ->ae->Prop}{I:Addr}{fp wr:List Addr}{GG:Array dE->Array dE->Prop}{n:Nat}{PP:Nat->aa->Prop}{SS:Nat->ae->Prop}
theorem Gh(W:WalksS prog w A.in1 I fp wr GG n PP SS){S:Addr}(hSf:S∉fp)(hu:A.in1.units<cLine)(L:List (List Key×Addr))(hn:L.length=n)(h8:n<=8)(nd:(L.map bG).Nodup)(hk:∀q∈L,∃x k,q.1=Sum.inr x::k)(far:∀q∈L,q.2∉S::wr)
  (hval:∀i v,PP i v->∃q,L[i]?=some q/\v=.ref q.2):∀(k i:Nat) (s:ae) (o:Obj) (es:Array (Int×aa)) (ep:Nat) (t:bF),n - i=k->i<=n->SS i s->(∀q∈L,TK prog w s.heap q.1 q.2)->Al s.heap S (L.take i) led i o es ep t->
   (∀s' o es ep t,Moved (S::wr) GG s s'->Al s'.heap S L led n o es ep t->R (.ok (.ret .none)) s')->
   bH (model prog w) A (.builtin "set.update.loop" ⟨[.ref S,.ref I],[]⟩) R s:=by
 have hSw:S∉wr:=λz=>hSf (W.sub _ z);have up:∀b∈wr,b∈S::wr:=λb z=>aN _ z;intro k
 induction k with
 |zero=>
  intro i s o es ep t hk' hi hst tk x hR;obtain rfl:i=n:=by omega
  refine dS fA ?_;rw[eA dH _];show af _ A.in1 (pyNext (.ref I)>>=_) _ _ s;refine ar (W.done s _ _ hst λs' hm=>?_);show af _ A.in1 (ret Value.none) _ _ s';rw[gq (by omega)]at x;exact aA (hR s' o es ep t (hm.mono up) { x with at_:=hm.heap S _ hSw x.at_ })
 |succ k ih=>
  intro i s o es ep t hk' hi hst tk x hR;have hlt:i<n:=by omega
  refine dS fA ?_;rw[eA dH _];show af _ A.in1 (pyNext (.ref I)>>=_) _ _ s;refine ar (W.item i s _ _ hlt hst λv s' hP hst' hm=>?_);obtain⟨q,eq,rfl⟩:=hval i v hP;have mq:q∈L:=bx eq;have tk':∀q∈L,TK prog w s'.heap q.1 q.2:=λq hq=>(tk q hq).kept λo=>hm.heap q.2 o λz=>far q hq (up _ z);show af _ A.in1 (holding _ (setAdd S _)>>=_) _ _ s';refine ar (cq ?_);unfold setAdd;refine cq ?_;refine ar (wpAny_pyHash_tuple hu (tk' q mq) ?_);obtain⟨m,T,c⟩:=x.c;obtain⟨z,kk,ez⟩:=hk q mq;have tq:TK prog w s'.heap (Sum.inr z::kk) q.2:=by rw[<-ez];exact tk' q mq
  have split:L.take (i+1)=L.take i++[q]:=by rw[jO,eq];rfl
  have ne:(Sum.inr z::kk)∉(L.take i).map bG:=λw'=>by have h1:((L.take (i+1)).map bG).Nodup:=nd.sublist ((fK _ _).map _);rw[split,bb,bZ]at h1;exact h1.2.2 _ w' _ (ba.mpr ez.symm) rfl
  have sub:∀r∈L.take i,r∈L:=λr hr=>(fK _ _).subset hr;have x':Al s'.heap S (L.take i) led i o es ep t:={ x with at_:=hm.heap S _ hSw x.at_ };refine add_n (s:={ s' with toks:=s'.toks+(q.1.length+1) }) (L:=L.take i) hu T c (by omega) (x'.fits (by rw[bz];omega)) ⟨λr hr=>tk' r (sub r hr),x'.p⟩ tq ne x'.at_ x'.d λh' es' t' ep' m' b1 b2 b3 b4 b5 b6 b7=>?_;have y:Al h' S (L.take (i+1)) led (i+1) { o with data:=.set es' ep' t' } es' ep' t':=by refine⟨b2,x.ex,rfl,⟨m',b3,b4⟩,b5.trans x.led,λ_=>b6,b7.trans ?_⟩;rw[split,bb];exact(List.Perm.cons _ x.p).trans (gm _ _).symm
  refine aA ⟨ip dH _,ih (i+1) _ _ _ _ _ (by omega) hlt (W.frame _ s' h' _ hst' (j2 _ _) λb z o e=>?_) (λr hr=>(tk' r hr).kept λo e=>?_) y λs'' o2 es2 ep2 t2 hm'' x2=>?_⟩
  ·rw[b1.2 b (λy:b=S=>hSf (by rw[<-y];exact z))];exact e
  ·rw[b1.2 r.2 (λy:r.2=S=>far r hr (by rw[y];exact aG))];exact e
  ·refine hR s'' o2 es2 ep2 t2 (lg W.gtrans ((hm.mono up).then_heap (j2 _ _) λb o z e=>?_) hm'') x2;rw[b1.2 b (λy:b=S=>z (by rw[y];exact aG))];exact e
end
end L4
namespace L4
open PySem PySem.Spec PySem.Calls PyProof.Rows PySem.W L2 L3
section
variable{prog:au}{w:ao}{A:av}{E:aa->ae->Prop}{s:ae}
abbrev TkS(k:List Str):List Key:=k.map Sum.inr
end
section
variable{X:Cx}{G:Bg}{H:Hp}{pins:List (Addr×Obj)}{σ:St}{s:ae}
theorem RU{A:av}{E:aa->ae->Prop}{Q:aa->ae->Prop}{a:Addr}{L:List (List Str×Addr)}(I:Inv X pins σ H s)(hh:A.handled=none)(hu:A.units+8<cLine)(hq:SqL X.K H a (L.map λq=>V.ref q.2))(h8:L.length<=8)(nd:(L.map bG).Nodup)
  (ht:∀q∈L,∃p r,q.1=[p,r]/\SqT X.K H q.2 [.str p,.str r])
  (h:∀h2 k2 o es ep t,Al h2 s.heap.objs.size (L.map λq=>(TkS q.1,q.2)) (!X.w.params.followText "set-order") L.length o es ep t->(∀b o,b<s.heap.objs.size->s.heap.get? b=some o->h2.get? b=some o)->Q (.ref s.heap.objs.size) { s with heap:=h2,toks:=k2 }):
  af (model X.prog X.w) A (call (.type "set") [.ref a]) Q E s:=by
 have h3:A.in1.in1.in1.handled=none:=by simp[hh]
 obtain⟨its,r,pp,_⟩:=I.list hq;obtain⟨o,ho,hc,n,hd⟩:=pp.isList;have hne:a≠s.heap.objs.size+1:=aP (dh (aH ho));have tk:∀q∈L,TK X.prog X.w s.heap (TkS q.1) q.2:=λq hq=>by obtain⟨p,r,e,h1⟩:=ht q hq;rw[e];exact QG (ks:=[.inr p,.inr r]) I h1
 have li:L.length=its.length:=by have:=r.length;rw[ag]at this;exact this
 have ev:∀(i:Nat) (v:aa),its[i]?=some v->∃q,L[i]?=some q/\v=.ref q.2:=λi v e=>by
  have hi:i<L.length:=by rw[li];exact(bu.mp e).1
  obtain⟨u,e2,ru⟩:=r.get (i:=i) (x:=V.ref L[i].2) (by rw[aX,aV hi];rfl);rw[e]at e2;cases e2;exact⟨L[i],aV hi,ru⟩
 have notin:s.heap.objs.size∉[s.heap.objs.size+1,a]:=by
  intro z;rcases aO.mp z with z|z
  ·exact ak z (aP (dq _))
  ·exact ak (ba.mp z) (iw (aH ho))
 let PS:Heap->Prop:=λh2=>∃o es ep t,Al h2 s.heap.objs.size (L.map λq=>(TkS q.1,q.2)) (!X.w.params.followText "set-order") L.length o es ep t;refine zF (PS:=PS) ho hc ko jo (by decide) (itO:={ cls:=.type "list_iterator", data:=.fields #[.ref a,.int 0 0] })
  (λA Q E s1 e k=>eE ⟨o,e,hc,n,hd⟩ k) (λtk' R hR=>?_) λh2 k2 ⟨o,es,ep,t,x⟩ kk=>h h2 k2 o es ep t x kk
 have ke:∀{b:Addr} {o':Obj},s.heap.get? b=some o'->((s.heap.push (ur (!X.w.params.followText "set-order"))).push { cls:=.type "list_iterator", data:=.fields #[.ref a,.int 0 0] }).get? b=some o':=λe=>aJ _ (aJ _ e);have it:((s.heap.push (ur (!X.w.params.followText "set-order"))).push { cls:=.type "list_iterator", data:=.fields #[.ref a,.int 0 0] }).get? (s.heap.objs.size+1)=some { cls:=.type "list_iterator", data:=.fields #[.ref a,.int 0 0] }:=by rw[show s.heap.objs.size+1=(s.heap.push (ur (!X.w.params.followText "set-order"))).objs.size from(dv _ _).symm];exact bf _ rfl
 refine Gh (S:=s.heap.objs.size) (led:=!X.w.params.followText "set-order") (f9 h3 _ a hne its.toArray).toS notin (by show A.units+1+1+1<cLine;omega) (L.map λq=>(TkS q.1,q.2)) (by rw[ag,aL,li]) (by rw[aL];omega) ?_ ?_ ?_ ?_ (its.toArray.size - 0) 0 _ (ur (!X.w.params.followText "set-order")) #[] 0 (.fresh 0 0 (!X.w.params.followText "set-order")) rfl (cw _) ⟨⟨_,it,rfl,rfl⟩,⟨o,ke ho,hc,n,hd⟩⟩ ?_ ?_ λs2 o2 es2 ep2 t2 mv S2=>?_
 ·rw[bg,show (bG∘λq:List Str×Addr=>(TkS q.1,q.2))=λq=>TkS q.1 from rfl];have:(L.map λq=>TkS q.1)=(L.map bG).map TkS:=by rw[bg];rfl
  rw[this];exact m3 _ (λx y hxy e=>hxy ((List.map_inj_right λ_ _ h=>fX h).mp e)) nd
 ·intro q hq;obtain⟨r,hr,rfl⟩:=aI.mp hq;obtain⟨p,z,e,_⟩:=ht r hr;exact⟨p,[.inr z],by show TkS r.1=_;rw[e];rfl⟩
 ·intro q hq z;obtain⟨r,hr,rfl⟩:=aI.mp hq;obtain⟨ob,_,_,e,_⟩:=tk r hr;have:=aH e;rcases aO.mp z with z|z
  ·exact ak z (aP this)
  ·exact ak (ba.mp z) (aP (dh this))
 ·intro i v e;rw[jh]at e;obtain⟨q,e1,e2⟩:=ev i v e;exact⟨(TkS q.1,q.2),by rw[aX,e1];rfl,e2⟩
 ·intro q hq;obtain⟨r,hr,rfl⟩:=aI.mp hq;exact(tk r hr).kept λo=>ke
 ·exact⟨aJ _ (bf _ rfl),⟨rfl,rfl,rfl⟩,rfl,⟨7,⟨rfl,rfl,rfl⟩,.inl ⟨rfl,by decide⟩⟩,rfl,λz=>ak z (by decide),.nil⟩
 ·obtain⟨h2,g2,d2,k2,o2'⟩:=s2;have eg:g2=s.gens:=mv.gens;have ed:d2=s.drawn:=mv.drawn;have eo:o2'=s.os:=mv.os;subst eg ed eo;have el:its.toArray.size=L.length:=by rw[aL,li]
  rw[el]at S2;refine hR h2 k2 ⟨o2,es2,ep2,t2,S2⟩ λb o hb e=>mv.heap b o (λz=>?_) (ke e);rcases aO.mp z with z|z
  ·exact ak z (aP hb)
  ·exact ak (ba.mp z) (aP (dh hb))
end
section
variable{X:Cx}{G:Bg}{H:Hp}{pins:List (Addr×Obj)}{σ:St}{s:ae}
theorem EV:∀{ds:List D} {ks:List (List Str)} {xs:List V},nt G H ds xs->AL ds=some ks->∃L:List (List Str×Addr),xs=L.map (λq=>V.ref q.2)/\ks=L.map bG/\∀q∈L,∃p r,q.1=[p,r]/\SqT G.K H q.2 [.str p,.str r]
 |[],ks,xs,r,e=>by cases e;unfold nt at r;subst r;exact⟨[],rfl,rfl,λq hq=>by cases hq⟩
 |d::ds,ks,xs,r,e=>by
  unfold AL at e;cases e1:key2 d with
  |none=>rw[e1]at e;cases e
  |some k=>
   cases e2:AL ds with
   |none=>rw[e1,e2]at e;cases e
   |some ks'=>
    rw[e1,e2]at e;cases e;unfold nt at r;obtain⟨v,r',rfl,q1,q2⟩:=r;obtain⟨L,rfl,rfl,h3⟩:=EV q2 e2;obtain⟨a,p,q,rfl,rfl,h1⟩:=IG q1 e1;refine⟨([p,q],a)::L,rfl,rfl,λz hz=>?_⟩;rcases aO.mp hz with rfl|hz
    ·exact⟨p,q,rfl,h1⟩
    ·exact h3 z hz
end
noncomputable abbrev cS(s:Str):FE:=cC (.str s)
noncomputable abbrev a1(e:FE):FA:=aCons e oe
section
variable{X:Cx}{G:Bg}{H:Hp}{pins:List (Addr×Obj)}{σ:St}{s:ae}
def QV(K:aj)(H:Hp)(a:Addr)(n:Nat):Prop:=NH K H a n\/
 ∃L:List (List Str×Addr),SqL K H a (L.map λq=>V.ref q.2)/\L.length<=8/\(L.map bG).Nodup/\(∀q∈L,∃p r,q.1=[p,r]/\SqT K H q.2 [.str p,.str r])/\n=L.length
theorem QW:NI X QV:=by
 intro pins σ H s A E Q a n I hh hu hq h;rcases hq with hq|⟨L,h1,h8,nd,ht,rfl⟩
 ·exact QH I hh hu hq h
 ·refine RU I hh hu h1 h8 nd ht λh2 k2 o es ep t x kk=>h h2 k2 ⟨o,es,ep,t,x.at_,x.ex,x.d,?_,x.fits (ag _),x.sz.trans (ag _)⟩ kk;rw[x.sz,ag];unfold scanBound;omega
def BJ(ds:List D):Option D:=match AL ds with
 |some ks=>if ks.Nodup/\ds.length<=8 then some (.int ds.length)else none
 |none=>none
theorem Gi(hK:X.K=G.K):∀{ds d H1 H1' a xs},BJ ds=some d->SqL X.K H1' a xs->nt G H1 ds xs->nz H1 H1'->∃n:Nat,QV X.K H1' a n/\d=.int n:=λ{ds d H1 H1' a xs} e hq h2 s=>by
 unfold BJ at e;cases e2:AL ds with
 |none=>simp only[e2]at e;cases e
 |some ks=>
  simp only[e2]at e;split at e
  ·rename_i hc;cases e;obtain⟨L,rfl,rfl,h3⟩:=EV h2 e2;have hl:=nu h2;rw[ag]at hl;refine⟨_,.inr ⟨L,hq,by omega,hc.1,λq hq=>?_,hl⟩,rfl⟩;obtain⟨p,r,e,h4⟩:=h3 q hq;rw[<-hK]at h4;exact⟨p,r,e,SqT.mono s h4⟩
  ·cases e
end
section
variable{X:Cx}{B:Bz}{k:Nat}{e:Expr}{f:FE}{p p2 p3 pos:Pos}
theorem Pa [C:Cz X B k][N:Nb B "len"][N':Nb B "set"](hs:S1 X e)(hg:Gz X "len")(hg':Gz X "set")(ha:ZE X B e f)(z:aq [Expr.Call (.Name "set" p2) [e] [] p3] X.env=[(false,eval (.Call (.Name "set" p2) [e] [] p3) X.env)]):ZE X B (.Call (.Name "len" p) [.Call (.Name "set" p2) [e] [] p3] [] pos) (c1 (w5 BJ) f):=⟨DY C.K .inl (Gi C.K) (Gb QW C.r.units C.c hg (C.mg▸N.p) hg' (C.mg▸N'.p) ha.p z hs)⟩
end
section
variable{X:Cx}{G:Bg}{C:Addr}{x:Str}{p pos:Pos}{e:Expr}{c:Nat}
structure Mk0(K:aj)(C:Addr):Prop where
 makes:makesIn K C=true
 init:findIn K (.ref C) "__init__" = some (some (.builtin "object.__init__"))
 kp:keepIn K (.ref C)=true
theorem Gj(M:Mk0 X.K C)(hg:Gl X x)(hm:X.mg x=some (.ref C))(hdb:(x==("__debug__" : Str))=false):PE X (.Call (.Name x p) [] [] pos) (λσ H Q=>∀y dx,H y=none->H dx=none->dx≠y->Q (.ref y) (upd (upd H dx (.own y)) y (.ins C dx []))):=by
 intro pins s σ H Q I h;refine cG (sL I hg hm ?_ hdb);refine ik I.kIn M.kp ?_;have hq:=h (s.heap.objs.size+1) s.heap.objs.size (I.hok.fresh (eW _)) (I.hok.fresh (aE _)) (aP (dq _));have I2:=Inv.made (C:=C) I;have Y:=iR (M:=model X.prog X.w) I.kIn M.makes;refine eX (Fy I.kIn M.makes M.init (λself=>Looks.of_pure (oi_bind self)) ?_);have e2:((s.heap.push emptyDict).push (instObj C s.heap.objs.size)).get? (s.heap.objs.size+1)=some (instObj C s.heap.objs.size):=by rw[<-dv s.heap emptyDict];exact bf _ rfl
 have t2:Looks (model X.prog X.w) ((s.heap.push emptyDict).push (instObj C s.heap.objs.size)) (isInstance (.ref (s.heap.objs.size+1)) (.type "object")) true:=
  ((Looks.ld e2).andThen .now:Looks (model X.prog X.w) _ (typeOf (.ref (s.heap.objs.size+1))) (.ref C)).andThen (Y.top.keeps λb o e=>aJ _ (aJ _ e))
 refine jn oi_plain entry_oi (check_slot oi_kind oi_split t2 (oi_args _) ?_);rw[oi_run];exact aA (And.intro rfl ⟨V.ref (s.heap.objs.size+1),_,I2,rfl,hq⟩)
def yW(c:Nat):FE:=λρ=>some (.obj c [] [],ρ)
theorem Gk(h:PE X e (λσ H Q=>∀y dx,H y=none->H dx=none->dx≠y->Q (.ref y) (upd (upd H dx (.own y)) y (.ins (G.ca c) dx [])))):PE X e (tF G (yW c)):=PE.weak h λσ H Q hh=>by
 obtain⟨F,ρ,H0,d,ρ',R,e,k⟩:=hh;cases e;intro x dx hx hdx ne;have hx2:(upd H dx (.own x)) x=none:=by rw[ny (λz=>ne z.symm)];exact hx
 have sx:nz H (upd (upd H dx (.own x)) x (.ins (G.ca c) dx [])):=(nI hdx _).trans (nI hx2 _);have R2:=R.grow sx (λ_ _ e=>e) (R.sub.trans sx) (λb o e=>.inl e);have h0:=R.h0none hx;have R3:=R2.freeze nv h0 (R.bNone hx) (λi t ei to z=>R.apart hx i t ei to z);refine k _ _ _ (nI h0 _) R3 ?_;unfold Rep;exact⟨x,dx,[],rfl,nv,rfl,nY⟩
end
section
variable{X:Cx}{B:Bz}{k:Nat}{p pos:Pos}{x:Str}{c:Nat}
class K0f(B:Bz)(x:Str)(c:Nat):Prop where p:Mk0 B.G.K (B.G.ca c)/\B.mg x=some (.ref (B.G.ca c))
theorem Pb [C:Cz X B k][Q:K0f B x c](hg:Gz X x)(hd:(x==("__debug__" : Str))=false):ZE X B (.Call (.Name x p) [] [] pos) (yW c):=⟨Gk (Gj (by rw[C.K];exact Q.p.1) hg (by rw[C.mg];exact Q.p.2) hd)⟩
end
end L4
namespace L4
open PySem PySem.Spec PyProof.Rows L2 L3
section
variable{X:Cx}{B:Bz}{k j i m:Nat}{x:Str}{e e':Expr}{es:List Expr}{d:D}{p pos:Pos}{g:D->D->Option D}
theorem QX{l:List Stmt}:ZB X B l QD:=⟨λpins s σ H D I h=>by
 obtain⟨F,ρ,H0,o,R,e,_⟩:=h;cases e⟩
end
mutual
def zM:D->Bool
 |.non=>true
 |.bl _=>true
 |.int _=>true
 |.str _=>true
 |.tup ds=>zN ds
 |.lst ds=>zN ds
 |_=>false
def zN:List D->Bool
 |[]=>true
 |d::ds=>zM d&&zN ds
end
mutual
theorem Rep.but{G:Bg}{H H1:Hp}(e:∀b o,H b=some o->(∀u kvs,o≠HO.frz u (.dK kvs))->H1 b=some o):∀(d:D) (v:V),zM d=true->Rep G H d v->Rep G H1 d v
 |.non,v,_,h=>by unfold Rep at h ⊢;exact h
 |.bl b,v,_,h=>by unfold Rep at h ⊢;exact h
 |.int i,v,_,h=>by unfold Rep at h ⊢;exact h
 |.str x,v,_,h=>by unfold Rep at h ⊢;exact h
 |.tup ds,v,n,h=>by
  unfold Rep at h ⊢;unfold zM at n;obtain⟨a,xs,rfl,h1,h2⟩:=h;refine⟨a,xs,rfl,?_,nt.but e ds xs n h2⟩;rcases h1 with (h|⟨o,h⟩)|h
  ·exact .inl (.inl (e _ _ h λ_ _ z=>nomatch z))
  ·exact .inl (.inr ⟨o,e _ _ h λ_ _ z=>nomatch z⟩)
  ·exact .inr h
 |.lst ds,v,n,h=>by unfold Rep at h ⊢;unfold zM at n;obtain⟨a,xs,rfl,h1,h2⟩:=h;exact⟨a,xs,rfl,e _ _ h1 (λ_ _ z=>nomatch z),nt.but e ds xs n h2⟩
 |.fzl ds,v,n,h=>by unfold zM at n;cases n
 |.obj c ns ds,v,n,h=>by unfold zM at n;cases n
 |.dic ks ds,v,n,h=>by unfold zM at n;cases n
theorem nt.but{G:Bg}{H H1:Hp}(e:∀b o,H b=some o->(∀u kvs,o≠HO.frz u (.dK kvs))->H1 b=some o):∀(ds:List D) (xs:List V),zN ds=true->nt G H ds xs->nt G H1 ds xs
 |[],xs,_,h=>by unfold nt at h ⊢;exact h
 |d::ds,xs,n,h=>by unfold nt at h ⊢;unfold zN at n;rw[az]at n;obtain⟨v,r,rfl,h1,h2⟩:=h;exact⟨v,r,rfl,Rep.but e d v n.1 h1,nt.but e ds r n.2 h2⟩
end
section
variable{t:bF}{m n:Nat}
def tM(m:Nat):bF:=⟨m,#[],#[],0,false,0,false⟩
def Wy(m:Nat)(O:Nat->Prop)(j:Nat):Nat->cY->Prop
 |0,_=>False
 |f+1,p=>p.j=j\/(O p.j/\Wy m O j f ((tM m).advance p))
end
end L4
namespace L4
open PySem PySem.Spec PySem.Calls PyProof.Rows PySem.W L2 L3
variable{a:Addr}
section
variable{prog:au}{w:ao}{A:av}{E:aa->ae->Prop}{s:ae}
theorem Gm{Q:Int->ae->Prop}(h:Q 0xFCA86420 { s with toks:=s.toks+1 }):af (model prog w) A (pyHash .none) Q E s:=by
 show af _ _ (pyHashByItsType .none) Q E s;unfold pyHashByItsType;refine ar ?_;rw[cRoomFor,ai (by rw[show [Value.none].any Value.onHeap=false from rfl];exact aT)];refine aA ?_;refine ar (fN (fZ s) fG.lookup ?_);show af _ _ (if (some (Value.builtin "NoneType.__hash__")==some Value.none)=true then _ else _) Q E s;rw[ai (by rw[beq_builtin_none];exact aT)];refine ar (fN (fZ s) fG.lookup ?_);show af _ _ (callSpecialIfBoundUnlessNone? .none "__hash__" _>>=_) Q E s;refine ar (wpAny_callSpecialIfBoundUnlessNone?_slot (fZ s) fG
  (wpAny_call_entry fG (fZ s) F.entry_NoneType_hash
   (show af _ _ (do ret (<-mkInt 0xFCA86420)) _ _ s from wpAny_ret_mkInt ?_) (F.args_NoneType_hash_1 _)))
 exact aA h
theorem Ld{Q:Bool->ae->Prop}(h:Q true s):af (model prog w) A (eqBool .none .none) Q E s:=by unfold eqBool;refine cq ?_;rw[ah (show (Value.none==Value.none)=true from rfl)];exact ar (wpAny_rule (aA h))
def oIs:Option Key->aa->Bool
 |none,.none=>true
 |none,_=>false
 |some k,v=>zb k v
theorem sj{k:Option Key}{v:aa}(h:oIs k v=true):(k=none/\v=.none)\/(∃i t,k=some (Sum.inl i)/\v=Value.int i t)\/∃x t,k=some (Sum.inr x)/\v=Value.str x t:=by
 cases k with
 |none=>cases v<;>first|exact .inl ⟨rfl,rfl⟩|cases h
 |some k=>
  rcases oE (k:=k) h with ⟨i,t,rfl,rfl⟩|⟨x,t,rfl,rfl⟩
  ·exact .inr (.inl ⟨i,t,rfl,rfl⟩)
  ·exact .inr (.inr ⟨x,t,rfl,rfl⟩)
def optKind(prog:au)(w:ao):kz prog w (Option Key) where
 is:=oIs
 hash:=λk=>match k with|none=>0xFCA86420|some k=>Pz w k
 inj:=λv a b ha hb=>by rcases sj ha with ⟨rfl,rfl⟩|⟨i,t,rfl,rfl⟩|⟨x,t,rfl,rfl⟩<;>rcases sj hb with ⟨rfl,e⟩|⟨j,u,rfl,e⟩|⟨y,u,rfl,e⟩<;>first|rfl|(cases e;rfl)|cases e
 byValue:=λk v h=>by rcases sj h with ⟨rfl,rfl⟩|⟨i,t,rfl,rfl⟩|⟨x,t,rfl,rfl⟩<;>rfl
 pyHash:=λ{A E s k v Q} hv h=>by
  cases k with
  |some k=>exact(nL prog w).pyHash (k:=k) hv h
  |none=>
   rcases sj hv with ⟨_,rfl⟩|⟨i,t,e,_⟩|⟨x,t,e,_⟩
   ·exact Gm h
   ·cases e
   ·cases e
 eqBool:=λ{A E s a b u v Q} hu hv h=>by
  rcases sj hu with ⟨rfl,rfl⟩|⟨i,t,rfl,rfl⟩|⟨x,t,rfl,rfl⟩<;>rcases sj hv with ⟨rfl,rfl⟩|⟨j,u,rfl,rfl⟩|⟨y,u,rfl,rfl⟩
  ·exact Ld h
  ·exact js j u _ _ _ _ h
  ·exact jt y u _ _ _ _ h
  ·exact ju i t _ _ _ _ h
  ·exact(nL prog w).eqBool (a:=Sum.inl i) (b:=Sum.inl j) hu hv (by simpa using h)
  ·exact(nL prog w).eqBool (a:=Sum.inl i) (b:=Sum.inr y) hu hv (by simpa using h)
  ·exact jv x t _ _ _ _ h
  ·exact(nL prog w).eqBool (a:=Sum.inr x) (b:=Sum.inl j) hu hv (by simpa using h)
  ·exact(nL prog w).eqBool (a:=Sum.inr x) (b:=Sum.inr y) hu hv (by simpa using h)
 «strs»:=λk x t v h=>by
  cases k with
  |none=>cases h
  |some k=>exact(nL prog w).strs k x t v h
theorem Le{h:Heap}{f:Key->Option aa}(m:h.MapOf (nL prog w) a f):h.MapOf (optKind prog w) a (λk=>match k with|none=>none|some k=>f k):=by
 obtain⟨o,es,ep,h1,h2,h3,h4,h5⟩:=m;refine⟨o,es,ep,h1,h2,h3,λe he=>?_,λk=>?_⟩
 ·obtain⟨k,k1,k2⟩:=h4 e he;exact⟨some k,k1,k2⟩
 ·cases k with
  |some k=>exact h5 k
  |none=>
   unfold findBy;rw[Array.find?_eq_none.mpr λe he=>?_]
   ·rfl
   ·obtain⟨k,k1,_⟩:=h4 e he;rcases oE k1 with ⟨i,t,_,e1⟩|⟨x,t,_,e1⟩<;>(rw[e1];exact aT)
end
variable{e:Expr}{apos cpos:Pos}{f f':FE}
section
variable{X:Cx}{G:Bg}{H:Hp}{pins:List (Addr×Obj)}{σ:St}{s:ae}
theorem Pc{A:av}{E:aa->ae->Prop}{Q:aa->ae->Prop}{kvs:List (Key×V)}(I:Inv X pins σ H s)(e:Rd H a (.dK kvs))(h:∀s',Inv X pins σ H s'->Q .none s'):af (model X.prog X.w) A (call (.builtin "dict.get") [.ref a,.none]) Q E s:=by obtain⟨z,hd,vs,rel,dd⟩:=zh I.hok e;exact fV eU dd.typeIs gY (gO _ _) (kj (optKind X.prog X.w) a (k:=none) rfl hd) ⟨_,Le dd.mapOf,h _ (I.tok _)⟩
def Pd(td ty:TE):TE:=λσ H Q=>td σ H λx H1=>∃a,x=.ref a/\IsD H1 a/\ty σ H1 λy H2=>(∃o,DGet H2 a y o/\Q (o.getD .non) H2)\/(y=.non/\(∃kvs,Rd H2 a (.dK kvs))/\Q .non H2)
theorem IP{o:Expr}{td ty:TE}(hu:X.A.units+1<cLine)(ho:PE X o td)(he:PE X e ty)(m:M1 X o "get" apos e cpos):PE X (.Call (.Attribute o "get" apos) [e] [] cpos) (Pd td ty):=by
 intro pins s σ H Q I h;refine gQ m.base m.few m.line gS eU j4 (thn (ho pins s σ H _ I h) λu s1 hh=>?_);obtain⟨x,H1,I1,rx,a,ex,d,q1⟩:=hh;subst ex;obtain rfl:u=Value.ref a:=rx;obtain⟨t1,t2,_⟩:=DE I1 d;refine⟨t1,t2,?_⟩;rw[m.trees];refine fC rfl (eh (dJ (thn (he pins s1 σ H1 _ I1 q1) λiv s2 hh=>eG ?_)));obtain⟨y,H2,I2,ry,⟨ov,g,q2⟩|⟨rfl,⟨kvs,e⟩,q2⟩⟩:=hh
 ·exact G5 hu I2 g ry λw' s3 I3 rw'=>⟨_,H2,I3,rw',q2⟩
 ·obtain rfl:iv=.none:=ry;exact Pc I2 e λs3 I3=>⟨.non,H2,I3,rfl,q2⟩
def CY:D->D->Option D:=λx y=>match y with
 |.non=>match x with
  |.dic _ _=>some .non
  |_=>none
 |y=>vX x y
theorem IQ{a b:Expr}(hu:X.A.units+1<cLine)(ha:PE X a (tF G f))(hb:PE X b (tF G f'))(m:M1 X a "get" apos b cpos):PE X (.Call (.Attribute a "get" apos) [b] [] cpos) (tF G (c2 CY f f')):=PE.weak (IP hu ha hb m) λσ H Q hh=>by
 obtain⟨F,ρ,H0,d,ρ',R,e,k⟩:=hh;obtain⟨x,y,ρ1,e1,e2,e3⟩:=wO e;cases x with
 |dic ks ds=>
  refine⟨F,ρ,H0,_,ρ1,R,e1,λv H1 H1' s1 R1 r1=>?_⟩;have r1':=r1;unfold Rep at r1';obtain⟨p,ob,xs,rfl,h1,h2,h3⟩:=r1';refine⟨p,rfl,.inl ⟨_,.inr ⟨_,R1.sub _ _ h1⟩⟩,F,ρ1,H1,y,ρ',R1,e2,λu H2 H2' s2 R2 r2=>?_⟩;by_cases hy:y=.non
  ·subst hy;cases e3;unfold Rep at r2;subst r2;exact .inr ⟨rfl,⟨_,.inr ⟨_,R2.sub _ _ (s2 _ _ h1)⟩⟩,k _ H2 H2' (s1.trans s2) R2 sO⟩
  ·left;have e3:vX (.dic ks ds) y=some d:=by
    unfold CY at e3;split at e3
    ·exact ak rfl hy
    ·exact e3
   unfold vX at e3;cases ek:uX y with
   |none=>simp only[ek]at e3;cases e3
   |some j=>
    simp only[ek]at e3;cases e3;have lv:=wY (ks:=ks) j (nt.mono s2 _ _ h3) h2;refine⟨rj (ks.zip xs) j,?_,?_⟩
    ·rw[vK r2 ek];exact DGet.kf (R2.sub _ _ (s2 _ _ h1))
    ·cases el:qS ks ds j with
     |none=>rw[el]at lv k;rw[lv];exact k _ H2 H2' (s1.trans s2) R2 sO
     |some z=>rw[el]at lv k;obtain⟨w,w1,w2⟩:=lv;rw[w1];exact k _ H2 H2' (s1.trans s2) R2 w2
 |_=>
  unfold CY at e3;split at e3
  ·cases e3
  ·unfold vX at e3;cases e3
end
section
variable{X:Cx}{B:Bz}{k:Nat}{e e':Expr}{f f':FE}{apos pos:Pos}
theorem Pe [C:Cz X B k](ha:ZE X B e f)(hb:ZE X B e' f')(h1:Az X e "get")(h2:Ez apos pos)(h3:S1 X e'):ZE X B (.Call (.Attribute e "get" apos) [e'] [] pos) (c2 CY f f'):=⟨IQ (Eu C.r) ha.p hb.p ⟨h1,by rw[h3];rfl,h2,by rw[h3];rfl⟩⟩
end
section
variable{X:Cx}{G:Bg}
def dStrI:D->Option D
 |.int i=>if i.natAbs.log2<1920 then some (.str (toString i))else none
 |_=>none
theorem pf_b2{r:List V->Hp->VK->Prop}{g:Int->Int->Int}(hr:∀i j H Q,Q (.int (g i j)) H->r [.int i,.int j] H Q)(h:PE X e (tCB r (tFA G (aCons f (aCons f' oe))))):PE X e (tF G (c2 (λx y=>match x,y with|.int i,.int j=>some (.int (g i j))|_,_=>none) f f')):=PE.weak h λσ H Q hh=>by
 obtain⟨F,ρ,H0,d,ρ',R,e,k⟩:=hh;obtain⟨x,y,ρ1,e1,e2,e3⟩:=wO e;split at e3
 ·cases e3;rename_i i j;refine⟨F,ρ,H0,[.int i,.int j],ρ',R,by unfold aCons;rw[e1];simp only[e2];rfl,λys H1 H1' s R' rs=>?_⟩;unfold nt at rs;obtain⟨v,r0,rfl,rv,rn⟩:=rs;unfold nt at rn;obtain⟨v',r1,rfl,rv',rn'⟩:=rn;unfold nt at rn';subst rn';unfold Rep at rv rv';subst rv rv';exact hr i j _ _ (k _ _ _ s R' (pJ _))
 ·cases e3
def dMax2:D->D->Option D:=λx y=>match x,y with|.int i,.int j=>some (.int (if j > i then j else i))|_,_=>none
def dMin2:D->D->Option D:=λx y=>match x,y with|.int i,.int j=>some (.int (if j<i then j else i))|_,_=>none
def iR2(f f':FE):FA:=λρ=>match f ρ with
 |some (.int i,ρ1)=>match f' ρ1 with
  |some (.int j,ρ2)=>if (-1000000<=i/\i<=1000000)/\-1000000<=j/\j<=1000000 then some (wx i (j - i).toNat,ρ2)else none
  |_=>none
 |_=>none
theorem pfi_range2{tg:Expr}(h:PI X tg e (LB (tFA G (aCons f (aCons f' oe))))):PI X tg e (tFI G (iR2 f f')):=PI.weak h λσ H R hh=>by
 obtain⟨F,ρ,H0,ds,ρ',R,e,k⟩:=hh;unfold iR2 at e;split at e
 ·rename_i i ρ1 e1;split at e
  ·rename_i j ρ2 e2;split at e
   ·rename_i hn;cases e;refine⟨F,ρ,H0,[.int i,.int j],_,R,by unfold aCons;rw[e1];simp only[e2];rfl,λxs H1 H1' s R' rs=>?_⟩;unfold nt at rs;obtain⟨v,r0,rfl,rv,rn⟩:=rs;unfold nt at rn;obtain⟨v',r1,rfl,rv',rn'⟩:=rn;unfold nt at rn';subst rn';unfold Rep at rv rv';subst rv rv';refine⟨i,j,rfl,⟨by omega,by omega,by omega,by omega⟩,?_⟩;exact k _ _ _ s R' Cs
   ·cases e
  ·cases e
 ·cases e
end
section
variable{X:Cx}{B:Bz}{k:Nat}{e e' tg:Expr}{f f':FE}{p p2 p3 pos apos:Pos}
theorem zr_mxI [C:Cz X B k][N:Nb B "max"](hg:Gz X "max")(hs:aq [e,e'] X.env=[(false,eval e X.env),(false,eval e' X.env)])(hs':S1 X e')(ha:ZE X B e f)(hb:ZE X B e' f'):ZE X B (.Call (.Name "max" p) [e,e'] [] pos) (c2 dMax2 f f'):=
 ⟨pf_b2 (g:=λi j=>if j > i then j else i) (λi j H Q q=>⟨i,j,rfl,q⟩) (tU (Ft C.c) hg (C.mg▸N.p) boot_max (pT ha.p (pT hb.p rY hs') (by rw[hs,hs'])) (by decide) (by decide) (by rw[hs,hs']) (by rw[hs'];rfl))⟩
theorem zr_mnI [C:Cz X B k][N:Nb B "min"](hg:Gz X "min")(hs:aq [e,e'] X.env=[(false,eval e X.env),(false,eval e' X.env)])(hs':S1 X e')(ha:ZE X B e f)(hb:ZE X B e' f'):ZE X B (.Call (.Name "min" p) [e,e'] [] pos) (c2 dMin2 f f'):=
 ⟨pf_b2 (g:=λi j=>if j<i then j else i) (λi j H Q q=>⟨i,j,rfl,q⟩) (tU (Fu C.c) hg (C.mg▸N.p) boot_min (pT ha.p (pT hb.p rY hs') (by rw[hs,hs'])) (by decide) (by decide) (by rw[hs,hs']) (by rw[hs'];rfl))⟩
theorem zr_r2I [C:Cz X B k][N:Nb B "range"](hg:Gz X "range")(hs:aq [e,e'] X.env=[(false,eval e X.env),(false,eval e' X.env)])(hs':S1 X e')(ha:ZE X B e f)(hb:ZE X B e' f'):ZI X B tg (.Call (.Name "range" p) [e,e'] [] pos) (iR2 f f'):=⟨pfi_range2 (Fq hg (C.mg▸N.p) (pT ha.p (pT hb.p rY hs') (by rw[hs,hs'])) hs hs')⟩
end
def tOr(t t':Ty->Option Bool):Ty->Option Bool:=λy=>match t y with
 |some true=>match t' y with
  |some _=>some true
  |none=>none
 |some false=>t' y
 |none=>none
variable{t t':Ty->Option Bool}
theorem inst_or{G:Bg}{c c':Nat}(h:zD G c t)(h':zD G c' t'):EJ G [c,c'] (tOr t t'):=by
 refine⟨λy b e=>?_,λj b e=>?_⟩
 ·unfold tOr at e;show kitAny G.K (y.val G) [.ref (G.ca c),.ref (G.ca c')]=some b;unfold kitAny;cases e1:t y with
  |none=>simp only[e1]at e;cases e
  |some v=>
   simp only[e1]at e;rw[h.1 y v e1];cases v with
   |true=>
    cases e2:t' y with
    |none=>simp only[e2]at e;cases e
    |some w=>simp only[e2]at e;cases e;rfl
   |false=>simp only at e;unfold kitAny;simp only;rw[h'.1 y b e];cases b<;>rfl
 ·unfold tOr at e;cases e1:t (.c j)with
  |none=>simp only[e1]at e;cases e
  |some v=>exact h.2 j v e1
section
variable{X:Cx}{B:Bz}{k:Nat}{e:Expr}{f:FE}{p p2 p3 p4 pos:Pos}{x y:Str}
theorem zr_i2I{z1}[Q:Ic B x t][Q':Ic B y t'][C:Cz X B k][N:Nb B "isinstance"](hi:Gz X "isinstance")(hg:Gz X x)(hg':Gz X y)(hs:aq [e,.Tuple [.Name x p2,.Name y p3] z1 p4] X.env=[(false,eval e X.env),(false,eval (.Tuple [.Name x p2,.Name y p3] z1 p4) X.env)])(hs':S1 X (.Tuple [.Name x p2,.Name y p3] z1 p4))(hs2:aq [.Name x p2,.Name y p3] X.env=[(false,eval (.Name x p2) X.env),(false,eval (.Name y p3) X.env)])(hs3:S1 X (.Name y p3))(ha:ZE X B e f)(hd:Dz x)(hd':Dz y):ZE X B (.Call (.Name "isinstance" p) [e,.Tuple [.Name x p2,.Name y p3] z1 p4] [] pos) (c1 (nZ (tOr t t')) f):=by
 obtain⟨c,q1,q2⟩:=Q.p;obtain⟨c',r1,r2⟩:=Q'.p;refine⟨Ii (cs:=[c,c']) (tU (DW (inst_or q1 r1) C.K) hi (C.mg▸N.p) hX (pW ha.p (pW (GV (pW (yX (v:=.ref (B.G.ca c)) hg (C.mg▸q2) rfl hd) (pW (yX (v:=.ref (B.G.ca c')) hg' (C.mg▸r2) rfl hd') tu hs3) ?_)) tu hs') ?_) (by decide) (by decide) ?_ ?_) (by show 2<=1000;decide)⟩
 ·rw[hs2,hs3]
 ·rw[hs,hs']
 ·rw[hs,hs']
 ·rw[hs'];rfl
end
section
variable{X:Cx}{B:Bz}{k i:Nat}{e:Expr}{f:FE}{a:FA}{x:Str}{p p2 p3 pos apos:Pos}
theorem zr_xsI{j:Int}{jj}(h:sees X i x=true)(he:ZE X B e f)(hs:swapsWithSole [.Subscript (.Name x p) (.Constant (.int j) jj p2) p3] e pos.line X.env=pure false)(hw:swappedStores [.Subscript (.Name x p) (.Constant (.int j) jj p2) p3] e X.env=pure none)
  (h1:(bR [.Subscript (.Name x p) (.Constant (.int j) jj p2) p3] X.env).map (·.2)=[assign (.Subscript (.Name x p) (.Constant (.int j) jj p2) p3) X.env]):ZS X B (.Assign [.Subscript (.Name x p) (.Constant (.int j) jj p2) p3] e pos) (tE i j f):=⟨F7 (GH he.p (Mn (pvI h) Gy set_list) hs hw h1)⟩
theorem zr_xeI [C:Cz X B k](h:sees X i x=true)(hb:Az X (.Name x p) "extend")(hl:Ez apos pos)(hs:S1 X e)(ha:ZN X B e a):ZE X B (.Call (.Attribute (.Name x p) "extend" apos) [e] [] pos) (Kt i a):=
 ⟨F0 (bmI hb hl hs fL fJ jJ FJ (pvI h) (pW ha.p tu hs))⟩
end
section
variable{B:Bz}[Y:Yb B]{k np n:Nat}{b:FS}{x p:Str}{ps:List Str}{st s0:Stmt}{l:List Stmt}
theorem gM5(N:List Str){g:List D->List D->Option (D×List D)}(hg:g=fnM np n b)(q:GD B.G.K x st)(hl:nV st=s0::l)(hp:psO st=p::ps)(body:Bdz B N x st (s0::l) k b)(S:okO N (p::ps) st (np+1) n=true:=by kernel_rfl)(bd:Bds x x st (p::ps):=by (repeat intro _);rfl):Df B (k+1) x (spM B.G g):=
 ⟨_,gM hg Y.y q (okk S).1 (body.ok hl) (dZ (okk S).2.1) (okk S).2.2 bd⟩
end
end L4
namespace L2
open PySem PySem.Spec PyProof.Rows PySem.W
abbrev vErr:List aa:=[.type "ValueError", .type "Exception", .type "BaseException", .type "object"]
def XC(K:aj)(C:Addr):Prop:=excIn K C vErr "ValueError.__new__" = true
theorem XC.obj{K:aj}{C:Addr}{h:Heap}(q:XC K C)(i:K.In h):OwnCls "x" C vErr "ValueError.__new__" (λ_=>some (.ref C)) h:=by
 refine⟨rfl,?_⟩;have q':excIn K C vErr "ValueError.__new__" = true:=q;unfold excIn at q';split at q'
 ·rename_i di dt sl lk;split at q'
  ·rename_i Cc tl a0 a1 a2 a3 nw a5 em es;simp only[az,beq_iff_eq,cm]at q';obtain⟨⟨⟨⟨⟨h1,h2⟩,h3⟩,h4⟩,h5⟩,h6⟩:=q';cases dt with
   |mk nm bs mro ns qn hd sn sub ab col del=>cases h1;cases h2;have em':mro=_:=em;have hd':del=false:=h3;cases em';cases hd';obtain⟨ll⟩:=sl;have es':ll=_:=es;cases es';exact⟨tl,ns,nm,qn,bs,hd,sn,sub,ab,col,di,a0,a1,a2,a3,a5,_,i _ _ lk,.of_isNs (isNs_of_in i h5),nsMap_none_of_in i h5 h6,tail_of_in i h4⟩
  ·cases q'
 ·cases q'
structure Fly(P:au)(w:ao)(C:Addr)(l:List Env)(H:Hp)(s:ae)(H':Hp)(a:Addr)(s':ae):Prop where
 ex:∃(B:Heap) (a0:aa),kP B l a (.ref C) a0 s'.heap/\HOk P w H' B/\∀b o,s.heap.get? b=some o->b∉frs l->∃o',B.get? b=some o'
 os:s'.os=s.os
 bare:cD s'.gens
 un:Un (frs l) [] H H' s.heap s'.heap
def CXW(P:au)(w:ao)(C:Addr):CXT:=λl H s E e s'=>∃a H',e=.ref a/\Fly P w C l H s H' a s'/\E e none H'
theorem un_step{l:List Env}{H H':Hp}{h h1 h2 B:Heap}(kb:∀b o,h.get? b=some o->b∉frs l->∃o',B.get? b=some o')(st:B.StaysIn h1)(st2:B.StaysIn h2)(ff:h1.FunFrames B l)(up:h1.UpToSlots h2)(u:Un (frs l) [] H H' h h1):Un (frs l) [] H H' h h2 where
 keep:=λb o q n hb hx=>by obtain⟨o',e⟩:=kb b o q hb;have e1:=u.keep b o q n hb hx;have e2:=st b o' e;rw[e1]at e2;cases e2;exact st2 b _ e
 slot:=λb o q n hb hx=>by obtain⟨sl,e1⟩:=u.slot b o q n hb hx;obtain⟨_,o1,e2,d⟩:=ff.mem hb;rw[e1]at e2;cases e2;obtain⟨sl',e3⟩:=up b _ e1 d;exact⟨sl',e3⟩
 free:=u.free
 there:=λb o q hx=>by
  by_cases hb:b∈frs l
  ·obtain⟨_,o1,e2,d⟩:=ff.mem hb;obtain⟨sl',e3⟩:=up b _ e2 d;exact⟨_,e3⟩
  ·obtain⟨o',e⟩:=kb b o q hb;exact⟨o',st2 b _ e⟩
 tups:=u.tups
 frzs:=u.frzs
 tbls:=u.tbls
variable{pins:List (Addr×Obj)}{σ:St}{H1:Hp}{s1:ae}
section
variable{P:au}{w:ao}{K:aj}{mg:Str->Option aa}{base:Heap}{N:List Str}{qual:Str}{scope:bM}{f C:Addr}{cd:aa}{A:av}{outer:List Env}{s:ae}{H:Hp}{E:XK}
abbrev cxW(C:Addr)(P:au)(w:ao)(K:aj)(mg:Str->Option aa)(base:Heap)(N:List Str)(qual:Str)(scope:bM)(f:Addr)(cd:aa)(A:av)(outer:List Env)(s:ae)(H:Hp)(E:XK):Cx:=Bh (CXW P w C) P w K mg base N qual scope f cd A outer s H E
theorem kb_out{B:Heap}(I:Inv (cxW C P w K mg base N qual scope f cd A outer s H E) pins σ H1 s1)(kb:∀b o,s1.heap.get? b=some o->b∉frs (cxW C P w K mg base N qual scope f cd A outer s H E).stack->∃o',B.get? b=some o'):
  ∀b o,s.heap.get? b=some o->b∉frs outer->∃o',B.get? b=some o':=λb o q hb=>by
 obtain⟨o1,e1⟩:=I.base.there b o q (λz=>nomatch z);refine kb b o1 e1 λhm=>?_;rcases aO.mp (I.stkSub b hm)with z|z
 ·exact ak (bB (aH q) I.ok.above) (by rw[z];exact dw _)
 ·exact hb z
theorem pass_body:Passes (CXW P w C) (cxW C P w K mg base N qual scope f cd A outer s H E) (λ_ _ H'=>∀e,E e none H'):=λpins σ H1 s1 e s' I h=>by obtain⟨a,H',rfl,fl,z⟩:=h;obtain⟨B,a0,hf,hok,kb⟩:=fl.ex;refine wpAny_leaves_onW I.ok.frames rfl hf λh2 hf2 up=>?_;have u:=un_step kb hf.1 hf2.1 hf.2.2.1 up fl.un;have J:=I.call' (s':={ s' with heap:=h2 }) (ch:=[]) fl.os u (hok.kept hf2.1) fl.bare λ_ z=>nomatch z;exact⟨a,H',rfl,⟨⟨B,a0,hf2,hok,kb_out I kb⟩,J.os,J.bare,J.base⟩,z _⟩
theorem made_body{a:Addr}{vs:List aa}{h':Heap}(I:Inv (cxW C P w K mg base N qual scope f cd A outer s H E) pins σ H1 s1)(hx:kx s1.heap h' a (.ref C) vs)(z:∀e,E e none H1):
  (cxW C P w K mg base N qual scope f cd A outer s H E).xe (.ref a) { s1 with heap:=h' }:=by
 have hin:∀env∈(cxW C P w K mg base N qual scope f cd A outer s H E).stack,∀b,env.frame=some b->b∈frs (cxW C P w K mg base N qual scope f cd A outer s H E).stack:=λenv he b hb=>fI.mpr ⟨env,he,hb⟩;have ff:=funFrames_hide I.stack hin;have kb:∀b o,s1.heap.get? b=some o->b∉frs (cxW C P w K mg base N qual scope f cd A outer s H E).stack->∃o',(hideAll s1.heap (frs (cxW C P w K mg base N qual scope f cd A outer s H E).stack)).get? b=some o':=λb o q n=>⟨o,iE _ q n⟩;have hok:HOk P w H1 (hideAll s1.heap (frs (cxW C P w K mg base N qual scope f cd A outer s H E).stack)):=λb o e=>(I.hok b o e).stay (λc u hc q=>iE _ q λhm=>by
  have n:=I.stkFree c hm;rcases hc with rfl|hc
  ·rw[e]at n;cases n
  ·rw[hc]at n;cases n) (λ_ q=>q) λ_ _ q=>q
 refine wpAny_leaves_madeW (h:=s1.heap) I.ok.frames rfl (λb o q=>iJ _ q) ff hx λh2 t hf2 _ _ up=>?_;have u:=un_step kb (λb o q=>hx.keeps b o (iJ _ q)) hf2.1 (ff.of_keeps λb o q _=>⟨o,hx.keeps b o q,rfl⟩) up (Un.kept (fs:=frs (cxW C P w K mg base N qual scope f cd A outer s H E).stack) (ex:=[]) (H:=H1) hx.keeps);have J:=I.call' (s':={ s1 with heap:=h2 }) (ch:=[]) rfl u (hok.kept hf2.1) I.bare λ_ z=>nomatch z;exact⟨a,H1,rfl,⟨⟨_,_,hf2,hok,kb_out I kb⟩,J.os,J.bare,J.base⟩,z _⟩
end
def Mades(X:Cx)(C:Addr)(Z:Hp->Prop):Prop:=∀(pins:List (Addr×Obj)) (σ:St) (H:Hp) (s:ae) (a:Addr) (vs:List aa) (h':Heap),Inv X pins σ H s->kx s.heap h' a (.ref C) vs->Z H->X.xe (.ref a) { s with heap:=h' }
section
variable{X:Cx}{C:Addr}{Z:Hp->Prop}{x:Str}{np cpos pos:Pos}{e:Expr}{es:List Expr}{t:TA}
theorem ps_raise(q:XC X.K C)(hc:X.calm=true)(hm:X.mg x=some (.ref C))(mk:Mades X C Z)(ha:PA X (e::es) t)(hg:Gl X x)(hdb:(x==("__debug__" : Str))=false)(he:aq (e::es) X.env=(false,eval e X.env)::aq es X.env)(hpl:(aQ cpos (aq es X.env)).any (·.1)=false):
  PS X (.Raise (some (.Call (.Name x np) (e::es) [] cpos)) none pos) (λ_ σ H=>t σ H λvs H1=>vs.length<=ay/\Z H1):=by
 intro pins s σ H D I h;obtain⟨bm,N,nm,qn,bs,hd,sn,sub,ab,col,dd,k0,k1,k2,k3,k5,mN,hC,hN,hni,T⟩:=(q.obj I.mod.kin).obj;have hb:bm.contains (.type "BaseException")=true:=T.hasType (b:=true) rfl;refine wpAny_Raise_call_subU (nm:=nm) (q:=qn) (N:=N) (bs:=bs) (hdct:=hd) (sn:=sn) (sub:=sub) (ab:=ab) (col:=col) (dd:=dd) (k0:=k0) (k1:=k1) (k2:=k2) (k3:=k3) (k5:=k5) jr rfl jr hb (I.ok.hd hc) (by rw[he];show (false||(aQ cpos (aq es X.env)).any (·.1))=false;rw[hpl];rfl) hni (sL I hg hm ⟨rfl,?_⟩ hdb)
 rw[he];have h2:=ha cpos pins s σ H _ I h;rw[he]at h2;refine eh (thn h2 λus s2 zz=>?_);obtain⟨vs,H2,I2,r,l2,z⟩:=zz;refine⟨rfl,by rw[<-r.length];exact l2,I2.bk _ _ hC,hN.keeps I2.bk,T.keeps I2.bk,λh' a hx=>mk pins σ H2 s2 a us h' I2 hx z⟩
end
abbrev Cx.caught(X:Cx)(v:aa):Cx:={ X with A:=X.A.mark (some v),calm:=false,xe:=λ_ _=>False }
theorem Inv.caught{X:Cx}{H:Hp}{s:ae}(I:Inv X pins σ H s)(v:aa):Inv (X.caught v) pins σ H s:=
 ⟨⟨I.ok.mod,I.ok.kind,I.ok.glob,I.ok.blt,I.ok.above,I.ok.inj,I.ok.has,I.ok.cab,(λz=>by cases z),I.ok.frames,I.ok.stk,I.ok.exf,I.ok.bs,I.ok.bsz,I.ok.noex,I.ok.exfs,I.ok.funs,I.ok.frf⟩,I.os,I.bare,I.base,I.loc,I.cell,I.free,I.freeC,I.pin,I.hok,I.len⟩
variable{fl:Flow}{xe:aa->ae->Prop}
section
variable{X:Cx}{pins:List (Addr×Obj)}{σ:St}{H:Hp}{s:ae}
theorem Inv.uncaught{v:aa}(ok:X.Ok)(I:Inv (X.caught v) pins σ H s):Inv X pins σ H s:=⟨ok,I.os,I.bare,I.base,I.loc,I.cell,I.free,I.freeC,I.pin,I.hok,I.len⟩
theorem SP.uncaught{v:aa}{D:Ends}(ok:X.Ok)(h:SP (X.caught v) pins D fl s):SP X pins D fl s:=by
 cases fl with
 |next=>obtain⟨σ',H',I,q⟩:=h;exact⟨σ',H',I.uncaught ok,q⟩
 |brk=>obtain⟨σ',H',I,q⟩:=h;exact⟨σ',H',I.uncaught ok,q⟩
 |cont=>obtain⟨σ',H',I,q⟩:=h;exact⟨σ',H',I.uncaught ok,q⟩
 |ret u=>obtain⟨v,σ',H',I,r,q⟩:=h;exact⟨v,σ',H',I.uncaught ok,r,q⟩
theorem PA.lift{es:List Expr}{t:TA}(h:PA X es t)(n:∀e s,¬X.xe e s):PA (X.wish xe) es t:=λpos pins s σ H Q I hw=>
 bh (h pos pins s σ H Q I.unwish hw) (λ_ _ ⟨v,H',I',r,q⟩=>⟨v,H',I'.wish xe,r,q⟩) λe s z=>(n e s z).elim
theorem PT.lift{e:Expr}{t:TT}(h:PT X e t)(n:∀e s,¬X.xe e s):PT (X.wish xe) e t:=λpins s σ H Q I hw=>
 bh (h pins s σ H Q I.unwish hw) (λ_ _ ⟨H',I',q⟩=>⟨H',I'.wish xe,q⟩) λe s z=>(n e s z).elim
theorem SP.wish{D:Ends}(xe:aa->ae->Prop)(h:SP X pins D fl s):SP (X.wish xe) pins D fl s:=by
 cases fl with
 |next=>obtain⟨σ',H',I,q⟩:=h;exact⟨σ',H',I.wish xe,q⟩
 |brk=>obtain⟨σ',H',I,q⟩:=h;exact⟨σ',H',I.wish xe,q⟩
 |cont=>obtain⟨σ',H',I,q⟩:=h;exact⟨σ',H',I.wish xe,q⟩
 |ret u=>obtain⟨v,σ',H',I,r,q⟩:=h;exact⟨v,σ',H',I.wish xe,r,q⟩
theorem PS.lift{st:Stmt}{t:TS}(h:PS X st t)(n:∀e s,¬X.xe e s):PS (X.wish xe) st t:=λpins s σ H D I hw=>
 bh (h pins s σ H D I.unwish hw) (λ_ _ q=>q.wish xe) λe s z=>(n e s z).elim
end
section
variable{X:Cx}{CX:CXT}{k:Nat}{f C C0:Addr}{fd:bj}{ps:List Str}{sp:Sp}{dvs:List V}{ds:List aa}{E:XK}{x y:Str}{p np pos pos1 pos2 hp:Pos}{e:Expr}{es:List Expr}{t:TA}{b0:Stmt}{suite:List Stmt}{th:TS}
theorem run_makeX{H:Hp}{s:ae}{Q:VK}{us:List aa}{vs:List V}(M:Mk X.K C0 f)(F:qN X.prog X.w X.K X.mg X.base CX k f fd ps sp)(hr:pd (k+1) X.A)(hb:Binds X.K fd ps ds)(hd:Vals dvs ds)
  (hx:∀H2 s2 e s',Inv X pins σ H2 s2->CX X.stack H2 s2 E e s'->X.xe e s') (I:Inv X pins σ H s) (r:Vals vs us)
  (h:∀x dx,H x=none->H dx=none->dx≠x->sp (.ref x::(vs++dvs)) (upd (upd H dx (.own x)) x (.ins C0 dx [])) (λv H2=>v=.non/\Q (.ref x) H2) E):
  af (model X.prog X.w) X.A (call (.ref C0) us) (EP X pins σ Q) X.xe s:=by
 have hq:=h (s.heap.objs.size+1) s.heap.objs.size (I.hok.fresh (eW _)) (I.hok.fresh (aE _)) (aP (dq _));have I2:=Inv.made (C:=C0) I;have r2:Vals (V.ref (s.heap.objs.size+1)::(vs++dvs)) (Value.ref (s.heap.objs.size+1)::(us++ds)):=.cons rfl (r.append hd);have hl:(Value.ref (s.heap.objs.size+1)::us++ds).length=ps.length:=by have e:=r2.length;rw[F.len _ _ _ _ hq]at e;exact e.symm
 refine eX (BW (f:=f) I.kIn M.makes M.init (beq_iff_eq.mp M.fn) (dB (F.run _ X.stack _ _ ⟨Value.ref (s.heap.objs.size+1)::us,[]⟩ (Value.ref (s.heap.objs.size+1)::(us++ds)) _ _ E (hr.make C0 us [])
  (I2.env0.make C0 us []) (hb _ (Value.ref (s.heap.objs.size+1)::us) I2.kIn hl) r2 hq) λr s' hq'=>?_))
 cases r with
 |error e=>exact hx _ _ e s' I2 hq'
 |ok fl=>
  cases fl with
  |ret u=>obtain⟨v,H',I3,rv,ev,q3⟩:=I2.after hq';subst ev;exact⟨rv,⟨V.ref (s.heap.objs.size+1),H',I3,rfl,q3⟩⟩
  |next=>exact bE hq'
  |brk=>exact bE hq'
  |cont=>exact bE hq'
theorem ps_try(hst:X.stack=X.env::X.outer)(hfm:X.env.frame=some X.env.locals)(hn0:∀e s,¬X.xe e s)(q:XC X.K C)(hg':Gl X y)(hm':X.mg y=some (.ref C))(hdb':(y==("__debug__" : Str))=false)
  (M:Mk X.K C0 f) (F:qN X.prog X.w X.K X.mg X.base (CXW X.prog X.w C) k f fd ps sp) (hr:pd (k+1) X.A) (hb:Binds X.K fd ps ds) (hd:Vals dvs ds) (hg:Gl X x) (hm:X.mg x=some (.ref C0)) (ha:PA X (e::es) t) (hdb:(x==("__debug__" : Str))=false)
  (he:aq (e::es) X.env=(false,eval e X.env)::aq es X.env) (hpl:(aQ pos (aq es X.env)).any (·.1)=false) (hsw:bS (.Call (.Name x p) (e::es) [] pos) none pos1.line X.env=pure false) (hs:∀v,PSs (X.caught v) (b0::suite) th):
  PS X (.Try [.Expr (.Call (.Name x p) (e::es) [] pos) pos1] [.ExceptHandler (some (.Name y np)) none (b0::suite) hp] [] [] pos2) (λD σ H=>En C0 sp dvs (λ_ _ H'=>th D σ H') t σ H λ_ H1=>D.nx σ H1):=by
 intro pins s σ H D I h;refine wpAny_Try_except ?_;let XE:aa->ae->Prop:=λe s₁=>af (model X.prog X.w) X.A (noteFrame e X.env) (λ_ s₂=>af (model X.prog X.w) X.A (setFlight e none) (λ_ s₃=>af (model X.prog X.w) X.A (handleBy e X.env [.ExceptHandler (some (.Name y np)) none (b0::suite) hp]) (SP X pins D) X.xe s₃) X.xe s₂) X.xe s₁;have hx:∀H2 s2 e s',Inv (X.wish XE) pins σ H2 s2->CXW X.prog X.w C X.stack H2 s2 (λ_ _ H'=>th D σ H') e s'->XE e s':=by
  intro H2 s2 ev s' J hc;obtain⟨a,H',rfl,fl,z⟩:=hc;obtain⟨B,a0,hf,hok,kb⟩:=fl.ex;have hfr:X.A.frames=some (X.env::X.outer):=by rw[<-hst];exact I.ok.frames
  have hf':kP B (X.env::X.outer) a (.ref C) a0 s'.heap:=by rw[<-hst];exact hf
  refine wpAny_looks_onW hfr hfm hf' λh4 hh4 up4=>wpAny_landsW hh4 λh5 hf5 up5=>?_;have u5:=un_step kb hf.1 hf5.1 hf.2.2.1 (up4.trans up5) fl.un;have J5:=(J.call' (s':={ s' with heap:=h5 }) (ch:=[]) fl.os u5 (hok.kept hf5.1) fl.bare λ_ z=>nomatch z).unwish;refine wpAny_handleBy_cons (codeAny_handlers_test (sL (X:=X.caught (.ref a)) (J5.caught _) hg' hm' ?_ hdb')) (by intro q;cases q);obtain⟨bm,N,nm,qn,bs,hd,sn,sub,ab,col,dd,k0,k1,k2,k3,k5,mN,hC,hN,hni,T⟩:=(q.obj I.mod.kin).obj;have hbm:bm.contains (.type "BaseException")=true:=T.hasType (b:=true) rfl;obtain⟨ob,hob,hobc⟩:=hf5.there;refine wpAny_excMatches_sub_self (J5.bk _ _ hC) hob hobc hbm (codeAny_handlers_suite ?_);refine lands_againW hf5 λh6 hf6 up6=>?_;have u6:=un_step kb hf.1 hf6.1 hf.2.2.1 ((up4.trans up5).trans up6) fl.un;have J6:=(J.call' (s':={ s' with heap:=h6 }) (ch:=[]) fl.os u6 (hok.kept hf6.1) fl.bare λ_ z=>nomatch z).unwish;exact bh (hs (.ref a) pins _ σ H' D (J6.caught _) z) (λfl s7 hq=>hq.uncaught I.ok) λ_ _ z=>z.elim
 have key:af (model X.prog X.w) X.A (eval (.Call (.Name x p) (e::es) [] pos) X.env) (EP (X.wish XE) pins σ λ_ H1=>D.nx σ H1) XE s:=by refine cG (sL I hg hm ?_ hdb);refine fU (h₀:=X.base) I.ok.mod.kin M.kp (thn ((ha.lift hn0) pos pins s σ H _ (I.wish XE) h) λus s1 ⟨vs,H1,I1,r,q⟩=>⟨I1.kIn,?_⟩) he hpl;exact run_makeX (X:=X.wish XE) M F hr hb hd hx I1 r q
 have key2:af (model X.prog X.w) X.A (exec (.Expr (.Call (.Name x p) (e::es) [] pos) pos1) X.env) (SP X pins D) XE s:=kc (thn key λv s1 ⟨x,H1,I1,r1,q1⟩=>⟨σ,H1,I1.unwish,q1⟩) I.quiet hsw;refine gX (thn key2 λf s1 q=>?_);cases f with
 |next=>exact eR (eR q)
 |ret v=>exact q
 |brk=>exact q
 |cont=>exact q
end
end L2
namespace L4
open PySem PySem.Spec PyProof.Rows L2 L3
def zE(E:Ends)(Z:Hp->Prop):Ends:={ nx:=E.nx,rt:=E.rt,bk:=λ_ H=>Z H,ct:=E.ct }
def tFX(G:Bg)(Z:Hp->Prop)(f:FS):TS:=λE σ H=>tFS G f (zE E Z) σ H
def sNb(f:FS):FS:=λρ=>match f ρ with
 |some (.bk _)=>none
 |r=>r
def sRz(a:FA):FS:=λρ=>match a ρ with
 |some ([_],ρ')=>some (.bk ρ')
 |_=>none
def sXp(g:List D->Option Bool)(a:FA):FS:=λρ=>match a ρ with
 |some (ds,ρ')=>match g ds with
  |some true=>some (.nx ρ')
  |some false=>some (.bk ρ')
  |none=>none
 |none=>none
def fnX(np n:Nat)(f:FS):List D->Option Bool:=λds=>if ds.length=np then match f (stE n ds)with
 |some (.nx _)=>some true
 |some (.bk _)=>some false
 |_=>none
 else none
def fnXI(c np n:Nat)(f:FS):List D->Option (Option (List Str×List D)):=λds=>if ds.length=np then match f (stI c n ds)with
 |some (.bk _)=>some none
 |some (.nx _)=>match fnI c np n f ds with
  |some r=>some (some r)
  |none=>none
 |_=>none
 else none
def sTry(g:List D->Option (Option (List Str×List D)))(a:FA)(fh:FS):FS:=λρ=>match a ρ with
 |some (ds,ρ')=>match g ds with
  |some (some _)=>some (.nx ρ')
  |some none=>fh ρ'
  |none=>none
 |none=>none
def spX(G:Bg)(g:List D->Option Bool):Sp:=λvs H Q E=>∃H0 ds d,nz H0 H/\nt G H0 ds vs/\g ds=some d/\
 (d=true->∀H0' H',nz H0 H0'->nz H0' H'->nz H H'->(∀b o,H0' b=some o->H0 b=some o\/H b=none)->Q .non H')/\(d=false->∀e H',nz H H'->E e none H')
def spXI(G:Bg)(c:Nat)(g:List D->Option (Option (List Str×List D))):Sp:=λvs H Q E=>∃(p dx:Addr) (us:List V) (H0:Hp) (ds:List D),vs=.ref p::us/\H p=some (.ins (G.ca c) dx [])/\H0 p=none/\nz H0 H/\nt G H0 ds us/\
 ((∃ns es,g ds=some (some (ns,es))/\∀ys dx' H0' H',nz H0 H0'->nz H0' H'->(∀b o,H b=some o->b≠p->H' b=some o)->(∀b o,H0' b=some o->H0 b=some o\/H b=none)->H0' p=none->H' p=some (.ins (G.ca c) dx' (ns.zip ys))->ns.length=ys.length->nt G H0' es ys->Q .non H')
  \/ (g ds=some none/\∀e H',(∀b o,H b=some o->b≠p->H' b=some o)->E e none H'))
variable{st:Stmt}{c np:Nat}{ds:List D}{N:List Str}{vs:List V}{E:XK}
section
variable{X:Cx}{G:Bg}{Z:Hp->Prop}
theorem tFS_zE{f:FS}{Q:VK}{nx:St->Hp->Prop}{σ:St}{H:Hp}(h:tFS G f { nx:=nx,rt:=Q } σ H):tFX G Z f { nx:=nx,rt:=Q } σ H:=by
 obtain⟨F,ρ,H0,o,R,e,k,_⟩:=h;refine⟨F,ρ,H0,o,R,e,?_,λ_=>rfl⟩;cases o with
 |bk ρ'=>exact λσ' H0' H' s' R'=>(k σ' H0' H' s' R').elim
 |nx ρ'=>exact k
 |ct ρ'=>exact k
 |rt d ρ'=>exact k
 |rn d ρ'=>exact k
theorem pfx_nil:PSs X [] (tFX G Z ou):=PSs.weak Eh λE σ H h=>Hl (E:=zE E Z) h
theorem pfx_cons{rest:List Stmt}{f g:FS}(h1:PS X st (tFX G Z f))(h2:PSs X rest (tFX G Z g)):PSs X (st::rest) (tFX G Z (ni f g)):=PSs.weak (wI h1 h2) λE σ H h=>by
 obtain⟨F,ρ,H0,o,R,e,k,k2⟩:=h;unfold ni at e;cases e1:f ρ with
 |none=>simp only[e1]at e;cases e
 |some o1=>
  cases o1 with
  |nx ρ1=>simp only[e1]at e;exact⟨F,ρ,H0,_,R,e1,λσ' H0' H' s R'=>⟨F,ρ1,H0',o,R',e,k.back s,λ_=>rfl⟩,λ_=>rfl⟩
  |bk ρ1=>simp only[e1]at e;cases e;exact⟨F,ρ,H0,_,R,e1,k,λ_=>rfl⟩
  |ct ρ1=>simp only[e1]at e;cases e;exact⟨F,ρ,H0,_,R,e1,k,λ_=>rfl⟩
  |rt d ρ1=>simp only[e1]at e;cases e;exact⟨F,ρ,H0,_,R,e1,k,λ_=>rfl⟩
  |rn d ρ1=>simp only[e1]at e;cases e;exact⟨F,ρ,H0,_,R,e1,k,λ_=>rfl⟩
theorem pfx_up{f:FS}(h:PS X st (tFS G f)):PS X st (tFX G Z (sNb f)):=PS.weak h λE σ H hh=>by
 obtain⟨F,ρ,H0,o,R,e,k,_⟩:=hh;unfold sNb at e;cases e1:f ρ with
 |none=>simp only[e1]at e;cases e
 |some o1=>
  cases o1 with
  |bk ρ1=>simp only[e1]at e;cases e
  |nx ρ1=>simp only[e1]at e;cases e;exact⟨F,ρ,H0,_,R,e1,k,λ_=>rfl⟩
  |ct ρ1=>simp only[e1]at e;cases e;exact⟨F,ρ,H0,_,R,e1,k,λ_=>rfl⟩
  |rt d ρ1=>simp only[e1]at e;cases e;exact⟨F,ρ,H0,_,R,e1,k,λ_=>rfl⟩
  |rn d ρ1=>simp only[e1]at e;cases e;exact⟨F,ρ,H0,_,R,e1,k,λ_=>rfl⟩
theorem pfx_if{c:Expr}{a b:List Stmt}{h:FT}{f g:FS}{pos:Pos}(hc:PT X c (tFT G h))(ha:PSs X a (tFX G Z f))(hb:PSs X b (tFX G Z g)):PS X (.If c a b pos) (tFX G Z (sIf h f g)):=PS.weak (Lx hc ha hb) λE σ H hh=>by
 obtain⟨F,ρ,H0,o,R,e,k,k2⟩:=hh;unfold sIf at e;rcases nM (f:=h) (ρ:=ρ)with e1|⟨d,ρ',e1⟩
 ·simp only[e1]at e;cases e
 ·refine⟨F,ρ,H0,d,ρ',R,e1,λH0' H' s R'=>?_⟩;cases d with
  |true=>simp only[e1]at e;exact Ca ⟨F,ρ',H0',o,R',e,k.back s,λ_=>rfl⟩
  |false=>simp only[e1]at e;exact B9 ⟨F,ρ',H0',o,R',e,k.back s,λ_=>rfl⟩
theorem pfx_raise{a:FA}(h:PS X st (λ_ σ H=>tFA G a σ H λvs H1=>vs.length<=ay/\Z H1)):PS X st (tFX G Z (sRz a)):=PS.weak h λE σ H hh=>by
 obtain⟨F,ρ,H0,o,R,e,k,k2⟩:=hh;unfold sRz at e;split at e
 ·rename_i d ρ' e1;cases e;refine⟨F,ρ,H0,_,ρ',R,e1,λxs H0' H' s R' rs=>⟨?_,k σ H0' H' s R'⟩⟩;rw[<-nu rs];show 1<=ay;decide
 ·cases e
theorem pfx_call{g:List D->Option Bool}{a:FA}(h:PS X st (GE (vT (spX G g) [] (λ_ _ H'=>Z H') (tFA G a)))):PS X st (tFX G Z (sXp g a)):=PS.weak h λE σ H hh=>by
 obtain⟨F,ρ,H0,o,R,e,k,k2⟩:=hh;unfold sXp at e;rcases nM (f:=a) (ρ:=ρ)with e1|⟨ds,ρ',e1⟩<;>simp only[e1]at e
 ·cases e
 ·refine⟨F,ρ,H0,ds,ρ',R,e1,λxs H1 H1' s R' rs=>?_⟩;cases e2:g ds with
  |none=>simp only[e2]at e;cases e
  |some d=>
   refine⟨H1,ds,d,R'.sub,by rw[br];exact rs,e2,λhd H2 H2' s1 s2 s3 fr=>?_,λhd ev H2' s3=>?_⟩
   ·subst hd;simp only[e2]at e;cases e;exact k σ H2 H2' (s.trans s1) (R'.grow s3 s1 s2 fr)
   ·subst hd;simp only[e2]at e;cases e;exact k σ H1 H2' s (R'.grow s3 (nz.refl _) (R'.sub.trans s3) λb o e=>.inl e)
theorem pfx_try{g:List D->Option (Option (List Str×List D))}{a:FA}{fh:FS}(h:PS X st (λD σ H=>En (G.ca c) (spXI G c g) [] (λ_ _ H'=>tFS G fh D σ H') (tFA G a) σ H λ_ H1=>D.nx σ H1)):PS X st (tFS G (sTry g a fh)):=PS.weak h λE σ H hh=>by
 obtain⟨F,ρ,H0,o,R,e,k,k2⟩:=hh;unfold sTry at e;rcases nM (f:=a) (ρ:=ρ)with e1|⟨ds,ρ',e1⟩<;>simp only[e1]at e
 ·cases e
 ·refine⟨F,ρ,H0,ds,ρ',R,e1,λxs H1 H1' s R' rs x dx hx hdx ne=>?_⟩;have hx2:(upd H1' dx (.own x)) x=none:=by rw[ny (λz=>ne z.symm)];exact hx
  have sx:nz H1' (upd (upd H1' dx (.own x)) x (.ins (G.ca c) dx [])):=(nI hdx _).trans (nI hx2 _);refine⟨x,dx,_,H1,ds,rfl,nv,R'.h0none hx,R'.sub.trans sx,by rw[br];exact rs,?_⟩;cases e2:g ds with
  |none=>simp only[e2]at e;cases e
  |some r=>
   cases r with
   |none=>simp only[e2]at e;refine .inr ⟨rfl,λev H2' t3=>?_⟩;have t4:nz H1' H2':=λb o e=>t3 b o (sx b o e) (pH e hx);exact⟨F,ρ',H1,o,R'.grow t4 (nz.refl _) (R'.sub.trans t4) (λb o e=>.inl e),e,k.back s,λ_=>rfl⟩
   |some q=>
    obtain⟨ns,es⟩:=q;simp only[e2]at e;cases e;refine .inl ⟨ns,es,rfl,λys dx' H2 H2' t1 t2 t3 fr h0 hp hl ry=>⟨rfl,?_⟩⟩;have t4:nz H1' H2':=λb o e=>t3 b o (sx b o e) (pH e hx);have fr1:∀b o,H2 b=some o->H1 b=some o\/H1' b=none:=λb o e=>by
     rcases fr b o e with q|q
     ·exact .inl q
     ·cases z:H1' b with
      |none=>exact .inr rfl
      |some u=>rw[sx b u z]at q;cases q
    exact k σ H2 H2' (s.trans t1) (R'.grow t4 t1 t2 fr1)
theorem fnX_some{n:Nat}{f:FS}{d:Bool}(h:fnX np n f ds=some d):ds.length=np/\((∃ρ,f (stE n ds)=some (.nx ρ)/\d=true)\/∃ρ,f (stE n ds)=some (.bk ρ)/\d=false):=by
 unfold fnX at h;split at h
 ·rename_i hl;refine⟨hl,?_⟩;split at h
  ·rename_i e;cases h;exact .inl ⟨_,e,rfl⟩
  ·rename_i e;cases h;exact .inr ⟨_,e,rfl⟩
  ·cases h
 ·cases h
theorem entry_X{f:FS}{H:Hp}{Q:VK}(hN:np<=N.length)(h:spX G (fnX np N.length f) vs H Q E):tFX G (λH'=>∀e,E e none H') f { nx:=λ_ H'=>Q .non H',rt:=Q } (L2.start N vs) H:=by
 obtain⟨H0,ds,d,s,r,e,k1,k2⟩:=h;obtain⟨hl,e'⟩:=fnX_some e;have R:=xO (N:=N) s r (by rw[<-nu r,hl];exact hN);have fin:∀{σ':St} {ρ':List Sl} {H0' H':Hp},nG G ⟨H0,H,[]⟩ σ' ρ' H0' H'->nz H H'/\nz H0' H'/\∀b o,H0' b=some o->H0 b=some o\/H b=none:=λR'=>⟨λb o e=>R'.keep b o e (by simp),R'.sub,R'.fr⟩;clear e;rcases e' with ⟨ρ,e,rfl⟩|⟨ρ,e,rfl⟩
 ·refine⟨_,_,H0,_,R,e,λσ' H0' H' s' R'=>?_,λ_=>rfl⟩;obtain⟨h1,h2,h3⟩:=fin R';exact k1 rfl H0' H' s' h2 h1 h3
 ·refine⟨_,_,H0,_,R,e,λσ' H0' H' s' R' ev=>?_,λ_=>rfl⟩;exact k2 rfl ev H' (fin R').1
theorem len_X{g:List D->Option Bool}(hg:∀ds d,g ds=some d->ds.length=np):∀vs H Q E,spX G g vs H Q E->vs.length=np:=λvs H Q E h=>by obtain⟨H0,ds,d,_,r,e,_⟩:=h;rw[<-nu r];exact hg _ _ e
theorem relI{p dx:Addr}{us:List V}{H0 H:Hp}(hN:us.length+1<=N.length)(hp:H p=some (.ins (G.ca c) dx []))(h0:H0 p=none)(s:nz H0 H)(r:nt G H0 ds us):nG G ⟨H0,H,[p]⟩ (L2.start N (.ref p::us)) (stI c N.length ds) H0 H:=by
 have gets:∀{i:Nat} {t:Sl},(stI c N.length ds)[i]?=some t->(i=0/\t=.ob c [] [])\/t=.un\/∃(j:Nat) (d:D),i=j+1/\ds[j]?=some d/\t=.im d:=λ{i t} e=>by
  cases i with
  |zero=>cases e;exact .inl ⟨rfl,rfl⟩
  |succ j=>
   have e':(stE (N.length - 1) ds)[j]?=some t:=e;rcases wQ e' with rfl|⟨d,e1,rfl⟩
   ·exact .inr (.inl rfl)
   ·exact .inr (.inr ⟨j,d,rfl,e1,rfl⟩)
 exact {
  sub:=s
  g0:=nz.refl _
  keep:=λb o e _=>e
  fr:=λb o e=>.inl e
  am:=λa ha=>by
   have ea:a=p:=by simpa using ha
   subst ea;exact⟨_,hp⟩
  len:=by unfold L2.start stI stE;simp only[aC,ag,bN,aD];have:=nu r;omega
  sl:=λi t e=>by
   rcases gets e with ⟨rfl,rfl⟩|rfl|⟨j,d,rfl,e1,rfl⟩
   ·exact⟨p,dx,[],rq rfl,hp,h0,by simp,rfl,nY⟩
   ·trivial
   ·obtain⟨v,e2,e3⟩:=rM r e1;exact⟨v,rq (by simpa using e2),e3⟩
  ap:=λi j t u a hij ei ej ht hu=>by
   rcases gets ei with ⟨rfl,rfl⟩|rfl|⟨_,_,_,_,rfl⟩
   ·rcases gets ej with ⟨rfl,rfl⟩|rfl|⟨_,_,_,_,rfl⟩
    ·exact ak rfl hij
    ·cases hu
    ·cases hu
   ·cases ht
   ·cases ht }
theorem fnXI_some{n:Nat}{f:FS}{r:Option (List Str×List D)}(h:fnXI c np n f ds=some r):ds.length=np/\((∃ρ,f (stI c n ds)=some (.bk ρ)/\r=none)\/∃q,fnI c np n f ds=some q/\r=some q):=by
 unfold fnXI at h;split at h
 ·rename_i hl;refine⟨hl,?_⟩;split at h
  ·rename_i e;cases h;exact .inl ⟨_,e,rfl⟩
  ·split at h
   ·rename_i e;cases h;exact .inr ⟨_,e,rfl⟩
   ·cases h
  ·cases h
 ·cases h
theorem entry_XI{f:FS}{H:Hp}{Q:VK}(hN:np+1<=N.length)(h:spXI G c (fnXI c np N.length f) vs H Q E):tFX G (λH'=>∀e,E e none H') f { nx:=λ_ H'=>Q .non H',rt:=Q } (L2.start N vs) H:=by
 obtain⟨p,dx,us,H0,ds,rfl,hp,h0,s,r,k⟩:=h;rcases k with ⟨ns,es,e,k⟩|⟨e,k⟩
 ·obtain⟨hl,e'⟩:=fnXI_some e;rcases e' with ⟨_,_,z⟩|⟨q,e1,z⟩
  ·cases z
  ·cases z;exact tFS_zE (Bt (E:=E) hN ⟨p,dx,us,H0,ds,ns,es,rfl,hp,h0,s,r,e1,k⟩)
 ·obtain⟨hl,e'⟩:=fnXI_some e;rcases e' with ⟨ρ,e1,_⟩|⟨q,_,z⟩
  ·have R:=relI (N:=N) (by rw[<-nu r,hl];exact hN) hp h0 s r;exact⟨_,_,H0,_,R,e1,λσ' H0' H' s' R' ev=>k ev H' λb o e n=>R'.keep b o e (by simpa using n),λ_=>rfl⟩
  ·cases z
theorem len_XI{g:List D->Option (Option (List Str×List D))}(hg:∀ds q,g ds=some q->ds.length=np):∀vs H Q E,spXI G c g vs H Q E->vs.length=np+1:=λvs H Q E h=>by obtain⟨p,dx,us,H0,ds,rfl,_,_,_,r,k⟩:=h;rw[aD,<- nu r];rcases k with ⟨_,_,e,_⟩|⟨e,_⟩<;>rw[hg _ _ e]
end
structure ZX(X:Cx)(B:Bz)(c:Nat)(st:Stmt)(f:FS):Prop where p:(∀e s,¬X.xe e s)->∀xe Z,Passes (CXW B.P B.w (B.G.ca c)) (X.wish xe) (λ_ _ H'=>Z H')->Mades (X.wish xe) (B.G.ca c) Z->PS (X.wish xe) st (tFX B.G Z f)
structure ZY(X:Cx)(B:Bz)(c:Nat)(st:List Stmt)(f:FS):Prop where p:(∀e s,¬X.xe e s)->∀xe Z,Passes (CXW B.P B.w (B.G.ca c)) (X.wish xe) (λ_ _ H'=>Z H')->Mades (X.wish xe) (B.G.ca c) Z->PSs (X.wish xe) st (tFX B.G Z f)
class Xn(B:Bz)(y:Str)(c:outParam Nat):Prop where p:XC B.G.K (B.G.ca c)/\B.mg y=some (.ref (B.G.ca c))
class Dx(B:Bz)(j:outParam Nat)(x:Str)(c:Nat)(g:List D->Option Bool):Prop where p:∃ps f fd,B.mg x=some (.ref f)/\ck B.G.K (.ref f)=true/\Binds B.G.K fd ps []/\qN B.P B.w B.G.K B.mg B.base (CXW B.P B.w (B.G.ca c)) j f fd ps (spX B.G g)
class Kx(B:Bz)(j:outParam Nat)(x:Str)(c0:outParam Nat)(c:Nat)(g:List D->Option (Option (List Str×List D))):Prop where p:∃ps f fd,Mk B.G.K (B.G.ca c0) f/\B.mg x=some (.ref (B.G.ca c0))/\Binds B.G.K fd ps []/\qN B.P B.w B.G.K B.mg B.base (CXW B.P B.w (B.G.ca c)) j f fd ps (spXI B.G c0 g)
class Bx(X:Cx):Prop where
 n:∀e s,¬X.xe e s
 st:X.stack=X.env::X.outer
 fm:X.env.frame=some X.env.locals
instance inBx {P:au}{w:ao}{K:aj}{mg:Str->Option aa}{base:Heap}{N:List Str}{qual:Str}{st:Stmt}{f:Addr}{cdv:aa}{A:av}{outer:List Env}{s:ae}{H:Hp}{E:XK}:Bx (uW P w K mg base N qual st f cdv A outer s H E):=⟨λ_ _ z=>z,rfl,rfl⟩
section
variable{X:Cx}{B:Bz}{k j c c0:Nat}{x y:Str}{e:Expr}{es:List Expr}{p p2 p3 pos pos2 pos3 hp:Pos}{a:FA}{st b0:Stmt}{sts sts' suite:List Stmt}{fs fs' fh:FS}{ft:FT}
theorem zr_xU(h:ZS X B st fs):ZX X B c st (sNb fs):=⟨λn xe Z _ _=>pfx_up (h.p.lift n)⟩
theorem zr_yI(h1:ZX X B c st fs)(h2:ZY X B c sts fs'):ZY X B c (st::sts) (ni fs fs'):=⟨λn xe Z q r=>pfx_cons (h1.p n xe Z q r) (h2.p n xe Z q r)⟩
theorem zr_y1(h1:ZX X B c st fs):ZY X B c [st] fs:=⟨λn xe Z q r=>yY (h1.p n xe Z q r)⟩
theorem zr_y0:ZY X B c [] ou:=⟨λn xe Z q r=>pfx_nil⟩
theorem zr_xI(h:ZT X B e ft)(h1:ZY X B c sts fs)(h2:ZY X B c sts' fs'):ZX X B c (.If e sts sts' pos) (sIf ft fs fs'):=⟨λn xe Z q r=>pfx_if (h.p.lift n) (h1.p n xe Z q r) (h2.p n xe Z q r)⟩
section
variable(hg:Gz X x)(hd:Dz x)(hs:Sz X e es)(hl:Lz X pos es)
include hg hd hs hl
theorem zr_xR [C:Cz X B k][Q:Xn B x c](ha:ZA X B (e::es) a):ZX X B c (.Raise (some (.Call (.Name x p) (e::es) [] pos)) none pos2) (sRz a):=
 ⟨λn xe Z q r=>pfx_raise (ps_raise (X:=X.wish xe) (by show XC X.K _;rw[C.K];exact Q.p.1) C.c (by show X.mg x=_;rw[C.mg];exact Q.p.2) r (ha.p.lift n) hg hd hs hl)⟩
theorem zr_xC{g:List D->Option Bool}[C:Cz X B k][Q:Dx B j x c g](ha:ZA X B (e::es) a)(hj:bX j k=true)(hw:bS (.Call (.Name x p) (e::es) [] pos) none pos2.line X.env=pure false):ZX X B c (.Expr (.Call (.Name x p) (e::es) [] pos) pos2) (sXp g a):=by refine⟨λn xe Z q r=>?_⟩;have Q':=Q.p;rw[<-C.P,<- C.w,<- C.K,<- C.mg,<- C.b]at Q';rw[<-C.P,<- C.w]at q;obtain⟨ps,f,fd,h1,h2,h3,h4⟩:=Q';exact pfx_call (Bd (yZ (X:=X.wish xe) (p:=p) (pos:=pos) h4 (C.r.mono (cz.mp hj)) hg h1 h2 h3 .nil q (ha.p.lift n) hd hs hl) hw)
theorem zr_tI{g:List D->Option (Option (List Str×List D))}[C:Cz X B k][Q:Xn B y c][R:Kx B j x c0 c g][b:Bx X](ha:ZA X B (e::es) a)(hh:∀v,ZB (X.caught v) B (b0::suite) fh)(hj:bX (j+1) k=true)(hg':Gz X y)(hd':Dz y)(hw:bS (.Call (.Name x p) (e::es) [] pos) none pos2.line X.env=pure false):
  ZS X B (.Try [.Expr (.Call (.Name x p) (e::es) [] pos) pos2] [.ExceptHandler (some (.Name y p2)) none (b0::suite) hp] [] [] pos3) (sTry g a fh):=by
 have R':=R.p;have Q':=Q.p;rw[<-C.P,<- C.w,<- C.K,<- C.mg,<- C.b]at R';rw[<-C.K,<- C.mg]at Q';obtain⟨ps,f,fd,h1,h2,h3,h4⟩:=R';exact⟨pfx_try (c:=c0) (ps_try (ds:=[]) b.st b.fm b.n Q'.1 hg' Q'.2 hd' h1 h4 (C.r.mono (cz.mp hj)) h3 .nil hg h2 ha.p hd hs hl hw λv=>(hh v).p)⟩
end
end
section
variable{B:Bz}[Y:Yb B]{x m qual:Str}{st s0:Stmt}{l:List Stmt}{k c c0 np n:Nat}{b:FS}{p:Str}{ps xs:List Str}{N:List Str}
abbrev Bdx(B:Bz)(N:List Str)(qual:Str)(st:Stmt)(l:List Stmt)(k c:Nat)(b:FS):Prop:=∀{f:Addr} {cdv:aa} {A:av} {outer:List Env} {s:ae} {H:Hp} {E:XK} [Cz (uW B.P B.w B.G.K B.mg B.base N qual st f cdv A outer s H E) B k],ZY (uW B.P B.w B.G.K B.mg B.base N qual st f cdv A outer s H E) B c l b
omit Y in
theorem Bdx.ok(h:Bdx B N qual st l k c b)(hl:nV st=l)(f:Addr)(cdv:aa)(A:av)(outer:List Env)(s:ae)(H:Hp)(E:XK)(hr:pd k (A.deeper (envOfC qual (nF st) s.heap.objs.size f cdv))):
  PSs (cxW (B.G.ca c) B.P B.w B.G.K B.mg B.base N qual (nF st) f cdv A outer s H E) (nV st) (tFX B.G (λH'=>∀e,E e none H') b):=by
 subst hl;exact(@h f cdv A outer s H E ⟨rfl,rfl,rfl,rfl,rfl,rfl,hr⟩).p (λ_ _ z=>z) (cxW (B.G.ca c) B.P B.w B.G.K B.mg B.base N qual (nF st) f cdv A outer s H E).xe _ pass_body λpins σ H s a vs h' I hx z=>made_body I hx z
theorem gX4{g:List D->Option Bool}(hg:g=fnX np n b)(q:GD B.G.K x st)(hl:nV st=s0::l)(body:Bdx B (nmO st) x st (s0::l) k c b)(S:okO (nmO st) (psO st) st np n=true:=by kernel_rfl)(bd:Bds x x st (psO st):=by (repeat intro _);rfl):Dx B (k+1) x c g:=by obtain⟨f,fd,a,F⟩:=q;obtain⟨S1,S2,S3⟩:=okk S;refine⟨psO st,f,fd,Y.y.g a,F.kp,bd.ok F,?_⟩;subst hg S2 S3;obtain⟨oc,od,kV,doc,pm,an,cdv,ct,osl,rfl,lk,hcd⟩:=F.ex;exact BZ lk hcd S1 (len_X λds d h=>(fnX_some h).1) λA outer s H vs Q E hr hsp=>⟨_,body.ok hl f cdv A outer s H E hr,entry_X (by have:=aR b8 S1.pre;rw[bz]at this;omega) hsp⟩
theorem gX5(N:List Str){g:List D->Option Bool}(hg:g=fnX np n b)(q:GD B.G.K x st)(hl:nV st=s0::l)(body:Bdx B N x st (s0::l) k c b)(S:okO N (psO st) st np n=true:=by kernel_rfl)(bd:Bds x x st (psO st):=by (repeat intro _);rfl):Dx B (k+1) x c g:=by obtain⟨f,fd,a,F⟩:=q;obtain⟨S1,S2,S3⟩:=okk S;refine⟨psO st,f,fd,Y.y.g a,F.kp,bd.ok F,?_⟩;subst hg S2 S3;obtain⟨oc,od,kV,doc,pm,an,cdv,ct,osl,rfl,lk,hcd⟩:=F.ex;exact BZ lk hcd S1 (len_X λds d h=>(fnX_some h).1) λA outer s H vs Q E hr hsp=>⟨_,body.ok hl f cdv A outer s H E hr,entry_X (by have:=aR b8 S1.pre;rw[bz]at this;omega) hsp⟩
theorem gXI4{g:List D->Option (Option (List Str×List D))}(C:CF B.G.K (B.G.ca c0) xs)(a:d8 B.G.K aF x=some (some (.ref (B.G.ca c0))))(hg:g=fnXI c0 np n b)(q:GM B.G.K (B.G.ca c0) "__init__" qual st)(hl:nV st=s0::l)(hp:psO st=p::ps)(body:Bdx B (nmO st) qual st (s0::l) k c b)(S:okO (nmO st) (p::ps) st (np+1) n=true:=by kernel_rfl)(bd:Bds "__init__" qual st (p::ps):=by (repeat intro _);rfl):Kx B (k+1) x c0 c g:=by obtain⟨f,fd,i,i',F⟩:=q;obtain⟨S1,S2,S3⟩:=okk S;refine⟨p::ps,f,fd,⟨C.mks,i,i',C.kp⟩,Y.y.g a,bd.ok F,?_⟩;obtain rfl:ps.length=np:=dZ S2;subst hg S3;obtain⟨oc,od,kV,doc,pm,an,cdv,ct,osl,rfl,lk,hcd⟩:=F.ex;exact BZ lk hcd S1 (len_XI λds d h=>(fnXI_some h).1) λA outer s H vs Q E hr hsp=>⟨_,body.ok hl f cdv A outer s H E hr,entry_XI (by have:=aR b8 S1.pre;rw[bz,aD]at this;omega) hsp⟩
end
section
variable{X:Cx}{B:Bz}{k j:Nat}{x:Str}{e:Expr}{n:FA}{p pos:Pos}
theorem zr_df0{g:List D->Option D}[C:Cz X B k][Q:Df B j x (spF B.G g)](hg:Gz X x)(hd:Dz x)(hj:bX j k=true):ZE X B (.Call (.Name x p) [] [] pos) (m7 g oe):=by obtain⟨ps,q⟩:=dz hg hd (X:=X) (Q:=Q);exact⟨KE q (C.r.mono (cz.mp hj)) hg hd⟩
end
end L4
namespace L4
open PySem PySem.Spec PySem.Calls PyProof.Rows PySem.W L2 L3
section
variable{X:Cx}{G:Bg}
def rEqN(K:aj)(r:R2):R2:=λx y H Q=>(∃a b xs,x=.ref a/\y=.ref b/\H a=some (.lst xs)/\H b=some (.lst [])/\xs≠[]/\Q (.bl false) H)\/r x y H Q
theorem op_eqN{r:R2}(hu:X.A.units+64<cLine)(h0:OpR X (aM .Eq) r):OpR X (aM .Eq) (rEqN X.K r):=by
 intro pins s σ H x y v u Q I rx ry h;rcases h with ⟨a,b,xs,rfl,rfl,ha,hb,hn,q⟩|h
 ·cases rx;cases ry;obtain⟨its,r1,p,_⟩:=I.list (.inl (.inl ha));obtain⟨its',r2,p',_⟩:=I.list (.inl (.inl hb));cases r2;refine i6 p.isList p'.isList ?_ (by omega) (n6 I q rfl);cases r1 with
  |nil=>exact ak rfl hn
  |cons _ _=>simp
 ·exact h0 pins s σ H x y v u Q I rx ry h
def dEqN:D->D->Option D
 |.lst (_::_),.lst []=>some (.bl false)
 |x,y=>dEq false x y
theorem od_eqN{r:R2}(h0:OpD G r (dEq false)):OpD G (rEqN G.K r) dEqN:=λx y z H0 H v u Q e s rx ry k=>by
 unfold dEqN at e;split at e
 ·cases e;have rx:=Rep.mono s _ _ rx;have ry:=Rep.mono s _ _ ry;unfold Rep at rx ry;obtain⟨a,xs,rfl,h1,h2⟩:=rx;obtain⟨b,ys,rfl,h3,h4⟩:=ry;unfold nt at h2 h4;subst h4;obtain⟨_,_,rfl,_⟩:=h2;exact .inl ⟨a,b,_,rfl,rfl,h1,h3,(by intro z;cases z),k _ λ_ _=>pZ _⟩
 ·exact .inr (h0 x y z H0 H v u Q e s rx ry k)
instance inN9:CmC .Eq dEqN:=⟨λX G h u=>by
 obtain⟨r,o1,o2⟩:=in9.p X G h u;exact⟨rEqN G.K r,by rw[<-h];exact op_eqN u o1,od_eqN o2⟩⟩
end
end L4
namespace K09x
open PySem L2 L3 L4
abbrev D:=L4.D
def top(i:Nat):Stmt:=PySem.Challenge.pw_tellworld_k09_rules_that_are_none.main.body.getD i (.Pass ⟨0,0,0,0⟩)
def rD:Nat->Bool:=λc=>c==14
def vM:Nat->Bool:=λc=>c==13
def vc:Nat->Bool:=λc=>c==2
def AN:Nat->Bool:=λc=>c==9
def pD:Nat->Bool:=λc=>c==2
def uG:Nat->Bool:=λc=>c==14
def vd:Nat->Bool:=λc=>c==14
def oH:Nat->Bool:=λc=>c==0||c==7
def tW:Nat->Bool:=λc=>c==1
def sR:Nat->Bool:=λc=>c==14
def nN:Nat->Bool:=λc=>c==0||c==1||c==2
def EW:Nat->Bool:=λc=>c==10
def AO:Nat->Bool:=λc=>c==10
def p8:Nat->Bool:=λc=>c==2
def tX:Nat->Bool:=λc=>c==3||c==11
def sS:Nat->Bool:=λc=>c==13
def rE:Nat->Bool:=λc=>c==14
def tY:Nat->Bool:=λc=>c==14
def qg:Nat->Bool:=λc=>c==0||c==1
def qU:Nat->Bool:=λc=>c==3||c==4||c==5||c==6||c==7||c==11||c==12
def xW:Nat->Bool:=λc=>c==13
def ve:Nat->Bool:=λc=>c==13
def sD:Nat->Bool:=λc=>c==14
def xX:Nat->Bool:=λc=>c==6||c==12
def p9:Nat->Bool:=λc=>c==13
def sT:Nat->Bool:=λc=>c==14
def CZ:Nat->Bool:=λc=>c==8
def pf:Nat->Bool:=λc=>c==0
def rJ:Nat->Bool:=λc=>c==14
abbrev Pf:Ty->Option Bool:=qT 16 3
abbrev BK:Ty->Option Bool:=qT 16 10
abbrev IR:Ty->Option Bool:=qT 16 4
abbrev D4:Ty->Option Bool:=qT 16 7
abbrev EX:Ty->Option Bool:=qT 16 15
abbrev IS:Ty->Option Bool:=qT 16 1
abbrev zO:Ty->Option Bool:=qT 16 6
abbrev BL:Ty->Option Bool:=qT 16 11
abbrev EY:Ty->Option Bool:=qT 16 9
abbrev EZ:Ty->Option Bool:=qT 16 12
abbrev D5:Ty->Option Bool:=qT 16 13
abbrev D6:Ty->Option Bool:=qT 16 5
abbrev BM:Ty->Option Bool:=qT 16 0
abbrev IT:Ty->Option Bool:=qT 16 2
abbrev D7:Ty->Option Bool:=qT 16 8
def r6:L4.D:=(D.tup [(D.str "room"),(D.str "plain"),(D.str "fixed"),(D.str "box"),(D.str "lamp"),(D.str "you")])
def E1:L4.D:=(D.tup [(D.str "alone"),(D.str "one"),(D.str "two"),(D.str "way")])
def sU:L4.D:=(D.tup [(D.str "room"),(D.str "box"),(D.str "you")])
def sV:L4.D:=(D.tup [(D.str "box"),(D.str "lamp")])
def vZ:L4.D:=(D.tup [(D.str "room"),(D.str "you")])
def vg:L4.D:=(D.int 8)
def vh:L4.D:=(D.int 12)
def zP:L4.D:=(D.tup [(D.str "it"),(D.str "other"),(D.str "here"),(D.str "the"),(D.str "a"),(D.str "undo"),(D.str "restart")])
def zQ:L4.D:=(D.tup [(D.str "the"),(D.str "a")])
def ux:L4.D:=(D.int 5)
def tI:L4.D:=(D.int 7)
def xa:L4.D:=(D.int 4)
def vm:L4.D:=(D.int 3)
def vn:L4.D:=(D.int 10)
def xc:L4.D:=(D.int 6)
def xf:L4.D:=(D.int 4)
def pQ:L4.D:=(D.tup [(D.str "the"),(D.str "a"),(D.str "undo"),(D.str "restart")])
def xg:L4.D:=(D.int 5)
def xh:L4.D:=(D.int 4)
def yp:L4.D:=(D.int 4)
def xi:L4.D:=(D.int 60)
def sW:L4.D:=(D.int 3)
def xj:L4.D:=(D.int 20)
def sE:FS:=(nT (oP (c1 (nZ (oZ "str")) (cV 0)) (oP (qo rl rl (cC (.int 1)) (c1 pX (cV 0)) (cV 1)) (c1 qd (cL (nJ 1 [] (iS (cV 0)) (gN 0) oK (qo HF HF (cS "a") (cV 0) (cS "z"))))))))
def qE:=fnD 2 2 sE
def AQ:FS:=(nT (oP (m7 qE (aCons (cV 0) (a1 (cC vg)))) (c2 (dIn true) (cV 0) (cC zP))))
def ox:=fnD 1 1 AQ
def AR:FS:=(nT (oP (m7 qE (aCons (cV 0) (a1 (cC vh)))) (c2 (dIn true) (cV 0) (cC zQ))))
def qh:=fnD 1 1 AR
def yq:FS:=(nT (oP (c1 (nZ (oZ "str")) (cV 0)) (c2 (dIn false) (cV 0) (cV 1))))
def n8:=fnD 2 2 yq
def zR:FS:=(nT (oP (c1 (nZ (oZ "int")) (cV 0)) (yT (c1 (nZ (oZ "bool")) (cV 0)))))
def qF:=fnD 1 1 zR
def uH:FS:=(nT (oP (c1 (nZ (oZ "list")) (cV 0)) (c2 rl (c1 pX (cV 0)) (cV 1))))
def oo:=fnD 2 2 uH
def zS:FS:=(nT (cIf (cT (c1 (nZ (oZ "list")) (cV 0))) (cL (uU (cV 0))) (cV 0)))
def wz:=fnD 1 1 zS
def uy:FS:=(ni (n4 0 0 "name" (cV 1))
 (ni (n4 0 0 "words" (cV 2))
 (ni (n4 0 0 "kind" (cV 3))
 (n4 0 0 "start" (cV 4)))))
def pE:=fnI 0 4 5 uy
def yt:FS:=(ni (n4 1 0 "name" (cV 1))
 (ni (n4 1 0 "start" (cV 2))
 (n4 1 0 "most" (cV 3))))
def vo:=fnI 1 3 4 yt
def vp:FS:=(ni (n4 2 0 "name" (cV 1))
 (ni (n4 2 0 "others" (cIf (cT (c2 yU (cV 2) (cC D.non))) (nO oe) (cV 2)))
 (ni (n4 2 0 "form" (cV 3))
 (n4 2 0 "joining" (cV 4)))))
def o3:=fnI 2 4 5 vp
def AS:FS:=(ni (n4 3 0 "term" (cV 1))
 (n4 3 0 "place" (cV 2)))
def pL:=fnI 3 2 3 AS
def zT:FS:=(n4 4 0 "term" (cV 1))
def qa:=fnI 4 1 2 zT
def yu:FS:=(n4 5 0 "term" (cV 1))
def sX:=fnI 5 1 2 yu
def v3:FS:=(ni (n4 6 0 "term" (cV 1))
 (n4 6 0 "value" (cV 2)))
def nQ:=fnI 6 2 3 v3
def yw:FS:=(ni (n4 7 0 "term" (cV 1))
 (n4 7 0 "kind" (cV 2)))
def oU:=fnI 7 2 3 yw
def yx:FS:=(n4 8 0 "word" (cV 1))
def rO:=fnI 8 1 2 yx
def zU:FS:=(n4 9 0 "inner" (cV 1))
def nR:=fnI 9 1 2 zU
def yy:FS:=(ni (n4 10 0 "one" (cV 1))
 (n4 10 0 "other" (cV 2)))
def qH:=fnI 10 2 3 yy
def yz:FS:=(ni (n4 11 0 "term" (cV 1))
 (n4 11 0 "place" (cV 2)))
def nW:=fnI 11 2 3 yz
def zV:FS:=(ni (n4 12 0 "term" (cV 1))
 (n4 12 0 "value" (cV 2)))
def om:=fnI 12 2 3 zV
def vq:FS:=(ni (n4 13 0 "verb" (cV 1))
 (ni (n4 13 0 "tests" (m7 wz (a1 (cV 2))))
 (ni (n4 13 0 "deeds" (m7 wz (a1 (cV 3))))
 (ni (n4 13 0 "text" (cV 4))
 (n4 13 0 "refuses" (cV 5))))))
def og:=fnI 13 5 6 vq
def tZ:FS:=(nT (c2 (dIn false) (c1 (nE oH "kind") (cV 0)) (cC sU)))
def rF:=fnD 1 1 tZ
def o7:Nat->Option (List D->Option D):=λc=>match c with
 |0=>some rF
 |_=>none
def ua:FS:=(nT (c2 (dIn false) (c1 (nE oH "kind") (cV 0)) (cC sV)))
def ub:=fnD 1 1 ua
def pM:Nat->Option (List D->Option D):=λc=>match c with
 |0=>some ub
 |_=>none
def sF:FS:=(nT (c2 (dIn true) (c1 (nE oH "kind") (cV 0)) (cC vZ)))
def sG:=fnD 1 1 sF
def rG:Nat->Option (List D->Option D):=λc=>match c with
 |0=>some sG
 |_=>none
def uI:FS:=(sIf (px (cT (cV 0))) (sRz (a1 (cV 1))) ou)
def m8:=fnX 2 2 uI
def zW:FS:=(nT (c1 pX (cL (nJ 1 [1] (iL (cV 0)) (gN 0) (cT (c2 (dEq false) (c1 (nE oH "kind") (cV 0)) (cV 1))) (cV 0)))))
def rH:=fnD 2 2 zW
def xk:FS:=(p6 (nJ 1 [] (iL (cV 0)) (gN 0) (cT (pz rG "is_plainly" (cV 0) oe)) (cV 0)))
def pR:=fnN 1 1 xk
def AU:FS:=(ni (sIf (rp (px (cT (c1 (nZ IS) (cV 0)))) (rp (px (cT (m7 qF (a1 (c1 (nE qg "start") (cV 0)))))) (px (cT (m7 qF (a1 (c1 (nE tW "most") (cV 0)))))))) (nT (cC (.bl false))) ou)
 (nT (oP (qo rl rl (cC (.int 1)) (c1 (nE tW "most") (cV 0)) (cC vm)) (qo rl rl (cC (.int 0)) (c1 (nE qg "start") (cV 0)) (c1 (nE tW "most") (cV 0))))))
def AV:=fnD 1 1 AU
def vt:FS:=(ni (sNb (oM 1 (oP (c1 (nZ (oZ "list")) (cV 0)) (c1 qd (cL (nJ 1 [] (iL (cV 0)) (gN 0) oK (c1 (nZ BM) (cV 0))))))))
 (ni (sXp m8 (aCons (cV 1) (a1 (cS "things are a list of things"))))
 (ni (sXp m8 (aCons (c1 qd (cL (nJ 1 [] (iL (cV 0)) (gN 0) oK (m7 n8 (aCons (c1 (nE oH "kind") (cV 0)) (a1 (cC r6))))))) (a1 (cS "a thing is of no kind"))))
 (ni (sXp m8 (aCons (qo rl rl (cC (.int 1)) (m7 rH (aCons (cV 0) (a1 (cS "room")))) (cC ux)) (a1 (cS "a world has 1 to 5 rooms"))))
 (ni (sXp m8 (aCons (c2 (dEq false) (m7 rH (aCons (cV 0) (a1 (cS "you")))) (cC (.int 1))) (a1 (cS "a world has just one you"))))
 (sXp m8 (aCons (c2 rl (c1 pX (cL (o4 pR (a1 (cV 0))))) (cC tI)) (a1 (cS "a world has at most 7 things beside rooms and you")))))))))
def qV:=fnX 1 2 vt
def v7:FS:=(ni (sNb (oM 1 (oP (m7 oo (aCons (cV 0) (a1 (cC xa)))) (c1 qd (cL (nJ 1 [] (iL (cV 0)) (gN 0) oK (m7 AV (a1 (cV 0)))))))))
 (sXp m8 (aCons (cV 1) (a1 (cS "marks are a list of at most 4 marks, each from 0 to at most 3")))))
def tJ:=fnX 1 2 v7
def xl:FS:=(nT (c2 (dEq false) (c1 (w5 BJ) (cV 0)) (c1 pX (cV 0))))
def oB:=fnD 1 1 xl
def qu:FS:=(ni (sNb (oM 2 (cL (oR (cL (nJ 1 [] (iL (cV 0)) (gN 0) oK (c1 (nE nN "name") (cV 0)))) (cL (nJ 1 [] (iL (cV 1)) (gN 0) oK (c1 (nE nN "name") (cV 0))))))))
 (ni (sXp m8 (aCons (c1 qd (cL (nJ 1 [] (iL (cV 2)) (gN 0) oK (m7 ox (a1 (cV 0)))))) (a1 (cS "a name is no name"))))
 (sXp m8 (aCons (m7 oB (a1 (cV 2))) (a1 (cS "two things or marks have one name"))))))
def pV:=fnX 2 3 qu
def xm:FS:=(p6 (oR (cL (nJ 1 [] (iL (cV 0)) (gN 0) (cT (pz pM "has_mark" (cV 0) oe)) (c1 (nE nN "name") (cV 0)))) (cL (nJ 1 [] (iL (cV 1)) (gN 0) oK (c1 (nE nN "name") (cV 0))))))
def qW:=fnN 2 2 xm
def wB:FS:=(ni (sIf (cT (c2 (dEq false) (c1 (nE oH "kind") (cV 1)) (cS "room"))) (nT (c2 yU (c1 (nE qg "start") (cV 1)) (cC D.non))) ou)
 (ni (sIf (cT (c2 (dEq false) (c1 (nE oH "kind") (cV 1)) (cS "you"))) (nT (m7 n8 (aCons (c1 (nE qg "start") (cV 1)) (a1 (cL (nJ 1 [] (iL (cV 0)) (gN 0) (cT (c2 (dEq false) (c1 (nE oH "kind") (cV 0)) (cS "room"))) (c1 (nE nN "name") (cV 0)))))))) ou)
 (nT (m7 n8 (aCons (c1 (nE qg "start") (cV 1)) (a1 (cL (nJ 1 [] (iL (cV 0)) (gN 0) (cT (pz o7 "can_hold" (cV 0) oe)) (c1 (nE nN "name") (cV 0))))))))))
def wC:=fnD 2 2 wB
def uJ:FS:=(ni (oM 2 (c2 vW (cV 0) (cV 1)))
 (ni (qt (iR1 (c1 pX (cV 0))) (gN 3) (ni (sIf (cT (c2 yU (cV 2) (cC D.non))) (nT (cC (.bl true))) ou)
 (oM 2 (c2 vW (cV 0) (cV 2)))))
 (nT (c2 yU (cV 2) (cC D.non)))))
def oJ:=fnD 2 4 uJ
def qX:FS:=(ni (sXp m8 (aCons (c1 qd (cL (nJ 1 [0] (iL (cV 0)) (gN 0) oK (m7 wC (aCons (cV 1) (a1 (cV 0))))))) (a1 (cS "a start is none"))))
 (ni (sNb (AG 1))
 (ni (sNb (qt (iL (cV 0)) (gN 2) (rQ 1 (c1 (nE nN "name") (cV 2)) (c1 (nE qg "start") (cV 2)))))
 (sXp m8 (aCons (c1 qd (cL (nJ 1 [1] (iD (cFz 1)) (gN 0) oK (m7 oJ (aCons (cV 1) (a1 (cV 0))))))) (a1 (cS "a thing starts within itself")))))))
def qb:=fnX 1 3 qX
def yA:FS:=(ni (sIf (rp (px (cT (c1 (nZ (oZ "tuple")) (cV 0)))) (px (cT (qo rl rl (cC (.int 1)) (c1 pX (cV 0)) (cC xf))))) (nT (cC (.bl false))) ou)
 (nT (oP (c1 qd (cL (nJ 1 [] (iT (cV 0)) (gN 0) oK (m7 qh (a1 (cV 0)))))) (m7 oB (a1 (cV 0))))))
def qI:=fnD 1 1 yA
def AW:FS:=(nT (c1 qd (cL (nJ 1 [0] (iT (cV 1)) (gN 0) oK (c2 (dIn false) (cV 0) (cV 1))))))
def qJ:=fnD 2 2 AW
def rR:FS:=(ni (oM 2 (cL (nJ 1 [1] (iL (cV 0)) (gN 0) (cT (c2 (dEq true) (c1 (nE nN "name") (cV 0)) (c1 (nE nN "name") (cV 1)))) (cV 0))))
 (nT (yT (c1 zC (cL (nJ 1 [1] (iL (cV 2)) (gN 0) oK (m7 qJ (aCons (c1 (nE pf "words") (cV 0)) (a1 (c1 (nE pf "words") (cV 1)))))))))))
def pU:=fnD 2 3 rR
def oF:FS:=(ni (sXp m8 (aCons (c1 qd (cL (nJ 1 [] (iL (cV 0)) (gN 0) oK (m7 qI (a1 (c1 (nE pf "words") (cV 0))))))) (a1 (cS "a thing has 1 to 4 unlike words, as a tuple"))))
 (ni (sNb (oM 1 (cL (o4 pR (a1 (cV 0))))))
 (sXp m8 (aCons (c1 qd (cL (nJ 1 [1] (iL (cV 1)) (gN 0) oK (m7 pU (aCons (cV 1) (a1 (cV 0))))))) (a1 (cS "one thing has all words of another"))))))
def oj:=fnX 1 2 oF
def xn:FS:=(ni (sNb (oM 2 (oP (c1 (nZ (oZ "list")) (cV 0)) (oP (c1 qd (cL (nJ 1 [1] (iL (cV 0)) (gN 0) oK (m7 n8 (aCons (cV 0) (a1 (cV 1))))))) (m7 oB (a1 (cV 0)))))))
 (sXp m8 (aCons (cV 2) (a1 (cS "dark is a list of rooms' names, each once")))))
def uz:=fnX 2 3 xn
def zX:FS:=(ni (sIf (rp (px (cT (c1 (nZ (oZ "tuple")) (cV 0)))) (cT (c2 (dEq true) (c1 pX (cV 0)) (cC (.int 4))))) (nT (cC (.bl false))) ou)
 (ni (oM 3 (cOr (c2 yU (c2 dIx (cV 0) (cC (.int 3))) (cC D.non)) (m7 n8 (aCons (c2 dIx (cV 0) (cC (.int 3))) (a1 (cV 2))))))
 (nT (oP (m7 n8 (aCons (c2 dIx (cV 0) (cC (.int 0))) (a1 (cV 1)))) (oP (m7 qh (a1 (c2 dIx (cV 0) (cC (.int 1))))) (oP (m7 n8 (aCons (c2 dIx (cV 0) (cC (.int 2))) (a1 (cV 1)))) (cV 3)))))))
def xp:=fnD 3 4 zX
def r9:FS:=(ni (sNb (oM 3 (oP (m7 oo (aCons (cV 0) (a1 (cC vn)))) (c1 qd (cL (nJ 1 [1,2] (iL (cV 0)) (gN 0) oK (m7 xp (aCons (cV 0) (aCons (cV 1) (a1 (cV 2)))))))))))
 (ni (sXp m8 (aCons (cV 3) (a1 (cS "ways are a list of at most 10 tuples (room, word, room, mark)"))))
 (sXp m8 (aCons (m7 oB (a1 (cL (nJ 1 [] (iL (cV 0)) (gN 0) oK (nO (aCons (c2 dIx (cV 0) (cC (.int 0))) (a1 (c2 dIx (cV 0) (cC (.int 1)))))))))) (a1 (cS "two ways lead from one room by one word"))))))
def qY:=fnX 3 4 r9
def AX:FS:=(ni (sIf (rp (px (cT (c1 (nZ IT) (cV 0)))) (rp (px (cT (m7 ox (a1 (c1 (nE nN "name") (cV 0)))))) (px (cT (c1 (nZ (oZ "tuple")) (c1 (nE p8 "others") (cV 0))))))) (nT (cC (.bl false))) ou)
 (ni (sIf (rp (px (cT (c1 qd (cL (nJ 1 [] (iT (c1 (nE p8 "others") (cV 0))) (gN 0) oK (m7 ox (a1 (cV 0)))))))) (px (cT (m7 n8 (aCons (c1 (nE vc "form") (cV 0)) (a1 (cC E1))))))) (nT (cC (.bl false))) ou)
 (nT (cIf (cT (c2 (dEq false) (c1 (nE vc "form") (cV 0)) (cS "two"))) (m7 qh (a1 (c1 (nE pD "joining") (cV 0)))) (c2 yU (c1 (nE pD "joining") (cV 0)) (cC D.non))))))
def AY:=fnD 1 1 AX
def v8:FS:=(ni (sNb (oM 1 (oP (m7 oo (aCons (cV 0) (a1 (cC xc)))) (c1 qd (cL (nJ 1 [] (iL (cV 0)) (gN 0) oK (m7 AY (a1 (cV 0)))))))))
 (sXp m8 (aCons (cV 1) (a1 (cS "verbs are a list of at most 6 verbs")))))
def tK:=fnX 1 2 v8
def yB:FS:=(nT (yT (c1 zC (cL (nJ 1 [1] (iL (cV 0)) (gN 0) oK (c2 (dIn false) (cV 0) (cV 1)))))))
def oV:=fnD 2 2 yB
def pS:FS:=(ni (sNb (oY 3 (nH oe)))
 (ni (sNb (qt (iL (cL (o4 pR (a1 (cV 0))))) (gN 4) (pb (uY 3 (c1 (nE pf "words") (cV 4))))))
 (ni (sNb (oY 5 (nH oe)))
 (ni (sNb (qt (iL (cV 2)) (gN 6) (pb (uY 5 (yj (nO (a1 (c1 (nE nN "name") (cV 6)))) (c1 (nE p8 "others") (cV 6)))))))
 (ni (sNb (oM 7 (cL (oR (cL (nJ 1 [] (iL (cV 2)) (gN 0) (cT (c2 sP (c1 (nE pD "joining") (cV 0)) (cC D.non))) (c1 (nE pD "joining") (cV 0)))) (cL (nJ 1 [] (iL (cV 1)) (gN 0) oK (c2 dIx (cV 0) (cC (.int 1)))))))))
 (ni (sXp m8 (aCons (m7 oB (a1 (cFz 5))) (a1 (cS "two verbs' names are alike"))))
 (ni (sXp m8 (aCons (m7 oV (aCons (cL (oR (cFz 5) (cV 7))) (a1 (cFz 3)))) (a1 (cS "a verb's, way's or joining word is a word of a thing"))))
 (ni (sXp m8 (aCons (m7 oV (aCons (cL (oR (cFz 5) (cV 7))) (a1 (cC pQ)))) (a1 (cS "the, a, undo or restart is a word of the world"))))
 (sXp m8 (aCons (m7 oV (aCons (cV 7) (a1 (cFz 5)))) (a1 (cS "a way's or joining word is a verb's name"))))))))))))
def o8:=fnX 3 8 pS
def tL:FS:=(ni (sXp qV (a1 (cV 0)))
 (ni (sXp tJ (a1 (cV 1)))
 (ni (sXp pV (aCons (cV 0) (a1 (cV 1))))
 (ni (sXp qb (a1 (cV 0)))
 (ni (sXp oj (a1 (cV 0)))
 (ni (sNb (oM 6 (cL (nJ 1 [] (iL (cV 0)) (gN 0) (cT (c2 (dEq false) (c1 (nE oH "kind") (cV 0)) (cS "room"))) (c1 (nE nN "name") (cV 0))))))
 (ni (sXp uz (aCons (cV 2) (a1 (cV 6))))
 (ni (sXp qY (aCons (cV 3) (aCons (cV 6) (a1 (cL (o4 qW (aCons (cV 0) (a1 (cV 1)))))))))
 (ni (sXp tK (a1 (cV 4)))
 (sXp o8 (aCons (cV 0) (aCons (cV 3) (a1 (cL (oR (cV 4) (cV 5))))))))))))))))
def rK:=fnX 6 7 tL
def IU:FS:=(nT (nh 13 (λds=>og (ds++[])) (aCons (cV 0) (aCons (cV 1) (aCons (cV 2) (aCons (cV 3) (a1 (cC (.bl false)))))))))
def tN:=fnD 4 4 IU
def AZ:FS:=(nT (nh 13 (λds=>og (ds++[])) (aCons (cV 0) (aCons (cV 1) (aCons (cL (nH oe)) (aCons (cV 2) (a1 (cC (.bl true)))))))))
def oI:=fnD 3 3 AZ
def xq:FS:=(p6 (nH (aCons (m7 oI (aCons (cS "take") (aCons (cL (nH (a1 (nh 7 (λds=>oU (ds++[])) (aCons (cS "it") (a1 (cS "fixed"))))))) (a1 (cS "That stays."))))) (aCons (m7 oI (aCons (cS "take") (aCons (cL (nH (a1 (nh 3 (λds=>pL (ds++[])) (aCons (cS "it") (a1 (cV 0))))))) (a1 (cS "You have that."))))) (aCons (m7 tN (aCons (cS "take") (aCons (cL (nH oe)) (aCons (cL (nH (a1 (nh 11 (λds=>nW (ds++[])) (aCons (cS "it") (a1 (cV 0))))))) (a1 (cS "Taken.")))))) (aCons (m7 tN (aCons (cS "drop") (aCons (cL (nH (a1 (nh 4 (λds=>qa (ds++[])) (a1 (cS "it")))))) (aCons (cL (nH (a1 (nh 11 (λds=>nW (ds++[])) (aCons (cS "it") (a1 (cS "here"))))))) (a1 (cS "Dropped.")))))) (a1 (m7 oI (aCons (cS "drop") (aCons (cL (nH oe)) (a1 (cS "You lack that."))))))))))))
def xu:=fnN 1 1 xq
def yC:FS:=(p6 (nH (aCons (m7 oI (aCons (cS "put") (aCons (cL (nH (a1 (nh 9 (λds=>nR (ds++[])) (a1 (nh 4 (λds=>qa (ds++[])) (a1 (cS "it")))))))) (a1 (cS "You lack that."))))) (aCons (m7 oI (aCons (cS "put") (aCons (cL (nH (a1 (nh 9 (λds=>nR (ds++[])) (a1 (nh 7 (λds=>oU (ds++[])) (aCons (cS "other") (a1 (cS "box"))))))))) (a1 (cS "It holds nothing."))))) (aCons (m7 oI (aCons (cS "put") (aCons (cL (nH (a1 (nh 6 (λds=>nQ (ds++[])) (aCons (cS "other") (a1 (cC (.int 0)))))))) (a1 (cS "It is shut."))))) (a1 (m7 tN (aCons (cS "put") (aCons (cL (nH oe)) (aCons (cL (nH (a1 (nh 11 (λds=>nW (ds++[])) (aCons (cS "it") (a1 (cS "other"))))))) (a1 (cS "Done."))))))))))))
def yD:=fnN 0 0 yC
def yE:FS:=(p6 (nH (aCons (m7 oI (aCons (cS "open") (aCons (cL (nH (a1 (nh 9 (λds=>nR (ds++[])) (a1 (nh 7 (λds=>oU (ds++[])) (aCons (cS "it") (a1 (cS "box"))))))))) (a1 (cS "It has no lid."))))) (aCons (m7 oI (aCons (cS "open") (aCons (cL (nH (a1 (nh 6 (λds=>nQ (ds++[])) (aCons (cS "it") (a1 (cC (.int 1)))))))) (a1 (cS "It is open."))))) (aCons (m7 tN (aCons (cS "open") (aCons (cL (nH oe)) (aCons (cL (nH (a1 (nh 12 (λds=>om (ds++[])) (aCons (cS "it") (a1 (cC (.int 1)))))))) (a1 (cS "Opened.")))))) (aCons (m7 oI (aCons (cS "shut") (aCons (cL (nH (a1 (nh 9 (λds=>nR (ds++[])) (a1 (nh 7 (λds=>oU (ds++[])) (aCons (cS "it") (a1 (cS "box"))))))))) (a1 (cS "It has no lid."))))) (aCons (m7 oI (aCons (cS "shut") (aCons (cL (nH (a1 (nh 6 (λds=>nQ (ds++[])) (aCons (cS "it") (a1 (cC (.int 0)))))))) (a1 (cS "It is shut."))))) (a1 (m7 tN (aCons (cS "shut") (aCons (cL (nH oe)) (aCons (cL (nH (a1 (nh 12 (λds=>om (ds++[])) (aCons (cS "it") (a1 (cC (.int 0)))))))) (a1 (cS "Shut."))))))))))))))
def yF:=fnN 0 0 yE
def wa:FS:=(p6 (nH (aCons (m7 oI (aCons (cS "light") (aCons (cL (nH (a1 (nh 9 (λds=>nR (ds++[])) (a1 (nh 7 (λds=>oU (ds++[])) (aCons (cS "it") (a1 (cS "lamp"))))))))) (a1 (cS "It burns not."))))) (aCons (m7 oI (aCons (cS "light") (aCons (cL (nH (a1 (nh 6 (λds=>nQ (ds++[])) (aCons (cS "it") (a1 (cC (.int 1)))))))) (a1 (cS "It is lit."))))) (aCons (m7 tN (aCons (cS "light") (aCons (cL (nH oe)) (aCons (cL (nH (a1 (nh 12 (λds=>om (ds++[])) (aCons (cS "it") (a1 (cC (.int 1)))))))) (a1 (cS "Lit.")))))) (aCons (m7 oI (aCons (cS "douse") (aCons (cL (nH (a1 (nh 9 (λds=>nR (ds++[])) (a1 (nh 7 (λds=>oU (ds++[])) (aCons (cS "it") (a1 (cS "lamp"))))))))) (a1 (cS "It burns not."))))) (aCons (m7 oI (aCons (cS "douse") (aCons (cL (nH (a1 (nh 6 (λds=>nQ (ds++[])) (aCons (cS "it") (a1 (cC (.int 0)))))))) (a1 (cS "It is out."))))) (a1 (m7 tN (aCons (cS "douse") (aCons (cL (nH oe)) (aCons (cL (nH (a1 (nh 12 (λds=>om (ds++[])) (aCons (cS "it") (a1 (cC (.int 0)))))))) (a1 (cS "Doused."))))))))))))))
def wb:=fnN 0 0 wa
def yG:FS:=(ni (oY 2 (nH (aCons (nh 3 (λds=>pL (ds++[])) (aCons (cV 0) (a1 (c2 dIx (cV 1) (cC (.int 0)))))) (a1 (nh 8 (λds=>rO (ds++[])) (a1 (c2 dIx (cV 1) (cC (.int 1)))))))))
 (ni (sIf (cT (c2 sP (c2 dIx (cV 1) (cC (.int 3))) (cC D.non))) (pb (sr 2 (nh 9 (λds=>nR (ds++[])) (a1 (nh 6 (λds=>nQ (ds++[])) (aCons (c2 dIx (cV 1) (cC (.int 3))) (a1 (cC (.int 0))))))))) ou)
 (p6 (Ku 2))))
def yH:=fnN 2 3 yG
def zY:FS:=(ni (oM 2 (cL (nJ 1 [0] (iL (cV 1)) (gN 0) oK (m7 tN (aCons (cS "go") (aCons (cL (o4 yH (aCons (cV 1) (a1 (cV 0))))) (aCons (cL (nH (a1 (nh 11 (λds=>nW (ds++[])) (aCons (cV 1) (a1 (c2 dIx (cV 0) (cC (.int 2))))))))) (a1 (cS "You go.")))))))))
 (p6 (oR (cV 2) (cL (nH (a1 (m7 oI (aCons (cS "go") (aCons (cL (nH oe)) (a1 (cS "No way there.")))))))))))
def zZ:=fnN 2 3 zY
def xw:FS:=(p6 (nH (a1 (m7 tN (aCons (cS "wait") (aCons (cL (nH oe)) (aCons (cL (nH oe)) (a1 (cS "Time goes by.")))))))))
def xy:=fnN 0 0 xw
def vv:FS:=(p6 (oR (cL (oR (cL (oR (cL (oR (cL (oR (cL (o4 xu (a1 (cV 0)))) (cL (o4 yD oe)))) (cL (o4 yF oe)))) (cL (o4 wb oe)))) (cL (o4 zZ (aCons (cV 0) (a1 (cV 1))))))) (cL (o4 xy oe))))
def qZ:=fnN 2 2 vv
def vw:FS:=(p6 (oR (cL (nJ 1 [] (iT (nO (aCons (cS "take") (aCons (cS "drop") (aCons (cS "open") (aCons (cS "shut") (aCons (cS "light") (a1 (cS "douse"))))))))) (gN 0) oK (nh 2 (λds=>o3 (ds++[D.non,(D.str "one"),D.non])) (a1 (cV 0))))) (cL (nH (aCons (nh 2 (λds=>o3 (ds++[])) (aCons (cS "put") (aCons (nO oe) (aCons (cS "two") (a1 (cS "in")))))) (aCons (nh 2 (λds=>o3 (ds++[D.non])) (aCons (cS "go") (aCons (nO oe) (a1 (cS "way"))))) (a1 (nh 2 (λds=>o3 (ds++[D.non])) (aCons (cS "wait") (aCons (nO oe) (a1 (cS "alone"))))))))))))
def q8:=fnN 0 0 vw
def xY:FS:=(ni (AG 1)
 (ni (qt (iL (cV 0)) (gN 2) (rQ 1 (c1 (nE nN "name") (cV 2)) (cV 2)))
 (nT (cFz 1))))
def xZ:=fnD 1 3 xY
def rS:FS:=(ni (AG 2)
 (ni (qt (iL (cV 0)) (gN 3) (sIf (cT (pz pM "has_mark" (cV 3) oe)) (rQ 2 (c1 (nE nN "name") (cV 3)) (cC (.int 1))) ou))
 (ni (qt (iL (cV 1)) (gN 4) (rQ 2 (c1 (nE nN "name") (cV 4)) (c1 (nE tW "most") (cV 4))))
 (nT (cFz 2)))))
def rT:=fnD 2 5 rS
def uK:FS:=(ni (AG 1)
 (ni (qt (iL (cV 0)) (gN 2) (qt (iT (yj (nO (a1 (c1 (nE nN "name") (cV 2)))) (c1 (nE p8 "others") (cV 2)))) (gN 3) (rQ 1 (cV 3) (cV 2))))
 (nT (cFz 1))))
def rV:=fnD 1 4 uK
def A0:FS:=(D1 (nE p9 "verb"))
def x6:=fnD 1 3 A0
def uL:FS:=(p6 (nJ 1 [1] (iL (c1 (nE uG "kept_things") (cV 0))) (gN 0) (cT (c2 (dEq false) (c1 (nE oH "kind") (cV 0)) (cV 1))) (c1 (nE nN "name") (cV 0))))
def rW:=fnD 2 2 uL
def tO:Nat->Option (List D->Option D):=λc=>match c with
 |14=>some rW
 |_=>none
def sY:FS:=(p6 (oR (c1 (nE vd "kept_verbs") (cV 0)) (c1 (nE tY "shared_verbs") (cV 0))))
def xA:=fnD 1 1 sY
def rX:Nat->Option (List D->Option D):=λc=>match c with
 |14=>some xA
 |_=>none
def vx:FS:=(nT (oP (c1 (nZ (oZ "str")) (cV 0)) (c2 (dEq false) (cV 0) (cV 1))))
def q9:=fnD 2 2 vx
def A1:FS:=(nT (nh 13 (λds=>og (ds++[])) (aCons (c1 (nE p9 "verb") (cV 0)) (aCons (c1 (nE xW "tests") (cV 0)) (aCons (c1 (nE vM "deeds") (cV 0)) (aCons (c1 (nE ve "text") (cV 0)) (a1 (c1 (nE sS "refuses") (cV 0)))))))))
def vN:=fnD 1 1 A1
def uc:FS:=(nT (c2 CY (c1 (nE sD "things_by_name") (cV 0)) (cV 1)))
def oO:=fnD 2 2 uc
def sH:Nat->Option (List D->Option D):=λc=>match c with
 |14=>some oO
 |_=>none
def uM:FS:=(nT (c2 vX (c1 (nE sR "mosts_by_name") (cV 0)) (cV 1)))
def qy:=fnD 2 2 uM
def qv:Nat->Option (List D->Option D):=λc=>match c with
 |14=>some qy
 |_=>none
def uN:FS:=(nT (c2 vX (c1 (nE sT "verbs_by_word") (cV 0)) (cV 1)))
def qz:=fnD 2 2 uN
def qw:Nat->Option (List D->Option D):=λc=>match c with
 |14=>some qz
 |_=>none
def yI:FS:=(nT (c1 (nE rJ "your_name") (cV 0)))
def Da:=fnD 1 1 yI
def x8:Nat->Option (List D->Option D):=λc=>match c with
 |14=>some Da
 |_=>none
def uO:FS:=(ni (sIf (cT (m7 q9 (aCons (cV 1) (a1 (cS "it"))))) (nT (c2 (dIn false) (cV 0) (nO (aCons (cS "one") (a1 (cS "two")))))) ou)
 (nT (oP (m7 q9 (aCons (cV 1) (a1 (cS "other")))) (c2 (dEq false) (cV 0) (cS "two")))))
def nU:=fnD 2 2 uO
def A2:FS:=(nT (oP (c2 sP (cV 0) (cC D.non)) (m7 q9 (aCons (cV 1) (a1 (cS "here"))))))
def qj:=fnD 2 2 A2
def E2:FS:=(nT (cIf (cT (c1 (nZ (oZ "str")) (cV 1))) (pz sH "thing_of" (cV 0) (a1 (cV 1))) (cC D.non)))
def ra:=fnD 2 2 E2
def xB:FS:=(nT (oP (c2 sP (m7 ra (aCons (cV 0) (a1 (cV 1)))) (cC D.non)) (c2 (dEq false) (c1 (nE oH "kind") (m7 ra (aCons (cV 0) (a1 (cV 1))))) (cV 2))))
def rb:=fnD 3 3 xB
def A3:FS:=(nT (cOr (m7 nU (aCons (cV 1) (a1 (cV 2)))) (cOr (m7 qj (aCons (cV 1) (a1 (cV 2)))) (c2 sP (m7 ra (aCons (cV 0) (a1 (cV 2)))) (cC D.non)))))
def ud:=fnD 3 3 A3
def wD:FS:=(ni (sIf (rp (cT (m7 nU (aCons (cV 1) (a1 (cV 2))))) (cT (m7 qj (aCons (cV 1) (a1 (cV 2)))))) (nT (cC (.bl true))) ou)
 (nT (oP (c2 sP (m7 ra (aCons (cV 0) (a1 (cV 2)))) (cC D.non)) (pz o7 "can_hold" (m7 ra (aCons (cV 0) (a1 (cV 2)))) oe))))
def sI:=fnD 3 3 wD
def wF:FS:=(ni (sIf (cT (m7 nU (aCons (cV 1) (a1 (cV 2))))) (nT (cC (.bl true))) ou)
 (nT (oP (c2 sP (m7 ra (aCons (cV 0) (a1 (cV 2)))) (cC D.non)) (yT (m7 rb (aCons (cV 0) (aCons (cV 2) (a1 (cS "room")))))))))
def uA:=fnD 3 3 wF
def ph:FS:=(ni (sIf (rp (px (cT (m7 qF (a1 (cV 3))))) (cT (c2 DM (cV 3) (cC (.int 0))))) (nT (cC (.bl false))) ou)
 (ni (sIf (cT (m7 nU (aCons (cV 1) (a1 (cV 2))))) (nT (c2 rl (cV 3) (cC sW))) ou)
 (ni (oM 4 (cIf (cT (c1 (nZ (oZ "str")) (cV 2))) (pz qv "most_of" (cV 0) (a1 (cV 2))) (cC D.non)))
 (nT (oP (c2 sP (cV 4) (cC D.non)) (c2 rl (cV 3) (cV 4)))))))
def pj:=fnD 4 5 ph
def x9:FS:=(ni (sIf (rp (px (cT (m7 uA (aCons (cV 0) (aCons (cV 1) (a1 (c1 (nE qU "term") (cV 2)))))))) (px (cT (m7 sI (aCons (cV 0) (aCons (cV 1) (a1 (c1 (nE tX "place") (cV 2))))))))) (nT (cC (.bl false))) ou)
 (nT (cOr (c2 (dEq true) (c1 (nE qU "term") (cV 2)) (pz x8 "you" (cV 0) oe)) (m7 rb (aCons (cV 0) (aCons (c1 (nE tX "place") (cV 2)) (a1 (cS "room"))))))))
def ya:=fnD 3 3 x9
def A4:FS:=(nT (oP (c1 (nZ (oZ "str")) (cV 0)) (qo rl rl (cC (.int 1)) (c1 pX (cV 0)) (cC xi))))
def qk:=fnD 1 1 A4
def vy:FS:=(nT (oP (m7 ox (a1 (cV 1))) (oP (c2 sP (pz qw "verb_of" (cV 0) (a1 (cV 1))) (cC D.non)) (c2 (dEq false) (c1 (nE nN "name") (pz qw "verb_of" (cV 0) (a1 (cV 1)))) (cV 1)))))
def o9:=fnD 2 2 vy
def sZ:FS:=(nT (oP (c1 (nZ (oZ "bool")) (c1 (nE sS "refuses") (cV 0))) (cOr (yT (c1 (nE sS "refuses") (cV 0))) (c2 dEqN (c1 (nE vM "deeds") (cV 0)) (cL (nH oe))))))
def pF:=fnD 1 1 sZ
def oq:FS:=(ni (sIf (cT (c1 (nZ Pf) (cV 2))) (nT (oP (m7 ud (aCons (cV 0) (aCons (cV 1) (a1 (c1 (nE qU "term") (cV 2)))))) (m7 sI (aCons (cV 0) (aCons (cV 1) (a1 (c1 (nE tX "place") (cV 2)))))))) ou)
 (ni (sIf (cT (c1 (nZ (tOr IR D6)) (cV 2))) (nT (m7 ud (aCons (cV 0) (aCons (cV 1) (a1 (c1 (nE qU "term") (cV 2))))))) ou)
 (ni (sIf (cT (c1 (nZ zO) (cV 2))) (nT (m7 pj (aCons (cV 0) (aCons (cV 1) (aCons (c1 (nE qU "term") (cV 2)) (a1 (c1 (nE xX "value") (cV 2)))))))) ou)
 (ni (sIf (cT (c1 (nZ D4) (cV 2))) (nT (oP (m7 ud (aCons (cV 0) (aCons (cV 1) (a1 (c1 (nE qU "term") (cV 2)))))) (m7 n8 (aCons (c1 (nE oH "kind") (cV 2)) (a1 (cC r6)))))) ou)
 (ni (sIf (cT (c1 (nZ D7) (cV 2))) (nT (oP (c2 (dEq false) (cV 1) (cS "way")) (m7 qh (a1 (c1 (nE CZ "word") (cV 2)))))) ou)
 (nT (c1 (nZ EX) (cV 2))))))))
def qA:=fnD 3 3 oq
def pN(g:List D->Option D):FS:=(ni (sIf (cT (c2 (dEq false) (cV 3) (cC (.int 0)))) (nT (cC (.bl false))) ou)
 (ni (sIf (cT (c1 (nZ EY) (cV 2))) (nT (m7 g (aCons (cV 0) (aCons (cV 1) (aCons (c1 (nE AN "inner") (cV 2)) (a1 (c2 AD (cV 3) (cC (.int 1))))))))) ou)
 (ni (sIf (cT (c1 (nZ BK) (cV 2))) (nT (oP (m7 g (aCons (cV 0) (aCons (cV 1) (aCons (c1 (nE EW "one") (cV 2)) (a1 (c2 AD (cV 3) (cC (.int 1)))))))) (m7 g (aCons (cV 0) (aCons (cV 1) (aCons (c1 (nE AO "other") (cV 2)) (a1 (c2 AD (cV 3) (cC (.int 1)))))))))) ou)
 (nT (m7 qA (aCons (cV 0) (aCons (cV 1) (a1 (cV 2)))))))))
def pq:Nat->List D->Option D
 |0=>fnD 4 4 QD
 |n+1=>fnD 4 4 (pN (pq n))
def sk:FS:=(ni (sIf (cT (c1 (nZ EZ) (cV 2))) (nT (m7 pj (aCons (cV 0) (aCons (cV 1) (aCons (c1 (nE qU "term") (cV 2)) (a1 (c1 (nE xX "value") (cV 2)))))))) ou)
 (nT (oP (c1 (nZ BL) (cV 2)) (m7 ya (aCons (cV 0) (aCons (cV 1) (a1 (cV 2))))))))
def vO:=fnD 3 3 sk
def yJ:FS:=(nT (oP (m7 oo (aCons (cV 2) (a1 (cC xg)))) (c1 qd (cL (nJ 1 [0,1] (iL (cV 2)) (gN 0) oK (m7 (pq 5) (aCons (cV 1) (aCons (cV 2) (aCons (cV 0) (a1 (cC yp)))))))))))
def yK:=fnD 3 3 yJ
def yL:FS:=(nT (oP (m7 oo (aCons (cV 2) (a1 (cC xh)))) (c1 qd (cL (nJ 1 [0,1] (iL (cV 2)) (gN 0) oK (m7 vO (aCons (cV 1) (aCons (cV 2) (a1 (cV 0))))))))))
def yM:=fnD 3 3 yL
def vP:FS:=(ni (sIf (rp (px (cT (c1 (nZ D5) (cV 1)))) (rp (px (cT (m7 o9 (aCons (cV 0) (a1 (c1 (nE p9 "verb") (cV 1))))))) (px (cT (m7 qk (a1 (c1 (nE ve "text") (cV 1)))))))) (nT (cC (.bl false))) ou)
 (ni (oM 2 (c1 (nE vc "form") (pz qw "verb_of" (cV 0) (a1 (c1 (nE p9 "verb") (cV 1))))))
 (nT (oP (m7 yK (aCons (cV 0) (aCons (cV 2) (a1 (c1 (nE xW "tests") (cV 1)))))) (oP (m7 yM (aCons (cV 0) (aCons (cV 2) (a1 (c1 (nE vM "deeds") (cV 1)))))) (m7 pF (a1 (cV 1))))))))
def vQ:=fnD 2 3 vP
def ql:FS:=(ni (sXp rK (aCons (cV 1) (aCons (cV 2) (aCons (cV 3) (aCons (cV 4) (aCons (cV 5) (a1 (cL (o4 q8 oe)))))))))
 (ni (sNb (n4 14 0 "kept_things" (cL (uU (cV 1)))))
 (ni (sNb (n4 14 0 "kept_marks" (cL (uU (cV 2)))))
 (ni (sNb (n4 14 0 "kept_dark" (cL (uU (cV 3)))))
 (ni (sNb (n4 14 0 "kept_ways" (cL (uU (cV 4)))))
 (ni (sNb (n4 14 0 "kept_verbs" (cL (uU (cV 5)))))
 (ni (sNb (n4 14 0 "shared_verbs" (cL (o4 q8 oe))))
 (ni (sNb (n4 14 0 "your_name" (uF 16 (c2 dIx (pz tO "of_kind" (cV 0) (a1 (cS "you"))) (cC (.int 0))))))
 (ni (sNb (n4 14 0 "things_by_name" (m7 xZ (a1 (cV 1)))))
 (ni (sNb (n4 14 0 "mosts_by_name" (m7 rT (aCons (cV 1) (a1 (cV 2))))))
 (ni (sNb (n4 14 0 "verbs_by_word" (uF 16 (m7 rV (a1 (pz rX "all_verbs" (cV 0) oe))))))
 (ni (sNb (oM 7 (uF 16 (oP (m7 oo (aCons (cV 6) (a1 (cC xj)))) (c1 qd (cL (nJ 1 [0] (iL (cV 6)) (gN 0) oK (m7 vQ (aCons (cV 1) (a1 (cV 0)))))))))))
 (ni (sXp m8 (aCons (cV 7) (a1 (cS "rules are a list of at most 20 rules, each as it may be"))))
 (ni (sNb (n4 14 0 "kept_rules" (cL (uU (cV 6)))))
 (ni (sNb (n4 14 0 "shared_rules" (uF 16 (cL (o4 qZ (aCons (c1 (nE rJ "your_name") (cV 0)) (a1 (cV 4))))))))
 (ni (sNb (n4 14 0 "copied_rules" (cL (nJ 1 [] (iL (cV 6)) (gN 0) oK (m7 vN (a1 (cV 0)))))))
 (sNb (n4 14 0 "rules_by_verb" (uF 16 (m7 x6 (a1 (cL (oR (c1 (nE rD "copied_rules") (cV 0)) (c1 (nE rE "shared_rules") (cV 0)))))))))))))))))))))))))
def oX:=fnXI 14 6 8 ql
def vz:FS:=(ni (sIf (cT (c2 DM (cV 1) (c1 pX (cV 0)))) (nT (c2 dIx (cV 0) (cV 1))) ou)
 (nT (cC (.int 0))))
def qc:=fnD 2 2 vz
def sd:FS:=(ni (sIf (zA (cT (c2 (dEq false) (c1 pX (cV 0)) (cC (.int 1))))) (ni (oM 2 (uo (c2 dIx (cV 0) (cC (.int 0)))))
 (ni (tE 0 0 (c2 sv (cV 2) (c1 Nr (c2 M7 (cV 2) (c2 Cu (cC (.int 10)) (cC (.int 18)))))))
 (pb (Kt 0 (nH (aCons (c2 qm (cV 2) (cC (.int 2147483647))) (a1 (cC (.int 0))))))))) ou)
 (ni (sIf (zA (cT (c2 HE (c2 dIx (cV 0) (cC (.int 0))) (cC (.int 0))))) (ni (oM 3 (uo (c2 qm (c2 dIx (cV 0) (cC (.int 0))) (cV 1))))
 (ni (tE 0 0 (uo (c2 uE (c2 dIx (cV 0) (cC (.int 0))) (cV 1))))
 (nT (cV 3)))) ou)
 (ni (tE 0 2 (uo (c2 qG (c2 dIx (cV 0) (cC (.int 2))) (cC (.int 1)))))
 (ni (oM 4 (uo (c2 qm (c2 sv (c2 qG (c2 qG (c2 dIx (cV 0) (cC (.int 1))) (c2 sv (cC (.int 7919)) (c2 dIx (cV 0) (cC (.int 2))))) (cC (.int 1))) (cC (.int 48271))) (cC (.int 2147483647)))))
 (ni (oM 4 (c2 qm (c2 sv (cV 4) (c2 qG (c2 uE (cV 4) (cC (.int 1009))) (cC (.int 69621)))) (cC (.int 2147483647))))
 (nT (c2 qm (c2 qm (c2 sv (cV 4) (c2 qG (c2 uE (cV 4) (cC (.int 2003))) (cC (.int 40692)))) (cC (.int 2147483399))) (cV 1))))))))
def nX:=fnM 1 5 sd
def tP:FS:=(ni (oM 1 (cL (wZ (cL (nH (aCons (cS "hall") (aCons (cS "x") (aCons (cS "cellar") (aCons (cS "loft") (a1 (cS "porch")))))))) oNo (oAt (c2 qG (cC (.int 1)) (sJ nX 0 (a1 (cC (.int 5)))))))))
 (ni (oY 2 (nJ 1 [] (iL (cV 1)) (gN 0) oK (nh 0 (λds=>pE (ds++[D.non])) (aCons (cV 0) (aCons (nO (aCons (cV 0) (a1 (cS "place")))) (a1 (cS "room")))))))
 (ni (pb (sr 2 (nh 0 (λds=>pE (ds++[])) (aCons (cS "me") (aCons (nO (aCons (cS "me") (a1 (cS "self")))) (aCons (cS "you") (a1 (c2 dIx (cV 1) (sJ nX 0 (a1 (c1 pX (cV 1))))))))))))
 (ni (oY 3 (oR (cV 1) (cL (nH (a1 (cS "me"))))))
 (ni (oM 4 (cL (nH (aCons (nO (aCons (cS "chest") (a1 (nO (aCons (cS "old") (a1 (cS "chest"))))))) (aCons (nO (aCons (cS "lamp") (a1 (nO (aCons (cS "lamp") (a1 (cS "red"))))))) (aCons (nO (aCons (cS "stone") (a1 (nO (aCons (cS "red") (a1 (cS "stone"))))))) (a1 (nO (aCons (cS "key") (a1 (nO (a1 (cS "key")))))))))))))
 (ni (oM 5 (sJ nX 0 (a1 (cC (.int 4)))))
 (ni (qt (iR1 (sJ nX 0 (a1 (cC (.int 5))))) (gN 6) (ni (FV (c2 dIx (cV 4) (c2 qm (c2 qG (cV 6) (cV 5)) (cC (.int 4)))) (gT (qC (gN 7) (qC (gN 8) yh)) 2))
 (ni (oM 9 (c2 dIx (cL (nH (aCons (cS "plain") (aCons (cS "box") (aCons (cS "lamp") (a1 (cS "fixed"))))))) (sJ nX 0 (a1 (cC (.int 4))))))
 (ni (pb (sr 2 (nh 0 (λds=>pE (ds++[])) (aCons (cV 7) (aCons (cV 8) (aCons (cV 9) (a1 (DK 3 (sJ nX 0 (a1 (uo (c1 pX (cV 3)))))))))))))
 (sIf (cT (c2 (dEq false) (cV 9) (cS "box"))) (pb (sr 3 (cV 7))) ou)))))
 (p6 (oR (cFz 2) (cL (nH (aCons (nh 0 (λds=>pE (ds++[])) (aCons (cS "case") (aCons (nO (a1 (cS "case"))) (aCons (cS "box") (a1 (cS "hall")))))) (a1 (nh 0 (λds=>pE (ds++[])) (aCons (cS "candle") (aCons (nO (a1 (cS "candle"))) (aCons (cS "lamp") (a1 (cS "me")))))))))))))))))))
def tQ:=fnM 0 10 tP
def xC:FS:=(ni (oY 0 (nH oe))
 (ni (qt (iL (cL (nH (aCons (cS "nobody") (aCons (cS "gate") (aCons (cS "") (aCons (cC D.non) (aCons (cC (.int 3)) (aCons (cS "It") (a1 (cS "undo"))))))))))) (gN 1) (ni (oY 0 (oR (cFz 0) (cL (nH (aCons (nO (aCons (cS "one") (a1 (nh 3 (λds=>pL (ds++[])) (aCons (cV 1) (a1 (cS "hall"))))))) (aCons (nO (aCons (cS "one") (a1 (nh 4 (λds=>qa (ds++[])) (a1 (cV 1)))))) (aCons (nO (aCons (cS "one") (a1 (nh 5 (λds=>sX (ds++[])) (a1 (cV 1)))))) (a1 (nO (aCons (cS "one") (a1 (nh 7 (λds=>oU (ds++[])) (aCons (cV 1) (a1 (cS "box")))))))))))))))
 (pb (sr 0 (nO (aCons (cS "one") (a1 (nh 3 (λds=>pL (ds++[])) (aCons (cS "case") (a1 (cV 1)))))))))))
 (ni (qt (iL (cL (nH (aCons (cS "alone") (a1 (cS "way")))))) (gN 2) (ni (oY 0 (oR (cFz 0) (cL (nH (aCons (nO (aCons (cV 2) (a1 (nh 4 (λds=>qa (ds++[])) (a1 (cS "it")))))) (aCons (nO (aCons (cV 2) (a1 (nh 5 (λds=>sX (ds++[])) (a1 (cS "it")))))) (aCons (nO (aCons (cV 2) (a1 (nh 3 (λds=>pL (ds++[])) (aCons (cS "it") (a1 (cS "hall"))))))) (a1 (nO (aCons (cV 2) (a1 (nh 3 (λds=>pL (ds++[])) (aCons (cS "case") (a1 (cS "it")))))))))))))))
 (oY 0 (oR (cFz 0) (cL (nH (aCons (nO (aCons (cV 2) (a1 (nh 7 (λds=>oU (ds++[])) (aCons (cS "it") (a1 (cS "box"))))))) (aCons (nO (aCons (cV 2) (a1 (nh 6 (λds=>nQ (ds++[])) (aCons (cS "it") (a1 (cC (.int 1)))))))) (a1 (nO (aCons (cV 2) (a1 (nh 9 (λds=>nR (ds++[])) (a1 (nh 4 (λds=>qa (ds++[])) (a1 (cS "it")))))))))))))))))
 (ni (qt (iL (cL (nH (aCons (cS "alone") (aCons (cS "way") (a1 (cS "one"))))))) (gN 2) (oY 0 (oR (cFz 0) (cL (nH (aCons (nO (aCons (cV 2) (a1 (nh 4 (λds=>qa (ds++[])) (a1 (cS "other")))))) (aCons (nO (aCons (cV 2) (a1 (nh 3 (λds=>pL (ds++[])) (aCons (cS "case") (a1 (cS "other"))))))) (a1 (nO (aCons (cV 2) (a1 (nh 10 (λds=>qH (ds++[])) (aCons (yW 15) (a1 (nh 6 (λds=>nQ (ds++[])) (aCons (cS "other") (a1 (cC (.int 0)))))))))))))))))))
 (ni (qt (iL (cL (nH (aCons (cS "candle") (aCons (cS "gate") (aCons (cS "nobody") (a1 (cC D.non)))))))) (gN 3) (pb (sr 0 (nO (aCons (cS "two") (a1 (nh 3 (λds=>pL (ds++[])) (aCons (cS "it") (a1 (cV 3))))))))))
 (ni (qt (iL (cL (nH (aCons (nO (aCons (cS "here") (a1 (cC (.int 0))))) (aCons (nO (aCons (cS "hall") (a1 (cC (.int 0))))) (aCons (nO (aCons (cS "me") (a1 (cC (.int 1))))) (aCons (nO (aCons (cS "nobody") (a1 (cC (.int 0))))) (aCons (nO (aCons (cC D.non) (a1 (cC (.int 0))))) (aCons (nO (aCons (cS "gate") (a1 (cC (.int 3))))) (a1 (nO (aCons (cS "luck") (a1 (cC (.int 2))))))))))))))) (gT (qC (gN 1) (qC (gN 4) yh)) 2) (pb (sr 0 (nO (aCons (cS "two") (a1 (nh 6 (λds=>nQ (ds++[])) (aCons (cV 1) (a1 (cV 4))))))))))
 (ni (qt (iL (cL (nH (aCons (c1 AK (cC (.int 1))) (aCons (cC (.bl true)) (aCons (cC (.bl false)) (aCons (cC D.non) (aCons (cS "1") (a1 (c2 Cu (cC (.int 10)) (cC (.int 20)))))))))))) (gN 4) (oY 0 (oR (cFz 0) (cL (nH (aCons (nO (aCons (cS "one") (a1 (nh 6 (λds=>nQ (ds++[])) (aCons (cS "gate") (a1 (cV 4))))))) (aCons (nO (aCons (cS "one") (a1 (nh 6 (λds=>nQ (ds++[])) (aCons (cS "it") (a1 (cV 4))))))) (a1 (nO (aCons (cS "two") (a1 (nh 6 (λds=>nQ (ds++[])) (aCons (cS "other") (a1 (cV 4)))))))))))))))
 (ni (oY 0 (oR (cFz 0) (cL (nH (aCons (nO (aCons (cS "one") (a1 (nh 6 (λds=>nQ (ds++[])) (aCons (cS "it") (a1 (cC (.int 4)))))))) (aCons (nO (aCons (cS "two") (a1 (nh 6 (λds=>nQ (ds++[])) (aCons (cS "other") (a1 (cC (.int 4)))))))) (a1 (nO (aCons (cS "one") (a1 (nh 6 (λds=>nQ (ds++[])) (aCons (cS "case") (a1 (cC (.int 2)))))))))))))))
 (ni (qt (iL (cL (nH (aCons (cS "alone") (aCons (cS "one") (a1 (cS "two"))))))) (gN 2) (pb (sr 0 (nO (aCons (cV 2) (a1 (nh 8 (λds=>rO (ds++[])) (a1 (cS "north")))))))))
 (ni (oY 0 (oR (cFz 0) (cL (nJ 1 [] (iL (cL (nH (aCons (cS "") (aCons (cS "the") (aCons (cS "North") (aCons (cC D.non) (aCons (cC (.int 3)) (a1 (cS "thirteensigns")))))))))) (gN 0) oK (nO (aCons (cS "way") (a1 (nh 8 (λds=>rO (ds++[])) (a1 (cV 0))))))))))
 (ni (oY 0 (oR (cFz 0) (cL (nJ 1 [] (iL (cL (nH (aCons (cS "door") (aCons (cS "") (aCons (cC D.non) (aCons (cS "Box") (aCons (cC (.int 3)) (a1 (cS "it")))))))))) (gN 0) oK (nO (aCons (cS "one") (a1 (nh 7 (λds=>oU (ds++[])) (aCons (cS "it") (a1 (cV 0)))))))))))
 (ni (oY 0 (oR (cFz 0) (cL (nH (aCons (nO (aCons (cS "one") (a1 (nh 9 (λds=>nR (ds++[])) (a1 (cC D.non)))))) (aCons (nO (aCons (cS "one") (a1 (nh 10 (λds=>qH (ds++[])) (aCons (yW 15) (a1 (cS "lit"))))))) (aCons (nO (aCons (cS "one") (a1 (nh 10 (λds=>qH (ds++[])) (aCons (cC (.int 7)) (a1 (yW 15))))))) (a1 (nO (aCons (cS "one") (a1 (nh 9 (λds=>nR (ds++[])) (a1 (nh 9 (λds=>nR (ds++[])) (a1 (cC D.non))))))))))))))))
 (ni (oY 0 (oR (cFz 0) (cL (nH (aCons (nO (aCons (cS "one") (a1 (cC D.non)))) (aCons (nO (aCons (cS "one") (a1 (cS "lit")))) (aCons (nO (aCons (cS "one") (a1 (nO (a1 (cS "lit")))))) (a1 (nO (aCons (cS "one") (a1 (nh 11 (λds=>nW (ds++[])) (aCons (cS "it") (a1 (cS "me")))))))))))))))
 (ni (pb (sr 0 (nO (aCons (cS "one") (a1 (nh 9 (λds=>nR (ds++[])) (a1 (nh 12 (λds=>om (ds++[])) (aCons (cS "it") (a1 (cC (.int 1))))))))))))
 (p6 (oR (cFz 0) (cL (nH (aCons (nO (aCons (cS "one") (a1 (nh 9 (λds=>nR (ds++[])) (a1 (nh 9 (λds=>nR (ds++[])) (a1 (nh 9 (λds=>nR (ds++[])) (a1 (nh 9 (λds=>nR (ds++[])) (a1 (yW 15)))))))))))) (a1 (nO (aCons (cS "one") (a1 (nh 9 (λds=>nR (ds++[])) (a1 (nh 10 (λds=>qH (ds++[])) (aCons (yW 15) (a1 (nh 9 (λds=>nR (ds++[])) (a1 (nh 9 (λds=>nR (ds++[])) (a1 (nh 9 (λds=>nR (ds++[])) (a1 (yW 15)))))))))))))))))))))))))))))))))))
def xD:=fnD 0 5 xC
def xE:FS:=(ni (oY 0 (nH oe))
 (ni (qt (iL (cL (nH (aCons (cS "nobody") (aCons (cS "gate") (aCons (cS "") (aCons (cC D.non) (aCons (cC (.int 3)) (aCons (cS "hall") (a1 (cS "here"))))))))))) (gN 1) (pb (sr 0 (nO (aCons (cS "two") (a1 (nh 11 (λds=>nW (ds++[])) (aCons (cV 1) (a1 (cS "me"))))))))))
 (ni (qt (iL (cL (nH (aCons (cS "nobody") (aCons (cS "gate") (aCons (cS "candle") (aCons (cC D.non) (a1 (cC (.int 3)))))))))) (gN 2) (oY 0 (oR (cFz 0) (cL (nH (aCons (nO (aCons (cS "two") (a1 (nh 11 (λds=>nW (ds++[])) (aCons (cS "it") (a1 (cV 2))))))) (a1 (nO (aCons (cS "two") (a1 (nh 11 (λds=>nW (ds++[])) (aCons (cS "case") (a1 (cV 2))))))))))))))
 (ni (qt (iL (cL (nH (aCons (cS "me") (aCons (cS "case") (aCons (cS "here") (aCons (cS "it") (aCons (cS "other") (aCons (cS "nobody") (a1 (cS "candle"))))))))))) (gN 2) (pb (sr 0 (nO (aCons (cS "two") (a1 (nh 11 (λds=>nW (ds++[])) (aCons (cS "me") (a1 (cV 2))))))))))
 (ni (qt (iL (cL (nH (aCons (cS "alone") (a1 (cS "way")))))) (gN 3) (oY 0 (oR (cFz 0) (cL (nH (aCons (nO (aCons (cV 3) (a1 (nh 11 (λds=>nW (ds++[])) (aCons (cS "it") (a1 (cS "me"))))))) (aCons (nO (aCons (cV 3) (a1 (nh 11 (λds=>nW (ds++[])) (aCons (cS "case") (a1 (cS "it"))))))) (a1 (nO (aCons (cV 3) (a1 (nh 12 (λds=>om (ds++[])) (aCons (cS "it") (a1 (cC (.int 1))))))))))))))))
 (ni (qt (iL (cL (nH (aCons (cS "alone") (aCons (cS "way") (a1 (cS "one"))))))) (gN 3) (oY 0 (oR (cFz 0) (cL (nH (aCons (nO (aCons (cV 3) (a1 (nh 11 (λds=>nW (ds++[])) (aCons (cS "other") (a1 (cS "me"))))))) (aCons (nO (aCons (cV 3) (a1 (nh 11 (λds=>nW (ds++[])) (aCons (cS "case") (a1 (cS "other"))))))) (a1 (nO (aCons (cV 3) (a1 (nh 12 (λds=>om (ds++[])) (aCons (cS "other") (a1 (cC (.int 0))))))))))))))))
 (ni (qt (iL (cL (nH (aCons (nO (aCons (cS "here") (a1 (cC (.int 0))))) (aCons (nO (aCons (cS "hall") (a1 (cC (.int 0))))) (aCons (nO (aCons (cS "me") (a1 (cC (.int 1))))) (aCons (nO (aCons (cS "nobody") (a1 (cC (.int 0))))) (aCons (nO (aCons (cC D.non) (a1 (cC (.int 0))))) (aCons (nO (aCons (cS "gate") (a1 (cC (.int 3))))) (a1 (nO (aCons (cS "luck") (a1 (cC (.int 2))))))))))))))) (gT (qC (gN 1) (qC (gN 4) yh)) 2) (pb (sr 0 (nO (aCons (cS "two") (a1 (nh 12 (λds=>om (ds++[])) (aCons (cV 1) (a1 (cV 4))))))))))
 (ni (qt (iL (cL (nH (aCons (c1 AK (cC (.int 1))) (aCons (cC (.bl true)) (aCons (cC (.bl false)) (aCons (cC D.non) (aCons (cS "1") (aCons (cC (.int 4)) (a1 (c2 Cu (cC (.int 10)) (cC (.int 20))))))))))))) (gN 4) (oY 0 (oR (cFz 0) (cL (nH (aCons (nO (aCons (cS "one") (a1 (nh 12 (λds=>om (ds++[])) (aCons (cS "gate") (a1 (cV 4))))))) (aCons (nO (aCons (cS "one") (a1 (nh 12 (λds=>om (ds++[])) (aCons (cS "it") (a1 (cV 4))))))) (a1 (nO (aCons (cS "two") (a1 (nh 12 (λds=>om (ds++[])) (aCons (cS "other") (a1 (cV 4)))))))))))))))
 (p6 (oR (cFz 0) (cL (nH (aCons (nO (aCons (cS "one") (a1 (cC D.non)))) (aCons (nO (aCons (cS "one") (a1 (cS "move")))) (aCons (nO (aCons (cS "one") (a1 (yW 15)))) (aCons (nO (aCons (cS "one") (a1 (nO (aCons (cS "put") (aCons (cS "it") (a1 (cC (.int 1))))))))) (a1 (nO (aCons (cS "one") (a1 (nh 12 (λds=>om (ds++[])) (aCons (cS "case") (a1 (cC (.int 2)))))))))))))))))))))))))
def xF:=fnD 0 5 xE
def yN:FS:=(ni (oM 0 (ER [("alone", (cS "sing")),("one", (cS "push")),("two", (cS "put")),("way", (cS "go"))]))
 (ni (oY 1 (nJ 2 [0] (iL (m7 xD oe)) (gT (qC (gN 0) (qC (gN 1) yh)) 2) oK (nh 13 (λds=>og (ds++[(D.bl false)])) (aCons (c2 vW (cV 2) (cV 0)) (aCons (cL (nH (aCons (yW 15) (a1 (cV 1))))) (aCons (cL (nH oe)) (a1 (cS "No."))))))))
 (ni (oY 1 (oR (cFz 1) (cL (nJ 2 [0] (iL (m7 xF oe)) (gT (qC (gN 0) (qC (gN 1) yh)) 2) oK (nh 13 (λds=>og (ds++[(D.bl false)])) (aCons (c2 vW (cV 2) (cV 0)) (aCons (cL (nH oe)) (aCons (cL (nH (aCons (nh 12 (λds=>om (ds++[])) (aCons (cS "gate") (a1 (cC (.int 1))))) (a1 (cV 1))))) (a1 (cS "No."))))))))))
 (ni (qt (iL (cL (nH (aCons (cS "nobody") (aCons (cS "") (aCons (cC D.non) (aCons (cS "shove") (aCons (cC (.int 3)) (aCons (cS "case") (aCons (cS "it") (a1 (cS "undo")))))))))))) (gN 2) (pb (sr 1 (nh 13 (λds=>og (ds++[(D.bl false)])) (aCons (cV 2) (aCons (cL (nH oe)) (aCons (cL (nH oe)) (a1 (cS "No.")))))))))
 (ni (qt (iL (cL (nH (aCons (cS "") (aCons (c2 CD (cS "x") (cC (.int 61))) (aCons (cC D.non) (aCons (cC (.int 5)) (a1 (nO (a1 (cS "No."))))))))))) (gN 3) (pb (sr 1 (nh 13 (λds=>og (ds++[(D.bl false)])) (aCons (cS "wait") (aCons (cL (nH oe)) (aCons (cL (nH oe)) (a1 (cV 3)))))))))
 (p6 (oR (cFz 1) (cL (nH (aCons (nh 13 (λds=>og (ds++[])) (aCons (cS "wait") (aCons (cL (nH oe)) (aCons (cL (nH (a1 (nh 12 (λds=>om (ds++[])) (aCons (cS "gate") (a1 (cC (.int 1)))))))) (aCons (cS "No.") (a1 (cC (.bl true)))))))) (a1 (nh 13 (λds=>og (ds++[])) (aCons (cS "push") (aCons (cL (nH oe)) (aCons (cL (nH (a1 (nh 11 (λds=>nW (ds++[])) (aCons (cS "it") (a1 (cS "me"))))))) (aCons (cS "No.") (a1 (cC (.bl true)))))))))))))))))))
def vA:=fnD 0 4 yN
def yO:FS:=(ni (oM 0 (nh 9 (λds=>nR (ds++[])) (a1 (nh 10 (λds=>qH (ds++[])) (aCons (yW 15) (a1 (nh 9 (λds=>nR (ds++[])) (a1 (yW 15)))))))))
 (ni (oY 1 (nH (a1 (nh 13 (λds=>og (ds++[(D.bl false)])) (aCons (cS "push") (aCons (cL (nH (aCons (nh 3 (λds=>pL (ds++[])) (aCons (cS "here") (a1 (cS "hall")))) (aCons (nh 4 (λds=>qa (ds++[])) (a1 (cS "me"))) (aCons (nh 7 (λds=>oU (ds++[])) (aCons (cS "here") (a1 (cS "room")))) (a1 (cV 0))))))) (aCons (cL (nH (a1 (nh 12 (λds=>om (ds++[])) (aCons (cS "it") (a1 (cC (.int 3)))))))) (a1 (cS "~ ~")))))))))
 (ni (oM 2 (cL (nH (aCons (nh 3 (λds=>pL (ds++[])) (aCons (cS "other") (a1 (cS "it")))) (a1 (nh 6 (λds=>nQ (ds++[])) (aCons (cS "other") (a1 (cC (.int 3))))))))))
 (ni (pb (sr 1 (nh 13 (λds=>og (ds++[(D.bl false)])) (aCons (cS "put") (aCons (cV 2) (aCons (cL (nH (aCons (nh 11 (λds=>nW (ds++[])) (aCons (cS "other") (a1 (cS "it")))) (a1 (nh 11 (λds=>nW (ds++[])) (aCons (cS "me") (a1 (cS "hall")))))))) (a1 (c2 CD (cS "x") (cC (.int 60))))))))))
 (ni (pb (sr 1 (nh 13 (λds=>og (ds++[(D.bl false)])) (aCons (cS "go") (aCons (cL (nH (aCons (nh 8 (λds=>rO (ds++[])) (a1 (cS "elsewhere"))) (a1 (nh 5 (λds=>sX (ds++[])) (a1 (cS "hall"))))))) (aCons (cL (nH (aCons (nh 11 (λds=>nW (ds++[])) (aCons (cS "case") (a1 (cS "case")))) (a1 (nh 11 (λds=>nW (ds++[])) (aCons (cS "case") (a1 (cS "here")))))))) (a1 (cS "'"))))))))
 (p6 (oR (cFz 1) (cL (nH (aCons (nh 13 (λds=>og (ds++[])) (aCons (cS "take") (aCons (cL (nH oe)) (aCons (cL (nH oe)) (aCons (cS "No.") (a1 (cC (.bl true)))))))) (a1 (nh 13 (λds=>og (ds++[(D.bl false)])) (aCons (cS "sing") (aCons (cL (nH (a1 (nh 6 (λds=>nQ (ds++[])) (aCons (cS "candle") (a1 (cC (.int 1)))))))) (aCons (cL (nH (a1 (nh 12 (λds=>om (ds++[])) (aCons (cS "luck") (a1 (cC (.int 0)))))))) (a1 (cS ".")))))))))))))))))
def vB:=fnD 0 3 yO
def rg:FS:=(ni (oM 2 (cL (nH (aCons (nh 2 (λds=>o3 (ds++[(D.str "one"),D.non])) (aCons (cS "push") (a1 (nO (a1 (cS "shove")))))) (a1 (nh 2 (λds=>o3 (ds++[D.non])) (aCons (cS "sing") (aCons (nO oe) (a1 (cS "alone"))))))))))
 (ni (oM 3 (cL (nH (aCons (nh 1 (λds=>vo (ds++[])) (aCons (cS "gate") (aCons (cC (.int 0)) (a1 (cC (.int 2)))))) (a1 (nh 1 (λds=>vo (ds++[])) (aCons (cS "luck") (aCons (cC (.int 1)) (a1 (cC (.int 1)))))))))))
 (ni (sTry oX (aCons (cV 0) (aCons (cV 3) (aCons (cL (nH oe)) (aCons (cL (nH (a1 (nO (aCons (cS "hall") (aCons (cS "north") (aCons (cS "hall") (a1 (cS "gate"))))))))) (aCons (cV 2) (a1 (cV 1))))))) (nT (cC (.bl true))))
 (nT (cC (.bl false))))))
def oA:=fnD 2 4 rg
def E3:FS:=(ni (oY 1 (nH (a1 (m7 qc (aCons (cV 0) (a1 (cC (.int 0))))))))
 (ni (oM 2 (sJ tQ 1 oe))
 (ni (oM 3 (m7 vB oe))
 (ni (oM 4 (cL (nJ 1 [3,1] (iR1 (sJ nX 1 (a1 (cC (.int 4))))) (gN 0) oK (c2 dIx (cV 1) (sJ nX 2 (a1 (cC (.int 5))))))))
 (ni (sIf (rp (cT (m7 oA (aCons (cV 2) (a1 (cV 4))))) (cT (m7 oA (aCons (cV 2) (a1 (cV 3)))))) (nT (cC (.bl false))) ou)
 (ni (oM 5 (m7 vA oe))
 (ni (qt (iR2 (cC (.int 1)) (c2 dMax2 (cC (.int 2)) (c2 dMin2 (cC (.int 40)) (c1 pX (cV 0))))) (gN 6) (ni (oM 7 (m7 qc (aCons (cV 0) (a1 (cV 6)))))
 (ni (oM 8 (c2 qm (c2 uE (cV 7) (c1 pX (cV 5))) (c2 qG (c1 pX (cV 4)) (cC (.int 1)))))
 (ni (oM 9 (c2 dIx (cV 5) (c2 qm (c2 qG (cV 7) (c2 sv (cC (.int 7)) (cV 6))) (c1 pX (cV 5)))))
 (sIf (px (cT (m7 oA (aCons (cV 2) (a1 (cL (oR (cL (oR (cL (wZ (cV 4) oNo (oAt (cV 8)))) (cL (nH (a1 (cV 9)))))) (cL (wZ (cV 4) (oAt (cV 8)) oNo))))))))) (nT (cC (.bl false))) ou)))))
 (nT (yT (m7 oA (aCons (cV 2) (a1 (cV 4)))))))))))))
def LS:=fnD 1 10 E3
variable{s2:Sl}
theorem z4{b q r n:Int}(h0:0<b)(h1:b<1073741824):∃d es' ρ,(ni (sIf (zA (cT (c2 HE (c2 dIx (cV 0) (cC (.int 0))) (cC (.int 0))))) (ni (oM 3 (uo (c2 qm (c2 dIx (cV 0) (cC (.int 0))) (cV 1))))
 (ni (tE 0 0 (uo (c2 uE (c2 dIx (cV 0) (cC (.int 0))) (cV 1))))
 (nT (cV 3)))) ou)
 (ni (tE 0 2 (uo (c2 qG (c2 dIx (cV 0) (cC (.int 2))) (cC (.int 1)))))
 (ni (oM 4 (uo (c2 qm (c2 sv (c2 qG (c2 qG (c2 dIx (cV 0) (cC (.int 1))) (c2 sv (cC (.int 7919)) (c2 dIx (cV 0) (cC (.int 2))))) (cC (.int 1))) (cC (.int 48271))) (cC (.int 2147483647)))))
 (ni (oM 4 (c2 qm (c2 sv (cV 4) (c2 qG (c2 uE (cV 4) (cC (.int 1009))) (cC (.int 69621)))) (cC (.int 2147483647))))
 (nT (c2 qm (c2 qm (c2 sv (cV 4) (c2 qG (c2 uE (cV 4) (cC (.int 2003))) (cC (.int 40692)))) (cC (.int 2147483399))) (cV 1)))))))
  [.pm [.int q,.int r,.int n],.im (.int b),s2,.un,.un]=some (.rt (.int d) ρ)/\wU ρ=some es'/\0<=d/\d<b/\wy es':=by
 have hc:zA (cT (c2 HE (c2 dIx (cV 0) (cC (.int 0))) (cC (.int 0)))) [.pm [.int q,.int r,.int n],.im (.int b),s2,.un,.un]=some (decide (0<q),[.pm [.int q,.int r,.int n],.im (.int b),s2,.un,.un]):=rfl;by_cases hq:0<q
 ·rw[aW hq]at hc;refine⟨q % b,[.int (q / b),.int r,.int n],[.pm [.int (q / b),.int r,.int n],.im (.int b),s2,.im (.int (q % b)),.un],?_,rfl,dU _ (by omega),dM _ h0,.inr ⟨_,_,_,rfl⟩⟩;rw[n5 (d:=.int (q % b)) (ρ':=[.pm [.int (q / b),.int r,.int n],.im (.int b),s2,.im (.int (q % b)),.un])];rw[oG hc,m9 (oT (BB (nP rfl rfl (sQ h0)) rfl)),m9 (CA (k:=0) (BB (nP rfl rfl (div_pos h0 h1)) rfl) rfl rfl)];rfl
 ·rw[aY hq]at hc;rw[m9 (show _=some (Out.nx [.pm [.int q,.int r,.int n],.im (.int b),s2,.un,.un]) from by rw[qx hc];rfl)];rw[m9 (show _=some (Out.nx [.pm [.int q,.int r,.int (n+1)],.im (.int b),s2,.un,.un]) from rfl)];have h7:tD 7919=true:=by decide
  have h4:tD 48271=true:=by decide
  rw[m9 (oT (BB (d:=.int ((r+7919 * (n+1)+1) * 48271 % 2147483647)) (nP (nP (nP (nP rfl (nP rfl rfl (sg (.inl h7))) rfl) rfl rfl) rfl (sg (.inr h4))) rfl (sQ (by decide))) rfl))];generalize hg:(r+7919 * (n+1)+1) * 48271 % 2147483647=g;have g0:0<=g/\g<2147483647:=by rw[<-hg];exact⟨dU _ (by decide),dM _ (by decide)⟩
  rw[m9 (oT (d:=.int (g * (g / 1009+69621) % 2147483647)) (nP (nP rfl (nP (nP rfl rfl (div_pos (by decide) (by decide))) rfl rfl) (sg (.inl (CB g0.1 g0.2)))) rfl (sQ (by decide))))];generalize hh:g * (g / 1009+69621) % 2147483647=m;have m0:0<=m/\m<2147483647:=by rw[<-hh];exact⟨dU _ (by decide),dM _ (by decide)⟩
  rw[n9 (d:=.int (m * (m / 2003+40692) % 2147483399 % b)) (nP (nP (nP rfl (nP (nP rfl rfl (div_pos (by decide) (by decide))) rfl rfl) (sg (.inl (CB m0.1 m0.2)))) rfl (sQ (by decide))) rfl (sQ h0))];exact⟨_,[.int q,.int r,.int (n+1)],_,rfl,rfl,dU _ (by omega),dM _ h0,.inr ⟨_,_,_,rfl⟩⟩
variable{es:List L4.D}
theorem Dc{b:Int}(h:wy es)(h0:0<b)(h1:b<1073741824):∃d es',nX es [.int b]=some (.int d,es')/\0<=d/\d<b/\wy es':=by
 rcases h with ⟨c,rfl⟩|⟨q,r,n,rfl⟩
 ·obtain⟨d,es',ρ,e,p,q1,q2,q3⟩:=z4 (q:=c * (if decide ((10:Int) ^ (18:Int).toNat<=c)=true then 1 else 0)) (r:=c % 2147483647) (n:=0) (s2:=.im (.int c)) h0 h1;refine⟨d,es',HW rfl ?_ p,q1,q2,q3⟩;unfold sd;rw[m9 (ρ':=[.pm [.int (c * (if decide ((10:Int) ^ (18:Int).toNat<=c)=true then 1 else 0)),.int (c % 2147483647),.int 0],.im (.int b),.im (.int c),.un,.un])]
  ·exact e
  ·show sIf _ _ _ [.pm [.int c],.im (.int b),.un,.un,.un]=_;rw[oG (ρ':=[.pm [.int c],.im (.int b),.un,.un,.un]) rfl,m9 (show _=some (Out.nx [.pm [.int c],.im (.int b),.im (.int c),.un,.un]) from rfl)];rw[m9 (CA (k:=0) (ds:=[.int c]) (nP rfl rfl (sg (.inr (by split<;>decide)))) rfl rfl)];rfl
 ·obtain⟨d,es',ρ,e,p,q1,q2,q3⟩:=z4 (q:=q) (r:=r) (n:=n) (s2:=.un) h0 h1;refine⟨d,es',HW rfl ?_ p,q1,q2,q3⟩;unfold sd;rw[m9 (ρ':=[.pm [.int q,.int r,.int n],.im (.int b),.un,.un,.un])]
  ·exact e
  ·show sIf _ _ _ [.pm [.int q,.int r,.int n],.im (.int b),.un,.un,.un]=_;rw[qx (ρ':=[.pm [.int q,.int r,.int n],.im (.int b),.un,.un,.un]) rfl];rfl
variable{i:Nat}
theorem dgx{b:Int}{a:FE}(st:List L4.D->List Sl)(hp:∀es,pI (st es) i=some es)(hq:∀es es',putAt (st es) i es'=st es')(ha:a (st es)=some (.int b,st es))(hs:wy es)(h0:0<b)(h1:b<1073741824):∃d es',sJ nX i (a1 a) (st es)=some (.int d,st es')/\0<=d/\d<b/\wy es':=by obtain⟨d,es',e,q1,q2,q3⟩:=Dc hs h0 h1;exact⟨d,es',by rw[<-hq es es'];exact DQ (hp es) (nD ha rfl) (hp es) e,q1,q2,q3⟩
variable{e:FE}
theorem pk{L:List L4.D}{a:FE}(st:List L4.D->List Sl)(hp:∀es,pI (st es) i=some es)(hq:∀es es',putAt (st es) i es'=st es')(he:e (st es)=some (.lst L,st es))(ha:a (st es)=some (.int L.length,st es))(hs:wy es)(h0:L≠[])(h1:L.length<=1000):∃d∈L,∃es',c2 dIx e (sJ nX i (a1 a)) (st es)=some (d,st es')/\wy es':=by
 have hp0:0<L.length:=jz.mpr h0;obtain⟨d,es',e1,q1,q2,q3⟩:=dgx st hp hq ha hs (by omega) (by omega);obtain⟨m,rfl⟩:=cE q1;have hm:m<L.length:=by omega
 exact⟨L[m],dj hm,es',nP he e1 (vG (aV hm)),q3⟩
section
variable{k:Nat}{cap:List Nat}{g:FG}{ft:FT}{fe e:FE}{s a:FA}{ρ ρ1 ρ2:List Sl}{α:Type}{f f2:FS}{np n:Nat}{ds:List L4.D}
theorem oW{m:L4.D}(h:e ρ=some (.bl true,ρ1)):sXp m8 (aCons e (aCons (cC m) oe)) ρ=some (.nx ρ1):=by unfold sXp;rw[nD h (nD rfl rfl)];rfl
theorem vC{m:L4.D}(h:e ρ=some (.bl false,ρ1)):sXp m8 (aCons e (aCons (cC m) oe)) ρ=some (.bk ρ1):=by unfold sXp;rw[nD h (nD rfl rfl)];rfl
theorem A5(h:f ρ=some (.bk ρ1)):ni f f2 ρ=some (.bk ρ1):=by unfold ni;rw[h]
theorem qK(h:f ρ=some (.nx ρ1)):sNb f ρ=some (.nx ρ1):=by unfold sNb;rw[h]
theorem D8(h:ds.length=np)(e:f (stE n ds)=some (.nx ρ)):fnX np n f ds=some true:=by unfold fnX;rw[ah h,e]
theorem Am(h:ds.length=np)(e:f (stE n ds)=some (.bk ρ)):fnX np n f ds=some false:=by unfold fnX;rw[ah h,e]
theorem An{q:List L4.D->Option Bool}(h:a ρ=some (ds,ρ1))(e:q ds=some true):sXp q a ρ=some (.nx ρ1):=by unfold sXp;rw[h];simp only[e]
theorem xG(dd h:α->L4.D)(l:List α)(hs:s ρ=some (l.map dd,ρ1))(hl:l.length<=1000)(st:∀a∈l,∃ρ2 ρ3,g (dd a) (xQ k cap ρ1)=some ρ2/\fe ρ2=some (h a,ρ3)/\qR cap (ρ3.drop k) ρ1=some ρ1):
  nJ k cap s g oK fe ρ=some (l.map h,ρ1):=(BD hs (by rw[ag];exact hl)).trans (K3 dd h l st)
theorem vE(dd h:α->L4.D)(p:α->Bool)(l:List α)(hs:s ρ=some (l.map dd,ρ1))(hl:l.length<=1000)
  (st:∀a∈l,∃ρ2 ρ3,g (dd a) (xQ k cap ρ1)=some ρ2/\ft ρ2=some (p a,ρ3)/\(p a=true->∃ρ4,fe ρ3=some (h a,ρ4)/\qR cap (ρ4.drop k) ρ1=some ρ1)/\(p a=false->qR cap (ρ3.drop k) ρ1=some ρ1)):
  nJ k cap s g ft fe ρ=some ((l.filter p).map h,ρ1):=(BD hs (by rw[ag];exact hl)).trans (zJ dd p h l st)
theorem rh(dd:α->L4.D)(p:α->Bool)(l:List α)(hs:s ρ=some (l.map dd,ρ1))(hl:l.length<=1000)(st:∀a∈l,∃ρ2 ρ3,g (dd a) (xQ k cap ρ1)=some ρ2/\fe ρ2=some (.bl (p a),ρ3)/\qR cap (ρ3.drop k) ρ1=some ρ1):
  c1 qd (cL (nJ k cap s g oK fe)) ρ=some (.bl (l.all p),ρ1):=oa (qq (xG dd (λa=>.bl (p a)) l hs hl st)) (K5 l p)
theorem E4(dd:α->L4.D)(p:α->Bool)(l:List α)(hs:s ρ=some (l.map dd,ρ1))(hl:l.length<=1000)(st:∀a∈l,∃ρ2 ρ3,g (dd a) (xQ k cap ρ1)=some ρ2/\fe ρ2=some (.bl (p a),ρ3)/\qR cap (ρ3.drop k) ρ1=some ρ1):
  c1 zC (cL (nJ k cap s g oK fe)) ρ=some (.bl (l.any p),ρ1):=oa (qq (xG dd (λa=>.bl (p a)) l hs hl st)) (K6 l p)
end
theorem Pg{α:Type}{l:List α}{p:α->Bool}{a:α}(h:a∈l)(e:p a=false):l.all p=false:=by rw[dN];intro z;rw[aB.mp z a h]at e;cases e
theorem rL{α:Type}{l:List α}{p:α->Bool}(h:∀a∈l,p a=true):l.all p=true:=aB.mpr h
def isT:Option L4.D->Bool
 |some (.bl b)=>b
 |_=>false
def isB:Option L4.D->Bool
 |some (.bl _)=>true
 |_=>false
variable{o:Option L4.D}
theorem vF(h:isB o=true):o=some (.bl (isT o)):=by
 unfold isB at h;split at h
 ·rfl
 ·cases h
theorem D9(h:isT o=true):o=some (.bl true):=by
 unfold isT at h;split at h
 ·rw[h]
 ·cases h
inductive Kd where
 |room|you|plain|fixed|box|lamp
deriving DecidableEq
def Kd.s:Kd->Str
 |.room=>"room" |.you=>"you" |.plain=>"plain" |.fixed=>"fixed" |.box=>"box" |.lamp=>"lamp"
def Kd.pl:Kd->Bool
 |.room=>false|.you=>false|_=>true
def Kd.hd:Kd->Bool
 |.room=>true|.you=>true|.box=>true|_=>false
def Kd.mk:Kd->Bool
 |.box=>true|.lamp=>true|_=>false
structure Tk where
 n:L4.D
 w:L4.D
 k:Kd
 s:L4.D
def tkD(t:Tk):L4.D:=.obj 0 ["name", "words", "kind", "start"] [t.n,t.w,.str t.k.s,t.s]
abbrev LD(T:List Tk):L4.D:=.lst (T.map tkD)
theorem z5(a b:Kd):dEq false (.str a.s) (.str b.s)=some (.bl (decide (a=b))):=by cases a<;>cases b<;>kernel_rfl
theorem wG(t:Tk):nE oH "kind" (tkD t)=some (.str t.k.s):=rfl
theorem tR(t:Tk):nE nN "name" (tkD t)=some t.n:=rfl
theorem y8(t:Tk):nE pf "words" (tkD t)=some t.w:=rfl
theorem y9(t:Tk):nE qg "start" (tkD t)=some t.s:=rfl
theorem E5(t:Tk):rF [tkD t]=some (.bl t.k.hd):=by obtain⟨n,w,k,s⟩:=t;cases k<;>kernel_rfl
theorem E6(t:Tk):ub [tkD t]=some (.bl t.k.mk):=by obtain⟨n,w,k,s⟩:=t;cases k<;>kernel_rfl
theorem IV(t:Tk):sG [tkD t]=some (.bl t.k.pl):=by obtain⟨n,w,k,s⟩:=t;cases k<;>kernel_rfl
theorem Lf(k:Kd):n8 [.str k.s,r6]=some (.bl true):=by cases k<;>kernel_rfl
def cK(k:Kd)(T:List Tk):Nat:=(T.filter λt=>decide (t.k=k)).length
def plN(T:List Tk):List Tk:=T.filter λt=>t.k.pl
theorem count_eq(T:List Tk)(hl:T.length<=1000)(k:Kd):rH [LD T,.str k.s]=some (.int (cK k T)):=by refine oh (ρ:=[.im (LD T),.im (.str k.s)]) rfl ?_;refine n9 (oa (qq (vE tkD tkD (λt=>decide (t.k=k)) T (ρ1:=[.im (LD T),.im (.str k.s)]) rfl hl λt _=>⟨[.im (tkD t),.im (.str k.s)],[.im (tkD t),.im (.str k.s)],rfl,qp (nP (oa rfl (wG t)) rfl (z5 t.k k)),λ_=>⟨_,rfl,rfl⟩,λ_=>rfl⟩)) ?_);show some (D.int _)=_;rw[ag];rfl
theorem tS(T:List Tk)(hl:T.length<=1000):pR [LD T]=some ((plN T).map tkD):=by refine HX (ρ:=[.im (LD T)]) rfl ?_;exact y4 (vE tkD tkD (λt=>t.k.pl) T (ρ1:=[.im (LD T)]) rfl hl λt _=>⟨[.im (tkD t)],[.im (tkD t)],rfl,qp (rZ (xs:=[t.n,t.w,.str t.k.s,t.s]) (ys:=[]) rfl rfl rfl rfl (IV t)),λ_=>⟨_,rfl,rfl⟩,λ_=>rfl⟩)
variable{ρ:List Sl}{y:Int}
theorem IW{a b c:FE}{x z:Int}(h1:a ρ=some (.int x,ρ))(h2:b ρ=some (.int y,ρ))(h3:c ρ=some (.int z,ρ))(hx:x<=y)(hy:y<=z):qo rl rl a b c ρ=some (.bl true,ρ):=by
 unfold qo;rw[h1];simp only[h2];have e1:rl (.int x) (.int y)=some (.bl true):=by show some (D.bl (decide (x<=y)))=_;rw[aW hx]
 have e2:rl (.int y) (.int z)=some (.bl true):=by show some (D.bl (decide (y<=z)))=_;rw[aW hy]
 simp only[e1,h3,e2]
theorem LU{a b:FE}{x:Int}(h1:a ρ=some (.int x,ρ))(h2:b ρ=some (.int y,ρ))(hx:x<=y):c2 rl a b ρ=some (.bl true,ρ):=nP h1 h2 (by
 show some (D.bl (decide (x<=y)))=_;rw[aW hx])
section
variable{T:List Tk}(hl:T.length<=1000)(h1:1<=cK .room T)(h5:cK .room T<=5)
include hl h1 h5
theorem Lg{r:FS}:∃ρ:List Sl,ρ=[.im (LD T),.im (.bl true)]/\(∀o,r ρ=some o->(ni (sNb (oM 1 (oP (c1 (nZ (oZ "list")) (cV 0)) (c1 qd (cL (nJ 1 [] (iL (cV 0)) (gN 0) oK (c1 (nZ BM) (cV 0))))))))
 (ni (sXp m8 (aCons (cV 1) (a1 (cS "things are a list of things"))))
 (ni (sXp m8 (aCons (c1 qd (cL (nJ 1 [] (iL (cV 0)) (gN 0) oK (m7 n8 (aCons (c1 (nE oH "kind") (cV 0)) (a1 (cC r6))))))) (a1 (cS "a thing is of no kind"))))
 (ni (sXp m8 (aCons (qo rl rl (cC (.int 1)) (m7 rH (aCons (cV 0) (a1 (cS "room")))) (cC ux)) (a1 (cS "a world has 1 to 5 rooms")))) r)))) [.im (LD T),.un]=some o):=by
 refine⟨_,rfl,λo h=>?_⟩;let ρ:List Sl:=[.im (LD T),.im (.bl true)];rw[m9 (qK (show _=some (Out.nx ρ) from(oT ((o6 rfl).trans ((rh tkD (λ_=>true) T (ρ1:=[.im (LD T),.un]) rfl hl λt ht=>⟨_,_,rfl,rfl,rfl⟩).trans (by rw[rL λ_ _=>rfl])))).trans rfl))];rw[m9 (oW (ρ1:=ρ) rfl)];rw[m9 (oW (ρ1:=ρ) ((rh tkD (λ_=>true) T rfl hl λt _=>⟨[.im (tkD t)],[.im (tkD t)],rfl,ng (nD (oa rfl (wG t)) (nD rfl rfl)) (Lf t.k),rfl⟩).trans (by rw[rL λ_ _=>rfl])))];rw[m9 (oW (ρ1:=ρ) (IW (x:=1) (y:=cK .room T) (z:=5) rfl (ng (ds:=[LD T,.str Kd.room.s]) rfl (count_eq T hl .room)) rfl (by omega) (by omega)))];exact h
theorem QY(hy:cK .you T=1)(h7:(plN T).length<=7):qV [LD T]=some true:=by
 let ρ:List Sl:=[.im (LD T),.im (.bl true)];obtain⟨_,rfl,h⟩:=Lg hl h1 h5 (r:=(ni (sXp m8 (aCons (c2 (dEq false) (m7 rH (aCons (cV 0) (a1 (cS "you")))) (cC (.int 1))) (a1 (cS "a world has just one you"))))
 (sXp m8 (aCons (c2 rl (c1 pX (cL (o4 pR (a1 (cV 0))))) (cC tI)) (a1 (cS "a world has at most 7 things beside rooms and you"))))))
 refine D8 (ρ:=ρ) rfl (h _ ?_);rw[m9 (oW (ρ1:=ρ) (nP (ρ1:=ρ) (x:=.int (cK .you T)) (y:=.int 1) (ng (ds:=[LD T,.str Kd.you.s]) rfl (count_eq T hl .you)) rfl (by rw[hy];rfl)))];refine oW (ρ1:=ρ) (LU (x:=(plN T).length) (y:=7) (oa (qq (ng rfl (tS T hl))) ?_) rfl (by omega));show some (D.int _)=_;rw[ag]
end
theorem Dd{α:Type}{p q:α->Bool}:∀{l:List α},(∀a∈l,p a=q a)->l.all p=l.all q
 |[],_=>rfl
 |a::l,h=>by rw[c3,c3,h a aG,Dd λb hb=>h b (aN _ hb)]
def kS(x:Str):Key:=Sum.inr x
theorem z6{a b:Str}(h:kS a=kS b):a=b:=fX h
theorem Ea:∀(ks acc:List Key),acc.Nodup->(ks.foldl ddp acc).Nodup/\(ks.foldl ddp acc).length<=acc.length+ks.length/\((ks.foldl ddp acc).length=acc.length+ks.length->(acc++ks).Nodup)
 |[],acc,h=>⟨h,aE _,λ_=>by rw[br];exact h⟩
 |k::ks,acc,h=>by
  rw[fP,aD];by_cases hn:acc.any (λz=>decide (z=k))=true
  ·rw[show ddp acc k=acc from ah hn];obtain⟨h1,h2,h3⟩:=Ea ks acc h;exact⟨h1,by omega,λz=>by omega⟩
  ·rw[show ddp acc k=acc++[k] from ai hn];have hk:k∉acc:=λz=>hn (cp.mpr ⟨k,z,aW rfl⟩);have h':(acc++[k]).Nodup:=bZ.mpr ⟨h,by simp,λa ha b hb e=>by rw[ba]at hb;subst hb e;exact hk ha⟩;obtain⟨h1,h2,h3⟩:=Ea ks (acc++[k]) h';rw[aC,bO]at h2 h3;exact⟨h1,by omega,λz=>by have:=h3 (by omega);rw[bI]at this;exact this⟩
theorem A6:∀l:List Str,vY (l.map D.str)=some (l.map kS)
 |[]=>rfl
 |x::l=>by show (match uX (.str x),vY (l.map D.str)with|some k,some ks=>some (k::ks)|_,_=>none)=_;rw[A6 l];rfl
variable{l:List Str}
theorem QZ(h:(l.map kS).Nodup):l.Nodup:=(jP.mp h).imp λhne z=>hne (aR kS z)
theorem Gp(h:¬l.Nodup)(hl:l.length<=1000):∃m:Nat,m<l.length/\qe (l.map D.str)=some (.int m):=by
 obtain⟨h1,h2,h3⟩:=Ea (l.map kS) [] ia;rw[ag,du,fS]at h2 h3;refine⟨(sy (l.map kS)).length,?_,?_⟩
 ·rcases Nat.lt_or_eq_of_le h2 with z|z
  ·exact z
  ·exact ak (QZ (h3 z)) h
 ·unfold qe;rw[A6];simp only;rw[ah (by rw[ag];exact hl)]
theorem z7(hl:l.length<=1000):oB [.lst (l.map D.str)]=some (.bl (decide l.Nodup)):=by
 refine oh (ρ:=[.im (.lst (l.map D.str))]) rfl ?_;have el:c1 pX (cV 0) [.im (.lst (l.map D.str))]=some (.int l.length,[.im (.lst (l.map D.str))]):=oa rfl (by show some (D.int _)=_;rw[ag]);by_cases h:l.Nodup
 ·refine n9 (nP (x:=.int l.length) (y:=.int l.length) (oa rfl (EN (CQ h hl))) el ?_);rw[BH];simp[h]
 ·obtain⟨m,h1,h2⟩:=Gp h hl;refine n9 (nP (x:=.int m) (y:=.int l.length) (oa rfl (EN h2)) el ?_);rw[BH];simp[h];omega
structure Mk where
 n:Str
 st:Int
 mo:Int
def mkD(m:Mk):L4.D:=.obj 1 ["name", "start", "most"] [.str m.n,.int m.st,.int m.mo]
abbrev MD(M:List Mk):L4.D:=.lst (M.map mkD)
theorem E7(m:Mk):nE nN "name" (mkD m)=some (.str m.n):=rfl
section
variable{T:List Tk}{M:List Mk}(hT:T.length<=400)(hM:M.length<=400)(hm:∀m∈M,ox [.str m.n]=some (.bl true))
include hT hM hm
theorem Ph(p:Tk->Bool)(hp:∀t∈T,ox [t.n]=some (.bl (p t))):(T.all p=false->pV [LD T,MD M]=some false)/\(T.all p=true->∀l:List Str,T.map Tk.n=l.map D.str->pV [LD T,MD M]=some (decide (l++M.map Mk.n).Nodup)):=by
 let ρ0:List Sl:=[.im (LD T),.im (MD M),.un];let ds:List L4.D:=T.map Tk.n++M.map λm=>.str m.n;let ρ:List Sl:=[.im (LD T),.im (MD M),.im (.lst ds)];have e1:nJ 1 [] (iL (cV 0)) (gN 0) oK (c1 (nE nN "name") (cV 0)) ρ0=some (T.map Tk.n,ρ0):=xG tkD Tk.n T rfl (by omega) λt _=>⟨_,_,rfl,oa rfl (tR t),rfl⟩;have e2:nJ 1 [] (iL (cV 1)) (gN 0) oK (c1 (nE nN "name") (cV 0)) ρ0=some (M.map λm=>D.str m.n,ρ0):=xG mkD (λm=>D.str m.n) M rfl (by omega) λt _=>⟨_,_,rfl,oa rfl (E7 t),rfl⟩;have e3:=oT (i:=2) (qq (tG (qq e1) (qq e2) (by rw[ag,ag];omega)));have hds:ds.length<=1000:=by show (T.map Tk.n++M.map λm=>D.str m.n).length<=1000;rw[aC,ag,ag];omega
 have tot:∀d∈ds,ox [d]=some (.bl (isT (ox [d]))):=λd hd=>by
  rcases bC.mp hd with h|h
  ·obtain⟨t,ht,rfl⟩:=aI.mp h;rw[hp t ht];rfl
  ·obtain⟨m,h',rfl⟩:=aI.mp h;rw[hm m h'];rfl
 have ea:c1 qd (cL (nJ 1 [] (iL (cV 2)) (gN 0) oK (m7 ox (a1 (cV 0))))) ρ=some (.bl (ds.all λd=>isT (ox [d])),ρ):=
  rh id (λd=>isT (ox [d])) ds (by rw[iI];rfl) hds λd hd=>⟨[.im d],[.im d],rfl,ng rfl (tot d hd),rfl⟩
 have es:(ds.all λd=>isT (ox [d]))=T.all p:=by show ((T.map Tk.n++M.map λm=>D.str m.n).all λd=>isT (ox [d]))=_;rw[List.all_append,fW,fW,rL (l:=M) (λm h=>by show isT (ox [.str m.n])=true;rw[hm m h];rfl),Bool.and_true];exact Dd λt ht=>by show isT (ox [t.n])=p t;rw[hp t ht];rfl
 rw[es]at ea;constructor
 ·intro h;rw[h]at ea;refine Am (ρ:=ρ) rfl ?_;unfold qu;refine(m9 (ρ':=ρ) (qK e3)).trans ?_;exact A5 (vC ea)
 ·intro h l el;rw[h]at ea;have ed:ds=(l++M.map Mk.n).map D.str:=by show T.map Tk.n++(M.map λm=>D.str m.n)=_;rw[el,bb,bg];rfl
  have eu:m7 oB (a1 (cV 2)) ρ=some (.bl (decide (l++M.map Mk.n).Nodup),ρ):=by refine ng (ds:=[.lst ds]) rfl ?_;rw[ed]at hds ⊢;rw[ag]at hds;exact z7 hds
  cases hn:decide (l++M.map Mk.n).Nodup with
  |true=>rw[hn]at eu;refine D8 (ρ:=ρ) rfl ?_;unfold qu;refine(m9 (ρ':=ρ) (qK e3)).trans ?_;rw[m9 (oW ea)];exact oW eu
  |false=>rw[hn]at eu;refine Am (ρ:=ρ) rfl ?_;unfold qu;refine(m9 (ρ':=ρ) (qK e3)).trans ?_;rw[m9 (oW ea)];exact vC eu
end
def nS:L4.D->Str
 |.str x=>x
 |_=>""
def Tk.m(t:Tk):Str:=nS t.n
def isIn(d:L4.D)(l:List Str):Bool:=match d with
 |.str x=>decide (x∈l)
 |_=>false
def sOk:L4.D->Bool
 |.str _=>true
 |.non=>true
 |.int _=>true
 |.bl _=>true
 |.tup _=>true
 |_=>false
def RV:L4.D->Bool
 |.non=>true
 |_=>false
variable{d:L4.D}
theorem Eb(h:sOk d=true)(l:List Str):n8 [d,.lst (l.map D.str)]=some (.bl (isIn d l)):=by
 cases d with
 |str x=>refine oh (ρ:=[.im (.str x),.im (.lst (l.map D.str))]) rfl ?_;refine n9 ((o6 rfl).trans (nP rfl rfl ?_));rw[zK];rfl
 |non=>rfl
 |int i=>rfl
 |bl i=>rfl
 |tup i=>rfl
 |_=>cases h
def rmN(T:List Tk):List Str:=(T.filter λt=>decide (t.k=.room)).map Tk.m
def hdN(T:List Tk):List Str:=(T.filter λt=>t.k.hd).map Tk.m
def stB(T:List Tk)(t:Tk):Bool:=match t.k with
 |.room=>RV t.s
 |.you=>isIn t.s (rmN T)
 |_=>isIn t.s (hdN T)
variable{T:List Tk}
theorem BN(p:Tk->Bool)(hn:∀t∈T,t.n=.str t.m):(T.filter p).map Tk.n=((T.filter p).map Tk.m).map D.str:=by rw[bg];exact jA λt ht=>hn t (bA.mp ht).1
variable{t:Tk}
section
variable{T:List Tk}(hl:T.length<=900)(hn:∀t∈T,t.n=.str t.m)
include hl hn
theorem Dg(hi:cV i ρ=some (LD T,ρ)):nJ 1 [] (iL (cV i)) (gN 0) (cT (c2 (dEq false) (c1 (nE oH "kind") (cV 0)) (cC (.str "room")))) (c1 (nE nN "name") (cV 0)) ρ=some ((rmN T).map D.str,ρ):=by
 have hs:iL (cV i) ρ=some (T.map tkD,ρ):=by unfold iL;rw[hi]
 refine(vE (k:=1) (cap:=[]) (g:=gN 0) (ft:=cT (c2 (dEq false) (c1 (nE oH "kind") (cV 0)) (cC (.str "room")))) (fe:=c1 (nE nN "name") (cV 0)) tkD Tk.n (λt=>decide (t.k=.room)) T hs (by omega) λt _=>
  ⟨[.im (tkD t)],[.im (tkD t)],rfl,qp (nP (oa rfl (wG t)) rfl (z5 t.k .room)),λ_=>⟨_,oa rfl (tR t),rfl⟩,λ_=>rfl⟩).trans ?_
 rw[BN _ hn];rfl
theorem Ec(hi:cV i ρ=some (LD T,ρ)):nJ 1 [] (iL (cV i)) (gN 0) (cT (pz o7 "can_hold" (cV 0) oe)) (c1 (nE nN "name") (cV 0)) ρ=some ((hdN T).map D.str,ρ):=by
 have hs:iL (cV i) ρ=some (T.map tkD,ρ):=by unfold iL;rw[hi]
 refine(vE (k:=1) (cap:=[]) (g:=gN 0) (ft:=cT (pz o7 "can_hold" (cV 0) oe)) (fe:=c1 (nE nN "name") (cV 0)) tkD Tk.n (λt=>t.k.hd) T hs (by omega) λt _=>
  ⟨[.im (tkD t)],[.im (tkD t)],rfl,qp (rZ (xs:=[t.n,t.w,.str t.k.s,t.s]) (ys:=[]) rfl rfl rfl rfl (E5 t)),λ_=>⟨_,oa rfl (tR t),rfl⟩,λ_=>rfl⟩).trans ?_
 rw[BN _ hn];rfl
theorem Dh(hs:sOk t.s=true):wC [LD T,tkD t]=some (.bl (stB T t)):=by
 let ρ:List Sl:=[.im (LD T),.im (tkD t)];refine oh (ρ:=ρ) rfl ?_;unfold wB;have k1:cT (c2 (dEq false) (c1 (nE oH "kind") (cV 1)) (cC (.str "room"))) ρ=some (decide (t.k=.room),ρ):=qp (nP (ρ1:=ρ) (ρ2:=ρ) (oa rfl (wG t)) rfl (z5 t.k .room));have k2:cT (c2 (dEq false) (c1 (nE oH "kind") (cV 1)) (cC (.str "you"))) ρ=some (decide (t.k=.you),ρ):=qp (nP (ρ1:=ρ) (ρ2:=ρ) (oa rfl (wG t)) rfl (z5 t.k .you));by_cases h1:t.k=.room
 ·rw[aW h1]at k1;refine n5 ((oG k1).trans (n9 (nP (ρ1:=ρ) (x:=t.s) (y:=.non) (oa rfl (y9 t)) rfl ?_)));unfold stB;rw[h1];generalize t.s=d at hs ⊢;cases d with
  |str x=>rfl
  |non=>rfl
  |int i=>rfl
  |bl i=>rfl
  |tup i=>rfl
  |_=>cases hs
 ·rw[aY h1]at k1;refine(m9 (ρ':=ρ) ((qx k1).trans rfl)).trans ?_;by_cases h2:t.k=.you
  ·rw[aW h2]at k2;refine n5 ((oG k2).trans (n9 ((ng (nD (oa rfl (y9 t)) (nD (qq (Dg hl hn rfl)) rfl)) (Eb hs (rmN T))).trans ?_)));unfold stB;rw[h2]
  ·rw[aY h2]at k2;refine(m9 (ρ':=ρ) ((qx k2).trans rfl)).trans ?_;refine n9 ((ng (nD (oa rfl (y9 t)) (nD (qq (Ec hl hn rfl)) rfl)) (Eb hs (hdN T))).trans ?_);unfold stB;generalize t.k=k at h1 h2 ⊢;cases k with
   |room=>exact ak rfl h1
   |you=>exact ak rfl h2
   |_=>rfl
end
def nK(T:List Tk):List Key:=T.map λt=>kS t.m
def stD(T:List Tk):L4.D:=.dic (nK T) (T.map Tk.s)
theorem Di(h:(T.map Tk.m).Nodup):(nK T).Nodup:=by have:=AJ h;rw[bg]at this;exact this
theorem E8(h:(T.map Tk.m).Nodup)(ht:t∈T):qS (nK T) (T.map Tk.s) (kS t.m)=some t.s:=by refine w9 (Di h) ?_;unfold nK;rw[ir];exact aU (f:=λt=>(kS t.m,t.s)) ht
variable{ds:List L4.D}{x:Str}
theorem Dj{fk fv:FE}{ks:List Key}(h1:fv ρ=some (d,ρ))(h2:ρ[i]?=some (.dk ks ds))(h3:fk ρ=some (.str x,ρ))(hn:kS x∉ks)(hl:ks.length<1000)(he:ds.length=ks.length):
  rQ i fk fv ρ=some (.nx (ρ.set i (.dk (ks++[kS x]) (ds++[d])))):=by
 have hk:yV ks (kS x)=false:=by unfold yV;rw[dN];intro z;obtain⟨y,hy,ey⟩:=cp.mp z;exact hn (by rw[<-bJ ey];exact hy)
 unfold rQ;rw[h1];simp only[h2,h3];rw[show uX (.str x)=some (kS x) from rfl];simp only;rw[ah hl,ah he,hk];rfl
section
variable{α:Type}{g:FG}{i:Nat}{fk fv:FE}
theorem vR(dd:α->L4.D)(kf:α->Str)(vf:α->L4.D)(st:List Key->List L4.D->Sl->List Sl)(A:List α)
  (hs:∀a∈A,∀(ks:List Key) (ds:List L4.D) (s:Sl),∃ρ1,g (dd a) (st ks ds s)=some ρ1/\fv ρ1=some (vf a,ρ1)/\ρ1[i]?=some (.dk ks ds)/\fk ρ1=some (.str (kf a),ρ1)/\∀ks' ds',∃s',ρ1.set i (.dk ks' ds')=st ks' ds' s'):
  ∀(l:List α) (ks:List Key) (ds:List L4.D) (s:Sl),(∀a∈l,a∈A)->(ks++l.map λa=>kS (kf a)).Nodup->ks.length+l.length<=1000->ds.length=ks.length->
   ∃s',forL g (rQ i fk fv) (l.map dd) (st ks ds s)=some (.nx (st (ks++l.map λa=>kS (kf a)) (ds++l.map vf) s'))
 |[],ks,ds,s,_,_,_,_=>⟨s,by rw[c6,c6,c6,br,br];rfl⟩
 |a::l,ks,ds,s,hA,nd,hl,he=>by
  obtain⟨ρ1,h1,h2,h3,h4,h5⟩:=hs a (hA a aG) ks ds s;obtain⟨s1,h6⟩:=h5 (ks++[kS (kf a)]) (ds++[vf a]);rw[aD]at hl;have nd':((ks++[kS (kf a)])++l.map λa=>kS (kf a)).Nodup:=by rw[bI];exact nd
  have hn:kS (kf a)∉ks:=λz=>by rw[bZ]at nd;exact nd.2.2 _ z _ (by rw[aK];exact aG) rfl
  obtain⟨s',h7⟩:=vR dd kf vf st A hs l (ks++[kS (kf a)]) (ds++[vf a]) s1 (λb hb=>hA b (aN _ hb)) nd' (by rw[aC,bO];omega) (by rw[aC,aC,he,bO,bO]);refine⟨s',?_⟩;rw[aK];unfold forL;rw[h1];simp only[Dj h2 h3 h4 hn (by omega) he,h6];rw[h7,aK,aK,bI,bI];rfl
end
def cB:FS:=ni (sIf (cT (c2 yU (cV 2) (cC D.non))) (nT (cC (.bl true))) ou) (oM 2 (c2 vW (cV 0) (cV 2)))
section
variable{T:List Tk}(hl:T.length<=900)(nd:(T.map Tk.m).Nodup)
include hl nd
theorem A7(ht:t∈T):(∀ρ,forL (gN 3) cB (wx 0 T.length) [.im (stD T),.im (.str t.m),.im t.s,.un]=some (.rt (.bl true) ρ)->oJ [stD T,.str t.m]=some (.bl true))/\
  (∀(d:L4.D) (b:Bool) (s:Sl),yU d .non=some (.bl b)->forL (gN 3) cB (wx 0 T.length) [.im (stD T),.im (.str t.m),.im t.s,.un]=some (.nx [.im (stD T),.im (.str t.m),.im d,s])->oJ [stD T,.str t.m]=some (.bl b)):=by
 have e0:oM 2 (c2 vW (cV 0) (cV 1)) [.im (stD T),.im (.str t.m),.un,.un]=some (.nx [.im (stD T),.im (.str t.m),.im t.s,.un]):=(oT (nP rfl rfl (E8 nd ht))).trans rfl;have e1:iR1 (c1 pX (cV 0)) [.im (stD T),.im (.str t.m),.im t.s,.un]=some (wx 0 T.length,[.im (stD T),.im (.str t.m),.im t.s,.un]):=by unfold iR1;rw[show c1 pX (cV 0) [.im (stD T),.im (.str t.m),.im t.s,.un]=some (.int T.length,[.im (stD T),.im (.str t.m),.im t.s,.un]) from oa rfl (by show some (D.int _)=_;unfold nK;rw[ag])];simp only;rw[ah (by omega),gL]
 constructor
 ·intro ρ q;refine oh (ρ:=ρ) rfl ?_;exact(m9 e0).trans (n5 ((tH e1).trans q))
 ·intro d b s hd q;refine oh (ρ:=[.im (stD T),.im (.str t.m),.im d,s]) rfl ?_;exact(m9 e0).trans ((m9 ((tH e1).trans q)).trans (n9 (nP rfl rfl hd)))
theorem Q0{a:Sl}{u:Tk}{s:Sl}(hu:u∈T):cB [.im (stD T),a,.im (.str u.m),s]=some (.nx [.im (stD T),a,.im u.s,s]):=
 (m9 (ρ':=[.im (stD T),a,.im (.str u.m),s]) rfl).trans ((oT (nP rfl rfl (E8 nd hu))).trans rfl)
theorem IY(G:Tk->Prop)(r:Str->Nat)(h:∀u∈T,G u->r u.m<T.length/\(u.s=.non\/∃v∈T,G v/\u.s=.str v.m/\r v.m<r u.m))(ht:t∈T)(hg:G t):oJ [stD T,.str t.m]=some (.bl true):=by
 have loop:∀(m:Nat) (l:List L4.D),l.length=m->∀(u:Tk) (s:Sl),u∈T->G u->r u.m<=m->(∃ρ,forL (gN 3) cB l [.im (stD T),.im (.str t.m),.im u.s,s]=some (.rt (.bl true) ρ))\/(∃s',forL (gN 3) cB l [.im (stD T),.im (.str t.m),.im u.s,s]=some (.nx [.im (stD T),.im (.str t.m),.im .non,s'])):=by
  intro m
  induction m with
  |zero=>
   intro l hm u s hu hg hr;cases l with
   |cons d l=>cases hm
   |nil=>
    rcases(h u hu hg).2 with e|⟨v,hv,gv,e,lt⟩
    ·rw[e];exact .inr ⟨s,rfl⟩
    ·omega
  |succ m ih=>
   intro l hm u s hu hg hr;cases l with
   |nil=>cases hm
   |cons d l=>
    rcases(h u hu hg).2 with e|⟨v,hv,gv,e,lt⟩
    ·rw[e];refine .inl ⟨[.im (stD T),.im (.str t.m),.im .non,.im d],?_⟩;unfold forL;rw[show gN 3 d [.im (stD T),.im (.str t.m),.im .non,s]=some [.im (stD T),.im (.str t.m),.im .non,.im d] from rfl];rfl
    ·rw[e];unfold forL;rw[show gN 3 d [.im (stD T),.im (.str t.m),.im (.str v.m),s]=some [.im (stD T),.im (.str t.m),.im (.str v.m),.im d] from rfl];simp only[Q0 hl nd hv];exact ih l (by simpa using hm) v (.im d) hv gv (by omega)
 rcases loop T.length (wx 0 T.length) (by unfold wx;simp) t .un ht hg (by have:=(h t ht hg).1;omega)with ⟨ρ,q⟩|⟨s',q⟩
 ·exact(A7 hl nd ht).1 ρ q
 ·exact(A7 hl nd ht).2 .non true s' rfl q
end
section
variable{T:List Tk}(hl:T.length<=900)(hn:∀t∈T,t.n=.str t.m)(hs:∀t∈T,sOk t.s=true)
include hl hn hs
theorem Pi(nd:(T.map Tk.m).Nodup)(h:T.all (stB T)=true)(c:Tk->Bool)(hc:∀t∈T,oJ [stD T,.str t.m]=some (.bl (c t))):qb [LD T]=some (T.all c):=by
 obtain⟨s',e1⟩:=vR (g:=gN 2) (i:=1) (fk:=c1 (nE nN "name") (cV 2)) (fv:=c1 (nE qg "start") (cV 2)) tkD Tk.m Tk.s (λks ds s=>[.im (LD T),.dk ks ds,s]) T
  (λt ht ks ds s=>⟨[.im (LD T),.dk ks ds,.im (tkD t)],rfl,oa rfl (y9 t),rfl,oa rfl ((tR t).trans (by rw[hn t ht])),λks' ds'=>⟨_,rfl⟩⟩) T [] [] .un (λ_ h=>h) (by rw[bP];exact Di nd) (by simp;omega) rfl
 have src:iD (cFz 1) [.im (LD T),.dk ([]++T.map λa=>kS a.m) ([]++T.map Tk.s),s']=some ((T.map λt=>D.str t.m),[.im (LD T),.im (stD T),s']):=by rw[bP,bP];unfold iD;rw[show cFz 1 [.im (LD T),.dk (T.map λa=>kS a.m) (T.map Tk.s),s']=some (stD T,[.im (LD T),.im (stD T),s']) from rfl];show (if (nK T).length=(T.map Tk.s).length then some ((nK T).map NK,_)else none)=_;unfold nK;rw[ah (by rw[ag,ag]),bg];rfl
 have ec:c1 qd (cL (nJ 1 [1] (iD (cFz 1)) (gN 0) oK (m7 oJ (aCons (cV 1) (a1 (cV 0)))))) [.im (LD T),.dk ([]++T.map λa=>kS a.m) ([]++T.map Tk.s),s']=some (.bl (T.all c),[.im (LD T),.im (stD T),s']):=
  rh (λt:Tk=>D.str t.m) c T src (by omega) λt ht=>⟨[.im (.str t.m),.im (stD T)],[.im (.str t.m),.im (stD T)],rfl,ng rfl (hc t ht),rfl⟩
 have hd:∀{o:Out},sXp m8 (aCons (c1 qd (cL (nJ 1 [1] (iD (cFz 1)) (gN 0) oK (m7 oJ (aCons (cV 1) (a1 (cV 0))))))) (a1 (cS "a thing starts within itself"))) [.im (LD T),.dk ([]++T.map λa=>kS a.m) ([]++T.map Tk.s),s']=some o->qX [.im (LD T),.un,.un]=some o:=λ{o} q=>by unfold qX;refine(m9 (oW (ρ1:=[.im (LD T),.un,.un]) ((rh tkD (stB T) T rfl (by omega) λt ht=>⟨[.im (tkD t),.im (LD T)],[.im (tkD t),.im (LD T)],rfl,ng rfl (Dh hl hn (hs t ht)),rfl⟩).trans (by rw[h])))).trans ?_;refine(m9 (ρ':=[.im (LD T),.dk [] [],.un]) rfl).trans ?_;exact(m9 (qK ((tH rfl).trans e1))).trans q
 cases hb:T.all c with
 |true=>rw[hb]at ec;exact D8 rfl (hd (oW ec))
 |false=>rw[hb]at ec;exact Am rfl (hd (vC ec))
end
def taB(h:Tk->Tk->Bool)(P:List Tk)(t:Tk):Bool:=!(P.filter λu=>!decide (u.m=t.m)).any λu=>h u t
section
variable{T:List Tk}(hl:T.length<=900)
include hl
theorem Lh{P:List Tk}(hP:P.length<=900)(hn:∀t∈P,t.n=.str t.m)(h:Tk->Tk->Bool)(ht:t∈P)(hh:∀u∈P,qJ [u.w,t.w]=some (.bl (h u t))):pU [LD P,tkD t]=some (.bl (taB h P t)):=by
 let O:=P.filter λu=>!decide (u.m=t.m);let ρ:List Sl:=[.im (LD P),.im (tkD t),.im (LD O)];have hO:O.length<=900:=bD (ee _ _) hP;refine oh (ρ:=ρ) rfl ?_;unfold rR;refine(m9 (ρ':=ρ) ((oT (qq (vE tkD tkD (λu=>!decide (u.m=t.m)) P (ρ1:=[.im (LD P),.im (tkD t),.un]) rfl (by omega) λu hu=>⟨[.im (tkD u),.im (tkD t)],[.im (tkD u),.im (tkD t)],rfl,qp (nP (x:=.str u.m) (y:=.str t.m) (oa rfl ((tR u).trans (by rw[hn u hu]))) (oa rfl ((tR t).trans (by rw[hn t ht]))) (BF true u.m t.m)),λ_=>⟨_,rfl,rfl⟩,λ_=>rfl⟩))).trans rfl)).trans ?_;have e:c1 zC (cL (nJ 1 [1] (iL (cV 2)) (gN 0) oK (m7 qJ (aCons (c1 (nE pf "words") (cV 0)) (aCons (c1 (nE pf "words") (cV 1)) oe))))) ρ=some (.bl (O.any λu=>h u t),ρ):=
  E4 tkD (λu=>h u t) O rfl (by omega) λu hu=>⟨[.im (tkD u),.im (tkD t)],[.im (tkD u),.im (tkD t)],rfl,ng (nD (oa rfl (y8 u)) (nD (oa rfl (y8 t)) rfl)) (hh u (bA.mp hu).1),rfl⟩
 refine n9 ?_;unfold yT;rw[e];rfl
theorem Pj(p:Tk->Bool)(hp:∀t∈T,qI [t.w]=some (.bl (p t))):(T.all p=false->oj [LD T]=some false)/\
  (T.all p=true->(∀t∈T,t.n=.str t.m)->∀h:Tk->Tk->Bool,(∀t∈plN T,∀u∈plN T,qJ [u.w,t.w]=some (.bl (h u t)))->oj [LD T]=some ((plN T).all (taB h (plN T)))):=by
 let ρ0:List Sl:=[.im (LD T),.un];have ea:c1 qd (cL (nJ 1 [] (iL (cV 0)) (gN 0) oK (m7 qI (a1 (c1 (nE pf "words") (cV 0)))))) ρ0=some (.bl (T.all p),ρ0):=rh tkD p T rfl (by omega) λt ht=>⟨[.im (tkD t)],[.im (tkD t)],rfl,ng (nD (oa rfl (y8 t)) rfl) (hp t ht),rfl⟩;constructor
 ·intro h;rw[h]at ea;refine Am (ρ:=ρ0) rfl ?_;unfold oF;exact A5 (vC ea)
 ·intro h hn hh hq;rw[h]at ea;let P:=plN T;have hP:P.length<=900:=bD (ee _ _) hl;have hnP:∀t∈P,t.n=.str t.m:=λt ht=>hn t (bA.mp ht).1;let ρ:List Sl:=[.im (LD T),.im (LD P)];have eb:c1 qd (cL (nJ 1 [1] (iL (cV 1)) (gN 0) oK (m7 pU (aCons (cV 1) (a1 (cV 0)))))) ρ=some (.bl (P.all (taB hh P)),ρ):=rh tkD (taB hh P) P rfl (by omega) λt ht=>⟨[.im (tkD t),.im (LD P)],[.im (tkD t),.im (LD P)],rfl,ng rfl (Lh hl hP hnP hh ht λu hu=>hq t ht u hu),rfl⟩;have hd:∀{o:Out},sXp m8 (aCons (c1 qd (cL (nJ 1 [1] (iL (cV 1)) (gN 0) oK (m7 pU (aCons (cV 1) (a1 (cV 0))))))) (a1 (cS "one thing has all words of another"))) ρ=some o->oF ρ0=some o:=λ{o} q=>by unfold oF;refine(m9 (oW ea)).trans ?_;exact(m9 (ρ':=ρ) (qK ((oT (qq (ng rfl (tS T (by omega))))).trans rfl))).trans q
  cases hb:P.all (taB hh P)with
  |true=>rw[hb]at eb;exact D8 rfl (hd (oW eb))
  |false=>rw[hb]at eb;exact Am rfl (hd (vC eb))
end
def vb(n f:Str)(j:L4.D):L4.D:=.obj 2 ["name", "others", "form", "joining"] [.str n,.tup [],.str f,j]
def v9:List L4.D:=[vb "take" "one" .non,vb "drop" "one" .non,vb "open" "one" .non,vb "shut" "one" .non,vb "light" "one" .non,vb "douse" "one" .non,vb "put" "two" (.str "in"),vb "go" "way" .non,vb "wait" "alone" .non]
theorem Q1:q8 []=some v9:=by kernel_rfl
abbrev pA(d M W V:L4.D):List L4.D:=[d,M,.lst [],W,V,.lst v9]
structure Rt(T:List Tk):Prop where
 l:T.length<=20
 s:∀t∈T,t.n=.str t.m
 c1:qV [LD T]=some true
 c4:qb [LD T]=some true
 c5:oj [LD T]=some true
abbrev rrD(T:List Tk):L4.D:=.lst ((rmN T).map D.str)
theorem Q2(R:L4.D):uz [.lst [],R]=some true:=by kernel_rfl
theorem cp5(r:Rt T){M W:L4.D}{vs l:List L4.D}(h2:tJ [M]=some true)(h3:pV [LD T,M]=some true)(hm:qW [LD T,M]=some l)(h:qY [W,rrD T,.lst l]=some true)(h8:tK [.lst vs]=some true)(lv:vs.length<=900)(hv:o8 [LD T,W,.lst (vs++v9)]=some true):rK (pA (LD T) M W (.lst vs))=some true:=by have l':=r.l;let ρ0:List Sl:=stE 7 (pA (LD T) M W (.lst vs));let ρ:List Sl:=[.im (LD T),.im M,.im (.lst []),.im W,.im (.lst vs),.im (.lst v9),.im (rrD T)];refine D8 (ρ:=ρ) rfl ?_;unfold tL;rw[m9 (An (ds:=[LD T]) (ρ1:=ρ0) rfl r.c1),m9 (An (ds:=[M]) (ρ1:=ρ0) rfl h2),m9 (An (ds:=[LD T,M]) (ρ1:=ρ0) rfl h3),m9 (An (ds:=[LD T]) (ρ1:=ρ0) rfl r.c4),m9 (An (ds:=[LD T]) (ρ1:=ρ0) rfl r.c5)];refine(m9 (ρ':=ρ) (qK ((oT (qq (Dg (T:=T) (by omega) r.s rfl))).trans rfl))).trans ?_;refine(m9 (An (ds:=[.lst [],rrD T]) (ρ1:=ρ) rfl (Q2 _))).trans ?_;refine(m9 (An (ds:=[W,rrD T,.lst l]) (ρ1:=ρ) (nD rfl (nD rfl (nD (qq (ng (g:=qW) (ds:=[LD T,M]) rfl hm)) rfl))) h)).trans ?_;refine(m9 (An (ds:=[.lst vs]) (ρ1:=ρ) rfl h8)).trans ?_;exact An (ds:=[LD T,W,.lst (vs++v9)]) (nD rfl (nD rfl (nD (qq (tG (xs:=vs) (ys:=v9) (ρ1:=ρ) (ρ2:=ρ) rfl rfl (by show vs.length+9<=1000;omega))) rfl))) hv
structure Th where
 n:Str
 w:List Str
 k:Kd
 s:Option Str
def oS:Option Str->L4.D
 |none=>.non
 |some x=>.str x
def Th.tk(t:Th):Tk:=⟨.str t.n,.tup (t.w.map D.str),t.k,oS t.s⟩
def thD(t:Th):L4.D:=tkD t.tk
abbrev TD(T:List Th):L4.D:=.lst (T.map thD)
def Th.nw(t:Th):Str×List Str:=(t.n,t.w)
theorem Q3(T:List Th):TD T=LD (T.map Th.tk):=by show D.lst _=D.lst _;rw[bg];rfl
def rmL:List Str:=["hall", "x", "cellar", "loft", "porch"]
def plL:List (Str×List Str):=[("chest", ["old", "chest"]),("lamp", ["lamp", "red"]),("stone", ["red", "stone"]),("key", ["key"])]
def Dk(l:List Th)(r:Th):Prop:=(r.k=.room/\r.s=none)\/(r.k=.you/\∃u∈l,r.s=some u.n/\u.k=.room)\/(r.k.pl=true/\∃u∈l,r.s=some u.n/\u.k.hd=true)
inductive Ord:List Th->Prop
 |nil:Ord []
 |snoc {l:List Th} {r:Th} (h:Ord l) (h':Dk l r):Ord (l++[r])
theorem Dk.mono{l l':List Th}{r:Th}(h:Dk l r)(hs:∀u∈l,u∈l'):Dk l' r:=by
 rcases h with h|⟨h1,u,h2,h3⟩|⟨h1,u,h2,h3⟩
 ·exact .inl h
 ·exact .inr (.inl ⟨h1,u,hs u h2,h3⟩)
 ·exact .inr (.inr ⟨h1,u,hs u h2,h3⟩)
theorem Ord.all{l:List Th}(h:Ord l):∀r∈l,Dk l r:=by
 induction h with
 |nil=>exact λr hr=>(eO hr).elim
 |snoc h h' ih=>
  intro r hr;rcases bC.mp hr with hr|hr
  ·exact(ih r hr).mono λu hu=>bw _ hu
  ·rw[ba]at hr;subst hr;exact h'.mono λu hu=>bw _ hu
theorem Dk.start{l:List Th}{r:Th}(h:Dk l r){p:Str}(hp:r.s=some p):∃u∈l,u.n=p:=by
 rcases h with ⟨_,h⟩|⟨_,u,h2,h3,_⟩|⟨_,u,h2,h3,_⟩
 ·rw[h]at hp;cases hp
 ·rw[h3]at hp;cases hp;exact⟨u,h2,rfl⟩
 ·rw[h3]at hp;cases hp;exact⟨u,h2,rfl⟩
theorem Ord.rank{l:List Th}(h:Ord l):(l.map Th.n).Nodup->∃rk:Str->Nat,∀t∈l,rk t.n<l.length/\∀p,t.s=some p->rk p<rk t.n/\∃u∈l,u.n=p:=by
 induction h with
 |nil=>exact λ_=>⟨λ_=>0,λt ht=>(eO ht).elim⟩
 |@snoc l r h h' ih=>
  intro nd;rw[bb,bZ]at nd;obtain⟨rk,hk⟩:=ih nd.1;have ne:∀u∈l,u.n≠r.n:=λu hu z=>nd.2.2 _ (aU hu) _ (by simp) z;refine⟨λx=>if x=r.n then l.length else rk x,λt ht=>?_⟩;rw[aC,bO];dsimp only;rcases bC.mp ht with ht|ht
  ·obtain⟨h1,h2⟩:=hk t ht;rw[ai (ne t ht)];refine⟨by omega,λp hp=>?_⟩;obtain⟨h3,u,hu,rfl⟩:=h2 p hp;rw[ai (ne u hu)];exact⟨h3,u,bw _ hu,rfl⟩
  ·rw[ba]at ht;subst ht;rw[ah rfl];refine⟨by omega,λp hp=>?_⟩;obtain⟨u,hu,rfl⟩:=h'.start hp;rw[ai (ne u hu)];exact⟨(hk u hu).1,u,bw _ hu,rfl⟩
theorem IZ(k:Nat)(h:k<=ds.length):cutD ds none (some (k:Int))=ds.take k:=by unfold cutD;rw[HT.B2,HT.Eo,j9 h,List.drop_zero,Nat.sub_zero]
theorem Pk(k:Nat)(h:k<=ds.length):cutD ds (some (k:Int)) none=ds.drop k:=by unfold cutD;rw[HT.B2,HT.Eo,j9 h,gq (by rw[dP];omega)]
theorem Q4(n:Nat):wx 0 n=(aS n).map λk:Nat=>D.int (k:Nat):=by unfold wx;simp
theorem Pl{P:Kd->Prop}(h1:P .room)(h2:P .you)(h3:P .plain)(h4:P .fixed)(h5:P .box)(h6:P .lamp):∀k,P k:=λk=>by cases k<;>assumption
variable{ρ1:List Sl}
theorem LV{n:Nat}(h:e ρ=some (.int (n:Nat),ρ1))(hn:n<=100):iR1 e ρ=some ((aS n).map λk:Nat=>D.int (k:Nat),ρ1):=by unfold iR1;rw[h];dsimp only;rw[ah (by omega),gL,Q4]
variable{ρ2 ρ3:List Sl}
theorem Ed{lo hi:FO}{l u:Option Int}(h1:e ρ=some (.lst ds,ρ1))(h2:lo ρ1=some (l,ρ2))(h3:hi ρ2=some (u,ρ3)):wZ e lo hi ρ=some (cutD ds l u,ρ3):=by unfold wZ;rw[h1];simp only[h2,h3]
theorem Pm{i:Int}(h:e ρ=some (.int i,ρ1)):oAt e ρ=some (some i,ρ1):=by unfold oAt;rw[h]
variable{j:Nat}
theorem ixs{L:List L4.D}(h:wy es)(h0:L≠[])(hl:L.length<=1000)(hi:pI ρ i=some es)(hj:pI ρ j=some L)(hb:cV j (ρ.map Sl.bor)=some (.lst L,ρ.map Sl.bor))(hne:∀es',pI (putAt ρ i es') j=some L):
  ∃d∈L,∃es',wy es'/\DK j (sJ nX i (a1 (uo (c1 pX (cV j))))) ρ=some (d,putAt ρ i es'):=by
 have hp:0<L.length:=jz.mpr h0;obtain⟨r,es',h4,h2,h3,h1⟩:=Dc h (b:=L.length) (by omega) (by omega);obtain⟨m,rfl⟩:=cE h2;have hm:m<L.length:=by omega
 refine⟨L[m],dj hm,es',h1,?_⟩;have e1:uo (c1 pX (cV j)) ρ=some (.int L.length,ρ):=BB (oa hb rfl) rfl;have e2:sJ nX i (a1 (uo (c1 pX (cV j)))) ρ=some (.int m,putAt ρ i es'):=DQ hi (nD e1 rfl) hi h4;unfold DK;rw[hj];simp only[e2,hne es'];rw[show atI L (m:Int)=some L[m] from vG (aV hm)]
def Dl(i:Nat):Str×List Str:=plL.getD i ("key", ["key"])
def plD(q:Str×List Str):L4.D:=.tup [.str q.1,.tup (q.2.map D.str)]
def kL:List Kd:=[.plain,.box,.lamp,.fixed]
def tB:FS:=(ni (FV (c2 dIx (cV 4) (c2 qm (c2 qG (cV 6) (cV 5)) (cC (.int 4)))) (gT (qC (gN 7) (qC (gN 8) yh)) 2))
 (ni (oM 9 (c2 dIx (cL (nH (aCons (cS "plain") (aCons (cS "box") (aCons (cS "lamp") (a1 (cS "fixed"))))))) (sJ nX 0 (a1 (cC (.int 4))))))
 (ni (pb (sr 2 (nh 0 (λds=>pE (ds++[])) (aCons (cV 7) (aCons (cV 8) (aCons (cV 9) (a1 (DK 3 (sJ nX 0 (a1 (uo (c1 pX (cV 3)))))))))))))
 (sIf (cT (c2 (dEq false) (cV 9) (cS "box"))) (pb (sr 3 (cV 7))) ou))))
theorem LW(h:i<4):Dl i∈plL/\atI (plL.map plD) (i:Int)=some (plD (Dl i)):=by
 have e:plL[i]?=some (Dl i):=by unfold Dl;rw[fw,aV (show i<plL.length from h)];rfl
 exact⟨bx e,vG (by rw[aX,e];rfl)⟩
def cc:List Th:=[⟨"case", ["case"],.box,some "hall"⟩,⟨"candle", ["candle"],.lamp,some "me"⟩]
theorem yP(a:Sl)(tn:Nat)(htn:tn<4):∀(l:List Nat) (es:List L4.D) (P:List Th) (Hs:List Str) (s6 s7 s8 s9:Sl),wy es->Hs≠[]->(∀x∈Hs,∃u∈P,u.n=x/\u.k.hd=true)->Ord P->P.length+l.length<=900->Hs.length+l.length<=900->
  ∃(es':List L4.D) (P':List Th) (Hs':List Str) (t6 t7 t8 t9:Sl),wy es'/\Ord (P++P')/\P'.map Th.nw=l.map (λk=>Dl ((k+tn) % 4))/\(∀t∈P',t.k.pl=true)/\
   forL (gN 6) tB (l.map λk:Nat=>D.int (k:Nat)) [.pm es,a,.ls (P.map thD),.ls (Hs.map D.str),.im (.lst (plL.map plD)),.im (.int (tn:Nat)),s6,s7,s8,s9]=some (.nx [.pm es',a,.ls ((P++P').map thD),.ls (Hs'.map D.str),.im (.lst (plL.map plD)),.im (.int (tn:Nat)),t6,t7,t8,t9])
 |[],es,P,Hs,s6,s7,s8,s9,h,_,_,ho,_,_=>⟨es,[],Hs,s6,s7,s8,s9,h,by rw[br];exact ho,rfl,λr hr=>(eO hr).elim,by rw[br];rfl⟩
 |k::l,es,P,Hs,s6,s7,s8,s9,h,h0,hH,ho,hl,hl'=>by
  rw[aD]at hl hl';let Q:Sl:=.im (.lst (plL.map plD));let N:Sl:=.im (.int (tn:Nat));let K:Sl:=.im (.int (k:Nat));let i:Nat:=(k+tn) % 4;have hi:i<4:=gb _ (by decide);obtain⟨pm,ea⟩:=LW hi;let q:=Dl i;let X:Sl:=.im (.str q.1);let Y:Sl:=.im (.tup (q.2.map D.str));obtain⟨d,e1,x1,p0,p1,h1⟩:=dgx (i:=0) (b:=4) (a:=cC (.int 4)) (λes=>[.pm es,a,.ls (P.map thD),.ls (Hs.map D.str),Q,N,K,X,Y,s9]) (λ_=>rfl) (λ_ _=>rfl) rfl h (by decide) (by decide);obtain⟨j,rfl⟩:=cE p0;have hj:j<kL.length:=by show j<4;omega
  let kd:Kd:=kL[j];have hpl:kd.pl=true:=(show ∀k∈kL,Kd.pl k=true by decide) _ (dj hj);have ek:dIx (.lst (kL.map λk=>D.str k.s)) (.int (j:Nat))=some (.str kd.s):=vG (by rw[aX,aV hj];rfl);let Z:Sl:=.im (.str kd.s);let ρ1:List Sl:=[.pm e1,a,.ls (P.map thD),.ls (Hs.map D.str),Q,N,K,X,Y,Z];obtain⟨dd,hdd,e2,h2,x2⟩:=ixs (ρ:=ρ1) (i:=0) (j:=3) h1 (by simpa using h0) (by rw[ag];omega) rfl rfl rfl (λ_=>rfl);obtain⟨p,hp,rfl⟩:=aI.mp hdd;let t:Th:=⟨q.1,q.2,kd,some p⟩;obtain⟨u,hu,hun,huk⟩:=hH p hp;have ok:Dk P t:=.inr (.inr ⟨hpl,u,hu,by rw[hun],huk⟩);let Hs1:List Str:=if kd=.box then Hs++[q.1]else Hs
  have xb:tB [.pm es,a,.ls (P.map thD),.ls (Hs.map D.str),Q,N,K,s7,s8,s9]=some (.nx [.pm e2,a,.ls ((P++[t]).map thD),.ls (Hs1.map D.str),Q,N,K,X,Y,Z]):=by
   unfold tB;refine(m9 (ρ':=[.pm es,a,.ls (P.map thD),.ls (Hs.map D.str),Q,N,K,X,Y,s9]) ?_).trans ?_
   ·have em:c2 qm (c2 qG (cV 6) (cV 5)) (cC (.int 4)) [.pm es,a,.ls (P.map thD),.ls (Hs.map D.str),Q,N,K,s7,s8,s9]=some (.int (i:Nat),[.pm es,a,.ls (P.map thD),.ls (Hs.map D.str),Q,N,K,s7,s8,s9]):=(nP (x:=.int ((k:Int)+(tn:Int))) rfl rfl (sQ (by decide))).trans (by
     rw[show ((k:Int)+(tn:Int)) % 4=((i:Nat):Int) by show _=(((k+tn) % 4:Nat):Int);omega])
    unfold FV;rw[nP (x:=.lst (plL.map plD)) (ρ1:=[.pm es,a,.ls (P.map thD),.ls (Hs.map D.str),Q,N,K,s7,s8,s9]) rfl em ea];rfl
   refine(m9 (ρ':=ρ1) ((oT (nP (x:=.lst (kL.map λk=>D.str k.s)) rfl x1 ek)).trans rfl)).trans ?_;let ρ3:List Sl:=[.pm e2,a,.ls ((P++[t]).map thD),.ls (Hs.map D.str),Q,N,K,X,Y,Z];refine(m9 (ρ':=ρ3) ((wX (DR (es0:=P.map thD) (es:=P.map thD) (ρ1:=[.pm e2,a,.ls (P.map thD),.ls (Hs.map D.str),Q,N,K,X,Y,Z]) (d:=thD t) rfl (ET (ds:=[.str q.1,.tup (q.2.map D.str),.str kd.s,.str p]) (nD rfl (nD rfl (nD rfl (nD x2 rfl)))) rfl) rfl (by rw[ag];omega))).trans ?_)).trans ?_
   ·show some (Out.nx [.pm e2,a,.ls (P.map thD++[thD t]),.ls (Hs.map D.str),Q,N,K,X,Y,Z])=_;rw[show P.map thD++[thD t]=(P++[t]).map thD by rw[bb];rfl]
   ·have et:cT (c2 (dEq false) (cV 9) (cS "box")) ρ3=some (decide (kd=.box),ρ3):=qp (nP rfl rfl (z5 kd .box));by_cases hb:kd=.box
    ·rw[aW hb]at et;refine(oG et).trans ((wX (DR (es0:=Hs.map D.str) (es:=Hs.map D.str) (ρ1:=ρ3) (d:=.str q.1) rfl rfl rfl (by rw[ag];omega))).trans ?_);show some (Out.nx [.pm e2,a,.ls ((P++[t]).map thD),.ls (Hs.map D.str++[.str q.1]),Q,N,K,X,Y,Z])=_;rw[show Hs1.map D.str=Hs.map D.str++[.str q.1] by rw[show Hs1=Hs++[q.1] from ah hb,bb];rfl]
    ·rw[aY hb]at et;refine(qx et).trans ?_;rw[show Hs1=Hs from ai hb];rfl
  have hH1:∀y∈Hs1,∃u∈P++[t],u.n=y/\u.k.hd=true:=λy hy=>by
   have old:y∈Hs->∃u∈P++[t],u.n=y/\u.k.hd=true:=λhy=>by obtain⟨v,hv,h⟩:=hH y hy;exact⟨v,bw _ hv,h⟩
   by_cases hb:kd=.box
   ·rw[show Hs1=Hs++[q.1] from ah hb]at hy;rcases bC.mp hy with hy|hy
    ·exact old hy
    ·rw[ba]at hy;refine⟨t,by simp,hy.symm,?_⟩;show kd.hd=true;rw[hb];rfl
   ·rw[show Hs1=Hs from ai hb]at hy;exact old hy
  have h01:Hs1≠[]:=by
   by_cases hb:kd=.box
   ·rw[show Hs1=Hs++[q.1] from ah hb];simp
   ·rw[show Hs1=Hs from ai hb];exact h0
  have hl1:Hs1.length<=Hs.length+1:=by
   by_cases hb:kd=.box
   ·rw[show Hs1=Hs++[q.1] from ah hb];simp
   ·rw[show Hs1=Hs from ai hb];omega
  obtain⟨e3,P',Hs',t6,t7,t8,t9,g1,g2,g3,g4,g5⟩:=yP a tn htn l e2 (P++[t]) Hs1 K X Y Z h2 h01 hH1 (ho.snoc ok) (by rw[aC,bO];omega) (by omega);refine⟨e3,t::P',Hs',t6,t7,t8,t9,g1,by rw[bI]at g2;exact g2,by rw[aK,aK,g3];rfl,λr hr=>?_,?_⟩
  ·rcases aO.mp hr with rfl|hr
   ·exact hpl
   ·exact g4 r hr
  ·rw[aK];unfold forL;rw[show gN 6 (.int (k:Nat)) [.pm es,a,.ls (P.map thD),.ls (Hs.map D.str),Q,N,s6,s7,s8,s9]=some [.pm es,a,.ls (P.map thD),.ls (Hs.map D.str),Q,N,K,s7,s8,s9] from rfl];simp only[xb];rw[g5,bI];rfl
def rmT(x:Str):Th:=⟨x,[x,"place"],.room,none⟩
structure Ee(T:List Th):Prop where
 ord:Ord T
 ex:∃(r tn n:Nat) (y:Str) (P:List Th),1<=r/\r<=5/\tn<4/\n<5/\T=(rmL.take r).map rmT++⟨"me", ["me", "self"],.you,some y⟩::P/\P.map Th.nw=(aS n).map (λk=>Dl ((k+tn) % 4))/\∀t∈P,t.k.pl=true
theorem A9:∀(l:List Str) (B:List Th),Ord B->Ord (B++l.map rmT)
 |[],B,h=>by rw[c6,br];exact h
 |x::l,B,h=>by rw[aK,List.append_cons];exact A9 l _ (h.snoc (.inl ⟨rfl,rfl⟩))
theorem Gq(h:wy es):∃(T:List Th) (es':List L4.D),Ee T/\tQ es []=some (TD (T++cc),es')/\wy es':=by
 let U:Sl:=.un;obtain⟨d,e1,x1,p0,p1,h1⟩:=dgx (i:=0) (b:=5) (a:=cC (.int 5)) (λes=>[.pm es,U,U,U,U,U,U,U,U,U]) (λ_=>rfl) (λ_ _=>rfl) rfl h (by decide) (by decide);obtain⟨r,rfl⟩:=cE p0;let R:List Str:=rmL.take (1+r);have lR:R.length=1+r:=by show (rmL.take (1+r)).length=_;rw[bz];show min (1+r) 5=_;omega
 let RS:Sl:=.im (.lst (R.map D.str));let T0:List Th:=R.map rmT;obtain⟨dd,hdd,e2,x2,h2⟩:=pk (i:=0) (e:=cV 1) (a:=c1 pX (cV 1)) (L:=R.map D.str) (λes=>[.pm es,RS,.ls (T0.map thD),U,U,U,U,U,U,U]) (λ_=>rfl) (λ_ _=>rfl) rfl rfl h1 (by intro z;have:=aR b8 z;rw[ag,lR]at this;simp at this) (by rw[ag];omega);obtain⟨y,hy,rfl⟩:=aI.mp hdd;let me:Th:=⟨"me", ["me", "self"],.you,some y⟩;let P0:List Th:=T0++[me];have o0:Ord T0:=by have:=A9 R [] .nil;rw[bP]at this;exact this
 have o1:Ord P0:=o0.snoc (.inr (.inl ⟨rfl,rmT y,aU hy,rfl,rfl⟩));let Hs:List Str:=R++(["me"]:List Str);have hH:∀x∈Hs,∃u∈P0,u.n=x/\u.k.hd=true:=λx hx=>by
  rcases bC.mp hx with hx|hx
  ·exact⟨rmT x,bw _ (aU hx),rfl,rfl⟩
  ·exact⟨me,aZ _ (ba.mpr rfl),(ba.mp hx).symm,rfl⟩
 have lP:P0.length=2+r:=by show (R.map rmT++[me]).length=_;rw[aC,ag,lR];show 1+r+1=_;omega
 have lH:Hs.length=2+r:=by show (R++_).length=_;rw[aC,lR];show 1+r+1=_;omega
 let Q:Sl:=.im (.lst (plL.map plD));obtain⟨d3,e3,x3,q0,q1,h3⟩:=dgx (i:=0) (b:=4) (a:=cC (.int 4)) (λes=>[.pm es,RS,.ls (P0.map thD),.ls (Hs.map D.str),Q,U,U,U,U,U]) (λ_=>rfl) (λ_ _=>rfl) rfl h2 (by decide) (by decide);obtain⟨tn,rfl⟩:=cE q0;let N:Sl:=.im (.int (tn:Nat));obtain⟨d4,e4,x4,u0,u1,h4⟩:=dgx (i:=0) (b:=5) (a:=cC (.int 5)) (λes=>[.pm es,RS,.ls (P0.map thD),.ls (Hs.map D.str),Q,N,U,U,U,U]) (λ_=>rfl) (λ_ _=>rfl) rfl h3 (by decide) (by decide);obtain⟨n,rfl⟩:=cE u0;obtain⟨e5,P',Hs',t6,t7,t8,t9,h5,o5,g3,g4,x5⟩:=yP RS tn (by omega) (aS n) e4 P0 Hs U U U U h4 (by show R++(["me"]:List Str)≠[];simp) hH o1 (by rw[cn];omega) (by rw[cn];omega);let T:List Th:=P0++P';have lP':P'.length=n:=by have:=aR b8 g3;rw[ag,ag,cn]at this;exact this
 have lT:T.length=2+r+n:=by show (P0++P').length=_;rw[aC,lP,lP']
 let HS:Sl:=.ls (Hs'.map D.str);have d0:Ee T:=⟨o5,1+r,tn,n,y,P',by omega,by omega,by omega,by omega,by show (R.map rmT++[me])++P'=_;rw[bI];rfl,g3,g4⟩;let TL:Sl:=.im (TD T);refine⟨T,e5,d0,?_,h5⟩;refine NA (ρ:=[.pm e5,RS,TL,HS,Q,N,t6,t7,t8,t9]) rfl ?_ rfl;unfold tP;refine(m9 (ρ':=[.pm e1,RS,U,U,U,U,U,U,U,U]) ((oT (qq (Ed (ds:=rmL.map D.str) (ρ1:=[.pm es,U,U,U,U,U,U,U,U,U]) rfl rfl (Pm (nP (x:=.int 1) rfl x1 rfl))))).trans ?_)).trans ?_
 ·show some (Out.nx [.pm e1,.im (.lst (cutD (rmL.map D.str) none (some (1+(r:Int))))),U,U,U,U,U,U,U,U])=_;rw[show (1+(r:Int))=((1+r:Nat):Int) by omega,IZ (1+r) (by rw[ag];show 1+r<=5;omega),<- kH]
 refine(m9 (ρ':=[.pm e1,RS,.ls (T0.map thD),U,U,U,U,U,U,U]) ((BA (xG D.str (λx=>thD (rmT x)) R (ρ1:=[.pm e1,RS,U,U,U,U,U,U,U,U]) rfl (by omega) λx _=>⟨[.im (.str x)],[.im (.str x)],rfl,rfl,rfl⟩)).trans ?_)).trans ?_
 ·rw[show T0.map thD=R.map λx=>thD (rmT x) by show (R.map rmT).map thD=_;rw[bg];rfl];rfl
 refine(m9 (ρ':=[.pm e2,RS,.ls (P0.map thD),U,U,U,U,U,U,U]) ((wX (DR (es0:=T0.map thD) (es:=T0.map thD) (ρ1:=[.pm e2,RS,.ls (T0.map thD),U,U,U,U,U,U,U]) (d:=thD me) rfl (ET (ds:=[.str "me", .tup [.str "me", .str "self"],.str "you", .str y]) (nD rfl (nD rfl (nD rfl (nD x2 rfl)))) rfl) rfl (by show ((R.map rmT).map thD).length<1000;rw[ag,ag];omega))).trans ?_)).trans ?_
 ·rw[show P0.map thD=T0.map thD++[thD me] by show (T0++[me]).map thD=_;rw[bb];rfl];rfl
 refine(m9 (ρ':=[.pm e2,RS,.ls (P0.map thD),.ls (Hs.map D.str),U,U,U,U,U,U]) ((BA (tG (xs:=R.map D.str) (ys:=[.str "me"]) (ρ1:=[.pm e2,RS,.ls (P0.map thD),U,U,U,U,U,U,U]) rfl rfl (by rw[ag];show R.length+1<=1000;omega))).trans ?_)).trans ?_
 ·rw[show Hs.map D.str=R.map D.str++[.str "me"] by show (R++(["me"]:List Str)).map D.str=_;rw[bb];rfl];rfl
 refine(m9 (ρ':=[.pm e2,RS,.ls (P0.map thD),.ls (Hs.map D.str),Q,U,U,U,U,U]) rfl).trans ?_;refine(m9 ((oT x3).trans rfl)).trans ?_;refine(m9 (ρ':=[.pm e5,RS,.ls (T.map thD),HS,Q,N,t6,t7,t8,t9]) ((tH (LV (ρ1:=[.pm e4,RS,.ls (P0.map thD),.ls (Hs.map D.str),Q,N,U,U,U,U]) x4 (by omega))).trans x5)).trans ?_;refine y4 ((tG (xs:=T.map thD) (ys:=cc.map thD) (ρ1:=[.pm e5,RS,TL,HS,Q,N,t6,t7,t8,t9]) (ρ2:=[.pm e5,RS,TL,HS,Q,N,t6,t7,t8,t9]) rfl (by kernel_rfl) (by rw[ag];show T.length+2<=1000;omega)).trans ?_);rw[<-bb]
def ccW:List (Str×List Str):=[("case", ["case"]),("candle", ["candle"])]
def pl6:List (Str×List Str):=plL++ccW
def nmL:List Str:=rmL++("me" : Str)::pl6.map bG
def wP(q:Str×List Str):Str×L4.D:=(q.1,.tup (q.2.map D.str))
def plW:List (Str×L4.D):=pl6.map wP
def wdW:List (Str×L4.D):=rmL.map (λx:Str=>wP (x,([x,"place"]:List Str)))++wP ("me", ["me", "self"])::plW
structure Good(T:List Tk):Prop where
 len:T.length<=12
 r1:1<=cK .room T
 r4:cK .room T<=5
 y1:cK .you T=1
 p4:(plN T).length<=6
 nm:∀t∈T,t.n=.str t.m/\t.m∈nmL
 nd:(T.map Tk.m).Nodup
 hall:∃t∈T,t.m="hall" /\ t.k=.room
 me:∃t∈T,t.m="me" /\ t.k=.you
 rm:∀x∈rmN T,x∈rmL
 can:∃t∈T,t.m="case" /\ t.k=.box
 cdn:∃t∈T,t.m="candle" /\ t.k=.lamp
 ca:∃t∈T,t.w=.tup [.str "case"]/\t.k.pl=true
 cd:∃t∈T,t.w=.tup [.str "candle"]/\t.k.pl=true
 wd:∀t∈T,(t.m,t.w)∈wdW/\(t.k.pl=true->(t.m,t.w)∈plW)
 st:∀t∈T,(t.k=.room/\t.s=.non)\/(t.k=.you/\∃u∈T,t.s=.str u.m/\u.k=.room)\/(t.k.pl=true/\∃u∈T,t.s=.str u.m/\u.k.hd=true)
 rk:∃r:Str->Nat,∀t∈T,r t.m<T.length/\(t.s=.non\/∃v∈T,t.s=.str v.m/\r v.m<r t.m)
def qL(tn n:Nat):List (Str×List Str):=((aS n).map λk=>Dl ((k+tn) % 4))++ccW
theorem Pn:((aS 4).all λtn=>(aS 5).all λn=>decide (rmL++("me" : Str)::(qL tn n).map bG).Nodup)=true:=by kernel_rfl
theorem Li{T1:List Th}(d:Ee T1):Good ((T1++cc).map Th.tk):=by
 obtain⟨r,tn,n,y,P1,r1,r4,ht,hn,e1,eP1,hP1⟩:=d.ex;let R:=(rmL.take r).map rmT;let me:Th:=⟨"me", ["me", "self"],.you,some y⟩;generalize eT:T1++cc=T0;generalize eQ:P1++cc=P;have e0:T0=R++me::P:=by rw[<-eT,<- eQ,e1,bI];rfl
 have eP:P.map Th.nw=qL tn n:=by rw[<-eQ,bb,eP1];rfl
 have hP:∀t∈P,t.k.pl=true:=λt h=>by
  rw[<-eQ]at h;rcases bC.mp h with h|h
  ·exact hP1 t h
  ·exact(show ∀t∈cc,t.k.pl=true by simp[cc,Kd.pl]) t h
 have hall1:rmT "hall" ∈ T1:=by rw[e1];refine bw _ (aU ?_);obtain⟨q,rfl⟩:∃q,r=q+1:=⟨r - 1,by omega⟩;exact aG
 have me1:me∈T1:=by rw[e1];exact aZ _ aG
 have ord0:Ord T0:=by rw[<-eT];have o1:=d.ord.snoc (r:=⟨"case", ["case"],.box,some "hall"⟩) (.inr (.inr ⟨rfl,rmT "hall", hall1,rfl,rfl⟩));have o2:=o1.snoc (r:=⟨"candle", ["candle"],.lamp,some "me"⟩) (.inr (.inr ⟨rfl,me,bw _ me1,rfl,rfl⟩));rw[bI]at o2;exact o2
 have lR:R.length=r:=by show ((rmL.take r).map rmT).length=r;rw[ag,bz];show min r 5=r;omega
 have lP:P.length=n+2:=by have:=aR b8 eP;rw[ag]at this;rw[this];unfold qL;rw[aC,ag,cn];rfl
 have rk:∀t∈R,t.k=.room:=λt h=>by obtain⟨x,_,rfl⟩:=aI.mp h;rfl
 have spl:∀p:Th->Bool,T0.filter p=R.filter p++((if p me=true then [me]else [])++P.filter p):=λp=>by rw[e0,List.filter_append,hE];show R.filter p++(if p me=true then me::P.filter p else P.filter p)=_;split<;>rfl
 have all_:∀(p:Kd->Bool) (L:List Th),(∀t∈L,p t.k=true)->L.filter (λt=>p t.k)=L:=λp L h=>jy.mpr h;have non_:∀(p:Kd->Bool) (L:List Th),(∀t∈L,p t.k=false)->L.filter (λt=>p t.k)=[]:=λp L h=>List.filter_eq_nil_iff.mpr λt ht z=>by rw[h t ht]at z;cases z
 have plk:∀k:Kd,k.pl=true->decide (k=.room)=false/\decide (k=.you)=false:=Pl (λz=>by cases z) (λz=>by cases z) (λ_=>⟨rfl,rfl⟩) (λ_=>⟨rfl,rfl⟩) (λ_=>⟨rfl,rfl⟩) (λ_=>⟨rfl,rfl⟩);have fr:T0.filter (λt=>decide (t.k=.room))=R:=by rw[spl,all_ (λk=>decide (k=.room)) R λt h=>by rw[rk t h];rfl,non_ (λk=>decide (k=.room)) P λt h=>(plk t.k (hP t h)).1];exact br R
 have fy:T0.filter (λt=>decide (t.k=.you))=[me]:=by rw[spl,non_ (λk=>decide (k=.you)) R λt h=>by rw[rk t h];rfl,non_ (λk=>decide (k=.you)) P λt h=>(plk t.k (hP t h)).2];rfl
 have fp:T0.filter (λt=>t.k.pl)=P:=by rw[spl,non_ Kd.pl R λt h=>by rw[rk t h];rfl,all_ Kd.pl P hP];rfl
 have eN:T0.map Th.n=rmL.take r++("me" : Str)::(qL tn n).map bG:=by
  rw[e0,bb,aK];have e1:((rmL.take r).map rmT).map Th.n=rmL.take r:=by rw[bg];exact iI _
  have e2:P.map Th.n=(qL tn n).map bG:=by have:=aR (iX bG) eP;rw[bg]at this;exact this
  rw[show R.map Th.n=rmL.take r from e1,e2]
 have big:=bJ (aB.mp (aB.mp Pn tn (bL.mpr ht)) n (bL.mpr hn));have nd0:(T0.map Th.n).Nodup:=by rw[eN];exact big.sublist ((fK r rmL).append (gU _))
 have qIn:∀x∈qL tn n,x∈pl6:=λx h=>by
  rcases bC.mp h with h|h
  ·obtain⟨k,_,e⟩:=aI.mp h;rw[<-e];exact bw _ (LW (gb _ (by decide))).1
  ·exact aZ _ h
 have wP':∀t∈P,t.nw∈pl6:=λt h=>qIn _ (by rw[<-eP];exact aU h);have eM:(T0.map Th.tk).map Tk.m=T0.map Th.n:=by rw[bg];rfl
 have fl:∀p:Tk->Bool,(T0.map Th.tk).filter p=(T0.filter (p∘Th.tk)).map Th.tk:=λp=>List.filter_map;have hall0:rmT "hall" ∈ T0:=by rw[<-eT];exact bw _ hall1
 have me0:me∈T0:=by rw[<-eT];exact bw _ me1
 have cc0:∀t∈cc,t∈T0:=λt h=>by rw[<-eT];exact aZ _ h
 constructor
 ·rw[ag,e0,aC,aD,ag,bz,lP];show min r 5+(n+2+1)<=12;omega
 ·show 1<=((T0.map Th.tk).filter λt=>decide (t.k=.room)).length;rw[fl,ag];show 1<=(T0.filter λt=>decide (t.k=.room)).length;rw[fr,lR];exact r1
 ·show ((T0.map Th.tk).filter λt=>decide (t.k=.room)).length<=5;rw[fl,ag];show (T0.filter λt=>decide (t.k=.room)).length<=5;rw[fr,lR];exact r4
 ·show ((T0.map Th.tk).filter λt=>decide (t.k=.you)).length=1;rw[fl,ag];show (T0.filter λt=>decide (t.k=.you)).length=1;rw[fy];rfl
 ·show ((T0.map Th.tk).filter λt=>t.k.pl).length<=6;rw[fl,ag];show (T0.filter λt=>t.k.pl).length<=6;rw[fp,lP];omega
 ·intro t ht;obtain⟨u,hu,rfl⟩:=aI.mp ht;refine⟨rfl,?_⟩;have hx:u.n∈T0.map Th.n:=aU hu;rw[eN]at hx;show u.n∈nmL;rcases bC.mp hx with hx|hx
  ·exact bw _ (fH hx)
  ·refine aZ _ ?_;rcases aO.mp hx with hx|hx
   ·rw[hx];exact aG
   ·obtain⟨q,hq,e⟩:=aI.mp hx;rw[<-e];exact aN _ (aU (qIn q hq))
 ·rw[eM];exact nd0
 ·exact⟨_,aU hall0,rfl,rfl⟩
 ·exact⟨_,aU me0,rfl,rfl⟩
 ·intro x hx;unfold rmN at hx;rw[fl,show T0.filter ((λt:Tk=>decide (t.k=.room))∘Th.tk)=R from fr]at hx;obtain⟨t,ht,rfl⟩:=aI.mp hx;obtain⟨u,hu,rfl⟩:=aI.mp ht;obtain⟨z,hz,rfl⟩:=aI.mp hu;exact fH hz
 ·exact⟨_,aU (cc0 _ aG),rfl,rfl⟩
 ·exact⟨_,aU (cc0 _ (aN _ aG)),rfl,rfl⟩
 ·exact⟨_,aU (cc0 _ aG),rfl,rfl⟩
 ·exact⟨_,aU (cc0 _ (aN _ aG)),rfl,rfl⟩
 ·intro t ht;obtain⟨u,hu,rfl⟩:=aI.mp ht;have pp:u.nw∈pl6->((u.tk.m,u.tk.w):Str×L4.D)∈plW:=λh=>aU (f:=wP) h;rw[e0]at hu;rcases bC.mp hu with h|h
  ·obtain⟨x,hx,rfl⟩:=aI.mp h;exact⟨bw _ (aI.mpr ⟨x,fH hx,rfl⟩),λz=>by cases z⟩
  ·rcases aO.mp h with rfl|h
   ·exact⟨aZ _ aG,λz=>by cases z⟩
   ·exact⟨aZ _ (aN _ (pp (wP' u h))),λ_=>pp (wP' u h)⟩
 ·intro t ht;obtain⟨u,hu,rfl⟩:=aI.mp ht;rcases ord0.all u hu with ⟨h1,h2⟩|⟨h1,v,hv,h2,h3⟩|⟨h1,v,hv,h2,h3⟩
  ·exact .inl ⟨h1,by show oS u.s=_;rw[h2];rfl⟩
  ·exact .inr (.inl ⟨h1,v.tk,aU hv,by show oS u.s=_;rw[h2];rfl,h3⟩)
  ·exact .inr (.inr ⟨h1,v.tk,aU hv,by show oS u.s=_;rw[h2];rfl,h3⟩)
 ·obtain⟨rk,h⟩:=ord0.rank nd0;refine⟨rk,λt ht=>?_⟩;obtain⟨u,hu,rfl⟩:=aI.mp ht;obtain⟨h1,h2⟩:=h u hu;refine⟨by rw[ag];exact h1,?_⟩;cases e:u.s with
  |none=>exact .inl (by show oS u.s=_;rw[e];rfl)
  |some p=>obtain⟨h3,v,hv,rfl⟩:=h2 p e;exact .inr ⟨v.tk,aU hv,by show oS u.s=_;rw[e];rfl,h3⟩
theorem Q5:(nmL.all λx=>isT (ox [.str x]))=true:=by kernel_rfl
theorem Q6:(wdW.all λq=>isT (qI [q.2]))=true:=by kernel_rfl
def hA(u t:Tk):Bool:=isT (qJ [u.w,t.w])
theorem hH:((plW.map cb).all λa=>(plW.map cb).all λb=>isB (qJ [a,b]))=true:=by kernel_rfl
theorem Gr:(plW.all λp=>plW.all λq=>decide (q.1=p.1)||!isT (qJ [q.2,p.2]))=true:=by kernel_rfl
section
variable{T:List Tk}(g:Good T)
include g
theorem Lj(ht:t∈T):stB T t=true:=by
 obtain⟨n,w,k,s⟩:=t;have hr:∀u∈T,u.k=.room->u.m∈rmN T:=λu hu hk=>aU (bA.mpr ⟨hu,aW hk⟩);have hh:∀u∈T,u.k.hd=true->u.m∈hdN T:=λu hu hk=>aU (bA.mpr ⟨hu,hk⟩);rcases g.st _ ht with ⟨h1,h2⟩|⟨h1,u,hu,h2,h3⟩|⟨h1,u,hu,h2,h3⟩
 ·simp only at h1 h2;subst h1 h2;rfl
 ·simp only at h1 h2;subst h1 h2;exact aW (hr u hu h3)
 ·simp only at h1 h2;subst h2;cases k with
  |room=>cases h1
  |you=>cases h1
  |_=>exact aW (hh u hu h3)
theorem Gs:qb [LD T]=some true:=by
 have l:T.length<=900:=by have:=g.len;omega
 obtain⟨r,hr⟩:=g.rk;have hs:∀t∈T,sOk t.s=true:=λt h1=>by rcases g.st t h1 with ⟨_,e⟩|⟨_,u,_,e,_⟩|⟨_,u,_,e,_⟩<;>rw[e]<;>rfl
 refine(Pi l (λt h=>(g.nm t h).1) hs g.nd (rL λt ht=>Lj g ht) (λ_=>true) λt ht=>?_).trans (by rw[rL λ_ _=>rfl]);refine IY l g.nd (λu=>u∈T) r (λu _ hu=>?_) ht ht;obtain⟨h2,h3⟩:=hr u hu;refine⟨h2,?_⟩;rcases h3 with h3|⟨v,hv,h4,h5⟩
 ·exact .inl h3
 ·exact .inr ⟨v,hv,hv,h4,h5⟩
theorem I0:oj [LD T]=some true:=by
 have wt:∀t∈T,qI [t.w]=some (.bl true):=λt ht=>D9 (aB.mp Q6 _ (g.wd t ht).1);have pm:∀t∈plN T,(t.m,t.w)∈plW:=λt ht=>(g.wd t (bA.mp ht).1).2 (bA.mp ht).2;refine((Pj (by have:=g.len;omega) (λ_=>true) wt).2 (rL λ_ _=>rfl) (λt h=>(g.nm t h).1) hA λt ht u hu=>?_).trans ?_
 ·exact vF (aB.mp (aB.mp hH u.w (aI.mpr ⟨_,pm u hu,rfl⟩)) t.w (aI.mpr ⟨_,pm t ht,rfl⟩))
 ·rw[rL λt ht=>?_];unfold taB;rw[cm,dN];intro z;obtain⟨u,hu,e⟩:=cp.mp z;obtain⟨hu,ne⟩:=bA.mp hu;have q:=aB.mp (aB.mp Gr _ (pm t ht)) _ (pm u hu);rw[fO]at q;rcases q with q|q
  ·rw[show decide (u.m=t.m)=true from q]at ne;cases ne
  ·unfold hA at e;rw[e]at q;cases q
theorem rt:Rt T:=⟨by have:=g.len;omega,λt h=>(g.nm t h).1,QY (by have:=g.len;omega) g.r1 g.r4 g.y1 (by have:=g.p4;omega),Gs g,I0 g⟩
theorem E9:("hall" : Str)∈rmN T:=by obtain⟨t,ht,h1,h2⟩:=g.hall;rw[<-h1];exact aU (bA.mpr ⟨ht,aW h2⟩)
end
structure Wy where
 r:Str
 w:Str
 g:Str
 m:Option Str
def wyD(w:Wy):L4.D:=.tup [.str w.r,.str w.w,.str w.g,oS w.m]
variable{b:Bool}
theorem BO(h:e ρ=some (.bl b,ρ1)):yT e ρ=some (.bl !b,ρ1):=by unfold yT;rw[h]
def apB(l m:List Str):Bool:=!l.any λx=>decide (x∈m)
theorem z8{m:List Str}(hd:d=.lst (m.map D.str)\/d=.tup (m.map D.str))(hl:l.length<=900):oV [.lst (l.map D.str),d]=some (.bl (apB l m)):=by
 let ρ:List Sl:=[.im (.lst (l.map D.str)),.im d];refine oh (ρ:=ρ) rfl ?_;have e:c1 zC (cL (nJ 1 [1] (iL (cV 0)) (gN 0) oK (c2 (dIn false) (cV 0) (cV 1)))) ρ=some (.bl (l.any λx=>decide (x∈m)),ρ):=E4 D.str (λx=>decide (x∈m)) l rfl (by omega) λx hx=>⟨[.im (.str x),.im d],[.im (.str x),.im d],rfl,nP rfl rfl (by
  rcases hd with rfl|rfl
  ·rw[zK];rfl
  ·rw[IC];rfl),rfl⟩
 exact n9 (BO e)
def tw(t:Tk):List Str:=match t.w with
 |.tup ds=>ds.map nS
 |_=>[]
structure Vk where
 n:Str
 o:List Str
 f:Str
 j:Option Str
def vkD(v:Vk):L4.D:=.obj 2 ["name", "others", "form", "joining"] [.str v.n,.tup (v.o.map D.str),.str v.f,oS v.j]
def Vk.ws(v:Vk):List Str:=v.n::v.o
def k9:List Vk:=[⟨"take", [],"one", none⟩,⟨"drop", [],"one", none⟩,⟨"open", [],"one", none⟩,⟨"shut", [],"one", none⟩,⟨"light", [],"one", none⟩,⟨"douse", [],"one", none⟩,⟨"put", [],"two", some "in"⟩,⟨"go", [],"way", none⟩,⟨"wait", [],"alone", none⟩]
theorem Q7:v9=k9.map vkD:=rfl
def nwL:List Str:=["the", "a", "undo", "restart"]
theorem z9{a b c s5 s6 s7:Sl}:∀(P:List Tk) (acc:List Str) (s:Sl),acc.length+4 * P.length<=900->(∀t∈P,t.w=.tup ((tw t).map D.str)/\(tw t).length<=4)->
  ∃s':Sl,forL (gN 4) (pb (uY 3 (c1 (nE pf "words") (cV 4)))) (P.map tkD) [a,b,c,.ls (acc.map D.str),s,s5,s6,s7]=some (.nx [a,b,c,.ls ((acc++P.flatMap tw).map D.str),s',s5,s6,s7])
 |[],acc,s,_,_=>⟨s,by simp;rfl⟩
 |t::P,acc,s,hl,hw=>by
  obtain⟨ew,h3⟩:=hw t aG;rw[aD]at hl;obtain⟨s',e⟩:=z9 P (acc++tw t) (.im (tkD t)) (by rw[aC];omega) (λu hu=>hw u (aN _ hu));refine⟨s',?_⟩;rw[aK];unfold forL;have e1:pb (uY 3 (c1 (nE pf "words") (cV 4))) [a,b,c,.ls (acc.map D.str),.im (tkD t),s5,s6,s7]=some (.nx [a,b,c,.ls ((acc++tw t).map D.str),.im (tkD t),s5,s6,s7]):=by refine(wX (d:=.non) (ρ':=[a,b,c,.ls ((acc++tw t).map D.str),.im (tkD t),s5,s6,s7]) ?_);unfold uY;rw[show c1 (nE pf "words") (cV 4) [a,b,c,.ls (acc.map D.str),.im (tkD t),s5,s6,s7]=some (.tup ((tw t).map D.str),[a,b,c,.ls (acc.map D.str),.im (tkD t),s5,s6,s7]) from oa rfl ((y8 t).trans (aR some ew))];show (if (acc.map D.str).length+((tw t).map D.str).length<=1000 then some (D.non,[a,b,c,.ls (acc.map D.str++(tw t).map D.str),.im (tkD t),s5,s6,s7])else none)=_;rw[ah (by rw[ag,ag];omega),bb]
  rw[show gN 4 (tkD t) [a,b,c,.ls (acc.map D.str),s,s5,s6,s7]=some [a,b,c,.ls (acc.map D.str),.im (tkD t),s5,s6,s7] from rfl];simp only[e1];rw[e,gV,bI]
theorem Fb{a b c s3 s4 s7:Sl}:∀(V:List Vk) (acc:List Str) (s:Sl),acc.length+3 * V.length<=900->(∀v∈V,v.o.length<=2)->
  ∃s',forL (gN 6) (pb (uY 5 (yj (nO (a1 (c1 (nE nN "name") (cV 6)))) (c1 (nE p8 "others") (cV 6))))) (V.map vkD) [a,b,c,s3,s4,.ls (acc.map D.str),s,s7]=some (.nx [a,b,c,s3,s4,.ls ((acc++V.flatMap Vk.ws).map D.str),s',s7])
 |[],acc,s,_,_=>⟨s,by simp;rfl⟩
 |v::V,acc,s,hl,hw=>by
  have h3:=hw v aG;rw[aD]at hl;have lw:v.ws.length<=3:=by unfold Vk.ws;rw[aD];omega
  obtain⟨s',e⟩:=Fb (a:=a) (b:=b) (c:=c) (s3:=s3) (s4:=s4) (s7:=s7) V (acc++v.ws) (.im (vkD v)) (by rw[aC];omega) λu hu=>hw u (aN _ hu);refine⟨s',?_⟩;rw[aK];unfold forL;let ρ:List Sl:=[a,b,c,s3,s4,.ls (acc.map D.str),.im (vkD v),s7];have e0:yj (nO (a1 (c1 (nE nN "name") (cV 6)))) (c1 (nE p8 "others") (cV 6)) ρ=some (.tup (v.ws.map D.str),ρ):=by show (if ([]:List L4.D).length+(v.o.map D.str).length<=900 then some (D.tup (.str v.n::[]++v.o.map D.str),ρ)else none)=_;rw[ah (by rw[ag];simp only[du];omega)];rfl
  have e1:pb (uY 5 (yj (nO (a1 (c1 (nE nN "name") (cV 6)))) (c1 (nE p8 "others") (cV 6)))) ρ=some (.nx [a,b,c,s3,s4,.ls ((acc++v.ws).map D.str),.im (vkD v),s7]):=by refine wX (d:=.non) ?_;unfold uY;rw[e0];show (if (acc.map D.str).length+(v.ws.map D.str).length<=1000 then some (D.non,[a,b,c,s3,s4,.ls (acc.map D.str++v.ws.map D.str),.im (vkD v),s7])else none)=_;rw[ah (by rw[ag,ag];omega),bb]
  rw[show gN 6 (vkD v) [a,b,c,s3,s4,.ls (acc.map D.str),s,s7]=some ρ from rfl];simp only[e1];rw[e,gV,bI]
def jsN(V:List Vk):List Str:=V.filterMap Vk.j
theorem Q8(V:List Vk)(hl:V.length<=900)(h2:cV 2 ρ=some (.lst (V.map vkD),ρ)):nJ 1 [] (iL (cV 2)) (gN 0) (cT (c2 sP (c1 (nE pD "joining") (cV 0)) (cC D.non))) (c1 (nE pD "joining") (cV 0)) ρ=some ((jsN V).map D.str,ρ):=by
 have hs:iL (cV 2) ρ=some (V.map vkD,ρ):=by unfold iL;rw[h2]
 refine(vE (k:=1) (cap:=[]) (g:=gN 0) (ft:=cT (c2 sP (c1 (nE pD "joining") (cV 0)) (cC D.non))) (fe:=c1 (nE pD "joining") (cV 0)) vkD (λv=>oS v.j) (λv=>v.j.isSome) V hs (by omega) λv _=>⟨[.im (vkD v)],[.im (vkD v)],rfl,?_,λ_=>⟨[.im (vkD v)],rfl,rfl⟩,λ_=>rfl⟩).trans ?_
 ·obtain⟨n,o,f,j⟩:=v;cases j<;>rfl
 ·congr 2;unfold jsN;clear hs h2 hl
  induction V with
  |nil=>rfl
  |cons v V ih=>
   obtain⟨n,o,f,j⟩:=v;cases j with
   |none=>rw[i8 (by simp),List.filterMap_cons_none rfl];exact ih
   |some x=>rw[i9 (by simp)];exact aR (D.str x::·) ih
def Q9(O U bt:List Str):Bool:=decide U.Nodup&&(apB (U++bt) O&&(apB (U++bt) nwL&&apB bt U))
theorem Ja{W:List Wy}{V:List Vk}(hl:T.length<=20)(hw:∀t∈plN T,t.w=.tup ((tw t).map D.str)/\(tw t).length<=4)(hW:W.length<=20)(hV:V.length<=40)(ho:∀v∈V,v.o.length<=2):
  o8 [LD T,.lst (W.map wyD),.lst (V.map vkD)]=some (Q9 ((plN T).flatMap tw) (V.flatMap Vk.ws) (jsN V++W.map Wy.w)):=by
 let P:=plN T;have hP:P.length<=20:=bD (ee _ _) hl;let A:Sl:=.im (LD T);let B:Sl:=.im (.lst (W.map wyD));let C:Sl:=.im (.lst (V.map vkD));obtain⟨s',e1⟩:=z9 (a:=A) (b:=B) (c:=C) (s5:=.un) (s6:=.un) (s7:=.un) P [] .un (by simp;omega) hw;let O:=P.flatMap tw;let U:=V.flatMap Vk.ws;let m1:Sl:=.ls (O.map D.str);obtain⟨z,e2⟩:=Fb (a:=A) (b:=B) (c:=C) (s3:=m1) (s4:=s') (s7:=.un) V [] .un (by simp;omega) ho;let bt:List Str:=jsN V++W.map Wy.w;let Z:Sl:=.im (.lst (bt.map D.str));have lU:U.length<=120:=by
  have:∀V:List Vk,(∀v∈V,v.o.length<=2)->(V.flatMap Vk.ws).length<=3 * V.length:=by
   intro V
   induction V with
   |nil=>exact λ_=>aE _
   |cons v V ih=>intro h;have h1:=h v aG;have h2:=ih λu hu=>h u (aN _ hu);rw[gV,aC,aD];show (v.n::v.o).length+_<=_;rw[aD];omega
  have:=this V ho;show (V.flatMap Vk.ws).length<=120;omega
 have lJ:(jsN V).length<=40:=bD (List.length_filterMap_le _ _) hV;have lB:bt.length<=60:=by show (jsN V++W.map Wy.w).length<=60;rw[aC,ag];omega
 have lUB:(U++bt).length<=900:=by rw[aC];omega
 let UL:L4.D:=.lst (U.map D.str);have hd:∀{o:Out},(ni (sXp m8 (aCons (m7 oB (a1 (cFz 5))) (a1 (cS "two verbs' names are alike"))))
 (ni (sXp m8 (aCons (m7 oV (aCons (cL (oR (cFz 5) (cV 7))) (a1 (cFz 3)))) (a1 (cS "a verb's, way's or joining word is a word of a thing"))))
 (ni (sXp m8 (aCons (m7 oV (aCons (cL (oR (cFz 5) (cV 7))) (a1 (cC pQ)))) (a1 (cS "the, a, undo or restart is a word of the world"))))
 (sXp m8 (aCons (m7 oV (aCons (cV 7) (a1 (cFz 5)))) (a1 (cS "a way's or joining word is a verb's name"))))))) [A,B,C,m1,s',.ls (U.map D.str),z,Z]=some o->pS (stE 8 [LD T,.lst (W.map wyD),.lst (V.map vkD)])=some o:=λ{o} q=>by
  unfold pS;refine(m9 (ρ':=[A,B,C,.ls [],.un,.un,.un,.un]) rfl).trans ?_;refine(m9 (ρ':=[A,B,C,m1,s',.un,.un,.un]) (qK ((tH (ds:=P.map tkD) (ρ1:=[A,B,C,.ls [],.un,.un,.un,.un]) ?_).trans e1))).trans ?_
  ·unfold iL;rw[qq (ng (g:=pR) (ds:=[LD T]) (ρ1:=[A,B,C,.ls [],.un,.un,.un,.un]) rfl (tS T (by omega)))]
  refine(m9 (ρ':=[A,B,C,m1,s',.ls [],.un,.un]) rfl).trans ?_;refine(m9 (ρ':=[A,B,C,m1,s',.ls (U.map D.str),z,.un]) (qK ((tH (ds:=V.map vkD) (ρ1:=[A,B,C,m1,s',.ls [],.un,.un]) rfl).trans e2))).trans ?_;refine(m9 (ρ':=[A,B,C,m1,s',.ls (U.map D.str),z,Z]) (qK ((oT (qq (tG (qq (Q8 V (by omega) rfl)) (qq (xG wyD (λw=>.str w.w) W (ρ1:=[A,B,C,m1,s',.ls (U.map D.str),z,.un]) rfl (by omega) λw _=>⟨[.im (wyD w)],[.im (wyD w)],rfl,rfl,rfl⟩)) (by rw[ag,ag];omega)))).trans ?_))).trans q;show some (Out.nx [A,B,C,m1,s',.ls (U.map D.str),z,.im (.lst ((jsN V).map D.str++W.map λw=>.str w.w))])=_;rw[show (jsN V).map D.str++(W.map λw=>D.str w.w)=bt.map D.str by show _=(jsN V++W.map Wy.w).map D.str;rw[bb,bg];rfl]
 have x1:m7 oB (a1 (cFz 5)) [A,B,C,m1,s',.ls (U.map D.str),z,Z]=some (.bl (decide U.Nodup),[A,B,C,m1,s',.im UL,z,Z]):=ng (ds:=[UL]) rfl (z7 (by omega));have ca:∀(q:Sl),cL (oR (cFz 5) (cV 7)) [A,B,C,q,s',.im UL,z,Z]=some (.lst ((U++bt).map D.str),[A,B,C,q,s',.im UL,z,Z]):=λq=>(qq (tG (xs:=U.map D.str) (ys:=bt.map D.str) (ρ1:=[A,B,C,q,s',.im UL,z,Z]) rfl rfl (by rw[ag,ag];omega))).trans (by rw[<-bb]);let OI:Sl:=.im (.lst (O.map D.str));have x2:m7 oV (aCons (cL (oR (cFz 5) (cV 7))) (a1 (cFz 3))) [A,B,C,m1,s',.im UL,z,Z]=some (.bl (apB (U++bt) O),[A,B,C,OI,s',.im UL,z,Z]):=ng (nD (ca m1) (nD rfl rfl)) (z8 (l:=U++bt) (m:=O) (.inl rfl) lUB);have x3:m7 oV (aCons (cL (oR (cFz 5) (cV 7))) (a1 (cC pQ))) [A,B,C,OI,s',.im UL,z,Z]=some (.bl (apB (U++bt) nwL),[A,B,C,OI,s',.im UL,z,Z]):=ng (nD (ca OI) (nD rfl rfl)) (z8 (l:=U++bt) (m:=nwL) (.inr rfl) lUB);have x4:m7 oV (aCons (cV 7) (a1 (cFz 5))) [A,B,C,OI,s',.im UL,z,Z]=some (.bl (apB bt U),[A,B,C,OI,s',.im UL,z,Z]):=ng (nD rfl (nD rfl rfl)) (z8 (l:=bt) (m:=U) (.inl rfl) (by omega));show _=some (decide U.Nodup&&(apB (U++bt) O&&(apB (U++bt) nwL&&apB bt U)));generalize decide U.Nodup=b1 at x1 ⊢;generalize apB (U++bt) O=b2 at x2 ⊢;generalize apB (U++bt) nwL=b3 at x3 ⊢;generalize apB bt U=b4 at x4 ⊢;cases b1 with
 |false=>exact Am rfl (hd (A5 (vC x1)))
 |true=>
  cases b2 with
  |false=>exact Am rfl (hd ((m9 (oW x1)).trans (A5 (vC x2))))
  |true=>
   cases b3 with
   |false=>exact Am rfl (hd ((m9 (oW x1)).trans ((m9 (oW x2)).trans (A5 (vC x3)))))
   |true=>
    cases b4 with
    |false=>exact Am rfl (hd ((m9 (oW x1)).trans ((m9 (oW x2)).trans ((m9 (oW x3)).trans (vC x4)))))
    |true=>exact D8 rfl (hd ((m9 (oW x1)).trans ((m9 (oW x2)).trans ((m9 (oW x3)).trans (oW x4)))))
def Rb:List Str:=pl6.flatMap cb
theorem Jb(h:(t.m,t.w)∈plW):t.w=.tup ((tw t).map D.str)/\(tw t).length<=4/\∀x∈tw t,x∈Rb:=by
 obtain⟨q,hq,e⟩:=aI.mp h;have e2:t.w=.tup (q.2.map D.str):=(aR cb e).symm;have e3:tw t=q.2:=by unfold tw;rw[e2];show (q.2.map D.str).map nS=q.2;rw[bg];exact iI _
 rw[e3];exact⟨e2,bJ (aB.mp (show (pl6.all λq=>decide (q.2.length<=4))=true by kernel_rfl) q hq),λx hx=>j3.mpr ⟨q,hq,hx⟩⟩
theorem Lk{l' m m':List Str}(h:apB l' m'=true)(h1:∀x∈l,x∈l')(h2:∀x∈m,x∈m'):apB l m=true:=by unfold apB at h ⊢;rw[cm,dN]at h ⊢;intro z;obtain⟨x,hx,e⟩:=cp.mp z;exact h (cp.mpr ⟨x,h1 x hx,aW (h2 x (bJ e))⟩)
theorem LX(l:List L4.D)(n:Int)(h:(l.length:Int)<=n):oo [.lst l,.int n]=some (.bl true):=by refine oh (ρ:=[.im (.lst l),.im (.int n)]) rfl ?_;exact n9 ((o6 rfl).trans (LU (x:=l.length) (y:=n) (oa rfl rfl) rfl h))
def prD(w:Wy):L4.D:=.tup [.str w.r,.str w.w]
variable{R:List Str}
theorem Gu{w:Wy}(h1:w.r∈R)(h2:qh [.str w.w]=some (.bl true))(h3:w.g∈R)(h4:∀x,w.m=some x->x∈l):xp [wyD w,.lst (R.map D.str),.lst (l.map D.str)]=some (.bl true):=by
 let ρ0:List Sl:=[.im (wyD w),.im (.lst (R.map D.str)),.im (.lst (l.map D.str)),.un];let ρ:List Sl:=[.im (wyD w),.im (.lst (R.map D.str)),.im (.lst (l.map D.str)),.im (.bl true)];have on:∀{x:Str} {m:List Str},x∈m->n8 [.str x,.lst (m.map D.str)]=some (.bl true):=λ{x m} h=>(Eb (d:=.str x) rfl m).trans (by show some (D.bl (decide (x∈m)))=_;rw[aW h]);refine oh (ρ:=ρ) rfl ?_;unfold zX;refine(m9 (ρ':=ρ0) rfl).trans ?_;refine(m9 (ρ':=ρ) ((oT (d:=.bl true) (ρ':=ρ0) ?_).trans rfl)).trans ?_
 ·cases hm:w.m with
  |none=>have e:c2 yU (c2 dIx (cV 0) (cC (.int 3))) (cC D.non) ρ0=some (.bl true,ρ0):=nP (x:=.non) (y:=.non) (nP (x:=wyD w) (y:=.int 3) rfl rfl (by show some (oS w.m)=_;rw[hm];rfl)) rfl rfl;unfold cOr;rw[e]
  |some x=>have e:c2 yU (c2 dIx (cV 0) (cC (.int 3))) (cC D.non) ρ0=some (.bl false,ρ0):=nP (x:=.str x) (y:=.non) (nP (x:=wyD w) (y:=.int 3) rfl rfl (by show some (oS w.m)=_;rw[hm];rfl)) rfl rfl;unfold cOr;rw[e];exact ng (ds:=[.str x,.lst (l.map D.str)]) (nD (nP (x:=wyD w) (y:=.int 3) rfl rfl (by show some (oS w.m)=_;rw[hm];rfl)) (nD rfl rfl)) (on (h4 x hm))
 ·exact n9 ((o6 (ng (ds:=[.str w.r,.lst (R.map D.str)]) (ρ1:=ρ) rfl (on h1))).trans ((o6 (ng (ds:=[.str w.w]) (ρ1:=ρ) rfl h2)).trans ((o6 (ng (ds:=[.str w.g,.lst (R.map D.str)]) (ρ1:=ρ) rfl (on h3))).trans rfl)))
theorem Ll{W:List Wy}(hl:W.length<=10)(h:∀w∈W,w.r∈R/\qh [.str w.w]=some (.bl true)/\w.g∈R/\∀x,w.m=some x->x∈l)(hb:oB [.lst (W.map prD)]=some (.bl b)):qY [.lst (W.map wyD),.lst (R.map D.str),.lst (l.map D.str)]=some b:=by
 let A:Sl:=.im (.lst (W.map wyD));let B:Sl:=.im (.lst (R.map D.str));let C:Sl:=.im (.lst (l.map D.str));let ρ:List Sl:=[A,B,C,.im (.bl true)];have e:oM 3 (oP (m7 oo (aCons (cV 0) (a1 (cC vn)))) (c1 qd (cL (nJ 1 [1,2] (iL (cV 0)) (gN 0) oK (m7 xp (aCons (cV 0) (aCons (cV 1) (a1 (cV 2))))))))) [A,B,C,.un]=some (.nx ρ):=
  (oT ((o6 (ng (ds:=[.lst (W.map wyD),.int 10]) rfl (LX _ 10 (by rw[ag];omega)))).trans ((rh wyD (λ_=>true) W (ρ1:=[A,B,C,.un]) rfl (by omega) λw hw=>⟨[.im (wyD w),B,C],[.im (wyD w),B,C],rfl,ng (ds:=[wyD w,.lst (R.map D.str),.lst (l.map D.str)]) rfl (Gu (h w hw).1 (h w hw).2.1 (h w hw).2.2.1 (h w hw).2.2.2),rfl⟩).trans (by rw[rL λ_ _=>rfl])))).trans rfl
 have ep:m7 oB (a1 (cL (nJ 1 [] (iL (cV 0)) (gN 0) oK (nO (aCons (c2 dIx (cV 0) (cC (.int 0))) (a1 (c2 dIx (cV 0) (cC (.int 1))))))))) ρ=some (.bl b,ρ):=
  ng (nD (qq (xG wyD prD W (ρ1:=ρ) rfl (by omega) λw _=>⟨[.im (wyD w)],[.im (wyD w)],rfl,rfl,rfl⟩)) rfl) hb
 cases b with
 |true=>refine D8 (ρ:=ρ) rfl ?_;unfold r9;refine(m9 (qK e)).trans ((m9 (oW (ρ1:=ρ) rfl)).trans ?_);exact oW ep
 |false=>refine Am (ρ:=ρ) rfl ?_;unfold r9;refine(m9 (qK e)).trans ((m9 (oW (ρ1:=ρ) rfl)).trans ?_);exact vC ep
def m2:List Mk:=[⟨"gate", 0,2⟩,⟨"luck", 1,1⟩]
def w1:List Wy:=[⟨"hall", "north", "hall", some "gate"⟩]
def k2:List Vk:=[⟨"push", ["shove"],"one", none⟩,⟨"sing", [],"alone", none⟩]
abbrev WL:L4.D:=.lst (w1.map wyD)
abbrev VL:L4.D:=.lst (k2.map vkD)
def mkN(T:List Tk):List Str:=(T.filter λt=>t.k.mk).map Tk.m++m2.map Mk.n
section
variable{T:List Tk}(g:Good T)
include g
theorem nd2:(T.map Tk.m++m2.map Mk.n).Nodup:=by have big:(nmL++m2.map Mk.n).Nodup:=bJ (by kernel_rfl);obtain⟨b1,b2,b3⟩:=bZ.mp big;refine bZ.mpr ⟨g.nd,b2,λa ha b hb=>b3 a ?_ b hb⟩;obtain⟨t,ht,rfl⟩:=aI.mp ha;exact(g.nm t ht).2
theorem Jc:pV [LD T,MD m2]=some true:=by
 have l:=g.len;refine((Ph (T:=T) (M:=m2) (by omega) (by decide) (λm hm=>?_) (λ_=>true) λt ht=>?_).2 (rL λ_ _=>rfl) (T.map Tk.m) ?_).trans (by rw[aW (nd2 g)])
 ·exact D9 (aB.mp (show (m2.all λm=>isT (ox [.str m.n]))=true by kernel_rfl) m hm)
 ·rw[(g.nm t ht).1];exact D9 (aB.mp Q5 t.m (g.nm t ht).2)
 ·rw[bg];exact jA λt ht=>(g.nm t ht).1
theorem mks:qW [LD T,MD m2]=some ((mkN T).map D.str):=by
 have lt:=g.len;let ρ:List Sl:=[.im (LD T),.im (MD m2)];have h:=ee (λt:Tk=>t.k.mk) T;refine(HX (ρ:=ρ) rfl (y4 (tG (qq (vE tkD Tk.n (λt=>t.k.mk) T (ρ1:=ρ) rfl (by omega) λt _=>⟨[.im (tkD t)],[.im (tkD t)],rfl,qp (rZ (xs:=[t.n,t.w,.str t.k.s,t.s]) (ys:=[]) rfl rfl rfl rfl (E6 t)),λ_=>⟨_,oa rfl (tR t),rfl⟩,λ_=>rfl⟩))
  (qq (xG mkD (λm=>D.str m.n) m2 rfl (by decide) λt _=>⟨_,_,rfl,oa rfl (E7 t),rfl⟩)) (by rw[ag,ag];show _+2<=1000;omega)))).trans ?_
 unfold mkN;rw[bb,BN _ (λt ht=>(g.nm t ht).1),bg];rfl
theorem Lm:qY [WL,rrD T,.lst ((mkN T).map D.str)]=some true:=Ll (W:=w1) (R:=rmN T) (l:=mkN T) (by decide) (λw hw=>by
 rw[ba.mp hw];exact⟨E9 g,by kernel_rfl,E9 g,λx e=>by cases e;exact aZ _ aG⟩) (by kernel_rfl)
theorem Po:o8 [LD T,WL,.lst (k2.map vkD++v9)]=some true:=by
 have lt:=g.len;have pm:∀t∈plN T,(t.m,t.w)∈plW:=λt ht=>(g.wd t (bA.mp ht).1).2 (bA.mp ht).2;rw[Q7,<- bb];refine(Ja (T:=T) (W:=w1) (V:=k2++k9) (by omega) (λt ht=>⟨(Jb (pm t ht)).1,(Jb (pm t ht)).2.1⟩) (by decide) (by decide) λv hv=>?_).trans (aR some ?_)
 ·exact bJ (aB.mp (show ((k2++k9).all λv=>decide (v.o.length<=2))=true by rfl) v hv)
 ·have q:(decide ((k2++k9).flatMap Vk.ws).Nodup&&(apB ((k2++k9).flatMap Vk.ws++(jsN (k2++k9)++w1.map Wy.w)) Rb&&(apB ((k2++k9).flatMap Vk.ws++(jsN (k2++k9)++w1.map Wy.w)) nwL&&apB (jsN (k2++k9)++w1.map Wy.w) ((k2++k9).flatMap Vk.ws))))=true:=by kernel_rfl
  simp only[az]at q;obtain⟨q1,q2,q3,q4⟩:=q;unfold Q9;rw[q1,Lk q2 (λx hx=>hx) (λx hx=>by obtain⟨t,ht,h⟩:=j3.mp hx;exact(Jb (pm t ht)).2.2 x h),q3,q4];rfl
theorem Jd:rK (pA (LD T) (MD m2) WL VL)=some true:=cp5 (rt g) (by kernel_rfl) (Jc g) (mks g) (Lm g) (by kernel_rfl) (by decide) (Po g)
end
def wNs:List Str:=["kept_things", "kept_marks", "kept_dark", "kept_ways", "kept_verbs", "shared_verbs", "your_name", "things_by_name", "mosts_by_name", "verbs_by_word", "kept_rules", "shared_rules", "copied_rules", "rules_by_verb"]
def mK(T:List Tk):List Key:=(T.filter λt=>t.k.mk).map (λt=>kS t.m)++[kS "gate", kS "luck"]
def mV(T:List Tk):List L4.D:=(T.filter λt=>t.k.mk).map (λ_=>D.int 1)++[.int 2,.int 1]
def vwD:L4.D:=(rV [.lst ((k2++k9).map vkD)]).getD .non
def w10(T:List Tk):L4.D:=.obj 14 (wNs.take 10) [LD T,MD m2,.lst [],WL,VL,.lst v9,.str "me", .dic (nK T) (T.map tkD),.dic (mK T) (mV T),vwD]
def lkS(x:Str):Option Kd:=if x="hall" then some .room else if x="me" then some .you else if x="case" then some .box else if x="candle" then some .lamp else none
def lk:L4.D->Option Kd
 |.str x=>lkS x
 |_=>none
def moS(x:Str):Option Int:=if x="gate" then some 2 else if x="luck" then some 1 else if x="case" then some 1 else if x="candle" then some 1 else none
def mo:L4.D->Option Int
 |.str x=>moS x
 |_=>none
def cst:List Str:=["nobody", "gate", "luck", "", "It", "undo", "it", "other", "here", "hall", "me", "case", "candle"]
def okC:L4.D->Bool
 |.str x=>decide (x∈cst)
 |.non=>true
 |.int _=>true
 |_=>false
def fms:List Str:=["one", "two", "alone", "way"]
def bc(f:Str)(d:L4.D):Bool:=isT (nU [.str f,d])
def hr(f:Str)(d:L4.D):Bool:=isT (qj [.str f,d])
theorem yb{P:Str->Prop}(h1:P "one")(h2:P "two")(h3:P "alone")(h4:P "way"):∀f∈fms,P f:=λf hf=>by simp only[fms,aO,eO,or_false]at hf;rcases hf with rfl|rfl|rfl|rfl<;>assumption
theorem Pp:(fms.all λf=>cst.all λx=>isB (nU [.str f,.str x]))=true:=by kernel_rfl
theorem Pq:(fms.all λf=>cst.all λx=>isB (qj [.str f,.str x]))=true:=by kernel_rfl
variable{f:Str}
theorem Fc(hf:f∈fms)(h:okC d=true):nU [.str f,d]=some (.bl (bc f d)):=by
 unfold bc;refine vF ?_;cases d with
 |str x=>exact aB.mp (aB.mp Pp f hf) x (bJ h)
 |non=>exact yb (P:=λf=>isB (nU [.str f,.non])=true) (by kernel_rfl) (by kernel_rfl) (by kernel_rfl) (by kernel_rfl) f hf
 |int i=>exact yb (P:=λf=>isB (nU [.str f,.int i])=true) (by kernel_rfl) (by kernel_rfl) (by kernel_rfl) (by kernel_rfl) f hf
 |_=>cases h
theorem LY(hf:f∈fms)(h:okC d=true):qj [.str f,d]=some (.bl (hr f d)):=by
 unfold hr;refine vF ?_;cases d with
 |str x=>exact aB.mp (aB.mp Pq f hf) x (bJ h)
 |non=>exact yb (P:=λf=>isB (qj [.str f,.non])=true) (by kernel_rfl) (by kernel_rfl) (by kernel_rfl) (by kernel_rfl) f hf
 |int i=>exact yb (P:=λf=>isB (qj [.str f,.int i])=true) (by kernel_rfl) (by kernel_rfl) (by kernel_rfl) (by kernel_rfl) f hf
 |_=>cases h
theorem Re:(cst.all λx=>(lk (.str x)).isSome||!decide (x∈nmL))=true:=by kernel_rfl
theorem Rf:(cst.all λx=>(mo (.str x)).isSome||(!decide (x∈(["gate", "luck"]:List Str))&&(decide (x="hall" \/ x="me")||!decide (x∈nmL))))=true:=by kernel_rfl
variable{c:FT}{e':FE}
theorem Dm(h:c ρ=some (true,ρ1)):cIf c e e' ρ=e ρ1:=by unfold cIf;rw[h]
theorem Ln(h:e ρ=some (.bl false,ρ1)):cOr e e' ρ=e' ρ1:=by unfold cOr;rw[h]
theorem Lo(h:e ρ=some (.bl true,ρ1)):cOr e e' ρ=some (.bl true,ρ1):=by unfold cOr;rw[h]
theorem Je{a:Bool}(h:e ρ=some (.bl a,ρ))(h':e' ρ=some (.bl b,ρ)):cOr e e' ρ=some (.bl (a||b),ρ):=by
 cases a with
 |false=>exact(Ln h).trans h'
 |true=>exact Lo h
theorem Aa(h:e ρ=some (.bl false,ρ1)):oP e e' ρ=some (.bl false,ρ1):=by unfold oP;rw[h]
theorem RW:(T.map Tk.m).Nodup->∀{t u:Tk},t∈T->u∈T->t.m=u.m->t=u:=by
 induction T with
 |nil=>intro _ t u h;cases h
 |cons a T ih=>
  intro nd t u ht hu e;rw[aK,cU]at nd;rcases aO.mp ht with h1|h1
  ·rcases aO.mp hu with h2|h2
   ·exact h1.trans h2.symm
   ·exact ak (by rw[<-h1,e];exact aU h2) nd.1
  ·rcases aO.mp hu with h2|h2
   ·exact ak (by rw[<-h2,<- e];exact aU h1) nd.1
   ·exact ih nd.2 h1 h2 e
theorem wH{a:Bool}(h:e ρ=some (.bl a,ρ))(h':e' ρ=some (.bl b,ρ)):oP e e' ρ=some (.bl (a&&b),ρ):=by
 cases a with
 |false=>unfold oP;rw[h];rfl
 |true=>exact(o6 h).trans h'
variable{c':FT}
theorem BP{a:Bool}(h:c ρ=some (a,ρ))(h':c' ρ=some (b,ρ)):rp c c' ρ=some (a||b,ρ):=by
 cases a with
 |false=>exact BC h h'
 |true=>unfold rp;rw[h];rfl
section
variable{T:List Tk}(g:Good T)
include g
theorem Jf{k:Kd}(h:lk (.str x)=some k):∃t∈T,t.m=x/\t.k=k:=by
 replace h:lkS x=some k:=h;unfold lkS at h;split at h
 ·cases h;rename_i e;subst e;exact g.hall
 split at h
 ·cases h;rename_i e;subst e;exact g.me
 split at h
 ·cases h;rename_i e;subst e;exact g.can
 split at h
 ·cases h;rename_i e;subst e;exact g.cdn
 cases h
theorem Rg(h:t∈T):oO [w10 T,.str t.m]=some (tkD t):=by
 have e:oO [w10 T,.str t.m]=some ((qS (nK T) (T.map tkD) (kS t.m)).getD .non):=by kernel_rfl
 rw[e,w9 (d:=tkD t) (Di g.nd)]
 ·rfl
 ·unfold nK;rw[ir];exact aU (f:=λt=>(kS t.m,tkD t)) h
theorem Rh(h:x∉T.map Tk.m):oO [w10 T,.str x]=some .non:=by
 have e:oO [w10 T,.str x]=some ((qS (nK T) (T.map tkD) (kS x)).getD .non):=by kernel_rfl
 rw[e,xV]
 ·rfl
 ·intro z;obtain⟨t,ht,e⟩:=aI.mp z;exact h (aI.mpr ⟨t,ht,z6 e⟩)
theorem nmd(h:okC d=true):(lk d=none/\ra [w10 T,d]=some .non)\/∃t∈T,lk d=some t.k/\ra [w10 T,d]=some (tkD t):=by
 cases d with
 |non=>exact .inl ⟨rfl,by kernel_rfl⟩
 |int i=>exact .inl ⟨rfl,by kernel_rfl⟩
 |str x=>
  let ρ:List Sl:=[.im (w10 T),.im (.str x)];have st:∀{r:L4.D},oO [w10 T,.str x]=some r->ra [w10 T,.str x]=some r:=λ{r} e=>by refine oh (ρ:=ρ) rfl (n9 ?_);refine(Dm (ρ1:=ρ) rfl).trans ?_;exact rZ (hh:=oO) (ys:=[.str x]) (ρ1:=ρ) (ρ2:=ρ) rfl rfl rfl rfl e
  cases hk:lk (.str x)with
  |none=>have q:=aB.mp Re x (bJ h);rw[hk]at q;refine .inl ⟨rfl,st (Rh g λz=>?_)⟩;obtain⟨t,ht,rfl⟩:=aI.mp z;rw[aW (g.nm t ht).2]at q;cases q
  |some k=>obtain⟨t,ht,rfl,rfl⟩:=Jf g hk;exact .inr ⟨t,ht,rfl,st (Rg g ht)⟩
 |_=>cases h
theorem LZ(h:okC d=true)(k:Kd):rb [w10 T,d,.str k.s]=some (.bl (decide (lk d=some k))):=by
 let ρ:List Sl:=[.im (w10 T),.im d,.im (.str k.s)];refine oh (ρ:=ρ) rfl (n9 ?_);rcases nmd g h with ⟨hk,e⟩|⟨t,ht,hk,e⟩
 ·rw[hk];exact Aa (nP (ng (ρ1:=ρ) (ds:=[w10 T,d]) rfl e) rfl rfl)
 ·rw[hk];refine((o6 (nP (ng (ρ1:=ρ) (ds:=[w10 T,d]) rfl e) rfl rfl)).trans (nP (oa (ng (ρ1:=ρ) (ds:=[w10 T,d]) rfl e) (wG t)) rfl (z5 t.k k))).trans ?_;rw[decide_eq_decide.mpr (show t.k=k ↔ some t.k=some k by rw[jN])]
def tm(f:Str)(d:L4.D):Bool:=bc f d||(hr f d||(lk d).isSome)
theorem uB(hf:f∈fms)(h:okC d=true):ud [w10 T,.str f,d]=some (.bl (tm f d)):=by
 let ρ:List Sl:=[.im (w10 T),.im (.str f),.im d];refine oh (ρ:=ρ) rfl (n9 ?_);refine Je (ng (ρ1:=ρ) (ds:=[.str f,d]) rfl (Fc hf h)) (Je (ng (ρ1:=ρ) (ds:=[.str f,d]) rfl (LY hf h)) ?_);rcases nmd g h with ⟨hk,e⟩|⟨t,ht,hk,e⟩
 ·rw[hk];exact nP (ng (ρ1:=ρ) (ds:=[w10 T,d]) rfl e) rfl rfl
 ·rw[hk];exact nP (ng (ρ1:=ρ) (ds:=[w10 T,d]) rfl e) rfl rfl
def pl(f:Str)(d:L4.D):Bool:=(bc f d||hr f d)||match lk d with|some k=>k.hd|none=>false
theorem yQ(hf:f∈fms)(h:okC d=true):sI [w10 T,.str f,d]=some (.bl (pl f d)):=by
 let ρ:List Sl:=[.im (w10 T),.im (.str f),.im d];refine oh (ρ:=ρ) rfl ?_;unfold wD;have e0:=BP (ρ:=ρ) (qp (ng (g:=nU) (a:=aCons (cV 1) (a1 (cV 2))) (ρ1:=ρ) (ds:=[.str f,d]) rfl (Fc hf h))) (qp (ng (g:=qj) (a:=aCons (cV 1) (a1 (cV 2))) (ρ1:=ρ) (ds:=[.str f,d]) rfl (LY hf h)));unfold pl;cases hb:(bc f d||hr f d)with
 |true=>rw[hb]at e0;exact n5 ((oG e0).trans rfl)
 |false=>
  rw[hb]at e0;refine(m9 (ρ':=ρ) ((qx e0).trans rfl)).trans (n9 ?_);rcases nmd g h with ⟨hk,e⟩|⟨t,ht,hk,e⟩
  ·rw[hk];exact Aa (nP (ng (ρ1:=ρ) (ds:=[w10 T,d]) rfl e) rfl rfl)
  ·rw[hk];exact(o6 (nP (ng (ρ1:=ρ) (ds:=[w10 T,d]) rfl e) rfl rfl)).trans (rZ (g:=o7) (m:="can_hold") (hh:=rF) (a:=oe) (ys:=[]) (ρ1:=ρ) (ρ2:=ρ) (xs:=[t.n,t.w,.str t.k.s,t.s]) (ng (g:=ra) (a:=aCons (cV 0) (a1 (cV 2))) (ρ:=ρ) (ρ1:=ρ) (ds:=[w10 T,d]) rfl e) rfl rfl rfl (E5 t))
def mvd(f:Str)(d:L4.D):Bool:=bc f d||((lk d).isSome&&!decide (lk d=some .room))
theorem Dn(hf:f∈fms)(h:okC d=true):uA [w10 T,.str f,d]=some (.bl (mvd f d)):=by
 let ρ:List Sl:=[.im (w10 T),.im (.str f),.im d];refine oh (ρ:=ρ) rfl ?_;unfold wF;have e0:=qp (ng (g:=nU) (a:=aCons (cV 1) (a1 (cV 2))) (ρ:=ρ) (ρ1:=ρ) (ds:=[.str f,d]) rfl (Fc hf h));unfold mvd;cases hb:bc f d with
 |true=>rw[hb]at e0;exact n5 ((oG e0).trans rfl)
 |false=>
  rw[hb]at e0;refine(m9 (ρ':=ρ) ((qx e0).trans rfl)).trans (n9 ?_);have e2:=BO (ng (g:=rb) (a:=aCons (cV 0) (aCons (cV 2) (a1 (cS "room")))) (ρ:=ρ) (ρ1:=ρ) (ds:=[w10 T,d,.str Kd.room.s]) rfl (LZ g h .room));rw[il];refine wH ?_ e2;rcases nmd g h with ⟨hk,e⟩|⟨t,ht,hk,e⟩
  ·rw[hk];exact nP (ng (ρ1:=ρ) (ds:=[w10 T,d]) rfl e) rfl rfl
  ·rw[hk];exact nP (ng (ρ1:=ρ) (ds:=[w10 T,d]) rfl e) rfl rfl
theorem L0:(mK T).Nodup:=by
 have n:=nd2 g;have e:mK T=(((T.filter λt=>t.k.mk).map Tk.m)++m2.map Mk.n).map kS:=by unfold mK;rw[bb,bg];rfl
 rw[e];refine(n.sublist ((List.filter_sublist.map Tk.m).append (gU _))).map kS (λa b hne z=>hne (z6 z))
theorem Rj(hx:x∈cst):qy [w10 T,.str x]=some (match mo (.str x)with|some m=>.int m|none=>.non):=by
 have e:qy [w10 T,.str x]=some ((qS (mK T) (mV T) (kS x)).getD .non):=by kernel_rfl
 rw[e];have zp:(mK T).zip (mV T)=(T.filter λt=>t.k.mk).map (λt=>(kS t.m,D.int 1))++[(kS "gate", .int 2),(kS "luck", .int 1)]:=by unfold mK mV;rw[hU (by rw[ag,ag]),ir];rfl
 have hit:∀{d:L4.D},(kS x,d)∈(mK T).zip (mV T)->qS (mK T) (mV T) (kS x)=some d:=λh=>w9 (L0 g) h;have own:∀{k:Kd},lk (.str x)=some k->k.mk=true->qS (mK T) (mV T) (kS x)=some (.int 1):=λ{k} h hm=>by obtain⟨t,ht,rfl,rfl⟩:=Jf g h;refine hit ?_;rw[zp];exact bw _ (aI.mpr ⟨t,bA.mpr ⟨ht,hm⟩,rfl⟩)
 have q:=aB.mp Rf x hx;cases hm:mo (.str x)with
 |some m=>
  have c:(x="gate" /\ m=2)\/(x="luck" /\ m=1)\/(x="case" /\ m=1)\/(x="candle" /\ m=1):=by
   replace hm:moS x=some m:=hm;unfold moS at hm;split at hm
   ·cases hm;exact .inl ⟨by assumption,rfl⟩
   split at hm
   ·cases hm;exact .inr (.inl ⟨by assumption,rfl⟩)
   split at hm
   ·cases hm;exact .inr (.inr (.inl ⟨by assumption,rfl⟩))
   split at hm
   ·cases hm;exact .inr (.inr (.inr ⟨by assumption,rfl⟩))
   cases hm
  rcases c with ⟨rfl,rfl⟩|⟨rfl,rfl⟩|⟨rfl,rfl⟩|⟨rfl,rfl⟩
  ·rw[hit (d:=.int 2) (by rw[zp];exact aZ _ aG)];rfl
  ·rw[hit (d:=.int 1) (by rw[zp];exact aZ _ (aN _ aG))];rfl
  ·rw[own (k:=.box) (by kernel_rfl) rfl];rfl
  ·rw[own (k:=.lamp) (by kernel_rfl) rfl];rfl
 |none=>
  rw[hm]at q;simp only[Option.isSome_none,il,az,cm,decide_eq_false_iff_not]at q;obtain⟨q1,q2⟩:=q;rw[xV]
  ·rfl
  ·intro z;rcases bC.mp z with z|z
   ·obtain⟨t,ht,e⟩:=aI.mp z;obtain⟨ht,hmk⟩:=bA.mp ht;have ex:=z6 e;rw[fO,bp,cm,decide_eq_false_iff_not]at q2;rcases q2 with q2|q2
    ·have hk:lk (.str x)=some .room\/lk (.str x)=some .you:=by
      rcases q2 with rfl|rfl
      ·exact .inl (by kernel_rfl)
      ·exact .inr (by kernel_rfl)
     have:∀{k:Kd},lk (.str x)=some k->k.mk=false->False:=λ{k} hk hn=>by obtain⟨u,hu,e1,e2⟩:=Jf g hk;have:u=t:=RW g.nd hu ht (e1.trans ex.symm);rw[this]at e2;rw[<-e2,hmk]at hn;cases hn
     rcases hk with hk|hk
     ·exact this hk rfl
     ·exact this hk rfl
    ·exact q2 (by rw[<-ex];exact(g.nm t ht).2)
   ·refine q1 ?_;rcases aO.mp z with z|z
    ·rw[z6 z];exact aG
    ·rw[z6 (ba.mp z)];exact aN _ aG
end
def okV:L4.D->Bool
 |.int _=>true
 |.bl _=>true
 |.non=>true
 |.str _=>true
 |_=>false
def mvB(f:Str)(a:L4.D):L4.D->Bool
 |.int i=>!decide (i<0)&&if bc f a then decide (i<=3)else match mo a with|some m=>decide (i<=m)|none=>false
 |_=>false
theorem pG{e:FS}{h:FS}(q:c ρ=some (false,ρ)):ni (sIf c e ou) h ρ=h ρ:=m9 ((qx q).trans rfl)
theorem le_eq{a b:FE}{x:Int}(h1:a ρ=some (.int x,ρ))(h2:b ρ=some (.int y,ρ)):c2 rl a b ρ=some (.bl (decide (x<=y)),ρ):=nP h1 h2 rfl
theorem Jg(h1:c ρ=some (true,ρ1)):rp c c' ρ=some (true,ρ1):=by unfold rp;rw[h1]
variable{a:L4.D}
theorem Rk{i:Int}(h0:decide (i<0)=true):mvB f a (.int i)=false:=by show (!decide (i<0)&&_)=_;rw[h0];rfl
theorem Rl{i:Int}(h0:decide (i<0)=false)(hb:bc f a=true):mvB f a (.int i)=decide (i<=3):=by show (!decide (i<0)&&(if bc f a=true then decide (i<=3)else _))=_;rw[h0,ah hb];rfl
theorem Rm{i:Int}(h0:decide (i<0)=false)(hb:bc f a=false):mvB f a (.int i)=match mo a with|some m=>decide (i<=m)|none=>false:=by show (!decide (i<0)&&(if bc f a=true then decide (i<=3)else _))=_;rw[h0,ai (by rw[hb];decide)];rfl
section
variable{T:List Tk}(g:Good T){f:Str}(hf:f∈fms)
include g hf
theorem wc{v:L4.D}(ha:okC a=true)(hv:okV v=true):pj [w10 T,.str f,a,v]=some (.bl (mvB f a v)):=by
 have nw:∀{v:L4.D},qF [v]=some (.bl false)->pj [w10 T,.str f,a,v]=some (.bl false):=λ{v} hw=>by let ρ:List Sl:=[.im (w10 T),.im (.str f),.im a,.im v,.un];refine oh (ρ:=ρ) rfl ?_;unfold ph;refine n5 ((oG (ρ':=ρ) ?_).trans rfl);exact Jg (uq (b:=false) (qp (ng (g:=qF) (a:=a1 (cV 3)) (ρ:=ρ) (ρ1:=ρ) (ds:=[v]) rfl hw)))
 cases v with
 |int i=>
  let ρ:List Sl:=[.im (w10 T),.im (.str f),.im a,.im (.int i),.un];have c0:cT (c2 DM (cV 3) (cC (.int 0))) ρ=some (decide (i<0),ρ):=rfl;have i0:rp (px (cT (m7 qF (a1 (cV 3))))) (cT (c2 DM (cV 3) (cC (.int 0)))) ρ=some (decide (i<0),ρ):=BC (ρ1:=ρ) (uq (b:=true) (qp (ng (ds:=[.int i]) rfl (by kernel_rfl)))) c0;cases h0:decide (i<0)with
  |true=>rw[h0]at i0;rw[Rk h0];refine oh (ρ:=ρ) rfl ?_;unfold ph;exact n5 ((oG i0).trans rfl)
  |false=>
   rw[h0]at i0;have e0:=qp (ng (g:=nU) (a:=aCons (cV 1) (a1 (cV 2))) (ρ:=ρ) (ρ1:=ρ) (ds:=[.str f,a]) rfl (Fc hf ha));cases hb:bc f a with
   |true=>rw[hb]at e0;rw[Rl h0 hb];refine oh (ρ:=ρ) rfl ?_;unfold ph;exact(pG i0).trans (n5 ((oG e0).trans (n9 (le_eq (x:=i) (y:=3) rfl rfl))))
   |false=>
    rw[hb]at e0;rw[Rm h0 hb];have fin:∀{r:L4.D} {b:Bool},cIf (cT (c1 (nZ (oZ "str")) (cV 2))) (pz qv "most_of" (cV 0) (a1 (cV 2))) (cC D.non) ρ=some (r,ρ)->oP (c2 sP (cV 4) (cC D.non)) (c2 rl (cV 3) (cV 4)) [.im (w10 T),.im (.str f),.im a,.im (.int i),.im r]=some (.bl b,[.im (w10 T),.im (.str f),.im a,.im (.int i),.im r])->pj [w10 T,.str f,a,.int i]=some (.bl b):=λ{r b} e1 e2=>by refine oh (ρ:=[.im (w10 T),.im (.str f),.im a,.im (.int i),.im r]) rfl ?_;unfold ph;exact(pG i0).trans ((pG e0).trans ((m9 ((oT e1).trans rfl)).trans (n9 e2)))
    cases a with
    |non=>exact fin (r:=.non) rfl rfl
    |int j=>exact fin (r:=.non) rfl rfl
    |str x=>
     have e1:cIf (cT (c1 (nZ (oZ "str")) (cV 2))) (pz qv "most_of" (cV 0) (a1 (cV 2))) (cC D.non) ρ=some (match mo (.str x)with|some m=>.int m|none=>.non,ρ):=by refine(Dm (ρ1:=ρ) rfl).trans ?_;exact rZ (hh:=qy) (ys:=[.str x]) (ρ1:=ρ) (ρ2:=ρ) rfl rfl rfl rfl (Rj g (bJ ha))
     cases hm:mo (.str x)with
     |none=>rw[hm]at e1;exact fin e1 rfl
     |some m=>rw[hm]at e1;exact fin e1 ((o6 rfl).trans (le_eq (x:=i) (y:=m) rfl rfl))
    |_=>cases ha
 |bl b=>exact nw (by kernel_rfl)
 |non=>exact nw (by kernel_rfl)
 |str x=>exact nw (by kernel_rfl)
 |_=>cases hv
end
inductive Ts where
 |at (a b:L4.D)|has (a:L4.D)|seen (a:L4.D)|mk (a v:L4.D)|ki (a k:L4.D)|wo (x:L4.D)|ot (d:L4.D)|no (t:Ts)|bo (s t:Ts)
def tsD:Ts->L4.D
 |.at a b=>.obj 3 ["term", "place"] [a,b]
 |.has a=>.obj 4 ["term"] [a]
 |.seen a=>.obj 5 ["term"] [a]
 |.mk a v=>.obj 6 ["term", "value"] [a,v]
 |.ki a k=>.obj 7 ["term", "kind"] [a,k]
 |.wo x=>.obj 8 ["word"] [x]
 |.ot d=>d
 |.no t=>.obj 9 ["inner"] [tsD t]
 |.bo s t=>.obj 10 ["one", "other"] [tsD s,tsD t]
def isF:Option L4.D->Bool
 |some (.bl b)=>!b
 |_=>false
theorem uC(h:isF o=true):o=some (.bl false):=by
 unfold isF at h;split at h
 ·rename_i b;cases b with
  |false=>rfl
  |true=>cases h
 ·cases h
def otB(d:L4.D):Bool:=isF (nZ EY d)&&(isF (nZ BK d)&&(isF (nZ Pf d)&&(isF (nZ (tOr IR D6) d)&&(isF (nZ zO d)&&(isF (nZ D4 d)&&(isF (nZ D7 d)&&isB (nZ EX d)))))))
def okT:Ts->Bool
 |.at a b=>okC a&&okC b
 |.has a=>okC a
 |.seen a=>okC a
 |.mk a v=>okC a&&okV v
 |.ki a k=>okC a&&isB (n8 [k,r6])
 |.wo x=>isB (qh [x])
 |.ot d=>otB d
 |.no t=>okT t
 |.bo s t=>okT s&&okT t
def pB(f:Str):Ts->Bool
 |.at a b=>tm f a&&pl f b
 |.has a=>tm f a
 |.seen a=>tm f a
 |.mk a v=>mvB f a v
 |.ki a k=>tm f a&&isT (n8 [k,r6])
 |.wo x=>decide (f="way")&&isT (qh [x])
 |.ot d=>isT (nZ EX d)
 |_=>false
def tsB(f:Str):Nat->Ts->Bool
 |0,_=>false
 |n+1,.no t=>tsB f n t
 |n+1,.bo s t=>tsB f n s&&tsB f n t
 |_+1,t=>pB f t
def isP:Ts->Bool
 |.no _=>false
 |.bo _ _=>false
 |_=>true
section
variable{T:List Tk}(g:Good T){f:Str}(hf:f∈fms)
include g hf
theorem Gv{t:Ts}(ht:okT t=true)(hp:isP t=true):qA [w10 T,.str f,tsD t]=some (.bl (pB f t))/\nZ EY (tsD t)=some (.bl false)/\nZ BK (tsD t)=some (.bl false):=by
 let ρ:List Sl:=[.im (w10 T),.im (.str f),.im (tsD t)];have bd:∀{b:Bool},oq ρ=some (.rt (.bl b) ρ)->qA [w10 T,.str f,tsD t]=some (.bl b):=λh=>oh rfl h;cases t with
 |«at» a b=>
  have h:okC a=true/\okC b=true:=by rwa [okT,az]at ht
  refine⟨bd ?_,rfl,rfl⟩;unfold oq;exact n5 ((oG (ρ':=ρ) rfl).trans (n9 (wH (ng (ρ1:=ρ) (ds:=[w10 T,.str f,a]) rfl (uB g hf h.1)) (ng (ρ1:=ρ) (ds:=[w10 T,.str f,b]) rfl (yQ g hf h.2)))))
 |has a=>refine⟨bd ?_,rfl,rfl⟩;unfold oq;exact(pG (ρ:=ρ) rfl).trans (n5 ((oG (ρ':=ρ) rfl).trans (n9 (ng (ds:=[w10 T,.str f,a]) rfl (uB g hf ht)))))
 |seen a=>refine⟨bd ?_,rfl,rfl⟩;unfold oq;exact(pG (ρ:=ρ) rfl).trans (n5 ((oG (ρ':=ρ) rfl).trans (n9 (ng (ds:=[w10 T,.str f,a]) rfl (uB g hf ht)))))
 |mk a v=>
  have h:okC a=true/\okV v=true:=by rwa [okT,az]at ht
  refine⟨bd ?_,rfl,rfl⟩;unfold oq;exact(pG (ρ:=ρ) rfl).trans ((pG (ρ:=ρ) rfl).trans (n5 ((oG (ρ':=ρ) rfl).trans (n9 (ng (ds:=[w10 T,.str f,a,v]) rfl (wc g hf h.1 h.2))))))
 |ki a k=>
  have h:okC a=true/\isB (n8 [k,r6])=true:=by rwa [okT,az]at ht
  refine⟨bd ?_,rfl,rfl⟩;unfold oq;exact(pG (ρ:=ρ) rfl).trans ((pG (ρ:=ρ) rfl).trans ((pG (ρ:=ρ) rfl).trans (n5 ((oG (ρ':=ρ) rfl).trans (n9 (wH (ng (ρ1:=ρ) (ds:=[w10 T,.str f,a]) rfl (uB g hf h.1)) (ng (ρ1:=ρ) (ds:=[k,r6]) rfl (vF h.2))))))))
 |wo x=>refine⟨bd ?_,rfl,rfl⟩;unfold oq;exact(pG (ρ:=ρ) rfl).trans ((pG (ρ:=ρ) rfl).trans ((pG (ρ:=ρ) rfl).trans ((pG (ρ:=ρ) rfl).trans (n5 ((oG (ρ':=ρ) rfl).trans (n9 (wH (nP (x:=.str f) (y:=.str "way") rfl rfl (BF false f "way")) (ng (ρ1:=ρ) (ds:=[x]) rfl (vF ht)))))))))
 |ot d=>have h:otB d=true:=ht;unfold otB at h;simp only[az]at h;obtain⟨h1,h2,h3,h4,h5,h6,h7,h8⟩:=h;refine⟨bd ?_,uC h1,uC h2⟩;unfold oq;exact(pG (ρ:=ρ) (qp (oa rfl (uC h3)))).trans ((pG (ρ:=ρ) (qp (oa rfl (uC h4)))).trans ((pG (ρ:=ρ) (qp (oa rfl (uC h5)))).trans ((pG (ρ:=ρ) (qp (oa rfl (uC h6)))).trans ((pG (ρ:=ρ) (qp (oa rfl (uC h7)))).trans (n9 (oa rfl (vF h8)))))))
 |_=>cases hp
theorem Jh{w:L4.D}{s1:Sl}(j:Nat):cT (c2 (dEq false) (cV 3) (cC (.int 0))) [.im w,s1,s2,.im (.int ((j+1:Nat):Int))]=some (false,[.im w,s1,s2,.im (.int ((j+1:Nat):Int))]):=
 qp (nP (x:=.int ((j+1:Nat):Int)) (y:=.int 0) rfl rfl ((BH false _ 0).trans (by rw[aY (by omega:¬((j+1:Nat):Int)=0)];rfl)))
theorem Pr(h:cV 3 ρ=some (.int ((j+1:Nat):Int),ρ)):c2 AD (cV 3) (cC (.int 1)) ρ=some (.int j,ρ):=(nP h rfl rfl).trans (by
 show some (D.int (((j+1:Nat):Int) - 1),ρ)=_;rw[show ((j+1:Nat):Int) - 1=j by omega])
theorem za:∀(n:Nat) (t:Ts),okT t=true->pq (n+1) [w10 T,.str f,tsD t,.int (n:Nat)]=some (.bl (tsB f n t))
 |0,t,_=>by refine oh (ρ:=[.im (w10 T),.im (.str f),.im (tsD t),.im (.int 0)]) rfl ?_;unfold pN;exact n5 ((oG (ρ':=[.im (w10 T),.im (.str f),.im (tsD t),.im (.int 0)]) rfl).trans rfl)
 |n+1,t,ht=>by
  let ρ:List Sl:=[.im (w10 T),.im (.str f),.im (tsD t),.im (.int ((n+1:Nat):Int))];have bd:∀{b:Bool},pN (pq (n+1)) ρ=some (.rt (.bl b) ρ)->pq (n+1+1) [w10 T,.str f,tsD t,.int ((n+1:Nat):Int)]=some (.bl b):=λh=>oh rfl h;have pn:isP t=true->tsB f (n+1) t=pB f t->pq (n+1+1) [w10 T,.str f,tsD t,.int ((n+1:Nat):Int)]=some (.bl (tsB f (n+1) t)):=λhp e=>by obtain⟨h1,h2,h3⟩:=Gv g hf ht hp;rw[e];refine bd ?_;unfold pN;exact(pG (Jh g hf n)).trans ((pG (ρ:=ρ) (qp (oa rfl h2))).trans ((pG (ρ:=ρ) (qp (oa rfl h3))).trans (n9 (ng (ds:=[w10 T,.str f,tsD t]) rfl h1))))
  cases t with
  |no s=>refine bd ?_;unfold pN;refine(pG (Jh g hf n)).trans (n5 ((oG (ρ':=ρ) rfl).trans (n9 ?_)));exact ng (ds:=[w10 T,.str f,tsD s,.int n]) (nD rfl (nD rfl (nD rfl (nD (Pr g hf rfl) rfl)))) (za n s ht)
  |bo s u=>
   have h:okT s=true/\okT u=true:=by rwa [okT,az]at ht
   refine bd ?_;unfold pN;refine(pG (Jh g hf n)).trans ((pG (ρ:=ρ) rfl).trans (n5 ((oG (ρ':=ρ) rfl).trans (n9 (wH ?_ ?_)))))
   ·exact ng (ds:=[w10 T,.str f,tsD s,.int n]) (nD rfl (nD rfl (nD rfl (nD (Pr g hf rfl) rfl)))) (za n s h.1)
   ·exact ng (ds:=[w10 T,.str f,tsD u,.int n]) (nD rfl (nD rfl (nD rfl (nD (Pr g hf rfl) rfl)))) (za n u h.2)
  |_=>exact pn rfl rfl
end
inductive De where
 |pu (a v:L4.D)|mv (a b:L4.D)|ot (d:L4.D)
def deD:De->L4.D
 |.pu a v=>.obj 12 ["term", "value"] [a,v]
 |.mv a b=>.obj 11 ["term", "place"] [a,b]
 |.ot d=>d
def okD:De->Bool
 |.pu a v=>okC a&&okV v
 |.mv a b=>okC a&&okC b
 |.ot d=>isF (nZ EZ d)&&isF (nZ BL d)
def Ro:L4.D->Bool
 |.str x=>decide (x="me")
 |_=>false
def eB(f:Str):De->Bool
 |.pu a v=>mvB f a v
 |.mv a b=>(mvd f a&&pl f b)&&(!Ro a||decide (lk b=some .room))
 |.ot _=>false
section
variable{T:List Tk}(g:Good T){f:Str}(hf:f∈fms)
include g hf
theorem Lp(ha:okC a=true)(h:mvd f a=true):∃x,a=.str x:=by
 cases a with
 |str x=>exact⟨x,rfl⟩
 |non=>exact ak (show mvd f .non=true from h) (by rw[yb (P:=λf=>mvd f .non=false) (by kernel_rfl) (by kernel_rfl) (by kernel_rfl) (by kernel_rfl) f hf];decide)
 |int i=>exact ak (show mvd f (.int i)=true from h) (by rw[yb (P:=λf=>mvd f (.int i)=false) (by kernel_rfl) (by kernel_rfl) (by kernel_rfl) (by kernel_rfl) f hf];decide)
 |_=>cases ha
theorem Lq{d:De}(hd:okD d=true):vO [w10 T,.str f,deD d]=some (.bl (eB f d)):=by
 let ρ:List Sl:=[.im (w10 T),.im (.str f),.im (deD d)];have bd:∀{b:Bool},sk ρ=some (.rt (.bl b) ρ)->vO [w10 T,.str f,deD d]=some (.bl b):=λh=>oh rfl h;cases d with
 |pu a v=>
  have h:okC a=true/\okV v=true:=by rwa [okD,az]at hd
  refine bd ?_;unfold sk;exact n5 ((oG (ρ':=ρ) rfl).trans (n9 (ng (ds:=[w10 T,.str f,a,v]) rfl (wc g hf h.1 h.2))))
 |mv a b=>
  have h:okC a=true/\okC b=true:=by rwa [okD,az]at hd
  refine bd ?_;unfold sk;refine(pG (ρ:=ρ) rfl).trans (n9 ((o6 (ρ1:=ρ) rfl).trans (ng (ds:=[w10 T,.str f,deD (.mv a b)]) rfl ?_)));have e1:=qp (ng (g:=uA) (a:=aCons (cV 0) (aCons (cV 1) (a1 (c1 (nE qU "term") (cV 2))))) (ρ:=ρ) (ρ1:=ρ) (ds:=[w10 T,.str f,a]) rfl (Dn g hf h.1));have e2:=qp (ng (g:=sI) (a:=aCons (cV 0) (aCons (cV 1) (a1 (c1 (nE tX "place") (cV 2))))) (ρ:=ρ) (ρ1:=ρ) (ds:=[w10 T,.str f,b]) rfl (yQ g hf h.2));have e3:=BP (uq e1) (uq e2);show ya [w10 T,.str f,deD (.mv a b)]=some (.bl ((mvd f a&&pl f b)&&(!Ro a||decide (lk b=some .room))));refine oh (ρ:=ρ) rfl ?_;unfold x9;cases hc:(mvd f a&&pl f b)with
  |false=>rw[show (!mvd f a||!pl f b)=true by rw[<-kQ,hc];rfl]at e3;exact n5 ((oG e3).trans rfl)
  |true=>rw[show (!mvd f a||!pl f b)=false by rw[<-kQ,hc];rfl]at e3;rw[az]at hc;obtain⟨x,rfl⟩:=Lp g hf h.1 hc.1;refine(pG e3).trans (n9 ?_);exact Je (nP (x:=.str x) (y:=.str "me") rfl rfl (BF true x "me")) (ng (ρ1:=ρ) (ds:=[w10 T,b,.str Kd.room.s]) rfl (LZ g h.2 .room))
 |ot d=>
  have h:isF (nZ EZ d)=true/\isF (nZ BL d)=true:=by rwa [okD,az]at hd
  refine bd ?_;unfold sk;exact(pG (ρ:=ρ) (qp (oa rfl (uC h.1)))).trans (n9 (Aa (oa rfl (uC h.2))))
end
structure Ru where
 v:L4.D
 ts:List Ts
 ds:List De
 tx:L4.D
 rf:Bool
def ruN:List Str:=["verb", "tests", "deeds", "text", "refuses"]
def ruD(r:Ru):L4.D:=.obj 13 ruN [r.v,.lst (r.ts.map tsD),.lst (r.ds.map deD),r.tx,.bl r.rf]
def vbL:List Str:=["sing", "push", "put", "go", "wait", "take", "nobody", "", "shove", "case", "it", "undo"]
def okB:L4.D->Bool
 |.str x=>decide (x∈vbL)
 |.non=>true
 |.int _=>true
 |_=>false
def fmS(x:Str):Option Str:=if x="sing" then some "alone" else if x="push" then some "one" else if x="put" then some "two" else if x="go" then some "way" else if x="wait" then some "alone" else if x="take" then some "one" else none
def fmO:L4.D->Option Str
 |.str x=>fmS x
 |_=>none
theorem Rp{v:L4.D}(h:fmO v=some f):f∈fms:=by
 cases v with
 |str x=>
  replace h:fmS x=some f:=h;unfold fmS at h
  iterate 6
   split at h
   ·cases h;decide
  cases h
 |_=>cases h
theorem Pt(T:List Tk):(vbL.all λx=>match o9 [w10 T,.str x],fmS x with
 |some (.bl true),some f=>(match qz [w10 T,.str x]with
  |some (.obj 2 ns [a,b,.str f',j])=>decide (f'=f)&&decide (ns=(["name", "others", "form", "joining"]:List Str))
  |_=>false)
 |some (.bl false),none=>true
 |_,_=>false)=true:=by kernel_rfl
theorem Rq(T:List Tk){v:L4.D}(h:okB v=true):o9 [w10 T,v]=some (.bl (fmO v).isSome)/\∀f,fmO v=some f->∃d,qz [w10 T,v]=some d/\nE vc "form" d=some (.str f):=by
 cases v with
 |non=>exact⟨by kernel_rfl,λf h=>by cases h⟩
 |int i=>exact⟨by kernel_rfl,λf h=>by cases h⟩
 |str x=>
  have q:=aB.mp (Pt T) x (bJ h);show o9 [w10 T,.str x]=some (.bl (fmS x).isSome)/\∀f,fmS x=some f->_;split at q
  ·rename_i f' e1 e2;rw[e1,e2];refine⟨rfl,λf hf=>?_⟩;cases hf;split at q
   ·rename_i ns a b f'' j e3;rw[az,bp,bp]at q;obtain⟨q1,q2⟩:=q;subst q1 q2;exact⟨_,e3,rfl⟩
   ·cases q
  ·rename_i e1 e2;rw[e1,e2];exact⟨rfl,λf hf=>by cases hf⟩
  ·cases q
 |_=>cases h
def okR(r:Ru):Bool:=okB r.v&&(bX r.ts.length 5&&(bX r.ds.length 4&&(r.ts.all okT&&(r.ds.all okD&&(isB (qk [r.tx])&&isB (pF [ruD r]))))))
def rB(r:Ru):Bool:=match fmO r.v with
 |none=>false
 |some f=>isT (qk [r.tx])&&(r.ts.all (tsB f 4)&&(r.ds.all (eB f)&&isT (pF [ruD r])))
theorem Ji(l:List L4.D)(n:Nat)(h:l.length<=n):oo [.lst l,.int n]=some (.bl true):=LX l n (by omega)
theorem Lr(g:Good T){r:Ru}(h:okR r=true):vQ [w10 T,ruD r]=some (.bl (rB r)):=by
 unfold okR at h;simp only[az]at h;obtain⟨h1,h2,h3,h4,h5,h6,h7⟩:=h;have l2:=fF h2;have l3:=fF h3;obtain⟨v1,v2⟩:=Rq T h1;let ρ:List Sl:=[.im (w10 T),.im (ruD r),.un];have e1:=qp (ng (g:=o9) (a:=aCons (cV 0) (a1 (c1 (nE p9 "verb") (cV 1)))) (ρ:=ρ) (ρ1:=ρ) (ds:=[w10 T,r.v]) rfl v1);have e2:=qp (ng (g:=qk) (a:=a1 (c1 (nE ve "text") (cV 1))) (ρ:=ρ) (ρ1:=ρ) (ds:=[r.tx]) rfl (vF h6));have e3:rp (px (cT (c1 (nZ D5) (cV 1)))) (rp (px (cT (m7 o9 (aCons (cV 0) (a1 (c1 (nE p9 "verb") (cV 1))))))) (px (cT (m7 qk (a1 (c1 (nE ve "text") (cV 1))))))) ρ=some (!(fmO r.v).isSome||!isT (qk [r.tx]),ρ):=BC (ρ1:=ρ) rfl (BP (uq e1) (uq e2));have no:(!(fmO r.v).isSome||!isT (qk [r.tx]))=true->vQ [w10 T,ruD r]=some (.bl false):=λhb=>by rw[hb]at e3;refine oh (ρ:=ρ) rfl ?_;unfold vP;exact n5 ((oG e3).trans rfl)
 unfold rB;cases hf:fmO r.v with
 |none=>exact no (by rw[hf];rfl)
 |some f=>
  cases hs:isT (qk [r.tx])with
  |false=>exact no (by rw[hf,hs];rfl)
  |true=>
   rw[hf,hs]at e3;have fi:=Rp hf;obtain⟨d,x1,x2⟩:=v2 f hf;let σ:List Sl:=[.im (w10 T),.im (ruD r),.im (.str f)];refine oh (ρ:=σ) rfl ?_;unfold vP;refine(pG e3).trans ((m9 (ρ':=σ) ((oT (oa (rZ (hh:=qz) (ys:=[r.v]) (ρ1:=ρ) (ρ2:=ρ) rfl rfl rfl rfl x1) x2)).trans rfl)).trans (n9 ?_));show _=some (D.bl (r.ts.all (tsB f 4)&&(r.ds.all (eB f)&&isT (pF [ruD r]))),σ);refine wH (ng (ρ1:=σ) (ds:=[w10 T,.str f,.lst (r.ts.map tsD)]) rfl ?_) (wH (ng (ρ1:=σ) (ds:=[w10 T,.str f,.lst (r.ds.map deD)]) rfl ?_) (ng (ρ1:=σ) (ds:=[ruD r]) rfl (vF h7)))
   ·let τ:List Sl:=[.im (w10 T),.im (.str f),.im (.lst (r.ts.map tsD))];refine oh (ρ:=τ) rfl (n9 ((o6 (ng (ρ1:=τ) (ds:=[.lst (r.ts.map tsD),.int (5:Nat)]) rfl (Ji _ 5 (by rw[ag];omega)))).trans ?_));exact rh tsD (tsB f 4) r.ts (ρ1:=τ) rfl (by omega) λt ht=>⟨[.im (tsD t),.im (w10 T),.im (.str f)],[.im (tsD t),.im (w10 T),.im (.str f)],rfl,ng (ds:=[w10 T,.str f,tsD t,.int (4:Nat)]) rfl (za g fi 4 t (aB.mp h4 t ht)),rfl⟩
   ·let τ:List Sl:=[.im (w10 T),.im (.str f),.im (.lst (r.ds.map deD))];refine oh (ρ:=τ) rfl (n9 ((o6 (ng (ρ1:=τ) (ds:=[.lst (r.ds.map deD),.int (4:Nat)]) rfl (Ji _ 4 (by rw[ag];omega)))).trans ?_));exact rh deD (eB f) r.ds (ρ1:=τ) rfl (by omega) λt ht=>⟨[.im (deD t),.im (w10 T),.im (.str f)],[.im (deD t),.im (w10 T),.im (.str f)],rfl,ng (ds:=[w10 T,.str f,deD t]) rfl (Lq g fi (aB.mp h5 t ht)),rfl⟩
def li:Ts:=.ot (.obj 15 [] [])
abbrev xS(x:Str):L4.D:=.str x
def c7:List L4.D:=[xS "nobody", xS "gate", xS "", .non,.int 3]
def pr7:List (L4.D×Int):=[(xS "here", 0),(xS "hall", 0),(xS "me", 1),(xS "nobody", 0),(.non,0),(xS "gate", 3),(xS "luck", 2)]
def v5:List L4.D:=[.int (-1),.bl true,.bl false,.non,xS "1"]
def big:L4.D:=.int 100000000000000000000
def aw:List Str:=["alone", "way"]
def mT:List (Str×Ts):=iC [((c7++[xS "It", xS "undo"]).flatMap λa=>[("one", .at a (xS "hall")),("one", .has a),("one", .seen a),("one", .ki a (xS "box")),("one", .at (xS "case") a)]),
 (aw.flatMap λf=>[(f,.has (xS "it")),(f,.seen (xS "it")),(f,.at (xS "it") (xS "hall")),(f,.at (xS "case") (xS "it")),(f,.ki (xS "it") (xS "box")),(f,.mk (xS "it") (.int 1)),(f,.no (.has (xS "it")))]),
 ((aw++([("one" : Str)])).flatMap λf=>[(f,.has (xS "other")),(f,.at (xS "case") (xS "other")),(f,.bo li (.mk (xS "other") (.int 0)))]),
 ([xS "candle", xS "gate", xS "nobody", .non].map λp=>("two", .at (xS "it") p)),
 (pr7.map λq=>("two", .mk q.1 (.int q.2))),
 ((v5++[big]).flatMap λv=>[("one", .mk (xS "gate") v),("one", .mk (xS "it") v),("two", .mk (xS "other") v)]),
 [("one", .mk (xS "it") (.int 4)),("two", .mk (xS "other") (.int 4)),("one", .mk (xS "case") (.int 2))],
 ((["alone", "one", "two"]:List Str).map λf=>(f,.wo (xS "north"))),
 ([xS "", xS "the", xS "North", .non,.int 3,xS "thirteensigns"].map λx=>("way", .wo x)),
 ([xS "door", xS "", .non,xS "Box", .int 3,xS "it"].map λk=>("one", .ki (xS "it") k)),
 ([.no (.ot .non),.bo li (.ot (xS "lit")),.bo (.ot (.int 7)) li,.no (.no (.ot .non)),.ot .non,.ot (xS "lit"),.ot (.tup [xS "lit"]),.ot (deD (.mv (xS "it") (xS "me"))),.no (.ot (deD (.pu (xS "it") (.int 1)))),.no (.no (.no (.no li))),.no (.bo li (.no (.no (.no li))))].map λt=>("one", t))]
def mE:List (Str×De):=iC [((c7++[xS "hall", xS "here"]).map λa=>("two", .mv a (xS "me"))),
 ([xS "nobody", xS "gate", xS "candle", .non,.int 3].flatMap λp=>[("two", .mv (xS "it") p),("two", .mv (xS "case") p)]),
 ([xS "me", xS "case", xS "here", xS "it", xS "other", xS "nobody", xS "candle"].map λp=>("two", .mv (xS "me") p)),
 (aw.flatMap λf=>[(f,.mv (xS "it") (xS "me")),(f,.mv (xS "case") (xS "it")),(f,.pu (xS "it") (.int 1))]),
 ((aw++([("one" : Str)])).flatMap λf=>[(f,.mv (xS "other") (xS "me")),(f,.mv (xS "case") (xS "other")),(f,.pu (xS "other") (.int 0))]),
 (pr7.map λq=>("two", .pu q.1 (.int q.2))),
 ((v5++[.int 4,big]).flatMap λv=>[("one", .pu (xS "gate") v),("one", .pu (xS "it") v),("two", .pu (xS "other") v)]),
 ([.ot .non,.ot (xS "move"),.ot (tsD li),.ot (.tup [xS "put", xS "it", .int 1]),.pu (xS "case") (.int 2)].map λd=>("one", d))]
def vbO(f:Str):L4.D:=xS (if f="alone" then "sing" else if f="one" then "push" else if f="two" then "put" else "go")
def mR:List Ru:=iC [(mT.map λq=>⟨vbO q.1,[li,q.2],[],xS "No.", false⟩),
 (mE.map λq=>⟨vbO q.1,[],[.pu (xS "gate") (.int 1),q.2],xS "No.", false⟩),
 ([xS "nobody", xS "", .non,xS "shove", .int 3,xS "case", xS "it", xS "undo"].map λv=>⟨v,[],[],xS "No.", false⟩),
 ([xS "", xS "xxxxxxxxxxxxxxxxxxxxxxxxxxxxxxxxxxxxxxxxxxxxxxxxxxxxxxxxxxxxx", .non,.int 5,.tup [xS "No."]].map λt=>⟨xS "wait", [],[],t,false⟩),
 [⟨xS "wait", [],[.pu (xS "gate") (.int 1)],xS "No.", true⟩,⟨xS "push", [],[.mv (xS "it") (xS "me")],xS "No.", true⟩]]
def gR:List Ru:=[⟨xS "push", [.at (xS "here") (xS "hall"),.has (xS "me"),.ki (xS "here") (xS "room"),.no (.bo li (.no li))],[.pu (xS "it") (.int 3)],xS "~ ~", false⟩,⟨xS "put", [.at (xS "other") (xS "it"),.mk (xS "other") (.int 3)],[.mv (xS "other") (xS "it"),.mv (xS "me") (xS "hall")],xS "xxxxxxxxxxxxxxxxxxxxxxxxxxxxxxxxxxxxxxxxxxxxxxxxxxxxxxxxxxxx", false⟩,
 ⟨xS "go", [.wo (xS "elsewhere"),.seen (xS "hall")],[.mv (xS "case") (xS "case"),.mv (xS "case") (xS "here")],xS "'", false⟩,⟨xS "take", [],[],xS "No.", true⟩,⟨xS "sing", [.mk (xS "candle") (.int 1)],[.pu (xS "luck") (.int 0)],xS ".", false⟩]
theorem Rr:vA []=some (.lst (mR.map ruD)):=by kernel_rfl
theorem Rv:vB []=some (.lst (gR.map ruD)):=by kernel_rfl
theorem Rw:(mR.all λr=>okR r&&!rB r)=true:=by kernel_rfl
theorem L1:(gR.all λr=>okR r&&rB r)=true:=by kernel_rfl
theorem Pu:mR.length=203:=by kernel_rfl
theorem Ls:gR.map (λr=>vN [ruD r])=gR.map (λr=>some (ruD r)):=by kernel_rfl
theorem Ab{d:L4.D}(hd:noC 16 14 d=true):∀ds:List L4.D,sA 16 14 ds=true->sA 16 14 (ds++[d])=true
 |[],_=>by rw[bP];unfold sA;rw[hd];rfl
 |x::ds,h=>by rw[List.cons_append];unfold sA at h ⊢;rw[az]at h ⊢;exact⟨h.1,Ab hd ds h.2⟩
theorem Ac:∀ds:List L4.D,(∀d∈ds,noC 16 14 d=true)->sA 16 14 ds=true
 |[],_=>by unfold sA;rfl
 |x::ds,h=>by unfold sA;rw[az];exact⟨h x aG,Ac ds λd hd=>h d (aN _ hd)⟩
theorem Jj{d:L4.D}{k:Key}{P Q:List L4.D->Prop}(h1:∀ds,P ds->Q ds)(h2:∀ds,P ds->Q (ds++[d])):∀(ks:List Key) (dss:List (List L4.D)),(∀ds∈dss,P ds)->∀x∈c8 (λk' ds=>if k'=k then ds++[d]else ds) ks dss,Q x
 |[],_,_,x,hx=>by cases hx
 |_::_,[],_,x,hx=>by cases hx
 |k0::ks,ds::dss,h,x,hx=>by
  rw[fD]at hx;rcases aO.mp hx with rfl|hx
  ·have:=h ds aG;split
   ·exact h2 _ this
   ·exact h1 _ this
  ·exact Jj h1 h2 ks dss (λds hd=>h ds (aN _ hd)) x hx
def gK(d:L4.D):Bool:=(match nE p9 "verb" d with
 |some x=>(uX x).isSome
 |none=>false)&&noC 16 14 d
theorem Jk:∀(L:List L4.D) (ks:List Key) (dss:List (List L4.D)),(∀d∈L,gK d=true)->ks.length=dss.length->ks.length+L.length<1000->(∀ds∈dss,ds.length+L.length<1000/\sA 16 14 ds=true)->
  ∃ks' dss',u4 (nE p9 "verb") L ks dss=some (ks',dss')/\∀ds∈dss',sA 16 14 ds=true
 |[],ks,dss,_,_,_,h=>⟨ks,dss,rfl,λds hd=>(h ds hd).2⟩
 |d::L,ks,dss,hg,hl,hk,h=>by
  rw[aD]at hk;have hL:∀ds∈dss,ds.length+L.length+1<1000/\sA 16 14 ds=true:=λds hd=>⟨by have:=(h ds hd).1;rw[aD]at this;omega,(h ds hd).2⟩;have gd:=hg d aG;unfold gK at gd;rw[az]at gd;obtain⟨gd,nd⟩:=gd;obtain⟨x,k,e1,e2⟩:∃x k,nE p9 "verb" d=some x/\uX x=some k:=by
   split at gd
   ·rename_i x e;exact⟨x,_,e,(Option.some_get gd).symm⟩
   ·cases gd
  have st:(uZ ks dss k d).1.length=(uZ ks dss k d).2.length/\(uZ ks dss k d).1.length+L.length<1000/\∀ds∈(uZ ks dss k d).2,ds.length+L.length<1000/\sA 16 14 ds=true:=by
   unfold uZ;by_cases c:yV ks k=true
   ·rw[ah c];exact⟨by simp only[gy];omega,by simp only;omega,Jj (P:=λds=>ds.length+L.length+1<1000/\sA 16 14 ds=true) (λds h=>⟨by omega,h.2⟩) (λds h=>⟨by rw[aC,bO];omega,Ab nd ds h.2⟩) ks dss hL⟩
   ·rw[ai c];refine⟨by simp[hl],by simp only[aC,bO];omega,λds hd=>?_⟩;rcases bC.mp hd with hd|hd
    ·exact⟨by have:=(hL ds hd).1;omega,(hL ds hd).2⟩
    ·rw[ba.mp hd];exact⟨by simp only[bO];omega,Ab nd [] (by unfold sA;rfl)⟩
  obtain⟨s1,s2,s3⟩:=st;obtain⟨ks',dss',q1,q3⟩:=Jk L (uZ ks dss k d).1 (uZ ks dss k d).2 (λx hx=>hg x (aN _ hx)) s1 s2 s3;refine⟨ks',dss',?_,q3⟩;unfold u4;simp only[e1,e2];rw[ah]
  ·exact q1
  ·rw[az];exact⟨aW (by omega),aB.mpr λds hd=>aW (by have:=(hL ds hd).1;omega)⟩
theorem Ef(hl:T.length<=900)(hn:∀t∈T,t.n=.str t.m)(nd:(T.map Tk.m).Nodup):xZ [LD T]=some (.dic (nK T) (T.map tkD)):=by
 obtain⟨s',e1⟩:=vR (g:=gN 2) (i:=1) (fk:=c1 (nE nN "name") (cV 2)) (fv:=cV 2) tkD Tk.m tkD (λks ds s=>[.im (LD T),.dk ks ds,s]) T
  (λt ht ks ds s=>⟨[.im (LD T),.dk ks ds,.im (tkD t)],rfl,rfl,rfl,oa rfl ((tR t).trans (by rw[hn t ht])),λks' ds'=>⟨_,rfl⟩⟩) T [] [] .un (λ_ h=>h) (by rw[bP];exact Di nd) (by simp;omega) rfl
 refine oh (ρ:=[.im (LD T),.im (.dic (nK T) (T.map tkD)),s']) rfl ?_;unfold xY;refine(m9 (ρ':=[.im (LD T),.dk [] [],.un]) rfl).trans ?_;refine(m9 ((tH rfl).trans e1)).trans ?_;rw[bP,bP];rfl
variable{ns:List Str}
theorem Fd{r:List Sl}{r':List Sl}(h1:e (.im (.obj 14 ns ds)::r.map sC)=some (d,r'))(h2:noC 16 14 d=true):uF 16 e (.ob 14 ns ds::r)=some (d,.ob 14 ns ds::r):=by unfold uF;simp only[h1,h2];rfl
theorem Ad{nm:Str}{r:List Sl}(h1:e (.ob 14 ns ds::r)=some (d,.ob 14 ns ds::r))(h2:ns.contains nm=false)(h3:ds.length=ns.length)(h4:ns.length<900):n4 14 0 nm e (.ob 14 ns ds::r)=some (.nx (.ob 14 (ns++[nm]) (ds++[d])::r)):=by unfold n4;rw[h1];simp only[i7,h2,h3,h4,if_true,eD,if_false];rfl
theorem yc{a b e:Sl}:∀(l:List Tk) (ks:List Key) (ds:List L4.D) (s:Sl),(∀t∈l,t.n=.str t.m)->(ks++l.map λt=>kS t.m).Nodup->ks.length+l.length<=900->ds.length=ks.length->
  ∃s':Sl,forL (gN 3) (sIf (cT (pz pM "has_mark" (cV 3) oe)) (rQ 2 (c1 (nE nN "name") (cV 3)) (cC (.int 1))) ou) (l.map tkD) [a,b,.dk ks ds,s,e]=some (.nx [a,b,.dk (ks++(l.filter λt=>t.k.mk).map λt=>kS t.m) (ds++(l.filter λt=>t.k.mk).map λ_=>D.int 1),s',e])
 |[],ks,ds,s,_,_,_,he=>⟨s,by simp only[List.filter_nil,c6,br];rfl⟩
 |t::l,ks,ds,s,hn,nd,hl,he=>by
  rw[aD]at hl;let ρ:List Sl:=[a,b,.dk ks ds,.im (tkD t),e];have em:cT (pz pM "has_mark" (cV 3) oe) ρ=some (t.k.mk,ρ):=qp (rZ (xs:=[t.n,t.w,.str t.k.s,t.s]) (ys:=[]) rfl rfl rfl rfl (E6 t));have hn':∀u∈l,u.n=.str u.m:=λu hu=>hn u (aN _ hu);rw[aK]at nd;have nd1:((ks++[kS t.m])++l.map λt=>kS t.m).Nodup:=by rw[bI];exact nd
  have nd2:(ks++l.map λt=>kS t.m).Nodup:=nd.sublist ((gU _).append (List.sublist_cons_self _ _));rw[aK];unfold forL;rw[show gN 3 (tkD t) [a,b,.dk ks ds,s,e]=some ρ from rfl];cases hm:t.k.mk with
  |true=>
   rw[hm]at em;have hk:kS t.m∉ks:=λz=>by rw[bZ]at nd;exact nd.2.2 _ z _ aG rfl
   obtain⟨s',q⟩:=yc (a:=a) (b:=b) (e:=e) l (ks++[kS t.m]) (ds++[.int 1]) (.im (tkD t)) hn' nd1 (by rw[aC,bO];omega) (by simp[he]);refine⟨s',?_⟩;simp only[(oG em).trans (Dj (i:=2) (fk:=c1 (nE nN "name") (cV 3)) (fv:=cC (.int 1)) (ρ:=ρ) (x:=t.m) rfl rfl (oa rfl ((tR t).trans (by rw[hn t aG]))) hk (by omega) he)];rw[i9 (by exact hm),aK,aK];refine q.trans ?_;rw[bI,bI];rfl
  |false=>rw[hm]at em;obtain⟨s',q⟩:=yc (a:=a) (b:=b) (e:=e) l ks ds (.im (tkD t)) hn' nd2 (by omega) he;refine⟨s',?_⟩;simp only[qx em,ou];rw[i8 (by rw[hm];decide)];exact q
theorem Jl(g:Good T):rT [LD T,MD m2]=some (.dic (mK T) (mV T)):=by
 have hl:=g.len;obtain⟨s1,e1⟩:=yc (a:=.im (LD T)) (b:=.im (MD m2)) (e:=.un) T [] [] .un (λt h=>(g.nm t h).1) (by rw[bP];exact Di g.nd) (by simp;omega) rfl;rw[bP,bP]at e1;have h:=ee (λt:Tk=>t.k.mk) T;obtain⟨s2,e2⟩:=vR (g:=gN 4) (i:=2) (fk:=c1 (nE nN "name") (cV 4)) (fv:=c1 (nE tW "most") (cV 4)) mkD Mk.n (λm=>.int m.mo) (λks ds s=>[.im (LD T),.im (MD m2),.dk ks ds,s1,s]) m2
  (λm _ ks ds s=>⟨[.im (LD T),.im (MD m2),.dk ks ds,s1,.im (mkD m)],rfl,rfl,rfl,rfl,λks' ds'=>⟨_,rfl⟩⟩) m2 ((T.filter λt:Tk=>t.k.mk).map λt:Tk=>kS t.m) ((T.filter λt:Tk=>t.k.mk).map λ_=>.int 1) .un (λ_ h=>h) (L0 g) (by rw[ag];show _+2<=1000;omega) (by rw[ag,ag])
 refine oh (ρ:=[.im (LD T),.im (MD m2),.im (.dic (mK T) (mV T)),s1,s2]) rfl ?_;unfold rS;refine(m9 (ρ':=[.im (LD T),.im (MD m2),.dk [] [],.un,.un]) rfl).trans ?_;refine(m9 ((tH rfl).trans e1)).trans ?_;exact(m9 ((tH rfl).trans e2)).trans rfl
theorem Rx(g:Good T)(ns:List Str)(rest:List L4.D):rW [.obj 14 ("kept_things" ::ns) (LD T::rest),.str "you"]=some (.lst [.str "me"]):=by let ρ:List Sl:=[.im (.obj 14 ("kept_things" ::ns) (LD T::rest)),.im (.str Kd.you.s)];obtain⟨u,hu,e1,e2⟩:=g.me;have y:=g.y1;unfold cK at y;obtain⟨t,et⟩:=List.length_eq_one_iff.mp y;have ut:u=t:=ba.mp (by rw[<-et];exact bA.mpr ⟨hu,aW e2⟩);refine(NP (ρ:=ρ) rfl (y4 (vE tkD Tk.n (λt=>decide (t.k=.you)) T (ρ1:=ρ) rfl (by have:=g.len;omega) λt _=>⟨[.im (tkD t),.im (.str Kd.you.s)],[.im (tkD t),.im (.str Kd.you.s)],rfl,qp (nP (oa rfl (wG t)) rfl (z5 t.k .you)),λ_=>⟨_,oa rfl (tR t),rfl⟩,λ_=>rfl⟩))).trans ?_;rw[et,<- ut];show some (D.lst [u.n])=_;rw[(g.nm u hu).1,e1]
def shL:List L4.D:=(qZ [.str "me", WL]).getD []
abbrev RD(R:List Ru):L4.D:=.lst (R.map ruD)
def wA(T:List Tk)(R:List Ru)(c:L4.D):List L4.D:=[LD T,MD m2,.lst [],WL,VL,.lst v9,.str "me", .dic (nK T) (T.map tkD),.dic (mK T) (mV T),vwD,RD R,.lst shL,RD R,c]
def wS(T:List Tk)(R:List Ru)(c:L4.D)(q:Sl)(k:Nat):List Sl:=[.ob 14 (wNs.take k) ((wA T R c).take k),.im (LD T),.im (MD m2),.im (.lst []),.im WL,.im VL,.im (RD R),q]
theorem Ry:(shL.all gK&&bX shL.length 50)=true:=by kernel_rfl
theorem RA:(gR.all λr=>gK (ruD r))=true:=by kernel_rfl
section
variable{T:List Tk}(g:Good T){R:List Ru}(ok:∀r∈R,okR r=true)(lR:R.length<=20)
include g ok lR
theorem Jm(c:L4.D){o:Out}(h:(ni (sXp m8 (aCons (cV 7) (a1 (cS "rules are a list of at most 20 rules, each as it may be"))))
 (ni (sNb (n4 14 0 "kept_rules" (cL (uU (cV 6)))))
 (ni (sNb (n4 14 0 "shared_rules" (uF 16 (cL (o4 qZ (aCons (c1 (nE rJ "your_name") (cV 0)) (a1 (cV 4))))))))
 (ni (sNb (n4 14 0 "copied_rules" (cL (nJ 1 [] (iL (cV 6)) (gN 0) oK (m7 vN (a1 (cV 0)))))))
 (sNb (n4 14 0 "rules_by_verb" (uF 16 (m7 x6 (a1 (cL (oR (c1 (nE rD "copied_rules") (cV 0)) (c1 (nE rE "shared_rules") (cV 0))))))))))))) (wS T R c (.im (.bl (R.all rB))) 10)=some o):ql (stI 14 8 [LD T,MD m2,.lst [],WL,VL,RD R])=some o:=by
 have hl:=g.len;let S:=wS T R c;show ql (S .un 0)=some o;unfold ql;refine(m9 (ρ':=S .un 0) (An (ds:=pA (LD T) (MD m2) WL VL) (nD rfl (nD rfl (nD rfl (nD rfl (nD rfl (nD (qq (ng (ds:=[]) rfl Q1)) rfl)))))) (Jd g))).trans ?_;refine(m9 (ρ':=S .un 1) (by kernel_rfl)).trans ((m9 (ρ':=S .un 2) (by kernel_rfl)).trans ((m9 (ρ':=S .un 3) (by kernel_rfl)).trans ((m9 (ρ':=S .un 4) (by kernel_rfl)).trans ((m9 (ρ':=S .un 5) (by kernel_rfl)).trans ((m9 (ρ':=S .un 6) (by kernel_rfl)).trans ?_)))));refine(m9 (ρ':=S .un 7) (qK (Ad (ns:=wNs.take 6) (ds:=(wA T R c).take 6) (r:=(S .un 6).tail) (Fd (d:=.str "me") (r':=(.im (.obj 14 (wNs.take 6) ((wA T R c).take 6)))::((S .un 6).tail).map sC) (nP (x:=.lst [.str "me"]) (rZ (xs:=(wA T R c).take 6) (ys:=[.str "you"]) (hh:=rW) rfl rfl rfl rfl (Rx g _ _)) rfl rfl) rfl) rfl rfl (by decide)))).trans ?_;refine(m9 (ρ':=S .un 8) (qK (Ad (r:=(S .un 7).tail) (ng (ds:=[LD T]) rfl (Ef (by omega) (λt h=>(g.nm t h).1) g.nd)) rfl rfl (by decide)))).trans ?_;refine(m9 (ρ':=S .un 9) (qK (Ad (r:=(S .un 8).tail) (ng (ds:=[LD T,MD m2]) rfl (Jl g)) rfl rfl (by decide)))).trans ?_;refine(m9 (ρ':=S .un 10) (by kernel_rfl)).trans ?_;refine(m9 (ρ':=S (.im (.bl (R.all rB))) 10) (qK ((oT (ρ':=S .un 10) (Fd (d:=.bl (R.all rB)) (r:=(S .un 10).tail) (r':=.im (w10 T)::((S .un 10).tail).map sC) ?_ rfl)).trans rfl))).trans h;let ρ:List Sl:=.im (w10 T)::((S .un 10).tail).map sC;refine(o6 (ng (ρ1:=ρ) (ds:=[RD R,.int (20:Nat)]) rfl (Ji _ 20 (by rw[ag];omega)))).trans ?_;exact rh ruD rB R (ρ1:=ρ) rfl (by omega) λr hr=>⟨[.im (ruD r),.im (w10 T)],[.im (ruD r),.im (w10 T)],rfl,ng (ds:=[w10 T,ruD r]) rfl (Lr g (ok r hr)),rfl⟩
theorem RX(h:R.all rB=false):oX [LD T,MD m2,.lst [],WL,VL,RD R]=some none:=by unfold oX fnXI;rw[ah (show [LD T,MD m2,.lst [],WL,VL,RD R].length=6 from rfl)];rw[Jm g ok lR .non (A5 (vC (e:=cV 7) (ρ1:=wS T R .non (.im (.bl (R.all rB))) 10) (by rw[h];rfl)))]
theorem Jn(hg:∀r∈R,r∈gR):∃q,oX [LD T,MD m2,.lst [],WL,VL,RD R]=some (some q):=by
 have sh:=Ry;rw[az]at sh;have ls:=fF sh.2;have all:∀d∈R.map ruD++shL,gK d=true:=λd hd=>by
  rcases bC.mp hd with hd|hd
  ·obtain⟨r,hr,rfl⟩:=aI.mp hd;exact aB.mp RA r (hg r hr)
  ·exact aB.mp sh.1 d hd
 have lA:(R.map ruD++shL).length<=70:=by rw[aC,ag];omega
 obtain⟨ks,dss,g1,g3⟩:=Jk (R.map ruD++shL) [] [] all rfl (by simp only[du];omega) λds h=>(by cases h);let c:L4.D:=.dic ks (dss.map .lst);let B:Sl:=.im (.bl true);have nc:noC 16 14 c=true:=by show sA 16 14 (dss.map .lst)=true;exact Ac _ λd hd=>by obtain⟨ds,h,rfl⟩:=aI.mp hd;exact g3 ds h
 have hB:R.all rB=true:=rL λr hr=>by have:=aB.mp L1 r (hg r hr);rw[az]at this;exact this.2
 let S:=wS T R c;have nS:sA 16 14 shL=true:=Ac _ λd hd=>by have:=aB.mp sh.1 d hd;unfold gK at this;rw[az]at this;exact this.2
 have e:ql (stI 14 8 [LD T,MD m2,.lst [],WL,VL,RD R])=some (.nx (S B 14)):=by
  refine Jm g ok lR c ?_;rw[hB];refine(m9 (ρ':=S B 10) (oW rfl)).trans ?_;refine(m9 (ρ':=S B 11) (qK (Ad (ns:=wNs.take 10) (ds:=(wA T R c).take 10) (r:=(S B 10).tail) (qq rfl) rfl rfl (by decide)))).trans ?_;refine(m9 (ρ':=S B 12) (qK (Ad (ns:=wNs.take 11) (ds:=(wA T R c).take 11) (r:=(S B 11).tail) (Fd (d:=.lst shL) (r':=(.im (.obj 14 (wNs.take 11) ((wA T R c).take 11)))::((S B 11).tail).map sC) (qq (ng (ds:=[.str "me", WL]) rfl (by kernel_rfl))) nS) rfl rfl (by decide)))).trans ?_;refine(m9 (ρ':=S B 13) (qK (Ad (ns:=wNs.take 12) (ds:=(wA T R c).take 12) (r:=(S B 12).tail) (qq (xG ruD ruD R (ρ1:=S B 12) rfl (by omega) λr hr=>⟨[.im (ruD r)],[.im (ruD r)],rfl,ng (ds:=[ruD r]) rfl (List.map_inj_left.mp Ls r (hg r hr)),rfl⟩)) rfl rfl (by decide)))).trans ?_;refine qK (Ad (ns:=wNs.take 13) (ds:=(wA T R c).take 13) (r:=(S B 13).tail) (Fd (ng (ds:=[.lst (R.map ruD++shL)]) (nD (qq (tG (xs:=R.map ruD) (ys:=shL) rfl rfl (by rw[ag];omega))) rfl) (r:=c) ?_) nc) rfl rfl (by decide));refine oh (ρ:=[.im (.lst (R.map ruD++shL)),.un,.un]) rfl ?_;show (match u4 (nE p9 "verb") (R.map ruD++shL) [] []with
   |some (ks,dss)=>some (Out.rt (.dic ks (dss.map .lst)) [.im (.lst (R.map ruD++shL)),.un,.un])
   |none=>none)=_
  rw[g1]
 refine⟨(wNs,wA T R c),?_⟩;unfold oX fnXI;rw[ah (show [LD T,MD m2,.lst [],WL,VL,RD R].length=6 from rfl),e];dsimp only;unfold fnI;rw[ah (show [LD T,MD m2,.lst [],WL,VL,RD R].length=6 from rfl),e];rfl
end
variable{r:L4.D}
theorem Jo:(aCons (cV 0) (aCons (cV 3) (aCons (cL (nH oe)) (aCons (cL (nH (a1 (nO (aCons (cS "hall") (aCons (cS "north") (aCons (cS "hall") (a1 (cS "gate"))))))))) (aCons (cV 2) (a1 (cV 1))))))) [.im d,.im r,.im VL,.im (MD m2)]=some ([d,MD m2,.lst [],WL,VL,r],[.im d,.im r,.im VL,.im (MD m2)]):=by kernel_rfl
theorem Fe{o:Out}(h:(ni (sTry oX (aCons (cV 0) (aCons (cV 3) (aCons (cL (nH oe)) (aCons (cL (nH (a1 (nO (aCons (cS "hall") (aCons (cS "north") (aCons (cS "hall") (a1 (cS "gate"))))))))) (aCons (cV 2) (a1 (cV 1))))))) (nT (cC (.bl true))))
 (nT (cC (.bl false)))) [.im d,.im r,.im VL,.im (MD m2)]=some o):rg (stE 4 [d,r])=some o:=by
 unfold rg;exact(m9 (ρ':=[.im d,.im r,.im VL,.un]) (by kernel_rfl)).trans ((m9 (ρ':=[.im d,.im r,.im VL,.im (MD m2)]) (by kernel_rfl)).trans h)
theorem refused(h:oX [d,MD m2,.lst [],WL,VL,r]=some none):oA [d,r]=some (.bl true):=by refine oh (ρ:=[.im d,.im r,.im VL,.im (MD m2)]) rfl (Fe (n5 ?_));unfold sTry;rw[Jo];simp only[h];rfl
theorem Pw{q:List Str×List L4.D}(h:oX [d,MD m2,.lst [],WL,VL,r]=some (some q)):oA [d,r]=some (.bl false):=by refine oh (ρ:=[.im d,.im r,.im VL,.im (MD m2)]) rfl (Fe ((m9 (ρ':=[.im d,.im r,.im VL,.im (MD m2)]) ?_).trans rfl));unfold sTry;rw[Jo];simp only[h]
theorem Fg(ns:List Int)(k:Nat):∃c,qc [.fzl (ns.map D.int),.int k]=some (.int c):=by
 let ρ:List Sl:=[.im (.fzl (ns.map D.int)),.im (.int k)];have ev:cT (c2 DM (cV 1) (c1 pX (cV 0))) ρ=some (decide ((k:Int)<((ns.map D.int).length:Nat)),ρ):=rfl;rw[ag]at ev;by_cases h:k<ns.length
 ·rw[aW (by omega)]at ev;refine⟨ns[k],oh (ρ:=ρ) rfl (n5 ((oG ev).trans (n9 (nP (x:=.fzl (ns.map D.int)) (y:=.int k) rfl rfl ?_))))⟩;exact vG (by rw[aX,aV h];rfl)
 ·rw[aY (by omega)]at ev;exact⟨0,oh (ρ:=ρ) rfl ((m9 ((qx ev).trans rfl)).trans rfl)⟩
theorem Lu{k:Nat}{cap:List Nat}{g:FG}{ft:FT}{fe:FE}{x:L4.D}{l xs:List L4.D}{ρ' ρ'':List Sl}(h1:g d (xQ k cap ρ)=some ρ1)(h2:ft ρ1=some (true,ρ2))(h3:fe ρ2=some (x,ρ3))(h4:qR cap (ρ3.drop k) ρ=some ρ')(h5:su k cap g ft fe l ρ'=some (xs,ρ'')):su k cap g ft fe (d::l) ρ=some (x::xs,ρ''):=by unfold su;simp only[h1,h2,h3,h4,h5]
abbrev GG:L4.D:=.lst (gR.map ruD)
theorem Ae(a b:Sl)(rest:List Sl):∀(l:List Nat) (es:List L4.D),wy es->∃(R:List Ru) (es':List L4.D),R.length=l.length/\(∀r∈R,r∈gR)/\wy es'/\
  su 1 [3,1] (gN 0) oK (c2 dIx (cV 1) (sJ nX 2 (a1 (cC (.int 5))))) (l.map λk:Nat=>D.int (k:Nat)) (a::.ls es::b::.im GG::rest)=some (R.map ruD,a::.ls es'::b::.im GG::rest)
 |[],es,h=>⟨[],es,rfl,λr hr=>(by cases hr),h,rfl⟩
 |k::l,es,h=>by
  obtain⟨d,hd,e1,x1,h1⟩:=pk (i:=2) (e:=cV 1) (a:=cC (.int 5)) (L:=gR.map ruD) (λes=>[.im (.int (k:Nat)),.im GG,.pm es]) (λ_=>rfl) (λ_ _=>rfl) rfl rfl h (by intro z;cases z) (by decide);obtain⟨r,hr,rfl⟩:=aI.mp hd;obtain⟨R,e2,eL,hR,h2,x2⟩:=Ae a b rest l e1 h1;refine⟨r::R,e2,by rw[aD,aD,eL],λq hq=>?_,h2,?_⟩
  ·rcases aO.mp hq with rfl|hq
   ·exact hr
   ·exact hR q hq
  ·rw[aK,aK];exact Lu (ρ1:=[.im (.int (k:Nat)),.im GG,.pm es]) (ρ2:=[.im (.int (k:Nat)),.im GG,.pm es]) rfl rfl x1 rfl x2
def lB:FS:=(ni (oM 7 (m7 qc (aCons (cV 0) (a1 (cV 6)))))
 (ni (oM 8 (c2 qm (c2 uE (cV 7) (c1 pX (cV 5))) (c2 qG (c1 pX (cV 4)) (cC (.int 1)))))
 (ni (oM 9 (c2 dIx (cV 5) (c2 qm (c2 qG (cV 7) (c2 sv (cC (.int 7)) (cV 6))) (c1 pX (cV 5)))))
 (sIf (px (cT (m7 oA (aCons (cV 2) (a1 (cL (oR (cL (oR (cL (wZ (cV 4) oNo (oAt (cV 8)))) (cL (nH (a1 (cV 9)))))) (cL (wZ (cV 4) (oAt (cV 8)) oNo))))))))) (nT (cC (.bl false))) ou))))
abbrev MM:L4.D:=.lst (mR.map ruD)
theorem Eg{r:Ru}(h:r∈gR):okR r=true:=by have:=aB.mp L1 r h;rw[az]at this;exact this.1
section
variable{T:List Tk}(g:Good T){R:List Ru}(hg:∀r∈R,r∈gR)(lR:R.length<=5)
include g hg lR
theorem Fh:oA [LD T,RD R]=some (.bl false):=by obtain⟨q,e⟩:=Jn g (λr hr=>Eg (hg r hr)) (by omega) hg;exact Pw e
theorem RB(a:Nat){o:Ru}(ho:o∈mR):oA [LD T,RD (R.take a++[o]++R.drop a)]=some (.bl true):=by
 have q:=aB.mp Rw o ho;rw[az]at q;refine refused (RX g (λr hr=>?_) ?_ (Pg (a:=o) ?_ (by simpa using q.2)))
 ·rcases bC.mp hr with hr|hr
  ·rcases bC.mp hr with hr|hr
   ·exact Eg (hg r (fH hr))
   ·rw[ba.mp hr];exact q.1
  ·exact Eg (hg r (jq hr))
 ·rw[aC,aC,bz,dP,bO];omega
 ·exact bw _ (aZ _ (ba.mpr rfl))
theorem Lv(ns:List Int)(k:Nat)(es:List L4.D)(s7 s8 s9:Sl):∃t7 t8 t9,lB [.im (.fzl (ns.map D.int)),.ls es,.im (LD T),.im GG,.im (RD R),.im MM,.im (.int k),s7,s8,s9]=some (.nx [.im (.fzl (ns.map D.int)),.ls es,.im (LD T),.im GG,.im (RD R),.im MM,.im (.int k),t7,t8,t9]):=by
 obtain⟨c,ec⟩:=Fg ns k;let S:Sl:=.im (.fzl (ns.map D.int));let E:Sl:=.ls es;let A:Sl:=.im (LD T);let B:Sl:=.im GG;let X:Sl:=.im (RD R);let N:Sl:=.im MM;let K:Sl:=.im (.int k);have lm:(mR.map ruD).length=203:=by rw[ag];exact Pu
 have lr:(R.map ruD).length=R.length:=ag ..;obtain⟨j,hj⟩:=cE (dU (c+7 * (k:Int)) (by decide:(203:Int)≠0));have hj7:j<(mR.map ruD).length:=by have:=dM (c+7 * (k:Int)) (by decide:(0:Int)<203);omega
 obtain⟨o,ho,eo⟩:=aI.mp (dj hj7);obtain⟨a,ha⟩:=cE (dU (c / 203) (by omega:((R.map ruD).length:Int)+1≠0));have haT:a<=(R.map ruD).length:=by have:=dM (c / 203) (by omega:(0:Int)<((R.map ruD).length:Int)+1);omega
 let C:Sl:=.im (.int c);let A8:Sl:=.im (.int (a:Nat));let O9:Sl:=.im (ruD o);let ρ:List Sl:=[S,E,A,B,X,N,K,C,A8,O9];refine⟨C,A8,O9,?_⟩;unfold lB;have h7:tD 7=true:=by decide
 have eM:pX MM=some (.int 203):=by show some (D.int ((mR.map ruD).length:Nat))=_;rw[lm];rfl
 refine(m9 (ρ':=[S,E,A,B,X,N,K,C,s8,s9]) ((oT (ng (ds:=[.fzl (ns.map D.int),.int k]) (ρ1:=[S,E,A,B,X,N,K,s7,s8,s9]) rfl ec)).trans rfl)).trans ?_;refine(m9 (ρ':=[S,E,A,B,X,N,K,C,A8,s9]) ((oT (d:=.int (a:Nat)) (ρ':=[S,E,A,B,X,N,K,C,s8,s9]) ?_).trans rfl)).trans ?_
 ·let σ:List Sl:=[S,E,A,B,X,N,K,C,s8,s9];refine Eq.trans (nP (x:=.int (c / 203)) (y:=.int (((R.map ruD).length:Int)+1)) (ρ1:=σ) (ρ2:=σ) (nP (x:=.int c) (y:=.int 203) rfl (oa rfl eM) (div_pos (by decide) (by decide))) (nP (x:=.int ((R.map ruD).length:Nat)) (y:=.int 1) (oa rfl rfl) rfl rfl) (sQ (by omega))) ?_;rw[ha]
 refine(m9 (ρ':=ρ) ((oT (d:=ruD o) (ρ':=[S,E,A,B,X,N,K,C,A8,s9]) (nP (x:=MM) (y:=.int (j:Nat)) (ρ1:=[S,E,A,B,X,N,K,C,A8,s9]) rfl ((nP (x:=.int (c+7 * (k:Int))) (y:=.int 203) (ρ1:=[S,E,A,B,X,N,K,C,A8,s9]) (nP rfl (nP rfl rfl (sg (.inl h7))) rfl) (oa rfl eM) (sQ (by decide))).trans (by rw[hj])) ?_)).trans rfl)).trans ?_
 ·rw[eo];exact vG (aV hj7)
 have x1:wZ (cV 4) oNo (oAt (cV 8)) ρ=some ((R.map ruD).take a,ρ):=(Ed (ds:=R.map ruD) (ρ1:=ρ) (ρ2:=ρ) (ρ3:=ρ) (l:=none) (u:=some (a:Int)) rfl rfl rfl).trans (by rw[IZ a haT]);have x2:wZ (cV 4) (oAt (cV 8)) oNo ρ=some ((R.map ruD).drop a,ρ):=(Ed (ds:=R.map ruD) (ρ1:=ρ) (ρ2:=ρ) (ρ3:=ρ) (l:=some (a:Int)) (u:=none) rfl rfl rfl).trans (by rw[Pk a haT]);have lt:((R.map ruD).take a).length<=5:=by rw[bz];omega
 have ld:((R.map ruD).drop a).length<=5:=by rw[dP];omega
 have x3:cL (oR (cL (oR (cL (wZ (cV 4) oNo (oAt (cV 8)))) (cL (nH (a1 (cV 9)))))) (cL (wZ (cV 4) (oAt (cV 8)) oNo))) ρ=some (RD (R.take a++[o]++R.drop a),ρ):=by refine(qq (tG (qq (tG (qq x1) (ys:=[ruD o]) (ρ2:=ρ) rfl (by show _+1<=1000;omega))) (qq x2) (by rw[aC];show _+1+_<=1000;omega))).trans ?_;show _=some (D.lst ((R.take a++[o]++R.drop a).map ruD),ρ);rw[bb,bb,kH,kF];rfl
 exact(qx (uq (b:=true) (qp (ng (ds:=[LD T,RD (R.take a++[o]++R.drop a)]) (ρ1:=ρ) (nD rfl (nD x3 rfl)) (RB g hg lR a ho))))).trans rfl
theorem Fi(ns:List Int)(es:List L4.D):∀(l:List Nat) (s6 s7 s8 s9:Sl),∃t6 t7 t8 t9,forL (gN 6) lB (l.map λk:Nat=>D.int (k:Nat)) [.im (.fzl (ns.map D.int)),.ls es,.im (LD T),.im GG,.im (RD R),.im MM,s6,s7,s8,s9]=some (.nx [.im (.fzl (ns.map D.int)),.ls es,.im (LD T),.im GG,.im (RD R),.im MM,t6,t7,t8,t9])
 |[],s6,s7,s8,s9=>⟨s6,s7,s8,s9,rfl⟩
 |k::l,s6,s7,s8,s9=>by obtain⟨t7,t8,t9,e⟩:=Lv g hg lR ns k es s7 s8 s9;obtain⟨u6,u7,u8,u9,e2⟩:=Fi ns es l (.im (.int k)) t7 t8 t9;refine⟨u6,u7,u8,u9,?_⟩;rw[aK];unfold forL;rw[show gN 6 (.int (k:Nat)) [.im (.fzl (ns.map D.int)),.ls es,.im (LD T),.im GG,.im (RD R),.im MM,s6,s7,s8,s9]=some [.im (.fzl (ns.map D.int)),.ls es,.im (LD T),.im GG,.im (RD R),.im MM,.im (.int k),s7,s8,s9] from rfl];simp only[e];exact e2
end
theorem Px(ns:List Int)(hl:ns.length<=63):LS [.fzl (ns.map D.int)]=some (.bl true):=by
 obtain⟨c0,e0⟩:=Fg ns 0;obtain⟨T0,es1,d0,xt,h1⟩:=Gq (es:=[.int c0]) (.inl ⟨c0,rfl⟩);rw[Q3]at xt;have g:=Li d0;generalize (T0++cc).map Th.tk=T at xt g;let S:Sl:=.im (.fzl (ns.map D.int));let A:Sl:=.im (LD T);let B:Sl:=.im GG;let N:Sl:=.im MM;let U:Sl:=.un;obtain⟨d,es2,x2,p0,p1,h2⟩:=dgx (i:=1) (b:=4) (a:=cC (.int 4)) (λes=>[S,.ls es,A,B,U,U,U,U,U,U]) (λ_=>rfl) (λ_ _=>rfl) rfl h1 (by decide) (by decide);obtain⟨n,rfl⟩:=cE p0;obtain⟨R,es3,eL,hg,h3,x3⟩:=Ae S A [U,U,U,U,U,U] (aS n) es2 h2;have lR:R.length<=5:=by rw[eL,cn];omega
 have el:=Fh g hg lR;have ek:=Fh g (R:=gR) (λr h=>h) (by decide);let E:Sl:=.ls es3;let X:Sl:=.im (RD R);let m:Int:=if (if (ns.length:Int)<40 then (ns.length:Int)else 40) > 2 then (if (ns.length:Int)<40 then (ns.length:Int)else 40)else 2
 have hm:2<=m/\m<=63:=by show 2<=(if _ then _ else _:Int)/\(if _ then _ else _:Int)<=63;split<;>split<;>omega
 obtain⟨t6,t7,t8,t9,e5⟩:=Fi g hg lR ns es3 ((aS (m - 1).toNat).map (1 + ·)) U U U U
 refine oh (ρ:=[S,E,A,B,X,N,t6,t7,t8,t9]) rfl ?_;unfold E3;refine(m9 (ρ':=[S,.ls [.int c0],U,U,U,U,U,U,U,U]) ((BA (Ny (nD (ng (ds:=[.fzl (ns.map D.int),.int 0]) (ρ1:=[S,U,U,U,U,U,U,U,U,U]) rfl e0) rfl) (fF rfl))).trans rfl)).trans ?_;refine(m9 (ρ':=[S,.ls es1,A,U,U,U,U,U,U,U]) ((oT (DQ (es0:=[.int c0]) (es:=[.int c0]) (ds:=[]) (ρ1:=[S,.ls [.int c0],U,U,U,U,U,U,U,U]) rfl rfl rfl xt)).trans rfl)).trans ?_;refine(m9 (ρ':=[S,.ls es1,A,B,U,U,U,U,U,U]) ((oT (ng (ds:=[]) (ρ1:=[S,.ls es1,A,U,U,U,U,U,U,U]) rfl Rv)).trans rfl)).trans ?_;refine(m9 (ρ':=[S,E,A,B,X,U,U,U,U,U]) ((oT (qq ((BD (LV (ρ1:=[S,.ls es2,A,B,U,U,U,U,U,U]) x2 (by omega)) (by rw[ag,cn];omega)).trans x3))).trans rfl)).trans ?_;let ρ:List Sl:=[S,E,A,B,X,U,U,U,U,U];refine(m9 (ρ':=ρ) ((qx (ρ':=ρ) (BC (ρ1:=ρ) (qp (ng (ds:=[LD T,RD R]) (ρ1:=ρ) rfl el)) (qp (ng (ds:=[LD T,GG]) (ρ1:=ρ) rfl ek)))).trans rfl)).trans ?_;refine(m9 (ρ':=[S,E,A,B,X,N,U,U,U,U]) ((oT (ng (ds:=[]) (ρ1:=ρ) rfl Rr)).trans rfl)).trans ?_;refine(m9 ((tH (ds:=((aS (m - 1).toNat).map (1 + ·)).map λk:Nat=>D.int (k:Nat)) (ρ1:=[S,E,A,B,X,N,U,U,U,U]) ?_).trans e5)).trans ?_
 ·have em2:c2 dMax2 (cC (.int 2)) (c2 dMin2 (cC (.int 40)) (c1 pX (cV 0))) [S,E,A,B,X,N,U,U,U,U]=some (.int m,[S,E,A,B,X,N,U,U,U,U]):=by refine nP (x:=.int 2) (y:=.int (if (ns.length:Int)<40 then (ns.length:Int)else 40)) rfl (nP (x:=.int 40) (y:=.int (ns.length:Nat)) rfl (oa rfl (by show some (D.int _)=_;rw[ag])) rfl) rfl
  unfold iR2;show (match c2 dMax2 (cC (.int 2)) (c2 dMin2 (cC (.int 40)) (c1 pX (cV 0))) [S,E,A,B,X,N,U,U,U,U]with
   |some (.int j,ρ2)=>if (-1000000<=(1:Int)/\(1:Int)<=1000000)/\-1000000<=j/\j<=1000000 then some (wx 1 (j - 1).toNat,ρ2)else none
   |_=>none)=_
  rw[em2];show (if (-1000000<=(1:Int)/\(1:Int)<=1000000)/\-1000000<=m/\m<=1000000 then some (wx 1 (m - 1).toNat,[S,E,A,B,X,N,U,U,U,U])else none)=_;rw[ah (by omega)];unfold wx;rw[bg];congr 2
 exact n9 (BO (ng (ds:=[LD T,RD R]) rfl el))
end K09x
namespace K09x
open PySem L2 L3 L4
open PySem.W (nsIn)
structure Fx(K:aj)(C0 C1 C2 C3 C4 C5 C6 C7 C8 C9 C10 C11 C12 C13 C14 C15 C16:Addr):Prop where
 a0:nsIn K aF "Thing" = some (some (.ref C0))
 a1:nsIn K aF "Mark" = some (some (.ref C1))
 a2:nsIn K aF "Verb" = some (some (.ref C2))
 a3:nsIn K aF "At" = some (some (.ref C3))
 a4:nsIn K aF "Has" = some (some (.ref C4))
 a5:nsIn K aF "Seen" = some (some (.ref C5))
 a6:nsIn K aF "Marked" = some (some (.ref C6))
 a7:nsIn K aF "Kind" = some (some (.ref C7))
 a8:nsIn K aF "Word" = some (some (.ref C8))
 a9:nsIn K aF "Not" = some (some (.ref C9))
 a10:nsIn K aF "Both" = some (some (.ref C10))
 a11:nsIn K aF "Move" = some (some (.ref C11))
 a12:nsIn K aF "Put" = some (some (.ref C12))
 a13:nsIn K aF "Rule" = some (some (.ref C13))
 a14:nsIn K aF "World" = some (some (.ref C14))
 a15:nsIn K aF "Lit" = some (some (.ref C15))
 k0:CF K C0 ["kind", "name", "start", "words"]
 k1:CF K C1 ["most", "name", "start"]
 k2:CF K C2 ["form", "joining", "name", "others"]
 k3:CF K C3 ["place", "term"]
 k4:CF K C4 ["term"]
 k5:CF K C5 ["term"]
 k6:CF K C6 ["term", "value"]
 k7:CF K C7 ["kind", "term"]
 k8:CF K C8 ["word"]
 k9:CF K C9 ["inner"]
 k10:CF K C10 ["one", "other"]
 k11:CF K C11 ["place", "term"]
 k12:CF K C12 ["term", "value"]
 k13:CF K C13 ["deeds", "refuses", "tests", "text", "verb"]
 k14:CF K C14 ["copied_rules", "kept_things", "kept_verbs", "mosts_by_name", "shared_rules", "shared_verbs", "things_by_name", "verbs_by_word", "your_name", "kept_dark", "kept_marks", "kept_rules", "kept_ways", "rules_by_verb"]
 k15:CF K C15 []
 ax:nsIn K aF "NoWorld" = some (some (.ref C16))
 xx:XC K C16
 i_At:pC K [C0,C1,C2,C3,C4,C5,C6,C7,C8,C9,C10,C11,C12,C13,C14,C15] C3 3=true
 i_Both:pC K [C0,C1,C2,C3,C4,C5,C6,C7,C8,C9,C10,C11,C12,C13,C14,C15] C10 10=true
 i_Has:pC K [C0,C1,C2,C3,C4,C5,C6,C7,C8,C9,C10,C11,C12,C13,C14,C15] C4 4=true
 i_Kind:pC K [C0,C1,C2,C3,C4,C5,C6,C7,C8,C9,C10,C11,C12,C13,C14,C15] C7 7=true
 i_Lit:pC K [C0,C1,C2,C3,C4,C5,C6,C7,C8,C9,C10,C11,C12,C13,C14,C15] C15 15=true
 i_Mark:pC K [C0,C1,C2,C3,C4,C5,C6,C7,C8,C9,C10,C11,C12,C13,C14,C15] C1 1=true
 i_Marked:pC K [C0,C1,C2,C3,C4,C5,C6,C7,C8,C9,C10,C11,C12,C13,C14,C15] C6 6=true
 i_Move:pC K [C0,C1,C2,C3,C4,C5,C6,C7,C8,C9,C10,C11,C12,C13,C14,C15] C11 11=true
 i_Not:pC K [C0,C1,C2,C3,C4,C5,C6,C7,C8,C9,C10,C11,C12,C13,C14,C15] C9 9=true
 i_Put:pC K [C0,C1,C2,C3,C4,C5,C6,C7,C8,C9,C10,C11,C12,C13,C14,C15] C12 12=true
 i_Rule:pC K [C0,C1,C2,C3,C4,C5,C6,C7,C8,C9,C10,C11,C12,C13,C14,C15] C13 13=true
 i_Seen:pC K [C0,C1,C2,C3,C4,C5,C6,C7,C8,C9,C10,C11,C12,C13,C14,C15] C5 5=true
 i_Thing:pC K [C0,C1,C2,C3,C4,C5,C6,C7,C8,C9,C10,C11,C12,C13,C14,C15] C0 0=true
 i_Verb:pC K [C0,C1,C2,C3,C4,C5,C6,C7,C8,C9,C10,C11,C12,C13,C14,C15] C2 2=true
 i_Word:pC K [C0,C1,C2,C3,C4,C5,C6,C7,C8,C9,C10,C11,C12,C13,C14,C15] C8 8=true
 n_Lit:bU K (.ref C15) "__init__" = some (some (.builtin "object.__init__"))
 nd:decide ([C0,C1,C2,C3,C4,C5,C6,C7,C8,C9,C10,C11,C12,C13,C14,C15]:List Addr).Nodup=true
 e:((["all", "any", "bool", "int", "isinstance", "len", "list", "max", "min", "range", "set", "str", "tuple"]:List Str).all λx=>match nsIn K aF x with|some none=>true|_=>false)=true
 g0:GS K "FORMS" ["alone", "one", "two", "way"]
 g1:GS K "KINDS" ["room", "plain", "fixed", "box", "lamp", "you"]
 g2:GS K "KINDS_APART" ["room", "you"]
 g3:GS K "KINDS_THAT_HOLD" ["room", "box", "you"]
 g4:GS K "KINDS_WITH_MARK" ["box", "lamp"]
 g5:GC K "MOST_BESIDE" 7
 g6:GC K "MOST_BY_COMMAND" 3
 g7:GC K "MOST_DEEDS" 4
 g8:GC K "MOST_DEEP" 4
 g9:GC K "MOST_IN_NAME" 8
 g10:GC K "MOST_IN_WORD" 12
 g11:GC K "MOST_MARKS" 4
 g12:GC K "MOST_OF_MARK" 3
 g13:GC K "MOST_ROOMS" 5
 g14:GC K "MOST_RULES" 20
 g15:GC K "MOST_SIGNS" 60
 g16:GC K "MOST_TESTS" 5
 g17:GC K "MOST_VERBS" 6
 g18:GC K "MOST_WAYS" 10
 g19:GC K "MOST_WORDS" 4
 g20:GS K "NO_NAMES" ["it", "other", "here", "the", "a", "undo", "restart"]
 g21:GS K "NO_WORDS" ["the", "a"]
 g22:GS K "NO_WORDS_OF_ROWS" ["the", "a", "undo", "restart"]
 q23:GD K "is_small_letters" (top 18)
 q24:GD K "is_name" (top 19)
 q25:GD K "is_word" (top 20)
 q26:GD K "is_one_of" (top 22)
 q27:GD K "is_whole" (top 23)
 q28:GD K "is_list_up_to" (top 24)
 q29:GD K "own_list" (top 96)
 q30:GJ K C0 "Thing.__init__" (inClass (top 10) 0) [V.non]
 q31:GM K C1 "__init__" "Mark.__init__" (inClass (top 11) 0)
 q32:GJ K C2 "Verb.__init__" (inClass (top 12) 0) [V.non,(V.str "one"),V.non]
 q33:GM K C3 "__init__" "At.__init__" (inClass (top 73) 0)
 q34:GM K C4 "__init__" "Has.__init__" (inClass (top 74) 0)
 q35:GM K C5 "__init__" "Seen.__init__" (inClass (top 75) 0)
 q36:GM K C6 "__init__" "Marked.__init__" (inClass (top 76) 0)
 q37:GM K C7 "__init__" "Kind.__init__" (inClass (top 77) 0)
 q38:GM K C8 "__init__" "Word.__init__" (inClass (top 78) 0)
 q39:GM K C9 "__init__" "Not.__init__" (inClass (top 80) 0)
 q40:GM K C10 "__init__" "Both.__init__" (inClass (top 81) 0)
 q41:GM K C11 "__init__" "Move.__init__" (inClass (top 87) 0)
 q42:GM K C12 "__init__" "Put.__init__" (inClass (top 88) 0)
 q43:GJ K C13 "Rule.__init__" (inClass (top 95) 0) [(V.bl false)]
 q44:GM K C0 "can_hold" "Thing.can_hold" (inClass (top 10) 1)
 q45:GM K C0 "has_mark" "Thing.has_mark" (inClass (top 10) 2)
 q46:GM K C0 "is_plainly" "Thing.is_plainly" (inClass (top 10) 3)
 q47:GD K "refuse_unless" (top 34)
 q48:GD K "count_of" (top 37)
 q49:GD K "plain_ones" (top 38)
 q50:GD K "is_mark" (top 40)
 q51:GD K "check_things" (top 36)
 q52:GD K "check_marks" (top 39)
 q53:GD K "are_unlike" (top 42)
 q54:GD K "check_names" (top 41)
 q55:GD K "mark_names" (top 43)
 q56:GD K "is_start" (top 45)
 q57:GD K "comes_to_room" (top 46)
 q58:GD K "check_starts" (top 44)
 q59:GD K "are_words" (top 48)
 q60:GD K "has_all" (top 50)
 q61:GD K "is_told_apart" (top 49)
 q62:GD K "check_words_of_things" (top 47)
 q63:GD K "check_dark" (top 51)
 q64:GD K "is_way" (top 53)
 q65:GD K "check_ways" (top 52)
 q66:GD K "is_verb" (top 55)
 q67:GD K "check_verbs" (top 54)
 q68:GD K "are_apart" (top 57)
 q69:GD K "check_vocabulary" (top 56)
 q70:GD K "check_parts" (top 35)
 q71:GD K "does" (top 119)
 q72:GD K "refuses" (top 120)
 q73:GD K "hand_rules" (top 121)
 q74:GD K "put_rules" (top 122)
 q75:GD K "lid_rules" (top 123)
 q76:GD K "flame_rules" (top 124)
 q77:GD K "way_tests" (top 126)
 q78:GD K "go_rules" (top 125)
 q79:GD K "wait_rules" (top 127)
 q80:GD K "common_rules" (top 118)
 q81:GD K "common_verbs" (top 117)
 q82:GD K "by_name" (top 131)
 q83:GD K "mosts_by_name" (top 132)
 q84:GD K "verbs_by_word" (top 133)
 q85:GD K "by_verb" (top 134)
 q86:GM K C14 "of_kind" "World.of_kind" (inClass (top 130) 3)
 q87:GM K C14 "all_verbs" "World.all_verbs" (inClass (top 130) 13)
 q88:GD K "is_same_text" (top 21)
 q89:GD K "copy_of" (top 97)
 q90:GM K C14 "thing_of" "World.thing_of" (inClass (top 130) 2)
 q91:GM K C14 "most_of" "World.most_of" (inClass (top 130) 6)
 q92:GM K C14 "verb_of" "World.verb_of" (inClass (top 130) 14)
 q93:GM K C14 "you" "World.you" (inClass (top 130) 4)
 q94:GD K "is_by_command" (top 108)
 q95:GD K "is_here" (top 109)
 q96:GD K "named" (top 110)
 q97:GD K "is_of_kind" (top 111)
 q98:GD K "is_term" (top 112)
 q99:GD K "is_place" (top 113)
 q100:GD K "is_moved" (top 114)
 q101:GD K "is_mark_value" (top 115)
 q102:GD K "is_move" (top 107)
 q103:GD K "is_said" (top 100)
 q104:GD K "is_verb_name" (top 99)
 q105:GD K "does_or_refuses" (top 101)
 q106:GD K "is_plain_test" (top 105)
 q107:GD K "is_test" (top 104)
 q108:GD K "is_deed" (top 106)
 q109:GD K "are_tests" (top 102)
 q110:GD K "are_deeds" (top 103)
 q111:GD K "is_rule" (top 98)
 q112:GM K C14 "__init__" "World.__init__" (inClass (top 130) 0)
 q113:GD K "_law_cell_at" (top 136)
 q114:GD K "_law_digit" (top 137)
 q115:GD K "_law_things" (top 138)
 q116:GD K "_law_tests" (top 139)
 q117:GD K "_law_deeds" (top 140)
 q118:GD K "_law_menu" (top 141)
 q119:GD K "_law_good" (top 142)
 q120:GD K "_law_refused" (top 143)
 q121:GD K "law" (top 144)
class Yx(B:Bz):Prop where
 y:Yw B.P B.w B.mg B.base B.G
 f:Fx B.G.K (B.G.ca 0) (B.G.ca 1) (B.G.ca 2) (B.G.ca 3) (B.G.ca 4) (B.G.ca 5) (B.G.ca 6) (B.G.ca 7) (B.G.ca 8) (B.G.ca 9) (B.G.ca 10) (B.G.ca 11) (B.G.ca 12) (B.G.ca 13) (B.G.ca 14) (B.G.ca 15) (B.G.ca 16)
section
variable{B:Bz}[Y:Yx B]
instance:Yb B:=⟨Y.y⟩
instance:Nb B "all" := ⟨Y.y.n Y.f.e 0 rfl⟩
instance:Nb B "any" := ⟨Y.y.n Y.f.e 1 rfl⟩
instance:Nb B "bool" := ⟨Y.y.n Y.f.e 2 rfl⟩
instance:Nb B "int" := ⟨Y.y.n Y.f.e 3 rfl⟩
instance:Nb B "isinstance" := ⟨Y.y.n Y.f.e 4 rfl⟩
instance:Nb B "len" := ⟨Y.y.n Y.f.e 5 rfl⟩
instance:Nb B "list" := ⟨Y.y.n Y.f.e 6 rfl⟩
instance:Nb B "max" := ⟨Y.y.n Y.f.e 7 rfl⟩
instance:Nb B "min" := ⟨Y.y.n Y.f.e 8 rfl⟩
instance:Nb B "range" := ⟨Y.y.n Y.f.e 9 rfl⟩
instance:Nb B "set" := ⟨Y.y.n Y.f.e 10 rfl⟩
instance:Nb B "str" := ⟨Y.y.n Y.f.e 11 rfl⟩
instance:Nb B "tuple" := ⟨Y.y.n Y.f.e 12 rfl⟩
instance:Co B "FORMS" E1:=⟨Y.y.cs Y.f.g0⟩
instance:Co B "KINDS" r6:=⟨Y.y.cs Y.f.g1⟩
instance:Co B "KINDS_APART" vZ:=⟨Y.y.cs Y.f.g2⟩
instance:Co B "KINDS_THAT_HOLD" sU:=⟨Y.y.cs Y.f.g3⟩
instance:Co B "KINDS_WITH_MARK" sV:=⟨Y.y.cs Y.f.g4⟩
instance:Co B "MOST_BESIDE" tI:=⟨Y.y.ci Y.f.g5⟩
instance:Co B "MOST_BY_COMMAND" sW:=⟨Y.y.ci Y.f.g6⟩
instance:Co B "MOST_DEEDS" xh:=⟨Y.y.ci Y.f.g7⟩
instance:Co B "MOST_DEEP" yp:=⟨Y.y.ci Y.f.g8⟩
instance:Co B "MOST_IN_NAME" vg:=⟨Y.y.ci Y.f.g9⟩
instance:Co B "MOST_IN_WORD" vh:=⟨Y.y.ci Y.f.g10⟩
instance:Co B "MOST_MARKS" xa:=⟨Y.y.ci Y.f.g11⟩
instance:Co B "MOST_OF_MARK" vm:=⟨Y.y.ci Y.f.g12⟩
instance:Co B "MOST_ROOMS" ux:=⟨Y.y.ci Y.f.g13⟩
instance:Co B "MOST_RULES" xj:=⟨Y.y.ci Y.f.g14⟩
instance:Co B "MOST_SIGNS" xi:=⟨Y.y.ci Y.f.g15⟩
instance:Co B "MOST_TESTS" xg:=⟨Y.y.ci Y.f.g16⟩
instance:Co B "MOST_VERBS" xc:=⟨Y.y.ci Y.f.g17⟩
instance:Co B "MOST_WAYS" vn:=⟨Y.y.ci Y.f.g18⟩
instance:Co B "MOST_WORDS" xf:=⟨Y.y.ci Y.f.g19⟩
instance:Co B "NO_NAMES" zP:=⟨Y.y.cs Y.f.g20⟩
instance:Co B "NO_WORDS" zQ:=⟨Y.y.cs Y.f.g21⟩
instance:Co B "NO_WORDS_OF_ROWS" pQ:=⟨Y.y.cs Y.f.g22⟩
instance:Ff B rD "copied_rules" := ⟨qM (Y.f.k14.at 0 rfl)⟩
instance:Ff B vM "deeds" := ⟨qM (Y.f.k13.at 0 rfl)⟩
instance:Ff B vc "form" := ⟨qM (Y.f.k2.at 0 rfl)⟩
instance:Ff B AN "inner" := ⟨qM (Y.f.k9.at 0 rfl)⟩
instance:Ff B pD "joining" := ⟨qM (Y.f.k2.at 1 rfl)⟩
instance:Ff B uG "kept_things" := ⟨qM (Y.f.k14.at 1 rfl)⟩
instance:Ff B vd "kept_verbs" := ⟨qM (Y.f.k14.at 2 rfl)⟩
instance:Ff B oH "kind" := ⟨orQ (qM (Y.f.k0.at 0 rfl)) (Y.f.k7.at 0 rfl)⟩
instance:Ff B tW "most" := ⟨qM (Y.f.k1.at 0 rfl)⟩
instance:Ff B sR "mosts_by_name" := ⟨qM (Y.f.k14.at 3 rfl)⟩
instance:Ff B nN "name" := ⟨orQ (orQ (qM (Y.f.k0.at 1 rfl)) (Y.f.k1.at 1 rfl)) (Y.f.k2.at 2 rfl)⟩
instance:Ff B EW "one" := ⟨qM (Y.f.k10.at 0 rfl)⟩
instance:Ff B AO "other" := ⟨qM (Y.f.k10.at 1 rfl)⟩
instance:Ff B p8 "others" := ⟨qM (Y.f.k2.at 3 rfl)⟩
instance:Ff B tX "place" := ⟨orQ (qM (Y.f.k3.at 0 rfl)) (Y.f.k11.at 0 rfl)⟩
instance:Ff B sS "refuses" := ⟨qM (Y.f.k13.at 1 rfl)⟩
instance:Ff B rE "shared_rules" := ⟨qM (Y.f.k14.at 4 rfl)⟩
instance:Ff B tY "shared_verbs" := ⟨qM (Y.f.k14.at 5 rfl)⟩
instance:Ff B qg "start" := ⟨orQ (qM (Y.f.k0.at 2 rfl)) (Y.f.k1.at 2 rfl)⟩
instance:Ff B qU "term" := ⟨orQ (orQ (orQ (orQ (orQ (orQ (qM (Y.f.k3.at 1 rfl)) (Y.f.k4.at 0 rfl)) (Y.f.k5.at 0 rfl)) (Y.f.k6.at 0 rfl)) (Y.f.k7.at 1 rfl)) (Y.f.k11.at 1 rfl)) (Y.f.k12.at 0 rfl)⟩
instance:Ff B xW "tests" := ⟨qM (Y.f.k13.at 2 rfl)⟩
instance:Ff B ve "text" := ⟨qM (Y.f.k13.at 3 rfl)⟩
instance:Ff B sD "things_by_name" := ⟨qM (Y.f.k14.at 6 rfl)⟩
instance:Ff B xX "value" := ⟨orQ (qM (Y.f.k6.at 1 rfl)) (Y.f.k12.at 1 rfl)⟩
instance:Ff B p9 "verb" := ⟨qM (Y.f.k13.at 4 rfl)⟩
instance:Ff B sT "verbs_by_word" := ⟨qM (Y.f.k14.at 7 rfl)⟩
instance:Ff B CZ "word" := ⟨qM (Y.f.k8.at 0 rfl)⟩
instance:Ff B pf "words" := ⟨qM (Y.f.k0.at 3 rfl)⟩
instance:Ff B rJ "your_name" := ⟨qM (Y.f.k14.at 8 rfl)⟩
instance:Af B 0 ["kind", "name", "start", "words"]:=⟨Y.f.k0⟩
instance:Af B 1 ["most", "name", "start"]:=⟨Y.f.k1⟩
instance:Af B 2 ["form", "joining", "name", "others"]:=⟨Y.f.k2⟩
instance:Af B 3 ["place", "term"]:=⟨Y.f.k3⟩
instance:Af B 4 ["term"]:=⟨Y.f.k4⟩
instance:Af B 5 ["term"]:=⟨Y.f.k5⟩
instance:Af B 6 ["term", "value"]:=⟨Y.f.k6⟩
instance:Af B 7 ["kind", "term"]:=⟨Y.f.k7⟩
instance:Af B 8 ["word"]:=⟨Y.f.k8⟩
instance:Af B 9 ["inner"]:=⟨Y.f.k9⟩
instance:Af B 10 ["one", "other"]:=⟨Y.f.k10⟩
instance:Af B 11 ["place", "term"]:=⟨Y.f.k11⟩
instance:Af B 12 ["term", "value"]:=⟨Y.f.k12⟩
instance:Af B 13 ["deeds", "refuses", "tests", "text", "verb"]:=⟨Y.f.k13⟩
instance:Af B 14 ["copied_rules", "kept_things", "kept_verbs", "mosts_by_name", "shared_rules", "shared_verbs", "things_by_name", "verbs_by_word", "your_name", "kept_dark", "kept_marks", "kept_rules", "kept_ways", "rules_by_verb"]:=⟨Y.f.k14⟩
instance:Ic B "At" Pf:=⟨3,oN Y.f.i_At rfl (va 16 _) (uw.at ⟨Y.f.k0.ci,Y.f.k1.ci,Y.f.k2.ci,Y.f.k3.ci,Y.f.k4.ci,Y.f.k5.ci,Y.f.k6.ci,Y.f.k7.ci,Y.f.k8.ci,Y.f.k9.ci,Y.f.k10.ci,Y.f.k11.ci,Y.f.k12.ci,Y.f.k13.ci,Y.f.k14.ci,Y.f.k15.ci,trivial⟩),Y.y.g Y.f.a3⟩
instance:Ic B "Both" BK:=⟨10,oN Y.f.i_Both rfl (va 16 _) (uw.at ⟨Y.f.k0.ci,Y.f.k1.ci,Y.f.k2.ci,Y.f.k3.ci,Y.f.k4.ci,Y.f.k5.ci,Y.f.k6.ci,Y.f.k7.ci,Y.f.k8.ci,Y.f.k9.ci,Y.f.k10.ci,Y.f.k11.ci,Y.f.k12.ci,Y.f.k13.ci,Y.f.k14.ci,Y.f.k15.ci,trivial⟩),Y.y.g Y.f.a10⟩
instance:Ic B "Has" IR:=⟨4,oN Y.f.i_Has rfl (va 16 _) (uw.at ⟨Y.f.k0.ci,Y.f.k1.ci,Y.f.k2.ci,Y.f.k3.ci,Y.f.k4.ci,Y.f.k5.ci,Y.f.k6.ci,Y.f.k7.ci,Y.f.k8.ci,Y.f.k9.ci,Y.f.k10.ci,Y.f.k11.ci,Y.f.k12.ci,Y.f.k13.ci,Y.f.k14.ci,Y.f.k15.ci,trivial⟩),Y.y.g Y.f.a4⟩
instance:Ic B "Kind" D4:=⟨7,oN Y.f.i_Kind rfl (va 16 _) (uw.at ⟨Y.f.k0.ci,Y.f.k1.ci,Y.f.k2.ci,Y.f.k3.ci,Y.f.k4.ci,Y.f.k5.ci,Y.f.k6.ci,Y.f.k7.ci,Y.f.k8.ci,Y.f.k9.ci,Y.f.k10.ci,Y.f.k11.ci,Y.f.k12.ci,Y.f.k13.ci,Y.f.k14.ci,Y.f.k15.ci,trivial⟩),Y.y.g Y.f.a7⟩
instance:Ic B "Lit" EX:=⟨15,oN Y.f.i_Lit rfl (va 16 _) (uw.at ⟨Y.f.k0.ci,Y.f.k1.ci,Y.f.k2.ci,Y.f.k3.ci,Y.f.k4.ci,Y.f.k5.ci,Y.f.k6.ci,Y.f.k7.ci,Y.f.k8.ci,Y.f.k9.ci,Y.f.k10.ci,Y.f.k11.ci,Y.f.k12.ci,Y.f.k13.ci,Y.f.k14.ci,Y.f.k15.ci,trivial⟩),Y.y.g Y.f.a15⟩
instance:Ic B "Mark" IS:=⟨1,oN Y.f.i_Mark rfl (va 16 _) (uw.at ⟨Y.f.k0.ci,Y.f.k1.ci,Y.f.k2.ci,Y.f.k3.ci,Y.f.k4.ci,Y.f.k5.ci,Y.f.k6.ci,Y.f.k7.ci,Y.f.k8.ci,Y.f.k9.ci,Y.f.k10.ci,Y.f.k11.ci,Y.f.k12.ci,Y.f.k13.ci,Y.f.k14.ci,Y.f.k15.ci,trivial⟩),Y.y.g Y.f.a1⟩
instance:Ic B "Marked" zO:=⟨6,oN Y.f.i_Marked rfl (va 16 _) (uw.at ⟨Y.f.k0.ci,Y.f.k1.ci,Y.f.k2.ci,Y.f.k3.ci,Y.f.k4.ci,Y.f.k5.ci,Y.f.k6.ci,Y.f.k7.ci,Y.f.k8.ci,Y.f.k9.ci,Y.f.k10.ci,Y.f.k11.ci,Y.f.k12.ci,Y.f.k13.ci,Y.f.k14.ci,Y.f.k15.ci,trivial⟩),Y.y.g Y.f.a6⟩
instance:Ic B "Move" BL:=⟨11,oN Y.f.i_Move rfl (va 16 _) (uw.at ⟨Y.f.k0.ci,Y.f.k1.ci,Y.f.k2.ci,Y.f.k3.ci,Y.f.k4.ci,Y.f.k5.ci,Y.f.k6.ci,Y.f.k7.ci,Y.f.k8.ci,Y.f.k9.ci,Y.f.k10.ci,Y.f.k11.ci,Y.f.k12.ci,Y.f.k13.ci,Y.f.k14.ci,Y.f.k15.ci,trivial⟩),Y.y.g Y.f.a11⟩
instance:Ic B "Not" EY:=⟨9,oN Y.f.i_Not rfl (va 16 _) (uw.at ⟨Y.f.k0.ci,Y.f.k1.ci,Y.f.k2.ci,Y.f.k3.ci,Y.f.k4.ci,Y.f.k5.ci,Y.f.k6.ci,Y.f.k7.ci,Y.f.k8.ci,Y.f.k9.ci,Y.f.k10.ci,Y.f.k11.ci,Y.f.k12.ci,Y.f.k13.ci,Y.f.k14.ci,Y.f.k15.ci,trivial⟩),Y.y.g Y.f.a9⟩
instance:Ic B "Put" EZ:=⟨12,oN Y.f.i_Put rfl (va 16 _) (uw.at ⟨Y.f.k0.ci,Y.f.k1.ci,Y.f.k2.ci,Y.f.k3.ci,Y.f.k4.ci,Y.f.k5.ci,Y.f.k6.ci,Y.f.k7.ci,Y.f.k8.ci,Y.f.k9.ci,Y.f.k10.ci,Y.f.k11.ci,Y.f.k12.ci,Y.f.k13.ci,Y.f.k14.ci,Y.f.k15.ci,trivial⟩),Y.y.g Y.f.a12⟩
instance:Ic B "Rule" D5:=⟨13,oN Y.f.i_Rule rfl (va 16 _) (uw.at ⟨Y.f.k0.ci,Y.f.k1.ci,Y.f.k2.ci,Y.f.k3.ci,Y.f.k4.ci,Y.f.k5.ci,Y.f.k6.ci,Y.f.k7.ci,Y.f.k8.ci,Y.f.k9.ci,Y.f.k10.ci,Y.f.k11.ci,Y.f.k12.ci,Y.f.k13.ci,Y.f.k14.ci,Y.f.k15.ci,trivial⟩),Y.y.g Y.f.a13⟩
instance:Ic B "Seen" D6:=⟨5,oN Y.f.i_Seen rfl (va 16 _) (uw.at ⟨Y.f.k0.ci,Y.f.k1.ci,Y.f.k2.ci,Y.f.k3.ci,Y.f.k4.ci,Y.f.k5.ci,Y.f.k6.ci,Y.f.k7.ci,Y.f.k8.ci,Y.f.k9.ci,Y.f.k10.ci,Y.f.k11.ci,Y.f.k12.ci,Y.f.k13.ci,Y.f.k14.ci,Y.f.k15.ci,trivial⟩),Y.y.g Y.f.a5⟩
instance:Ic B "Thing" BM:=⟨0,oN Y.f.i_Thing rfl (va 16 _) (uw.at ⟨Y.f.k0.ci,Y.f.k1.ci,Y.f.k2.ci,Y.f.k3.ci,Y.f.k4.ci,Y.f.k5.ci,Y.f.k6.ci,Y.f.k7.ci,Y.f.k8.ci,Y.f.k9.ci,Y.f.k10.ci,Y.f.k11.ci,Y.f.k12.ci,Y.f.k13.ci,Y.f.k14.ci,Y.f.k15.ci,trivial⟩),Y.y.g Y.f.a0⟩
instance:Ic B "Verb" IT:=⟨2,oN Y.f.i_Verb rfl (va 16 _) (uw.at ⟨Y.f.k0.ci,Y.f.k1.ci,Y.f.k2.ci,Y.f.k3.ci,Y.f.k4.ci,Y.f.k5.ci,Y.f.k6.ci,Y.f.k7.ci,Y.f.k8.ci,Y.f.k9.ci,Y.f.k10.ci,Y.f.k11.ci,Y.f.k12.ci,Y.f.k13.ci,Y.f.k14.ci,Y.f.k15.ci,trivial⟩),Y.y.g Y.f.a2⟩
instance:Ic B "Word" D7:=⟨8,oN Y.f.i_Word rfl (va 16 _) (uw.at ⟨Y.f.k0.ci,Y.f.k1.ci,Y.f.k2.ci,Y.f.k3.ci,Y.f.k4.ci,Y.f.k5.ci,Y.f.k6.ci,Y.f.k7.ci,Y.f.k8.ci,Y.f.k9.ci,Y.f.k10.ci,Y.f.k11.ci,Y.f.k12.ci,Y.f.k13.ci,Y.f.k14.ci,Y.f.k15.ci,trivial⟩),Y.y.g Y.f.a8⟩
instance:Xn B "NoWorld" 16:=⟨Y.f.xx,Y.y.g Y.f.ax⟩
instance:K0f B "Lit" 15:=⟨⟨Y.f.k15.mks,Y.f.n_Lit,Y.f.k15.kp⟩,Y.y.g Y.f.a15⟩
instance:Ij B 16:=⟨RT Y.f.nd⟩
local macro_rules|`(tactic|trivial)=>do let x:=("zr_xC zr_xI zr_xR zr_xU zr_yI zr_y1 zr_y0 zr_tI zr_df0 QX QK QJ QL QM CT QQ N8 OF QN N6 OL OE NS NT OG OJ OB Ob Ow Oe OM NZ N0 N1 N2 NW OK QR ON NX Oa OP OR OH O1 N9 N7 N5 NR zr_i2I Oh Oi QO OT N4 N3 QS QT On NU NV Oo NY OZ O0 OQ OS OU QP Oc Od OV OW Oq Of Ov OX OY La K9 Lb Ox Oy Oz Og zr_r2I Oj zr_xeI Ol Pe Om Ou Ot Os K8 OO Pb zr_mxI zr_mnI Pa zr_xsI O2 O3 O4 K7".splitOn " ").toArray.map fun s=>Lean.mkIdent (.mkSimple s);`(tactic|repeat' first|(with_reducible apply eqI);(first|rfl|kernel_rfl)|((with_reducible first|apply OC|apply OD);rotate_left 7;rfl)|(with_reducible first $[|apply $x]*)|(with_reducible intro _)|exact ka)
instance:Df B 1 "is_small_letters" (spF B.G qE):=gF4 rfl Y.f.q23 rfl (by unfold sE;trivial)
instance:Df B 2 "is_name" (spF B.G ox):=gF4 rfl Y.f.q24 rfl (by unfold AQ;trivial)
instance:Df B 2 "is_word" (spF B.G qh):=gF4 rfl Y.f.q25 rfl (by unfold AR;trivial)
instance:Df B 1 "is_one_of" (spF B.G n8):=gF4 rfl Y.f.q26 rfl (by unfold yq;trivial)
instance:Df B 1 "is_whole" (spF B.G qF):=gF4 rfl Y.f.q27 rfl (by unfold zR;trivial)
instance:Df B 1 "is_list_up_to" (spF B.G oo):=gF4 rfl Y.f.q28 rfl (by unfold uH;trivial)
instance:Df B 1 "own_list" (spF B.G wz):=gF4 rfl Y.f.q29 rfl (by unfold zS;trivial)
theorem we:Bdz B (nmO (inClass (top 10) 0)) "Thing.__init__" (inClass (top 10) 0) (nV (inClass (top 10) 0)) 0 uy:=by
 unfold uy;refine CT ?_ ?_
 all_goals trivial
instance:Kf B 1 "Thing" 0 pE [D.non]:=gJ4 (dds:=[D.non]) Y.f.k0 Y.f.a0 rfl Y.f.q30 rfl rfl we 0
instance:Kf B 1 "Thing" 0 pE []:=gJ4 (dds:=[D.non]) Y.f.k0 Y.f.a0 rfl Y.f.q30 rfl rfl we 1
instance:Kf B 1 "Mark" 1 vo []:=gI4 Y.f.k1 Y.f.a1 rfl Y.f.q31 rfl rfl (by unfold yt;trivial)
theorem se:Bdz B (nmO (inClass (top 12) 0)) "Verb.__init__" (inClass (top 12) 0) (nV (inClass (top 12) 0)) 0 vp:=by
 unfold vp;refine CT ?_ ?_
 all_goals trivial
instance:Kf B 1 "Verb" 2 o3 [D.non,(D.str "one"),D.non]:=gJ4 (dds:=[D.non,(D.str "one"),D.non]) Y.f.k2 Y.f.a2 rfl Y.f.q32 rfl rfl se 0
instance:Kf B 1 "Verb" 2 o3 [(D.str "one"),D.non]:=gJ4 (dds:=[D.non,(D.str "one"),D.non]) Y.f.k2 Y.f.a2 rfl Y.f.q32 rfl rfl se 1
instance:Kf B 1 "Verb" 2 o3 [D.non]:=gJ4 (dds:=[D.non,(D.str "one"),D.non]) Y.f.k2 Y.f.a2 rfl Y.f.q32 rfl rfl se 2
instance:Kf B 1 "Verb" 2 o3 []:=gJ4 (dds:=[D.non,(D.str "one"),D.non]) Y.f.k2 Y.f.a2 rfl Y.f.q32 rfl rfl se 3
instance:Kf B 1 "At" 3 pL []:=gI4 Y.f.k3 Y.f.a3 rfl Y.f.q33 rfl rfl (by unfold AS;trivial)
instance:Kf B 1 "Has" 4 qa []:=gI4 Y.f.k4 Y.f.a4 rfl Y.f.q34 rfl rfl (by unfold zT;trivial)
instance:Kf B 1 "Seen" 5 sX []:=gI4 Y.f.k5 Y.f.a5 rfl Y.f.q35 rfl rfl (by unfold yu;trivial)
instance:Kf B 1 "Marked" 6 nQ []:=gI4 Y.f.k6 Y.f.a6 rfl Y.f.q36 rfl rfl (by unfold v3;trivial)
instance:Kf B 1 "Kind" 7 oU []:=gI4 Y.f.k7 Y.f.a7 rfl Y.f.q37 rfl rfl (by unfold yw;trivial)
instance:Kf B 1 "Word" 8 rO []:=gI4 Y.f.k8 Y.f.a8 rfl Y.f.q38 rfl rfl (by unfold yx;trivial)
instance:Kf B 1 "Not" 9 nR []:=gI4 Y.f.k9 Y.f.a9 rfl Y.f.q39 rfl rfl (by unfold zU;trivial)
instance:Kf B 1 "Both" 10 qH []:=gI4 Y.f.k10 Y.f.a10 rfl Y.f.q40 rfl rfl (by unfold yy;trivial)
instance:Kf B 1 "Move" 11 nW []:=gI4 Y.f.k11 Y.f.a11 rfl Y.f.q41 rfl rfl (by unfold yz;trivial)
instance:Kf B 1 "Put" 12 om []:=gI4 Y.f.k12 Y.f.a12 rfl Y.f.q42 rfl rfl (by unfold zV;trivial)
theorem xH:Bdz B (nmO (inClass (top 95) 0)) "Rule.__init__" (inClass (top 95) 0) (nV (inClass (top 95) 0)) 1 vq:=by
 unfold vq;refine CT ?_ ?_
 all_goals trivial
instance:Kf B 2 "Rule" 13 og [(D.bl false)]:=gJ4 (dds:=[(D.bl false)]) Y.f.k13 Y.f.a13 rfl Y.f.q43 rfl rfl xH 0
instance:Kf B 2 "Rule" 13 og []:=gJ4 (dds:=[(D.bl false)]) Y.f.k13 Y.f.a13 rfl Y.f.q43 rfl rfl xH 1
instance:Mf B 9 "can_hold" o7:=⟨λc h e=>by
 unfold o7 at e;split at e
 ·cases e;exact hF4 (k:=8) Y.f.k0 rfl Y.f.q44 rfl (by unfold tZ;trivial)
 ·cases e⟩
instance:Mf B 9 "has_mark" pM:=⟨λc h e=>by
 unfold pM at e;split at e
 ·cases e;exact hF4 (k:=8) Y.f.k0 rfl Y.f.q45 rfl (by unfold ua;trivial)
 ·cases e⟩
instance:Mf B 9 "is_plainly" rG:=⟨λc h e=>by
 unfold rG at e;split at e
 ·cases e;exact hF4 (k:=8) Y.f.k0 rfl Y.f.q46 rfl (by unfold sF;trivial)
 ·cases e⟩
instance:Dx B 1 "refuse_unless" 16 m8:=gX4 rfl Y.f.q47 rfl (by unfold uI;trivial)
instance:Df B 1 "count_of" (spF B.G rH):=gF4 rfl Y.f.q48 rfl (by unfold zW;trivial)
instance:Df B 10 "plain_ones" (spN B.G pR):=gN4 rfl Y.f.q49 rfl (by unfold xk;trivial)
instance:Df B 2 "is_mark" (spF B.G AV):=gF4 rfl Y.f.q50 rfl (by unfold AU;trivial)
instance:Dx B 11 "check_things" 16 qV:=gX4 rfl Y.f.q51 rfl (by unfold vt;trivial)
instance:Dx B 3 "check_marks" 16 tJ:=gX4 rfl Y.f.q52 rfl (by unfold v7;trivial)
instance:Df B 1 "are_unlike" (spF B.G oB):=gF4 rfl Y.f.q53 rfl (by unfold xl;trivial)
instance:Dx B 3 "check_names" 16 pV:=gX4 rfl Y.f.q54 rfl (by unfold qu;trivial)
instance:Df B 10 "mark_names" (spN B.G qW):=gN4 rfl Y.f.q55 rfl (by unfold xm;trivial)
instance:Df B 10 "is_start" (spF B.G wC):=gF4 rfl Y.f.q56 rfl (by unfold wB;trivial)
instance:Df B 1 "comes_to_room" (spF B.G oJ):=gF4 rfl Y.f.q57 rfl (by unfold uJ;trivial)
instance:Dx B 11 "check_starts" 16 qb:=gX5 ["things", "starts", "thing"] rfl Y.f.q58 rfl (by unfold qX;trivial)
instance:Df B 3 "are_words" (spF B.G qI):=gF4 rfl Y.f.q59 rfl (by unfold yA;trivial)
instance:Df B 1 "has_all" (spF B.G qJ):=gF4 rfl Y.f.q60 rfl (by unfold AW;trivial)
instance:Df B 2 "is_told_apart" (spF B.G pU):=gF4 rfl Y.f.q61 rfl (by unfold rR;trivial)
instance:Dx B 11 "check_words_of_things" 16 oj:=gX4 rfl Y.f.q62 rfl (by unfold oF;trivial)
instance:Dx B 2 "check_dark" 16 uz:=gX4 rfl Y.f.q63 rfl (by unfold xn;trivial)
instance:Df B 3 "is_way" (spF B.G xp):=gF4 rfl Y.f.q64 rfl (by unfold zX;trivial)
instance:Dx B 4 "check_ways" 16 qY:=gX4 rfl Y.f.q65 rfl (by unfold r9;trivial)
instance:Df B 3 "is_verb" (spF B.G AY):=gF4 rfl Y.f.q66 rfl (by unfold AX;trivial)
instance:Dx B 4 "check_verbs" 16 tK:=gX4 rfl Y.f.q67 rfl (by unfold v8;trivial)
instance:Df B 1 "are_apart" (spF B.G oV):=gF4 rfl Y.f.q68 rfl (by unfold yB;trivial)
instance:Dx B 11 "check_vocabulary" 16 o8:=gX4 rfl Y.f.q69 rfl (by unfold pS;trivial)
instance:Dx B 12 "check_parts" 16 rK:=gX4 rfl Y.f.q70 rfl (by unfold tL;trivial)
instance:Df B 4 "does" (spF B.G tN):=gF4 rfl Y.f.q71 rfl (by unfold IU;trivial)
instance:Df B 4 "refuses" (spF B.G oI):=gF4 rfl Y.f.q72 rfl (by unfold AZ;trivial)
instance:Df B 5 "hand_rules" (spN B.G xu):=gN4 rfl Y.f.q73 rfl (by unfold xq;trivial)
instance:Df B 5 "put_rules" (spN B.G yD):=gN4 rfl Y.f.q74 rfl (by unfold yC;trivial)
instance:Df B 5 "lid_rules" (spN B.G yF):=gN4 rfl Y.f.q75 rfl (by unfold yE;trivial)
instance:Df B 5 "flame_rules" (spN B.G wb):=gN4 rfl Y.f.q76 rfl (by unfold wa;trivial)
instance:Df B 3 "way_tests" (spN B.G yH):=gN4 rfl Y.f.q77 rfl (by unfold yG;trivial)
instance:Df B 5 "go_rules" (spN B.G zZ):=gN4 rfl Y.f.q78 rfl (by unfold zY;trivial)
instance:Df B 5 "wait_rules" (spN B.G xy):=gN4 rfl Y.f.q79 rfl (by unfold xw;trivial)
instance:Df B 6 "common_rules" (spN B.G qZ):=gN4 rfl Y.f.q80 rfl (by unfold vv;trivial)
instance:Df B 3 "common_verbs" (spN B.G q8):=gN4 rfl Y.f.q81 rfl (by unfold vw;trivial)
instance:Df B 1 "by_name" (spF B.G xZ):=gF4 rfl Y.f.q82 rfl (by unfold xY;trivial)
instance:Df B 10 "mosts_by_name" (spF B.G rT):=gF4 rfl Y.f.q83 rfl (by unfold rS;trivial)
instance:Df B 1 "verbs_by_word" (spF B.G rV):=gF4 rfl Y.f.q84 rfl (by unfold uK;trivial)
instance:Df B 1 "by_verb" (spF B.G x6):=gF4 rfl Y.f.q85 rfl (by unfold A0;refine⟨Gd (stW (by kernel_rfl) B8 rfl) (GL ka rfl (Cr (Ce B.G.K (DI (pvI (by kernel_rfl))))) (pgI (by kernel_rfl)) (yY (Bd (Hf B.G.K fL gB jI xK (Iq (pvI (by kernel_rfl)) (Hy (DI (pvI (by kernel_rfl))) (Ff.p (B:=B))) (GW tu) ⟨rfl,rfl,rfl,rfl⟩) (pW (pvI (by kernel_rfl)) tu))))) (Do (PE.ghost (pvI (by kernel_rfl))))⟩)
instance:Mf B 9 "of_kind" tO:=⟨λc h e=>by
 unfold tO at e;split at e
 ·cases e;exact hF4 (k:=8) Y.f.k14 rfl Y.f.q86 rfl (by unfold uL;trivial)
 ·cases e⟩
instance:Mf B 9 "all_verbs" rX:=⟨λc h e=>by
 unfold rX at e;split at e
 ·cases e;exact hF4 (k:=8) Y.f.k14 rfl Y.f.q87 rfl (by unfold sY;trivial)
 ·cases e⟩
instance:Df B 1 "is_same_text" (spF B.G q9):=gF4 rfl Y.f.q88 rfl (by unfold vx;trivial)
instance:Df B 4 "copy_of" (spF B.G vN):=gF4 rfl Y.f.q89 rfl (by unfold A1;trivial)
instance:Mf B 9 "thing_of" sH:=⟨λc h e=>by
 unfold sH at e;split at e
 ·cases e;exact hF4 (k:=8) Y.f.k14 rfl Y.f.q90 rfl (by unfold uc;trivial)
 ·cases e⟩
instance:Mf B 9 "most_of" qv:=⟨λc h e=>by
 unfold qv at e;split at e
 ·cases e;exact hF4 (k:=8) Y.f.k14 rfl Y.f.q91 rfl (by unfold uM;trivial)
 ·cases e⟩
instance:Mf B 9 "verb_of" qw:=⟨λc h e=>by
 unfold qw at e;split at e
 ·cases e;exact hF4 (k:=8) Y.f.k14 rfl Y.f.q92 rfl (by unfold uN;trivial)
 ·cases e⟩
instance:Mf B 9 "you" x8:=⟨λc h e=>by
 unfold x8 at e;split at e
 ·cases e;exact hF4 (k:=8) Y.f.k14 rfl Y.f.q93 rfl (by unfold yI;trivial)
 ·cases e⟩
instance:Df B 2 "is_by_command" (spF B.G nU):=gF4 rfl Y.f.q94 rfl (by unfold uO;trivial)
instance:Df B 2 "is_here" (spF B.G qj):=gF4 rfl Y.f.q95 rfl (by unfold A2;trivial)
instance:Df B 10 "named" (spF B.G ra):=gF4 rfl Y.f.q96 rfl (by unfold E2;trivial)
instance:Df B 11 "is_of_kind" (spF B.G rb):=gF4 rfl Y.f.q97 rfl (by unfold xB;trivial)
instance:Df B 11 "is_term" (spF B.G ud):=gF4 rfl Y.f.q98 rfl (by unfold A3;trivial)
instance:Df B 11 "is_place" (spF B.G sI):=gF4 rfl Y.f.q99 rfl (by unfold wD;trivial)
instance:Df B 12 "is_moved" (spF B.G uA):=gF4 rfl Y.f.q100 rfl (by unfold wF;trivial)
instance:Df B 10 "is_mark_value" (spF B.G pj):=gF4 rfl Y.f.q101 rfl (by unfold ph;trivial)
instance:Df B 13 "is_move" (spF B.G ya):=gF4 rfl Y.f.q102 rfl (by unfold x9;trivial)
instance:Df B 1 "is_said" (spF B.G qk):=gF4 rfl Y.f.q103 rfl (by unfold A4;trivial)
instance:Df B 10 "is_verb_name" (spF B.G o9):=gF4 rfl Y.f.q104 rfl (by unfold vy;trivial)
instance:Df B 1 "does_or_refuses" (spF B.G pF):=gF4 rfl Y.f.q105 rfl (by unfold sZ;trivial)
instance:Df B 12 "is_plain_test" (spF B.G qA):=gF4 rfl Y.f.q106 rfl (by unfold oq;trivial)
instance:Df B 1 "is_test" (spF B.G (pq 0)):=gF4 (k:=0) rfl Y.f.q107 rfl (by trivial)
instance:Df B 13 "is_test" (spF B.G (pq 1)):=gF4 (k:=12) rfl Y.f.q107 rfl (by unfold pN;trivial)
instance:Df B 14 "is_test" (spF B.G (pq 2)):=gF4 (k:=13) rfl Y.f.q107 rfl (by unfold pN;trivial)
instance:Df B 15 "is_test" (spF B.G (pq 3)):=gF4 (k:=14) rfl Y.f.q107 rfl (by unfold pN;trivial)
instance:Df B 16 "is_test" (spF B.G (pq 4)):=gF4 (k:=15) rfl Y.f.q107 rfl (by unfold pN;trivial)
instance:Df B 17 "is_test" (spF B.G (pq 5)):=gF4 (k:=16) rfl Y.f.q107 rfl (by unfold pN;trivial)
instance:Df B 14 "is_deed" (spF B.G vO):=gF4 rfl Y.f.q108 rfl (by unfold sk;trivial)
instance:Df B 19 "are_tests" (spF B.G yK):=gF4 rfl Y.f.q109 rfl (by unfold yJ;trivial)
instance:Df B 15 "are_deeds" (spF B.G yM):=gF4 rfl Y.f.q110 rfl (by unfold yL;trivial)
instance:Df B 20 "is_rule" (spF B.G vQ):=gF4 rfl Y.f.q111 rfl (by unfold vP;trivial)
instance:Kx B 21 "World" 14 16 oX:=gXI4 Y.f.k14 Y.f.a14 rfl Y.f.q112 rfl rfl (by unfold ql;trivial)
instance:Df B 1 "_law_cell_at" (spF B.G qc):=gF4 rfl Y.f.q113 rfl (by unfold vz;trivial)
instance:Df B 1 "_law_digit" (spM B.G nX):=gM4 rfl Y.f.q114 rfl rfl (by unfold sd;trivial)
instance:Df B 3 "_law_things" (spM B.G tQ):=gM5 ["_law_state", "_law_rooms", "_law_things_here", "_law_holders", "_law_pool", "_law_turn", "_law_k", "_law_name", "_law_words", "_law_kind"] rfl Y.f.q115 rfl rfl (by unfold tP;trivial)
instance:Df B 3 "_law_tests" (spF B.G xD):=gF4 rfl Y.f.q116 rfl (by unfold xC;trivial)
instance:Df B 3 "_law_deeds" (spF B.G xF):=gF4 rfl Y.f.q117 rfl (by unfold xE;trivial)
instance:Df B 4 "_law_menu" (spF B.G vA):=gF4 rfl Y.f.q118 rfl (by unfold yN;trivial)
instance:Df B 4 "_law_good" (spF B.G vB):=gF4 rfl Y.f.q119 rfl (by unfold yO;trivial)
instance:Df B 23 "_law_refused" (spF B.G oA):=gF4 rfl Y.f.q120 rfl (by unfold rg;trivial)
theorem Jp:Bdz B ["_law_script", "_law_state", "_law_things_here", "_law_good_here", "_law_rules", "_law_menu_here", "_law_k", "_law_cell", "_law_at", "_law_odd"] "law" (top 144) (nV (top 144)) 23 E3:=by
 unfold E3;refine CT ?_ ?_
 all_goals trivial
end
end K09x
namespace K09x
open PySem L2 L3 L4
def Fj(K:aj):Sp:=λvs H Q _=>∃(a:Addr) (ns:List Int),vs=[.ref a]/\SqL K H a (ns.map V.int)/\ns.length<=63/\∀H',Q (.bl true) H'
theorem Ba{G:Bg}{H:Hp}:∀ns:List Int,nt G H (ns.map D.int) (ns.map V.int)
 |[]=>nY
 |n::ns=>oi (pJ n) (Ba ns)
theorem Lw{G:Bg}:∀vs H Q E,Fj G.K vs H Q E->spF G LS vs H Q E:=λvs H Q E h=>by obtain⟨a,ns,rfl,hs,hl,k⟩:=h;refine⟨H,[.fzl (ns.map D.int)],.bl true,nz.refl _,oi (by unfold L4.Rep;exact⟨a,_,rfl,hs,Ba ns⟩) nY,Px ns hl,λv H0' H' _ _ _ _ r=>?_⟩;unfold L4.Rep at r;subst r;exact k H'
section
variable{K:aj}{x m q:Str}{st:Stmt}{f C:Addr}{oc:aa}{od:Option Addr}{kV doc pm:aa}{an:Option Addr}{cdv ct:aa}{osl:Array (Option aa)}
theorem Jq(lk:K.lookup f=some ⟨oc,od,.func (cM x q (qO st) (nV st) (nF st) .none kV doc pm an cdv ct),osl⟩)(hc:d6 K cdv q=true)(kp:ck K (.ref f)=true):∃fd,Fun K x q st f fd:=⟨_,⟨_,_,_,_,_,_,_,_,_,rfl,lk,hc⟩,kp⟩
theorem gd_mk(h:d8 K aF x=some (some (.ref f)))(lk:K.lookup f=some ⟨oc,od,.func (cM x x (qO st) (nV st) (nF st) .none kV doc pm an cdv ct),osl⟩)(hc:d6 K cdv x=true)(kp:ck K (.ref f)=true):GD K x st:=⟨f,(Jq lk hc kp).imp λ_ F=>⟨h,F⟩⟩
theorem gm_mk(h:bU K (.ref C) m=some (some (.ref f)))(hf:gk K (.ref f)=true)(lk:K.lookup f=some ⟨oc,od,.func (cM m q (qO st) (nV st) (nF st) .none kV doc pm an cdv ct),osl⟩)(hc:d6 K cdv q=true)(kp:ck K (.ref f)=true):GM K C m q st:=⟨f,(Jq lk hc kp).imp λ_ F=>⟨h,hf,F⟩⟩
end
theorem all_mk{l:eZ}{w:ao}{K:aj}{h:Heap}{mg:Str->Option aa}{fa:Addr}(X:K.In h)(Gn:h.Ns aF mg)(hfa:mg "law" = some (.ref fa)){C0 C1 C2 C3 C4 C5 C6 C7 C8 C9 C10 C11 C12 C13 C14 C15 C16:Addr}(F:Fx K C0 C1 C2 C3 C4 C5 C6 C7 C8 C9 C10 C11 C12 C13 C14 C15 C16):
  ∃fd:bj,(∀(s:ae) (v:aa),d7 s fd ⟨[v],[]⟩ [("_law_script", v)])/\∀base:Heap,K.In base->base.Ns aF mg->qN l.prog w K mg base CX0 24 fa fd ["_law_script"] (Fj K):=by
 have gen:∃B:Bg,B.K=K/\B.ca 0=C0/\B.ca 1=C1/\B.ca 2=C2/\B.ca 3=C3/\B.ca 4=C4/\B.ca 5=C5/\B.ca 6=C6/\B.ca 7=C7/\B.ca 8=C8/\B.ca 9=C9/\B.ca 10=C10/\B.ca 11=C11/\B.ca 12=C12/\B.ca 13=C13/\B.ca 14=C14/\B.ca 15=C15/\B.ca 16=C16:=⟨⟨K,λc=>[C0,C1,C2,C3,C4,C5,C6,C7,C8,C9,C10,C11,C12,C13,C14,C15,C16].getD c 0⟩,rfl,rfl,rfl,rfl,rfl,rfl,rfl,rfl,rfl,rfl,rfl,rfl,rfl,rfl,rfl,rfl,rfl,rfl⟩;obtain⟨B,rfl,rfl,rfl,rfl,rfl,rfl,rfl,rfl,rfl,rfl,rfl,rfl,rfl,rfl,rfl,rfl,rfl,rfl⟩:=gen;have Z:∀base,Yx ⟨l.prog,w,mg,base,B⟩:=λbase=>⟨⟨h,X,Gn⟩,F⟩;obtain⟨f,fd,a,FF⟩:=F.q121;have e:=hfa.symm.trans (gj X Gn a);cases e;obtain⟨oc,od,kV,doc,pm,an,cdv,ct,osl,rfl,lk,hcd⟩:=FF.ex;exact⟨_,λs v=>.of_eq rfl,λbase _ _=>(HP rfl rfl rfl FF (okk (N:=["_law_script", "_law_state", "_law_things_here", "_law_good_here", "_law_rules", "_law_menu_here", "_law_k", "_law_cell", "_law_at", "_law_odd"]) (ps:=["_law_script"]) (np:=1) (n:=10) (by kernel_rfl)).1 ((@Jp _ (Z base)).ok rfl _)).imp (Lw (G:=B))⟩
theorem walk{l:eZ}{q:au}{loose:List Str}{XP:(Str->Option aa)->Heap->Prop}{YP:ao->Heap->Prop}{d:DefRec}{K:fq->aj}(hn:l.most=some 63)(hdf:d.params.defaults=[])
  (hY:∀(w:ao) (h:Heap),YP w h->(K w.params).In h)
  (F:∀(w:ao) (mg:Str->Option aa) (fa:Addr) (h:Heap),(K w.params).In h->h.Ns aF mg->mg d.name=some (.ref fa)->
   ∃fd:bj,(∀(s:ae) (u:aa),d7 s fd ⟨[u],[]⟩ [("_law_script", u)])/\∀base:Heap,(K w.params).In base->base.Ns aF mg->qN l.prog w (K w.params) mg base CX0 24 fa fd ["_law_script"] (Fj (K w.params))):
  W.WalkO q loose XP YP l.row.toRowW d [] (λf vs=>iP f vs):=
 L2.JV (n:=63) (k:=24) (x:="_law_script") (CX:=λ_=>CX0) (sp:=λw=>Fj (K w.params)) hn (by decide) hdf ⟨rfl,by decide,by decide⟩ hY F (λ_ _ a ns hl _ hS=>⟨a,ns,rfl,hS,hl,λ_=>rfl⟩) λ_ _ _ _ _ z=>z
end K09x
set_option maxHeartbeats 0
open PySem PySem.W PyProof.Rows
theorem PySem.Challenge.cw_tellworld_k09_rules_that_are_none_holds : PySem.Challenge.rw_tellworld_k09_rules_that_are_none.Holds := by
 refine hd ?_
 k_fill
 refine K09x.walk (l:=PySem.Challenge.rw_tellworld_k09_rules_that_are_none) rfl rfl (λw h Y=>Y) ?F
 case F=>
  intro w mg fa h KX G hmg;refine' K09x.all_mk KX G hmg ?Q
  case Q=>
   constructor
   all_goals as_aux_lemma=>first
   |k_is
   |kernel_rfl
   |(show W.excIn _ _ _ _=true;first|k_exc|k_is|kernel_rfl)
   |exact⟨⟨⟨by k_is,by k_is,by k_is,by k_is⟩,by k_is,by k_is,by k_is,by k_is⟩,by k_is,by k_is,by kernel_rfl⟩
   |exact⟨_,by k_is⟩
   |exact K09x.gd_mk (by k_is) (by k_is) (by k_is) (by k_is)
   |exact K09x.gm_mk (by k_is) (by k_is) (by k_is) (by k_is) (by k_is)
   |exact⟨_,_,_,_,by k_is,by k_is,by rfl,by rfl,by simp,by repeat' first|exact .nil|exact .cons rfl .nil|refine .cons rfl ?_⟩
   |exact⟨_,_,_,_,[_],_,by k_is,by k_is,⟨⟨_,_,_,_,_,_,_,_,_,rfl,by k_is,by k_is⟩,by k_is⟩,by k_is,by rfl,.cons (by first|rfl|exact⟨_,rfl⟩) .nil⟩
   |exact⟨_,_,_,_,[_,_,_],_,by k_is,by k_is,⟨⟨_,_,_,_,_,_,_,_,_,rfl,by k_is,by k_is⟩,by k_is⟩,by k_is,by rfl,.cons (by first|rfl|exact⟨_,rfl⟩) (.cons (by first|rfl|exact⟨_,rfl⟩) (.cons (by first|rfl|exact⟨_,rfl⟩) .nil))⟩
end
