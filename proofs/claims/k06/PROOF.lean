import PyProof.Rows.All
import Open.Pieces
import OpenK.KLine
import PySem.Challenge.RW_tellworld_k06_things_that_are_none
import Wide.All
import OpenK.AllK
import Wide.FinOn
import PyProof.EqAt
import PyProof.EqKinds
import PyProof.TupleCall
import PyProof.StrWalks
import PyProof.ConsumeWalk
import PyProof.NeKinds
import PyProof.Rows.SetFrom
import KE.KIsAll
import PyProof.WalksMore
import PyProof.TupleKey
import PyProof.DictWalks
import PyProof.Rows.ZipGen
import KE.KDictLaws
import PyProof.DictItems
import KE.KSortTup
import PyProof.TupleOfSeq
import PyProof.Rows.SortStr
import PyProof.Rows.StrInSeq3
import PyProof.TupleIter
import KE.KDictOf
import PyProof.CollectWalk
import PyProof.Rows.SeqMore
set_option genSizeOf false
local macro_rules (kind:=Lean.Parser.Command.declaration)|s=>do
 if s.getPos?.isNone||s[1][1][0].getId.getRoot== `PySem then Lean.Macro.throwUnsupported
 let s:=s.rewriteBottomUp (·.setInfo .none)
 if s[1].getKind∈[``Lean.Parser.Command.definition,``Lean.Parser.Command.abbrev,``Lean.Parser.Command.instance]&&s[0][4].isNone then
  return s.setArg 0 (s[0].setArg 4 (Lean.mkNullNode #[Lean.Syntax.node .none ``Lean.Parser.Command.noncomputable #[Lean.mkAtom "noncomputable"]]))
 return s
set_option compiler.extract_closed false
noncomputable section
open List renaming length_map->aj,all_eq_true->az,length_append->aC,getElem?_eq_getElem->aR,length_cons->aG,mem_map_of_mem->aM,size_toArray->aJ,mem_cons_self->aO,mem_append_right->aV,mem_cons_of_mem->aU,getElem?_eq_some_iff->bq,getElem?_map->aS,mem_singleton->aW,map_cons->aK,mem_append_left->bo,getElem?_set->bc,nodup_append->bh,mem_map->aN,length_replicate->bB,mem_cons->aT,mem_of_getElem?->bC,mem_filter->bf,mem_append->bg,length_singleton->bN,length_take->bu,append_nil->bw,any_eq_true->bD,map_append->bE,append_assoc->bO,getElem?_append_right->cO,getElem?_append_left->cP,range->bb,map_map->bz,nil_append->b8,getElem?_drop->cz,zip_cons_cons->cA,length_set->ck,lookup_cons->cD,length->bP,find?_cons->cF,lookup->bU,all_cons->cm,getElem_mem->cU,mem_range->cG,getD_eq_getElem?_getD->eD,contains_iff_mem->dF,getElem?_replicate->eE,length_drop->dc,not_mem_nil->de,getElem?_set_self->eF,any_cons->c4,getElem?_eq_none->eG,length_filter_le->eI,drop_eq_getElem_cons->fG,nodup_cons->dW,length_nil->dX,length_zip->dY,mem_filterMap->eJ,map_nil->dq,zipWith_cons_cons->fH,length_range->eS,getElem?_set_ne->fJ,mem_of_mem_take->fL,of_mem_zip->eU,filterMap_cons->fM,getElem_of_mem->fN,zipWith->ee,replicate->eV,filter_append->fR,getElem_inj->fT,getElem?_cons_zero->gZ,filter_cons->fW,drop_eq_nil_of_le->hU,take_of_length_le->hX,all_map->fi,foldl_cons->fY,mem_iff_getElem->ig,nodup_nil->f6,mem_of_mem_drop->ip,getElem?_range->iw,length_zipWith->ix,filter_eq_self->iz,length_pos_iff->iA,map_congr_left->iB,contains_cons->iJ,ext_getElem?->iP,any_eq_false->iQ,take_sublist->iR,pairwise_map->iW,map_id->gB,zip_append->ja,drop_nil->jw,map_drop->jx,map_take->jy,rec->jP,map->jQ
open PySem renaming Value->aa,Shared->ae,wpAny_bind->ar,starEach->ao,mainGlobals->aA,wpAny_pure->ay,sizeLine->av,wpAny->af,Program->au,Around->aw,World->ak,compareOp->aI,wpAny_mono->aY,Spec->lD,wpAny_truthy_bool->bZ,wpAny_Call_Name_kw->cy,FuncData->aZ,wpAny_holding->bT,backTo->aL,assignEach->bG,bootBuiltins->b9,swapsWith->bH,codeAny_builtin->cX,sizeLine_eq->cb,sysModules->bV,mem_of_lookup->dG,keywordEach->cp,letOwnedTupleGo->df,behindInMarks->cZ,attributeBase->c3,wpAny_pyIter_list->dJ,foldedSetIterable->dM,ofAClassStatement->dO,wpAny_setState_of->dP,carriedByValue->dj,codeAny->bJ,codeAny_mono->c5,binaryOp->bX,wpAny_execs_nil->dS,wpAny_passesOwn->dU,NameKind->cc,Scope->bA,plainId_quiet->eY,wpAny_execs_cons->fU,wpAny_forIn_list->fV,Paired->dv,wpAny_isTrue_Compare1->ia,wpAny_eqIsQuiet_tuple->ic,wpAny_standAt->gb,wpAny_pyIter_tuple->iG,Result->cN,wpAny_call->fq,tupleKind_room_in1->iI,wpAny_pyHash_tuple->iM,Within->gh,GenState->eA,BindsTo->dy,seqIndex_neg->gn,slot_list_getitem->iV,Keyword->dA,noFill_tuple_add->iZ,seqIndex_of->gz,wpAny_specialOf->i8,codeAny_of_tree->jb,wpAny_Name->gG,wpAny_Expr_any->jg,Operator->fB,PlainAttrs->gK,call_meets->gO,call->gQ,SetTable->fD,wpAny_seqItems->ji,isSubtype_type->jk,boot_len->jm,intBits_le_64->jq,seq_tuple_add->js,evalPart_none->jt,call_list_seq->ju,CmpOp->c7,Params->eC
open PySem.Heap renaming get?_push_of_some->aF,lt_size->aD,get?_push_size->ba,size_push->dh,SameBut->dm,get?_update_other->hG,get?_update_self->ib,MadeExcOf->jn,FlyingW->jG
open Bool renaming and_eq_true->aB,false_ne_true->aP,not_eq_true'->cj,eq_iff_iff->cE,false_eq_true->dH,eq_false_iff->dQ,or_eq_true->dZ,or_eq_false_iff->ik,and_false->jh,rec->gW
open Nat renaming le_refl->aE,ne_of_lt->aH,lt_of_lt_of_le->br,le_of_ble_eq_true->cg,le_trans->bF,lt_succ_of_lt->cQ,ble_eq->bW,lt_irrefl->cY,zero_le->cI,lt_succ_self->dR,ble->bK,eq_of_beq_eq_true->fI,le_add_right->eT,le_of_lt->d6,min_self->d7,lt_of_le_of_lt->fP,le_succ->fj,beq->c6,add_right_comm->iC,ne_of_gt->gj,le_of_not_lt->i4,min_eq_left->je,mod_lt->gU,zero_add->jz,le_of_eq->jB,pow_succ->jD,sub_self->jE
open PySem.W renaming Frag->ai,kia_one->bI,emptyDict->cn,findIn->bQ,kitOne->bR,keepIn->bY,instObj->cJ,callWith_K->fg,fnOf->cu,codeIn->dw,plainGet_of->gd,plainGet->fo,OpenLaw->eh,hideAll_get->gq,cellsFrom_some->iY,methodObj->gu,hasDictIn->gw,kitx_list->gx,kitx_dict->gy,of_hideAll->gE,methodCall_KW->i9,lookIn->fC,nsIn->dB,callWith_K0->jr,takerIn->gV,kitx_tuple->jC,mg_of->fE,plainOver->jJ,specialIn->jK,isFn->fF
open Option.some renaming inj->bp,injEq->lu
open PyProof.Rows.F renaming plain_set_update_loop->cv,entry_set_update_loop->dE
open Int renaming eq_ofNat_of_zero_le->cw,emod_lt_of_pos->c9,emod_nonneg->dg,toNat_natCast->eQ
open PySem.SetTable.probe renaming go->b7
open False renaming elim->bx
open PySem.Builtin.List renaming listTooLong->dD
open PySem.Around renaming under_plainId->c8,under->gk
open PySem.SetTable renaming insertAt->cR,below->d5,has->ef,Probe->eW,fresh->eX,bits->eZ,runEnd->fZ,fill->gf,put->gp,gaveWay->i6,tooFull->i7,slot->jv
open Option renaming map_some->cW,getD_none->i3,getD_some->i5
open PySem.F renaming called_set->cH,slot_list_extend->eO,plainAttrs_list->eR,slot_list_append->fO,slot_dict_setdefault->hZ,args_list_extend_2->ie,sub_list_frozenset->il,excBase_ValueError->iq,entry_list_extend->iu,args_tuple_add_2->iH,type_list_append->iN,type_list_extend->iO,entry_tuple_add->iU,slot_tuple_add->i0,plain_set_new->jc,sub_list_set->jl
open PySem.SetTable.below renaming go->dN
open PySem.Calls renaming spliced_cons->eK,evalArgs_plain->fK,Name_function_global->gX,spliced_nil->fS,callWith_builtin->hJ
open Nat.succ renaming inj->dr
open Prod renaming snd->cq,fst->jR
open PyProof.Rows renaming AllBare->cf,subscriptTail_builtinR->hE,boot_isinstance->jd,IntsAre->eB,Subscript_->gH
open PySem.Obj renaming mapSeq->du,putSet->gR
open PySem.SeqAt.EqAt renaming of_refs->fQ,same->fX,int_str->iE,str_int->iF,tuple_none->kr,tuple_bool->ku,tuple_list->kx,list_tuple->ky,none_tuple->kz,bool_tuple->kA,none_bool->kB,bool_none->kC,bool_bool->kD,tuple_int->kE,tuple_str->kF,list_none->kG,list_bool->kH,none_list->kI,bool_list->kJ,int_tuple->kK,str_tuple->kM,none_int->kN,none_str->kP,bool_int->kQ,bool_str->kR,int_none->kT,int_bool->kU,str_none->kW,str_bool->kX,list_int->kY,list_str->kZ,int_list->la,str_list->lb,int_int->lj,str_str->lp
open PySem.AutoSeq1 renaming wpAny_loadPart'->gY
open Ne renaming symm->cM
open List.Perm renaming refl->f7
open Array renaming length_toList->ir,forIn_toList->iK,toList->jA
open PySem.Heap.SameBut renaming update->iy
open PySem.Paired renaming length->f9,snoc->jM
open PySem.SeqAt renaming EqAt->fw
open PySem.Walks renaming list->fz
open PySem.Code renaming isFrame->gm,frames->jL
open List.Sublist renaming refl->iX
open LawfulBEq renaming eq_of_beq->fA
open Sum.inr renaming inj->gr
open PySem.Moved renaming trans->gA
open PySem.Builtin.Frozenset renaming updateFrom->jS,newClass->jU
open PySem.PassesOwn renaming never->jf
open PySem.SeqAt.RcNeAt renaming lists_lengths->jT,tuples->lg,lists->lq
open PySem.EqNone renaming eq_none_none->jV,eq_none_bool->jW,eq_bool_none->jX,ne_none_none->j1,ne_none_bool->j2,ne_bool_none->j3,eq_none_int->j6,eq_none_str->j7,eq_int_none->j8,eq_str_none->ka,ne_none_int->kg,ne_none_str->kh,ne_int_none->kj,ne_str_none->km
open PySem.EqMixed renaming eq_bool_str->jY,eq_str_bool->jZ,ne_bool_str->j4,ne_str_bool->j5,eq_int_str->j9,eq_str_int->kc,ne_int_str->kl,ne_str_int->kn
open PySem.Value renaming isStrOf->jo,isInt->jI
open PySem.SeqAt.RcAt renaming lists_lengths->ko,tuples->ly,lists->lA
open PySem.Builtin.Range renaming rangeSize->kq
open PySem.Pv renaming boot_list->jF,boot_int->jN
open Prod.mk renaming inj->jH
open PySem.Heap.IsSliceOf renaming new->lh
open PySem.W.WShape renaming has->jO
open PySem.Within renaming cons->lr
open PySem.Heap.DictOf renaming new->lC
def ag:=@if_pos
def ah:=@if_neg
def aq:=@absurd
def aX:=@decide_eq_false
def bt:=@decide_eq_true_eq
def bj:=@decide_eq_true
def bM:=@of_decide_eq_true
def aQ:=@congrArg
set_option Elab.async false
set_option linter.all false
namespace L5
open PySem PySem.W
noncomputable def pick(l:List Obj):Nat->List Addr->List Obj:=
 @jP Obj (λ_=>Nat->List Addr->List Obj) (λ_ _=>[])
  (λo _ ih i as=>@jP Addr (λ_=>List Obj) [] (λa r _=>@gW (λ_=>List Obj) (ih (Nat.succ i) as) (o::ih (Nat.succ i) r) (c6 a i)) as) l
theorem B3(i:Nat)(as:List Addr):pick [] i as=[]:=rfl
theorem Eb(o:Obj)(l:List Obj)(i:Nat)(r:List Addr):pick (o::l) i (i::r)=o::pick l (i+1) r:=by show @gW (λ_=>List Obj) _ _ (c6 i i)=_;rw[Nat.beq_refl];rfl
theorem Ec(o:Obj)(l:List Obj)(i a:Nat)(r:List Addr)(h:a≠i):pick (o::l) i (a::r)=pick l (i+1) (a::r):=by
 show @gW (λ_=>List Obj) _ _ (c6 a i)=_;have:c6 a i=false:=by
  cases q:c6 a i with
  |false=>rfl
  |true=>exact aq (fI q) h
 rw[this];rfl
theorem xn:∀(l:List Obj) (i:Nat) (as:List Addr),(pick l i as).length=as.length->∀j (hj:j<as.length),∃b,as[j]=i+b/\l[b]?=(pick l i as)[j]?
 |[],i,as,h,j,hj=>by rw[B3]at h;simp at h;omega
 |o::l,i,[],h,j,hj=>by simp at hj
 |o::l,i,a::r,h,j,hj=>by
  by_cases q:a=i
  ·subst q;rw[Eb]at h ⊢;cases j with
   |zero=>exact⟨0,rfl,rfl⟩
   |succ j=>obtain⟨b,e1,e2⟩:=xn l (a+1) r (by simpa using h) j (by simpa using hj);exact⟨b+1,by rw[List.getElem_cons_succ,e1];exact iC a 1 b,by simpa using e2⟩
  ·rw[Ec _ _ _ _ _ q]at h ⊢;obtain⟨b,e1,e2⟩:=xn l (i+1) (a::r) h j hj;exact⟨b+1,by rw[e1];exact iC i 1 b,by simpa using e2⟩
def live(o:Obj):Bool:=match o with|⟨_,_,.freed,_⟩=>false|_=>true
theorem Ed{h:Heap}{as:List Addr}{K:Frag}(e:as=K.map (·.1))(x:(pick h.objs.toList 0 as,K.all λp=>live p.2)=(K.map (·.2),true)):K.In h:=by
 obtain⟨x1,x2⟩:=jH x;refine Frag.in_of e (iP λj=>?_);rw[aS,aS];by_cases hj:j<as.length
 ·have hl:(pick h.objs.toList 0 as).length=as.length:=by rw[x1,e,aj,aj]
  obtain⟨b,e1,e2⟩:=xn _ _ _ hl j hj;have hk:j<K.length:=by rw[e,aj]at hj;exact hj
  rw[aR hj,aR hk,cW,cW,e1,jz];have e3:h.objs[b]?=some (K[j].2):=by rw[<-Array.getElem?_toList,e2,x1,aS,aR hk];rfl
  have lv:live K[j].2=true:=az.mp x2 _ (cU hk);refine aQ some ?_;unfold Heap.get?;rw[e3];revert lv;cases K[j].2 with
  |mk c d data sl=>cases data<;>intro lv<;>first|rfl|cases lv
 ·rw[eG (by omega),eG (by rw[e,aj]at hj;omega)];rfl
noncomputable def Ky(K:eC->Frag) (as:List Addr) (e:∀P,as=(K P).map (·.1)):Hook:=
 ⟨List Obj×Bool,λs=>(pick s.heap.objs.toList 0 as,true),λw=>((K w.params).map (·.2),(K w.params).all λp=>live p.2),InK K,λw s x=>Ed (e w.params) (by
  obtain⟨x1,x2⟩:=jH x;rw[x1,<- x2]),InK.keeps⟩
end L5
section
open PySem PySem.W PyProof.Rows
local macro_rules|`(tactic|o_head ($f:ident $k $as $e))=>`(tactic|o_head ((L5.Ky $k $as (fun _=>by kernel_rfl)):W.Hook))
local macro_rules|`(command|#where)=>do
 let mut r:=#[]
 for n in [43:1539] do
  let x:=Lean.mkIdent (.mkSimple s!"tw{((Lean.Name.mkSimple "hd").str s!"o_{n}").hash}")
  r:=r.push ((<-`(command|noncomputable def $x:ident:=0)).raw.rewriteBottomUp (·.setInfo .none))
 return Lean.mkNullNode r
noncomputable section
namespace PySem.W.Fast
def tw5058614186965297067:=0
def tw16100691501515759841:=0
def tw8600003543474550401:=0
def tw11899693301848689474:=0
def tw2195466600730450949:=0
def tw14335442591911757157:=0
def tw14575388751658381831:=0
def tw16380965088707415623:=0
def tw8169806428440432713:=0
def tw10374632558016547081:=0
def tw4482195144902030091:=0
def tw938635154573522699:=0
def tw4260957879368936235:=0
def tw1348686238360321804:=0
def tw7774113678449685934:=0
def tw4891155283279915023:=0
def tw280917380089993231:=0
def tw13342595474641073200:=0
def tw15853837366616553680:=0
def tw10772888853195510384:=0
def tw13274997305513706577:=0
def tw861502493610598483:=0
def tw1179633367757178035:=0
def tw13169389602587208947:=0
def tw2255770438638334868:=0
def tw2180074184251216150:=0
def tw2699686421266289142:=0
def tw1658382015597488694:=0
def tw2711973275048833399:=0
def tw12620873455715996183:=0
def tw17322059916419148152:=0
def tw8161656369779717402:=0
def tw10257955065651855134:=0
def tw2964640727653848319:=0
def tw7478123994339007903:=0
def tw1296790758570689965:=0
def tw4043706138742882717:=0
def tw11156245012059776263:=0
def tw14093639371245587692:=0
def tw15181078141257973585:=0
def tw472026066189085614:=0
def tw4605971472053405522:=0
def tw10294078964567370430:=0
def tw13823908486322433141:=0
def tw15805168937921861295:=0
def tw14151252239970057569:=0
def tw8387090941293194387:=0
def tw13857218912954019169:=0
def tw9296065175928017463:=0
#where
end PySem.W.Fast
end
set_option maxRecDepth 100000 in
set_option maxHeartbeats 0 in
open_top hd for PySem.Challenge.rw_tellworld_k06_things_that_are_none
end
set_option maxRecDepth 100000
namespace L2
open PySem PySem.Spec PyProof.Rows
abbrev Key:=Sum Int Str
def wq:Key->aa->Bool
 |.inl k,v=>jI k v
 |.inr x,v=>jo x v
def L6(w:ak):Key->Int
 |.inl k=>hashInt k
 |.inr x=>hashStr w x
theorem mH:∀{k:Key} {v:aa},wq k v=true->(∃i t,k=Sum.inl i/\v=Value.int i t)\/(∃x t,k=Sum.inr x/\v=Value.str x t)
 |.inl i,v,h=>by obtain⟨t,e⟩:=Value.isInt_shape (k:=i) (v:=v) h;exact .inl ⟨i,t,rfl,e⟩
 |.inr x,v,h=>by obtain⟨t,e⟩:=Value.isStrOf_shape (x:=x) (v:=v) h;exact .inr ⟨x,t,rfl,e⟩
theorem A1(i:Int)(t:Tok):wq (.inl i) (.int i t)=true:=by simp[wq,jI]
theorem A2(x:Str)(t:Tok):wq (.inr x) (.str x t)=true:=by simp[wq,jo]
theorem GK(a b:Int):decide ((Sum.inl a:Key)=Sum.inl b)=(a==b):=by
 by_cases e:a=b
 ·subst e;simp
 ·have h:¬(Sum.inl a:Key)=Sum.inl b:=λq=>e (Sum.inl.inj q);rw[aX h];exact(beq_eq_false_iff_ne.mpr e).symm
theorem GL(a b:Str):decide ((Sum.inr a:Key)=Sum.inr b)=decide (a=b):=by
 by_cases e:a=b
 ·subst e;simp
 ·have h:¬(Sum.inr a:Key)=Sum.inr b:=λq=>e (gr q);rw[aX h,aX e]
theorem GN(a:Int)(b:Str):decide ((Sum.inl a:Key)=Sum.inr b)=false:=aX (λq=>nomatch q)
theorem GO(a:Str)(b:Int):decide ((Sum.inr a:Key)=Sum.inl b)=false:=aX (λq=>nomatch q)
def md(prog:au)(w:ak):PySem.KeyKind prog w Key where
 is:=wq
 hash:=L6 w
 inj:=λv a b ha hb=>by
  rcases mH ha with ⟨i,t,rfl,rfl⟩|⟨x,t,rfl,rfl⟩
  ·rcases mH hb with ⟨j,u,rfl,e⟩|⟨y,u,rfl,e⟩
   ·injection e with e1 _;rw[e1]
   ·exact nomatch e
  ·rcases mH hb with ⟨j,u,rfl,e⟩|⟨y,u,rfl,e⟩
   ·exact nomatch e
   ·injection e with e1 _;rw[e1]
 byValue:=λk v h=>by rcases mH h with ⟨i,t,rfl,rfl⟩|⟨x,t,rfl,rfl⟩<;>rfl
 pyHash:=λhv h=>by
  rcases mH hv with ⟨i,t,rfl,rfl⟩|⟨x,t,rfl,rfl⟩
  ·exact wpAny_pyHash_int h
  ·exact wpAny_pyHash_str h
 eqBool:=λhu hv h=>by
  rcases mH hu with ⟨i,t,rfl,rfl⟩|⟨x,t,rfl,rfl⟩
  ·rcases mH hv with ⟨j,u,rfl,rfl⟩|⟨y,u,rfl,rfl⟩
   ·rw[GK]at h;exact wpAny_eqBool_int h
   ·rw[GN]at h;exact iE i t y u _ _ _ _ h
  ·rcases mH hv with ⟨j,u,rfl,rfl⟩|⟨y,u,rfl,rfl⟩
   ·rw[GO]at h;exact iF x t j u _ _ _ _ h
   ·rw[GL]at h;exact wpAny_eqBool_str h
 «strs»:=λk x t v h=>by
  rcases mH h with ⟨i,u,rfl,e⟩|⟨y,u,rfl,e⟩
  ·exact nomatch e
  ·injection e with e1 _;subst e1;cases v<;>rfl
theorem x9(prog:au)(w:ak)(i:Int)(t:Tok):(md prog w).is (.inl i) (.int i t)=true:=A1 i t
theorem ya(prog:au)(w:ak)(x:Str)(t:Tok):(md prog w).is (.inr x) (.str x t)=true:=A2 x t
inductive V where
 |non|bl (b:Bool)|int (i:Int)|str (x:Str)|byt (b:Array UInt8)|flt (b:UInt64)|ref (a:Addr)|ty (n:String)
 deriving DecidableEq
def RelV:V->aa->Prop
 |.non,u=>u=Value.none
 |.bl b,u=>u=Value.bool b
 |.int i,u=>∃t,u=Value.int i t
 |.str x,u=>∃t,u=Value.str x t
 |.byt b,u=>∃t,u=Value.bytes b t
 |.flt b,u=>∃t,u=Value.float b t
 |.ref a,u=>u=Value.ref a
 |.ty n,u=>u=Value.type n
abbrev Vals:List V->List aa->Prop:=dv RelV
variable{us:List aa}
theorem Vals.length{xs:List V}(r:Vals xs us):xs.length=us.length:=f9 r
theorem Vals.get:∀{xs:List V} {us:List aa} {i:Nat} {x:V},Vals xs us->xs[i]?=some x->∃u,us[i]?=some u/\RelV x u
 |_,_,_,_,.nil,e=>by simp at e
 |_,_,0,_,.cons r _,e=>by simp at e;subst e;exact⟨_,rfl,r⟩
 |_,_,i+1,x,.cons _ t,e=>by obtain⟨u,h1,h2⟩:=Vals.get (i:=i) (x:=x) t (by simpa using e);exact⟨u,by simpa using h1,h2⟩
variable{u:aa}
theorem Vals.set{x:V}(r:RelV x u):∀{xs:List V} {us:List aa} (i:Nat),Vals xs us->Vals (xs.set i x) (us.set i u)
 |_,_,_,.nil=>.nil
 |_,_,0,.cons _ t=>.cons r t
 |_,_,i+1,.cons q t=>.cons q (Vals.set r i t)
theorem Vals.append:∀{xs ys:List V} {us ws:List aa},Vals xs us->Vals ys ws->Vals (xs++ys) (us++ws)
 |_,_,_,_,.nil,s=>s
 |_,_,_,_,.cons r t,s=>.cons r (Vals.append t s)
theorem Vals.take:∀{xs:List V} {us:List aa} (n:Nat),Vals xs us->Vals (xs.take n) (us.take n)
 |_,_,0,_=>.nil
 |_,_,_+1,.nil=>.nil
 |_,_,n+1,.cons r t=>.cons r (Vals.take n t)
theorem Vals.drop:∀{xs:List V} {us:List aa} (n:Nat),Vals xs us->Vals (xs.drop n) (us.drop n)
 |_,_,0,r=>r
 |_,_,_+1,.nil=>.nil
 |_,_,n+1,.cons _ t=>Vals.drop n t
def rD:Option V->Option aa->Prop
 |some v,some u=>RelV v u
 |none,none=>True
 |_,_=>False
def KV{κ:Type}:List (κ×V)->List (κ×aa)->Prop:=dv λ(p:κ×V) (q:κ×aa)=>p.1=q.1/\RelV p.2 q.2
def kV:Key->V
 |.inl i=>.int i
 |.inr x=>.str x
inductive HO where
 |lst (xs:List V)
 |tup (xs:List V)
 |dK (kvs:List (Key×V))|dT (kvs:List (List Key×V))
 |set (S:Int->Bool) (n:Nat)
 |ins (C dx:Addr) (fs:List (Str×V))
 |own (x:Addr)
 |xd (fs:List (Str×V))
 |met (f x:Addr)
 |rng (lo hi:Int)
 |frz (o:Obj) (u:HO)
 |tbl (ps:Array aa)
 |ext (φ:Heap->Prop)
abbrev Hp:=Addr->Option HO
def upd(H:Hp)(a:Addr)(o:HO):Hp:=λb=>if b=a then some o else H b
variable{a:Addr}{o:HO}
theorem lQ{H:Hp}:upd H a o a=some o:=by unfold upd;rw[ag rfl]
variable{b:Addr}
theorem lO{H:Hp}(h:b≠a):upd H a o b=H b:=by unfold upd;rw[ah h]
theorem Kz{H:Hp}{u:HO}(h:H a=some o)(h':H b=some u)(d:o≠u):a≠b:=by intro e;subst e;rw[h]at h';exact d (bp h')
theorem mW{H:Hp}(h:H a=some o)(h':H b=none):a≠b:=by intro e;subst e;rw[h]at h';cases h'
section
variable(P:au)(w:ak)
def mJ(H:Hp)(h:Heap)(a:Addr):HO->Prop
 |.lst xs=>xs.length<=av/\∃(its:List aa) (n:Nat),Vals xs its/\h.get? a=some { cls:=.type "list", data:=.seq its.toArray n }
 |.tup xs=>xs.length<=av/\∃its:List aa,Vals xs its/\IsTup h a its.toArray
 |.dK kvs=>kvs.length<=av/\(a==bV)=false/\∃vs,KV kvs vs/\h.DictOf (md P w) a vs
 |.dT kvs=>kvs.length<=av/\(a==bV)=false/\∃xs:List (List Key×Addr×aa),
   dv (λ(p:List Key×V) (q:List Key×Addr×aa)=>p.1=q.1/\H q.2.1=some (.tup (p.1.map kV))/\RelV p.2 q.2.2) kvs xs/\
   ∃o es ep,h.get? a=some o/\o.ExactDict/\o.data=.dict es ep/\es.toList=xs.map (entryOfKey (tupleKind (md P w)))/\(xs.map (·.1)).Nodup
 |.set S n=>h.SetOf (intKind P w) a S n
 |.ins C dx fs=>H dx=some (.own a)/\fs.length<=1000/\dx≠a/\h.get? a=some (cJ C dx)/\
   ∃mA,h.Ns1 dx mA/\(∀f,rD (fs.lookup f) (mA f))/\gh mA (fs.map (·.1))
 |.own _=>∃o,h.get? a=some o
 |.xd fs=>∃mA,h.Ns1 a mA/\∀f,rD (fs.lookup f) (mA f)
 |.rng lo hi=>∃t u v,h.get? a=some { cls:=.type "range", data:=.fields #[.int lo t,.int hi u,.int 1 v] }
 |.frz o u=>h.get? a=some o/\mJ H h a u
 |.tbl ps=>h.get? a=some { cls:=.none,data:=.fields ps }
 |.met f x=>h.get? a=some (gu (.ref f) (.ref x))
 |.ext φ=>φ h/\(∃o,h.get? a=some o)/\∀h1 h2:Heap,φ h1->(∀o,h1.get? a=some o->h2.get? a=some o)->φ h2
def HOk(H:Hp)(h:Heap):Prop:=∀a o,H a=some o->mJ P w H h a o
end
section
variable{P:au}{w:ak}{H H':Hp}{h h':Heap}{a:Addr}{o:HO}
theorem mJ.lt(x:mJ P w H h a o):a<h.objs.size:=by
 cases o with
 |lst xs=>obtain⟨_,_,_,_,e⟩:=x;exact aD e
 |tup xs=>obtain⟨_,_,_,p⟩:=x;exact p.lt
 |dK kvs=>obtain⟨_,_,_,_,o,_,_,e,_⟩:=x;exact aD e
 |dT kvs=>obtain⟨_,_,_,_,o,_,_,e,_⟩:=x;exact aD e
 |set S n=>obtain⟨o,_,_,_,e,_⟩:=x;exact aD e
 |ins C dx fs=>obtain⟨_,_,_,e,_⟩:=x;exact aD e
 |own y=>obtain⟨_,e⟩:=x;exact aD e
 |xd fs=>obtain⟨_,⟨_,_,_,e,_⟩,_⟩:=x;exact aD e
 |rng lo hi=>obtain⟨_,_,_,e⟩:=x;exact aD e
 |frz ob u=>obtain⟨e,_⟩:=x;exact aD e
 |tbl ps=>exact aD (show h.get? a=some _ from x)
 |met f y=>exact aD (show h.get? a=some _ from x)
 |ext φ=>obtain⟨_,⟨_,e⟩,_⟩:=x;exact aD e
theorem Paired.mapP{α β:Type}{F G:α->β->Prop}:∀{l₁:List α} {l₂:List β},dv F l₁ l₂->(∀a b,F a b->G a b)->dv G l₁ l₂
 |_,_,.nil,_=>.nil
 |_,_,.cons r t,f=>.cons (f _ _ r) (Paired.mapP t f)
theorem mJ.stay(x:mJ P w H h a o)(k:∀b u,(b=a\/H b=some (.own a))->h.get? b=some u->h'.get? b=some u)
  (ho:∀b,H b=some (.own a)->H' b=some (.own a)) (ht:∀b xs,H b=some (.tup xs)->H' b=some (.tup xs)):mJ P w H' h' a o:=by
 induction o with
 |lst xs=>obtain⟨z,its,n,r,e⟩:=x;exact⟨z,its,n,r,k _ _ (.inl rfl) e⟩
 |tup xs=>obtain⟨z,its,r,ob,e,c⟩:=x;exact⟨z,its,r,ob,k _ _ (.inl rfl) e,c⟩
 |dK kvs=>obtain⟨z,y,vs,r,ob,es,ep,e,c⟩:=x;exact⟨z,y,vs,r,ob,es,ep,k _ _ (.inl rfl) e,c⟩
 |dT kvs=>obtain⟨z,y,xs,r,ob,es,ep,e,c⟩:=x;exact⟨z,y,xs,Paired.mapP r λp q z=>⟨z.1,ht _ _ z.2.1,z.2.2⟩,ob,es,ep,k _ _ (.inl rfl) e,c⟩
 |set S n=>obtain⟨ob,es,ep,t,e,c⟩:=x;exact⟨ob,es,ep,t,k _ _ (.inl rfl) e,c⟩
 |ins C dx fs=>obtain⟨d,z,ne,e,mA,⟨od,es,ep,e2,c⟩,r⟩:=x;exact⟨ho _ d,z,ne,k _ _ (.inl rfl) e,mA,⟨od,es,ep,k _ _ (.inr d) e2,c⟩,r⟩
 |own y=>obtain⟨ob,e⟩:=x;exact⟨ob,k _ _ (.inl rfl) e⟩
 |xd fs=>obtain⟨mA,⟨od,es,ep,e,c⟩,r⟩:=x;exact⟨mA,⟨od,es,ep,k _ _ (.inl rfl) e,c⟩,r⟩
 |rng lo hi=>obtain⟨t,u,v,e⟩:=x;exact⟨t,u,v,k _ _ (.inl rfl) e⟩
 |frz ob u ih=>obtain⟨e,q⟩:=x;exact⟨k _ _ (.inl rfl) e,ih q⟩
 |tbl ps=>have e:h.get? a=some { cls:=.none,data:=.fields ps }:=x;show h'.get? a=some { cls:=.none,data:=.fields ps };exact k a _ (.inl rfl) e
 |met f y=>have e:h.get? a=some (gu (.ref f) (.ref y)):=x;show h'.get? a=some (gu (.ref f) (.ref y));exact k a _ (.inl rfl) e
 |ext φ=>obtain⟨p,⟨o,e⟩,st⟩:=x;exact⟨st _ _ p λo q=>k _ _ (.inl rfl) q,⟨o,k _ _ (.inl rfl) e⟩,st⟩
theorem HOk.lt(x:HOk P w H h)(e:H a=some o):a<h.objs.size:=(x a o e).lt
theorem HOk.fresh(x:HOk P w H h)(e:h.objs.size<=a):H a=none:=by
 cases q:H a with
 |none=>rfl
 |some u=>exact aq (br (x.lt q) e) (cY _)
theorem HOk.kept(x:HOk P w H h)(k:∀b u,h.get? b=some u->h'.get? b=some u):HOk P w H h':=λa o e=>
 (x a o e).stay (λb u _ q=>k b u q) (λ_ q=>q) λ_ _ q=>q
theorem HOk.laid(x:HOk P w H h)(k:∀b u,h.get? b=some u->h'.get? b=some u)(hp:h.objs.size<=a)(new:mJ P w (upd H a o) h' a o):HOk P w (upd H a o) h':=λb u e=>by
 have hn:=x.fresh hp;by_cases hb:b=a
 ·subst hb;rw[lQ]at e;cases e;exact new
 ·rw[lO hb]at e;exact(x b u e).stay (λc v _ q=>k c v q) (λc q=>by rw[lO (mW q hn)];exact q) λc xs q=>by rw[lO (mW q hn)];exact q
end
def Rd(H:Hp)(a:Addr)(u:HO):Prop:=H a=some u\/∃o,H a=some (.frz o u)
theorem Rd.ok{P:au}{w:ak}{H:Hp}{h:Heap}{u:HO}(r:Rd H a u)(x:HOk P w H h):mJ P w H h a u:=by
 rcases r with r|⟨o,r⟩
 ·exact x a u r
 ·obtain⟨_,q⟩:=x a _ r;exact q
def Mut:Option HO->Prop
 |some (.lst _)=>True
 |some (.dK _)=>True
 |some (.dT _)=>True
 |some (.set _ _)=>True
 |some (.ins _ _ _)=>True
 |some (.ext _)=>True
 |_=>False
section
variable{P:au}{w:ak}{H:Hp}{h h':Heap}{x e:Addr}{o':HO}
theorem HOk.write(ok:HOk P w H h)(mu:Mut (H x))(he:e=x\/H e=some (.own x))(k:∀b u,b≠e->h.get? b=some u->h'.get? b=some u)(heo:∃u,h'.get? e=some u)
  (new:mJ P w (upd H x o') h' x o'):HOk P w (upd H x o') h':=λb u q=>by
 have nown:∀c y,H c=some (.own y)->c≠x:=λc y r z=>by subst z;rw[r]at mu;exact mu
 have ntup:∀c xs,H c=some (.tup xs)->c≠x:=λc xs r z=>by subst z;rw[r]at mu;exact mu
 by_cases hb:b=x
 ·subst hb;rw[lQ]at q;cases q;exact new
 ·rw[lO hb]at q;by_cases hbe:b=e
  ·have q':H b=some (.own x):=by
    rcases he with z|z
    ·exact aq (hbe.trans z) hb
    ·rw[hbe];exact z
   rw[q]at q';cases q';obtain⟨v,hv⟩:=heo;exact⟨v,by rw[hbe];exact hv⟩
  ·refine(ok b u q).stay (λc v hc r=>k c v ?_ r) (λc r=>by rw[lO (nown c b r)];exact r) λc xs r=>by rw[lO (ntup c xs r)];exact r
   rcases hc with rfl|hc
   ·exact hbe
   ·rintro rfl;rcases he with z|z
    ·exact nown c b hc z
    ·rw[hc]at z;cases z;exact hb rfl
end
structure Un(fs ex:List Addr)(H H':Hp)(h h':Heap):Prop where
 keep:∀b o,h.get? b=some o->H b=none->b∉fs->b∉ex->h'.get? b=some o
 slot:∀b o,h.get? b=some o->H b=none->b∈fs->b∉ex->∃sl,h'.get? b=some { o with slots:=sl }
 free:∀b o,h.get? b=some o->H b=none->b∉ex->H' b=none
 there:∀b o,h.get? b=some o->b∉ex->∃o',h'.get? b=some o'
 tups:∀b xs,H b=some (.tup xs)->H' b=some (.tup xs)
 frzs:∀b o u,H b=some (.frz o u)->H' b=some (.frz o u)
 tbls:∀b ps,H b=some (.tbl ps)->∃more,H' b=some (.tbl (ps++more))
section
variable{fs fs' ex ex':List Addr}{H H1 H2:Hp}{h h1 h2 h':Heap}{a x e:Addr}{o:HO}
theorem Un.any(u:Un fs ex H H1 h h1){ob:Obj}(q:h.get? b=some ob)(n:H b=none)(hx:b∉ex):∃sl,h1.get? b=some { ob with slots:=sl }:=by
 by_cases hb:b∈fs
 ·exact u.slot b ob q n hb hx
 ·exact⟨ob.slots,u.keep b ob q n hb hx⟩
theorem Un.kept(k:∀b u,h.get? b=some u->h'.get? b=some u):Un fs ex H H h h':=
 ⟨λb ob q _ _ _=>k b ob q,λb ob q _ _ _=>⟨ob.slots,k b ob q⟩,λ_ _ _ n _=>n,λb ob q _=>⟨ob,k b ob q⟩,λ_ _ q=>q,λ_ _ _ q=>q,λ_ ps q=>⟨#[],by rw[q];simp⟩⟩
theorem Un.refl:Un fs ex H H h h:=Un.kept λ_ _ q=>q
theorem Un.laid(k:∀b u,h.get? b=some u->h'.get? b=some u)(hp:h.objs.size<=a)(hn:H a=none):Un fs ex H (upd H a o) h h' where
 keep:=λb u q _ _ _=>k b u q
 slot:=λb u q _ _ _=>⟨u.slots,k b u q⟩
 free:=λb u q n _=>by rw[lO (aH (br (aD q) hp))];exact n
 there:=λb u q _=>⟨u,k b u q⟩
 tups:=λb xs q=>by rw[lO (mW q hn)];exact q
 frzs:=λb u xs q=>by rw[lO (mW q hn)];exact q
 tbls:=λb ps q=>⟨#[],by rw[lO (mW q hn),q];simp⟩
theorem Un.write(mu:Mut (H x))(he:e=x\/H e=some (.own x))(k:∀b u,b≠e->h.get? b=some u->h'.get? b=some u)(heo:∃u,h'.get? e=some u):Un fs ex H (upd H x o) h h':=by
 have hx:∀b,H b=none->b≠x:=λb n z=>by subst z;rw[n]at mu;exact mu
 have hb:∀b,H b=none->b≠e:=λb n z=>by
  subst z;rcases he with r|r
  ·exact hx b n r
  ·rw[n]at r;cases r
 have hm:∀b u,H b=some u->¬Mut (some u)->b≠x:=λb u q nm z=>by subst z;rw[q]at mu;exact nm mu
 refine⟨λb u q n _ _=>k b u (hb b n) q,λb u q n _ _=>⟨u.slots,k b u (hb b n) q⟩,λb u q n _=>by rw[lO (hx b n)];exact n,λb u q _=>?_,
  λb xs q=>by rw[lO (hm b _ q λz=>z)];exact q,λb u xs q=>by rw[lO (hm b _ q λz=>z)];exact q,λb ps q=>⟨#[],by rw[lO (hm b _ q λz=>z),q];simp⟩⟩
 by_cases hbe:b=e
 ·subst hbe;exact heo
 ·exact⟨u,k b u hbe q⟩
end
def trk(h:Heap)(H:Hp):List Addr:=(bb h.objs.size).filter λa=>(H a).isSome
def xp(h:Heap)(H:Hp):Heap:=W.hideAll h (trk h H)
theorem A3(h:Heap)(H:Hp):(xp h H).objs.size=h.objs.size:=W.hideAll_size _ _
theorem B4{h:Heap}{H:Hp}{o:Obj}(e:h.get? b=some o)(n:H b=none):(xp h H).get? b=some o:=
 gq _ e λhm=>by have q:(H b).isSome=true:=(bf.mp hm).2;rw[n]at q;simp at q
theorem Ee{h:Heap}{H:Hp}{o:Obj}(e:(xp h H).get? b=some o):h.get? b=some o/\H b=none:=by
 have e':h.get? b=some o:=gE (trk h H) e;refine⟨e',?_⟩;cases q:H b with
 |none=>rfl
 |some x=>have hm:b∈trk h H:=bf.mpr ⟨cG.mpr (aD e'),by simp[q]⟩;have z:(xp h H).get? b=none:=W.hideAll_none (trk h H) hm;rw[z]at e;cases e
def Ef(g h:Heap)(L:Addr):List (Addr×Obj):=(bb h.objs.size).filterMap λa=>if a=L\/(g.get? a).isSome=true then none else (h.get? a).map λo=>(a,o)
def rest(g h:Heap)(L d:Addr):List (Addr×Obj):=(Ef g h L).filter λp=>decide (p.1≠d)
structure Mod(K:ai)(mg:Str->Option aa)(base:Heap):Prop where
 kin:K.In base
 glob:base.Ns aA mg
 blt:∃mb,base.Ns builtinsNs mb/\∀x:Str,x≠"__name__" -> mb x=b9 x
 nolimit:base.NoLimit
structure Cx where
 prog:au
 w:ak
 K:ai
 mg:Str->Option aa
 base:Heap
 A:aw
 N:List Str
 s₀:ae
 H₀:Hp
 env:Env
 outer:List Env
 stack:List Env
 ex:List Addr
 fn:Str->Bool
 calm:Bool
 pn:List (Addr×Obj)
 xe:aa->ae->Prop
def frs(l:List Env):List Addr:=l.filterMap (·.frame)
abbrev Cx.fs(X:Cx):List Addr:=frs X.outer
def Vis(sc:bA)(x:Str):Prop:=sc.names.lookup x=some .local\/sc.names.lookup x=some .cell\/sc.names.lookup x=some .free
def Loc(sc:bA)(x:Str):Prop:=sc.names.lookup x=some .local\/sc.names.lookup x=some .cell
def Look(env:Env)(h:Heap)(m:Str->Option aa)(x:Str)(u:aa):Prop:=
 (env.kindOf x=some .local/\m x=some u)\/((env.kindOf x=some .cell\/env.kindOf x=some .free)/\∃c,env.cells.lookup x=some c/\h.IsCell c (some u))
structure Cx.Ok(X:Cx):Prop where
 mod:Mod X.K X.mg X.base
 kind:X.env.scope.kind=.function
 glob:X.env.globals=aA
 blt:X.env.builtins=builtinsNs
 above:X.s₀.heap.objs.size<=X.env.locals
 inj:∀x y c,X.env.cells.lookup x=some c->X.env.cells.lookup y=some c->x=y
 has:∀x,(X.env.kindOf x=some .cell\/X.env.kindOf x=some .free)->∃c,X.env.cells.lookup x=some c
 cab:∀x c,X.fn x=true->X.env.cells.lookup x=some c->X.s₀.heap.objs.size<=c
 hd:X.calm=true->X.A.handled=none
 frames:X.A.frames=some X.stack
 stk:X.stack=X.outer\/(X.stack=X.env::X.outer/\X.env.frame=some X.env.locals)
 exf:∀b∈X.ex,b≠X.env.locals/\∀x c,X.env.cells.lookup x=some c->c≠b
 bs:∀b o,X.base.get? b=some o->X.s₀.heap.get? b=some o/\X.H₀ b=none
 bsz:X.base.objs.size<=X.s₀.heap.objs.size
 noex:∀b o,X.base.get? b=some o->b∉X.ex
 exfs:∀b∈X.ex,b∉X.fs
 funs:X.s₀.heap.FunFrames X.base X.outer
 frf:∀b∈X.fs,X.H₀ b=none
structure Inv(X:Cx)(pins:List (Addr×Obj))(σ:List (Option V))(H:Hp)(s:ae):Prop where
 ok:X.Ok
 os:s.os=X.s₀.os
 bare:cf s.gens
 base:Un X.fs X.ex X.H₀ H X.s₀.heap s.heap
 loc:∃m,s.heap.Ns X.env.locals m/\∀(i:Nat) (x:Str) (v:V),X.N[i]?=some x->σ[i]?=some (some v)->Vis X.env.scope x->∃u,RelV v u/\Look X.env s.heap m x u
 cell:∀x c,X.env.cells.lookup x=some c->∃v,s.heap.IsCell c v
 free:H X.env.locals=none
 freeC:∀x c,X.env.cells.lookup x=some c->H c=none
 pin:∀p∈X.pn++pins,s.heap.get? p.1=some p.2/\H p.1=none/\p.1≠X.env.locals/\p.1∉X.fs/\∀v,p.2.data≠.cell v
 hok:HOk X.prog X.w H s.heap
 len:σ.length=X.N.length
variable{g':Array eA}{t' j:Nat}{d':Drawn}{ch:List Addr}{it:Addr}{N:List Str}{x:Str}{M:Model}{E:aa->ae->Prop}{s':ae}
section
variable{X:Cx}{pins:List (Addr×Obj)}{σ:List (Option V)}{H H':Hp}{s:ae}{h':Heap}
theorem Cx.Ok.nofr(ok:X.Ok){o:Obj}(e:X.base.get? b=some o):b∉X.fs:=λhb=>by have:=(ok.funs.mem hb).1;rw[e]at this;cases this
theorem Inv.bs(I:Inv X pins σ H s):∀b o,X.base.get? b=some o->s.heap.get? b=some o/\H b=none:=λb o e=>
 ⟨I.base.keep b o (I.ok.bs b o e).1 (I.ok.bs b o e).2 (I.ok.nofr e) (I.ok.noex b o e),I.base.free b o (I.ok.bs b o e).1 (I.ok.bs b o e).2 (I.ok.noex b o e)⟩
theorem Inv.bk(I:Inv X pins σ H s):∀b o,X.base.get? b=some o->s.heap.get? b=some o:=λb o e=>(I.bs b o e).1
theorem Inv.mod(I:Inv X pins σ H s):Mod X.K X.mg X.base:=I.ok.mod
theorem Inv.kIn(I:Inv X pins σ H s):X.K.In s.heap:=I.ok.mod.kin.keeps I.bk
theorem Inv.fr(I:Inv X pins σ H s):∃m,Fr X.base X.env.locals s.heap m:=
 let ⟨m,hn,_⟩:=I.loc
 ⟨m,hn,I.bk,bF I.ok.bsz I.ok.above⟩
theorem Inv.lt(I:Inv X pins σ H s):X.env.locals<s.heap.objs.size:=let ⟨_,hn,_⟩:=I.loc;hn.lt
theorem Inv.sz(I:Inv X pins σ H s):X.s₀.heap.objs.size<=s.heap.objs.size:=bF I.ok.above (d6 I.lt)
theorem Inv.nofs(I:Inv X pins σ H s)(h:s.heap.objs.size<=a):a∉X.fs:=λhb=>by obtain⟨_,o,ho,_⟩:=I.ok.funs.mem hb;exact aq (br (aD ho) (bF I.sz h)) (cY _)
theorem Inv.cne(I:Inv X pins σ H s):∀x c,X.env.cells.lookup x=some c->c≠X.env.locals:=λx c e z=>by obtain⟨v,o,ho,hd⟩:=I.cell x c e;obtain⟨m,⟨o',es,ep,ho',hd',_⟩,_⟩:=I.loc;rw[z,ho']at ho;cases ho;rw[hd']at hd;cases hd
theorem Inv.funs(I:Inv X pins σ H s):s.heap.FunFrames X.base X.outer:=by
 have all:∀(l:List Env),(∀b∈frs l,b∈X.fs)->X.s₀.heap.FunFrames X.base l->s.heap.FunFrames X.base l:=by
  intro l
  induction l with
  |nil=>intro _ _;trivial
  |cons env r ih=>intro hs hl;obtain⟨hk,⟨L,o,hf,hn,ho,hd⟩,hr⟩:=hl;have hL:L∈X.fs:=hs L (by unfold frs;rw[fM,hf];exact aO);obtain⟨sl,e⟩:=I.base.slot L o ho (I.ok.frf L hL) hL λz=>I.ok.exfs L z hL;exact⟨hk,⟨L,_,hf,hn,e,hd⟩,ih (λb hb=>hs b (by unfold frs;rw[fM,hf];exact aU _ hb)) hr⟩
 exact all X.outer (λ_ hb=>hb) I.ok.funs
theorem Inv.stack(I:Inv X pins σ H s):s.heap.FunFrames X.base X.stack:=by
 rcases I.ok.stk with e|⟨e,hf⟩
 ·rw[e];exact I.funs
 ·rw[e];obtain⟨m,hn,_⟩:=I.loc;refine .cons (by rw[I.ok.kind];decide) hf hn ?_ I.funs;exact Heap.get?_none_of_le (bF I.ok.bsz I.ok.above)
theorem Inv.stkSub(I:Inv X pins σ H s):∀b∈frs X.stack,b∈X.env.locals::X.fs:=λb hb=>by
 rcases I.ok.stk with e|⟨e,hf⟩
 ·rw[e]at hb;exact aU _ hb
 ·rw[e]at hb;unfold frs at hb;rw[fM,hf]at hb;exact hb
theorem Inv.stkFree(I:Inv X pins σ H s):∀b∈frs X.stack,H b=none:=λb hb=>by
 rcases aT.mp (I.stkSub b hb)with e|hb
 ·rw[e];exact I.free
 ·obtain⟨_,o,ho,_⟩:=I.ok.funs.mem hb;exact I.base.free b o ho (I.ok.frf b hb) λz=>I.ok.exfs b z hb
theorem Inv.step(I:Inv X pins σ H s)
  (hch:∀b∈ch,(b∈X.ex\/X.s₀.heap.objs.size<=b)/\b≠X.env.locals/\(∀x c,X.env.cells.lookup x=some c->c≠b)/\∀p∈X.pn++pins,p.1≠b)
  (keep:∀b o,b≠X.env.locals->b∉X.fs->b∉ch->s.heap.get? b=some o->H b=none->h'.get? b=some o)
  (slot:∀b o,b≠X.env.locals->b∈X.fs->b∉ch->s.heap.get? b=some o->H b=none->∃sl,h'.get? b=some { o with slots:=sl }) (free:∀b o,b∉ch->s.heap.get? b=some o->H b=none->H' b=none)
  (there:∀b o,b∉ch->s.heap.get? b=some o->∃o',h'.get? b=some o')
  (tups:∀b xs,H b=some (.tup xs)->H' b=some (.tup xs)) (frzs:∀b o u,H b=some (.frz o u)->H' b=some (.frz o u)) (tbls:∀b ps,H b=some (.tbl ps)->∃more,H' b=some (.tbl (ps++more)))
  (ns:∀m,s.heap.Ns X.env.locals m->h'.Ns X.env.locals m) (hok:HOk X.prog X.w H' h') (hg:cf g'):
  Inv X pins σ H' { s with heap:=h',gens:=g',drawn:=d',toks:=t' }:=by
 have neL:∀b o,X.s₀.heap.get? b=some o->b≠X.env.locals:=λb o e=>aH (br (aD e) I.ok.above);have neC:∀b o,X.s₀.heap.get? b=some o->b∉X.ex->b∉ch:=λb o e hx hb=>by
  rcases(hch b hb).1 with z|z
  ·exact hx z
  ·exact aq (br (aD e) z) (cY _)
 have cellK:∀x c,X.env.cells.lookup x=some c->∀v,s.heap.IsCell c v->h'.IsCell c v:=λx c e v ⟨o,ho,hd⟩=>by
  have nch:c∉ch:=λz=>(hch c z).2.2.1 x c e rfl;by_cases hc:c∈X.fs
  ·obtain⟨sl,q⟩:=slot c o (I.cne x c e) hc nch ho (I.freeC x c e);exact⟨_,q,hd⟩
  ·exact⟨o,keep c o (I.cne x c e) hc nch ho (I.freeC x c e),hd⟩
 refine⟨I.ok,I.os,hg,⟨λb o e n hb hx=>?_,λb o e n hb hx=>?_,λb o e n hx=>?_,λb o e hx=>?_,λb xs e=>tups b xs (I.base.tups b xs e),λb o xs e=>frzs b o xs (I.base.frzs b o xs e),λb ps e=>?_⟩,?_,λx c e=>?_,?_,λx c e=>?_,λp hp=>?_,hok,I.len⟩
 ·exact keep b o (neL b o e) hb (neC b o e hx) (I.base.keep b o e n hb hx) (I.base.free b o e n hx)
 ·obtain⟨sl,e1⟩:=I.base.slot b o e n hb hx;obtain⟨sl',e2⟩:=slot b _ (neL b o e) hb (neC b o e hx) e1 (I.base.free b o e n hx);exact⟨sl',e2⟩
 ·obtain⟨o',e1⟩:=I.base.there b o e hx;exact free b o' (neC b o e hx) e1 (I.base.free b o e n hx)
 ·obtain⟨o',e1⟩:=I.base.there b o e hx;exact there b o' (neC b o e hx) e1
 ·obtain⟨m1,e1⟩:=I.base.tbls b ps e;obtain⟨m2,e2⟩:=tbls b _ e1;exact⟨m1++m2,by rw[e2,Array.append_assoc]⟩
 ·obtain⟨m,hn,hl⟩:=I.loc;refine⟨m,ns m hn,λi x v e1 e2 e3=>?_⟩;obtain⟨u,r,l⟩:=hl i x v e1 e2 e3;refine⟨u,r,?_⟩;rcases l with l|⟨k,c,e,z⟩
  ·exact .inl l
  ·exact .inr ⟨k,c,e,cellK x c e _ z⟩
 ·obtain⟨v,z⟩:=I.cell x c e;exact⟨v,cellK x c e v z⟩
 ·obtain⟨m,⟨o,_,_,ho,_⟩,_⟩:=I.loc;exact free _ o (λz=>(hch _ z).2.1 rfl) ho I.free
 ·obtain⟨v,o,ho,hd⟩:=I.cell x c e;exact free c o (λz=>(hch c z).2.2.1 x c e rfl) ho (I.freeC x c e)
 ·obtain⟨e,n,ne,nf,d⟩:=I.pin p hp;have nch:p.1∉ch:=λz=>(hch p.1 z).2.2.2 p hp rfl;exact⟨keep p.1 p.2 ne nf nch e n,free p.1 p.2 nch e n,ne,nf,d⟩
theorem Inv.un(I:Inv X pins σ H s)(u:Un X.fs [] H H' s.heap h')(hok:HOk X.prog X.w H' h'):Inv X pins σ H' { s with heap:=h',toks:=t' }:=by
 obtain⟨m,⟨o,es,ep,ho,r⟩,_⟩:=id I.loc;obtain⟨sl,hL⟩:=u.any ho I.free (by simp);exact I.step (g':=s.gens) (d':=s.drawn) (ch:=[]) (λ_ z=>nomatch z) (λb o _ hb _ e n=>u.keep b o e n hb (by simp)) (λb o _ hb _ e n=>u.slot b o e n hb (by simp)) (λb o _ e n=>u.free b o e n (by simp)) (λb o _ e=>u.there b o e (by simp)) u.tups u.frzs u.tbls (λm' hm=>by
  obtain⟨o',es',ep',ho',r'⟩:=hm;rw[ho]at ho';cases ho';exact⟨_,es',ep',hL,r'⟩) hok I.bare
theorem Inv.call(I:Inv X pins σ H s)(u:Un (frs X.stack) ch H H' s.heap h')(hok:HOk X.prog X.w H' h')(hg:cf g')
  (hch:∀b∈ch,(b∈X.ex\/X.s₀.heap.objs.size<=b)/\b≠X.env.locals/\(∀x c,X.env.cells.lookup x=some c->c≠b)/\∀p∈X.pn++pins,p.1≠b):
  Inv X pins σ H' { s with heap:=h',gens:=g',drawn:=d',toks:=t' }:=by
 obtain⟨m,⟨o,es,ep,ho,r⟩,_⟩:=id I.loc;obtain⟨sl,hL⟩:=u.any ho I.free λz=>(hch _ z).2.1 rfl;exact I.step (ch:=ch) hch (λb o hL hb hc e n=>u.keep b o e n (λz=>(aT.mp (I.stkSub b z)).elim hL hb) hc) (λb o _ _ hc e n=>u.any e n hc) (λb o hc e n=>u.free b o e n hc) (λb o hc e=>u.there b o e hc) u.tups u.frzs u.tbls (λm' hm=>by
  obtain⟨o',es',ep',ho',r'⟩:=hm;rw[ho]at ho';cases ho';exact⟨_,es',ep',hL,r'⟩) hok hg
theorem Inv.turned(I:Inv X pins σ H s)(k:∀b o,b≠it->s.heap.get? b=some o->h'.get? b=some o)(hn:H it=none)(hL:it≠X.env.locals)
  (h1:it∈X.ex\/X.s₀.heap.objs.size<=it) (h2:∀x c,X.env.cells.lookup x=some c->c≠it) (h3:∀p∈X.pn++pins,p.1≠it):Inv X pins σ H { s with heap:=h',toks:=t' }:=by
 have nit:∀b u,H b=some u->b≠it:=λb u e z=>by rw[z,hn]at e;cases e
 refine I.step (g':=s.gens) (d':=s.drawn) (ch:=[it]) (λb hb=>?_) (λb o _ _ hc e _=>k b o (λz=>hc (by simp[z])) e) (λb o _ _ hc e _=>⟨o.slots,k b o (λz=>hc (by simp[z])) e⟩) (λ_ _ _ _ n=>n)
  (λb o hc e=>⟨o,k b o (λz=>hc (by simp[z])) e⟩) (λ_ _ e=>e) (λ_ _ _ e=>e) (λb ps e=>⟨#[],by rw[e];simp⟩) (λm hm=>?_) (λb u e=>?_) I.bare
 ·have e:b=it:=by simpa using hb
  subst e;exact⟨h1,hL,h2,h3⟩
 ·obtain⟨o,es,ep,ho,r⟩:=hm;exact⟨o,es,ep,k _ o (cM hL) ho,r⟩
 ·refine(I.hok b u e).stay (λc v hc q=>k c v ?_ q) (λ_ q=>q) λ_ _ q=>q;rcases hc with z|z
  ·rw[z];exact nit b u e
  ·exact nit c _ z
theorem Inv.tok(I:Inv X pins σ H s)(t:Nat):Inv X pins σ H { s with toks:=t }:=I.un (h':=s.heap) (t':=t) Un.refl I.hok
theorem Inv.kept(I:Inv X pins σ H s)(k:∀b u,s.heap.get? b=some u->h'.get? b=some u):Inv X pins σ H { s with heap:=h',toks:=t' }:=I.un (Un.kept k) (I.hok.kept k)
theorem Inv.laid(I:Inv X pins σ H s)(k:∀b u,s.heap.get? b=some u->h'.get? b=some u)(hp:s.heap.objs.size<=a)(new:mJ X.prog X.w (upd H a o) h' a o):
  Inv X pins σ (upd H a o) { s with heap:=h',toks:=t' }:=I.un (Un.laid k hp (I.hok.fresh hp)) (I.hok.laid k hp new)
theorem Inv.write{x e:Addr}(I:Inv X pins σ H s)(mu:Mut (H x))(he:e=x\/H e=some (.own x))(k:∀b u,b≠e->s.heap.get? b=some u->h'.get? b=some u)(heo:∃u,h'.get? e=some u)
  (new:mJ X.prog X.w (upd H x o) h' x o):Inv X pins σ (upd H x o) { s with heap:=h',toks:=t' }:=I.un (Un.write mu he k heo) (I.hok.write mu he k heo new)
theorem Inv.weak{σ':List (Option V)}(I:Inv X pins σ H s)(hl:σ'.length=σ.length)(w:∀(i:Nat) v,σ'[i]?=some (some v)->σ[i]?=some (some v)):Inv X pins σ' H s:=
 ⟨I.ok,I.os,I.bare,I.base,let ⟨m,hn,hl'⟩:=I.loc;⟨m,hn,λi x v e1 e2 e3=>hl' i x v e1 (w i v e2) e3⟩,I.cell,I.free,I.freeC,I.pin,I.hok,hl.trans I.len⟩
theorem Inv.pins_of{pins':List (Addr×Obj)}(I:Inv X pins σ H s)(h:∀p∈pins',s.heap.get? p.1=some p.2/\H p.1=none/\p.1≠X.env.locals/\p.1∉X.fs/\∀v,p.2.data≠.cell v):Inv X pins' σ H s:=
 ⟨I.ok,I.os,I.bare,I.base,I.loc,I.cell,I.free,I.freeC,λp hp=>(bg.mp hp).elim (λz=>I.pin p (bo _ z)) (h p),I.hok,I.len⟩
theorem yb(hN:N.Nodup){i:Nat}(a:N[i]?=some x)(b:N[j]?=some x):i=j:=by obtain⟨h1,e1⟩:=bq.mp a;obtain⟨h2,e2⟩:=bq.mp b;exact(fT hN).mp (e1.trans e2.symm)
theorem A4{A:aw}{i:Nat}{v:V}{Q:Unit->ae->Prop}(I:Inv X pins σ H s)(hN:X.N.Nodup)(hi:X.N[i]?=some x)(hx:Loc X.env.scope x)(r:RelV v u)
  (h:∀s',Inv X pins (σ.set i (some v)) H s'->(∃a,dm a s.heap s'.heap/\(a=X.env.locals\/X.env.cells.lookup x=some a))->Q () s') (hf:X.fn x=true\/X.env.scope.names.lookup x=some .local:=by first|exact .inl rfl|exact .inr rfl|assumption):af M A (storeName X.env x u) Q E s:=by
 obtain⟨m,hn,hl⟩:=id I.loc;have hcls:(X.env.scope.kind==.class||(X.env.scope.kind==.module&&X.env.locals != X.env.globals))=false:=by rw[I.ok.kind];rfl
 have hiσ:i<σ.length:=by rw[I.len];exact(bq.mp hi).1
 have cne:=I.cne;have tracked:∀{a:Addr} {h':Heap},(∃o,s.heap.get? a=some o/\H a=none)->dm a s.heap h'->HOk X.prog X.w H h':=λ{a h'} ha hs b ob e=>by
  obtain⟨_,_,hfree⟩:=ha;refine(I.hok b ob e).stay (λc w' hc q=>(hs.2 c ?_).trans q) (λ_ q=>q) λ_ _ q=>q;rintro rfl;rcases hc with rfl|hc
  ·rw[hfree]at e;cases e
  ·rw[hfree]at hc;cases hc
 rcases hx with hk|hk
 ·refine wpAny_storeName_local hk hn (λh' hn' hs=>?_) hcls;obtain⟨oL,_,_,hoL,_⟩:=id hn;refine h _ ⟨I.ok,I.os,I.bare,⟨λb o e n hb hx=>?_,λb o e n hb hx=>?_,I.base.free,λb o e hx=>?_,I.base.tups,I.base.frzs,I.base.tbls⟩,⟨_,hn',λj y v' e1 e2 e3=>?_⟩,λy c e=>?_,I.free,I.freeC,λp hp=>?_,tracked ⟨oL,hoL,I.free⟩ hs,by simpa using I.len⟩ ⟨_,hs,.inl rfl⟩
  ·exact(hs.2 b (aH (br (aD e) I.ok.above))).trans (I.base.keep b o e n hb hx)
  ·obtain⟨sl,e1⟩:=I.base.slot b o e n hb hx;exact⟨sl,(hs.2 b (aH (br (aD e) I.ok.above))).trans e1⟩
  ·obtain⟨o',e1⟩:=I.base.there b o e hx;exact⟨o',(hs.2 b (aH (br (aD e) I.ok.above))).trans e1⟩
  ·by_cases hj:j=i
   ·subst hj;rw[hi]at e1;cases e1;rw[eF hiσ]at e2;cases e2;exact⟨u,r,.inl ⟨hk,by simp⟩⟩
   ·rw[fJ (cM hj)]at e2;obtain⟨u',r',q⟩:=hl j y v' e1 e2 e3;refine⟨u',r',?_⟩;rcases q with ⟨k,e⟩|⟨k,c,e,z⟩
    ·refine .inl ⟨k,?_⟩;have:y≠x:=λe=>hj (yb hN e1 (e▸hi));simp[this,e]
    ·exact .inr ⟨k,c,e,z.sameBut hs (cne y c e)⟩
  ·obtain⟨w',z⟩:=I.cell y c e;exact⟨w',z.sameBut hs (cne y c e)⟩
  ·obtain⟨e,n,ne,nf,d⟩:=I.pin p hp;exact⟨(hs.2 p.1 ne).trans e,n,ne,nf,d⟩
 ·have hfn:X.fn x=true:=by
   rcases hf with z|z
   ·exact z
   ·rw[z]at hk;cases hk
  obtain⟨c,hc⟩:=I.ok.has x (.inl hk);obtain⟨w',z⟩:=I.cell x c hc;refine wpAny_storeName_cell I.ok.kind hk hc z (λh' hc' hs=>?_);obtain⟨oc,hoc,hocd⟩:=id z;refine h { s with heap:=h' } ⟨I.ok,I.os,I.bare,⟨λb o e n hb hx=>?_,λb o e n hb hx=>?_,I.base.free,λb o e hx=>?_,I.base.tups,I.base.frzs,I.base.tbls⟩,⟨m,hn.sameBut hs (cM (cne x c hc)),λj y v' e1 e2 e3=>?_⟩,λy c' e=>?_,I.free,I.freeC,λp hp=>?_,tracked ⟨oc,hoc,I.freeC x c hc⟩ hs,by simpa using I.len⟩ ⟨c,hs,.inr hc⟩
  ·exact(hs.2 b (aH (br (aD e) (I.ok.cab x c hfn hc)))).trans (I.base.keep b o e n hb hx)
  ·obtain⟨sl,e1⟩:=I.base.slot b o e n hb hx;exact⟨sl,(hs.2 b (aH (br (aD e) (I.ok.cab x c hfn hc)))).trans e1⟩
  ·obtain⟨o',e1⟩:=I.base.there b o e hx;exact⟨o',(hs.2 b (aH (br (aD e) (I.ok.cab x c hfn hc)))).trans e1⟩
  ·by_cases hj:j=i
   ·subst hj;rw[hi]at e1;cases e1;rw[eF hiσ]at e2;cases e2;exact⟨u,r,.inr ⟨.inl hk,c,hc,hc'⟩⟩
   ·rw[fJ (cM hj)]at e2;obtain⟨u',r',q⟩:=hl j y v' e1 e2 e3;refine⟨u',r',?_⟩;rcases q with q|⟨k,c',e,z'⟩
    ·exact .inl q
    ·refine .inr ⟨k,c',e,z'.sameBut hs ?_⟩;rintro rfl;exact hj (yb hN e1 (I.ok.inj _ _ _ e hc▸hi))
  ·by_cases hcc:c'=c
   ·subst hcc;exact⟨_,hc'⟩
   ·obtain⟨w2,z2⟩:=I.cell y c' e;exact⟨w2,z2.sameBut hs hcc⟩
  ·obtain⟨e,n,ne,nf,d⟩:=I.pin p hp;refine⟨(hs.2 p.1 ?_).trans e,n,ne,nf,d⟩;intro q;rw[q,hoc]at e;have q':oc=p.2:=bp e;exact d w' (by rw[<-q'];exact hocd)
theorem yc{A:aw}{i:Nat}{v:V}{Q:Unit->ae->Prop}(I:Inv X pins σ H s)(hN:X.N.Nodup)(hi:X.N[i]?=some x)(hx:Loc X.env.scope x)(r:RelV v u)
  (h:∀s',Inv X pins (σ.set i (some v)) H s'->Q () s') (hf:X.fn x=true\/X.env.scope.names.lookup x=some .local:=by first|exact .inl rfl|exact .inr rfl|assumption):af M A (storeName X.env x u) Q E s:=
 A4 I hN hi hx r (λs' I' _=>h s' I') hf
theorem Inv.call'(I:Inv X pins σ H s)(ho:s'.os=s.os)(u:Un (frs X.stack) ch H H' s.heap s'.heap)(hok:HOk X.prog X.w H' s'.heap)(hg:cf s'.gens)
  (hch:∀b∈ch,(b∈X.ex\/X.s₀.heap.objs.size<=b)/\b≠X.env.locals/\(∀x c,X.env.cells.lookup x=some c->c≠b)/\∀p∈X.pn++pins,p.1≠b):Inv X pins σ H' s':=by
 obtain⟨h',g',d',t',o'⟩:=s';have e:o'=s.os:=ho;subst e;exact I.call (g':=g') (t':=t') (d':=d') u hok hg hch
end
abbrev XK:=aa->Option Addr->Hp->Prop
abbrev St:=List (Option V)
abbrev VK:=V->Hp->Prop
abbrev TE:=St->Hp->VK->Prop
abbrev TT:=St->Hp->(Bool->Hp->Prop)->Prop
abbrev TA:=St->Hp->(List V->Hp->Prop)->Prop
structure Ends where
 nx:St->Hp->Prop
 rt:VK
 bk:St->Hp->Prop:=λ_ _=>False
 ct:St->Hp->Prop:=λ_ _=>False
abbrev TS:=Ends->St->Hp->Prop
def EP(X:Cx)(pins:List (Addr×Obj))(σ:St)(Q:VK)(u:aa)(s':ae):Prop:=∃v H',Inv X pins σ H' s'/\RelV v u/\Q v H'
def TP(X:Cx)(pins:List (Addr×Obj))(σ:St)(Q:Bool->Hp->Prop)(b:Bool)(s':ae):Prop:=∃H',Inv X pins σ H' s'/\Q b H'
def AP(X:Cx)(pins:List (Addr×Obj))(σ:St)(Q:List V->Hp->Prop)(us:List aa)(s':ae):Prop:=∃vs H',Inv X pins σ H' s'/\Vals vs us/\Q vs H'
def SP(X:Cx)(pins:List (Addr×Obj))(D:Ends)(f:Flow)(s':ae):Prop:=
 match f with
 |.next=>∃σ' H',Inv X pins σ' H' s'/\D.nx σ' H'
 |.brk=>∃σ' H',Inv X pins σ' H' s'/\D.bk σ' H'
 |.cont=>∃σ' H',Inv X pins σ' H' s'/\D.ct σ' H'
 |.ret u=>∃v σ' H',Inv X pins σ' H' s'/\RelV v u/\D.rt v H'
def PE(X:Cx)(e:Expr)(t:TE):Prop:=
 ∀(pins:List (Addr×Obj)) (s:ae) (σ:St) (H:Hp) (Q:VK),Inv X pins σ H s->t σ H Q->af (model X.prog X.w) X.A (eval e X.env) (EP X pins σ Q) X.xe s
def PT(X:Cx)(e:Expr)(t:TT):Prop:=
 ∀(pins:List (Addr×Obj)) (s:ae) (σ:St) (H:Hp) (Q:Bool->Hp->Prop),Inv X pins σ H s->t σ H Q->af (model X.prog X.w) X.A (isTrue e X.env (eval e X.env)) (TP X pins σ Q) X.xe s
def PW(X:Cx)(e:Expr)(t:TT):Prop:=
 ∀(whole:Sem aa) (pins:List (Addr×Obj)) (s:ae) (σ:St) (H:Hp) (Q:Bool->Hp->Prop),Inv X pins σ H s->t σ H Q->af (model X.prog X.w) X.A (isTrue e X.env whole) (TP X pins σ Q) X.xe s
variable{X:Cx}{e:Expr}
theorem PW.pt{t:TT}(h:PW X e t):PT X e t:=h _
def PA(X:Cx)(es:List Expr)(t:TA):Prop:=
 ∀(pos:Pos) (pins:List (Addr×Obj)) (s:ae) (σ:St) (H:Hp) (Q:List V->Hp->Prop),Inv X pins σ H s->t σ H Q->af (model X.prog X.w) X.A (spliced (aL pos (ao es X.env))) (AP X pins σ Q) X.xe s
def PS(X:Cx)(st:Stmt)(t:TS):Prop:=
 ∀(pins:List (Addr×Obj)) (s:ae) (σ:St) (H:Hp) (D:Ends),Inv X pins σ H s->t D σ H->af (model X.prog X.w) X.A (exec st X.env) (SP X pins D) X.xe s
def PSs(X:Cx)(st:List Stmt)(t:TS):Prop:=
 ∀(pins:List (Addr×Obj)) (s:ae) (σ:St) (H:Hp) (D:Ends),Inv X pins σ H s->t D σ H->af (model X.prog X.w) X.A (execs st X.env) (SP X pins D) X.xe s
theorem thn{α:Type}{t:Sem α}{Q Q':α->ae->Prop}{A:aw}{s:ae}(h:af M A t Q E s)(hQ:∀a s,Q a s->Q' a s):af M A t Q' E s:=aY h hQ λ_ _ x=>x
variable{pins:List (Addr×Obj)}{σ:St}{R:V->V->Hp->Prop}{pos:Pos}{Q:aa->ae->Prop}{op:c7}{t:TE}{c:Expr}
section
variable{X:Cx}
theorem bin{a b:Expr}{ta tb:TE}(ha:PE X a ta)(hb:PE X b tb){s:ae}{H:Hp}(I:Inv X pins σ H s)(h:ta σ H λx H1=>tb σ H1 λy H2=>R x y H2)
  {α:Type} {Q:α->ae->Prop} {f:aa->aa->Sem α}
  (hf:∀v u s2 x y H2,Inv X pins σ H2 s2->RelV x v->RelV y u->R x y H2->af (model X.prog X.w) X.A (f v u) Q X.xe s2):
  af (model X.prog X.w) X.A (eval a X.env) (λv s₁=>af (model X.prog X.w) X.A (eval b X.env) (λu s₂=>af (model X.prog X.w) X.A (f v u) Q X.xe s₂) X.xe s₁) X.xe s:=by
 refine thn (ha pins s σ H _ I h) λv s1 zz=>?_;obtain⟨x,H1,I1,r1,q1⟩:=zz;refine thn (hb pins s1 σ H1 _ I1 q1) λu s2 zz=>?_;obtain⟨y,H2,I2,r2,q2⟩:=zz;exact hf v u s2 x y H2 I2 r1 r2 q2
def qf(i:Nat):TE:=λσ H Q=>∃v,σ[i]?=some (some v)/\Q v H
def tC(v:V):TE:=λ_ H Q=>Q v H
theorem GP{i:Nat}(hN:X.N[i]?=some x)(hv:Vis X.env.scope x)(hd:(x==("__debug__" : Str))=false:=by decide)(hcd:(x==("__classdict__" : Str))=false:=by decide):PE X (.Name x pos) (qf i):=by
 intro pins s σ H Q I h;obtain⟨v,e,h⟩:=h;obtain⟨m,hn,hl⟩:=I.loc;obtain⟨u,r,l⟩:=hl i x v hN e hv;have fin:EP X pins σ Q u s:=⟨v,H,I,r,h⟩;rcases l with ⟨hk,hm⟩|⟨hk,c,hc,hcell⟩
 ·exact gG (wpAny_loadName_local I.ok.kind hk hn hm fin) hd
 ·rcases hk with hk|hk
  ·exact gG (wpAny_loadName_cell I.ok.kind hk hc hcell fin) hd
  ·exact gG (wpAny_loadName_free I.ok.kind hk hc hcell fin hcd) hd
theorem zf{i j pos}:PE X (.Constant (.int i) j pos) (tC (.int i)):=λ_ _ _ H _ I h=>wpAny_Constant_int ⟨.int i,H,I.tok _,⟨_,rfl⟩,h⟩
theorem KA{b j pos}:PE X (.Constant (.bool b) j pos) (tC (.bl b)):=λ_ _ _ H _ I h=>Constant_bool ⟨.bl b,H,I,rfl,h⟩
theorem GQ{j pos}:PE X (.Constant .none j pos) (tC .non):=λ_ _ _ H _ I h=>Constant_none ⟨.non,H,I,rfl,h⟩
theorem GR{x j pos}:PE X (.Constant (.str x) j pos) (tC (.str x)):=λ_ _ _ H _ I h=>Calls.Constant_str ⟨.str x,H,I.tok _,⟨_,rfl⟩,h⟩
def Gl(X:Cx)(x:Str):Prop:=X.env.kindOf x=some .globalImplicit
theorem qg{s:ae}{H:Hp}(I:Inv X pins σ H s)(hg:Gl X x)(hm:X.mg x=some u)(h:Q u s)
  (hd:(x==("__debug__" : Str))=false:=by decide):af (model X.prog X.w) X.A (eval (.Name x pos) X.env) Q E s:=
 gX I.ok.kind hg (Calls.loadGlobal_global (by rw[I.ok.glob];exact I.mod.glob.keeps I.bk) hm h) hd
theorem rV{s:ae}{H:Hp}(I:Inv X pins σ H s)(hg:Gl X x)(hm:X.mg x=none)(hv:b9 x=some u)(h:Q u s)
  (hn:x≠"__name__" := by decide) (hd:(x==("__debug__" : Str))=false:=by decide):af (model X.prog X.w) X.A (eval (.Name x pos) X.env) Q E s:=by
 obtain⟨mb,h1,h2⟩:=I.mod.blt;exact gX I.ok.kind hg (Calls.loadGlobal_builtin (by rw[I.ok.glob];exact I.mod.glob.keeps I.bk) hm (by rw[I.ok.blt];exact h1.keeps I.bk) ((h2 x hn).trans hv) h) hd
theorem z7{v:V}(hg:Gl X x)(hm:X.mg x=some u)(r:RelV v u)(hd:(x==("__debug__" : Str))=false:=by decide):PE X (.Name x pos) (tC v):=
 λ_ _ _ H _ I h=>qg I hg hm ⟨v,H,I,r,h⟩ hd
theorem Eg{v:V}(hg:Gl X x)(hm:X.mg x=none)(hv:b9 x=some u)(r:RelV v u)(hn:x≠"__name__" := by decide)(hd:(x==("__debug__" : Str))=false:=by decide):PE X (.Name x pos) (tC v):=
 λ_ _ _ H _ I h=>rV I hg hm hv ⟨v,H,I,r,h⟩ hn hd
variable{a b:Expr}{ta tb:TE}{pos:Pos}
def PC(X:Cx)(op:c7)(a b:Expr)(t:TE):Prop:=
 ∀(pins:List (Addr×Obj)) (s:ae) (σ:St) (H:Hp) (Q:VK),Inv X pins σ H s->t σ H Q->
  af (model X.prog X.w) X.A (eval a X.env) (λv s₁=>af (model X.prog X.w) X.A (eval b X.env) (λu s₂=>af (model X.prog X.w) X.A (aI op v u) (EP X pins σ Q) X.xe s₂) X.xe s₁) X.xe s
def tB(t:TE):TT:=λσ H Q=>t σ H λx H1=>∃c,x=.bl c/\Q c H1
theorem L7(h:PC X op a b t)(h1:cZ op b=false:=by first|exact nobehind _ (by decide) (by decide)|rfl):PT X (.Compare a [op] [b] pos) (tB t):=by intro pins s σ H Q I hw;refine ia (thn (h pins s σ H _ I hw) λv s1 h1=>thn h1 λu s2 h2=>thn h2 λc s3 zz=>?_) h1;obtain⟨x,H1,I1,r1,q1⟩:=zz;obtain⟨d,rfl,q⟩:=q1;cases r1;exact bZ ⟨H1,I1,q⟩
theorem GT(h:PE X e t)(he:∀whole,isTrue e X.env whole=(do let v<-whole;standAt e.pos;holding [v] (truthy v)):=by intro _;rfl):PT X e (tB t):=by intro pins s σ H Q I hw;refine isTrue_plain (thn (h pins s σ H _ I hw) λv s1 zz=>?_) (he _);obtain⟨x,H1,I1,r1,q1⟩:=zz;obtain⟨d,rfl,q⟩:=q1;cases r1;exact bZ ⟨H1,I1,q⟩
variable{tA tB':TT}{rest:List Expr}
def tOr(t u:TT):TT:=λσ H Q=>t σ H λc H1=>if c=true then Q true H1 else u σ H1 Q
def L8(t:TT):TT:=λσ H Q=>t σ H λc H1=>Q (!c) H1
theorem GU(ha:PT X a tA):PW X (.BoolOp .Or [a] pos) tA:=by
 intro wh pins s σ H Q I h;refine isTrue_or (thn (ha pins s σ H Q I h) λc s1 e=>?_);cases c with
 |false=>exact isTrue_or_nil e
 |true=>exact e
theorem KB(ha:PT X a tA)(hb:PW X (.BoolOp .Or (b::rest) pos) tB'):PW X (.BoolOp .Or (a::b::rest) pos) (tOr tA tB'):=by
 intro wh pins s σ H Q I h;refine isTrue_or (thn (ha pins s σ H _ I h) λc s1 zz=>?_);obtain⟨H1,I1,q1⟩:=zz;cases c with
 |true=>exact⟨H1,I1,q1⟩
 |false=>exact hb wh pins s1 σ H1 Q I1 q1
theorem GV(ha:PT X a tA):PT X (.UnaryOp .Not a pos) (L8 tA):=by intro pins s σ H Q I h;exact isTrue_not (ha pins s σ H (λc H1=>Q (!c) H1) I h)
def KC(ta tb:TE):TE:=λσ H Q=>ta σ H λx H1=>∃c,x=.bl c/\if c=true then tb σ H1 Q else Q (.bl false) H1
def KD(ta:TE):TE:=λσ H Q=>ta σ H λx H1=>∃c,x=.bl c/\Q (.bl (!c)) H1
theorem GW{op}(h:PE X a t):PE X (.BoolOp op [a] pos) t:=λpins s σ H Q I hw=>BoolOp_one (h pins s σ H Q I hw)
theorem GY(ha:PE X a ta)(hb:PE X (.BoolOp .And (b::rest) pos) tb):PE X (.BoolOp .And (a::b::rest) pos) (KC ta tb):=by
 intro pins s σ H Q I h;refine BoolOp_and (thn (ha pins s σ H _ I h) λv s1 zz=>?_);obtain⟨x,H1,I1,r1,q1⟩:=zz;obtain⟨c,rfl,q1⟩:=q1;cases r1;refine bZ ?_;cases c with
 |true=>exact hb pins s1 σ H1 Q I1 q1
 |false=>exact⟨.bl false,H1,I1,rfl,q1⟩
theorem GZ(ha:PE X a ta):PE X (.UnaryOp .Not a pos) (KD ta):=by intro pins s σ H Q I h;refine UnaryOp_ (thn (ha pins s σ H _ I h) λv s1 zz=>?_);obtain⟨x,H1,I1,r1,q1⟩:=zz;obtain⟨c,rfl,q1⟩:=q1;cases r1;exact not_of (bZ ⟨.bl (!c),H1,I1,rfl,q1⟩)
def tIf(t:TT)(ta tb:TE):TE:=λσ H Q=>t σ H λc H1=>if c=true then ta σ H1 Q else tb σ H1 Q
theorem B5(hc:PT X c tA)(ha:PE X a ta)(hb:PE X b tb):PE X (.IfExp c a b pos) (tIf tA ta tb):=by
 intro pins s σ H Q I h;refine wpAny_IfExp (thn (hc pins s σ H _ I h) λd s1 zz=>?_);obtain⟨H1,I1,q1⟩:=zz;cases d with
 |true=>exact ha pins s1 σ H1 Q I1 q1
 |false=>exact hb pins s1 σ H1 Q I1 q1
end
def SqL(K:ai)(H:Hp)(a:Addr)(xs:List V):Prop:=
 Rd H a (.lst xs)\/
  ∃(o:Obj) (its:Array aa) (n:Nat),K.lookup a=some o/\o.cls=.type "list" /\ o.dict=none/\o.data=.seq its n/\its.size<=av/\Vals xs its.toList
def SqT(K:ai)(H:Hp)(a:Addr)(xs:List V):Prop:=
 Rd H a (.tup xs)\/
  ∃(o:Obj) (its:Array aa) (n:Nat),K.lookup a=some o/\o.cls=.type "tuple" /\ o.data=.seq its n/\its.size<=av/\Vals xs its.toList
def L9:aa->Option V
 |.none=>some .non
 |.bool b=>some (.bl b)
 |.int i _=>some (.int i)
 |.str x _=>some (.str x)
 |.bytes b _=>some (.byt b)
 |.float b _=>some (.flt b)
 |.ref a=>some (.ref a)
 |.type n=>some (.ty n)
 |_=>none
theorem RelV.abs{x:V}(r:RelV x u):L9 u=some x:=by
 cases x with
 |non=>cases r;rfl
 |bl _=>cases r;rfl
 |int _=>obtain⟨t,rfl⟩:=r;rfl
 |str _=>obtain⟨t,rfl⟩:=r;rfl
 |byt _=>obtain⟨t,rfl⟩:=r;rfl
 |flt _=>obtain⟨t,rfl⟩:=r;rfl
 |ref _=>cases r;rfl
 |ty _=>cases r;rfl
variable{y:V}
theorem RelV.inj{x:V}(r:RelV x u)(q:RelV y u):x=y:=bp (r.abs.symm.trans q.abs)
theorem Vals.inj:∀{xs ys:List V} {us:List aa},Vals xs us->Vals ys us->xs=ys
 |_,_,_,.nil,.nil=>rfl
 |_,_,_,.cons r t,.cons r' t'=>by rw[r.inj r',Vals.inj t t']
section
variable{X:Cx}{pins:List (Addr×Obj)}{σ:St}{H:Hp}{s:ae}{a:Addr}{xs ys:List V}
theorem SqL.of{K:ai}(h:H a=some (.lst xs)):SqL K H a xs:=.inl (.inl h)
theorem SqT.of{K:ai}(h:H a=some (.tup xs)):SqT K H a xs:=.inl (.inl h)
theorem Inv.list(I:Inv X pins σ H s)(h:SqL X.K H a xs):∃its:List aa,Vals xs its/\PlainL s.heap a its.toArray/\xs.length<=av:=by
 rcases h with h|⟨o,its,n,hk,hc,hd,hs,hz,r⟩
 ·obtain⟨z,its,n,r,e⟩:=h.ok I.hok;exact⟨its,r,⟨_,n,e,rfl,rfl,rfl⟩,z⟩
 ·refine⟨its.toList,r,⟨o,n,I.kIn a o hk,hc,hd,by simpa using hs⟩,?_⟩;have e:=r.length;simp only[ir]at e;omega
theorem Inv.tuple(I:Inv X pins σ H s)(h:SqT X.K H a xs):∃its:List aa,Vals xs its/\IsTup s.heap a its.toArray/\xs.length<=av:=by
 rcases h with h|⟨o,its,n,hk,hc,hs,hz,r⟩
 ·obtain⟨z,its,r,p⟩:=h.ok I.hok;exact⟨its,r,p,z⟩
 ·refine⟨its.toList,r,⟨o,I.kIn a o hk,hc,n,by simpa using hs⟩,?_⟩;have e:=r.length;simp only[ir]at e;omega
theorem Inv.list_inj(I:Inv X pins σ H s)(h:SqL X.K H a xs)(h':SqL X.K H a ys):xs=ys:=by
 obtain⟨its,r,⟨o,n,e,_,_,d⟩,_⟩:=I.list h;obtain⟨its',r',⟨o',n',e',_,_,d'⟩,_⟩:=I.list h';rw[e]at e';cases e';rw[d]at d';injection d' with d1 _;have:its=its':=by simpa using aQ jA d1
 subst this;exact r.inj r'
theorem Inv.tuple_inj(I:Inv X pins σ H s)(h:SqT X.K H a xs)(h':SqT X.K H a ys):xs=ys:=by
 obtain⟨its,r,⟨o,e,_,n,d⟩,_⟩:=I.tuple h;obtain⟨its',r',⟨o',e',_,n',d'⟩,_⟩:=I.tuple h';rw[e]at e';cases e';rw[d]at d';injection d' with d1 _;have:its=its':=by simpa using aQ jA d1
 subst this;exact r.inj r'
end
abbrev Cx.wish(X:Cx)(E:aa->ae->Prop):Cx:={ X with xe:=E }
abbrev Cx.nox(X:Cx):Cx:=X.wish λ_ _=>False
theorem Cx.Ok.wish(ok:X.Ok)(E:aa->ae->Prop):(X.wish E).Ok:=
 ⟨ok.mod,ok.kind,ok.glob,ok.blt,ok.above,ok.inj,ok.has,ok.cab,ok.hd,ok.frames,ok.stk,ok.exf,ok.bs,ok.bsz,ok.noex,ok.exfs,ok.funs,ok.frf⟩
theorem Cx.Ok.unwish(ok:(X.wish E).Ok):X.Ok:=
 ⟨ok.mod,ok.kind,ok.glob,ok.blt,ok.above,ok.inj,ok.has,ok.cab,ok.hd,ok.frames,ok.stk,ok.exf,ok.bs,ok.bsz,ok.noex,ok.exfs,ok.funs,ok.frf⟩
section
variable{X:Cx}{pins:List (Addr×Obj)}{σ:St}{H:Hp}{s:ae}{E:aa->ae->Prop}
theorem Inv.wish(I:Inv X pins σ H s)(E:aa->ae->Prop):Inv (X.wish E) pins σ H s:=⟨I.ok.wish E,I.os,I.bare,I.base,I.loc,I.cell,I.free,I.freeC,I.pin,I.hok,I.len⟩
theorem Inv.unwish(I:Inv (X.wish E) pins σ H s):Inv X pins σ H s:=⟨I.ok.unwish,I.os,I.bare,I.base,I.loc,I.cell,I.free,I.freeC,I.pin,I.hok,I.len⟩
theorem SP.unwish{D:Ends}{f:Flow}(h:SP (X.wish E) pins D f s'):SP X pins D f s':=by
 cases f with
 |next=>obtain⟨σ',H',I,q⟩:=h;exact⟨σ',H',I.unwish,q⟩
 |brk=>obtain⟨σ',H',I,q⟩:=h;exact⟨σ',H',I.unwish,q⟩
 |cont=>obtain⟨σ',H',I,q⟩:=h;exact⟨σ',H',I.unwish,q⟩
 |ret u=>obtain⟨v,σ',H',I,r,q⟩:=h;exact⟨v,σ',H',I.unwish,r,q⟩
theorem PSs.nox{st:List Stmt}{t:TS}(h:PSs X.nox st t):PSs X st t:=λpins s σ H D I hw=>
 aY (h pins s σ H D (I.wish _) hw) (λ_ _ q=>q.unwish) λ_ _ z=>bx z
end
section
variable{X:Cx}{st:Stmt}{rest:List Stmt}{t u:TS}{e:Expr}{te:TE}{pos:Pos}
def KE:TS:=λD σ H=>D.nx σ H
def Ma(t u:TS):TS:=λD σ H=>t { D with nx:=u D } σ H
theorem z8:PSs X [] KE:=λ_ _ σ H _ I h=>dS ⟨σ,H,I,h⟩
theorem sq(h1:PS X st t)(h2:PSs X rest u):PSs X (st::rest) (Ma t u):=by
 intro pins s σ H D I h;refine fU (thn (h1 pins s σ H { D with nx:=u D } I h) λf s1 q=>?_);cases f with
 |next=>obtain⟨σ',H',I',q⟩:=q;exact h2 pins s1 σ' H' D I' q
 |ret v=>exact q
 |brk=>exact q
 |cont=>exact q
theorem uH(h1:PS X st t):PSs X [st] t:=by
 intro pins s σ H D I h;refine fU (thn (h1 pins s σ H D I h) λf s1 q=>?_);cases f with
 |next=>exact dS q
 |ret v=>exact q
 |brk=>exact q
 |cont=>exact q
theorem Inv.quiet{H:Hp}{s:ae}(I:Inv X pins σ H s):interactive X.env=false:=by simp[interactive,I.ok.kind]
def B6(te:TE):TS:=λD σ H=>te σ H λ_ H1=>D.nx σ H1
theorem xq(he:PE X e te)(hs:bH e none pos.line X.env=pure false:=by rfl):PS X (.Expr e pos) (B6 te):=by intro pins s σ H D I h;exact jg (thn (he pins s σ H _ I h) λv s1 ⟨x,H1,I1,r1,q1⟩=>⟨σ,H1,I1,q1⟩) I.quiet hs
def KF(te:TE):TS:=λD σ H=>te σ H D.rt
theorem zg(he:PE X e te):PS X (.Return (some e) pos) (KF te):=by intro pins s σ H D I h;exact wpAny_Return_some (thn (he pins s σ H _ I h) λv s1 ⟨x,H1,I1,r1,q1⟩=>⟨x,σ,H1,I1,r1,q1⟩)
def Mb(c:TT)(t u:TS):TS:=λD σ H=>c σ H λb H1=>if b=true then t D σ H1 else u D σ H1
theorem Gc{a b:List Stmt}{tc:TT}(hc:PT X c tc)(ha:PSs X a t)(hb:PSs X b u):PS X (.If c a b pos) (Mb tc t u):=by
 intro pins s σ H D I h;refine wpAny_If (thn (hc pins s σ H _ I h) λd s1 zz=>?_);obtain⟨H1,I1,q1⟩:=zz;cases d with
 |true=>exact ha pins s1 σ H1 D I1 q1
 |false=>exact hb pins s1 σ H1 D I1 q1
end
abbrev TG:=V->St->Hp->(St->Hp->Prop)->Prop
abbrev TGs:=List V->St->Hp->(St->Hp->Prop)->Prop
def PG(X:Cx)(target:Expr)(t:TG):Prop:=
 ∀(pins:List (Addr×Obj)) (s:ae) (σ:St) (H:Hp) (v:V) (u:aa) (Q:St->Hp->Prop),Inv X pins σ H s->RelV v u->t v σ H Q->
  af (model X.prog X.w) X.A (assign target X.env u) (λ_ s'=>∃σ' H',Inv X pins σ' H' s'/\Q σ' H') X.xe s
def PGs(X:Cx)(ts:List Expr)(t:TGs):Prop:=
 ∀(pins:List (Addr×Obj)) (s:ae) (σ:St) (H:Hp) (vs:List V) (us:List aa) (Q:St->Hp->Prop),Inv X pins σ H s->Vals vs us->t vs σ H Q->
  af (model X.prog X.w) X.A (assignInOrder ((bG ts X.env).map (·.2)) us) (λ_ s'=>∃σ' H',Inv X pins σ' H' s'/\Q σ' H') X.xe s
abbrev G0:=V->V->V->Hp->(Hp->Prop)->Prop
def KG(X:Cx)(t:G0):Prop:=
 ∀(pins:List (Addr×Obj)) (s:ae) (σ:St) (H:Hp) (o i v:V) (ov iv u:aa) (Q:Hp->Prop),Inv X pins σ H s->RelV o ov->RelV i iv->RelV v u->t o i v H Q->
  af (model X.prog X.w) X.A (setItem ov iv u) (λ_ s'=>∃H',Inv X pins σ H' s'/\Q H') X.xe s
variable{es:List Expr}{tg:Expr}{te:TE}
section
variable{X:Cx}{pos:Pos}
def pN(i:Nat):TG:=λv σ H Q=>Q (σ.set i (some v)) H
theorem z9{i:Nat}(hN:X.N.Nodup)(hi:X.N[i]?=some x)(hx:Loc X.env.scope x)(hf:X.fn x=true\/X.env.scope.names.lookup x=some .local:=by first|exact .inl rfl|exact .inr rfl|assumption):PG X (.Name x pos) (pN i):=by intro pins s σ H v u Q I r h;exact wpAny_assign_Name (yc I hN hi hx r (λs' I'=>⟨_,H,I',h⟩) hf)
def KH:TGs:=λvs σ H Q=>vs=[]/\Q σ H
def Gd(t:TG)(u:TGs):TGs:=λvs σ H Q=>∃v r,vs=v::r/\t v σ H λσ' H'=>u r σ' H' Q
theorem Eh:PGs X [] KH:=by intro pins s σ H vs us Q I r h;obtain⟨e,h⟩:=h;subst e;cases r;exact assignInOrder_nil ⟨σ,H,I,h⟩
theorem B7{t:TG}{u:TGs}(h1:PG X e t)(h2:PGs X es u)
  (hs:(bG (e::es) X.env).map (·.2)=assign e X.env::(bG es X.env).map (·.2):=by rfl):PGs X (e::es) (Gd t u):=by
 intro pins s σ H vs us Q I r h;obtain⟨v,vr,e1,h⟩:=h;subst e1;cases r with
 |cons r rr=>rw[hs];refine assignInOrder_cons (thn (h1 pins s σ H _ _ _ I r h) λ_ s1 zz=>?_);obtain⟨σ1,H1,I1,q1⟩:=zz;exact h2 pins s1 σ1 H1 _ _ Q I1 rr q1
def G1(K:ai)(n:Nat)(t:TGs):TG:=λv σ H Q=>∃a xs,v=.ref a/\SqT K H a xs/\xs.length=n/\t xs σ H Q
theorem G2{k:Nat}{t:TGs}{n:Nat}(hc:X.calm=true)(h:PGs X es t)
  (hn:(bG es X.env).length=n:=by rfl) (hst:(bG es X.env).findIdx? (·.1)=none:=by rfl):PG X (.Tuple es k pos) (G1 X.K n t):=by
 intro pins s σ H v u Q I r hw;obtain⟨a,xs,e1,hq,hl,hw⟩:=hw;subst e1;cases r;obtain⟨its,rv,ht,hz⟩:=I.tuple hq;refine assign_Tuple_tuple (I.ok.hd hc) ht (by simp[hn,<- hl,rv.length]) hst λh' hx=>?_;have I1:Inv X pins σ H { s with heap:=h' }:=I.kept (t':=s.toks) λb o e=>hx b o (aH (aD e)) e;exact h pins _ σ H xs _ Q I1 (by simpa using rv) hw
def KI(to ti:TE)(t:G0):TG:=λv σ H Q=>to σ H λo H1=>ti σ H1 λi H2=>t o i v H2 λH3=>Q σ H3
theorem G3{o i:Expr}{to ti:TE}{t:G0}(ho:PE X o to)(hi:PE X i ti)(hs:KG X t)
  (ha:∀v,assign (.Subscript o i pos) X.env v=(do
   let ov<-holding [v] (eval o X.env);let iv<-holding [v,ov] (eval i X.env)
   standAt pos
   holding [v,ov,iv] (setItem ov iv v)
   release [v,ov,iv] []):=by intro _;rfl):PG X (.Subscript o i pos) (KI to ti t):=by
 intro pins s σ H v u Q I r h;rw[ha];refine ar (bT (thn (ho pins s σ H _ I h) λov s1 zz=>?_));obtain⟨x,H1,I1,r1,q1⟩:=zz;refine ar (bT (thn (hi pins s1 σ H1 _ I1 q1) λiv s2 zz=>?_));obtain⟨y,H2,I2,r2,q2⟩:=zz;refine ar (gb (ar (bT (thn (hs pins s2 σ H2 x y v ov iv u _ I2 r1 r2 r q2) λ_ s3 zz=>?_))));obtain⟨H3,I3,q3⟩:=zz;exact wpAny_release ⟨σ,H3,I3,q3⟩
def rW(te:TE)(g:TG):TS:=λD σ H=>te σ H λx H1=>g x σ H1 D.nx
theorem B8{g:TG}(he:PE X e te)(hg:PG X tg g)(hs:swapsWithSole [tg] e pos.line X.env=pure false:=by rfl)(hw:swappedStores [tg] e X.env=pure none:=by rfl)
  (h1:(bG [tg] X.env).map (·.2)=[assign tg X.env]:=by rfl):PS X (.Assign [tg] e pos) (rW te g):=by
 intro pins s σ H D I h;refine wpAny_Assign_stores (thn (he pins s σ H _ I h) λv s1 zz=>?_) hs hw;obtain⟨x,H1,I1,r1,q1⟩:=zz;rw[h1];exact thn (hg pins s1 σ H1 x v _ I1 r1 q1) λ_ s2 q=>q
theorem G4{i:Nat}{pos':Pos}(hN:X.N.Nodup)(hi:X.N[i]?=some x)(hx:Loc X.env.scope x)(he:PE X e te)(hs:bH e (some (.Name x pos')) pos.line X.env=pure false:=by rfl)(hf:X.fn x=true\/X.env.scope.names.lookup x=some .local:=by first|exact .inl rfl|exact .inr rfl|assumption):
  PS X (.Assign [.Name x pos'] e pos) (rW te (pN i)):=by
 intro pins s σ H D I h;refine wpAny_Assign_Name (thn (he pins s σ H _ I h) λv s1 zz=>?_) hs;obtain⟨y,H1,I1,r1,q1⟩:=zz;exact yc I1 hN hi hx r1 (λs2 I2=>⟨_,H1,I2,q1⟩) hf
end
structure It where
 go:Nat->Hp->Prop
 yld:Nat->Hp->V->Hp->Prop
 stop:Nat->Hp->Prop
def xu(X:Cx)(pins:List (Addr×Obj))(H:Hp)(b:Addr):Prop:=
 H b=none/\b≠X.env.locals/\b∉X.fs/\(b∈X.ex\/X.s₀.heap.objs.size<=b)/\(∀x c,X.env.cells.lookup x=some c->c≠b)/\∀p∈X.pn++pins,p.1≠b
theorem Inv.fpOk{H H':Hp}{s:ae}(I:Inv X pins σ H s)(hb:s.heap.objs.size<=b)(hn:H' b=none):xu X pins H' b:=by
 refine⟨hn,gj (br I.lt hb),I.nofs hb,.inr (bF I.sz hb),λx c e z=>?_,λp hp z=>?_⟩
 ·obtain⟨v,q⟩:=I.cell x c e;exact aq (br q.lt (by rw[z];exact hb)) (cY _)
 ·exact aq (br (aD (I.pin p hp).1) (by rw[z];exact hb)) (cY _)
structure Turn(P:au)(w:ak)(K:ai)(tg:Expr)(J:It)(fp:List Addr)(it:Addr)(tn:Nat->Heap->Prop):Prop where
 mem:it∈fp
 obj:∀i h,tn i h->∀b∈fp,∃o,h.get? b=some o/\∀v,o.data≠.cell v
 keep:∀i h h',tn i h->(∀b∈fp,∀o,h.get? b=some o->h'.get? b=some o)->tn i h'
 item:∀(X:Cx),X.prog=P->X.w=w->X.K=K->X.calm=true->∀(i:Nat) (pins:List (Addr×Obj)) (s:ae) (σ:St) (H:Hp) (E:aa->ae->Prop),Inv X pins σ H s->(∀b∈fp,xu X pins H b)->tn i s.heap->J.go i H->
  af (model P w) X.A (pyNext (.ref it)) (λr s1=>∃u,r=some u/\
   af (model P w) X.A (df tg (.ref it) u) (λ_ s2=>∃x H',Inv X pins σ H' s2/\RelV x u/\J.yld i H x H'/\tn (i+1) s2.heap/\∀b∈fp,H' b=none) E s1) E s
 done:∀(X:Cx),X.prog=P->X.w=w->X.K=K->X.calm=true->∀(i:Nat) (pins:List (Addr×Obj)) (s:ae) (σ:St) (H:Hp) (E:aa->ae->Prop),Inv X pins σ H s->(∀b∈fp,xu X pins H b)->tn i s.heap->J.stop i H->
  af (model P w) X.A (pyNext (.ref it)) (λr s1=>r=none/\Inv X pins σ H s1) E s
 self:∀(A:aw) (i:Nat) (s:ae) (Q:aa->ae->Prop) (E:aa->ae->Prop),tn i s.heap->Q (.ref it) s->af (model P w) A (pyIter (.ref it)) Q E s
abbrev TI:=St->Hp->(It->Hp->Prop)->Prop
def PIE(X:Cx)(pins:List (Addr×Obj))(σ:St)(tg:Expr)(R:It->Hp->Prop)(itv:aa)(s2:ae):Prop:=
 ∃(it:Addr) (fp:List Addr) (tn:Nat->Heap->Prop) (J:It) (H':Hp),itv=.ref it/\Inv X pins σ H' s2/\Turn X.prog X.w X.K tg J fp it tn/\tn 0 s2.heap/\(∀b∈fp,xu X pins H' b)/\R J H'
def PI(X:Cx)(tg iter:Expr)(wi:TI):Prop:=
 ∀(pins:List (Addr×Obj)) (s:ae) (σ:St) (H:Hp) (R:It->Hp->Prop),Inv X pins σ H s->wi σ H R->
  af (model X.prog X.w) X.A (eval iter X.env) (λv s1=>af (model X.prog X.w) X.A (pyIter v) (PIE X pins σ tg R) X.xe s1) X.xe s
theorem Aa{A:aw}{s:ae}{o:Obj}{n:String}{vs:Array aa}{Q:Unit->ae->Prop}(ho:s.heap.get? it=some o)(hc:o.cls=.type n)(hd:o.data=.fields vs)
  (hn:["enumerate", "zip", "dict_itemiterator", "dict_reverseitemiterator", "odict_iterator", "itertools.zip_longest", "itertools.pairwise"].contains n=false) (hQ:Q () s):af M A (df tg (.ref it) u) Q E s:=by
 unfold df;cases tg<;>first
  |exact ay hQ
  |(cases u<;>first
    |exact ay hQ
    |(refine ar (wpAny_load ho ?_)
      rw[hc,hd];show af M A (if (["enumerate", "zip", "dict_itemiterator", "dict_reverseitemiterator", "odict_iterator", "itertools.zip_longest", "itertools.pairwise"].contains n&&vs[0]?==some (rawInt _))=true then _ else _) Q E s;rw[ah (by intro h;rw[hn,Bool.false_and]at h;cases h)];exact ay hQ))
def Itl(K:ai)(a:Addr):It:=
 ⟨λi H=>∃xs x,SqL K H a xs/\xs[i]?=some x,λi H x H'=>H'=H/\∀xs,SqL K H a xs->xs[i]?=some x,λi H=>∃xs,SqL K H a xs/\xs.length<=i⟩
def Itt(K:ai)(a:Addr):It:=
 ⟨λi H=>∃xs x,SqT K H a xs/\xs[i]?=some x,λi H x H'=>H'=H/\∀xs,SqT K H a xs->xs[i]?=some x,λi H=>∃xs,SqT K H a xs/\xs.length<=i⟩
def Itr(lo:Int)(n:Nat):It:=⟨λi _=>i<n,λi H x H'=>H'=H/\x=.int (lo+i),λi _=>n<=i⟩
theorem A5{P:au}{w:ak}{K:ai}(a it:Addr):Turn P w K tg (Itl K a) [it] it (λi h=>h.IsListIter it a i) where
 mem:=by simp
 obj:=λi h st b hb=>by
  have e:b=it:=by simpa using hb
  subst e;obtain⟨o,e,c,d⟩:=st;exact⟨o,e,λv z=>by rw[d]at z;cases z⟩
 keep:=λi h h' st k=>st.at λo e=>k it (by simp) o e
 item:=by intro X hP hw hK hc i pins s σ H E I hf st hg;subst hP hw hK;obtain⟨xs,x,hq,hx⟩:=hg;obtain⟨its,rv,p,hz⟩:=I.list hq;obtain⟨u,hu,ru⟩:=rv.get hx;obtain⟨f0,f1,f2,f3,f4,f5⟩:=hf it (by simp);refine wpAny_pyNext_list_item st p.isList (x:=u) (by simpa using hu) λh' st' sb=>?_;have I1:Inv X pins σ H { s with heap:=h' }:=I.turned (t':=s.toks) (λb o hb e=>(sb.2 b hb).trans e) f0 f1 f3 f4 f5;obtain⟨o,e,c,d⟩:=id st';exact⟨u,rfl,Aa (s:={ s with heap:=h' }) e c d (by decide) ⟨x,H,I1,ru,⟨rfl,λys hy=>by rw[I.list_inj hy hq];exact hx⟩,st',λb hb=>(hf b hb).1⟩⟩
 done:=by intro X hP hw hK hc i pins s σ H E I hf st hg;subst hP hw hK;obtain⟨xs,hq,hx⟩:=hg;obtain⟨its,rv,p,hz⟩:=I.list hq;obtain⟨f0,f1,f2,f3,f4,f5⟩:=hf it (by simp);have hl:=rv.length;exact wpAny_pyNext_list_end (I.ok.hd hc) st p.isList (by simp;omega) λh' eb=>⟨rfl,I.turned (t':=s.toks) (λb o hb e=>eb b o hb e) f0 f1 f3 f4 f5⟩
 self:=λ_ _ _ _ _ st h=>wpAny_pyIter_listiter st h
theorem zh{P:au}{w:ak}{K:ai}(a it:Addr):Turn P w K tg (Itt K a) [it] it (λi h=>h.IsTupleIter it a i) where
 mem:=by simp
 obj:=λi h st b hb=>by
  have e:b=it:=by simpa using hb
  subst e;obtain⟨o,e,c,d⟩:=st;exact⟨o,e,λv z=>by rw[d]at z;cases z⟩
 keep:=λi h h' st k=>st.at λo e=>k it (by simp) o e
 item:=by intro X hP hw hK hc i pins s σ H E I hf st hg;subst hP hw hK;obtain⟨xs,x,hq,hx⟩:=hg;obtain⟨its,rv,p,hz⟩:=I.tuple hq;obtain⟨u,hu,ru⟩:=rv.get hx;obtain⟨f0,f1,f2,f3,f4,f5⟩:=hf it (by simp);refine wpAny_pyNext_tuple_item st (show s.heap.IsTuple a its.toArray from p) (x:=u) (by simpa using hu) λh' st' sb=>?_;have I1:Inv X pins σ H { s with heap:=h' }:=I.turned (t':=s.toks) (λb o hb e=>(sb.2 b hb).trans e) f0 f1 f3 f4 f5;obtain⟨o,e,c,d⟩:=id st';exact⟨u,rfl,Aa (s:={ s with heap:=h' }) e c d (by decide) ⟨x,H,I1,ru,⟨rfl,λys hy=>by rw[I.tuple_inj hy hq];exact hx⟩,st',λb hb=>(hf b hb).1⟩⟩
 done:=by intro X hP hw hK hc i pins s σ H E I hf st hg;subst hP hw hK;obtain⟨xs,hq,hx⟩:=hg;obtain⟨its,rv,p,hz⟩:=I.tuple hq;obtain⟨f0,f1,f2,f3,f4,f5⟩:=hf it (by simp);have hl:=rv.length;exact wpAny_pyNext_tuple_end (I.ok.hd hc) st (show s.heap.IsTuple a its.toArray from p) (by simp;omega) λh' eb=>⟨rfl,I.turned (t':=s.toks) (λb o hb e=>eb b o hb e) f0 f1 f3 f4 f5⟩
 self:=λ_ _ _ _ _ st h=>wpAny_pyIter_tupleiter st h
theorem zi{P:au}{w:ak}{K:ai}(it:Addr)(lo:Int)(n:Nat):Turn P w K tg (Itr lo n) [it] it (λi h=>IsRangeIter h it (lo+(i:Nat) * 1) ((n:Int) - (i:Nat)) 1) where
 mem:=by simp
 obj:=λi h st b hb=>by
  have e:b=it:=by simpa using hb
  subst e;exact⟨_,st,λv z=>by
   have z':Data.fields _=Data.cell v:=z;cases z'⟩
 keep:=λi h h' st k=>k it (by simp) _ st
 item:=by intro X hP hw hK hc i pins s σ H E I hf st hg;subst hP hw hK;obtain⟨f0,f1,f2,f3,f4,f5⟩:=hf it (by simp);have W:=Walks.range (prog:=X.prog) (w:=X.w) (I.ok.hd hc) it lo 1 n;refine W.item i s _ _ hg st λv h' tk hv st' kk=>?_;obtain⟨t,rfl⟩:=hv;have I1:Inv X pins σ H { s with heap:=h',toks:=tk }:=I.turned (λb o hb e=>kk b o (by simpa using hb) e) f0 f1 f3 f4 f5;refine⟨_,rfl,Aa (s:={ s with heap:=h',toks:=tk }) (n:="range_iterator") st' rfl rfl (by decide) ⟨.int (lo+i),H,I1,⟨t,?_⟩,⟨rfl,rfl⟩,st',λb hb=>(hf b hb).1⟩⟩;rw[Int.mul_one]
 done:=by intro X hP hw hK hc i pins s σ H E I hf st hg;subst hP hw hK;obtain⟨f0,f1,f2,f3,f4,f5⟩:=hf it (by simp);exact wpAny_pyNext_range_end (I.ok.hd hc) st (by have:n<=i:=hg;omega) λh' eb=>⟨rfl,I.turned (t':=s.toks) (λb o hb e=>eb b o hb e) f0 f1 f3 f4 f5⟩
 self:=λ_ _ _ _ _ st h=>wpAny_pyIter_rangeiter st h
variable{l:Expr}{tl:TE}{ta:TA}{p:Pos}{body:List Stmt}
section
variable{X:Cx}{tg:Expr}
def B9(K:ai)(tl:TE):TI:=λσ H R=>tl σ H λx H1=>∃a,x=.ref a/\(∃xs,SqL K H1 a xs)/\R (Itl K a) H1
def G5(K:ai)(tl:TE):TI:=λσ H R=>tl σ H λx H1=>∃a,x=.ref a/\(∃xs,SqT K H1 a xs)/\R (Itt K a) H1
theorem Ei(hl:PE X l tl):PI X tg l (B9 X.K tl):=by
 intro pins s σ H R I h;refine thn (hl pins s σ H _ I h) λv s1 zz=>?_;obtain⟨x,H1,I1,r1,q1⟩:=zz;obtain⟨a,e,⟨xs,hq⟩,q⟩:=q1;subst e;cases r1;obtain⟨its,rv,p,hz⟩:=I1.list hq;refine dJ p.isList ?_;refine⟨s1.heap.objs.size,[s1.heap.objs.size],_,_,H1,rfl,I1.kept (t':=s1.toks) λb o e=>aF _ e,A5 a _,⟨_,ba _ rfl,rfl,rfl⟩,λb hb=>?_,q⟩;have e:b=s1.heap.objs.size:=by simpa using hb
 subst e;exact I1.fpOk (aE _) (I1.hok.fresh (aE _))
theorem G6(hl:PE X l tl):PI X tg l (G5 X.K tl):=by
 intro pins s σ H R I h;refine thn (hl pins s σ H _ I h) λv s1 zz=>?_;obtain⟨x,H1,I1,r1,q1⟩:=zz;obtain⟨a,e,⟨xs,hq⟩,q⟩:=q1;subst e;cases r1;obtain⟨its,rv,p,hz⟩:=I1.tuple hq;refine iG (show s1.heap.IsTuple a its.toArray from p) ?_;refine⟨s1.heap.objs.size,[s1.heap.objs.size],_,_,H1,rfl,I1.kept (t':=s1.toks) λb o e=>aF _ e,zh a _,⟨_,ba _ rfl,rfl,rfl⟩,λb hb=>?_,q⟩;have e:b=s1.heap.objs.size:=by simpa using hb
 subst e;exact I1.fpOk (aE _) (I1.hok.fresh (aE _))
theorem yd{H:Hp}{s:ae}{R:It->Hp->Prop}{lo hi:Int}{t u v:Tok}{tk:Nat}(I:Inv X pins σ H s)(h1:-(2 ^ 62)<=lo)(h2:lo<2 ^ 62)(h3:-(2 ^ 62)<=hi)(h4:hi<2 ^ 62)
  (q:R (Itr lo (hi - lo).toNat) H):af (model X.prog X.w) X.A (pyIter (.ref s.heap.objs.size)) (PIE X pins σ tg R) E { s with heap:=s.heap.push { cls:=.type "range", data:=.fields #[.int lo t,.int hi u,.int 1 v] },toks:=tk }:=by
 refine wpAny_pyIter_range (IsRange.new ..) (small_one h1 h2 h3 h4) ?_;have I1:Inv X pins σ H { s with heap:=s.heap.push { cls:=.type "range", data:=.fields #[.int lo t,.int hi u,.int 1 v] },toks:=tk }:=I.kept λb o e=>aF _ e;refine⟨(s.heap.push { cls:=.type "range", data:=.fields #[.int lo t,.int hi u,.int 1 v] }).objs.size,[(s.heap.push { cls:=.type "range", data:=.fields #[.int lo t,.int hi u,.int 1 v] }).objs.size],_,_,H,rfl,
  I1.kept (t':=tk) λb o e=>aF _ e,zi _ lo (hi - lo).toNat,?_,λb hb=>?_,q⟩
 ·have e1:lo+((0:Nat):Int) * 1=lo:=by simp
  have e2:(((hi - lo).toNat:Nat):Int) - ((0:Nat):Int)=kq lo hi 1:=by rw[rangeSize_one];split<;>omega
  show IsRangeIter _ _ (lo+((0:Nat):Int) * 1) ((((hi - lo).toNat:Nat):Int) - ((0:Nat):Int)) 1;rw[e1,e2];exact ba _ rfl
 ·have e:b=(s.heap.push { cls:=.type "range", data:=.fields #[.int lo t,.int hi u,.int 1 v] }).objs.size:=by simpa using hb
  subst e;exact I1.fpOk (aE _) (I1.hok.fresh (aE _))
def Ge(ta:TA):TI:=λσ H R=>ta σ H λvs H1=>∃j:Int,vs=[.int j]/\-(2 ^ 62)<=j/\j<2 ^ 62/\R (Itr 0 j.toNat) H1
def Gf(ta:TA):TI:=λσ H R=>ta σ H λvs H1=>∃i j:Int,vs=[.int i,.int j]/\(-(2 ^ 62)<=i/\i<2 ^ 62/\-(2 ^ 62)<=j/\j<2 ^ 62)/\R (Itr i (j - i).toNat) H1
theorem A6{a:Expr}(hg:Gl X "range")(hm:X.mg "range" = none)(ha:PA X [a] ta)(hs:ao [a] X.env=[(false,eval a X.env)]:=by rfl):PI X tg (.Call (.Name "range" p) [a] [] pos) (Ge ta):=by
 intro pins s σ H R I h;refine Call_ (rV I hg hm boot_range (callWith_type1 (thn (ha pos pins s σ H _ I h) λus s1 zz=>?_) hs rfl));obtain⟨vs,H1,I1,r1,q1⟩:=zz;obtain⟨j,e,q1,q2,q⟩:=q1;subst e;cases r1 with
 |cons r rr=>cases rr;obtain⟨t,rfl⟩:=r;exact call_range_1 (yd I1 (by omega) (by omega) q1 q2 (by simpa using q))
theorem A7{a b:Expr}(hg:Gl X "range")(hm:X.mg "range" = none)(ha:PA X [a,b] ta)(hs:ao [a,b] X.env=[(false,eval a X.env),(false,eval b X.env)]:=by rfl)(hs2:ao [b] X.env=[(false,eval b X.env)]:=by rfl):
  PI X tg (.Call (.Name "range" p) [a,b] [] pos) (Gf ta):=by
 intro pins s σ H R I h;refine Call_ (rV I hg hm boot_range (callWith_type1 (thn (ha pos pins s σ H _ I h) λus s1 zz=>?_) (by rw[hs,hs2]) (by rw[hs2];rfl)));obtain⟨vs,H1,I1,r1,q1⟩:=zz;obtain⟨i,j,e,⟨q1,q2,q3,q4⟩,q⟩:=q1;subst e;cases r1 with
 |cons r rr=>
  cases rr with
  |cons r' rr=>cases rr;obtain⟨t,rfl⟩:=r;obtain⟨t',rfl⟩:=r';exact call_range_2 (yd I1 q1 q2 q3 q4 q)
def G7(wi:TI)(g:TG)(tb:TS):TS:=λD σ H=>wi σ H λJ H1=>∃W:Nat->Nat->St->Hp->Prop,(∃m,W 0 m σ H1)/\∀i m σ H,W i m σ H->
 (J.stop i H/\D.nx σ H)\/(J.go i H/\∃N:St->Hp->Prop,(∀σ' H',N σ' H'->∃m',m'<m/\W (i+1) m' σ' H')/\∀x H',J.yld i H x H'->g x σ H' λσ2 H2=>tb { D with nx:=N,ct:=N,bk:=D.nx } σ2 H2)
def uU(fp:List Addr)(h:Heap):List (Addr×Obj):=fp.filterMap λb=>(h.get? b).map λo=>(b,o)
theorem px{fp:List Addr}{h:Heap}{o:Obj}(hb:b∈fp)(e:h.get? b=some o):(b,o)∈uU fp h:=eJ.mpr ⟨b,hb,by rw[e];rfl⟩
theorem A8{fp:List Addr}{h:Heap}{p:Addr×Obj}(hp:p∈uU fp h):p.1∈fp/\h.get? p.1=some p.2:=by
 obtain⟨b,hb,e⟩:=eJ.mp hp;cases q:h.get? b with
 |none=>rw[q]at e;cases e
 |some o=>rw[q]at e;have e':(b,o)=p:=bp e;subst e';exact⟨hb,q⟩
theorem Inv.pinned{H:Hp}{s:ae}{fp:List Addr}(I:Inv X pins σ H s)(hf:∀b∈fp,xu X pins H b)(ho:∀b∈fp,∃o,s.heap.get? b=some o/\∀v,o.data≠.cell v):Inv X (pins++uU fp s.heap) σ H s:=
 I.pins_of λp hp=>(bg.mp hp).elim (λz=>I.pin p (aV _ z)) λz=>by obtain⟨hb,e⟩:=A8 z;obtain⟨f0,f1,f2,_⟩:=hf p.1 hb;obtain⟨o,e',d⟩:=ho p.1 hb;rw[e]at e';cases e';exact⟨e,f0,f1,f2,d⟩
theorem Inv.unpinned{pl:List (Addr×Obj)}{H:Hp}{s:ae}(I:Inv X (pins++pl) σ H s):Inv X pins σ H s:=I.pins_of λp hp=>I.pin p (aV _ (bo _ hp))
theorem Ca{iter:Expr}{wi:TI}{g:TG}{tb:TS}(hp:PassesOwn (model X.prog X.w) X.A X.env X.xe)(hc:X.calm=true)(hi:PI X tg iter wi)(hg:PG X tg g)(hb:PSs X body tb)
  (hs:∀x,dM iter X.env x=pure x:=by intro _;rfl):PS X (.For tg iter body [] pos) (G7 wi g tb):=by
 intro pins s σ H D I h;refine wpAny_For (thn (hi pins s σ H _ I h) λv s1 h1=>thn h1 λitv s2 h2=>?_) hs;obtain⟨it,fp,tn,J,H2,e,I2,T,st2,f2,W,⟨m0,w0⟩,turn⟩:=h2;subst e;have stat:∀{H':Hp},(∀b∈fp,H' b=none)->∀b∈fp,xu X pins H' b:=λhn b hb=>⟨hn b hb,(f2 b hb).2⟩;refine codeAny_forLoop_any (λn s'=>∃i σ' H',Inv X pins σ' H' s'/\tn i s'.heap/\(∀b∈fp,H' b=none)/\W i n σ' H') ?_ m0 ⟨0,σ,H2,I2,st2,λb hb=>(f2 b hb).1,w0⟩;rintro n s3 ⟨i,σ3,H3,I3,st3,fr3,w3⟩;rcases turn i n σ3 H3 w3 with ⟨stop,qn⟩|⟨go,N,hN,step⟩
 ·refine dU hp (thn (T.done X rfl rfl rfl hc i pins s3 σ3 H3 X.xe I3 (stat fr3) st3 stop) λr s4 zz=>?_);obtain⟨hr,I4⟩:=zz;subst hr;exact dS ⟨σ3,H3,I4,qn⟩
 ·refine dU hp (thn (T.item X rfl rfl rfl hc i pins s3 σ3 H3 X.xe I3 (stat fr3) st3 go) λr s4 zz=>?_);obtain⟨u,hr,h4⟩:=zz;subst hr;refine dU hp (thn h4 λ_ s5 zz=>?_);obtain⟨x,H5,I5,r5,y5,st5,fr5⟩:=zz;have I5':=I5.pinned (stat fr5) (T.obj _ _ st5);refine dU hp (thn (hg _ s5 σ3 H5 x u _ I5' r5 (step x H5 y5)) λ_ s6 zz=>?_);obtain⟨σ6,H6,I6,q6⟩:=zz;refine dU hp (thn (hb _ s6 σ6 H6 _ I6 q6) λf s7 q7=>?_);have again:∀{σ7:St} {H7:Hp},Inv X (pins++uU fp s5.heap) σ7 H7 s7->N σ7 H7->∃m,m<n/\∃i σ' H',Inv X pins σ' H' s7/\tn i s7.heap/\(∀b∈fp,H' b=none)/\W i m σ' H':=λ{σ7 H7} I7 n7=>by obtain⟨m',hm,w7⟩:=hN σ7 H7 n7;refine⟨m',hm,i+1,σ7,H7,I7.unpinned,T.keep _ _ _ st5 λb hb o e=>(I7.pin (b,o) (aV _ (aV _ (px hb e)))).1,λb hb=>?_,w7⟩;obtain⟨o,e,d⟩:=T.obj _ _ st5 b hb;exact(I7.pin (b,o) (aV _ (aV _ (px hb e)))).2.1
  cases f with
  |next=>obtain⟨σ7,H7,I7,n7⟩:=q7;exact again I7 n7
  |cont=>obtain⟨σ7,H7,I7,n7⟩:=q7;exact again I7 n7
  |brk=>obtain⟨σ7,H7,I7,q7⟩:=q7;exact⟨σ7,H7,I7.unpinned,q7⟩
  |ret v=>obtain⟨x7,σ7,H7,I7,r7,q7⟩:=q7;exact⟨x7,σ7,H7,I7.unpinned,r7,q7⟩
end
abbrev R2:=V->V->Hp->VK->Prop
def OpR(X:Cx)(f:aa->aa->Sem aa)(r:R2):Prop:=
 ∀(pins:List (Addr×Obj)) (s:ae) (σ:St) (H:Hp) (x y:V) (v u:aa) (Q:VK),Inv X pins σ H s->RelV x v->RelV y u->r x y H Q->
  af (model X.prog X.w) X.A (f v u) (EP X pins σ Q) X.xe s
def ng(X:Cx)(f:aa)(r:List V->Hp->VK->Prop):Prop:=
 ∀(pins:List (Addr×Obj)) (s:ae) (σ:St) (H:Hp) (xs:List V) (us:List aa) (Q:VK),Inv X pins σ H s->Vals xs us->r xs H Q->
  af (model X.prog X.w) X.A (call f us) (EP X pins σ Q) X.xe s
def tOp(r:R2)(ta tb:TE):TE:=λσ H Q=>ta σ H λx H1=>tb σ H1 λy H2=>r x y H2 Q
def rI(C:Int->Int->Prop)(g:Int->Int->V):R2:=λx y H Q=>∃i j,x=.int i/\y=.int j/\C i j/\Q (g i j) H
def rI0(g:Int->Int->V):R2:=λx y H Q=>∃i j,x=.int i/\y=.int j/\Q (g i j) H
variable{f:aa->aa->Sem aa}{r:R2}
section
variable{X:Cx}{a b c:Expr}{ta tb tc:TE}{pos:Pos}
theorem G8(ha:PE X a ta)(hb:PE X b tb){s:ae}{H:Hp}(I:Inv X pins σ H s)
  (h:ta σ H λx H1=>tb σ H1 λy H2=>R x y H2)
  (hf:∀v u s2 x y H2,Inv X pins σ H2 s2->RelV x v->RelV y u->R x y H2->af (model X.prog X.w) X.A (f v u) Q X.xe s2):
  af (model X.prog X.w) X.A (eval a X.env) (λv s₁=>af (model X.prog X.w) X.A (eval b X.env) (λu s₂=>af (model X.prog X.w) X.A (f v u) Q X.xe s₂) X.xe s₁) X.xe s:=by
 refine thn (ha pins s σ H _ I h) λv s1 zz=>?_;obtain⟨x,H1,I1,r1,q1⟩:=zz;refine thn (hb pins s1 σ H1 _ I1 q1) λu s2 zz=>?_;obtain⟨y,H2,I2,r2,q2⟩:=zz;exact hf v u s2 x y H2 I2 r1 r2 q2
theorem Cb{op:fB}(ho:OpR X (bX op) r)(ha:PE X a ta)(hb:PE X b tb):PE X (.BinOp a op b pos) (tOp r ta tb):=by intro pins s σ H Q I h;exact wpAny_BinOp (G8 ha hb I h λv u s2 x y H2 I2 rx ry q=>ho pins s2 σ H2 x y v u Q I2 rx ry q)
theorem opI{C:Int->Int->Prop}{g:Int->Int->Int}
  (rule:∀(i j:Int) (t u:Tok) (s:ae) (Q:aa->ae->Prop) (E:aa->ae->Prop),C i j->Q (.int (g i j) s.toks) { s with toks:=s.toks+1 }->af (model X.prog X.w) X.A (f (.int i t) (.int j u)) Q E s):
  OpR X f (rI C λi j=>.int (g i j)):=by
 intro pins s σ H x y v u Q I rx ry h;obtain⟨i,j,rfl,rfl,hc,q⟩:=h;obtain⟨t,rfl⟩:=rx;obtain⟨t',rfl⟩:=ry;exact rule i j t t' s _ _ hc ⟨.int (g i j),H,I.tok _,⟨_,rfl⟩,q⟩
theorem Mc{g:Int->Int->Int}
  (rule:∀(i j:Int) (t u:Tok) (s:ae) (Q:aa->ae->Prop) (E:aa->ae->Prop),Q (.int (g i j) s.toks) { s with toks:=s.toks+1 }->af (model X.prog X.w) X.A (f (.int i t) (.int j u)) Q E s):
  OpR X f (rI0 λi j=>.int (g i j)):=by
 intro pins s σ H x y v u Q I rx ry h;obtain⟨i,j,rfl,rfl,q⟩:=h;obtain⟨t,rfl⟩:=rx;obtain⟨t',rfl⟩:=ry;exact rule i j t t' s _ _ ⟨.int (g i j),H,I.tok _,⟨_,rfl⟩,q⟩
theorem Ej{g:Int->Int->Bool}
  (rule:∀(i j:Int) (t u:Tok) (s:ae) (Q:aa->ae->Prop) (E:aa->ae->Prop),Q (.bool (g i j)) s->af (model X.prog X.w) X.A (f (.int i t) (.int j u)) Q E s):
  OpR X f (rI0 λi j=>.bl (g i j)):=by
 intro pins s σ H x y v u Q I rx ry h;obtain⟨i,j,rfl,rfl,q⟩:=h;obtain⟨t,rfl⟩:=rx;obtain⟨t',rfl⟩:=ry;exact rule i j t t' s _ _ ⟨.bl (g i j),H,I,rfl,q⟩
def G9(i j:Int):Prop:=0<j/\j<1073741824
def KJ(i j:Int):Prop:=0<=j/\j<=1000000/\i.natAbs<2 ^ 64
def Ek(i j:Int):Prop:=(-(2 ^ 64)<i/\i<2 ^ 64)\/(-(2 ^ 64)<j/\j<2 ^ 64)
theorem Ek.ok{i j:Int}(h:Ek i j):IntMulOk i j:=by
 rcases h with ⟨h1,h2⟩|⟨h1,h2⟩
 ·exact .of_left (jq h1 h2)
 ·exact .of_right (jq h1 h2)
theorem He:OpR X (bX .Add) (rI0 λi j=>.int (i+j)):=Mc λ_ _ _ _ _ _ _ q=>add_int q
theorem Hf:OpR X (bX .Mult) (rI Ek λi j=>.int (i * j)):=opI λ_ _ _ _ _ _ _ hc q=>mul_int q hc.ok
theorem El:OpR X (bX .FloorDiv) (rI G9 λi j=>.int (i / j)):=opI λi j _ _ _ _ _ hc q=>by have h1:(0:Int)<j:=hc.1;have h2:j<1073741824:=hc.2;exact floordiv_int (by omega) (by rw[Int.fdiv_eq_ediv_of_nonneg i (by omega)];exact q) (.inl (PyProof.noPylong_small (by omega)))
theorem Hg:OpR X (bX .Mod) (rI (λ_ j=>0<j) λi j=>.int (i % j)):=opI λi j _ _ _ _ _ hc q=>by have h1:(0:Int)<j:=hc;exact mod_int' (by omega) (by rw[Int.fmod_eq_emod_of_nonneg i (by omega)];exact q)
theorem Hh:OpR X (bX .Pow) (rI KJ λi j=>.int (i ^ j.toNat)):=opI λ_ _ _ _ _ _ _ hc q=>pow_int_small hc.1 hc.2.1 hc.2.2 q
end
def Cd:V->V->Bool
 |.non,.non=>true|.non,.int _=>true|.int _,.non=>true|.non,.bl _=>true|.bl _,.non=>true|.non,.str _=>true|.str _,.non=>true
 |.int _,.int _=>true|.bl _,.bl _=>true|.str _,.str _=>true|.byt _,.byt _=>true
 |.int _,.str _=>true|.str _,.int _=>true|.bl _,.str _=>true|.str _,.bl _=>true
 |_,_=>false
def rEq:R2:=λx y H Q=>Cd x y=true/\Q (.bl (decide (x=y))) H
def rNe:R2:=λx y H Q=>Cd x y=true/\Q (.bl (!decide (x=y))) H
theorem Ab{i j:Int}:decide (V.int i=V.int j)=(i==j):=by rw[cE];simp
theorem Ce{i j:Bool}:decide (V.bl i=V.bl j)=(i==j):=by rw[cE];simp
theorem Ac{i j:Str}:decide (V.str i=V.str j)=(i==j):=by rw[cE];simp
theorem Ad{i j:Array UInt8}:decide (V.byt i=V.byt j)=(i.toList==j.toList):=by rw[cE];cases i;cases j;simp
variable{op':c7}{r':R2}
section
variable{X:Cx}{a b c:Expr}{ta tb tc:TE}{pos:Pos}
theorem mh{H:Hp}{s:ae}{Q:VK}{k k':Bool}(I:Inv X pins σ H s)(q:Q (.bl k) H)(e:k=k'):EP X pins σ Q (.bool k') s:=by subst e;exact⟨.bl k,H,I,rfl,q⟩
theorem KL:OpR X (aI .Eq) rEq:=by
 intro pins s σ H x y v u Q I rx ry h;obtain⟨hs,q⟩:=h;cases x with
 |non=>
  cases rx;cases y with
  |non=>cases ry;exact jV (mh I q (by simp))
  |bl j=>cases ry;exact jW (mh I q (by simp))
  |int j=>obtain⟨t',rfl⟩:=ry;exact j6 (mh I q (by simp))
  |str j=>obtain⟨t',rfl⟩:=ry;exact j7 (mh I q (by simp))
  |_=>exact aq (show false=true from hs) aP
 |bl i=>
  cases rx;cases y with
  |non=>cases ry;exact jX (mh I q (by simp))
  |bl j=>cases ry;exact eq_bool (mh I q Ce)
  |str j=>obtain⟨t',rfl⟩:=ry;exact jY (mh I q (by simp))
  |_=>exact aq (show false=true from hs) aP
 |int i=>
  obtain⟨t,rfl⟩:=rx;cases y with
  |non=>cases ry;exact j8 (mh I q (by simp))
  |int j=>obtain⟨t',rfl⟩:=ry;exact eq_int (mh I q Ab)
  |str j=>obtain⟨t',rfl⟩:=ry;exact j9 (mh I q (by simp))
  |_=>exact aq (show false=true from hs) aP
 |str i=>
  obtain⟨t,rfl⟩:=rx;cases y with
  |non=>cases ry;exact ka (mh I q (by simp))
  |bl j=>cases ry;exact jZ (mh I q (by simp))
  |int j=>obtain⟨t',rfl⟩:=ry;exact kc (mh I q (by simp))
  |str j=>obtain⟨t',rfl⟩:=ry;exact eq_str (mh I q Ac)
  |_=>exact aq (show false=true from hs) aP
 |byt i=>
  obtain⟨t,rfl⟩:=rx;cases y with
  |byt j=>obtain⟨t',rfl⟩:=ry;exact W.eq_bytes (mh I q Ad)
  |_=>exact aq (show false=true from hs) aP
 |_=>cases y<;>exact aq (show false=true from hs) aP
theorem KM:OpR X (aI .NotEq) rNe:=by
 intro pins s σ H x y v u Q I rx ry h;obtain⟨hs,q⟩:=h;cases x with
 |non=>
  cases rx;cases y with
  |non=>cases ry;exact j1 (mh I q (by simp))
  |bl j=>cases ry;exact j2 (mh I q (by simp))
  |int j=>obtain⟨t',rfl⟩:=ry;exact kg (mh I q (by simp))
  |str j=>obtain⟨t',rfl⟩:=ry;exact kh (mh I q (by simp))
  |_=>exact aq (show false=true from hs) aP
 |bl i=>
  cases rx;cases y with
  |non=>cases ry;exact j3 (mh I q (by simp))
  |bl j=>cases ry;exact ne_bool (mh I q (aQ not Ce))
  |str j=>obtain⟨t',rfl⟩:=ry;exact j4 (mh I q (by simp))
  |_=>exact aq (show false=true from hs) aP
 |int i=>
  obtain⟨t,rfl⟩:=rx;cases y with
  |non=>cases ry;exact kj (mh I q (by simp))
  |int j=>obtain⟨t',rfl⟩:=ry;exact ne_int (mh I q (aQ not Ab))
  |str j=>obtain⟨t',rfl⟩:=ry;exact kl (mh I q (by simp))
  |_=>exact aq (show false=true from hs) aP
 |str i=>
  obtain⟨t,rfl⟩:=rx;cases y with
  |non=>cases ry;exact km (mh I q (by simp))
  |bl j=>cases ry;exact j5 (mh I q (by simp))
  |int j=>obtain⟨t',rfl⟩:=ry;exact kn (mh I q (by simp))
  |str j=>obtain⟨t',rfl⟩:=ry;exact ne_str (mh I q (aQ not Ac))
  |_=>exact aq (show false=true from hs) aP
 |byt i=>
  obtain⟨t,rfl⟩:=rx;cases y with
  |byt j=>obtain⟨t',rfl⟩:=ry;exact W.ne_bytes (mh I q (aQ not Ad))
  |_=>exact aq (show false=true from hs) aP
 |_=>cases y<;>exact aq (show false=true from hs) aP
theorem KN:OpR X (aI .Lt) (rI0 λi j=>.bl (decide (i<j))):=Ej λ_ _ _ _ _ _ _ q=>lt_int q
theorem KO:OpR X (aI .LtE) (rI0 λi j=>.bl (decide (i<=j))):=Ej λ_ _ _ _ _ _ _ q=>le_int q
theorem KP:OpR X (aI .Gt) (rI0 λi j=>.bl (decide (j<i))):=Ej λ_ _ _ _ _ _ _ q=>gt_int q
theorem KQ:OpR X (aI .GtE) (rI0 λi j=>.bl (decide (j<=i))):=Ej λ_ _ _ _ _ _ _ q=>ge_int q
theorem Hk:OpR X (aI .Is) (λx y H Q=>y=.non/\Q (.bl (decide (x=.non))) H):=by
 intro pins s σ H x y v u Q I rx ry h;obtain⟨rfl,q⟩:=h;cases ry;refine is_none_gen (mh I q ?_);cases x<;>first
  |(cases rx;rfl)
  |(obtain⟨t,rfl⟩:=rx;rfl)
theorem Em:OpR X (aI .IsNot) (λx y H Q=>y=.non/\Q (.bl (!decide (x=.non))) H):=by
 intro pins s σ H x y v u Q I rx ry h;obtain⟨rfl,q⟩:=h;cases ry;refine isnot_none_gen (mh I q ?_);cases x<;>first
  |(cases rx;rfl)
  |(obtain⟨t,rfl⟩:=rx;rfl)
theorem En(ho:OpR X (aI op) r)(ha:PE X a ta)(hb:PE X b tb)(hm:cZ op b=false):PE X (.Compare a [op] [b] pos) (tOp r ta tb):=by intro pins s σ H Q I h;exact wpAny_Compare1 (G8 ha hb I h λv u s2 x y H2 I2 rx ry q=>ho pins s2 σ H2 x y v u Q I2 rx ry q) hm
def Cf(t:TE):TT:=λσ H Q=>t σ H λx H'=>∃k,x=.bl k/\Q k H'
theorem Eo(ho:OpR X (aI op) r)(ha:PE X a ta)(hb:PE X b tb)(hm:cZ op b=false):PT X (.Compare a [op] [b] pos) (Cf (tOp r ta tb)):=by
 intro pins s σ H Q I h;refine ia (thn (ha pins s σ H _ I h) λv s1 ⟨x,H1,I1,r1,q1⟩=>thn (hb pins s1 σ H1 _ I1 q1) λu s2 ⟨y,H2,I2,r2,q2⟩=>
  thn (ho pins s2 σ H2 x y v u _ I2 r1 r2 q2) λc s3 ⟨z,H3,I3,r3,k,e,q3⟩=>?_) hm
 subst e;cases r3;exact bZ ⟨H3,I3,q3⟩
def zj(r r':R2)(ta tb tc:TE):TE:=λσ H Q=>ta σ H λx H1=>tb σ H1 λy H2=>r x y H2 λz H3=>∃k,z=.bl k/\
 (if k=true then tc σ H3 λw' H4=>r' y w' H4 Q else Q (.bl false) H3)
theorem Cg(ho:OpR X (aI op) r)(ho':OpR X (aI op') r')(ha:PE X a ta)(hb:PE X b tb)(hc:PE X c tc)
  (hm:lastMarks [op,op'] [b,c]=false:=by with_unfolding_all rfl):PE X (.Compare a [op,op'] [b,c] pos) (zj r r' ta tb tc):=by
 intro pins s σ H Q I h;refine Compare_chain (thn (ha pins s σ H _ I h) λv s1 ⟨x,H1,I1,r1,q1⟩=>chain_link (thn (hb pins s1 σ H1 _ I1 q1) λu s2 ⟨y,H2,I2,r2,q2⟩=>
  thn (ho pins s2 σ H2 x y v u _ I2 r1 r2 q2) λd s3 ⟨z,H3,I3,r3,k,e,q3⟩=>?_)) hm
 subst e;cases r3;refine bZ ?_;cases k with
 |false=>exact ite_ff ⟨.bl false,H3,I3,rfl,q3⟩
 |true=>exact ite_tt (chain_last (thn (hc pins s3 σ H3 _ I3 q3) λw' s4 ⟨z',H4,I4,r4,q4⟩=>ho' pins s4 σ H4 y z' u w' Q I4 r2 r4 q4))
theorem Ci(ho:OpR X (aI op) r)(ho':OpR X (aI op') r')(ha:PE X a ta)(hb:PE X b tb)(hc:PE X c tc)
  (hm:lastMarks [op,op'] [b,c]=false:=by with_unfolding_all rfl):PT X (.Compare a [op,op'] [b,c] pos) (Cf (zj r r' ta tb tc)):=by
 intro pins s σ H Q I h;refine isTrue_chain (thn (ha pins s σ H _ I h) λv s1 ⟨x,H1,I1,r1,q1⟩=>test_link (thn (hb pins s1 σ H1 _ I1 q1) λu s2 ⟨y,H2,I2,r2,q2⟩=>
  thn (ho pins s2 σ H2 x y v u _ I2 r1 r2 q2) λd s3 ⟨z,H3,I3,r3,k,e,q3⟩=>?_)) hm
 subst e;cases r3;refine bZ ?_;cases k with
 |false=>obtain⟨k',e',q'⟩:=q3;cases e';exact ite_ff ⟨H3,I3,q'⟩
 |true=>refine ite_tt (test_last (thn (hc pins s3 σ H3 _ I3 q3) λw' s4 ⟨z',H4,I4,r4,q4⟩=>thn (ho' pins s4 σ H4 y z' u w' _ I4 r2 r4 q4) λd' s5 ⟨z2,H5,I5,r5,k2,e2,q5⟩=>?_));subst e2;cases r5;exact bZ ⟨H5,I5,q5⟩
theorem tw:(av:Nat)<2 ^ 63:=by rw[cb];decide
theorem vals1{x:V}(r:Vals [x] us):∃u,us=[u]/\RelV x u:=by
 cases r with
 |cons r1 r2=>cases r2;exact⟨_,rfl,r1⟩
theorem vals2{x:V}(r:Vals [x,y] us):∃u w',us=[u,w']/\RelV x u/\RelV y w':=by
 cases r with
 |cons r1 r2=>
  cases r2 with
  |cons r3 r4=>cases r4;exact⟨_,_,rfl,r1,r3⟩
theorem A9(hc:X.calm=true):ng X (.builtin "max") (λxs H Q=>∃i j,xs=[.int i,.int j]/\Q (.int (if j > i then j else i)) H):=by
 intro pins s σ H xs us Q I r h;obtain⟨i,j,rfl,q⟩:=h;obtain⟨u,w',rfl,⟨t,rfl⟩,⟨t',rfl⟩⟩:=vals2 r;refine max_two_ints (I.ok.hd hc) λh' tk k=>⟨_,H,I.kept k,?_,q⟩;by_cases hj:j > i
 ·rw[ag hj,ag hj];exact⟨_,rfl⟩
 ·rw[ah hj,ah hj];exact⟨_,rfl⟩
theorem Ba(hc:X.calm=true):ng X (.builtin "min") (λxs H Q=>∃i j,xs=[.int i,.int j]/\Q (.int (if j<i then j else i)) H):=by
 intro pins s σ H xs us Q I r h;obtain⟨i,j,rfl,q⟩:=h;obtain⟨u,w',rfl,⟨t,rfl⟩,⟨t',rfl⟩⟩:=vals2 r;refine min_two_ints (I.ok.hd hc) λh' tk k=>⟨_,H,I.kept k,?_,q⟩;by_cases hj:j<i
 ·rw[ag hj,ag hj];exact⟨_,rfl⟩
 ·rw[ah hj,ah hj];exact⟨_,rfl⟩
theorem Bb:ng X (.type "int") (λxs H Q=>(∃i,xs=[.int i]/\Q (.int i) H)\/∃k,xs=[.bl k]/\Q (.int (if k then 1 else 0)) H):=by
 intro pins s σ H xs us Q I r h;rcases h with ⟨i,rfl,q⟩|⟨k,rfl,q⟩
 ·obtain⟨u,rfl,t,rfl⟩:=vals1 r;exact call_int_int ⟨.int i,H,I,⟨_,rfl⟩,q⟩
 ·obtain⟨u,rfl,r1⟩:=vals1 r;cases r1;exact call_int_bool ⟨.int (if k then 1 else 0),H,I.tok _,⟨_,rfl⟩,q⟩
end
structure zk(h:Heap)(x dx C:Addr)(mA:Str->Option aa):Prop where
 obj:h.get? x=some (cJ C dx)
 ns:h.Ns1 dx mA
 ne:dx≠x
variable{dx:Addr}{mA:Str->Option aa}
theorem Bc{h:Heap}(n:h.Ns1 dx mA):∃od,h.get? dx=some od/\∀name,fC name od=some (mA name):=by
 obtain⟨o,es,ep,ho,hd,hk,_,hm⟩:=n;refine⟨o,ho,λname=>?_⟩;have e:=hm name;unfold nsFind findBy at e;rw[<-Array.find?_toList]at e;unfold fC;rw[hd];dsimp only;split
 ·rename_i y q;rw[q]at e;exact aQ some e
 ·rename_i q;rw[q]at e;have a:es.toList.any (·.refKey)=false:=by rw[iQ];intro y hy;obtain⟨z,t,hkey⟩:=hk y (Array.mem_toList_iff.mp hy);simp[DictEntry.refKey,hkey]
  have a':¬es.toList.any (·.refKey)=true:=by rw[a];exact aP
  rw[ah a'];exact aQ some e
variable{C:Addr}
theorem zk.look{h:Heap}{x:Addr}(I:zk h x dx C mA):∃od,W.InstAt h x (cJ C dx) C (some od)/\∀name,fC name od=some (mA name):=
 let ⟨od,ho,hl⟩:=Bc I.ns
 ⟨od,⟨I.obj,rfl,rfl,ho⟩,hl⟩
variable{kw:List (Str×aa)}
section
variable{prog:au}{w:ak}{A:aw}{E:aa->ae->Prop}{s:ae}{K:ai}{x dx C f:Addr}{mA:Str->Option aa}{name:Str}{v:aa}
theorem get_map{expr:Bool}(X:K.In s.heap)(I:zk s.heap x dx C mA)(hg:fo K C name=true)(hh:gw K C=true)
  (ha:bQ K (.ref C) name=some none) (hv:mA name=some v) (hv':W.handedIn v=true) (h:Q v { s with toks:=s.toks+1 }):
  af (model prog w) A (getAttr (.ref x) name expr) Q E s:=by
 obtain⟨od,J,hl⟩:=I.look;exact W.get_value X J (gd hg).1 (W.findObj_own hh ha rfl (by rw[hl,hv])) hv' h
theorem Cj{pl:Sem Bool}{Q:aa×List aa->ae->Prop}(X:K.In s.heap)(I:zk s.heap x dx C mA)(hg:fo K C name=true)
  (hf:bQ K (.ref C) name=some (some (.ref f))) (ht:fF K (.ref f)=true) (hv:mA name=none) (h:Q (.ref f,[.ref x]) s):
  af (model prog w) A (getMethod (.ref x) name pl) Q E s:=by
 obtain⟨od,J,hl⟩:=I.look;exact W.method_fn X J (gd hg).1 (gd hg).2 hf (beq_iff_eq.mp ht) (by show (fC name od).map (·.isSome)=some false;rw[hl,hv];rfl) h
theorem Ep{ns:List Str}{Q:Unit->ae->Prop}(X:K.In s.heap)(I:zk s.heap x dx C mA)
  (hs:bQ K (.ref C) "__setattr__" = some (some (.builtin "object.__setattr__"))) (hp:jJ K C=true) (ht:gV K C name=some none) (hh:gw K C=true)
  (hw:gh mA ns) (hsz:ns.length<=av)
  (h:∀h',zk h' x dx C (λy=>if y=name then some v else mA y)->dm dx s.heap h'->Q () { s with heap:=h',toks:=s.toks+2 }):
  af (model prog w) A (setAttr (.ref x) name v) Q E s:=by
 obtain⟨od,J,hl⟩:=I.look;refine W.set_plain X J hs (W.osa_open (s:={ s with toks:=s.toks+1 }) (r:=none) X J hp ht λb=>?_);obtain⟨cd,hc,hd'⟩:=W.any_some hh;have hx:s.heap.get? x=some ⟨.ref C,some dx,.plain,#[]⟩:=I.obj;refine ar (ay (ar (ar (wpAny_loadPart hx (ar (W.Looks.here (s:={ s with toks:=s.toks+1 }) (W.looks_clsIn X hc) ?_))))));rw[hd'];refine ay (a:=some dx) (ar (ay (ar ?_)));refine wpAny_nsSet1 (s:={ s with toks:=s.toks+1 }) I.ns λh' hn2 hs2=>?_;obtain⟨oD,esD,epD,hoD,hdD,hcD⟩:=hn2.count (lr name v hw);refine ar (wpAny_lookBehind hoD (by rw[hdD];exact pastItsLine_dict (bF hcD (by rw[aG];omega))) ?_);exact ay (h _ ⟨(hs2.2 _ (cM I.ne)).trans I.obj,hn2,I.ne⟩ hs2)
theorem ye{R:cN->ae->Prop}{vs:List aa}(X:K.In s.heap)(hm:W.makesIn K C=true)
  (hi:bQ K (.ref C) "__init__" = some (some (.ref f))) (hf:W.typeIn K (.ref f)=some (.type "function"))
  (h:bJ (model prog w) (A.under (.builtin "type.__call__" ⟨.ref C::vs,kw⟩)) (.call (.ref f) ⟨.ref (s.heap.objs.size+1)::vs,kw⟩) (W.InitBack (s.heap.objs.size+1) R)
   { s with heap:=(s.heap.push cn).push (cJ C s.heap.objs.size) }):
  bJ (model prog w) A (.call (.ref C) ⟨vs,kw⟩) R s:=by
 obtain⟨hh,g,d,t,os⟩:=s;exact W.make_core (W.makes_of X hm) (W.looks_findIn X hi) (λself=>W.bind_fn X self hf) (.inl rfl) h
end
def pZ(f:Str)(v:V):List (Str×V)->List (Str×V)
 |[]=>[(f,v)]
 |(g,x)::r=>if g=f then (g,v)::r else (g,x)::pZ f v r
theorem tW(f g:Str)(v:V):∀fs:List (Str×V),(pZ f v fs).lookup g=if g=f then some v else fs.lookup g
 |[]=>by
  show bU g [(f,v)]=_;by_cases h:g=f
  ·have hb:(g==f)=true:=beq_iff_eq.mpr h;simp only[bU,hb,ag h]
  ·have hb:(g==f)=false:=beq_eq_false_iff_ne.mpr h;simp only[bU,hb,ah h]
 |(k,x)::r=>by
  have ih:=tW f g v r;rw[show pZ f v ((k,x)::r)=(if k=f then (k,v)::r else (k,x)::pZ f v r) from rfl];by_cases hk:k=f
  ·rw[ag hk];by_cases h:g=k
   ·have hb:(g==k)=true:=beq_iff_eq.mpr h;simp only[bU,hb,ag (h.trans hk)]
   ·have hb:(g==k)=false:=beq_eq_false_iff_ne.mpr h;simp only[bU,hb,ah (λe:g=f=>h (e.trans hk.symm))]
  ·rw[ah hk];by_cases h:g=k
   ·have hb:(g==k)=true:=beq_iff_eq.mpr h;simp only[bU,hb,ah (λe:g=f=>hk (h.symm.trans e))]
   ·have hb:(g==k)=false:=beq_eq_false_iff_ne.mpr h;simp only[bU,hb];exact ih
theorem tD(f:Str)(v:V):∀fs:List (Str×V),f∈(pZ f v fs).map (·.1)/\∀g,g∈fs.map (·.1)->g∈(pZ f v fs).map (·.1)
 |[]=>⟨by simp[pZ],λg h=>by simp at h⟩
 |(k,x)::r=>by
  obtain⟨i1,i2⟩:=tD f v r;rw[show pZ f v ((k,x)::r)=(if k=f then (k,v)::r else (k,x)::pZ f v r) from rfl];by_cases hk:k=f
  ·rw[ag hk];subst hk;exact⟨by simp,λg h=>by simpa using h⟩
  ·rw[ah hk];refine⟨?_,λg h=>?_⟩
   ·rw[aK];exact aU _ i1
   ·rw[aK]at h ⊢;rcases aT.mp h with e|e
    ·exact aT.mpr (.inl e)
    ·exact aU _ (i2 g e)
theorem tX(f:Str)(v:V):∀fs:List (Str×V),(pZ f v fs).length<=fs.length+1
 |[]=>by simp[pZ]
 |(k,x)::r=>by
  have ih:=tX f v r;rw[show pZ f v ((k,x)::r)=(if k=f then (k,v)::r else (k,x)::pZ f v r) from rfl];by_cases hk:k=f
  ·rw[ag hk,aG,aG];omega
  ·rw[ah hk,aG,aG];omega
theorem rD.some_of{v:V}{o:Option aa}(r:rD (some v) o):∃u,o=some u/\RelV v u:=by
 cases o with
 |none=>exact(show False from r).elim
 |some u=>exact⟨u,rfl,r⟩
theorem rD.none_of{o:Option aa}(r:rD none o):o=none:=by
 cases o with
 |none=>rfl
 |some u=>exact(show False from r).elim
theorem Bd{v:V}(r:RelV v u):W.handedIn u=true:=by
 cases v with
 |non=>cases (show u=Value.none from r);rfl
 |bl b=>cases (show u=Value.bool b from r);rfl
 |int i=>obtain⟨t,e⟩:=(show ∃t,u=Value.int i t from r);cases e;rfl
 |str x=>obtain⟨t,e⟩:=(show ∃t,u=Value.str x t from r);cases e;rfl
 |byt b=>obtain⟨t,e⟩:=(show ∃t,u=Value.bytes b t from r);cases e;rfl
 |flt b=>obtain⟨t,e⟩:=(show ∃t,u=Value.float b t from r);cases e;rfl
 |ref a=>cases (show u=Value.ref a from r);rfl
 |ty n=>cases (show u=Value.type n from r);rfl
section
variable{P:au}{w:ak}{H H':Hp}{h h':Heap}{a C dx:Addr}{fs fs':List (Str×V)}
theorem uI(hok:HOk P w H h)(e:H a=some (.ins C dx fs)):∃mA,zk h a dx C mA/\(∀f,rD (fs.lookup f) (mA f))/\gh mA (fs.map (·.1))/\fs.length<=1000/\H dx=some (.own a):=by obtain⟨d,z,ne,ob,mA,n,r,q⟩:=(show mJ P w H h a (.ins C dx fs) from hok a _ e);exact⟨mA,⟨ob,n,ne⟩,r,q,z,d⟩
end
structure Cls(K:ai)(C:Addr):Prop where
 pg:fo K C Str.empty=true
 hd:gw K C=true
 po:jJ K C=true
 sa:bQ K (.ref C) "__setattr__" = some (some (.builtin "object.__setattr__"))
theorem Cls.get{K:ai}(c:Cls K C)(f:Str):fo K C f=true:=c.pg
def pz(K:ai)(C:Addr)(f:Str):Prop:=bQ K (.ref C) f=some none
theorem pz.taker{K:ai}{f:Str}(n:pz K C f):gV K C f=some none:=by unfold gV;rw[show bQ K (.ref C) f=some none from n];rfl
structure Meth(K:ai)(C:Addr)(m:Str)(f:Addr):Prop where
 at_:bQ K (.ref C) m=some (some (.ref f))
 fn:fF K (.ref f)=true
 kp:bY K (.ref f)=true
section
variable{X:Cx}{pins:List (Addr×Obj)}{σ:St}{H:Hp}{s:ae}{a C dx:Addr}{fs:List (Str×V)}{f:Str}{v:V}{A:aw}{E:aa->ae->Prop}
theorem zl{b:Bool}(I:Inv X pins σ H s)(e:H a=some (.ins C dx fs))(c:Cls X.K C)(n:pz X.K C f)(l:fs.lookup f=some v)
  (h:∀u s',Inv X pins σ H s'->RelV v u->Q u s'):af (model X.prog X.w) A (getAttr (.ref a) f b) Q E s:=by
 obtain⟨mA,O,r,_,_,_⟩:=uI I.hok e;obtain⟨u,hu,ru⟩:=rD.some_of (v:=v) (o:=mA f) (by rw[<-l];exact r f);exact get_map I.kIn O (c.get f) c.hd n hu (Bd ru) (h u _ (I.tok _) ru)
theorem uV{m:Str}{g:Addr}{pl:Sem Bool}{Q:aa×List aa->ae->Prop}(I:Inv X pins σ H s)(e:H a=some (.ins C dx fs))(c:Cls X.K C)(k:Meth X.K C m g)(l:fs.lookup m=none)
  (h:Q (.ref g,[.ref a]) s):af (model X.prog X.w) A (getMethod (.ref a) m pl) Q E s:=by
 obtain⟨mA,O,r,_,_,_⟩:=uI I.hok e;have hn:mA m=none:=rD.none_of (by rw[<-l];exact r m);exact Cj I.kIn O (c.get m) k.at_ k.fn hn h
theorem zm{Q:Unit->ae->Prop}(I:Inv X pins σ H s)(e:H a=some (.ins C dx fs))(c:Cls X.K C)(n:pz X.K C f)(hl:fs.length<1000)(ry:RelV y u)
  (h:∀s',Inv X pins σ (upd H a (.ins C dx (pZ f y fs))) s'->Q () s'):af (model X.prog X.w) A (setAttr (.ref a) f u) Q E s:=by
 obtain⟨mA,O,r,wi,_,ho⟩:=uI I.hok e;have hz:(fs.map (·.1)).length<=av:=by rw[aj,cb];omega
 refine Ep I.kIn O c.sa c.po n.taker c.hd wi hz λh' O' sb=>h _ ?_;have hd:∃o,h'.get? dx=some o:=let ⟨o,_,_,e',_⟩:=O'.ns;⟨o,e'⟩;refine I.write (x:=a) (e:=dx) (by rw[e];exact True.intro) (.inr ho) (λb q hb z=>(sb.2 b hb).trans z) hd ?_;refine⟨by rw[lO O.ne];exact ho,?_,O.ne,O'.obj,_,O'.ns,λg=>?_,λg hg=>?_⟩
 ·have:=tX f y fs;omega
 ·show rD ((pZ f y fs).lookup g) (if g=f then some u else mA g);rw[tW];by_cases q:g=f
  ·rw[ag q,ag q];exact ry
  ·rw[ah q,ah q];exact r g
 ·by_cases q:g=f
  ·rw[q];exact(tD f y fs).1
  ·refine(tD f y fs).2 g (wi g λz=>hg ?_);show (if g=f then some u else mA g)=none;rw[ah q];exact z
theorem Inv.made(I:Inv X pins σ H s):Inv X pins σ (upd (upd H s.heap.objs.size (.own (s.heap.objs.size+1))) (s.heap.objs.size+1) (.ins C s.heap.objs.size []))
  { s with heap:=(s.heap.push cn).push (cJ C s.heap.objs.size) }:=by
 have e1:(s.heap.push cn).get? s.heap.objs.size=some cn:=ba s.heap rfl;have e2:((s.heap.push cn).push (cJ C s.heap.objs.size)).get? (s.heap.objs.size+1)=some (cJ C s.heap.objs.size):=by
  have:=ba (s.heap.push cn) (o:=cJ C s.heap.objs.size) rfl
  rwa [dh]at this
 have e3:(s.heap.push cn).Ns s.heap.objs.size (λ_=>none):=⟨cn,#[],_,e1,rfl,(λe he=>aq he (by simp)),λ_=>rfl⟩;have I1:=I.laid (a:=s.heap.objs.size) (o:=.own (s.heap.objs.size+1)) (h':=s.heap.push cn) (t':=s.toks) (λb u q=>aF _ q) (aE _) ⟨_,e1⟩;refine I1.laid (a:=s.heap.objs.size+1) (o:=.ins C s.heap.objs.size []) (t':=s.toks) (λb u q=>aF _ q) (jB (dh _ _)) ?_;have ne:s.heap.objs.size≠s.heap.objs.size+1:=aH (dR _);refine⟨by rw[lO ne,lQ],cI _,ne,e2,λ_=>none,(Heap.Ns1.of_empty e3).at λo q=>aF _ q,λ_=>True.intro,λy hy=>aq rfl hy⟩
theorem Er{prog:au}{w:ak}{env:Env}{f:Str}{s:ae}(hb:c3 e f env (eval e env)=eval e env)
  (h:af (model prog w) A (eval e env) (λo s₁=>af (model prog w) A (getAttr o f true) Q E s₁) E s):af (model prog w) A (eval (.Attribute e f pos) env) Q E s:=
 Attribute_any_ h (by rw[arm_eval_Attribute,hb])
end
def Md(K:ai)(ta:TE)(f:Str):TE:=λσ H Q=>ta σ H λx H1=>∃a C dx fs v,x=.ref a/\H1 a=some (.ins C dx fs)/\Cls K C/\pz K C f/\fs.lookup f=some v/\Q v H1
def KR(K:ai)(ta tv:TE)(f:Str):TS:=λD σ H=>tv σ H λy H1=>ta σ H1 λx H2=>∃a C dx fs,x=.ref a/\H2 a=some (.ins C dx fs)/\Cls K C/\pz K C f/\fs.length<1000/\
 D.nx σ (upd H2 a (.ins C dx (pZ f y fs)))
section
variable{X:Cx}{o e value:Expr}{f:Str}{pos pos' tpos:Pos}{ta tv:TE}
theorem Hl(he:PE X e ta)(hb:c3 e f X.env (eval e X.env)=eval e X.env):PE X (.Attribute e f pos) (Md X.K ta f):=by intro pins s σ H Q I h;refine Er hb (thn (he pins s σ H _ I h) λu s1 zz=>?_);obtain⟨x,H1,I1,rx,a,C,dx,fs,v,ex,ea,c,n,l,q⟩:=zz;subst ex;obtain rfl:u=Value.ref a:=rx;exact zl I1 ea c n l λu' s2 I2 ru=>⟨v,H1,I2,ru,q⟩
theorem Hm(ha:PE X o ta)(hv:PE X value tv)(hs:bH value (some (.Attribute o f pos')) pos.line X.env=pure false):PS X (.Assign [.Attribute o f pos'] value pos) (KR X.K ta tv f):=by intro pins s σ H D I h;refine plainObj_wpAny_Assign_Attribute (thn (hv pins s σ H _ I h) λu s1 ⟨y,H1,I1,ry,q⟩=>thn (ha pins s1 σ H1 _ I1 q) λov s2 zz=>?_) hs;obtain⟨x,H2,I2,rx,a,C,dx,fs,ex,ea,c,n,l,q2⟩:=zz;subst ex;obtain rfl:ov=Value.ref a:=rx;exact zm I2 ea c n l ry λs3 I3=>⟨σ,_,I3,q2⟩
end
section
variable{X:Cx}{pins:List (Addr×Obj)}{σ:St}{H:Hp}{s:ae}{A:aw}{E:aa->ae->Prop}{Q:aa->ae->Prop}{c:aa}{b:Bool}
inductive uB(K:ai) (H:Hp):V->aa->Prop where
 |non:uB K H .non (.type "NoneType")
 |bl (x:Bool):uB K H (.bl x) (.type "bool")
 |int (i:Int):uB K H (.int i) (.type "int")
 |str (x:Str):uB K H (.str x) (.type "str")
 |flt (x:UInt64):uB K H (.flt x) (.type "float")
 |lst {a:Addr} {xs:List V} (e:H a=some (.lst xs)):uB K H (.ref a) (.type "list")
 |frz {a:Addr} {o:Obj} {xs:List V} (e:H a=some (.frz o (.lst xs))):uB K H (.ref a) (.type "list")
 |tup {a:Addr} {xs:List V} (e:H a=some (.tup xs)):uB K H (.ref a) (.type "tuple")
 |dK {a:Addr} {kvs:List (Key×V)} (e:H a=some (.dK kvs)):uB K H (.ref a) (.type "dict")
 |dT {a:Addr} {kvs:List (List Key×V)} (e:H a=some (.dT kvs)):uB K H (.ref a) (.type "dict")
 |ins {a C dx:Addr} {fs:List (Str×V)} (e:H a=some (.ins C dx fs)) (cl:Cls K C) (ha:bQ K (.ref C) "__class__" = some (some (.builtin "object.__class__")))
   (hn:jK K (.builtin "object.__class__") "__get__" = some (some (.builtin "getset_descriptor.__get__"))) (htk:W.takesIn K (.builtin "object.__class__")=some true)
   (hm:W.mroIn K C (.type "object")=some true):uB K H (.ref a) (.ref C)
theorem ph{x:V}{t:aa}(I:Inv X pins σ H s)(rx:RelV x u)(ty:uB X.K H x t)(e:bR X.K t c=some b)(h:∀tk,Q (.bool b) { s with toks:=tk }):
  af (model X.prog X.w) A (call (.builtin "isinstance") [u,c]) Q E s:=by
 cases ty with
 |non=>cases (show u=Value.none from rx);exact bI W.kitx_none I.kIn True.intro e (λz=>nomatch z) h
 |bl y=>cases (show u=Value.bool y from rx);exact bI W.kitx_bool I.kIn True.intro e (λz=>nomatch z) h
 |int i=>obtain⟨t,q⟩:=(show ∃t,u=Value.int i t from rx);cases q;exact bI W.kitx_int I.kIn True.intro e (λz=>nomatch z) h
 |str y=>obtain⟨t,q⟩:=(show ∃t,u=Value.str y t from rx);cases q;exact bI W.kitx_str I.kIn True.intro e (λz=>nomatch z) h
 |flt y=>obtain⟨t,q⟩:=(show ∃t,u=Value.float y t from rx);cases q;exact bI W.kitx_float I.kIn True.intro e (λz=>nomatch z) h
 |@lst a xs ea=>cases (show u=Value.ref a from rx);obtain⟨_,_,n,_,h1⟩:=(show mJ X.prog X.w H s.heap a (.lst xs) from I.hok a _ ea);exact bI gx I.kIn ⟨_,h1,rfl⟩ e (λz=>nomatch z) h
 |@frz a ob xs ea=>cases (show u=Value.ref a from rx);obtain⟨_,_,_,n,_,h1⟩:=(show mJ X.prog X.w H s.heap a (.frz ob (.lst xs)) from I.hok a _ ea);exact bI gx I.kIn ⟨_,h1,rfl⟩ e (λz=>nomatch z) h
 |@tup a xs ea=>cases (show u=Value.ref a from rx);obtain⟨_,_,_,p⟩:=(show mJ X.prog X.w H s.heap a (.tup xs) from I.hok a _ ea);obtain⟨o,h1,h2,_⟩:=p;exact bI jC I.kIn ⟨o,h1,h2⟩ e (λz=>nomatch z) h
 |@dK a kvs ea=>cases (show u=Value.ref a from rx);obtain⟨_,_,vs,_,p⟩:=(show mJ X.prog X.w H s.heap a (.dK kvs) from I.hok a _ ea);obtain⟨o,es,ep,h1,h2,_⟩:=p;exact bI gy I.kIn ⟨o,h1,h2.1⟩ e (λz=>nomatch z) h
 |@dT a kvs ea=>cases (show u=Value.ref a from rx);obtain⟨_,_,xs,_,o,es,ep,h1,h2,_⟩:=(show mJ X.prog X.w H s.heap a (.dT kvs) from I.hok a _ ea);exact bI gy I.kIn ⟨o,h1,h2.1⟩ e (λz=>nomatch z) h
 |@ins a C dx fs ea cl ha hn htk hm=>cases (show u=Value.ref a from rx);obtain⟨mA,O,_⟩:=uI I.hok ea;obtain⟨od,J,_⟩:=O.look;exact bI (W.kitx_own (cl.get _) cl.hd ha hn htk hm) I.kIn J e (λz=>nomatch z) h
end
structure mP(k:Nat)(A:aw):Prop where
 hd:A.handled=none
 dp:A.depth+3 * k+5<recursionLimit
 un:A.units+16 * k+200<cLine
theorem mP.mono{k:Nat}{A:aw}(r:mP k A)(h:j<=k):mP j A:=⟨r.hd,by have:=r.dp;omega,by have:=r.un;omega⟩
theorem mP.deeper{k:Nat}{A:aw}(r:mP (k+1) A)(env:Env):mP k (A.deeper env):=
 ⟨r.hd,by have:=r.dp;show A.depth+1+3 * k+5<_;omega,by have:=r.un;show A.units+3+16 * k+200<_;omega⟩
theorem zp{A:aw}:(A.under (.builtin "type.__call__" ⟨.ref C::us,kw⟩)).depth=A.depth+1:=by
 first|rfl|simp[gk,Code.weight,Code.isCreation,Code.isGuard,Code.isCaller,jL,gm,guardIds]
theorem zq{A:aw}:(A.under (.builtin "type.__call__" ⟨.ref C::us,kw⟩)).units=A.units+1:=by
 first|rfl|simp[gk,Code.cUnits,jL,gm]
theorem mP.make{k:Nat}{A:aw}(r:mP (k+1) A)(C:Addr)(us:List aa)(kw:List (Str×aa)):mP k (A.under (.builtin "type.__call__" ⟨.ref C::us,kw⟩)):=
 ⟨r.hd,by have:=r.dp;rw[zp];omega,by have:=r.un;rw[zq];omega⟩
theorem mP.depth{k:Nat}{A:aw}(r:mP k A):A.depth<recursionLimit:=by have:=r.dp;omega
theorem mP.units{k:Nat}{A:aw}(r:mP k A):A.units+64<cLine:=by have:=r.un;omega
def xw:TA:=λ_ H Q=>Q [] H
def uW(ta:TE)(tr:TA):TA:=λσ H Q=>ta σ H λx H1=>tr σ H1 λxs H2=>Q (x::xs) H2
section
variable{X:Cx}{e:Expr}{es:List Expr}{te:TE}{t:TA}{pos:Pos}
theorem qh:PA X [] xw:=λ_ _ _ _ H Q I h=>fS ⟨[],H,I,.nil,h⟩
theorem og(ha:PE X e te)(hr:PA X es t)(hs:ao (e::es) X.env=(false,eval e X.env)::ao es X.env:=by rfl):PA X (e::es) (uW te t):=by intro pos pins s σ H Q I h;rw[hs];show af _ _ (spliced ((false,eval e X.env)::aL pos (ao es X.env))) _ _ s;refine eK (thn (ha pins s σ H _ I h) λu s1 zz=>?_);obtain⟨x,H1,I1,r1,q1⟩:=zz;exact thn (hr pos pins s1 σ H1 _ I1 q1) λus s2 ⟨xs,H2,I2,r2,q2⟩=>⟨x::xs,H2,I2,.cons r1 r2,q2⟩
def Me(t:TA):TE:=λσ H Q=>t σ H λxs H1=>xs.length<=av/\∀p,H1 p=none->Q (.ref p) (upd H1 p (.tup xs))
def KU(t:TA):TE:=λσ H Q=>t σ H λxs H1=>xs.length<=av/\∀p,H1 p=none->Q (.ref p) (upd H1 p (.lst xs))
theorem Hn{x1}(h:PA X es t):PE X (.Tuple es x1 pos) (Me t):=by intro pins s σ H Q I hq;refine wpAny_Tuple_spliced (thn (h pos pins s σ H _ I hq) λus s1 ⟨xs,H1,I1,r,z,q⟩=>⟨by rw[<-r.length];exact z,?_⟩);have hf:H1 s1.heap.objs.size=none:=I1.hok.fresh (aE _);refine⟨.ref s1.heap.objs.size,upd H1 s1.heap.objs.size (.tup xs),I1.laid (t':=s1.toks) (λb u e=>aF _ e) (aE _) ?_,rfl,q _ hf⟩;exact⟨z,us,r,⟨_,ba _ rfl,rfl,_,rfl⟩⟩
theorem Ck(h:PA X es t):PE X (.List es pos) (KU t):=by intro pins s σ H Q I hq;refine wpAny_List_spliced (thn (h pos pins s σ H _ I hq) λus s1 ⟨xs,H1,I1,r,z,q⟩=>⟨by rw[<-r.length];exact z,?_⟩);have hf:H1 s1.heap.objs.size=none:=I1.hok.fresh (aE _);refine⟨.ref s1.heap.objs.size,upd H1 s1.heap.objs.size (.lst xs),I1.laid (t':=s1.toks) (λb u e=>aF _ e) (aE _) ?_,rfl,q _ hf⟩;exact⟨z,us,0,r,ba _ rfl⟩
end
abbrev Sp:=List V->Hp->VK->XK->Prop
abbrev CXT:=List Env->Hp->ae->XK->aa->ae->Prop
structure zr(P:au)(w:ak)(K:ai)(mg:Str->Option aa)(base:Heap)(A:aw)(outer:List Env)(s:ae)(H:Hp):Prop where
 frames:A.frames=some outer
 mod:Mod K mg base
 bs:∀b o,base.get? b=some o->s.heap.get? b=some o/\H b=none
 bsz:base.objs.size<=s.heap.objs.size
 funs:s.heap.FunFrames base outer
 frf:∀b∈frs outer,H b=none
 hok:HOk P w H s.heap
 bare:cf s.gens
def CE(outer:List Env)(P:au)(w:ak)(H:Hp)(s:ae)(Q:VK)(u:aa)(s':ae):Prop:=
 ∃v H',s'.os=s.os/\cf s'.gens/\Un (frs outer) [] H H' s.heap s'.heap/\HOk P w H' s'.heap/\RelV v u/\Q v H'
def CR(CX:CXT)(outer:List Env)(P:au)(w:ak)(H:Hp)(s:ae)(Q:VK)(E:XK)(r:cN)(s':ae):Prop:=
 match r with
 |.ok (.ret u)=>CE outer P w H s Q u s'
 |.ok _=>False
 |.error e=>CX outer H s E e s'
structure oh(P:au)(w:ak)(K:ai)(mg:Str->Option aa)(base:Heap)(CX:CXT)(k:Nat)(f:Addr)(fd:aZ)(ps:List Str)(sp:Sp):Prop where
 len:∀vs H Q E,sp vs H Q E->vs.length=ps.length
 run:∀(A:aw) (outer:List Env) (s:ae) (H:Hp) (args:Args) (us:List aa) (vs:List V) (Q:VK) (E:XK),mP k A->zr P w K mg base A outer s H->dy s fd args (ps.zip us)->Vals vs us->sp vs H Q E->
  bJ (model P w) A (.call (.ref f) args) (CR CX outer P w H s Q E) s
variable{mg:Str->Option aa}{base:Heap}{CX:CXT}{fd:aZ}{ps:List Str}{sp:Sp}
theorem oh.imp{P:au}{w:ak}{K:ai}{k:Nat}{f:Addr}{sp':Sp}(F:oh P w K mg base CX k f fd ps sp)
  (h:∀vs H Q E,sp' vs H Q E->sp vs H Q E):oh P w K mg base CX k f fd ps sp':=
 ⟨λvs H Q E q=>F.len vs H Q E (h _ _ _ _ q),λA outer s H args us vs Q E hr he hb hv hs=>F.run A outer s H args us vs Q E hr he hb hv (h _ _ _ _ hs)⟩
variable{outer:List Env}
theorem zr.make{P:au}{w:ak}{K:ai}{A:aw}{s:ae}{H:Hp}(e:zr P w K mg base A outer s H)(C:Addr)(us:List aa)(kw:List (Str×aa)):
  zr P w K mg base (A.under (.builtin "type.__call__" ⟨.ref C::us,kw⟩)) outer s H:=⟨by first|exact e.frames|(simpa [gk,Code.envs,gm,pushEnvs]using e.frames),e.mod,e.bs,e.bsz,e.funs,e.frf,e.hok,e.bare⟩
section
variable{X:Cx}{pins:List (Addr×Obj)}{σ:St}{H:Hp}{s s':ae}
theorem Inv.env0(I:Inv X pins σ H s):zr X.prog X.w X.K X.mg X.base X.A X.stack s H:=
 ⟨I.ok.frames,I.ok.mod,I.bs,bF I.ok.bsz I.sz,I.stack,I.stkFree,I.hok,I.bare⟩
theorem Inv.after{Q:VK}(I:Inv X pins σ H s)(h:CE X.stack X.prog X.w H s Q u s'):EP X pins σ Q u s':=by obtain⟨v,H',os,bare,un,hok,r,q⟩:=h;obtain⟨hh,g,d,t,os'⟩:=s';obtain rfl:os'=s.os:=os;exact⟨v,H',I.call (h':=hh) (g':=g) (d':=d) (t':=t) (ch:=[]) un hok bare (λb z=>aq z (by simp)),r,q⟩
end
def qO(sp:Sp)(dvs:List V)(E:XK)(t:TA):TE:=λσ H Q=>t σ H λvs H1=>sp (vs++dvs) H1 Q E
def Ae(C:Addr)(sp:Sp)(dvs:List V)(E:XK)(t:TA):TE:=λσ H Q=>t σ H λvs H1=>∀x dx,H1 x=none->H1 dx=none->dx≠x->
 sp (.ref x::(vs++dvs)) (upd (upd H1 dx (.own x)) x (.ins C dx [])) (λv H2=>v=.non/\Q (.ref x) H2) E
def Binds(K:ai)(fd:aZ)(ps:List Str)(ds:List aa):Prop:=
 ∀(s:ae) (us:List aa),K.In s.heap->(us++ds).length=ps.length->dy s fd ⟨us,[]⟩ (ps.zip (us++ds))
theorem Binds.all{K:ai}(h:∀us:List aa,us.length=ps.length->bindArgs fd ⟨us,[]⟩=pure (ps.zip us)):Binds K fd ps []:=λs us _ hl=>by rw[bw]at hl ⊢;exact .of_eq (h us hl)
def Passes(CX:CXT)(X:Cx)(E:XK):Prop:=∀(pins:List (Addr×Obj)) (σ:St) (H:Hp) (s:ae) (e:aa) (s':ae),Inv X pins σ H s->CX X.stack H s E e s'->X.xe e s'
section
variable{X:Cx}{CX:CXT}{k:Nat}{f C:Addr}{fd:aZ}{ps:List Str}{sp:Sp}{dvs:List V}{ds:List aa}{E:XK}{x m:Str}{p pos apos:Pos}{e o:Expr}{es:List Expr}{ta:TE}{t:TA}
theorem xy{H:Hp}{s:ae}{Q:VK}{vs:List V}(F:oh X.prog X.w X.K X.mg X.base CX k f fd ps sp)(hr:mP k X.A)(hb:Binds X.K fd ps ds)(hd:Vals dvs ds)(hx:Passes CX X E)
  (I:Inv X pins σ H s) (r:Vals vs us) (h:sp (vs++dvs) H Q E):af (model X.prog X.w) X.A (call (.ref f) us) (EP X pins σ Q) X.xe s:=by
 have r2:Vals (vs++dvs) (us++ds):=r.append hd;have hl:(us++ds).length=ps.length:=by rw[<-r2.length];exact F.len _ _ _ _ h
 refine fq (c5 (F.run X.A X.stack s H ⟨us,[]⟩ (us++ds) (vs++dvs) Q E hr I.env0 (hb s us I.kIn hl) r2 h) λr s' hq=>?_);cases r with
 |error e=>exact hx pins σ H s e s' I hq
 |ok fl=>
  cases fl with
  |ret u=>exact I.after hq
  |next=>exact bx hq
  |brk=>exact bx hq
  |cont=>exact bx hq
theorem sr(F:oh X.prog X.w X.K X.mg X.base CX k f fd ps sp)(hr:mP k X.A)(hg:Gl X x)(hm:X.mg x=some (.ref f))(hk:bY X.K (.ref f)=true)(hb:Binds X.K fd ps ds)(hd:Vals dvs ds)(hx:Passes CX X E)
  (ha:PA X (e::es) t) (hdb:(x==("__debug__" : Str))=false:=by decide) (he:ao (e::es) X.env=(false,eval e X.env)::ao es X.env:=by rfl) (hpl:(aL pos (ao es X.env)).any (·.1)=false:=by rfl):
  PE X (.Call (.Name x p) (e::es) [] pos) (qO sp dvs E t):=by
 intro pins s σ H Q I h;refine cy (qg I hg hm ?_ hdb);refine fg (h₀:=X.base) I.ok.mod.kin hk (thn (ha pos pins s σ H _ I h) λus s1 ⟨vs,H1,I1,r,q⟩=>⟨I1.kIn,?_⟩) he hpl;exact xy F hr hb hd hx I1 r q
theorem yf(F:oh X.prog X.w X.K X.mg X.base CX k f fd ps sp)(hr:mP k X.A)(hg:Gl X x)(hm:X.mg x=some (.ref f))(hk:bY X.K (.ref f)=true)(hb:Binds X.K fd ps ds)(hd:Vals dvs ds)(hx:Passes CX X E)
  (hdb:(x==("__debug__" : Str))=false:=by decide):PE X (.Call (.Name x p) [] [] pos) (qO sp dvs E xw):=by
 intro pins s σ H Q I h;refine cy (qg I hg hm ?_ hdb);exact jr I.kIn hk (xy (us:=[]) F hr hb hd hx I .nil h)
structure Mk(K:ai)(C f:Addr):Prop where
 makes:W.makesIn K C=true
 init:bQ K (.ref C) "__init__" = some (some (.ref f))
 fn:fF K (.ref f)=true
 kp:bY K (.ref C)=true
theorem Cm{H:Hp}{s:ae}{Q:VK}{vs:List V}(M:Mk X.K C f)(F:oh X.prog X.w X.K X.mg X.base CX k f fd ps sp)(hr:mP (k+1) X.A)(hb:Binds X.K fd ps ds)(hd:Vals dvs ds)
  (hx:Passes CX X E) (I:Inv X pins σ H s) (r:Vals vs us)
  (h:∀x dx,H x=none->H dx=none->dx≠x->sp (.ref x::(vs++dvs)) (upd (upd H dx (.own x)) x (.ins C dx [])) (λv H2=>v=.non/\Q (.ref x) H2) E):
  af (model X.prog X.w) X.A (call (.ref C) us) (EP X pins σ Q) X.xe s:=by
 have hq:=h (s.heap.objs.size+1) s.heap.objs.size (I.hok.fresh (fj _)) (I.hok.fresh (aE _)) (aH (dR _));have I2:=Inv.made (C:=C) I;have r2:Vals (V.ref (s.heap.objs.size+1)::(vs++dvs)) (Value.ref (s.heap.objs.size+1)::(us++ds)):=.cons rfl (r.append hd);have hl:(Value.ref (s.heap.objs.size+1)::us++ds).length=ps.length:=by have e:=r2.length;rw[F.len _ _ _ _ hq]at e;exact e.symm
 refine fq (ye (f:=f) I.kIn M.makes M.init (beq_iff_eq.mp M.fn) (c5 (F.run _ X.stack _ _ ⟨Value.ref (s.heap.objs.size+1)::us,[]⟩ (Value.ref (s.heap.objs.size+1)::(us++ds)) _ _ E (hr.make C us [])
  (I2.env0.make C us []) (hb _ (Value.ref (s.heap.objs.size+1)::us) I2.kIn hl) r2 hq) λr s' hq'=>?_))
 cases r with
 |error e=>exact hx pins σ _ _ e s' I2 hq'
 |ok fl=>
  cases fl with
  |ret u=>obtain⟨v,H',I3,rv,ev,q3⟩:=I2.after hq';subst ev;exact⟨rv,⟨V.ref (s.heap.objs.size+1),H',I3,rfl,q3⟩⟩
  |next=>exact bx hq'
  |brk=>exact bx hq'
  |cont=>exact bx hq'
theorem Es(M:Mk X.K C f)(F:oh X.prog X.w X.K X.mg X.base CX k f fd ps sp)(hr:mP (k+1) X.A)(hg:Gl X x)(hm:X.mg x=some (.ref C))(hb:Binds X.K fd ps ds)(hd:Vals dvs ds)(hx:Passes CX X E)
  (ha:PA X (e::es) t) (hdb:(x==("__debug__" : Str))=false:=by decide) (he:ao (e::es) X.env=(false,eval e X.env)::ao es X.env:=by rfl) (hpl:(aL pos (ao es X.env)).any (·.1)=false:=by rfl):
  PE X (.Call (.Name x p) (e::es) [] pos) (Ae C sp dvs E t):=by
 intro pins s σ H Q I h;refine cy (qg I hg hm ?_ hdb);refine fg (h₀:=X.base) I.ok.mod.kin M.kp (thn (ha pos pins s σ H _ I h) λus s1 ⟨vs,H1,I1,r,q⟩=>⟨I1.kIn,?_⟩) he hpl;exact Cm M F hr hb hd hx I1 r q
end
structure m4(N P:List Str)(sc:bA):Prop where
 kind:sc.kind=.function
 co:sc.isCoroutine=false
 gen:sc.isGenerator=false
 nd:N.Nodup
 pre:N.take P.length=P
 par:∀x∈P,sc.names.lookup x=some .local\/sc.names.lookup x=some .cell
 nofree:∀y∈sc.names,y.2≠.free
theorem wt{kindOf:Str->Option cc}{x:Str}:∀{binds:List (Str×aa)} {m:Str->Option aa},(∀v,(x,v)∉binds)->bindL kindOf binds m x=m x
 |[],_,_=>rfl
 |(n,v)::r,m,h=>by
  unfold bindL;rw[wt λw hw=>h w (aU _ hw)];split
  ·have:x≠n:=by rintro rfl;exact h v aO
   simp[this]
  ·rfl
theorem wu{kindOf:Str->Option cc}{x:Str}:∀{binds:List (Str×aa)} {m:Str->Option aa},(∀v,(x,v)∉binds)->bindC kindOf binds m x=m x
 |[],_,_=>rfl
 |(n,v)::r,m,h=>by
  unfold bindC;rw[wu λw hw=>h w (aU _ hw)];split
  ·rfl
  ·have:x≠n:=by rintro rfl;exact h v aO
   simp[this]
theorem wx{kindOf:Str->Option cc}{x:Str}{v:aa}:∀{P:List Str} {vs:List aa} {i:Nat} {m:Str->Option aa},P.Nodup->P[i]?=some x->vs[i]?=some v->kindOf x=some .local->
  bindL kindOf (P.zip vs) m x=some v
 |[],_,_,_,_,h,_,_=>by simp at h
 |_::_,[],_,_,_,_,h,_=>by simp at h
 |p::P,w::vs,0,m,nd,h1,h2,hk=>by simp at h1 h2;subst h1;subst h2;show bindL kindOf ((p,w)::P.zip vs) m p=_;unfold bindL;rw[wt λv hv=>(dW.mp nd).1 (eU hv).1,ag hk];simp
 |p::P,w::vs,i+1,m,nd,h1,h2,hk=>by show bindL kindOf ((p,w)::P.zip vs) m x=_;unfold bindL;exact wx (i:=i) (dW.mp nd).2 (by simpa using h1) (by simpa using h2) hk
theorem wy{kindOf:Str->Option cc}{x:Str}{v:aa}:∀{P:List Str} {vs:List aa} {i:Nat} {m:Str->Option aa},P.Nodup->P[i]?=some x->vs[i]?=some v->kindOf x≠some .local->
  bindC kindOf (P.zip vs) m x=some v
 |[],_,_,_,_,h,_,_=>by simp at h
 |_::_,[],_,_,_,_,h,_=>by simp at h
 |p::P,w::vs,0,m,nd,h1,h2,hk=>by simp at h1 h2;subst h1;subst h2;show bindC kindOf ((p,w)::P.zip vs) m p=_;unfold bindC;rw[wu λv hv=>(dW.mp nd).1 (eU hv).1,ah hk];simp
 |p::P,w::vs,i+1,m,nd,h1,h2,hk=>by show bindC kindOf ((p,w)::P.zip vs) m x=_;unfold bindC;exact wy (i:=i) (dW.mp nd).2 (by simpa using h1) (by simpa using h2) hk
def start(N:List Str)(vs:List V):St:=vs.map some++eV (N.length - vs.length) none
def xA(CX:CXT)(P:au)(w:ak)(K:ai)(mg:Str->Option aa)(base:Heap)(N:List Str)(qual:Str)(scope:bA)(f:Addr)(cd:aa)(A:aw)(outer:List Env)(s:ae)(H:Hp)(E:XK):Cx where
 prog:=P
 w:=w
 K:=K
 mg:=mg
 base:=base
 A:=A.deeper (envOfC qual scope s.heap.objs.size f cd)
 N:=N
 s₀:=s
 H₀:=H
 env:=envOfC qual scope s.heap.objs.size f cd
 outer:=outer
 stack:=envOfC qual scope s.heap.objs.size f cd::outer
 ex:=[]
 calm:=true
 fn:=λ_=>true
 pn:=[]
 xe:=λe s'=>af (model P w) (A.deeper (envOfC qual scope s.heap.objs.size f cd)) (leaving (envOfC qual scope s.heap.objs.size f cd) e) (λ_ s''=>CX outer H s E e s'') (λe' s''=>CX outer H s E e' s'') s'
theorem yg{sc:bA}{n:Nat}(h:sc.names.lookup x=some .cell):∃c,(cellsFrom n sc.names []).lookup x=some c:=by have q:=iY sc.names n [] (.inl h);exact Option.isSome_iff_exists.mp q
variable{qual:Str}{scope:bA}
theorem Be{P:au}{w:ak}{K:ai}{f:Addr}{cd:aa}{A:aw}{s s1:ae}{H:Hp}{E:XK}{vs:List V}
  (S:m4 N ps scope) (hd:A.handled=none) (e0:zr P w K mg base A outer s H) (hl:vs.length=ps.length) (r:Vals vs us)
  (x:InCallC s s.heap.objs.size (bindL (envOfC qual scope s.heap.objs.size f cd).kindOf (ps.zip us) λ_=>none) (cellsFrom (s.heap.objs.size+1) scope.names []) (bindC (envOfC qual scope s.heap.objs.size f cd).kindOf (ps.zip us) λ_=>none) s1):
  Inv (xA CX P w K mg base N qual scope f cd A outer s H E) [] (start N vs) H s1:=by
 have hpl:ps.length<=N.length:=by have:=aQ bP S.pre;rw[bu]at this;omega
 obtain⟨h1,tk,rfl,hk⟩:=x.done;have noA:∀b:Addr,b∉(xA CX P w K mg base N qual scope f cd A outer s H E).ex:=λb z=>aq (show b∈([]:List Addr) from z) (by simp);refine⟨⟨e0.mod,S.kind,rfl,rfl,aE _,λy z c h1 h2=>?_,λy hy=>?_,λy c _ h=>?_,λ_=>hd,Around.frames_deeper e0.frames,.inr ⟨rfl,rfl⟩,λb z=>aq z (noA b),e0.bs,e0.bsz,λb _ _=>noA b,λb z=>aq z (noA b),e0.funs,e0.frf⟩,
  rfl,e0.bare,Un.kept hk,⟨_,x.toInCall.ns,λi y v h1 h2 h3=>?_⟩,λy c h=>⟨_,x.cell y c h⟩,e0.hok.fresh (aE _),λy c h=>?_,λp hp=>aq (show p∈([]:List (Addr×Obj)) from hp) (by simp),e0.hok.kept hk,?_⟩
 ·exact name_of_addr x.apart (dG h1) (dG h2)
 ·have hy:scope.names.lookup y=some .cell\/scope.names.lookup y=some .free:=hy;rcases hy with hy|hy
  ·exact yg hy
  ·exact aq rfl (S.nofree _ (dG hy))
 ·exact d6 (x.above y c (dG h))
 ·have hi:i<vs.length:=by
   unfold start at h2;by_cases hi:i<vs.length
   ·exact hi
   ·rw[cO (by simpa using hi)]at h2;rw[eE]at h2;split at h2<;>cases h2
  have ha:vs[i]?=some v:=by
   unfold start at h2;rw[cP (by simpa using hi),aS]at h2;cases e:vs[i]? with
   |none=>rw[e]at h2;cases h2
   |some a=>rw[e]at h2;cases h2;rfl
  obtain⟨u,hu,rv⟩:=r.get ha;have hp:ps[i]?=some y:=by rw[<-S.pre,List.getElem?_take_of_lt (by omega)];exact h1
  have ndP:ps.Nodup:=by rw[<-S.pre];exact S.nd.sublist (iR _ _)
  refine⟨u,rv,?_⟩;rcases S.par y (bC hp)with k|k
  ·exact .inl ⟨k,wx ndP hp hu k⟩
  ·obtain⟨c,e⟩:=yg (n:=s.heap.objs.size+1) k;refine .inr ⟨.inl k,c,e,?_⟩;have q:=x.cell y c e;rw[wy ndP hp hu (by show scope.names.lookup y≠_;rw[k];decide)]at q;exact q
 ·exact e0.hok.fresh (d6 (x.above y c (dG h)))
 ·unfold start;show _=N.length;rw[aC,aj,bB];omega
theorem yh{P:au}{w:ak}{K:ai}{k:Nat}{f:Addr}{name:Str}{params:Arguments}{dV kV doc pm cdv ct oc:aa}{an od:Option Addr}
  {osl:Array (Option aa)} (lk:K.lookup f=some ⟨oc,od,.func (cu name qual params body scope dV kV doc pm an cdv ct),osl⟩) (hcd:dw K cdv qual=true) (S:m4 N ps scope)
  (len:∀vs H Q E,sp vs H Q E->vs.length=ps.length)
  (hbody:∀(A:aw) (outer:List Env) (s:ae) (H:Hp) (vs:List V) (Q:VK) (E:XK),mP k (A.deeper (envOfC qual scope s.heap.objs.size f cdv))->sp vs H Q E->
   ∃t,PSs (xA CX P w K mg base N qual scope f cdv A outer s H E) body t/\t { nx:=λ_ H'=>Q .non H',rt:=Q } (start N vs) H):
  oh P w K mg base CX (k+1) f (cu name qual params body scope dV kV doc pm an cdv ct) ps sp:=by
 refine⟨len,λA outer s H args us vs Q E hr e0 hb r hsp=>?_⟩;have hl:=len _ _ _ _ hsp;have KX:K.In s.heap:=e0.mod.kin.keeps λb o e=>(e0.bs b o e).1;have lim:s.heap.NoLimit:=e0.mod.nolimit.keeps λb o e=>(e0.bs b o e).1;have hkind:∀y∈ps.zip us,scope.names.lookup y.1=some .local\/(scope.names.lookup y.1=some .cell/\((cellsFrom (s.heap.objs.size+1) scope.names []).lookup y.1).isSome=true):=λ⟨n,v⟩ hy=>by
  rcases S.par n (eU hy).1 with q|q
  ·exact .inl q
  ·exact .inr ⟨q,iY _ _ _ (.inl q)⟩
 refine codeAny_call_function hr.depth (KX _ _ lk) rfl S.co S.gen rfl (W.codeRec_of KX hcd) (hb _ _ _ _ ?_);refine wpAny_newFunctionEnv_cells S.kind hkind λenv he s1 x=>?_;subst he;refine⟨lim.keeps x.toInCall.keep,codeAny_func ?_⟩;obtain⟨t,ht,hq⟩:=hbody A outer s H vs Q E (hr.deeper _) hsp;have I:Inv (xA CX P w K mg base N qual scope f cdv A outer s H E) [] (start N vs) H s1:=Be S hr.hd e0 hl r x;refine aY (ht [] s1 (start N vs) H _ I hq) (λfl s' hs=>?_) λe s' hs=>hs;have fin:∀{σ':St} {H':Hp} {v:V} {u:aa},Inv (xA CX P w K mg base N qual scope f cdv A outer s H E) [] σ' H' s'->RelV v u->Q v H'->CE outer P w H s Q u s':=
  λ{σ' H' v u} J rv q=>⟨v,H',J.os,J.bare,J.base,J.hok,rv,q⟩
 cases fl with
 |ret u=>obtain⟨v,σ',H',J,rv,q⟩:=hs;exact fin J rv q
 |next=>obtain⟨σ',H',J,q⟩:=hs;exact fin (v:=V.non) (u:=Value.none) J rfl q
 |brk=>obtain⟨_,_,_,q⟩:=hs;exact bx q
 |cont=>obtain⟨_,_,_,q⟩:=hs;exact bx q
section
variable{X:Cx}{x:Str}{p pos:Pos}{e:Expr}{es:List Expr}{t:TA}{id T:String}{r:List V->Hp->VK->Prop}
def tCB(r:List V->Hp->VK->Prop)(t:TA):TE:=λσ H Q=>t σ H λvs H1=>r vs H1 Q
theorem qP(hc:ng X (.builtin id) r)(hg:Gl X x)(hm:X.mg x=none)(hv:b9 x=some (.builtin id))(ha:PA X (e::es) t)(hn:x≠"__name__" := by decide)(hdb:(x==("__debug__" : Str))=false:=by decide)
  (he:ao (e::es) X.env=(false,eval e X.env)::ao es X.env:=by rfl) (hpl:(aL pos (ao es X.env)).any (·.1)=false:=by rfl):PE X (.Call (.Name x p) (e::es) [] pos) (tCB r t):=by
 intro pins s σ H Q I h;refine cy (rV I hg hm hv ?_ hn hdb);exact callWith_builtin1 (thn (ha pos pins s σ H _ I h) λus s1 ⟨vs,H1,I1,r1,q1⟩=>hc pins s1 σ H1 vs us Q I1 r1 q1) he hpl
theorem Bf(hc:ng X (.type T) r)(hg:Gl X x)(hm:X.mg x=none)(hv:b9 x=some (.type T))(ha:PA X (e::es) t)(hn:x≠"__name__" := by decide)(hdb:(x==("__debug__" : Str))=false:=by decide)
  (he:ao (e::es) X.env=(false,eval e X.env)::ao es X.env:=by rfl) (hpl:(aL pos (ao es X.env)).any (·.1)=false:=by rfl):PE X (.Call (.Name x p) (e::es) [] pos) (tCB r t):=by
 intro pins s σ H Q I h;refine cy (rV I hg hm hv ?_ hn hdb);exact callWith_type1 (thn (ha pos pins s σ H _ I h) λus s1 ⟨vs,H1,I1,r1,q1⟩=>hc pins s1 σ H1 vs us Q I1 r1 q1) he hpl
end
end L2
namespace HT
open PySem PyProof.Rows
section
variable{prog:au}{w:ak}{A:aw}{E:aa->ae->Prop}{s:ae}
theorem Et{t b:Addr}{vs ws:List aa}{Q:aa->ae->Prop}(ht:IsTup s.heap t vs.toArray)(hb:IsTup s.heap b ws.toArray)(hv:vs≠[])
  (h1:ws=[]->Q (.ref t) s) (h2:ws≠[]->Q (.ref s.heap.objs.size) { s with heap:=s.heap.push { cls:=.type "tuple", data:=.seq (vs++ws).toArray } })
  (hsz:vs.length+ws.length<=av):af (model prog w) A (bX .Add (.ref t) (.ref b)) Q E s:=by
 obtain⟨⟨cls,dd,data,sl⟩,ho,hc,n,hd⟩:=id ht;obtain⟨⟨cls2,dd2,data2,sl2⟩,ho2,hc2,n2,hd2⟩:=id hb;simp only at hc hd hc2 hd2;subst hc hd hc2 hd2;have e:vs.toArray++ws.toArray=(vs++ws).toArray:=by simp
 by_cases hw:ws=[]
 ·exact concat_meets ⟨_,ho,rfl⟩ ⟨_,ho2,rfl⟩ iZ js i0 iU (iH _ _)
   (tuple_addW1 t b vs.toArray ws.toArray n n2 dd dd2 sl sl2 (by simpa using hv) (by simp[hw])) ⟨ho,ho2,h1 hw⟩
 ·refine concat_meets ⟨_,ho,rfl⟩ ⟨_,ho2,rfl⟩ iZ js i0 iU (iH _ _)
   (tuple_addW2 t b vs.toArray ws.toArray n n2 dd dd2 sl sl2 (by simpa using hv) (by simpa using hw) (by rw[aJ,aJ];exact hsz)) ⟨ho,ho2,?_⟩
  rw[e];exact h2 hw
def sIx(n d:Nat):Option Int->Nat
 |none=>d
 |some v=>if v<0 then (v+(n:Int)).toNat else min v.toNat n
theorem yi(n d:Nat):sIx n d none=d:=rfl
theorem Ag(n d k:Nat):sIx n d (some (k:Int))=min k n:=by show (if (k:Int)<0 then ((k:Int)+(n:Int)).toNat else min (k:Int).toNat n)=min k n;rw[ah (by omega),eQ]
end
end HT
namespace L2
open PySem PySem.Spec PyProof.Rows
abbrev TO:=St->Hp->(Option Int->Hp->Prop)->Prop
def PO(X:Cx)(e:Option Expr)(t:TO):Prop:=
 ∀(pins:List (Addr×Obj)) (s:ae) (σ:St) (H:Hp) (Q:Option Int->Hp->Prop),Inv X pins σ H s->t σ H Q->
  af (model X.prog X.w) X.A (evalPart e X.env) (λu s'=>∃o H',Inv X pins σ H' s'/\IsPart u o/\Q o H') X.xe s
def Eu:TO:=λ_ H Q=>Q none H
def KW(t:TE):TO:=λσ H Q=>t σ H λx H1=>∃i,x=.int i/\Q (some i) H1
section
variable{X:Cx}{e:Expr}{te:TE}{lo hi:Option Expr}{tl th:TO}{pos p2:Pos}
theorem Ah:PO X none Eu:=by intro pins s σ H Q I h;rw[jt];exact ay ⟨none,H,I,.none,h⟩
theorem Ai(h:PE X e te):PO X (some e) (KW te):=by intro pins s σ H Q I hw;rw[evalPart_some];refine thn (h pins s σ H _ I hw) λu s1 zz=>?_;obtain⟨x,H1,I1,r1,q1⟩:=zz;obtain⟨i,rfl,q⟩:=q1;obtain⟨t,rfl⟩:=r1;exact⟨some i,H1,I1,.int i t,q⟩
def SlR(X:Cx)(r:V->Option Int->Option Int->Hp->VK->Prop):Prop:=
 ∀(pins:List (Addr×Obj)) (s:ae) (σ:St) (H:Hp) (x:V) (v vl vu:aa) (lo hi:Option Int) (sl:Addr) (Q:VK),Inv X pins σ H s->RelV x v->s.heap.IsSliceOf sl vl vu .none->IsPart vl lo->IsPart vu hi->r x lo hi H Q->
  ∃T id,typeLookup (.type T) "__getitem__" = pure (some (.builtin id))/\s.TypeIs v T/\af (model X.prog X.w) X.A (getItem v (.ref sl)) (EP X pins σ Q) X.xe s
def tSl(r:V->Option Int->Option Int->Hp->VK->Prop)(te:TE)(tl th:TO):TE:=λσ H Q=>te σ H λx H1=>tl σ H1 λl H2=>th σ H2 λu H3=>r x l u H3 Q
theorem yj{r:V->Option Int->Option Int->Hp->VK->Prop}(hr:SlR X r)(he:PE X e te)(hl:PO X lo tl)(hu:PO X hi th):PE X (.Subscript e (.Slice lo hi none p2) pos) (tSl r te tl th):=by intro pins s σ H Q I h;refine gH (thn (he pins s σ H _ I h) λv s1 zz=>?_);obtain⟨x,H1,I1,r1,q1⟩:=zz;refine wpAny_Slice (thn (hl pins s1 σ H1 _ I1 q1) λvl s2 ⟨l,H2,I2,pl,q2⟩=>thn (hu pins s2 σ H2 _ I2 q2) λvu s3 zz=>?_);obtain⟨u,H3,I3,pu,q3⟩:=zz;rw[jt];refine ay ?_;have I4:Inv X pins σ H3 { s3 with heap:=s3.heap.push { cls:=.type "slice", data:=.fields #[vl,vu,.none] } }:=I3.kept (t':=s3.toks) λb ob q=>aF _ q;obtain⟨T,id,hT,ht,hg⟩:=hr pins { s3 with heap:=s3.heap.push { cls:=.type "slice", data:=.fields #[vl,vu,.none] } } σ H3 x v vl vu l u s3.heap.objs.size Q I4 r1 (lh ..) pl pu q3;show af (model X.prog X.w) X.A (subscriptTail e (.Slice lo hi none p2) v (.ref s3.heap.objs.size)) (EP X pins σ Q) X.xe { s3 with heap:=s3.heap.push { cls:=.type "slice", data:=.fields #[vl,vu,.none] } };exact tail_any (ops:=[.ref s3.heap.objs.size,v]) ht hT hg (by with_unfolding_all rfl)
def Bh(xs:List V)(lo hi:Option Int):List V:=(xs.drop (HT.sIx xs.length 0 lo)).take (HT.sIx xs.length xs.length hi - HT.sIx xs.length 0 lo)
theorem yk(xs:List V)(lo hi:Option Int):(Bh xs lo hi).length<=xs.length:=by unfold Bh;rw[bu,dc];omega
def KY(K:ai):R2:=λx y H Q=>∃a b xs ys,x=.ref a/\y=.ref b/\SqT K H a xs/\SqT K H b ys/\xs≠[]/\xs.length+ys.length<=av/\
 (ys=[]->Q (.ref a) H)/\(ys≠[]->∀p,H p=none->Q (.ref p) (upd H p (.tup (xs++ys))))
theorem Vals.nil_iff{xs:List V}{us:List aa}(r:Vals xs us):us=[] ↔ xs=[]:=by
 cases r with
 |nil=>simp
 |cons _ _=>simp
theorem Ew:OpR X (bX .Add) (KY X.K):=by intro pins s σ H x y v u Q I rx ry h;obtain⟨a,b,xs,ys,rfl,rfl,ha,hb,hx,hz,q1,q2⟩:=h;cases rx;cases ry;obtain⟨its,r1,p1,_⟩:=I.tuple ha;obtain⟨its2,r2,p2,_⟩:=I.tuple hb;refine HT.Et p1 p2 (λz=>hx (r1.nil_iff.mp z)) (λz=>⟨.ref a,H,I,rfl,q1 (r2.nil_iff.mp z)⟩) (λz=>?_) (by rw[<-r1.length,<- r2.length];exact hz);refine⟨.ref s.heap.objs.size,_,I.laid (t':=s.toks) (o:=.tup (xs++ys)) (λb ob q=>aF _ q) (aE _) ?_,rfl,q2 (λw=>z (r2.nil_iff.mpr w)) _ (I.hok.fresh (aE _))⟩;exact⟨by rw[aC];exact hz,_,r1.append r2,IsTup.new _ _⟩
end
def ixN(n:Nat)(i:Int):Option Nat:=if 0<=i then (if i<n then some i.toNat else none)else if -(n:Int)<=i then some (i+n).toNat else none
def atI{α:Type}(xs:List α)(i:Int):Option α:=(ixN xs.length i).bind λj=>xs[j]?
variable{j:Nat}
theorem Aj{n:Nat}{i:Int}(h:ixN n i=some j):seqIndex? i n=some j/\j<n/\-(n:Int)<=i/\i<n:=by
 unfold ixN at h;by_cases h0:0<=i
 ·rw[ag h0]at h;by_cases h1:i<n
  ·rw[ag h1]at h;have e:i.toNat=j:=bp h;exact⟨by rw[gz h0 h1,e],by omega,by omega,h1⟩
  ·rw[ah h1]at h;cases h
 ·rw[ah h0]at h;by_cases h1:-(n:Int)<=i
  ·rw[ag h1]at h;have e:(i+n).toNat=j:=bp h;exact⟨by rw[gn (by omega) h1,e],by omega,h1,by omega⟩
  ·rw[ah h1]at h;cases h
theorem xB{α:Type}{xs:List α}{i:Int}{v:α}(h:atI xs i=some v):∃j,seqIndex? i xs.length=some j/\xs[j]?=some v/\j<xs.length/\-(xs.length:Int)<=i/\i<xs.length:=by
 unfold atI at h;cases e:ixN xs.length i with
 |none=>rw[e]at h;cases h
 |some j=>rw[e]at h;obtain⟨h1,h2,h3,h4⟩:=Aj e;exact⟨j,h1,h,h2,h3,h4⟩
theorem rp{α:Type}{xs:List α}{v:α}(h:xs[j]?=some v):atI xs (j:Int)=some v:=by
 have hj:j<xs.length:=(bq.mp h).1;have e:ixN xs.length (j:Int)=some j:=by unfold ixN;rw[ag (by omega),ag (by omega)];simp
 unfold atI;rw[e];exact h
def Ak(b:Expr):Prop:=∀o i,subscripted b false o i=operate [o,i] (getItem o i)
def IxR(X:Cx)(r:R2):Prop:=
 ∀(value slice:Expr) (pins:List (Addr×Obj)) (s:ae) (σ:St) (H:Hp) (x y:V) (v u:aa) (Q:VK),Inv X pins σ H s->RelV x v->RelV y u->r x y H Q->
  subscripted slice false v u=operate [v,u] (getItem v u)->af (model X.prog X.w) X.A (subscriptTail value slice v u) (EP X pins σ Q) X.xe s
def MtR(X:Cx)(id:String)(r:V->List V->Hp->VK->Prop):Prop:=
 ∀(pins:List (Addr×Obj)) (s:ae) (σ:St) (H:Hp) (x:V) (xs:List V) (v:aa) (us:List aa) (Q:VK),Inv X pins σ H s->RelV x v->Vals xs us->r x xs H Q->
  af (model X.prog X.w) X.A (call (.builtin id) (v::us)) (EP X pins σ Q) X.xe s
variable{r:R2}{pins:List (Addr×Obj)}{σ:St}{its its':List aa}{y:V}{u:aa}{T:String}
section
variable{X:Cx}{a b:Expr}{ta tb:TE}{pos:Pos}
theorem IxR.or{r':R2}(h:IxR X r)(h':IxR X r'):IxR X (λx y H Q=>r x y H Q\/r' x y H Q):=by
 intro value slice pins s σ H x y v u Q I rx ry q hs;rcases q with q|q
 ·exact h value slice pins s σ H x y v u Q I rx ry q hs
 ·exact h' value slice pins s σ H x y v u Q I rx ry q hs
theorem Gg(hr:IxR X r)(ha:PE X a ta)(hb:PE X b tb)(hs:Ak b):PE X (.Subscript a b pos) (tOp r ta tb):=by intro pins s σ H Q I h;exact gH (G8 ha hb I h λv u s2 x y H2 I2 rx ry q=>hr a b pins s2 σ H2 x y v u Q I2 rx ry q (hs _ _))
def Ex(K:ai):R2:=λx y H Q=>∃p xs i v,x=.ref p/\y=.int i/\SqL K H p xs/\atI xs i=some v/\Q v H
def KZ(K:ai):R2:=λx y H Q=>∃p xs i v,x=.ref p/\y=.int i/\SqT K H p xs/\atI xs i=some v/\Q v H
def K0:R2:=λx y H Q=>∃z i c,x=.str z/\y=.int i/\z.length<=av/\atI z.cps.toList i=some c/\Q (.str ⟨#[c]⟩) H
theorem Al:IxR X (Ex X.K):=by
 intro value slice pins s σ H x y v u Q I rx ry h hs;obtain⟨p,xs,i,z,rfl,rfl,hq,he,q⟩:=h;cases rx;obtain⟨t,rfl⟩:=ry;obtain⟨its,r,pl,hz⟩:=I.list hq;obtain⟨j,h1,h2,h3,h4,h5⟩:=xB he;obtain⟨w,ew,rw'⟩:=r.get h2;have hl:=r.length;have hn:=tw;have fin:EP X pins σ Q w s:=⟨z,H,I,rw',q⟩;by_cases h0:0<=i
 ·have hj:i.toNat=j:=by rw[gz h0 h5]at h1;exact bp h1
  exact item_listR pl.isList h0 (by omega) (by rw[hj];simpa using ew) fin hs
 ·have hj:(i+(its.toArray.size:Int)).toNat=j:=by rw[gn (by omega) h4]at h1;rw[aJ,<- hl];exact bp h1
  exact hE (x:=w) pl.isList.typeIs iV.lookup
   (wpAny_getItem_list_neg (Q:=λr s'=>r=w/\EP X pins σ Q r s') pl.isList (by omega) (by rw[aJ]<;>omega) (by omega) (by rw[hj];simpa using ew) ⟨rfl,fin⟩) hs
theorem Ho:IxR X (KZ X.K):=by
 intro value slice pins s σ H x y v u Q I rx ry h hs;obtain⟨p,xs,i,z,rfl,rfl,hq,he,q⟩:=h;cases rx;obtain⟨t,rfl⟩:=ry;obtain⟨its,r,pl,hz⟩:=I.tuple hq;obtain⟨j,h1,h2,h3,h4,h5⟩:=xB he;obtain⟨w,ew,rw'⟩:=r.get h2;have hl:=r.length;have hn:=tw;have fin:EP X pins σ Q w s:=⟨z,H,I,rw',q⟩;exact hE (x:=w) pl.typeIs slot_tuple_getitem.lookup
  (getItem_tuple (j:=j) (Q:=λr s'=>r=w/\EP X pins σ Q r s') pl (by omega) (by omega) (by rw[aJ,<- hl];exact h1) (by simpa using ew) ⟨rfl,fin⟩) hs
theorem Hr:IxR X K0:=by
 intro value slice pins s σ H x y v u Q I rx ry h hs;obtain⟨z,i,c,rfl,rfl,hz,he,q⟩:=h;obtain⟨t,rfl⟩:=rx;obtain⟨t',rfl⟩:=ry;obtain⟨j,h1,h2,h3,h4,h5⟩:=xB he;have hl:z.cps.toList.length=z.length:=by simp[Str.length]
 rw[hl]at h1 h4 h5;have hn:=tw;exact tail_any (typeIs_str s z t) slot_str_getitem.lookup (getItem_str (c:=c) (by
  have e1:decide (i < -(2 ^ 63:Int))=false:=aX (by omega);have e2:decide (i >= 2 ^ 63)=false:=aX (by omega);rw[e1,e2,Bool.or_false]) (by rw[h1];simpa using h2) ⟨.str ⟨#[c]⟩,H,I.tok _,⟨_,rfl⟩,q⟩) hs
def rIx(K:ai):R2:=λx y H Q=>Ex K x y H Q\/KZ K x y H Q\/K0 x y H Q
theorem Ht:IxR X (rIx X.K):=Al.or (Ho.or Hr)
theorem zt(its:List aa)(n j:Nat)(u:aa):du (·.setIfInBounds j u) { cls:=.type "list", data:=.seq its.toArray n }={ cls:=.type "list", data:=.seq (its.set j u).toArray n }:=by simp[du]
theorem Inv.lst{pins:List (Addr×Obj)}{σ:St}{H:Hp}{s:ae}{p:Addr}{xs:List V}(I:Inv X pins σ H s)(h:H p=some (.lst xs)):
  ∃(its:List aa) (n:Nat),Vals xs its/\s.heap.get? p=some { cls:=.type "list", data:=.seq its.toArray n }/\xs.length<=av:=by
 obtain⟨z,its,n,r,e⟩:=I.hok p _ h;exact⟨its,n,r,e,z⟩
theorem Inv.lstUpd{H:Hp}{s:ae}{p:Addr}{xs ys:List V}{n n':Nat}{f:Obj->Obj}(I:Inv X pins σ H s)(h:H p=some (.lst xs))
  (ho:s.heap.get? p=some { cls:=.type "list", data:=.seq its.toArray n }) (hf:f { cls:=.type "list", data:=.seq its.toArray n }={ cls:=.type "list", data:=.seq its'.toArray n' }) (r:Vals ys its') (hz:ys.length<=av) (t:Nat):
  Inv X pins σ (upd H p (.lst ys)) { s with heap:=s.heap.update p f,toks:=t }:=by
 have e:(s.heap.update p f).get? p=some { cls:=.type "list", data:=.seq its'.toArray n' }:=by rw[ib f ho (by rw[hf]<;>rfl),hf]
 refine I.write (x:=p) (e:=p) (by rw[h];trivial) (.inl rfl) (λb u hb q=>(hG _ _ (cM hb)).trans q) ⟨_,e⟩ ?_;exact⟨hz,its',n',r,e⟩
def Gh:V->V->V->Hp->(Hp->Prop)->Prop:=λo i v H Q=>∃p xs k j,o=.ref p/\i=.int k/\H p=some (.lst xs)/\ixN xs.length k=some j/\Q (upd H p (.lst (xs.set j v)))
theorem set_list:KG X Gh:=by
 intro pins s σ H o i v ov iv u Q I ro ri rv h;obtain⟨p,xs,k,j,rfl,rfl,hp,hj,q⟩:=h;cases ro;obtain⟨t,rfl⟩:=ri;obtain⟨its,n,r,ho,hz⟩:=I.lst hp;obtain⟨h1,h2,h3,h4⟩:=Aj hj;have hl:=r.length;have hn:=tw;have I':Inv X pins σ (upd H p (.lst (xs.set j v))) { s with heap:=s.heap.update p (du (·.setIfInBounds j u)) }:=
  I.lstUpd hp ho (zt its n j u) (r.set rv j) (by rw[ck];exact hz) s.toks
 by_cases h0:0<=k
 ·have hk:k.toNat=j:=by rw[gz h0 h4]at h1;exact bp h1
  exact W.ki_setAt ho h0 (by omega) (by rw[aJ,<- hl];exact h4) (by rw[hk];exact⟨_,I',q⟩)
 ·have hk:(k+(its.toArray.size:Int)).toNat=j:=by rw[gn (by omega) h3]at h1;rw[aJ,<- hl];exact bp h1
  exact W.ki_setBack ho (by omega) (by rw[aJ,<- hl];exact h3) (by omega) (by rw[hk];exact⟨_,I',q⟩)
theorem xC(lo hi:Option Int)(n:Nat):(sliceBounds lo hi none n).1=((HT.sIx n 0 lo:Nat):Int)/\(sliceBounds lo hi none n).2.1=((HT.sIx n n hi:Nat):Int)/\(sliceBounds lo hi none n).2.2=1:=by
 refine⟨?_,?_,rfl⟩
 ·cases lo with
  |none=>simp[sliceBounds,HT.sIx]
  |some i=>
   simp only[sliceBounds,HT.sIx,i3,show (1:Int) > 0 by decide,if_true];by_cases h:i<0
   ·simp only[h,if_true]<;>omega
   ·simp only[h,if_false]<;>omega
 ·cases hi with
  |none=>simp[sliceBounds,HT.sIx]
  |some i=>
   simp only[sliceBounds,HT.sIx,i3,show (1:Int) > 0 by decide,if_true];by_cases h:i<0
   ·simp only[h,if_true]<;>omega
   ·simp only[h,if_false]<;>omega
theorem v8(its:List aa)(lo hi:Option Int):slicePick its.toArray lo hi none=((its.drop (HT.sIx its.length 0 lo)).take (HT.sIx its.length its.length hi - HT.sIx its.length 0 lo)).toArray:=by obtain⟨h1,h2,h3⟩:=xC lo hi its.toArray.size;unfold slicePick;rw[h1,h2,h3];simp only[sliceRange_one,pick_run,aJ]<;>rfl
def Bi(K:ai):V->Option Int->Option Int->Hp->VK->Prop:=λx lo hi H Q=>∃a xs,x=.ref a/\SqL K H a xs/\∀p,H p=none->Q (.ref p) (upd H p (.lst (Bh xs lo hi)))
theorem Ey:SlR X (Bi X.K):=by intro pins s σ H x v vl vu lo hi sl Q I rx hs pl pu h;obtain⟨a,xs,rfl,hx,q⟩:=h;cases rx;obtain⟨its,r,ht,hz⟩:=I.list hx;have hlen:=r.length;refine⟨"list", _,iV.lookup,ht.isList.typeIs,?_⟩;refine wpAny_getItem_list_slice ht.isList hs pl pu .none (by simp) ?_ (by rw[aJ]<;>omega);rw[v8,<- hlen];refine⟨.ref s.heap.objs.size,_,I.laid (t':=s.toks) (o:=.lst (Bh xs lo hi)) (λb ob q=>aF _ q) (aE _) ?_,rfl,q _ (I.hok.fresh (aE _))⟩;exact⟨bF (yk xs lo hi) hz,_,0,(r.drop (HT.sIx xs.length 0 lo)).take (HT.sIx xs.length xs.length hi - HT.sIx xs.length 0 lo),ba _ rfl⟩
def rG:V->Bool
 |.non=>true
 |.bl _=>true
 |.int _=>true
 |.str _=>true
 |_=>false
def eqV:V->V->Bool
 |.non,.non=>true
 |.bl a,.bl b=>a==b
 |.bl a,.int b=>(if a then 1 else 0)==b
 |.int a,.bl b=>a==(if b then 1 else 0)
 |.int a,.int b=>a==b
 |.str a,.str b=>a==b
 |_,_=>false
theorem uX{A:aw}{s:ae}{x:V}{v:aa}(ry:RelV y u)(rx:RelV x v)(fy:rG y=true)(fx:rG x=true):fw A s u v (eqV y x):=by
 cases y with
 |non=>
  cases ry;cases x with
  |non=>cases rx;exact fX _
  |bl b=>cases rx;exact kB b
  |int b=>obtain⟨t,rfl⟩:=rx;exact kN b t
  |str b=>obtain⟨t,rfl⟩:=rx;exact kP b t
  |_=>exact aq (show false=true from fx) aP
 |bl a=>
  cases ry;cases x with
  |non=>cases rx;exact kC a
  |bl b=>cases rx;exact kD a b
  |int b=>obtain⟨t,rfl⟩:=rx;exact kQ a b t
  |str b=>obtain⟨t,rfl⟩:=rx;exact kR a b t
  |_=>exact aq (show false=true from fx) aP
 |int a=>
  obtain⟨t',rfl⟩:=ry;cases x with
  |non=>cases rx;exact kT a t'
  |bl b=>cases rx;exact kU a t' b
  |int b=>obtain⟨t,rfl⟩:=rx;exact lj a t' b t
  |str b=>obtain⟨t,rfl⟩:=rx;exact iE a t' b t
  |_=>exact aq (show false=true from fx) aP
 |str a=>
  obtain⟨t',rfl⟩:=ry;cases x with
  |non=>cases rx;exact kW a t'
  |bl b=>cases rx;exact kX a t' b
  |int b=>obtain⟨t,rfl⟩:=rx;exact iF a t' b t
  |str b=>obtain⟨t,rfl⟩:=rx;exact lp a t' b t
  |_=>exact aq (show false=true from fx) aP
 |_=>exact aq (show false=true from fy) aP
def eqU(x:V)(u:aa):Bool:=match u with
 |.none=>eqV .non x
 |.bool b=>eqV (.bl b) x
 |.int i _=>eqV (.int i) x
 |.str z _=>eqV (.str z) x
 |_=>false
theorem Cn{x:V}(r:RelV y u)(f:rG y=true):eqU x u=eqV y x:=by
 cases y with
 |non=>cases r;rfl
 |bl b=>cases r;rfl
 |int i=>obtain⟨t,rfl⟩:=r;rfl
 |str z=>obtain⟨t,rfl⟩:=r;rfl
 |_=>exact aq (show false=true from f) aP
theorem su{x:V}:∀{xs:List V} {us:List aa},Vals xs us->xs.all rG=true->us.any (eqU x)=xs.any λy=>eqV y x
 |_,_,.nil,_=>rfl
 |y::xs,u::us,.cons r t,f=>by rw[cm,aB]at f;rw[c4,c4,Cn r f.1,su t f.2]
theorem qQ{A:aw}{s:ae}{x:V}{v:aa}(rx:RelV x v)(fx:rG x=true):∀{xs:List V} {us:List aa},Vals xs us->xs.all rG=true->∀u∈us,fw A s u v (eqU x u)
 |_,_,.nil,_=>λu hu=>by cases hu
 |y::xs,u::us,.cons r t,f=>λu' hu=>by
  rw[cm,aB]at f;rcases aT.mp hu with rfl|hu
  ·rw[Cn r f.1];exact uX r rx f.1 fx
  ·exact qQ rx fx t f.2 u' hu
def inV(x:V)(xs:List V):Bool:=xs.any λy=>eqV y x
def rIn(K:ai)(neg:Bool):R2:=λx y H Q=>∃p xs,y=.ref p/\(SqL K H p xs\/SqT K H p xs)/\rG x=true/\xs.all rG=true/\Q (.bl (if neg then !inV x xs else inV x xs)) H
theorem Bj:OpR X (aI .In) (rIn X.K false):=by
 intro pins s σ H x y v u Q I rx ry h;obtain⟨p,xs,rfl,hq,fx,fs,q⟩:=h;cases ry;rcases hq with hq|hq
 ·obtain⟨its,r,pl,hz⟩:=I.list hq;refine SeqAt.in_listAt (eqU x) pl.isList (λw hw=>qQ rx fx r fs w (by simpa using hw)) ⟨.bl _,H,I,rfl,?_⟩;rw[show its.toArray.any (eqU x)=its.any (eqU x) by simp,su r fs];exact q
 ·obtain⟨its,r,pl,hz⟩:=I.tuple hq;refine SeqAt.in_tupleAt (eqU x) pl (λw hw=>qQ rx fx r fs w (by simpa using hw)) ⟨.bl _,H,I,rfl,?_⟩;rw[show its.toArray.any (eqU x)=its.any (eqU x) by simp,su r fs];exact q
theorem xD:OpR X (aI .NotIn) (rIn X.K true):=by
 intro pins s σ H x y v u Q I rx ry h;obtain⟨p,xs,rfl,hq,fx,fs,q⟩:=h;cases ry;rcases hq with hq|hq
 ·obtain⟨its,r,pl,hz⟩:=I.list hq;refine SeqAt.notIn_listAt (eqU x) pl.isList (λw hw=>qQ rx fx r fs w (by simpa using hw)) ⟨.bl _,H,I,rfl,?_⟩;rw[show its.toArray.any (eqU x)=its.any (eqU x) by simp,su r fs];exact q
 ·obtain⟨its,r,pl,hz⟩:=I.tuple hq;refine SeqAt.notIn_tupleAt (eqU x) pl (λw hw=>qQ rx fx r fs w (by simpa using hw)) ⟨.bl _,H,I,rfl,?_⟩;rw[show its.toArray.any (eqU x)=its.any (eqU x) by simp,su r fs];exact q
theorem xE:ng X (.builtin "len") (λxs H Q=>∃p ys,xs=[.ref p]/\(SqL X.K H p ys\/SqT X.K H p ys)/\Q (.int ys.length) H):=by
 intro pins s σ H xs us Q I r h;obtain⟨p,ys,rfl,hq,q⟩:=h;obtain⟨u,rfl,rx⟩:=vals1 r;cases rx;have hn:=tw;rcases hq with hq|hq
 ·obtain⟨its,r',pl,hz⟩:=I.list hq;have hlen:=r'.length;exact Calls.call_len_list pl.isList (by simp only[aJ]<;>omega) ⟨.int ys.length,H,I.tok _,⟨s.toks+1,by rw[aJ,hlen]⟩,q⟩
 ·obtain⟨its,r',pl,hz⟩:=I.tuple hq;have hlen:=r'.length;exact len_tuple pl (by simp only[aJ]<;>omega) ⟨.int ys.length,H,I.tok _,⟨s.toks+1,by rw[aJ,hlen]⟩,q⟩
theorem xF:ng X (.builtin "len") (λxs H Q=>∃z,xs=[.str z]/\z.length<=av/\Q (.int z.length) H):=by intro pins s σ H xs us Q I r h;obtain⟨z,rfl,hz,q⟩:=h;obtain⟨u,rfl,t,rfl⟩:=vals1 r;have hn:=tw;exact len_str (by omega) ⟨.int z.length,H,I.tok _,⟨_,rfl⟩,q⟩
theorem xG:ng X (.type "list") (λxs H Q=>∃p ys,xs=[.ref p]/\(SqL X.K H p ys\/SqT X.K H p ys)/\∀l,H l=none->Q (.ref l) (upd H l (.lst ys))):=by
 intro pins s σ H xs us Q I r h;obtain⟨p,ys,rfl,hq,q⟩:=h;obtain⟨u,rfl,rx⟩:=vals1 r;cases rx;have fin:∀(its:List aa),Vals ys its->ys.length<=av->∀(h':Heap) (c':Nat),(∀b o',s.heap.get? b=some o'->h'.get? b=some o')->
   h'.get? s.heap.objs.size=some { cls:=.type "list", dict:=none,data:=.seq its.toArray c',slots:=#[] }->EP X pins σ Q (.ref s.heap.objs.size) { s with heap:=h' }:=λits r' hz h' c' kp e=>
  ⟨.ref s.heap.objs.size,_,I.laid (t':=s.toks) kp (aE _) (show mJ X.prog X.w _ h' _ (.lst ys) from⟨hz,its,c',r',e⟩),rfl,q _ (I.hok.fresh (aE _))⟩
 rcases hq with hq|hq
 ·obtain⟨its,r',pl,hz⟩:=I.list hq;have hlen:=r'.length;obtain⟨o,ho,hc,n,hd⟩:=pl.isList;exact ju p (.inl rfl) ho hc hd (λh' c' kp e=>fin its r' hz h' c' kp e) (by simp only[aJ]<;>omega)
 ·obtain⟨its,r',pl,hz⟩:=I.tuple hq;have hlen:=r'.length;obtain⟨o,ho,hc,n,hd⟩:=pl;exact ju p (.inr rfl) ho hc hd (λh' c' kp e=>fin its r' hz h' c' kp e) (by simp only[aJ]<;>omega)
def tyV(K:ai)(T:String)(x:V)(H:Hp):Prop:=match x with
 |.str _=>T="str"
 |.int _=>T="int"
 |.ref p=>(T="list" /\ ∃xs,SqL K H p xs)\/(T="tuple" /\ ∃o,K.lookup p=some o/\o.cls=.type "tuple" /\ o.dict=none)\/
   (T="dict" /\ ((∃kvs,H p=some (.dK kvs))\/∃kvs,H p=some (.dT kvs)))\/(T="set" /\ ∃S n,H p=some (.set S n))
 |_=>False
theorem Hu{H:Hp}{s:ae}{x:V}{v:aa}(I:Inv X pins σ H s)(r:RelV x v)(ty:tyV X.K T x H):
  s.TypeIs v T/\∀a,v=.ref a->∃ob,s.heap.get? a=some ob/\ob.dict=none:=by
 cases x with
 |str z=>obtain⟨t,rfl⟩:=r;cases (show T="str" from ty);exact⟨typeIs_str s z t,λ_ e=>nomatch e⟩
 |int i=>obtain⟨t,rfl⟩:=r;cases (show T="int" from ty);exact⟨typeIs_int s i t,λ_ e=>nomatch e⟩
 |ref p=>
  cases r;rcases ty with ⟨rfl,xs,hq⟩|⟨rfl,o,hk,hc,hd⟩|⟨rfl,hk⟩|⟨rfl,S,n,hk⟩
  ·obtain⟨its,_,pl,_⟩:=I.list hq;refine⟨pl.isList.typeIs,λa e=>?_⟩;cases e;obtain⟨o,n,e,c,hd,_⟩:=pl;exact⟨o,e,hd⟩
  ·refine⟨⟨o,I.kIn p o hk,hc⟩,λa e=>?_⟩;cases e;exact⟨o,I.kIn _ o hk,hd⟩
  ·have z:∃o,s.heap.get? p=some o/\o.ExactDict:=by
    rcases hk with ⟨kvs,hk⟩|⟨kvs,hk⟩
    ·obtain⟨_,_,_,_,o,_,_,e,ex,_⟩:=I.hok p _ hk;exact⟨o,e,ex⟩
    ·obtain⟨_,_,_,_,o,_,_,e,ex,_⟩:=I.hok p _ hk;exact⟨o,e,ex⟩
   obtain⟨o,e,ex⟩:=z;refine⟨⟨o,e,ex.1⟩,λa e2=>?_⟩;cases e2;exact⟨o,e,ex.2.1⟩
  ·obtain⟨o,_,_,_,e,ex,_⟩:=I.hok p _ hk;refine⟨⟨o,e,ex.1⟩,λa e2=>?_⟩;cases e2;exact⟨o,e,ex.2.1⟩
 |_=>exact bx ty
def tBM(K:ai)(T:String)(r:V->List V->Hp->VK->Prop)(to:TE)(t:TA):TE:=λσ H Q=>to σ H λx H1=>tyV K T x H1/\t σ H1 λxs H2=>r x xs H2 Q
variable{o e:Expr}{es:List Expr}{to:TE}{t:TA}{name:Str}{apos cpos:Pos}{T id:String}{r:V->List V->Hp->VK->Prop}
theorem K1(pa:gK T)(slot:Slot T name id)(hty:typeOf (.builtin id)=pure (.type "method_descriptor"))(hm:MtR X id r)(ho:PE X o to)(ha:PA X (e::es) t)
  (hbase:c3 o name X.env (eval o X.env)=eval o X.env:=by rfl)
  (hfew:((aL cpos (ao (e::es) X.env)).all (λx=>!x.1)&&(backToKw cpos (cp [] X.env)).all (λx=>x.1.isSome)
   && decide ((e::es).length+([]:List dA).length+(if ([]:List dA).isEmpty then 0 else 1)<30))=true:=by rfl)
  (hline:(apos.endLine==cpos.line)=true:=by rfl) (hs:ao (e::es) X.env=(false,eval e X.env)::ao es X.env:=by rfl) (hplain:(aL cpos (ao es X.env)).any (·.1)=false:=by rfl):
  PE X (.Call (.Attribute o name apos) (e::es) [] cpos) (tBM X.K T r to t):=by
 intro pins s σ H Q I h;refine wpAny_Call_method_late hbase hfew hline rfl (thn (ho pins s σ H _ I h) λv s1 zz=>?_);obtain⟨x,H1,I1,r1,ty,q1⟩:=zz;obtain⟨h1,h2⟩:=Hu I1 r1 ty;refine⟨T,id,pa,slot,hty,h1,h2,?_⟩;have hA:=ha cpos pins s1 σ H1 _ I1 q1;rw[hs]at hA ⊢;refine hJ (by show (false||(aL cpos (ao es X.env)).any (·.1))=false;rw[hplain]<;>rfl) (fK ?_)
 exact thn hA λus s2 ⟨vs,H2,I2,r2,q2⟩=>hm pins s2 σ H2 x vs v us Q I2 r1 r2 q2
end
def MtM(X:Cx)(id:String)(r:V->List V->Hp->VK->Prop):Prop:=
 ∀(pins:List (Addr×Obj)) (s:ae) (σ:St) (H:Hp) (x:V) (xs:List V) (v:aa) (us:List aa) (Q:VK),Inv X pins σ H s->RelV x v->Vals xs us->r x xs H Q->
  af (model X.prog X.w) X.A (call (.builtin id) (v::us)) (EP X pins σ Q) X.xe s
theorem Vals.one:∀{x:V} {us:List aa},Vals [x] us->∃u,us=[u]/\RelV x u
 |_,_,.cons r .nil=>⟨_,rfl,r⟩
variable{t':Nat}
section
variable{X:Cx}{pins:List (Addr×Obj)}{σ:St}{H:Hp}{s:ae}{l b:Addr}{xs ys zs:List V}
theorem Inv.lset{n:Nat}{f:Array aa->Array aa}(I:Inv X pins σ H s)(hH:H l=some (.lst xs))
  (e:s.heap.get? l=some { cls:=.type "list", data:=.seq its.toArray n }) (hf:f its.toArray=its'.toArray) (hv:Vals ys its') (hz:ys.length<=av):
  Inv X pins σ (upd H l (.lst ys)) { s with heap:=s.heap.update l (du f),toks:=t' }:=by
 have q:=PySem.IsL.update e f;rw[hf]at q;refine I.write (x:=l) (e:=l) (by rw[hH];exact trivial) (.inl rfl) (λb' u hb hu=>(hG s.heap (du f) (cM hb)).trans hu) ⟨_,q⟩ ?_;exact⟨hz,its',_,hv,q⟩
theorem Inv.lnew(I:Inv X pins σ H s)(hv:Vals ys its)(hz:ys.length<=av):
  Inv X pins σ (upd H s.heap.objs.size (.lst ys)) { s with heap:=s.heap.push { cls:=.type "list", data:=.seq its.toArray },toks:=t' }:=
 I.laid (λ_ _ q=>aF _ q) (aE _) ⟨hz,its,0,hv,ba _ rfl⟩
theorem Inv.fresh(I:Inv X pins σ H s):H s.heap.objs.size=none:=I.hok.fresh (aE _)
theorem Inv.lstM(I:Inv X pins σ H s)(hH:H l=some (.lst xs)):xs.length<=av/\∃(its:List aa) (n:Nat),Vals xs its/\xs.length=its.length/\s.heap.get? l=some { cls:=.type "list", data:=.seq its.toArray n }:=by obtain⟨z,its,n,r,e⟩:=I.hok l _ hH;exact⟨z,its,n,r,r.length,e⟩
theorem ym{n:Nat}(h:n<=av):dD n=false:=by unfold dD;exact aX (by omega)
end
section
variable{X:Cx}
def xH:V->List V->Hp->VK->Prop:=λx vs H Q=>∃l xs y,x=.ref l/\vs=[y]/\H l=some (.lst xs)/\xs.length<av/\Q .non (upd H l (.lst (xs++[y])))
theorem tE:MtM X "list.append" xH:=by intro pins s σ H x vs v us Q I rx rv h;obtain⟨l,xs,y,rfl,rfl,hH,hz,q⟩:=h;cases rx;obtain⟨u,rfl,ru⟩:=rv.one;obtain⟨z,its,n,r,hl,e⟩:=I.lstM hH;refine gO fO ⟨_,e,rfl⟩ F.entry_list_append (F.args_list_append_2 _ _) (PySem.list_append l its.toArray n u (by rw[aJ];omega)) ⟨e,?_⟩;refine⟨.non,_,I.lset (its':=its++[u]) hH e (by simp) (r.append (.cons ru .nil)) ?_,rfl,q⟩;rw[aC,bN];omega
def Am:V->List V->Hp->VK->Prop:=λx vs H Q=>∃l b xs zs,x=.ref l/\vs=[.ref b]/\H l=some (.lst xs)/\H b=some (.lst zs)/\xs.length+zs.length<=av/\Q .non (upd H l (.lst (xs++zs)))
theorem Bk:MtM X "list.extend" Am:=by
 intro pins s σ H x vs v us Q I rx rv h;obtain⟨l,b,xs,zs,rfl,rfl,hH,hB,hz,q⟩:=h;cases rx;obtain⟨u,rfl,ru⟩:=rv.one;cases ru;obtain⟨z,its,n,r,hl,e⟩:=I.lstM hH;obtain⟨z2,its2,n2,r2,hl2,e2⟩:=I.lstM hB;have hsz:its.toArray.size+its2.toArray.size<=av:=by rw[aJ,aJ];omega
 have hlong:¬(!its.toArray.isEmpty&&dD (its.toArray.size+its2.toArray.size))=true:=by rw[ym hsz,jh];exact aP
 refine gO eO ⟨_,e,rfl⟩ iu (ie _ _)
  (AutoSeq1.list_extend_list_list_0 l its.toArray n b its2.toArray n2 hlong (by rw[aJ];omega) (by omega)) ⟨e,e2,?_⟩
 refine⟨.non,_,I.lset (its':=its++its2) hH e (by simp) (r.append r2) ?_,rfl,q⟩;rw[aC];omega
def Mg:R2:=λx y H Q=>∃l b xs zs,x=.ref l/\y=.ref b/\H l=some (.lst xs)/\H b=some (.lst zs)/\xs.length+zs.length<=av/\∀p,H p=none->Q (.ref p) (upd H p (.lst (xs++zs)))
theorem Hv:OpR X (bX .Add) Mg:=by
 intro pins s σ H x y v u Q I rx ry h;obtain⟨l,b,xs,zs,rfl,rfl,hH,hB,hz,q⟩:=h;cases rx;cases ry;obtain⟨z,its,n,r,hl,e⟩:=I.lstM hH;obtain⟨z2,its2,n2,r2,hl2,e2⟩:=I.lstM hB;refine PySem.P.add_list e e2 ?_ (by rw[aJ,aJ];omega);have ea:its.toArray++its2.toArray=(its++its2).toArray:=by simp
 rw[ea];exact⟨.ref _,_,I.lnew (t':=s.toks) (r.append r2) (by rw[aC];omega),rfl,q _ I.fresh⟩
end
section
variable{prog:au}{w:ak}{A:aw}{E:aa->ae->Prop}{s:ae}
set_option maxRecDepth 100000 in
end
section
variable{κ:Type}[DecidableEq κ]
def oO(kvs:List (κ×V))(k:κ):Option V:=(kvs.find? λkv=>decide (kv.1=k)).map (·.2)
def putK(kvs:List (κ×V))(k:κ)(v:V):List (κ×V):=
 if (kvs.any λkv=>decide (kv.1=k))=true then kvs.map (λkv=>if kv.1=k then (kv.1,v)else kv)else kvs++[(k,v)]
theorem sv{p:κ×V}{r:List (κ×V)}{k:κ}(e:p.1=k):oO (p::r) k=some p.2:=by simp[oO,cF,e]
theorem sy{p:κ×V}{r:List (κ×V)}{k:κ}(e:¬p.1=k):oO (p::r) k=oO r k:=by simp[oO,cF,e]
theorem uY(k:κ):∀kvs:List (κ×V),(kvs.any λkv=>decide (kv.1=k))=(oO kvs k).isSome
 |[]=>rfl
 |p::r=>by
  rw[c4];by_cases e:p.1=k
  ·simp only[sv e,bj e,Bool.true_or,Option.isSome_some]
  ·rw[sy e,aX e,Bool.false_or];exact uY k r
theorem qR(kvs:List (κ×V))(k:κ)(v:V):(putK kvs k v).length<=kvs.length+1:=by
 unfold putK;split
 ·rw[aj];omega
 ·rw[aC,aG,dX];omega
theorem Cp{kvs:List (κ×V)}{k:κ}(v:V)(h:oO kvs k=none):putK kvs k v=kvs++[(k,v)]:=by unfold putK;rw[uY,h];exact ah (by decide)
theorem rD.isSome_eq{o:Option V}{u:Option aa}(r:rD o u):o.isSome=u.isSome:=by
 cases o with
 |none=>cases u with
  |none=>rfl
  |some _=>exact(show False from r).elim
 |some _=>cases u with
  |none=>exact(show False from r).elim
  |some _=>rfl
theorem KV.val{kvs:List (κ×V)}{vs:List (κ×aa)}(r:KV kvs vs)(k:κ):rD (oO kvs k) (valueAt vs k):=by
 unfold KV at r
 induction r with
 |nil=>exact True.intro
 |@cons p q ps qs h t ih=>
  obtain⟨h1,h2⟩:=h;by_cases e:p.1=k
  ·have e':q.1=k:=h1.symm.trans e;have b:valueAt (q::qs) k=some q.2:=by simp[valueAt,cF,e']
   rw[sv e,b];exact h2
  ·have e':¬q.1=k:=λz=>e (h1.trans z);have b:valueAt (q::qs) k=valueAt qs k:=by simp[valueAt,cF,e']
   rw[sy e,b];exact ih
theorem KV.any{kvs:List (κ×V)}{vs:List (κ×aa)}(r:KV kvs vs)(k:κ):(kvs.any λkv=>decide (kv.1=k))=vs.any λkv=>decide (kv.1=k):=by
 unfold KV at r
 induction r with
 |nil=>rfl
 |cons h t ih=>rw[c4,c4,ih,h.1]
theorem KV.repl{kvs:List (κ×V)}{vs:List (κ×aa)}(r:KV kvs vs)(k:κ)(ry:RelV y u):
  KV (kvs.map λkv=>if kv.1=k then (kv.1,y)else kv) (vs.map λkv=>if kv.1=k then (kv.1,u)else kv):=by
 unfold KV at r ⊢
 induction r with
 |nil=>exact .nil
 |@cons p q ps qs h t ih=>
  rw[aK,aK];refine .cons ?_ ih;obtain⟨h1,h2⟩:=h;by_cases e:p.1=k
  ·rw[ag e,ag (h1.symm.trans e)];exact⟨h1,ry⟩
  ·rw[ah e,ah (λz=>e (h1.trans z))];exact⟨h1,h2⟩
theorem KV.put{kvs:List (κ×V)}{vs:List (κ×aa)}(r:KV kvs vs)(k:κ)(ry:RelV y u):KV (putK kvs k y) (stored vs k u):=by
 unfold putK stored;rw[r.any k];by_cases e:(vs.any λkv=>decide (kv.1=k))=true
 ·rw[ag e,ag e];exact r.repl k ry
 ·rw[ah e,ah e];exact jM r ⟨rfl,ry⟩
theorem KV.length{kvs:List (κ×V)}{vs:List (κ×aa)}(r:KV kvs vs):kvs.length=vs.length:=f9 r
end
theorem wz{P:au}{w:ak}{k:Key}(r:RelV (kV k) u):(md P w).is k u=true:=by
 cases k with
 |inl i=>obtain⟨t,e⟩:=(show ∃t,u=Value.int i t from r);subst e;exact x9 P w i t
 |inr x=>obtain⟨t,e⟩:=(show ∃t,u=Value.str x t from r);subst e;exact ya P w x t
theorem wB{P:au}{w:ak}:∀{ks:List Key} {us:List aa},Vals (ks.map kV) us->ItemsAre (md P w) ks us
 |[],_,r=>by rw[dq]at r;cases r;exact .nil
 |k::ks,_,r=>by
  rw[aK]at r;cases r with
  |cons h t=>exact .cons (wz h) (wB t)
abbrev KT(H:Hp):List (List Key×V)->List (List Key×Addr×aa)->Prop:=dv λp q=>p.1=q.1/\H q.2.1=some (.tup (p.1.map kV))/\RelV p.2 q.2.2
variable{kvs:List (List Key×V)}{xs:List (List Key×Addr×aa)}
theorem KT.val{H:Hp}(r:KT H kvs xs)(k:List Key):rD (oO kvs k) ((atKey xs k).map (·.2)):=by
 induction r with
 |nil=>exact True.intro
 |@cons p q ps qs h t ih=>
  obtain⟨h1,_,h2⟩:=h;by_cases e:p.1=k
  ·have e':q.1=k:=h1.symm.trans e;have b:atKey (q::qs) k=some q.2:=by simp[atKey,cF,e']
   rw[sv e,b];exact h2
  ·have e':¬q.1=k:=λz=>e (h1.trans z);have b:atKey (q::qs) k=atKey qs k:=by simp[atKey,cF,e']
   rw[sy e,b];exact ih
theorem KT.repl{H:Hp}(r:KT H kvs xs)(k:List Key)(ry:RelV y u):
  KT H (kvs.map λkv=>if kv.1=k then (kv.1,y)else kv) (xs.map (putAt k u)):=by
 induction r with
 |nil=>exact .nil
 |@cons p q ps qs h t ih=>
  rw[aK,aK];refine .cons ?_ ih;obtain⟨h1,h2,h3⟩:=h;unfold putAt;by_cases e:p.1=k
  ·rw[ag e,ag (h1.symm.trans e)];exact⟨h1,h2,ry⟩
  ·rw[ah e,ah (λz=>e (h1.trans z))];exact⟨h1,h2,h3⟩
theorem KT.put{H:Hp}(r:KT H kvs xs)(k:List Key){b:Addr}(hb:H b=some (.tup (k.map kV)))(ry:RelV y u):
  KT H (putK kvs k y) (storedH xs k b u):=by
 have e:(kvs.any λkv=>decide (kv.1=k))=(atKey xs k).isSome:=by rw[uY,(r.val k).isSome_eq,Option.isSome_map]
 unfold putK storedH;rw[e];by_cases q:(atKey xs k).isSome=true
 ·rw[ag q,ag q];exact r.repl k ry
 ·rw[ah q,ah q];exact jM r ⟨rfl,hb,ry⟩
variable{H':Hp}
theorem KT.keeps{H:Hp}(r:KT H kvs xs)(ht:∀b ys,H b=some (.tup ys)->H' b=some (.tup ys)):KT H' kvs xs:=
 Paired.mapP r λ_ _ z=>⟨z.1,ht _ _ z.2.1,z.2.2⟩
section
variable{P:au}{w:ak}{H:Hp}{h:Heap}{a:Addr}
theorem Gi{u:HO}(ok:HOk P w H h)(e:Rd H a u):mJ P w H h a u:=e.ok ok
theorem yn{kvs:List (Key×V)}(ok:HOk P w H h)(e:Rd H a (.dK kvs)):kvs.length<=av/\(a==bV)=false/\∃vs,KV kvs vs/\h.DictOf (md P w) a vs:=
 show mJ P w H h a (.dK kvs) from Gi ok e
theorem Gj{kvs:List (Key×V)}(ok:HOk P w H h)(e:H a=some (.dK kvs)):kvs.length<=av/\(a==bV)=false/\∃vs,KV kvs vs/\h.DictOf (md P w) a vs:=yn ok (.inl e)
theorem zu{ks:List Key}(ok:HOk P w H h)(e:H a=some (.tup (ks.map kV))):(tupleKind (md P w)).is h ks a:=by obtain⟨_,its,r,o,h1,h2,n,h3⟩:=(show mJ P w H h a (.tup (ks.map kV)) from ok a _ e);exact⟨o,its.toArray,n,h1,h2,h3,by simpa using wB r⟩
theorem An(ok:HOk P w H h)(e:Rd H a (.dT kvs)):kvs.length<=av/\(a==bV)=false/\
  ∃xs,KT H kvs xs/\h.DictOfH (tupleKind (md P w)) a xs:=by
 obtain⟨z,y,xs,r,o,es,ep,h1,h2,h3,h4,h5⟩:=(show mJ P w H h a (.dT kvs) from Gi ok e);refine⟨z,y,xs,r,o,es,ep,h1,h2,h3,h4,λx hx=>?_,h5⟩;have all:∀{l:List (List Key×V)} {m:List (List Key×Addr×aa)},KT H l m->∀x∈m,(tupleKind (md P w)).is h x.1 x.2.1:=by
  intro l m q
  induction q with
  |nil=>intro x hx;exact nomatch hx
  |@cons p q ps qs hq t ih=>
   intro x hx;rcases aT.mp hx with e|hx
   ·subst e;exact zu ok (by rw[<-hq.1];exact hq.2.1)
   ·exact ih x hx
 exact all r x hx
theorem K2(ok:HOk P w H h)(e:H a=some (.dT kvs)):kvs.length<=av/\(a==bV)=false/\
  ∃xs,KT H kvs xs/\h.DictOfH (tupleKind (md P w)) a xs:=An ok (.inl e)
end
def DGet(H:Hp)(a:Addr)(y:V)(r:Option V):Prop:=
 (∃kvs k,Rd H a (.dK kvs)/\y=kV k/\r=oO kvs k)\/∃kvs k b,Rd H a (.dT kvs)/\y=.ref b/\H b=some (.tup (k.map kV))/\r=oO kvs k
def Cq(H:Hp)(a:Addr)(y v:V)(H':Hp):Prop:=
 (∃kvs k,H a=some (.dK kvs)/\y=kV k/\kvs.length<av/\H'=upd H a (.dK (putK kvs k v)))\/
 ∃kvs k b,H a=some (.dT kvs)/\y=.ref b/\H b=some (.tup (k.map kV))/\kvs.length<av/\H'=upd H a (.dT (putK kvs k v))
theorem Cq.k{H:Hp}{a:Addr}{kvs:List (Key×V)}{k:Key}{v:V}(e:H a=some (.dK kvs))(hl:kvs.length<av):Cq H a (kV k) v (upd H a (.dK (putK kvs k v))):=.inl ⟨kvs,k,e,rfl,hl,rfl⟩
variable{Q:aa->ae->Prop}{h':Heap}
section
variable{X:Cx}{pins:List (Addr×Obj)}{σ:St}{H:Hp}{s:ae}{a:Addr}{y v:V}{u r:aa}{o:Option V}{A:aw}{E:aa->ae->Prop}
theorem Inv.big(I:Inv X pins σ H s):bV<s.heap.objs.size:=by have h:aA<s.heap.objs.size:=(I.mod.glob.keeps I.bk).lt;exact Nat.lt_trans (by decide) h
theorem Bl(hu:A.units+1<cLine)(I:Inv X pins σ H s)(g:DGet H a y (some v))(ry:RelV y u)(h:∀w' s',Inv X pins σ H s'->RelV v w'->Q w' s'):
  af (model X.prog X.w) A (getItem (.ref a) u) Q E s:=by
 rcases g with ⟨kvs,k,e,ey,l⟩|⟨kvs,k,b,e,ey,eb,l⟩
 ·subst ey;obtain⟨z,hd,vs,rel,dd⟩:=yn I.hok e;obtain⟨w',hw,rw'⟩:=rD.some_of (v:=v) (o:=valueAt vs k) (by rw[l];exact rel.val k);exact wpAny_getItem_of (wz ry) dd.mapOf hw (h w' _ (I.tok _) rw')
 ·subst ey;cases (show u=Value.ref b from ry);obtain⟨z,hd,xs,rel,dd⟩:=An I.hok e;obtain⟨w',hw,rw'⟩:=rD.some_of (v:=v) (o:=(atKey xs k).map (·.2)) (by rw[l];exact rel.val k)
  obtain⟨p,hp,hp2⟩:=Option.map_eq_some_iff.mp hw;refine wpAny_getItem_heap (iI hu) (zu I.hok eb) dd hp ?_;rw[hp2];exact h w' _ (I.tok _) rw'
theorem xI{ob:HO}(I:Inv X pins σ H s)(mu:Mut (H a))(hs:dm a s.heap h')(he:∃q,h'.get? a=some q)(new:mJ X.prog X.w (upd H a ob) h' a ob):
  Inv X pins σ (upd H a ob) { s with heap:=h',toks:=t' }:=
 I.write (x:=a) (e:=a) mu (.inl rfl) (λb q hb z=>(hs.2 b hb).trans z) he new
theorem Cr{P:au}{w:ak}{kvs:List (Key×V)}{vs:List (Key×aa)}(z:kvs.length<=av)(hd:(a==bV)=false)(rel:KV kvs vs)(dd:h'.DictOf (md P w) a vs):
  mJ P w H' h' a (.dK kvs):=⟨z,hd,vs,rel,dd⟩
theorem Bm{Q:Unit->ae->Prop}(hu:A.units+1<cLine)(I:Inv X pins σ H s)(g:Cq H a y v H')(ry:RelV y u)(rv:RelV v r)(h:∀s',Inv X pins σ H' s'->Q () s'):
  af (model X.prog X.w) A (setItem (.ref a) u r) Q E s:=by
 rcases g with ⟨kvs,k,e,ey,l,eH⟩|⟨kvs,k,b,e,ey,eb,l,eH⟩
 ·subst ey eH;obtain⟨z,hd,vs,rel,dd⟩:=Gj I.hok e;have hz:vs.length<=av:=by rw[<-rel.length];exact z
  have hl:(putK kvs k v).length<=av:=by have:=qR kvs k v;omega
  refine wpAny_setItem_pairs (hsz:=hz) (wz ry) dd λh' dd' hs=>h _ ?_;have he:∃q,h'.get? a=some q:=let ⟨q,_,_,hq,_⟩:=dd';⟨q,hq⟩;exact xI I (by rw[e];exact True.intro) hs he (Cr hl hd (rel.put k rv) dd')
 ·subst ey eH;cases (show u=Value.ref b from ry);obtain⟨z,hd,xs,rel,dd⟩:=K2 I.hok e;have hz:xs.length<=av:=by rw[<-f9 rel];exact z
  have hl:(putK kvs k v).length<=av:=by have:=qR kvs k v;omega
  refine wpAny_setItem_heap (hsz:=hz) (iI hu) (zu I.hok eb) dd λh' dd' hs=>h _ ?_;obtain⟨q,es,ep,hq,h2,h3,h4,_,h5⟩:=dd';refine xI I (by rw[e];exact True.intro) hs ⟨q,hq⟩ ⟨hl,hd,_,(rel.put k eb rv).keeps λc ys ec=>?_,q,es,ep,hq,h2,h3,h4,h5⟩;rw[lO (Kz ec e (λz=>nomatch z))];exact ec
end
section
variable{X:Cx}{pins:List (Addr×Obj)}{σ:St}{H:Hp}{s:ae}{a:Addr}{kvs:List (Key×V)}{k:Key}{u:aa}{A:aw}{E:aa->ae->Prop}
theorem K3(I:Inv X pins σ H s)(e:Rd H a (.dK kvs))(h:∀t s',Inv X pins σ H s'->Q (.int kvs.length t) s'):af (model X.prog X.w) A (call (.builtin "len") [.ref a]) Q E s:=by obtain⟨z,hd,vs,rel,dd⟩:=yn I.hok e;refine call_len_dict hd dd (by rw[<-rel.length];rw[cb]at z;omega) ?_;rw[<-rel.length];exact h _ _ (I.tok _)
end
def Hw(i:Expr):Prop:=∀ov iv,subscripted i false ov iv=operate [ov,iv] (getItem ov iv)
theorem EA{prog:au}{w:ak}{A:aw}{E:aa->ae->Prop}{s:ae}{env:Env}{value slice:Expr}{pos:Pos}{id:String}
  (hl:typeLookup (.type T) "__getitem__" = pure (some (.builtin id))) (hs:Hw slice)
  (h:af (model prog w) A (eval value env) (λo s₁=>af (model prog w) A (eval slice env) (λi s₂=>s₂.TypeIs o T/\af (model prog w) A (getItem o i) Q E s₂) E s₁) E s):
  af (model prog w) A (eval (.Subscript value slice pos) env) Q E s:=by
 refine gH (aY h (λo s₁ h₁=>aY h₁ (λi s₂ h₂=>?_) λ_ _ x=>x) λ_ _ x=>x);obtain⟨hT,h₂⟩:=h₂;unfold subscriptTail;refine ar ?_;rw[getitemInPython_of_ne hT.not_modules];refine ar (i8 hT hl ?_);have fin:af (model prog w) A (subscripted slice false o i) (λr s₃=>af (model prog w) A (letTemporaryGo value o r>>=λ_=>pure r) Q E s₃) E s₂:=by rw[hs o i];exact wpAny_operating (aY h₂ (λr s₃ h₃=>ar (wpAny_letTemporaryGo (ay h₃))) λ_ _ x=>x)
 first
  |exact ay (ar fin)
  |exact ar (ay (ar fin))
  |exact ar fin
variable{X:Cx}{a:Addr}
theorem yp{H:Hp}{s:ae}{o:Option V}(I:Inv X pins σ H s)(g:DGet H a y o):s.TypeIs (.ref a) "dict" := by
 rcases g with ⟨kvs,k,e,_,_⟩|⟨kvs,k,b,e,_,_,_⟩
 ·obtain⟨_,_,vs,_,dd⟩:=yn I.hok e;exact dd.typeIs
 ·obtain⟨_,_,xs,_,dd⟩:=An I.hok e;exact dd.typeIs
def K4(td ty:TE):TE:=λσ H Q=>td σ H λx H1=>ty σ H1 λy H2=>∃a v,x=.ref a/\DGet H2 a y (some v)/\Q v H2
def Gk(td ty tv:TE):TS:=λD σ H=>tv σ H λv H1=>td σ H1 λx H2=>ty σ H2 λy H3=>∃a H4,x=.ref a/\Cq H3 a y v H4/\D.nx σ H4
section
variable{X:Cx}{o i e value:Expr}{pos pos' tpos:Pos}{td ty tv:TE}
theorem EB(hu:X.A.units+1<cLine)(ho:PE X o td)(hi:PE X i ty)(hs:Hw i):PE X (.Subscript o i pos) (K4 td ty):=by intro pins s σ H Q I h;refine EA F.slot_dict_getitem.lookup hs (thn (ho pins s σ H _ I h) λu s1 ⟨x,H1,I1,rx,q1⟩=>thn (hi pins s1 σ H1 _ I1 q1) λiv s2 zz=>?_);obtain⟨y,H2,I2,ry,a,v,ex,g,q2⟩:=zz;subst ex;obtain rfl:u=Value.ref a:=rx;exact⟨yp I2 g,Bl hu I2 g ry λw' s3 I3 rw'=>⟨v,H2,I3,rw',q2⟩⟩
theorem EC(hu:X.A.units+1<cLine)(ho:PE X o td)(hi:PE X i ty)(hv:PE X value tv)(hs:bH value (some (.Subscript o i pos')) pos.line X.env=pure false):
  PS X (.Assign [.Subscript o i pos'] value pos) (Gk td ty tv):=by
 intro pins s σ H D I h;refine wpAny_Assign_Subscript (thn (hv pins s σ H _ I h) λr s1 ⟨v,H1,I1,rv,q1⟩=>thn (ho pins s1 σ H1 _ I1 q1) λu s2 ⟨x,H2,I2,rx,q2⟩=>thn (hi pins s2 σ H2 _ I2 q2) λiv s3 zz=>?_) hs;obtain⟨y,H3,I3,ry,a,H4,ex,g,q3⟩:=zz;subst ex;obtain rfl:u=Value.ref a:=rx;exact Bm hu I3 g ry rv λs4 I4=>⟨σ,H4,I4,q3⟩
end
theorem Cs{P:au}{w:ak}{H:Hp}(h:Heap)(hb:bV<h.objs.size):mJ P w H (h.push { cls:=.type "dict", data:=.dict #[] }) h.objs.size (.dK []):=
 ⟨cI _,beq_eq_false_iff_ne.mpr (cM (aH hb)),[],.nil,lC h⟩
def zv:TE:=λ_ H Q=>∀p,H p=none->Q (.ref p) (upd H p (.dK []))
section
variable{X:Cx}{pos:Pos}
theorem yq:PE X (.Dict [] [] pos) zv:=λpins s σ H Q I h=>
 wpAny_Dict_empty ⟨.ref s.heap.objs.size,_,I.laid (a:=s.heap.objs.size) (o:=.dK []) (t':=s.toks) (λ_ _ q=>aF _ q) (aE _) (Cs s.heap I.big),rfl,h _ (I.hok.fresh (aE _))⟩
end
structure M2(X:Cx)(o:Expr)(m:Str)(apos:Pos)(e f:Expr)(cpos:Pos):Prop where
 base:c3 o m X.env (eval o X.env)=eval o X.env
 few:((aL cpos (ao [e,f] X.env)).all (λx=>!x.1)&&(backToKw cpos (cp [] X.env)).all (λx=>x.1.isSome)
  && decide (([e,f]:List Expr).length+([]:List dA).length+(if ([]:List dA).isEmpty then 0 else 1)<30))=true
 line:(apos.endLine==cpos.line)=true
 trees:aL cpos (ao [e,f] X.env)=[(false,eval e X.env),(false,eval f X.env)]
def IsD(H:Hp)(a:Addr):Prop:=(∃kvs,Rd H a (.dK kvs))\/∃kvs,Rd H a (.dT kvs)
theorem Hy{H:Hp}{s:ae}(I:Inv X pins σ H s)(d:IsD H a):
  s.TypeIs (.ref a) "dict" /\ (∀b,Value.ref a=.ref b->∃ob,s.heap.get? b=some ob/\ob.dict=none)/\(a==bV)=false:=by
 rcases d with ⟨kvs,e⟩|⟨kvs,e⟩
 ·obtain⟨_,hd,vs,_,dd⟩:=yn I.hok e;refine⟨dd.typeIs,λb q=>?_,hd⟩;cases q;obtain⟨ob,_,_,h1,h2,_⟩:=dd;exact⟨ob,h1,h2.2.1⟩
 ·obtain⟨_,hd,xs,_,dd⟩:=An I.hok e;refine⟨dd.typeIs,λb q=>?_,hd⟩;cases q;obtain⟨ob,_,_,h1,h2,_⟩:=dd;exact⟨ob,h1,h2.2.1⟩
end L2
namespace Att
open PySem PySem.W PySem.Calls PyProof.Rows
theorem uC{P:eC}{h:Heap}:∀(ns:List Int) (vs:List aa),WellAll P h vs (ns.map WData.int)->eB vs ns:=by
 intro ns
 induction ns with
 |nil=>intro vs w;rw[dq]at w;cases w;exact .nil
 |cons n ns ih=>
  intro vs w;rw[aK]at w;cases w with
  |cons a b=>cases a;exact .cons _ _ (ih _ b)
variable{l:eh}
theorem Bn{n:Nat}(hn:l.most=some n){P:eC}{h:Heap}{args:List WData}{vals:List aa}
  (hpre:l.row.toRowW.claim.pre args=true) (hwl:WellAll P h vals args):
  ∃a vs ns,vals=[Value.ref a]/\args=[WData.list (ns.map WData.int)]/\h.get? a=some { cls:=.type "list", data:=.seq vs.toArray }/\eB vs ns/\ns.length<=n:=by
 have hsh:WShape.hasAll [] args [.list .int]=true:=(pre_splitW hpre).1;have hc:l.pre.holds [] { args:=args }=true:=(pre_splitW hpre).2;obtain⟨d,r,rfl,h1,h2⟩:=hasAllW_cons hsh;obtain rfl:=hasAllW_nil h2;obtain⟨xs,rfl,h3⟩:=hasW_list h1;obtain⟨ns,rfl⟩:=items_int h3;have hlen:ns.length<=n:=by
  unfold OpenLaw.pre at hc;have h4:(WTm.not (.lt (.lit (.int (n:Int))) (.len (.arg 0)))).holds [] { args:=[.list (ns.map .int)] }=true:=by have h4:=(holds_andW hc).1;rw[hn]at h4;exact h4
  have h5:=condW_of h4 (w_not (w_lt w_lit (w_len_list (w_arg rfl))));rw[aj]at h5;refine i4 λq=>?_;have q':(n:Int)<((ns.length:Nat):Int):=by omega
  first
   |(rw[bj q']at h5;exact aq h5 (by decide))
   |(simp at h5;omega)
 cases hwl with
 |cons w1 w2=>
  cases w2;cases w1 with
  |list ho hall=>exact⟨_,_,ns,rfl,rfl,ho,uC ns _ hall,hlen⟩
theorem Bo(l:eh)(args:List WData):l.row.toRowW.claim.post args (.bool true) args=true:=
 postW_of (r:=l.row.toRowW) (X:=(true==true))
  (show jO [] (.bool true) .bool=true by first|rfl|decide|simp[jO,WShape.arms,WShape.armsAll])
  (show (WTm.eq .res (.lit (.bool true))).value [] { args:=args,res:=some (.bool true),after:=args }=some (.bool (true==true)) from w_eq_bool (w_res rfl) w_lit) rfl
theorem attach_call{n:Nat}{q:au}{loose:List Str}{XP:(Str->Option aa)->Heap->Prop}{YP:ak->Heap->Prop}{d:DefRec}
  (hn:l.most=some n) (hdf:d.params.defaults=[])
  (call:∀(w:ak) (s₀ s₁:ae) (mg mb:Str->Option aa) (fa:Addr) (o:Obj) (pm cd doc:aa) (a:Addr) (vs:List aa) (ns:List Int),
   Ground q loose [] XP w s₀ mg mb s₁.heap->YP w s₁.heap->
   s₁.heap.get? fa=some o->o.data=.func (docDef d.name d.params d.body d.scope pm cd doc)->s₁.heap.CodeRec cd d.name->mg d.name=some (.ref fa)->
   s₁.heap.get? a=some { cls:=.type "list", data:=.seq vs.toArray }->eB vs ns->ns.length<=n->s₁.gens=#[]->
   bJ (model l.prog w) callerA (.call (.ref fa) ⟨[.ref a],[]⟩) (λr s'=>r=.ok (.ret (.bool true))/\OldK s₁.heap s'.heap/\s'.os=s₁.os/\cf s'.gens) s₁):
  WalkO q loose XP YP l.row.toRowW d [] (λf vs=>gQ f vs):=by
 intro w s₀ s₁ mg mb G Y fa o pm cd doc dV kV ho hd hcd hD hmg hg args vals as hpre hlay hrd hwl hlo;obtain rfl:dV=.none:=Dflts.none hD hdf;obtain rfl:kV=.none:=Dflts.noKw hD;obtain⟨a,vs,ns,rfl,rfl,hobj,hints,hlen⟩:=Bn hn hpre hwl;refine enter_call (c5 (call w s₀ s₁ mg mb fa o pm cd doc a vs ns G Y ho (fd_plain hd) hcd hmg hobj hints hlen hg) λr s' hq=>?_);obtain⟨rfl,h2,h3,h4⟩:=hq;exact⟨.inl ⟨.bool true,.bool true,[],rfl,λ_=>rfl,.bool true,Bo l _,λ_=>⟨List.Pairwise.nil,λ_ hm=>(nomatch hm)⟩⟩,h2,h3,h4⟩
end Att
namespace L2
open PySem PySem.Spec PyProof.Rows
theorem wC:∀{vs:List aa} {ns:List Int},eB vs ns->Vals (ns.map V.int) vs
 |_,_,.nil=>.nil
 |_,_,.cons n t h=>.cons ⟨t,rfl⟩ (wC h)
def Hz(H:Hp):Prop:=∀b,H b=none\/∃o xs,H b=some (.frz o (.lst xs))
variable{a:Addr}{fd:aZ}{x:Str}{sp:Sp}
theorem Ct{P:au}{w:ak}{K:ai}{mg mb:Str->Option aa}{CX:CXT}{k:Nat}{fa:Addr}{s₁:ae}{vs:List aa}{ns:List Int}
  (KX:K.In s₁.heap) (hns:s₁.heap.Ns aA mg) (hb:s₁.heap.Ns builtinsNs mb) (hbb:∀x:Str,x≠"__name__" -> mb x=b9 x) (hlim:s₁.heap.NoLimit) (hg:s₁.gens=#[])
  (ha:s₁.heap.get? a=some { cls:=.type "list", data:=.seq vs.toArray }) (hi:eB vs ns) (hl:ns.length<=av) (hr:mP k callerA)
  (F:∀base:Heap,K.In base->base.Ns aA mg->oh P w K mg base CX k fa fd [x] sp) (hbind:∀(s:ae) (u:aa),dy s fd ⟨[u],[]⟩ [(x,u)])
  (hsp:∀H:Hp,Hz H->SqL K H a (ns.map V.int)->sp [.ref a] H (λv _=>v=.bl true) λ_ _ _=>False)
  (hCX:∀H e s',CX [] H s₁ (λ_ _ _=>False) e s'->False):
  bJ (model P w) callerA (.call (.ref fa) ⟨[.ref a],[]⟩) (λr s'=>r=.ok (.ret (.bool true))/\OldK s₁.heap s'.heap/\s'.os=s₁.os/\cf s'.gens) s₁:=by
 have rv:=wC hi;have lenV:=hi.length;have core:∀H:Hp,Hz H->SqL K H a (ns.map V.int)->HOk P w H s₁.heap->(∀b,H b≠none->b=a)->(H a≠none->K.lookup a=none)->
   bJ (model P w) callerA (.call (.ref fa) ⟨[.ref a],[]⟩) (λr s'=>r=.ok (.ret (.bool true))/\OldK s₁.heap s'.heap/\s'.os=s₁.os/\cf s'.gens) s₁:=by
  intro H hO hS hok hA hK;have base_of:∀{b:Addr} {o:Obj},s₁.heap.get? b=some o->H b=none->(xp s₁.heap H).get? b=some o:=λe n=>B4 e n;have noA:∀{b:Addr} {o:Obj} {es:Array DictEntry} {ep:Nat},s₁.heap.get? b=some o->o.data=.dict es ep->H b=none:=λ{b o es ep} e d=>by
   cases q:H b with
   |none=>rfl
   |some u=>have e':b=a:=hA b (by rw[q];simp);subst e';rw[ha]at e;cases e;have d':Data.seq vs.toArray _=Data.dict es ep:=d;cases d'
  have nsK:∀{b:Addr} {m:Str->Option aa},s₁.heap.Ns b m->(xp s₁.heap H).Ns b m:=λ{b m} ⟨o,es,ep,e,d,r⟩=>⟨o,es,ep,base_of e (noA e d),d,r⟩;have hKb:K.In (xp s₁.heap H):=λb o e=>base_of (KX b o e) (by
   cases q:H b with
   |none=>rfl
   |some u=>
    have e':b=a:=hA b (by rw[q];simp);subst e';rw[hK (by rw[q];simp)]at e;cases e)
  have hM:Mod K mg (xp s₁.heap H):=⟨hKb,nsK hns,⟨mb,nsK hb,hbb⟩,let ⟨mc,h1,h2⟩:=hlim;⟨mc,nsK h1,h2⟩⟩;have e0:zr P w K mg (xp s₁.heap H) callerA [] s₁ H:=⟨rfl,hM,λb o e=>Ee e,jB (A3 _ _),trivial,λb hb=>aq (show b∈([]:List Addr) from hb) (by simp),hok,.of_eq hg⟩;refine c5 ((F _ hKb (nsK hns)).run callerA [] s₁ H ⟨[.ref a],[]⟩ [.ref a] [.ref a] _ _ hr e0 (hbind s₁ (.ref a)) (.cons rfl .nil) (hsp H hO hS)) λr s' h=>?_;cases r with
  |error e=>exact(hCX H e s' h).elim
  |ok fl=>
   cases fl with
   |next=>exact bx h
   |brk=>exact bx h
   |cont=>exact bx h
   |ret u=>
    obtain⟨v,H',os,bare,un,hok',r',q⟩:=h;have q':v=.bl true:=q;subst q';obtain rfl:u=Value.bool true:=r';refine⟨rfl,OldK.of_keep λb o e=>?_,os,bare⟩;cases q:H b with
    |none=>exact un.keep b o e q (by intro z;exact aq (show b∈([]:List Addr) from z) (by simp)) (by simp)
    |some u=>
     rcases hO b with z|⟨ob,xs,z⟩
     ·rw[q]at z;cases z
     ·have z2:=un.frzs b ob _ z;obtain⟨e1,_⟩:=hok b _ z;obtain⟨e2,_⟩:=hok' b _ z2;rw[e]at e1;cases e1;exact e2
 cases hk:K.lookup a with
 |some o=>have e:=KX a o hk;rw[ha]at e;cases e;refine core (λ_=>none) (λ_=>.inl rfl) (.inr ⟨_,vs.toArray,_,hk,rfl,rfl,rfl,by rw[aJ,lenV];exact hl,by simpa using rv⟩) (λb u z=>by have z':(none:Option HO)=some u:=z;cases z') (λb z=>aq rfl z) λz=>aq rfl z
 |none=>
  refine core (λb=>if b=a then some (.frz { cls:=.type "list", data:=.seq vs.toArray } (.lst (ns.map V.int)))else none) (λb=>?_) (.inl (.inr ⟨{ cls:=.type "list", data:=.seq vs.toArray },ag rfl⟩)) (λb u z=>?_) (λb z=>?_) λ_=>hk
  ·by_cases hb:b=a
   ·exact .inr ⟨_,_,ag hb⟩
   ·exact .inl (ah hb)
  ·by_cases hb:b=a
   ·have z':=(ag hb).symm.trans z;cases z';subst hb;exact⟨ha,by rw[aj];exact hl,vs,_,rv,ha⟩
   ·have z':=(ah hb).symm.trans z;cases z'
  ·by_cases hb:b=a
   ·exact hb
   ·exact aq (ah hb) z
theorem ED{l:eh}{n k:Nat}{q:au}{loose:List Str}{XP:(Str->Option aa)->Heap->Prop}{YP:ak->Heap->Prop}{d:DefRec}{K:eC->ai}{CX:ak->CXT}{sp:ak->Sp}
  (hn:l.most=some n) (hn2:n<=av) (hdf:d.params.defaults=[]) (hr:mP k callerA)
  (hY:∀(w:ak) (h:Heap),YP w h->(K w.params).In h)
  (F:∀(w:ak) (mg:Str->Option aa) (fa:Addr) (h:Heap),(K w.params).In h->h.Ns aA mg->mg d.name=some (.ref fa)->
   ∃fd:aZ,(∀(s:ae) (u:aa),dy s fd ⟨[u],[]⟩ [(x,u)])/\
    ∀base:Heap,(K w.params).In base->base.Ns aA mg->oh l.prog w (K w.params) mg base (CX w) k fa fd [x] (sp w))
  (hsp:∀(w:ak) (H:Hp) (a:Addr) (ns:List Int),ns.length<=n->Hz H->SqL (K w.params) H a (ns.map V.int)->sp w [.ref a] H (λv _=>v=.bl true) λ_ _ _=>False)
  (hCX:∀(w:ak) (H:Hp) (s:ae) (e:aa) (s':ae),CX w [] H s (λ_ _ _=>False) e s'->False):
  W.WalkO q loose XP YP l.row.toRowW d [] (λf vs=>gQ f vs):=by
 refine Att.attach_call hn hdf λw s₀ s₁ mg mb fa o pm cd doc a vs ns G Y ho hd hcd hmg hobj hints hlen hg=>?_;have KX:=hY w _ Y;obtain⟨fd,hb,hF⟩:=F w mg fa _ KX G.T.g hmg;exact Ct KX G.T.g G.T.b G.T.builtins G.T.nolimit hg hobj hints (bF hlen hn2) hr hF hb (λH hO hS=>hsp w H a ns hlen hO hS) λH e s'=>hCX w H s₁ e s'
def inClass(s:Stmt)(j:Nat):Stmt:=match s with
 |.ClassDef _ _ _ body _ _ _ _ _ _ _=>body.getD j (.Pass ⟨0,0,0,0⟩)
 |_=>.Pass ⟨0,0,0,0⟩
def oi(s:Stmt):Arguments:=match s with
 |.FunctionDef _ a _ _ _ _ _ _ _ _=>a
 |_=>{ posonlyargs:=[],args:=[],vararg:=none,kwonlyargs:=[],kw_defaults:=[],kwarg:=none,defaults:=[] }
def l7(s:Stmt):List Stmt:=match s with
 |.FunctionDef _ _ b _ _ _ _ _ _ _=>b
 |_=>[]
def lS(s:Stmt):bA:=match s with
 |.FunctionDef _ _ _ _ _ _ sc _ _ _=>sc
 |_=>{ kind:=.function,names:=[],isGenerator:=false,isCoroutine:=false }
abbrev CX0:CXT:=λ_ _ _ _ _ _=>False
abbrev E0:XK:=λ_ _ _=>False
theorem tY{X:Cx}:Passes CX0 X E0:=λ_ _ _ _ _ _ _ h=>h.elim
structure Fun(K:ai)(x qual:Str)(st:Stmt)(f:Addr)(fd:aZ):Prop where
 ex:∃(oc:aa) (od:Option Addr) (kV doc pm:aa) (an:Option Addr) (cdv ct:aa) (osl:Array (Option aa)),
  fd=cu x qual (oi st) (l7 st) (lS st) .none kV doc pm an cdv ct/\K.lookup f=some ⟨oc,od,.func fd,osl⟩/\dw K cdv qual=true
 kp:bY K (.ref f)=true
variable{qual:Str}{st:Stmt}{ps:List Str}
section
variable{P:au}{w:ak}{K:ai}{mg:Str->Option aa}{base:Heap}
theorem Fun.ok{f:Addr}{N:List Str}{k:Nat}(F:Fun K x qual st f fd)(S:m4 N ps (lS st))(len:∀vs H Q E,sp vs H Q E->vs.length=ps.length)
  (hbody:∀(cdv:aa) (A:aw) (outer:List Env) (s:ae) (H:Hp) (vs:List V) (Q:VK) (E:XK),mP k (A.deeper (envOfC qual (lS st) s.heap.objs.size f cdv))->sp vs H Q E->
   ∃t,PSs (xA CX0 P w K mg base N qual (lS st) f cdv A outer s H E).nox (l7 st) t/\t { nx:=λ_ H'=>Q .non H',rt:=Q } (start N vs) H):oh P w K mg base CX0 (k+1) f fd ps sp:=by
 obtain⟨oc,od,kV,doc,pm,an,cdv,ct,osl,rfl,lk,hcd⟩:=F.ex;refine yh lk hcd S len λA outer s H vs Q E hr hsp=>?_;obtain⟨t,h,q⟩:=hbody cdv A outer s H vs Q E hr hsp;exact⟨t,h.nox,q⟩
theorem Fun.binds{f:Addr}(F:Fun K x qual st f fd)
  (h:∀(kV doc pm:aa) (an:Option Addr) (cdv ct:aa) (us:List aa),us.length=ps.length->bindArgs (cu x qual (oi st) (l7 st) (lS st) .none kV doc pm an cdv ct) ⟨us,[]⟩=pure (ps.zip us)):Binds K fd ps []:=by
 obtain⟨oc,od,kV,doc,pm,an,cdv,ct,osl,rfl,lk,hcd⟩:=F.ex;exact .all (h kV doc pm an cdv ct)
end
theorem Gm{A:aw}{k:Nat}(hr:mP k A):A.units+1<cLine:=fP (Nat.add_le_add_left (by decide:1<=64) _) hr.units
theorem rq{n:Nat}(h:n<=1000):n<av:=fP h (by decide)
section
variable{X:Cx}
theorem pv(i:Nat){pos:Pos}(hN:X.N[i]?=some x:=by rfl)(hv:Vis X.env.scope x:=by first|exact Or.inl rfl|exact Or.inr (Or.inl rfl)|exact Or.inr (Or.inr rfl))(hd:(x==("__debug__" : Str))=false:=by decide)
  (hcd:(x==("__classdict__" : Str))=false:=by decide):PE X (.Name x pos) (qf i):=GP hN hv hd hcd
end
variable{B:Prop}
theorem zw{A:Prop}(h:B):if false=true then A else B:=by rw[ah aP];exact h
theorem zx{A:Prop}(h:A):if true=true then A else B:=by rw[ag rfl];exact h
def lK(H H':Hp):Prop:=∀b o,H b=some o->H' b=some o
theorem lK.refl(H:Hp):lK H H:=λ_ _ h=>h
theorem lK.trans{H H1 H2:Hp}(a:lK H H1)(b:lK H1 H2):lK H H2:=λc o h=>b c o (a c o h)
theorem lK.seq{K:ai}{H H':Hp}{xs:List V}(e:lK H H')(h:SqL K H a xs):SqL K H' a xs:=by
 rcases h with (h|⟨o,h⟩)|h
 ·exact .inl (.inl (e _ _ h))
 ·exact .inl (.inr ⟨o,e _ _ h⟩)
 ·exact .inr h
end L2
set_option maxHeartbeats 4000000
namespace L3
open PySem PySem.Spec PyProof.Rows L2
abbrev St:=L2.St
theorem uZ{α β:Type}{f:α->β->Sem (ForInStep β)}{g:β->α->β}:∀(l:List α) (b:β),(∀x∈l,∀c,f x c=pure (ForInStep.yield (g c x)))->(forIn l b f:Sem β)=pure (l.foldl g b)
 |[],b,_=>by simp
 |x::r,b,h=>by rw[List.forIn_cons,h x aO b];show (forIn r (g b x) f:Sem β)=_;rw[uZ r (g b x) λy hy c=>h y (aU _ hy) c];rfl
def qC(cells:List (Str×Addr))(cs:List (Str×Addr))(x:Str×cc):List (Str×Addr):=if (x.2==NameKind.free)=true then (x.1,(cells.lookup x.1).getD 0)::cs else cs
def oU(cells:List (Str×Addr))(names:List (Str×cc)):List (Str×Addr):=names.foldl (qC cells) []
variable{scope:bA}{env:Env}
theorem wa(h:∀x∈scope.names,x.2=.free->∃c,env.cells.lookup x.1=some c):
  closureFor scope env=pure (oU env.cells scope.names):=by
 simp only[closureFor];rw[uZ (g:=qC env.cells) scope.names [] λx hx c=>by
  obtain⟨n,k⟩:=x;by_cases hk:k=.free
  ·subst hk;obtain⟨a,e⟩:=h _ hx rfl;have e':env.cells.lookup n=some a:=e;simp only[qC,cellOf,e',beq_self_eq_true,if_true,i5];rfl
  ·have hb:(k==NameKind.free)=false:=by simpa using hk
   simp only[qC,hb,dH,if_false]]
 rfl
theorem yt{cells:List (Str×Addr)}:∀(names:List (Str×cc)) (acc:List (Str×Addr)),(∀x∈names,x.2=.free->∃c,cells.lookup x.1=some c)->(∀x c,acc.lookup x=some c->cells.lookup x=some c)->
  ∀x c,(names.foldl (qC cells) acc).lookup x=some c->cells.lookup x=some c
 |[],acc,_,ha,x,c,e=>ha x c e
 |y::r,acc,h,ha,x,c,e=>by
  refine yt r (qC cells acc y) (λz hz=>h z (aU _ hz)) (λz d ez=>?_) x c e;obtain⟨n,k⟩:=y;unfold qC at ez;split at ez
  ·rename_i hk;obtain⟨a,ea⟩:=h (n,k) aO (by simpa using hk);have ea':cells.lookup n=some a:=ea;rw[cD]at ez;cases hb:z==n with
   |true=>rw[hb]at ez;have ez':some ((cells.lookup n).getD 0)=some d:=ez;rw[ea']at ez';rw[fA hb,ea'];exact ez'
   |false=>rw[hb]at ez;exact ha z d ez
  ·exact ha z d ez
theorem wD{cells:List (Str×Addr)}:∀(names:List (Str×cc)) (acc:List (Str×Addr)) (x:Str),(∃c,acc.lookup x=some c)->∃c,(names.foldl (qC cells) acc).lookup x=some c
 |[],_,_,h=>h
 |y::r,acc,x,h=>by
  refine wD r (qC cells acc y) x ?_;unfold qC;split
  ·rw[cD];cases x==y.1 with
   |true=>exact⟨_,rfl⟩
   |false=>exact h
  ·exact h
theorem u9{cells:List (Str×Addr)}:∀(names:List (Str×cc)) (acc:List (Str×Addr)) (x:Str),(x,NameKind.free)∈names->∃c,(names.foldl (qC cells) acc).lookup x=some c
 |[],_,_,h=>by cases h
 |y::r,acc,x,h=>by
  rcases aT.mp h with e|h
  ·subst e;refine wD r _ x ?_;unfold qC;rw[ag (by simp),cD];simp
  ·exact u9 r _ x h
theorem qj{env:Env}(x:Str):∀(names:List (Str×cc)),
  (names.map λ(n,k)=>if (k==NameKind.free&&env.scope.kind==.function&&env.kindOf n==some .cell)then (n,NameKind.cell)else (n,k)).lookup x=
   (names.lookup x).map λk=>if (k==NameKind.free&&env.scope.kind==.function&&env.kindOf x==some .cell)=true then NameKind.cell else k
 |[]=>rfl
 |(n,k)::r=>by
  have ih:=qj (env:=env) x r;rw[aK,cD (k:=n)];show bU x ((if (k==NameKind.free&&env.scope.kind==.function&&env.kindOf n==some .cell)=true then (n,NameKind.cell)else (n,k))::_)=_;cases hx:x==n with
  |true=>
   have e:=fA hx;subst e;split
   ·rename_i hc;simp only[cD,hx,cW,hc,if_true]
   ·rename_i hc;simp only[cD,hx,cW];rw[ah hc]
  |false=>
   rw[<-ih];split
   ·simp only[cD,hx]
   ·simp only[cD,hx]
variable{x:Str}
theorem zy(hcell:∀y∈scope.names,y.2≠.cell)(h:(relabel scope env).names.lookup x=some .cell\/(relabel scope env).names.lookup x=some .free):(x,NameKind.free)∈scope.names:=by
 have e:=qj (env:=env) x scope.names;have h':(scope.names.lookup x).map (λk=>if (k==NameKind.free&&env.scope.kind==.function&&env.kindOf x==some .cell)=true then NameKind.cell else k)=some .cell\/
   (scope.names.lookup x).map (λk=>if (k==NameKind.free&&env.scope.kind==.function&&env.kindOf x==some .cell)=true then NameKind.cell else k)=some .free:=by
  rw[<-e];exact h
 cases q:scope.names.lookup x with
 |none=>rw[q]at h';rcases h' with z|z<;>cases z
 |some k=>
  rw[q]at h';have hm:=mem_of_lookup q;have hc:=hcell _ hm;cases k with
  |free=>exact hm
  |cell=>exact aq rfl hc
  |_=>rcases h' with z|z<;>cases z
theorem wb(h:scope.names.lookup x=some .free):(relabel scope env).names.lookup x=some .cell\/(relabel scope env).names.lookup x=some .free:=by
 have e:=qj (env:=env) x scope.names;have e':(relabel scope env).names.lookup x=(scope.names.lookup x).map λk=>if (k==NameKind.free&&env.scope.kind==.function&&env.kindOf x==some .cell)=true then NameKind.cell else k:=e
 rw[e',h,cW];split
 ·exact .inl rfl
 ·exact .inr rfl
def mQ(X:Cx)(N':List Str)(scope:bA)(cl:List (Str×Addr))(C:Addr)(fp:List Addr)(s:ae)(H:Hp):Cx:=
 { X with N:=N',s₀:=s,H₀:=H,env:=compEnvC scope cl C X.env,outer:=X.stack,ex:=fp,fn:=λ_=>false,pn:=[],xe:=λ_ _=>False }
def PIf(X:Cx)(ifs:List Expr)(t:TT):Prop:=
 ∀(pins:List (Addr×Obj)) (s:ae) (σ:St) (H:Hp) (Q:Bool->Hp->Prop),Inv X pins σ H s->t σ H Q->
  af (model X.prog X.w) X.A (forIn ifs true λc r=>if r=true then do let ok<-isTrue c X.env (eval c X.env);pure (ForInStep.yield ok)else pure (ForInStep.yield r)) (TP X pins σ Q) X.xe s
def Mh:TT:=λ_ H Q=>Q true H
variable{X:Cx}
theorem EE:PIf X [] Mh:=λ_ _ _ H _ I h=>wpAny_tests_nil ⟨H,I,h⟩
theorem EF{c:Expr}{t:TT}(h:PT X c t):PIf X [c] t:=λpins s σ H Q I hq=>wpAny_tests_one (h pins s σ H Q I hq)
variable{elt iter:Expr}{ifs:List Expr}{pos:Pos}
section
variable{prog:au}{w:ak}{A:aw}{R:cN->ae->Prop}{s:ae}
theorem xJ{target:Expr}{it acc:aa}(J:Nat->ae->Prop)
  (turn:∀n s,J n s->af (model prog w) A (pyNext it) (λr s₁=>match r with
   |none=>R (.ok .next) s₁
   |some v=>af (model prog w) A (df target it v) (λ_ s₁'=>af (model prog w) A (assign target env v) (λ_ s₂=>
     af (model prog w) A (forIn ifs true λc r=>if r=true then do let ok<-isTrue c env (eval c env);pure (ForInStep.yield ok)else pure (ForInStep.yield r)) (λok s₃=>
      if ok=true then af (model prog w) A (eval elt env) (λx s₄=>
       af (model prog w) A (call (.builtin "list.append") [acc,x]) (λ_ s₅=>∃m,m<n/\J m s₅) (notedBy (model prog w) A env λe s'=>R (.error e) s') s₄) (notedBy (model prog w) A env λe s'=>R (.error e) s') s₃
      else ∃m,m<n/\J m s₃) (notedBy (model prog w) A env λe s'=>R (.error e) s') s₂) (notedBy (model prog w) A env λe s'=>R (.error e) s') s₁')
      (notedBy (model prog w) A env λe s'=>R (.error e) s') s₁) (notedBy (model prog w) A env λe s'=>R (.error e) s') s)
  (n:Nat) (h:J n s):
  bJ (model prog w) A (.compLoop (.ListComp elt [⟨target,iter,ifs,0⟩] scope pos) 0 it acc env) R s:=by
 refine codeAny_loop rfl J (λn s hI=>?_) n h;show af _ A ((compTurn (.ListComp elt [⟨target,iter,ifs,0⟩] scope pos) 0 it acc env).onRaise (λx=>do noteFrame x env;theTreesLotGoes x)) _ _ s;refine wpAny_noted ?_;rw[compTurn_list];refine ar (gb (ar (aY (turn n s hI) (λr s₁ h₁=>?_) λ_ _ h'=>h')));cases r with
 |none=>exact ay h₁
 |some v=>
  refine ar (aY h₁ (λ_ s₁' h₁'=>?_) λ_ _ h'=>h');refine ar (aY h₁' (λ_ s₂ h₂=>ar (aY h₂ (λok s₃ h₃=>?_) λ_ _ h'=>h')) λ_ _ h'=>h');cases ok with
  |false=>exact ay ⟨rfl,h₃⟩
  |true=>exact ar (ar (aY h₃ (λx s₄ h₄=>ar (aY h₄ (λ_ s₅ h₅=>ay (ay ⟨rfl,h₅⟩)) λ_ _ h'=>h')) λ_ _ h'=>h'))
end
def oj(k:Nat)(cap:List Nat)(σ:St):St:=eV k none++cap.map λj=>(σ[j]?).join
variable{σ:St}
theorem wF{k:Nat}{cap:List Nat}{i:Nat}{v:V}(h:(oj k cap σ)[i]?=some (some v)):k<=i:=by
 by_cases hi:k<=i
 ·exact hi
 ·unfold oj at h;rw[cP (by rw[bB];omega),eE]at h;split at h<;>cases h
variable{N N':List Str}
theorem Bp{k:Nat}{cap:List Nat}{i:Nat}{v:V}(hcap:(N'.drop k).map some=cap.map λj=>N[j]?)(hx:N'[i]?=some x)(h:(oj k cap σ)[i]?=some (some v)):
  ∃j:Nat,N[j]?=some x/\σ[j]?=some (some v)/\x∈N'.drop k:=by
 have hi:=wF h;unfold oj at h;rw[cO (by rw[bB];exact hi),bB,aS]at h;have hd:(N'.drop k)[i - k]?=some x:=by rw[cz,show k+(i - k)=i by omega];exact hx
 have e:=aQ (λl=>l[i - k]?) hcap;simp only[aS,hd,cW]at e;cases q:cap[i - k]? with
 |none=>rw[q]at h;cases h
 |some j=>
  rw[q]at h e;simp only[cW,lu]at h e;refine⟨j,e.symm,?_,bC hd⟩;cases z:σ[j]? with
  |none=>rw[z]at h;cases h
  |some o=>rw[z]at h;have h':o=some v:=h;rw[h']
def tZ(wi:TI)(g:TG)(tt:TT)(te:TE)(k:Nat)(cap:List Nat):TE:=λσ H Q=>wi σ H λJ H1=>∀p,H1 p=none->
 ∃W:Nat->Nat->List V->Hp->Prop,(∃m,W 0 m [] (upd H1 p (.lst [])))/\∀i m acc H2,W i m acc H2->
  (J.stop i H2/\Q (.ref p) H2)\/
   (J.go i H2/\∀x H3,J.yld i H2 x H3->g x (oj k cap σ) H3 λσ4 H4=>σ4.drop k=(oj k cap σ).drop k/\tt σ4 H4 λb H5=>
    if b=true then te σ4 H5 λy H6=>∃acc',H6 p=some (.lst acc')/\acc'.length<av/\∃m',m'<m/\W (i+1) m' (acc'++[y]) (upd H6 p (.lst (acc'++[y])))
    else ∃m',m'<m/\W (i+1) m' acc H5)
variable{tg:Expr}{wi:TI}{tt:TT}{te:TE}
theorem wG{pins:List (Addr×Obj)}{s:ae}{H:Hp}{use:Option (aa->Sem Unit)}{P:aa->ae->Prop}{Q:V->Hp->Prop}{k:Nat}{cap:List Nat}{g:TG}
  (hc:X.calm=true) (hi:PI X tg iter wi)
  (body:∀(cl:List (Str×Addr)) (C:Addr) (fp:List Addr) (s:ae) (H:Hp),PG (mQ X N' scope cl C fp s H) tg g/\PIf (mQ X N' scope cl C fp s H) ifs tt/\PE (mQ X N' scope cl C fp s H) elt te)
  (hkind:scope.kind=.function) (hcell:(scope.names.all λy=>y.2 != .cell)=true)
  (hloc:(scope.names.all λy=>y.2 != .local||scope.names.lookup y.1==some .local)=true)
  (hfree:(scope.names.all λy=>y.2 != .free||(X.env.kindOf y.1==some .cell||X.env.kindOf y.1==some .free))=true)
  (hlen:N'.length=k+cap.length) (hcap:(N'.drop k).map some=cap.map λj=>X.N[j]?)
  (hcf:((N'.drop k).all λx=>scope.names.lookup x==some .free)=true)
  (hs:∀x,dM iter X.env x=pure x)
  (I:Inv X pins σ H s) (h:tZ wi g tt te k cap σ H Q)
  (fin:∀a C m u s4 H3,s4.heap.Ns C m->Inv X pins σ H3 s4->xu X pins H3 C->Q (.ref a) H3->compPost (model X.prog X.w) X.A X.xe use P (.ref a) C (.ok u) s4):
  af (model X.prog X.w) X.A (comprehension (.ListComp elt [⟨tg,iter,ifs,0⟩] scope pos) scope X.env (firstIterPos [⟨tg,iter,ifs,0⟩] pos) (newList []) false (eval iter X.env) use) P X.xe s:=by
 have hcell':∀y∈scope.names,y.2≠.cell:=λy hy e=>by have z:=az.mp hcell y hy;rw[e]at z;exact aq z (by decide)
 have hloc':∀y∈scope.names,y.2=.local->scope.names.lookup y.1=some .local:=λy hy e=>by have z:=az.mp hloc y hy;rw[e]at z;simpa using z
 have hfree':∀y∈scope.names,y.2=.free->X.env.kindOf y.1=some .cell\/X.env.kindOf y.1=some .free:=λy hy e=>by have z:=az.mp hfree y hy;rw[e]at z;simpa using z
 have hcl:∀y∈scope.names,y.2=.free->∃c,X.env.cells.lookup y.1=some c:=λy hy e=>I.ok.has y.1 (hfree' y hy e);refine wpAny_comprehension_free rfl hs (wa hcl) hkind hloc' (thn (hi pins s σ H _ I h) λxv s₁ h₁=>thn h₁ λit s₂ h₂=>?_);obtain⟨ita,fp,tn,J,H2,e,I2,T,st2,f2,R2⟩:=h₂;subst e;obtain⟨W,⟨m0,w0⟩,turn⟩:=R2 s₂.heap.objs.size (I2.hok.fresh (aE _));refine wpAny_newObj_type (wpAny_newFunctionEnv hcell' (by intro y hy;simp at hy) (λh₁ hns₁ hsb₁=>?_) hkind);dsimp only at hns₁ hsb₁ ⊢;generalize hp:s₂.heap.push { cls:=.type "list", dict:=none,data:=.seq ([]:List aa).toArray }=hpL at hns₁ hsb₁ ⊢;have hsz:hpL.objs.size=s₂.heap.objs.size+1:=by rw[<-hp,dh]
 have I3:Inv X pins σ (upd H2 s₂.heap.objs.size (.lst [])) { s₂ with heap:=hpL }:=by rw[<-hp];exact I2.laid (t':=s₂.toks) (λb u e=>aF _ e) (aE _) ⟨cI _,[],0,.nil,ba _ rfl⟩
 have old:∀b o,hpL.get? b=some o->h₁.get? b=some o:=λb o e=>hsb₁.extBut b o (aH (aD e)) (aF _ e);have older:∀b o,s₂.heap.get? b=some o->hpL.get? b=some o:=λb o e=>by rw[<-hp];exact aF _ e
 have hfpS:∀b∈fp,b<s₂.heap.objs.size:=λb hb=>let ⟨o,e,_⟩:=T.obj _ _ st2 b hb;aD e;have sub:∀x c,(oU X.env.cells scope.names).lookup x=some c->X.env.cells.lookup x=some c:=yt scope.names [] hcl (λx c e=>by cases e);have ok':(mQ X N' scope (oU X.env.cells scope.names) hpL.objs.size fp { s₂ with heap:=hpL } (upd H2 s₂.heap.objs.size (.lst []))).Ok:={
  mod:=I3.ok.mod
  kind:=hkind
  glob:=I3.ok.glob
  blt:=I3.ok.blt
  above:=aE _
  inj:=λx y c h1 h2=>I3.ok.inj x y c (sub x c h1) (sub y c h2)
  has:=λx hx=>u9 scope.names [] x (zy hcell' hx)
  cab:=λx c hf _=>aq (show false=true from hf) aP
  hd:=I3.ok.hd
  frames:=I3.ok.frames
  stk:=.inl rfl
  exf:=λb hb=>⟨(by
   show b≠hpL.objs.size;rw[hsz];exact aH (cQ (hfpS b hb))),λx c e=>(f2 b hb).2.2.2.2.1 x c (sub x c e)⟩
  bs:=I3.bs
  bsz:=bF I3.ok.bsz I3.sz
  noex:=λb o e hb=>by
   rcases(f2 b hb).2.2.2.1 with z|z
   ·exact I3.ok.noex b o e z
   ·exact aq (br (aD e) (bF I3.ok.bsz z)) (cY _)
  exfs:=λb hb z=>(aT.mp (I3.stkSub b z)).elim (f2 b hb).2.1 (f2 b hb).2.2.1
  funs:=I3.stack
  frf:=I3.stkFree }
 have IX:Inv (mQ X N' scope (oU X.env.cells scope.names) hpL.objs.size fp { s₂ with heap:=hpL } (upd H2 s₂.heap.objs.size (.lst []))) [] (oj k cap σ) (upd H2 s₂.heap.objs.size (.lst []))
   { s₂ with heap:=h₁,toks:=s₂.toks+([]:List (Str×aa)).length }:={
  ok:=ok'
  os:=rfl
  bare:=I3.bare
  base:=Un.kept old
  loc:=⟨_,hns₁,λi x v e1 e2 _=>by
   obtain⟨j,hj,hσ,hm⟩:=Bp hcap e1 e2;have hx:scope.names.lookup x=some .free:=by simpa using az.mp hcf x hm
   have hk:=hfree' (x,.free) (mem_of_lookup hx) rfl;obtain⟨m,hn,hl⟩:=I3.loc;obtain⟨u,r,lk⟩:=hl j x v hj hσ (hk.elim (λz=>.inr (.inl z)) λz=>.inr (.inr z));refine⟨u,r,.inr ⟨wb hx,?_⟩⟩;rcases lk with ⟨z,_⟩|⟨_,c,e,o,ho,hd⟩
   ·rcases hk with y|y
    ·rw[y]at z;cases z
    ·rw[y]at z;cases z
   ·obtain⟨c',e'⟩:=u9 (cells:=X.env.cells) scope.names [] x (mem_of_lookup hx);have ec:=sub x c' e';rw[e]at ec;have ec':c=c':=bp ec;subst ec';exact⟨c,e',o,old _ _ ho,hd⟩⟩
  cell:=λx c e=>by obtain⟨v,o,ho,hd⟩:=I3.cell x c (sub x c e);exact⟨v,o,old _ _ ho,hd⟩
  free:=I3.hok.fresh (aE _)
  freeC:=λx c e=>I3.freeC x c (sub x c e)
  pin:=λp hp=>aq (show p∈([]:List (Addr×Obj)) from hp) (by simp)
  hok:=I3.hok.kept old
  len:=by
   show (oj k cap σ).length=N'.length;rw[hlen];unfold oj;rw[aC,bB,aj] }
 have stat:∀{H':Hp},(∀b∈fp,H' b=none)->∀b∈fp,xu (mQ X N' scope (oU X.env.cells scope.names) hpL.objs.size fp { s₂ with heap:=hpL } (upd H2 s₂.heap.objs.size (.lst []))) [] H' b:=λhn b hb=>⟨hn b hb,(ok'.exf b hb).1,ok'.exfs b hb,.inl hb,(ok'.exf b hb).2,λp hp=>aq (show p∈([]:List (Addr×Obj)) from hp) (by simp)⟩
 have st4:tn 0 h₁:=T.keep _ _ _ st2 λb _ o e=>old b o (older b o e);have loop:bJ (model X.prog X.w) X.A (.compLoop (.ListComp elt [⟨tg,iter,ifs,0⟩] scope pos) 0 (.ref ita) (.ref s₂.heap.objs.size) (compEnvC scope (oU X.env.cells scope.names) hpL.objs.size X.env))
   (compPost (model X.prog X.w) X.A X.xe use P (.ref s₂.heap.objs.size) hpL.objs.size) { s₂ with heap:=h₁,toks:=s₂.toks+([]:List (Str×aa)).length }:=by
  refine xJ (λn s'=>∃i acc H',Inv (mQ X N' scope (oU X.env.cells scope.names) hpL.objs.size fp { s₂ with heap:=hpL } (upd H2 s₂.heap.objs.size (.lst []))) [] (oj k cap σ) H' s'/\tn i s'.heap/\(∀b∈fp,H' b=none)/\W i n acc H')
   ?_ m0 ⟨0,[],_,IX,st4,λb hb=>?_,w0⟩
  ·rintro n s3 ⟨i,acc,H3,I4,st3,fr3,w3⟩;rcases turn i n acc H3 w3 with ⟨stop,qn⟩|⟨go,step⟩
   ·refine thn (T.done (mQ X N' scope (oU X.env.cells scope.names) hpL.objs.size fp { s₂ with heap:=hpL } (upd H2 s₂.heap.objs.size (.lst []))) rfl rfl rfl hc i [] s3 _ H3 _ I4 (stat fr3) st3 stop) λr s4 zz=>?_;obtain⟨hr,I5⟩:=zz;subst hr;obtain⟨m,hn,_⟩:=id I5.loc;have U:=I5.base;refine fin _ _ m _ _ _ hn (I3.call' (s':=s4) (ch:=fp) I5.os ⟨λb o e n hb hx=>U.keep b o e n hb hx,λb o e n hb hx=>U.slot b o e n hb hx,U.free,λb o e hx=>U.there b o e hx,U.tups,U.frzs,U.tbls⟩ I5.hok I5.bare
     λb hb=>⟨(f2 b hb).2.2.2.1,(f2 b hb).2.1,(f2 b hb).2.2.2.2.1,(f2 b hb).2.2.2.2.2⟩) (I3.fpOk (aE _) I5.free) qn
   ·refine thn (T.item (mQ X N' scope (oU X.env.cells scope.names) hpL.objs.size fp { s₂ with heap:=hpL } (upd H2 s₂.heap.objs.size (.lst []))) rfl rfl rfl hc i [] s3 _ H3 _ I4 (stat fr3) st3 go) λr s4 zz=>?_;obtain⟨u,hr,h4⟩:=zz;subst hr;refine thn h4 λ_ s5 zz=>?_;obtain⟨x,H5,I5,r5,y5,st5,fr5⟩:=zz;have I5':=I5.pinned (stat fr5) (T.obj _ _ st5);have again:∀{H8:Hp} {s8:ae} {σ8:St} {acc8:List V} {m':Nat},Inv (mQ X N' scope (oU X.env.cells scope.names) hpL.objs.size fp { s₂ with heap:=hpL } (upd H2 s₂.heap.objs.size (.lst []))) ([]++uU fp s5.heap) σ8 H8 s8->σ8.drop k=(oj k cap σ).drop k->m'<n->W (i+1) m' acc8 H8->
      ∃m,m<n/\∃i acc H',Inv (mQ X N' scope (oU X.env.cells scope.names) hpL.objs.size fp { s₂ with heap:=hpL } (upd H2 s₂.heap.objs.size (.lst []))) [] (oj k cap σ) H' s8/\tn i s8.heap/\(∀b∈fp,H' b=none)/\W i m acc H':=λ{H8 s8 σ8 acc8 m'} I8 hd8 hm8 w8=>by
     refine⟨m',hm8,i+1,acc8,H8,I8.unpinned.weak (IX.len.trans I8.len.symm) (λj v e=>?_),T.keep _ _ _ st5 λb hb o e=>(I8.pin (b,o) (aV _ (aV _ (px hb e)))).1,λb hb=>?_,w8⟩
     ·have hj:=wF e;have q:(σ8.drop k)[j - k]?=((oj k cap σ).drop k)[j - k]?:=by rw[hd8]
      rw[cz,cz,show k+(j - k)=j by omega]at q;rw[q];exact e
     ·obtain⟨o,e,d⟩:=T.obj _ _ st5 b hb;exact(I8.pin (b,o) (aV _ (aV _ (px hb e)))).2.1
    refine aY ((body _ _ _ _ _).1 _ s5 _ H5 x u _ I5' r5 (step x H5 y5)) (λ_ s6 h6=>?_) λ_ _ f=>f.elim;obtain⟨σ6,H6,I6,hd6,q6⟩:=h6;refine aY ((body _ _ _ _ _).2.1 _ s6 σ6 H6 _ I6 q6) (λb s7 h7=>?_) λ_ _ f=>f.elim;obtain⟨H7,I7,q7⟩:=h7;cases b with
    |false=>rw[ah aP]at q7;rw[ah aP];obtain⟨m',hm',w7⟩:=q7;exact again I7 hd6 hm' w7
    |true=>rw[ag rfl]at q7;rw[ag rfl];refine aY ((body _ _ _ _ _).2.2 _ s7 σ6 H7 _ I7 q7) (λyv s8 h8=>?_) λ_ _ f=>f.elim;obtain⟨y,H8,I8,r8,acc',hp8,hl8,m',hm',w8⟩:=h8;refine aY (tE (X:=mQ X N' scope (oU X.env.cells scope.names) hpL.objs.size fp { s₂ with heap:=hpL } (upd H2 s₂.heap.objs.size (.lst []))) _ s8 σ6 H8 (.ref s₂.heap.objs.size) [y] (.ref s₂.heap.objs.size) [yv] (λ_ Hx=>Hx=upd H8 s₂.heap.objs.size (.lst (acc'++[y]))) I8 rfl (.cons r8 .nil) ⟨_,acc',y,rfl,rfl,hp8,hl8,rfl⟩) (λ_ s9 h9=>?_) λ_ _ f=>f.elim;obtain⟨_,H9,I9,_,e9⟩:=h9;subst e9;exact again I9 hd6 hm' w8
  ·have z:b≠s₂.heap.objs.size:=aH (hfpS b hb);rw[lO z];exact(f2 b hb).1
 exact codeAny_compStart_list loop (T.self _ 0 _ _ _ st4 loop)
theorem EG{k:Nat}{cap:List Nat}{g:TG}
  (hc:X.calm=true) (hi:PI X tg iter wi)
  (body:∀(cl:List (Str×Addr)) (C:Addr) (fp:List Addr) (s:ae) (H:Hp),PG (mQ X N' scope cl C fp s H) tg g/\PIf (mQ X N' scope cl C fp s H) ifs tt/\PE (mQ X N' scope cl C fp s H) elt te)
  (hkind:scope.kind=.function:=by rfl) (hcell:(scope.names.all λy=>y.2 != .cell)=true:=by rfl)
  (hloc:(scope.names.all λy=>y.2 != .local||scope.names.lookup y.1==some .local)=true:=by rfl)
  (hfree:(scope.names.all λy=>y.2 != .free||(X.env.kindOf y.1==some .cell||X.env.kindOf y.1==some .free))=true:=by rfl)
  (hlen:N'.length=k+cap.length:=by rfl) (hcap:(N'.drop k).map some=cap.map λj=>X.N[j]?:=by rfl)
  (hcf:((N'.drop k).all λx=>scope.names.lookup x==some .free)=true:=by rfl)
  (hs:∀x,dM iter X.env x=pure x:=by intro _;rfl):
  PE X (.ListComp elt [⟨tg,iter,ifs,0⟩] scope pos) (tZ wi g tt te k cap):=by
 intro pins s σ H Q I h;exact wG hc hi body hkind hcell hloc hfree hlen hcap hcf hs I h λa C m u s4 H3 hn back fpC qn=>⟨m,hn,λh' hs'=>⟨.ref a,H3,back.turned (t':=s4.toks) (λb o hb e=>(hs'.2 b hb).trans e) fpC.1 fpC.2.1 fpC.2.2.2.1 fpC.2.2.2.2.1 fpC.2.2.2.2.2,rfl,qn⟩⟩
def Its(x:Str):It:=⟨λi _=>i<x.cps.size,λi H v H'=>H'=H/\∃c,x.cps[i]?=some c/\v=.str ⟨#[c]⟩,λi _=>i=x.cps.size⟩
theorem HA{M:Model}{A:aw}{E:aa->ae->Prop}{s:ae}{it:Addr}{c:Str}{t:Tok}{Q:Unit->ae->Prop}(hQ:Q () s):af M A (df tg (.ref it) (.str c t)) Q E s:=by unfold df;cases tg<;>exact ay hQ
theorem yu{P:au}{w:ak}{K:ai}(it:Addr)(ty:String)(x:Str)(t:Tok)
  (hW:∀A:aw,A.handled=none->Walks P w A it [it] [it] x.cps.size (SignAt x) (λi h=>h.IsStrIter it ty x t i))
  (hS:∀(A:aw) (i:Nat) (s:ae) (Q:aa->ae->Prop) (E:aa->ae->Prop),s.heap.IsStrIter it ty x t i->Q (.ref it) s->af (model P w) A (pyIter (.ref it)) Q E s):
  Turn P w K tg (Its x) [it] it (λi h=>h.IsStrIter it ty x t i) where
 mem:=by simp
 obj:=λi h st b hb=>by
  have e:b=it:=by simpa using hb
  subst e;obtain⟨o,e,c,d⟩:=st;exact⟨o,e,λv z=>by rw[d]at z;cases z⟩
 keep:=λi h h' st k=>by obtain⟨o,e,r⟩:=st;exact⟨o,k it (by simp) o e,r⟩
 item:=by intro X hP hw hK hc i pins s σ H E I hf st hg;subst hP hw hK;obtain⟨f0,f1,f2,f3,f4,f5⟩:=hf it (by simp);refine(hW _ (I.ok.hd hc)).item i s _ _ hg st λv h' tk hv st' kk=>?_;obtain⟨c,t',hc',rfl⟩:=hv;have I1:Inv X pins σ H { s with heap:=h',toks:=tk }:=I.turned (λb o hb e=>kk b o (by simpa using hb) e) f0 f1 f3 f4 f5;exact⟨_,rfl,HA ⟨.str ⟨#[c]⟩,H,I1,⟨t',rfl⟩,⟨rfl,c,hc',rfl⟩,st',λb hb=>(hf b hb).1⟩⟩
 done:=by intro X hP hw hK hc i pins s σ H E I hf st hg;subst hP hw hK;obtain⟨f0,f1,f2,f3,f4,f5⟩:=hf it (by simp);have hg':i=x.cps.size:=hg;subst hg';exact(hW _ (I.ok.hd hc)).done s _ _ st λh' tk kk=>⟨rfl,I.turned (λb o hb e=>kk b o (by simpa using hb) e) f0 f1 f3 f4 f5⟩
 self:=hS
variable{l:Expr}{tl:TE}
section
variable{X:Cx}{tg:Expr}
def K5(tl:TE):TI:=λσ H R=>tl σ H λv H1=>∃x,v=.str x/\R (Its x) H1
theorem HB(hl:PE X l tl):PI X tg l (K5 tl):=by
 intro pins s σ H R I h;refine thn (hl pins s σ H _ I h) λv s1 zz=>?_;obtain⟨x,H1,I1,r1,q1⟩:=zz;obtain⟨z,e,q⟩:=q1;subst e;obtain⟨t,rfl⟩:=r1;have fp:∀b∈[s1.heap.objs.size],xu X pins H1 b:=λb hb=>by
  have e:b=s1.heap.objs.size:=by simpa using hb
  subst e;exact I1.fpOk (aE _) (I1.hok.fresh (aE _))
 cases ha:z.cps.all (· < 128)
 ·refine wpAny_pyIter_wide ha ⟨s1.heap.objs.size,[s1.heap.objs.size],_,_,H1,rfl,I1.kept (t':=s1.toks) λb o e=>aF _ e,yu _ "str_iterator" z t (λA hA=>Walks.strWide hA _ z t) (λA i s Q E st hQ=>wpAny_pyIter_striter_wide st hQ),⟨_,ba _ rfl,rfl,rfl⟩,fp,q⟩
 ·refine wpAny_pyIter_ascii ha ⟨s1.heap.objs.size,[s1.heap.objs.size],_,_,H1,rfl,I1.kept (t':=s1.toks) λb o e=>aF _ e,yu _ "str_ascii_iterator" z t (λA hA=>Walks.strAscii hA _ z t) (λA i s Q E st hQ=>wpAny_pyIter_striter_ascii st hQ),⟨_,ba _ rfl,rfl,rfl⟩,fp,q⟩
end
section
variable{X:Cx}
theorem Bq:OpR X (aI .LtE) (λx y H Q=>∃i j,x=.str i/\y=.str j/\Q (.bl (!decide (j.cps.toList<i.cps.toList))) H):=by intro pins s σ H x y v u Q I rx ry h;obtain⟨i,j,rfl,rfl,q⟩:=h;obtain⟨t,rfl⟩:=rx;obtain⟨t',rfl⟩:=ry;exact PySem.P.le_str (mh I q rfl)
theorem Cu(hc:X.calm=true):ng X (.builtin "all") (λxs H Q=>∃(p:Addr) (bs:List Bool),xs=[.ref p]/\SqL X.K H p (bs.map V.bl)/\Q (.bl (bs.all id)) H):=by
 intro pins s σ H xs us Q I r h;obtain⟨p,bs,rfl,hq,q⟩:=h;obtain⟨u,rfl,ru⟩:=vals1 r;cases ru;obtain⟨its,rv,pl,hz⟩:=I.list hq;have hlt:p<s.heap.objs.size:=by obtain⟨o,ho,_⟩:=pl.isList;exact aD ho
 have hl:bs.length=its.length:=by have:=rv.length;rw[aj]at this;exact this
 refine call_all_walk (dJ pl.isList ⟨s.heap.objs.size,_,_,_,_,_,λi=>(bs[i]?).getD true,rfl,fz (show X.A.in1.handled=none from I.ok.hd hc) _ p (aH hlt) its.toArray,⟨⟨_,ba _ rfl,rfl,rfl⟩,?_⟩,?_,λh' tk hk=>?_⟩)
 ·exact pl.isList.at λo e=>aF _ e
 ·intro i v s' Q' E' hv hQ';have hv':its[i]?=some v:=by simpa using hv
  have hi:i<its.length:=(bq.mp hv').1;have hb:(bs.map V.bl)[i]?=some (.bl (bs[i]'(by omega))):=by simp[show i<bs.length by omega]
  obtain⟨u,hu,ru⟩:=rv.get hb;rw[hv']at hu;cases hu;cases ru;refine bZ ?_;have e:(bs[i]?).getD true=bs[i]'(by omega):=by simp[show i<bs.length by omega]
  rw[<-e];exact hQ'
 ·refine⟨.bl (bs.all id),H,?_,?_,q⟩
  ·exact I.kept (t':=tk) λb o e=>hk b o (by simp;exact aH (aD e)) (aF _ e)
  ·show Value.bool _=Value.bool _;congr 1;rw[aJ,<- hl];rw[cE];simp only[az,cG,id];constructor
   ·intro hh b hb;obtain⟨i,hi,rfl⟩:=ig.mp hb;have:=hh i hi;simpa [hi]using this
   ·intro hh i hi;simp only[aR hi,i5];exact hh _ (cU hi)
end
inductive Dq where
 |non|bl (b:Bool)|int (i:Int)|str (x:Str)|tup (ds:List Dq)|lst (ds:List Dq)
mutual
def Rep(K:ai)(H:Hp):Dq->V->Prop
 |.non,v=>v=.non
 |.bl b,v=>v=.bl b
 |.int i,v=>v=.int i
 |.str x,v=>v=.str x
 |.tup ds,v=>∃a xs,v=.ref a/\SqT K H a xs/\lG K H ds xs
 |.lst ds,v=>∃a xs,v=.ref a/\SqL K H a xs/\lG K H ds xs
def lG(K:ai)(H:Hp):List Dq->List V->Prop
 |[],xs=>xs=[]
 |d::ds,xs=>∃v r,xs=v::r/\Rep K H d v/\lG K H ds r
end
mutual
def eqD:Dq->Dq->Bool
 |.non,.non=>true
 |.bl a,.bl b=>a==b
 |.bl a,.int b=>(if a then 1 else 0)==b
 |.int a,.bl b=>a==(if b then 1 else 0)
 |.int a,.int b=>a==b
 |.str a,.str b=>a==b
 |.tup a,.tup b=>qk a b
 |.lst a,.lst b=>qk a b
 |_,_=>false
def qk:List Dq->List Dq->Bool
 |[],[]=>true
 |a::r,b::q=>eqD a b&&qk r q
 |_,_=>false
end
mutual
def dpt:Dq->Nat
 |.tup ds=>ny ds+1
 |.lst ds=>ny ds+1
 |_=>0
def ny:List Dq->Nat
 |[]=>0
 |d::r=>max (dpt d) (ny r)
end
mutual
theorem Cv:∀d:Dq,eqD d d=true
 |.non=>by unfold eqD;rfl
 |.bl b=>by unfold eqD;simp
 |.int i=>by unfold eqD;simp
 |.str x=>by unfold eqD;simp
 |.tup ds=>by unfold eqD;exact tG ds
 |.lst ds=>by unfold eqD;exact tG ds
theorem tG:∀ds:List Dq,qk ds ds=true
 |[]=>by unfold qk;rfl
 |d::r=>by unfold qk;rw[Cv d,tG r];rfl
end
theorem lI{K:ai}{H:Hp}:∀{ds:List Dq} {xs:List V},lG K H ds xs->ds.length=xs.length
 |[],xs,h=>by unfold lG at h;subst h;rfl
 |d::ds,xs,h=>by unfold lG at h;obtain⟨v,r,rfl,_,h2⟩:=h;rw[aG,aG,lI h2]
def eAt(ds ds':List Dq)(j:Nat):Bool:=match ds[j]?,ds'[j]? with
 |some a,some b=>eqD a b
 |_,_=>true
theorem va:∀(ds ds':List Dq),qk ds ds'=true ↔ ds.length=ds'.length/\∀j,j<ds.length->eAt ds ds' j=true
 |[],[]=>by simp[qk]
 |[],b::q=>by simp[qk]
 |a::r,[]=>by simp[qk]
 |a::r,b::q=>by
  have ih:=va r q;unfold qk;rw[aB,ih,aG,aG];constructor
  ·rintro⟨h1,h2,h3⟩;refine⟨by omega,λj hj=>?_⟩;cases j with
   |zero=>exact h1
   |succ j=>exact h3 j (by omega)
  ·rintro⟨h1,h2⟩;exact⟨h2 0 (by omega),by omega,λj hj=>h2 (j+1) (by omega)⟩
variable{ds ds':List Dq}
theorem ql{n m:Nat}(hn:ds.length=n)(hm:ds'.length=m):((bb (min n m)).all (eAt ds ds')&&n==m)=qk ds ds':=by
 rw[cE,va,aB,az];subst hn hm;constructor
 ·rintro⟨h1,h2⟩;have e:ds.length=ds'.length:=by simpa using h2
  exact⟨e,λj hj=>h1 j (cG.mpr (by omega))⟩
 ·rintro⟨e,h⟩;exact⟨λj hj=>h j (by have:=cG.mp hj;omega),by simpa using e⟩
theorem qS{n:Nat}(hn:ds.length=n)(hm:ds'.length=n):(bb n).all (eAt ds ds')=qk ds ds':=by rw[<-ql hn hm];simp
theorem vc(h:ds.length≠ds'.length):qk ds ds'=false:=by
 cases e:qk ds ds' with
 |false=>rfl
 |true=>exact aq ((va ds ds').mp e).1 h
section
variable{X:Cx}{pins:List (Addr×Obj)}{σ:St}{H:Hp}{s:ae}
theorem Gp(I:Inv X pins σ H s){a:Addr}{xs ys:List V}(h:SqL X.K H a xs)(h':SqT X.K H a ys):False:=by obtain⟨its,_,p,_⟩:=I.list h;obtain⟨its',_,p',_⟩:=I.tuple h';exact SeqAt.ne_of_list_tuple p.isList (show s.heap.IsTuple a its'.toArray from p') rfl
mutual
theorem vd(I:Inv X pins σ H s):∀(d d':Dq) (v:V),Rep X.K H d v->Rep X.K H d' v->eqD d d'=true
 |.non,d',v,h,h'=>by unfold Rep at h;subst h;cases d'<;>unfold Rep at h'<;>first|rfl|(exact nomatch h')|(obtain⟨_,_,e,_⟩:=h';exact nomatch e)
 |.bl b,d',v,h,h'=>by unfold Rep at h;subst h;cases d'<;>unfold Rep at h'<;>first|(obtain⟨_,_,e,_⟩:=h';cases e)|(cases h'<;>simp[eqD])
 |.int b,d',v,h,h'=>by unfold Rep at h;subst h;cases d'<;>unfold Rep at h'<;>first|(obtain⟨_,_,e,_⟩:=h';cases e)|(cases h'<;>simp[eqD])
 |.str b,d',v,h,h'=>by unfold Rep at h;subst h;cases d'<;>unfold Rep at h'<;>first|(obtain⟨_,_,e,_⟩:=h';cases e)|(cases h'<;>simp[eqD])
 |.tup ds,d',v,h,h'=>by
  unfold Rep at h;obtain⟨a,xs,rfl,hq,hr⟩:=h;cases d' with
  |tup ds'=>unfold Rep at h';obtain⟨a',xs',e,hq',hr'⟩:=h';cases e;have ex:=I.tuple_inj hq hq';subst ex;unfold eqD;exact tH I ds ds' xs hr hr'
  |lst ds'=>unfold Rep at h';obtain⟨a',xs',e,hq',hr'⟩:=h';cases e;exact(Gp I hq' hq).elim
  |_=>unfold Rep at h';exact nomatch h'
 |.lst ds,d',v,h,h'=>by
  unfold Rep at h;obtain⟨a,xs,rfl,hq,hr⟩:=h;cases d' with
  |lst ds'=>unfold Rep at h';obtain⟨a',xs',e,hq',hr'⟩:=h';cases e;have ex:=I.list_inj hq hq';subst ex;unfold eqD;exact tH I ds ds' xs hr hr'
  |tup ds'=>unfold Rep at h';obtain⟨a',xs',e,hq',hr'⟩:=h';cases e;exact(Gp I hq hq').elim
  |_=>unfold Rep at h';exact nomatch h'
theorem tH(I:Inv X pins σ H s):∀(ds ds':List Dq) (xs:List V),lG X.K H ds xs->lG X.K H ds' xs->qk ds ds'=true
 |[],ds',xs,h,h'=>by
  unfold lG at h;subst h;cases ds' with
  |nil=>rfl
  |cons d r=>unfold lG at h';obtain⟨_,_,e,_⟩:=h';exact nomatch e
 |d::ds,ds',xs,h,h'=>by
  unfold lG at h;obtain⟨v,r,rfl,h1,h2⟩:=h;cases ds' with
  |nil=>unfold lG at h';exact nomatch h'
  |cons d' r'=>unfold lG at h';obtain⟨v',q,e,h1',h2'⟩:=h';cases e;unfold qk;rw[vd I d d' v h1 h1',tH I ds r' r h2 h2'];rfl
end
mutual
theorem HC(I:Inv X pins σ H s):∀(d d':Dq) (x y:V) (u v:aa) (A:aw),Rep X.K H d x->Rep X.K H d' y->RelV x u->RelV y v->A.units+dpt d+dpt d'<cLine->fw A s u v (eqD d d')
 |.tup ds,d',x,y,u,v,A,hx,hy,ru,rv,hu=>by
  unfold Rep at hx;obtain⟨a,xs,rfl,hq,hr⟩:=hx;cases ru;obtain⟨its,rx,p,_⟩:=I.tuple hq;have p:s.heap.IsTuple a its.toArray:=p;cases d' with
  |non=>unfold Rep at hy;subst hy;cases rv;exact kr p (by omega)
  |bl b=>unfold Rep at hy;subst hy;cases rv;exact ku b p (by omega)
  |int b=>unfold Rep at hy;subst hy;obtain⟨t,rfl⟩:=rv;exact kE b t p (by omega)
  |str b=>unfold Rep at hy;subst hy;obtain⟨t,rfl⟩:=rv;exact kF b t p (by omega)
  |lst ds'=>unfold Rep at hy;obtain⟨b,ys,rfl,hq',hr'⟩:=hy;cases rv;obtain⟨its',ry,p',_⟩:=I.list hq';exact kx p p'.isList (by omega)
  |tup ds'=>
   have hy0:=hy;unfold Rep at hy;obtain⟨b,ys,rfl,hq',hr'⟩:=hy;cases rv;obtain⟨its',ry,p',_⟩:=I.tuple hq';have p':s.heap.IsTuple b its'.toArray:=p';by_cases hab:a=b
   ·subst hab;have e:eqD (.tup ds) (.tup ds')=true:=vd I _ _ (.ref a) (by unfold Rep;exact⟨a,xs,rfl,hq,hr⟩) hy0;rw[e];exact fX _
   ·have hd:dpt (.tup ds)=ny ds+1:=by rw[dpt]
    have hd':dpt (.tup ds')=ny ds'+1:=by rw[dpt]
    have q:=ly (A:=A) (e:=eAt ds ds') p p' (by omega) λj h1 h2=>by have z:=qm I ds ds' xs ys its its' A.in1 hr hr' rx ry (by show A.units+1+ny ds+ny ds'<cLine;omega) j (by simpa using h1) (by simpa using h2);simpa using z
    rw[ql (by rw[lI hr,rx.length];simp) (by rw[lI hr',ry.length];simp)]at q;exact fQ hab (by unfold eqD;exact q)
 |.lst ds,d',x,y,u,v,A,hx,hy,ru,rv,hu=>by
  unfold Rep at hx;obtain⟨a,xs,rfl,hq,hr⟩:=hx;cases ru;obtain⟨its,rx,p,_⟩:=I.list hq;have p:=p.isList;cases d' with
  |non=>unfold Rep at hy;subst hy;cases rv;exact kG p (by omega)
  |bl b=>unfold Rep at hy;subst hy;cases rv;exact kH b p (by omega)
  |int b=>unfold Rep at hy;subst hy;obtain⟨t,rfl⟩:=rv;exact kY b t p (by omega)
  |str b=>unfold Rep at hy;subst hy;obtain⟨t,rfl⟩:=rv;exact kZ b t p (by omega)
  |tup ds'=>unfold Rep at hy;obtain⟨b,ys,rfl,hq',hr'⟩:=hy;cases rv;obtain⟨its',ry,p',_⟩:=I.tuple hq';exact ky p (show s.heap.IsTuple b its'.toArray from p') (by omega)
  |lst ds'=>
   have hy0:=hy;unfold Rep at hy;obtain⟨b,ys,rfl,hq',hr'⟩:=hy;cases rv;obtain⟨its',ry,p',_⟩:=I.list hq';have p':=p'.isList;by_cases hab:a=b
   ·subst hab;have e:eqD (.lst ds) (.lst ds')=true:=vd I _ _ (.ref a) (by unfold Rep;exact⟨a,xs,rfl,hq,hr⟩) hy0;rw[e];exact fX _
   ·have hd:dpt (.lst ds)=ny ds+1:=by rw[dpt]
    have hd':dpt (.lst ds')=ny ds'+1:=by rw[dpt]
    by_cases hl:its.length=its'.length
    ·have q:=lA (A:=A) (e:=eAt ds ds') p p' (by simpa using hl) (by omega) λj h1 h2=>by have z:=qm I ds ds' xs ys its its' A.in1 hr hr' rx ry (by show A.units+1+ny ds+ny ds'<cLine;omega) j (by simpa using h1) (by simpa using h2);simpa using z
     rw[qS (by rw[lI hr,rx.length];simp) (by rw[lI hr',ry.length,<- hl];simp)]at q;exact fQ hab (by unfold eqD;exact q)
    ·have e:eqD (.lst ds) (.lst ds')=false:=by unfold eqD;exact vc (by rw[lI hr,lI hr',rx.length,ry.length];exact hl)
     rw[e];exact fQ hab (ko p p' (by simpa using hl) (by omega))
 |.non,d',x,y,u,v,A,hx,hy,ru,rv,hu=>by
  unfold Rep at hx;subst hx;cases d' with
  |tup ds'=>unfold Rep at hy;obtain⟨b,ys,rfl,hq',hr'⟩:=hy;cases rv;cases ru;obtain⟨its',ry,p',_⟩:=I.tuple hq';exact kz (show s.heap.IsTuple b its'.toArray from p') (by omega)
  |lst ds'=>unfold Rep at hy;obtain⟨b,ys,rfl,hq',hr'⟩:=hy;cases rv;cases ru;obtain⟨its',ry,p',_⟩:=I.list hq';exact kI p'.isList (by omega)
  |_=>unfold Rep at hy;subst hy;exact uX ru rv rfl rfl
 |.bl c,d',x,y,u,v,A,hx,hy,ru,rv,hu=>by
  unfold Rep at hx;subst hx;cases d' with
  |tup ds'=>unfold Rep at hy;obtain⟨b,ys,rfl,hq',hr'⟩:=hy;cases rv;cases ru;obtain⟨its',ry,p',_⟩:=I.tuple hq';exact kA c (show s.heap.IsTuple b its'.toArray from p') (by omega)
  |lst ds'=>unfold Rep at hy;obtain⟨b,ys,rfl,hq',hr'⟩:=hy;cases rv;cases ru;obtain⟨its',ry,p',_⟩:=I.list hq';exact kJ c p'.isList (by omega)
  |_=>unfold Rep at hy;subst hy;exact uX ru rv rfl rfl
 |.int c,d',x,y,u,v,A,hx,hy,ru,rv,hu=>by
  unfold Rep at hx;subst hx;cases d' with
  |tup ds'=>unfold Rep at hy;obtain⟨b,ys,rfl,hq',hr'⟩:=hy;cases rv;obtain⟨t,rfl⟩:=ru;obtain⟨its',ry,p',_⟩:=I.tuple hq';exact kK c t (show s.heap.IsTuple b its'.toArray from p') (by omega)
  |lst ds'=>unfold Rep at hy;obtain⟨b,ys,rfl,hq',hr'⟩:=hy;cases rv;obtain⟨t,rfl⟩:=ru;obtain⟨its',ry,p',_⟩:=I.list hq';exact la c t p'.isList (by omega)
  |_=>unfold Rep at hy;subst hy;exact uX ru rv rfl rfl
 |.str c,d',x,y,u,v,A,hx,hy,ru,rv,hu=>by
  unfold Rep at hx;subst hx;cases d' with
  |tup ds'=>unfold Rep at hy;obtain⟨b,ys,rfl,hq',hr'⟩:=hy;cases rv;obtain⟨t,rfl⟩:=ru;obtain⟨its',ry,p',_⟩:=I.tuple hq';exact kM c t (show s.heap.IsTuple b its'.toArray from p') (by omega)
  |lst ds'=>unfold Rep at hy;obtain⟨b,ys,rfl,hq',hr'⟩:=hy;cases rv;obtain⟨t,rfl⟩:=ru;obtain⟨its',ry,p',_⟩:=I.list hq';exact lb c t p'.isList (by omega)
  |_=>unfold Rep at hy;subst hy;exact uX ru rv rfl rfl
theorem qm(I:Inv X pins σ H s):∀(ds ds':List Dq) (xs ys:List V) (us vs:List aa) (A:aw),lG X.K H ds xs->lG X.K H ds' ys->Vals xs us->Vals ys vs->A.units+ny ds+ny ds'<cLine->
  ∀(j:Nat) (h1:j<us.length) (h2:j<vs.length),fw A s us[j] vs[j] (eAt ds ds' j)
 |[],ds',xs,ys,us,vs,A,hx,hy,ru,rv,hu,j,h1,h2=>by
  have:=lI hx;have:=ru.length;simp only[dX]at *
  omega
 |d::ds,[],xs,ys,us,vs,A,hx,hy,ru,rv,hu,j,h1,h2=>by
  have:=lI hy;have:=rv.length;simp only[dX]at *
  omega
 |d::ds,d'::ds',xs,ys,us,vs,A,hx,hy,ru,rv,hu,j,h1,h2=>by
  unfold lG at hx hy;obtain⟨x,xr,rfl,hx1,hx2⟩:=hx;obtain⟨y,yr,rfl,hy1,hy2⟩:=hy;have e1:ny (d::ds)=max (dpt d) (ny ds):=by rw[ny]
  have e2:ny (d'::ds')=max (dpt d') (ny ds'):=by rw[ny]
  cases ru with
  |cons r1 r2=>
   cases rv with
   |cons q1 q2=>
    cases j with
    |zero=>exact HC I d d' x y _ _ A hx1 hy1 r1 q1 (by omega)
    |succ j=>exact qm I ds ds' xr yr _ _ A hx2 hy2 r2 q2 (by omega) j (by simpa using h1) (by simpa using h2)
end
def Gq:Dq->Dq->Bool
 |.tup _,.tup _=>true
 |.lst _,.lst _=>true
 |_,_=>false
def zz(K:ai)(neg:Bool):R2:=λx y H Q=>∃d d',Rep K H d x/\Rep K H d' y/\Gq d d'=true/\dpt d<=20/\dpt d'<=20/\Q (.bl (if neg then !eqD d d' else eqD d d')) H
theorem HD(hu:X.A.units+64<cLine):OpR X (aI .Eq) (zz X.K false):=by
 intro pins s σ H x y u v Q I ru rv h;obtain⟨d,d',hx,hy,hd,h1,h2,q⟩:=h;cases d with
 |tup ds=>
  cases d' with
  |tup ds'=>
   have hd1:dpt (.tup ds)=ny ds+1:=by rw[dpt]
   have hd2:dpt (.tup ds')=ny ds'+1:=by rw[dpt]
   unfold Rep at hx hy;obtain⟨a,xs,rfl,hq,hr⟩:=hx;obtain⟨b,ys,rfl,hq',hr'⟩:=hy;cases ru;cases rv;obtain⟨its,rx,p,_⟩:=I.tuple hq;obtain⟨its',ry,p',_⟩:=I.tuple hq';refine SeqAt.eq_tupleAt (e:=eAt ds ds') (show s.heap.IsTuple a its.toArray from p) (show s.heap.IsTuple b its'.toArray from p') (by omega) (λj h1 h2=>?_) ?_
   ·have z:=qm I ds ds' xs ys its its' X.A.in1 hr hr' rx ry (by show X.A.units+1+ny ds+ny ds'<cLine;omega) j (by simpa using h1) (by simpa using h2);simpa using z
   ·rw[ql (by rw[lI hr,rx.length];simp) (by rw[lI hr',ry.length];simp)];unfold eqD at q;exact mh I q rfl
  |_=>exact nomatch hd
 |lst ds=>
  cases d' with
  |lst ds'=>
   have hd1:dpt (.lst ds)=ny ds+1:=by rw[dpt]
   have hd2:dpt (.lst ds')=ny ds'+1:=by rw[dpt]
   unfold Rep at hx hy;obtain⟨a,xs,rfl,hq,hr⟩:=hx;obtain⟨b,ys,rfl,hq',hr'⟩:=hy;cases ru;cases rv;obtain⟨its,rx,p,_⟩:=I.list hq;obtain⟨its',ry,p',_⟩:=I.list hq';by_cases hl:its.length=its'.length
   ·refine SeqAt.eq_listAt (e:=eAt ds ds') p.isList p'.isList (by simpa using hl) (by omega) (λj h1 h2=>?_) ?_
    ·have z:=qm I ds ds' xs ys its its' X.A.in1 hr hr' rx ry (by show X.A.units+1+ny ds+ny ds'<cLine;omega) j (by simpa using h1) (by simpa using h2);simpa using z
    ·rw[qS (by rw[lI hr,rx.length];simp) (by rw[lI hr',ry.length,<- hl];simp)];unfold eqD at q;exact mh I q rfl
   ·refine SeqAt.eq_list_lengthsAt p.isList p'.isList (by simpa using hl) (by omega) ?_;have e:qk ds ds'=false:=vc (by rw[lI hr,lI hr',rx.length,ry.length];exact hl);unfold eqD at q;rw[e]at q;exact mh I q rfl
  |_=>exact nomatch hd
 |_=>exact nomatch hd
theorem HE(hu:X.A.units+64<cLine):OpR X (aI .NotEq) (zz X.K true):=by
 intro pins s σ H x y u v Q I ru rv h;obtain⟨d,d',hx,hy,hd,h1,h2,q⟩:=h;cases d with
 |tup ds=>
  cases d' with
  |tup ds'=>
   have hd1:dpt (.tup ds)=ny ds+1:=by rw[dpt]
   have hd2:dpt (.tup ds')=ny ds'+1:=by rw[dpt]
   unfold Rep at hx hy;obtain⟨a,xs,rfl,hq,hr⟩:=hx;obtain⟨b,ys,rfl,hq',hr'⟩:=hy;cases ru;cases rv;obtain⟨its,rx,p,_⟩:=I.tuple hq;obtain⟨its',ry,p',_⟩:=I.tuple hq';have w:=lg (A:=X.A) (e:=eAt ds ds') (show s.heap.IsTuple a its.toArray from p) (show s.heap.IsTuple b its'.toArray from p') (by omega) (λj h1 h2=>by
    have z:=qm I ds ds' xs ys its its' X.A.in1 hr hr' rx ry (by show X.A.units+1+ny ds+ny ds'<cLine;omega) j (by simpa using h1) (by simpa using h2);simpa using z)
   rw[ql (by rw[lI hr,rx.length];simp) (by rw[lI hr',ry.length];simp)]at w;unfold eqD at q;exact w X.prog X.w X.xe _ (mh I q rfl)
  |_=>exact nomatch hd
 |lst ds=>
  cases d' with
  |lst ds'=>
   have hd1:dpt (.lst ds)=ny ds+1:=by rw[dpt]
   have hd2:dpt (.lst ds')=ny ds'+1:=by rw[dpt]
   unfold Rep at hx hy;obtain⟨a,xs,rfl,hq,hr⟩:=hx;obtain⟨b,ys,rfl,hq',hr'⟩:=hy;cases ru;cases rv;obtain⟨its,rx,p,_⟩:=I.list hq;obtain⟨its',ry,p',_⟩:=I.list hq';by_cases hl:its.length=its'.length
   ·have w:=lq (A:=X.A) (e:=eAt ds ds') p.isList p'.isList (by simpa using hl) (by omega) (λj h1 h2=>by
     have z:=qm I ds ds' xs ys its its' X.A.in1 hr hr' rx ry (by show X.A.units+1+ny ds+ny ds'<cLine;omega) j (by simpa using h1) (by simpa using h2);simpa using z)
    rw[qS (by rw[lI hr,rx.length];simp) (by rw[lI hr',ry.length,<- hl];simp)]at w;unfold eqD at q;exact w X.prog X.w X.xe _ (mh I q rfl)
   ·have e:qk ds ds'=false:=vc (by rw[lI hr,lI hr',rx.length,ry.length];exact hl);unfold eqD at q;rw[e]at q;exact jT p.isList p'.isList (by simpa using hl) (by omega) X.prog X.w X.xe _ (mh I q rfl)
  |_=>exact nomatch hd
 |_=>exact nomatch hd
end
inductive StrsAre:List Expr->List V->Prop
 |nil:StrsAre [] []
 |cons {x:Str} {j:Nat} {pos:Pos} {es:List Expr} {vs:List V} (h:StrsAre es vs):StrsAre (.Constant (.str x) j pos::es) (.str x::vs)
theorem oB{n:Nat}(h:n<=1000):n<=av:=d6 (rq h)
theorem lK.new{p:Addr}{H H1:Hp}(x:lK H H1)(hp:H1 p=none)(o:HO):lK H (upd H1 p o):=λb u e=>by have z:=x b u e;rw[lO (mW z hp)];exact z
structure Br(K:ai)(x qual:Str)(st:Stmt)(f:Addr)(fd:aZ)(T:Addr):Prop where
 ex:∃(oc:aa) (od:Option Addr) (kV doc pm:aa) (an:Option Addr) (cdv ct:aa) (osl:Array (Option aa)),
  fd=cu x qual (oi st) (l7 st) (lS st) (.ref T) kV doc pm an cdv ct/\K.lookup f=some ⟨oc,od,.func fd,osl⟩/\dw K cdv qual=true
 kp:bY K (.ref f)=true
variable{qual:Str}{st:Stmt}{f T:Addr}{fd:aZ}{ps:List Str}
section
variable{P:au}{w:ak}{K:ai}{mg:Str->Option aa}{base:Heap}
theorem Br.ok{k:Nat}{sp:Sp}(F:Br K x qual st f fd T)(S:m4 N ps (lS st))(len:∀vs H Q E,sp vs H Q E->vs.length=ps.length)
  (hbody:∀(cdv:aa) (A:aw) (outer:List Env) (s:ae) (H:Hp) (vs:List V) (Q:VK) (E:XK),mP k (A.deeper (envOfC qual (lS st) s.heap.objs.size f cdv))->sp vs H Q E->
   ∃t,PSs (xA CX0 P w K mg base N qual (lS st) f cdv A outer s H E).nox (l7 st) t/\t { nx:=λ_ H'=>Q .non H',rt:=Q } (L2.start N vs) H):oh P w K mg base CX0 (k+1) f fd ps sp:=by
 obtain⟨oc,od,kV,doc,pm,an,cdv,ct,osl,rfl,lk,hcd⟩:=F.ex;refine yh lk hcd S len λA outer s H vs Q E hr hsp=>?_;obtain⟨t,h,q⟩:=hbody cdv A outer s H vs Q E hr hsp;exact⟨t,h.nox,q⟩
end
theorem Br.binds{K:ai}{ds:List aa}{o:Obj}{items:Array aa}{n:Nat}(F:Br K x qual st f fd T)(ho:K.lookup T=some o)(hs:o.data=.seq items n)
  (h:∀(kV doc pm:aa) (an:Option Addr) (cdv ct:aa) (us:List aa),us.length=ps.length - ds.length->∃k,bindArgs (cu x qual (oi st) (l7 st) (lS st) (.ref T) kV doc pm an cdv ct) ⟨us,[]⟩=seqItems? (.ref T)>>=k/\k (some items)=pure (ps.zip (us++ds))):Binds K fd ps ds:=by
 obtain⟨oc,od,kV,doc,pm,an,cdv,ct,osl,rfl,lk,hcd⟩:=F.ex;intro s us KX hl;obtain⟨k,h1,h2⟩:=h kV doc pm an cdv ct us (by rw[aC]at hl;omega);exact BindsTo.of_defaults (k:=k) rfl (KX _ _ ho) hs h1 h2
section
variable{X:Cx}(K:ai)
theorem Cw(hK:X.K=K:=by rfl):IxR X (Ex K):=by subst hK;exact Al
theorem yw(hl:PE X l tl)(hK:X.K=K:=by rfl):PI X tg l (B9 K tl):=by subst hK;exact Ei hl
theorem EH(hl:PE X l tl)(hK:X.K=K:=by rfl):PI X tg l (G5 K tl):=by subst hK;exact G6 hl
theorem EI{es:List Expr}{k:Nat}{t:TGs}{n:Nat}(hc:X.calm=true)(h:PGs X es t)(hn:(bG es X.env).length=n:=by rfl)(hst:(bG es X.env).findIdx? (·.1)=none:=by rfl)(hK:X.K=K:=by rfl):PG X (.Tuple es k pos) (G1 K n t):=by subst hK;exact G2 hc h hn hst
variable{o e:Expr}{es:List Expr}{to:TE}{t:TA}{name:Str}{apos cpos:Pos}{T id:String}{r:V->List V->Hp->VK->Prop}
theorem Cy(pa:gK T)(slot:Slot T name id)(hty:typeOf (.builtin id)=pure (.type "method_descriptor"))(hm:MtR X id r)(ho:PE X o to)(ha:PA X (e::es) t)
  (hbase:c3 o name X.env (eval o X.env)=eval o X.env:=by rfl)
  (hfew:((aL cpos (ao (e::es) X.env)).all (λx=>!x.1)&&(backToKw cpos (cp [] X.env)).all (λx=>x.1.isSome)
   && decide ((e::es).length+([]:List dA).length+(if ([]:List dA).isEmpty then 0 else 1)<30))=true:=by rfl)
  (hline:(apos.endLine==cpos.line)=true:=by rfl) (hs:ao (e::es) X.env=(false,eval e X.env)::ao es X.env:=by rfl) (hplain:(aL cpos (ao es X.env)).any (·.1)=false:=by rfl) (hK:X.K=K:=by rfl):
  PE X (.Call (.Attribute o name apos) (e::es) [] cpos) (tBM K T r to t):=by subst hK;exact K1 pa slot hty hm ho ha hbase hfew hline hs hplain
end
end L3
namespace L2
open PySem PySem.Spec PyProof.Rows
variable{a:Addr}
section
variable{X:Cx}{pins:List (Addr×Obj)}{σ:St}{H:Hp}{s:ae}
theorem p5{H:Hp}{c:Addr}{u v:HO}(e:H a=some u)(q:H c=some v)(d:u≠v)(n:HO):upd H a n c=some v:=by rw[lO (λz=>by subst z;rw[e]at q;exact d (bp q))];exact q
theorem Inv.freeze{kvs:List (Key×V)}(I:Inv X pins σ H s)(e:H a=some (.dK kvs)):∃o,Inv X pins σ (upd H a (.frz o (.dK kvs))) s:=by
 obtain⟨z,y,vs,r,ob,es,ep,e1,c⟩:=(show mJ X.prog X.w H s.heap a (.dK kvs) from I.hok a _ e);refine⟨ob,?_⟩;have I':=I.step (H':=upd H a (.frz ob (.dK kvs))) (h':=s.heap) (g':=s.gens) (d':=s.drawn) (t':=s.toks) (ch:=[]) (λ_ z=>nomatch z) (λb o _ _ _ q _=>q) (λb o _ _ _ q _=>⟨o.slots,q⟩)
  (λb o _ _ n=>by rw[lO (λz=>by subst z;rw[e]at n;cases n)];exact n) (λb o _ q=>⟨o,q⟩) (λb xs q=>p5 e q (λz=>nomatch z) _) (λb o u q=>p5 e q (λz=>nomatch z) _)
  (λb ps q=>⟨#[],by rw[p5 e q (λz=>nomatch z) _];simp⟩) (λm q=>q) ?_ I.bare
 ·obtain⟨h,g,d,t,os⟩:=s;exact I'
 ·intro b u q;have st:∀{b:Addr} {u:HO},mJ X.prog X.w H s.heap b u->mJ X.prog X.w (upd H a (.frz ob (.dK kvs))) s.heap b u:=λ{b u} x=>x.stay (λ_ _ _ q=>q) (λc q=>p5 e q (λz=>nomatch z) _) λc xs q=>p5 e q (λz=>nomatch z) _
  by_cases hb:b=a
  ·subst hb;rw[lQ]at q;cases q;exact⟨e1,st (I.hok b _ e)⟩
  ·rw[lO hb]at q;exact st (I.hok b u q)
theorem PE.ghost{e:Expr}{t:TE}(h:PE X e t):PE X e (λσ H Q=>t σ H λx H1=>Q x H1\/∃a kvs,H1 a=some (.dK kvs)/\∀o,Q x (upd H1 a (.frz o (.dK kvs)))):=λpins s σ H Q I hq=>
 thn (h pins s σ H _ I hq) λu s1 ⟨x,H1,I1,r1,q1⟩=>by
  rcases q1 with q|⟨a,kvs,e,q⟩
  ·exact⟨x,H1,I1,r1,q⟩
  ·obtain⟨o,I2⟩:=I1.freeze e;exact⟨x,_,I2,r1,q o⟩
end
end L2
namespace L4
open PySem PySem.Spec PyProof.Rows L2 L3
abbrev St:=L2.St
inductive D where
 |non|bl (b:Bool)|int (i:Int)|str (x:Str)
 |tup (ds:List D)|lst (ds:List D)
 |fzl (ds:List D)
 |obj (c:Nat) (ns:List Str) (ds:List D)
 |dic (ks:List Key) (ds:List D)
structure Bg where
 K:ai
 ca:Nat->Addr
mutual
def Rep(G:Bg)(H:Hp):D->V->Prop
 |.non,v=>v=.non
 |.bl b,v=>v=.bl b
 |.int i,v=>v=.int i
 |.str x,v=>v=.str x
 |.tup ds,v=>∃a xs,v=.ref a/\SqT G.K H a xs/\lG G H ds xs
 |.lst ds,v=>∃a xs,v=.ref a/\H a=some (.lst xs)/\lG G H ds xs
 |.fzl ds,v=>∃a xs,v=.ref a/\SqL G.K H a xs/\lG G H ds xs
 |.obj c ns ds,v=>∃a dx xs,v=.ref a/\H a=some (.ins (G.ca c) dx (ns.zip xs))/\ns.length=xs.length/\lG G H ds xs
 |.dic ks ds,v=>∃a o xs,v=.ref a/\H a=some (.frz o (.dK (ks.zip xs)))/\ks.length=xs.length/\lG G H ds xs
def lG(G:Bg)(H:Hp):List D->List V->Prop
 |[],xs=>xs=[]
 |d::ds,xs=>∃v r,xs=v::r/\Rep G H d v/\lG G H ds r
end
variable{H':Hp}{a:Addr}{xs:List V}
theorem SqT.mono{K:ai}{H:Hp}(e:lK H H')(h:SqT K H a xs):SqT K H' a xs:=by
 rcases h with (h|⟨o,h⟩)|h
 ·exact .inl (.inl (e _ _ h))
 ·exact .inl (.inr ⟨o,e _ _ h⟩)
 ·exact .inr h
mutual
theorem Rep.mono{G:Bg}{H H':Hp}(e:lK H H'):∀(d:D) (v:V),Rep G H d v->Rep G H' d v
 |.non,v,h=>by unfold Rep at h ⊢;exact h
 |.bl b,v,h=>by unfold Rep at h ⊢;exact h
 |.int i,v,h=>by unfold Rep at h ⊢;exact h
 |.str x,v,h=>by unfold Rep at h ⊢;exact h
 |.tup ds,v,h=>by unfold Rep at h ⊢;obtain⟨a,xs,rfl,h1,h2⟩:=h;exact⟨a,xs,rfl,SqT.mono e h1,lG.mono e ds xs h2⟩
 |.lst ds,v,h=>by unfold Rep at h ⊢;obtain⟨a,xs,rfl,h1,h2⟩:=h;exact⟨a,xs,rfl,e _ _ h1,lG.mono e ds xs h2⟩
 |.fzl ds,v,h=>by unfold Rep at h ⊢;obtain⟨a,xs,rfl,h1,h2⟩:=h;exact⟨a,xs,rfl,e.seq h1,lG.mono e ds xs h2⟩
 |.obj c ns ds,v,h=>by unfold Rep at h ⊢;obtain⟨a,dx,xs,rfl,h1,h2,h3⟩:=h;exact⟨a,dx,xs,rfl,e _ _ h1,h2,lG.mono e ds xs h3⟩
 |.dic ks ds,v,h=>by unfold Rep at h ⊢;obtain⟨a,o,xs,rfl,h1,h2,h3⟩:=h;exact⟨a,o,xs,rfl,e _ _ h1,h2,lG.mono e ds xs h3⟩
theorem lG.mono{G:Bg}{H H':Hp}(e:lK H H'):∀(ds:List D) (xs:List V),lG G H ds xs->lG G H' ds xs
 |[],xs,h=>by unfold lG at h ⊢;exact h
 |d::ds,xs,h=>by unfold lG at h ⊢;obtain⟨v,r,rfl,h1,h2⟩:=h;exact⟨v,r,rfl,Rep.mono e d v h1,lG.mono e ds r h2⟩
end
variable{d:D}{ds:List D}
section
variable{G:Bg}{H:Hp}
theorem ma:lG G H [] []:=by unfold lG;rfl
theorem mw{v:V}(h:Rep G H d v)(r:lG G H ds xs):lG G H (d::ds) (v::xs):=by unfold lG;exact⟨v,xs,rfl,h,r⟩
theorem lI:∀{ds:List D} {xs:List V},lG G H ds xs->ds.length=xs.length
 |[],xs,h=>by unfold lG at h;subst h;rfl
 |d::ds,xs,h=>by unfold lG at h;obtain⟨v,r,rfl,_,h2⟩:=h;rw[aG,aG,lI h2]
theorem mY:∀{ds es:List D} {xs ys:List V},lG G H ds xs->lG G H es ys->lG G H (ds++es) (xs++ys)
 |[],es,xs,ys,h,h'=>by unfold lG at h;subst h;exact h'
 |d::ds,es,xs,ys,h,h'=>by unfold lG at h;obtain⟨v,r,rfl,h1,h2⟩:=h;exact mw h1 (mY h2 h')
theorem oP:∀{ds:List D} {xs:List V} {i:Nat} {d:D},lG G H ds xs->ds[i]?=some d->∃v,xs[i]?=some v/\Rep G H d v
 |[],xs,i,d,h,e=>by simp at e
 |d'::ds,xs,i,d,h,e=>by
  unfold lG at h;obtain⟨v,r,rfl,h1,h2⟩:=h;cases i with
  |zero=>simp at e;subst e;exact⟨v,rfl,h1⟩
  |succ i=>simpa using oP (i:=i) (d:=d) h2 (by simpa using e)
theorem yx:∀{ds:List D} {xs:List V} (i:Nat) {d:D} {v:V},lG G H ds xs->Rep G H d v->lG G H (ds.set i d) (xs.set i v)
 |[],xs,i,d,v,h,e=>by unfold lG at h;subst h;exact ma
 |d'::ds,xs,i,d,v,h,e=>by
  unfold lG at h;obtain⟨v',r,rfl,h1,h2⟩:=h;cases i with
  |zero=>exact mw e h2
  |succ i=>exact mw h1 (yx i h2 e)
theorem wH:∀{ds:List D} {xs:List V} (n:Nat),lG G H ds xs->lG G H (ds.drop n) (xs.drop n)
 |ds,xs,0,h=>h
 |[],xs,n+1,h=>by unfold lG at h;subst h;exact ma
 |d::ds,xs,n+1,h=>by unfold lG at h;obtain⟨v,r,rfl,h1,h2⟩:=h;exact wH n h2
theorem wI:∀{ds:List D} {xs:List V} (n:Nat),lG G H ds xs->lG G H (ds.take n) (xs.take n)
 |ds,xs,0,h=>ma
 |[],xs,n+1,h=>by unfold lG at h;subst h;exact ma
 |d::ds,xs,n+1,h=>by unfold lG at h;obtain⟨v,r,rfl,h1,h2⟩:=h;exact mw h1 (wI n h2)
theorem xK(h:SqT G.K H a xs)(r:lG G H ds xs):Rep G H (.tup ds) (.ref a):=by unfold Rep;exact⟨a,xs,rfl,h,r⟩
theorem qo(h:H a=some (.lst xs))(r:lG G H ds xs):Rep G H (.lst ds) (.ref a):=by unfold Rep;exact⟨a,xs,rfl,h,r⟩
theorem m5(i:Int):Rep G H (.int i) (.int i):=by unfold Rep;rfl
theorem om(i:Bool):Rep G H (.bl i) (.bl i):=by unfold Rep;rfl
theorem sA(i:Str):Rep G H (.str i) (.str i):=by unfold Rep;rfl
theorem sC:Rep G H .non .non:=by unfold Rep;rfl
end
inductive Sl where
 |un
 |im (d:D)
 |ls (ds:List D)
 |pm (ds:List D)
 |dk (ks:List Key) (ds:List D)
 |ob (c:Nat) (ns:List Str) (ds:List D)
def Sl.own:Sl->Bool
 |.ls _=>true
 |.pm _=>true
 |.dk _ _=>true
 |.ob _ _ _=>true
 |_=>false
structure Fr where
 B0:Hp
 B:Hp
 A:List Addr
def wc(G:Bg)(F:Fr)(H0 H:Hp)(o:Option V):Sl->Prop
 |.un=>True
 |.im d=>∃v,o=some v/\Rep G H0 d v
 |.ls ds=>∃a xs,o=some (.ref a)/\H a=some (.lst xs)/\H0 a=none/\F.B a=none/\lG G H0 ds xs
 |.pm ds=>∃a xs,o=some (.ref a)/\H a=some (.lst xs)/\H0 a=none/\a∈F.A/\lG G H0 ds xs
 |.dk ks ds=>∃a xs,o=some (.ref a)/\H a=some (.dK (ks.zip xs))/\H0 a=none/\F.B a=none/\ks.length=xs.length/\lG G H0 ds xs
 |.ob c ns ds=>∃a dx xs,o=some (.ref a)/\H a=some (.ins (G.ca c) dx (ns.zip xs))/\H0 a=none/\a∈F.A/\ns.length=xs.length/\lG G H0 ds xs
structure lU(G:Bg)(F:Fr)(σ:St)(ρ:List Sl)(H0 H:Hp):Prop where
 sub:lK H0 H
 g0:lK F.B0 H0
 keep:∀b o,F.B b=some o->b∉F.A->H b=some o
 fr:∀b o,H0 b=some o->F.B0 b=some o\/F.B b=none
 am:∀a∈F.A,∃o,H a=some o
 len:σ.length=ρ.length
 sl:∀(i:Nat) (s:Sl),ρ[i]?=some s->wc G F H0 H (σ[i]?).join s
 ap:∀(i j:Nat) (s t:Sl) (a:Addr),i≠j->ρ[i]?=some s->ρ[j]?=some t->s.own=true->t.own=true->(σ[i]?).join=some (.ref a)->(σ[j]?).join=some (.ref a)->False
variable{G:Bg}{F:Fr}{H0:Hp}
theorem wc.at{H:Hp}{o:Option V}{s:Sl}(h:wc G F H0 H o s)(e:s.own=true):∃a u,o=some (.ref a)/\H a=some u/\H0 a=none/\(F.B a=none\/a∈F.A):=by
 cases s with
 |un=>cases e
 |im d=>cases e
 |ls ds=>obtain⟨a,xs,h1,h2,h3,h4,_⟩:=h;exact⟨a,_,h1,h2,h3,.inl h4⟩
 |pm ds=>obtain⟨a,xs,h1,h2,h3,h4,_⟩:=h;exact⟨a,_,h1,h2,h3,.inr h4⟩
 |dk ks ds=>obtain⟨a,xs,h1,h2,h3,h4,_⟩:=h;exact⟨a,_,h1,h2,h3,.inl h4⟩
 |ob c ns ds=>obtain⟨a,dx,xs,h1,h2,h3,h4,_⟩:=h;exact⟨a,_,h1,h2,h3,.inr h4⟩
variable{H0':Hp}
theorem wc.grow{H:Hp}{o:Option V}{s:Sl}(h:wc G F H0 H o s)(h0:lK H0 H0')(hk:∀a u,o=some (.ref a)->s.own=true->H a=some u->H' a=some u)
  (hn:∀a u,o=some (.ref a)->s.own=true->H a=some u->H0 a=none->H0' a=none):wc G F H0' H' o s:=by
 cases s with
 |un=>trivial
 |im d=>obtain⟨v,h1,h2⟩:=h;exact⟨v,h1,Rep.mono h0 _ _ h2⟩
 |ls ds=>obtain⟨a,xs,h1,h2,h3,h4,h5⟩:=h;exact⟨a,xs,h1,hk _ _ h1 rfl h2,hn _ _ h1 rfl h2 h3,h4,lG.mono h0 _ _ h5⟩
 |pm ds=>obtain⟨a,xs,h1,h2,h3,h4,h5⟩:=h;exact⟨a,xs,h1,hk _ _ h1 rfl h2,hn _ _ h1 rfl h2 h3,h4,lG.mono h0 _ _ h5⟩
 |dk ks ds=>obtain⟨a,xs,h1,h2,h3,h4,h5,h6⟩:=h;exact⟨a,xs,h1,hk _ _ h1 rfl h2,hn _ _ h1 rfl h2 h3,h4,h5,lG.mono h0 _ _ h6⟩
 |ob c ns ds=>obtain⟨a,dx,xs,h1,h2,h3,h4,h5,h6⟩:=h;exact⟨a,dx,xs,h1,hk _ _ h1 rfl h2,hn _ _ h1 rfl h2 h3,h4,h5,lG.mono h0 _ _ h6⟩
variable{p:Addr}{j:Nat}
section
variable{G:Bg}{F:Fr}{σ:St}{ρ:List Sl}{H0 H H0' H':Hp}
theorem lU.bNone(R:lU G F σ ρ H0 H){b:Addr}(h:H b=none):F.B b=none:=by
 cases e:F.B b with
 |none=>rfl
 |some o=>
  by_cases ha:b∈F.A
  ·obtain⟨xs,q⟩:=R.am b ha;rw[q]at h;cases h
  ·have q:=R.keep b o e ha;rw[q]at h;cases h
theorem lU.grow(R:lU G F σ ρ H0 H)(hs:lK H H')(h0:lK H0 H0')(sub':lK H0' H')(hf:∀b o,H0' b=some o->H0 b=some o\/H b=none):lU G F σ ρ H0' H' where
 sub:=sub'
 g0:=R.g0.trans h0
 keep:=λb o e n=>hs _ _ (R.keep b o e n)
 fr:=λb o e=>by
  rcases hf b o e with q|q
  ·exact R.fr b o q
  ·exact .inr (R.bNone q)
 am:=λa ha=>let ⟨xs,q⟩:=R.am a ha;⟨xs,hs _ _ q⟩
 len:=R.len
 sl:=λi s e=>(R.sl i s e).grow h0 (λa u _ _ q=>hs _ _ q) λa u _ _ q q0=>by
  cases z:H0' a with
  |none=>rfl
  |some o=>
   rcases hf a o z with y|y
   ·rw[y]at q0;cases q0
   ·rw[y]at q;cases q
 ap:=R.ap
theorem l3{H:Hp}(hp:H p=none)(o:HO):lK H (upd H p o):=lK.new (lK.refl H) hp o
theorem lU.h0none(R:lU G F σ ρ H0 H)(hp:H p=none):H0 p=none:=by
 cases e:H0 p with
 |none=>rfl
 |some o=>have:=R.sub _ _ e;rw[this]at hp;cases hp
theorem CA{H0 H:Hp}(s:lK H0 H)(p:Addr)(o:HO):lK (upd H0 p o) (upd H p o):=λb u e=>by
 by_cases hb:b=p
 ·subst hb;rw[lQ]at e ⊢;exact e
 ·rw[lO hb]at e ⊢;exact s _ _ e
theorem lU.newIm(R:lU G F σ ρ H0 H)(hp:H p=none)(o:HO):lU G F σ ρ (upd H0 p o) (upd H p o):=
 R.grow (l3 hp o) (l3 (R.h0none hp) o) (CA R.sub p o) λb u e=>by
  by_cases hb:b=p
  ·subst hb;exact .inr hp
  ·rw[lO hb]at e;exact .inl e
theorem lU.newOwn(R:lU G F σ ρ H0 H)(hp:H p=none)(o:HO):lU G F σ ρ H0 (upd H p o):=
 R.grow (l3 hp o) (lK.refl _) (λb u e=>by rw[lO (mW (R.sub _ _ e) hp)];exact R.sub _ _ e) λb u e=>.inl e
def Apart(σ:St)(ρ:List Sl)(p:Addr):Prop:=∀(i:Nat) (s:Sl),ρ[i]?=some s->s.own=true->(σ[i]?).join≠some (.ref p)
theorem lU.apart(R:lU G F σ ρ H0 H)(hp:H p=none):Apart σ ρ p:=λi s e so z=>by obtain⟨a,u,h1,h2,_⟩:=(R.sl i s e).at so;rw[z]at h1;cases h1;rw[hp]at h2;cases h2
theorem lU.freeze(R:lU G F σ ρ H0 H){o:HO}(hp:H p=some o)(h0:H0 p=none)(hb:F.B p=none)(ap:Apart σ ρ p):lU G F σ ρ (upd H0 p o) H where
 sub:=λb u e=>by
  by_cases hb:b=p
  ·subst hb;rw[lQ]at e;cases e;exact hp
  ·rw[lO hb]at e;exact R.sub _ _ e
 g0:=R.g0.trans (l3 h0 o)
 keep:=R.keep
 fr:=λb u e=>by
  by_cases hb':b=p
  ·subst hb';exact .inr hb
  ·rw[lO hb']at e;exact R.fr _ _ e
 am:=R.am
 len:=R.len
 sl:=λi s e=>(R.sl i s e).grow (l3 h0 o) (λa u _ _ q=>q) λa u z so q q0=>by rw[lO (λy=>ap i s e so (by rw[z,y]))];exact q0
 ap:=R.ap
theorem yy{σ:St}{i:Nat}{v:Option V}(hi:i<σ.length):((σ.set i v)[j]?).join=if j=i then v else (σ[j]?).join:=by
 rw[bc];by_cases h:i=j
 ·subst h;simp[hi]
 ·rw[ah h,ah (λz=>h z.symm)]
theorem lU.set(R:lU G F σ ρ H0 H){i:Nat}{v:V}{s:Sl}(hs:wc G F H0 H (some v) s)(ap:s.own=true->∀a,v=.ref a->∀(j:Nat) (t:Sl),j≠i->ρ[j]?=some t->t.own=true->(σ[j]?).join≠some (.ref a)):
  lU G F (σ.set i (some v)) (ρ.set i s) H0 H where
 sub:=R.sub
 g0:=R.g0
 keep:=R.keep
 fr:=R.fr
 am:=R.am
 len:=by rw[ck,ck,R.len]
 sl:=λj t e=>by
  rw[bc]at e;by_cases h:i=j
  ·subst h;rw[ag rfl]at e;split at e
   ·rename_i hi;cases e;rw[yy (by rw[R.len];exact hi),ag rfl];exact hs
   ·cases e
  ·rw[ah h]at e;have hh:=R.sl j t e;rw[bc,ah h];exact hh
 ap:=λj k t u a hjk ej ek tj tk vj vk=>by
  have gen:∀{m:Nat} {x:Sl},(ρ.set i s)[m]?=some x->m≠i->ρ[m]?=some x/\((σ.set i (some v))[m]?).join=(σ[m]?).join:=λ{m x} e hm=>by rw[bc,ah (λz=>hm z.symm)]at e;exact⟨e,by rw[bc,ah (λz=>hm z.symm)]⟩
  have self:∀{x:Sl},(ρ.set i s)[i]?=some x->x=s/\((σ.set i (some v))[i]?).join=some v:=λ{x} e=>by
   rw[bc,ag rfl]at e;split at e
   ·rename_i hi;cases e;exact⟨rfl,by rw[yy (by rw[R.len];exact hi),ag rfl]⟩
   ·cases e
  by_cases hj:j=i
  ·subst hj;obtain⟨rfl,ev⟩:=self ej;rw[ev]at vj;cases vj;obtain⟨e2,e3⟩:=gen ek (λz=>hjk z.symm);rw[e3]at vk;exact ap tj a rfl k u (λz=>hjk z.symm) e2 tk vk
  ·obtain⟨e2,e3⟩:=gen ej hj;by_cases hk:k=i
   ·subst hk;obtain⟨rfl,ev⟩:=self ek;rw[ev]at vk;cases vk;rw[e3]at vj;exact ap tk a rfl j t hj e2 tj vj
   ·obtain⟨e4,e5⟩:=gen ek hk;rw[e3]at vj;rw[e5]at vk;exact R.ap j k t u a hjk e2 e4 tj tk vj vk
theorem lU.setIm(R:lU G F σ ρ H0 H)(i:Nat){v:V}(h:Rep G H0 d v):lU G F (σ.set i (some v)) (ρ.set i (.im d)) H0 H:=R.set ⟨v,rfl,h⟩ λz=>by cases z
theorem lU.setLs(R:lU G F σ ρ H0 H)(i:Nat)(hp:H p=some (.lst xs))(h0:H0 p=none)(hb:F.B p=none)(ap:Apart σ ρ p)(h:lG G H0 ds xs):lU G F (σ.set i (some (.ref p))) (ρ.set i (.ls ds)) H0 H:=
 R.set ⟨p,xs,rfl,hp,h0,hb,h⟩ λ_ a e j t _ ej tj=>by cases e;exact ap j t ej tj
theorem lU.mut(R:lU G F σ ρ H0 H){i:Nat}{s s':Sl}{o:HO}(hi:ρ[i]?=some s)(so:s.own=true)(ha:(σ[i]?).join=some (.ref a))(ok:∀H',H' a=some o->wc G F H0 H' (some (.ref a)) s')
  (so':s'.own=true):lU G F σ (ρ.set i s') H0 (upd H a o):=by
 obtain⟨a',u,e1,e2,e3,e4⟩:=(R.sl i s hi).at so;rw[ha]at e1;cases e1;exact {
  sub:=λb w e=>by rw[lO (λz=>by rw[z,e3]at e;cases e)];exact R.sub _ _ e
  g0:=R.g0
  keep:=λb w e n=>by
   have nb:b≠a:=λz=>by
    subst z;rcases e4 with q|q
    ·rw[q]at e;cases e
    ·exact n q
   rw[lO nb];exact R.keep b w e n
  fr:=R.fr
  am:=λb hb=>by
   by_cases z:b=a
   ·subst z;exact⟨o,lQ⟩
   ·rw[lO z];exact R.am b hb
  len:=by rw[ck];exact R.len
  sl:=λj t e=>by
   rw[bc]at e;by_cases h:i=j
   ·subst h;rw[ag rfl]at e;split at e
    ·cases e;rw[ha];exact ok _ lQ
    ·cases e
   ·rw[ah h]at e;refine(R.sl j t e).grow (lK.refl _) (λb w z to q=>?_) λb w _ _ _ q=>q;rw[lO (λy=>by subst y;exact R.ap j i t s b (λy=>h y.symm) e hi to so z ha)];exact q
  ap:=λj k t u b hjk ej ek tj tk vj vk=>by
   have gen:∀{m:Nat} {x:Sl},(ρ.set i s')[m]?=some x->∃y,ρ[m]?=some y/\(x.own=true->y.own=true):=λ{m x} e=>by
    rw[bc]at e;by_cases h:i=m
    ·subst h;exact⟨s,hi,λ_=>so⟩
    ·rw[ah h]at e;exact⟨x,e,λq=>q⟩
   obtain⟨y,ey,oy⟩:=gen ej;obtain⟨z,ez,oz⟩:=gen ek;exact R.ap j k y z b hjk ey ez (oy tj) (oz tk) vj vk }
end
abbrev FE:=List Sl->Option (D×List Sl)
abbrev FT:=List Sl->Option (Bool×List Sl)
abbrev FA:=List Sl->Option (List D×List Sl)
def tF(G:Bg)(f:FE):TE:=λσ H Q=>∃F ρ H0 d ρ',lU G F σ ρ H0 H/\f ρ=some (d,ρ')/\∀v H0' H',lK H0 H0'->lU G F σ ρ' H0' H'->Rep G H0' d v->Q v H'
def tFT(G:Bg)(f:FT):TT:=λσ H Q=>∃F ρ H0 d ρ',lU G F σ ρ H0 H/\f ρ=some (d,ρ')/\∀H0' H',lK H0 H0'->lU G F σ ρ' H0' H'->Q d H'
def tFA(G:Bg)(f:FA):TA:=λσ H Q=>∃F ρ H0 ds ρ',lU G F σ ρ H0 H/\f ρ=some (ds,ρ')/\∀xs H0' H',lK H0 H0'->lU G F σ ρ' H0' H'->lG G H0' ds xs->Q xs H'
def tFN(G:Bg)(f:FA):TE:=λσ H Q=>∃F ρ H0 ds ρ',lU G F σ ρ H0 H/\f ρ=some (ds,ρ')/\∀p xs H0' H',lK H0 H0'->lU G F σ ρ' H0' H'->H' p=some (.lst xs)->H0' p=none->F.B p=none->Apart σ ρ' p->lG G H0' ds xs->Q (.ref p) H'
variable{X:Cx}{e:Expr}
theorem PE.weak{t t':TE}(h:PE X e t)(w:∀σ H Q,t' σ H Q->t σ H Q):PE X e t':=λpins s σ H Q I hq=>h pins s σ H Q I (w _ _ _ hq)
variable{t':TT}
theorem PT.weak{t:TT}(h:PT X e t)(w:∀σ H Q,t' σ H Q->t σ H Q):PT X e t':=λpins s σ H Q I hq=>h pins s σ H Q I (w _ _ _ hq)
theorem PW.weak{t:TT}(h:PW X e t)(w:∀σ H Q,t' σ H Q->t σ H Q):PW X e t':=λwh pins s σ H Q I hq=>h wh pins s σ H Q I (w _ _ _ hq)
theorem PA.weak{e:List Expr}{t t':TA}(h:PA X e t)(w:∀σ H Q,t' σ H Q->t σ H Q):PA X e t':=λpos pins s σ H Q I hq=>h pos pins s σ H Q I (w _ _ _ hq)
noncomputable def cC(d:D):FE:=λρ=>some (d,ρ)
noncomputable def cV(i:Nat):FE:=λρ=>match ρ[i]? with
 |some (.im d)=>some (d,ρ)
 |_=>none
noncomputable def c1(g:D->Option D) (f:FE):FE:=λρ=>match f ρ with
 |some (d,ρ')=>match g d with
  |some x=>some (x,ρ')
  |none=>none
 |none=>none
noncomputable def c2(g:D->D->Option D) (f f':FE):FE:=λρ=>match f ρ with
 |some (x,ρ1)=>match f' ρ1 with
  |some (y,ρ2)=>match g x y with
   |some z=>some (z,ρ2)
   |none=>none
  |none=>none
 |none=>none
variable{f:FE}{ρ ρ':List Sl}{z:D}
theorem uJ{g:D->Option D}(h:c1 g f ρ=some (z,ρ')):∃d,f ρ=some (d,ρ')/\g d=some z:=by
 unfold c1 at h;cases e:f ρ with
 |none=>rw[e]at h;cases h
 |some p=>
  obtain⟨d,ρ1⟩:=p;rw[e]at h;cases e2:g d with
  |none=>simp only[e2]at h;cases h
  |some x=>simp only[e2]at h;cases h;exact⟨d,rfl,e2⟩
variable{f':FE}
theorem xM{g:D->D->Option D}(h:c2 g f f' ρ=some (z,ρ')):∃x y ρ1,f ρ=some (x,ρ1)/\f' ρ1=some (y,ρ')/\g x y=some z:=by
 unfold c2 at h;cases e:f ρ with
 |none=>rw[e]at h;cases h
 |some p=>
  obtain⟨x,ρ1⟩:=p;simp only[e]at h;cases e2:f' ρ1 with
  |none=>simp only[e2]at h;cases h
  |some q=>
   obtain⟨y,ρ2⟩:=q;simp only[e2]at h;cases e3:g x y with
   |none=>simp only[e3]at h;cases h
   |some w=>simp only[e3]at h;cases h;exact⟨x,y,ρ1,rfl,e2,e3⟩
variable{pos:Pos}{op:c7}{es:List Expr}
section
variable{X:Cx}{G:Bg}
theorem HF{i j pos}:PE X (.Constant (.int i) j pos) (tF G (cC (.int i))):=PE.weak zf λσ H Q h=>by obtain⟨F,ρ,H0,d,ρ',R,e,k⟩:=h;cases e;exact k _ _ _ (lK.refl _) R (m5 i)
theorem K6{i j pos}:PE X (.Constant (.bool i) j pos) (tF G (cC (.bl i))):=PE.weak KA λσ H Q h=>by obtain⟨F,ρ,H0,d,ρ',R,e,k⟩:=h;cases e;exact k _ _ _ (lK.refl _) R (om i)
theorem HG{i j pos}:PE X (.Constant (.str i) j pos) (tF G (cC (.str i))):=PE.weak GR λσ H Q h=>by obtain⟨F,ρ,H0,d,ρ',R,e,k⟩:=h;cases e;exact k _ _ _ (lK.refl _) R (sA i)
theorem HH{j pos}:PE X (.Constant .none j pos) (tF G (cC .non)):=PE.weak GQ λσ H Q h=>by obtain⟨F,ρ,H0,d,ρ',R,e,k⟩:=h;cases e;exact k _ _ _ (lK.refl _) R sC
theorem EJ{i:Nat}(h:cV i ρ=some (d,ρ')):ρ[i]?=some (.im d)/\ρ'=ρ:=by
 unfold cV at h;split at h
 ·rename_i e;cases h;exact⟨e,rfl⟩
 ·cases h
theorem oo{α:Type}{o:Option (Option α)}{v:α}(h:o.join=some v):o=some (some v):=by
 cases o with
 |none=>cases h
 |some u=>cases u with
  |none=>cases h
  |some w=>cases h;rfl
theorem zA{i:Nat}(h:PE X e (qf i)):PE X e (tF G (cV i)):=PE.weak h λσ H Q hh=>by obtain⟨F,ρ,H0,d,ρ',R,e,k⟩:=hh;obtain⟨e1,rfl⟩:=EJ e;obtain⟨v,e2,e3⟩:=R.sl i _ e1;exact⟨v,oo e2,k _ _ _ (lK.refl _) R e3⟩
theorem EK{v:V}(h:PE X e (tC v))(r:∀H,Rep G H d v):PE X e (tF G (cC d)):=PE.weak h λσ H Q hh=>by obtain⟨F,ρ,H0,d',ρ',R,e,k⟩:=hh;cases e;exact k _ _ _ (lK.refl _) R (r _)
def OpD(G:Bg)(r:R2)(g:D->D->Option D):Prop:=∀x y z H0 H v u (Q:VK),g x y=some z->lK H0 H->Rep G H0 x v->Rep G H0 y u->(∀w,(∀H0',lK H0 H0'->Rep G H0' z w)->Q w H)->r v u H Q
theorem Ao{r:R2}{g:D->D->Option D}(ho:OpD G r g):∀σ H Q,tF G (c2 g f f') σ H Q->tOp r (tF G f) (tF G f') σ H Q:=λσ H Q hh=>by obtain⟨F,ρ,H0,d,ρ',R,e,k⟩:=hh;obtain⟨x,y,ρ1,e1,e2,e3⟩:=xM e;refine⟨F,ρ,H0,x,ρ1,R,e1,λv H1 H1' s1 R1 r1=>⟨F,ρ1,H1,y,ρ',R1,e2,λu H2 H2' s2 R2 r2=>?_⟩⟩;exact ho x y d H2 H2' v u Q e3 R2.sub (Rep.mono s2 _ _ r1) r2 λw hw=>k w H2 H2' (s1.trans s2) R2 (hw _ (lK.refl _))
theorem K7{a b:Expr}{op:fB}{r:R2}{g:D->D->Option D}(hr:OpR X (bX op) r)(ho:OpD G r g)(ha:PE X a (tF G f))(hb:PE X b (tF G f')):PE X (.BinOp a op b pos) (tF G (c2 g f f')):=PE.weak (Cb hr ha hb) (Ao ho)
theorem HI{a b:Expr}{r:R2}{g:D->D->Option D}(hr:OpR X (aI op) r)(ho:OpD G r g)(ha:PE X a (tF G f))(hb:PE X b (tF G f'))(hm:cZ op b=false):PE X (.Compare a [op] [b] pos) (tF G (c2 g f f')):=PE.weak (En hr ha hb hm) (Ao ho)
theorem K8{a b:Expr}{r:R2}{g:D->D->Option D}(hr:IxR X r)(ho:OpD G r g)(ha:PE X a (tF G f))(hb:PE X b (tF G f'))(hs:Ak b):PE X (.Subscript a b pos) (tF G (c2 g f f')):=PE.weak (Gg hr ha hb hs) (Ao ho)
def cT(f:FE):FT:=λρ=>match f ρ with
 |some (.bl b,ρ')=>some (b,ρ')
 |_=>none
theorem Ap{b:Bool}(h:cT f ρ=some (b,ρ')):f ρ=some (.bl b,ρ'):=by
 unfold cT at h;split at h
 ·rename_i e;cases h;exact e
 ·cases h
theorem Aq:∀σ H Q,tFT G (cT f) σ H Q->Cf (tF G f) σ H Q:=λσ H Q hh=>by obtain⟨F,ρ,H0,d,ρ',R,e,k⟩:=hh;refine⟨F,ρ,H0,_,ρ',R,Ap e,λv H0' H' s R' r=>?_⟩;unfold Rep at r;exact⟨d,r,k _ _ s R'⟩
theorem EL{a b:Expr}{r:R2}{g:D->D->Option D}(hr:OpR X (aI op) r)(ho:OpD G r g)(ha:PE X a (tF G f))(hb:PE X b (tF G f'))(hm:cZ op b=false):
  PT X (.Compare a [op] [b] pos) (tFT G (cT (c2 g f f'))):=PT.weak (Eo hr ha hb hm) λσ H Q hh=>by
 obtain⟨F,ρ,H0,d,ρ',R,e,k⟩:=Aq σ H Q hh;exact Ao ho σ H _ ⟨F,ρ,H0,d,ρ',R,e,k⟩
theorem EM(h:PE X e (tF G f))(he:∀whole,isTrue e X.env whole=(do let v<-whole;standAt e.pos;holding [v] (truthy v)):=by intro _;rfl):PT X e (tFT G (cT f)):=PT.weak (GT h he) λσ H Q hh=>by obtain⟨F,ρ,H0,d,ρ',R,e,k⟩:=hh;refine⟨F,ρ,H0,_,ρ',R,Ap e,λv H0' H' s R' r=>?_⟩;unfold Rep at r;exact⟨d,r,k _ _ s R'⟩
def p6(f:FT):FT:=λρ=>match f ρ with
 |some (b,ρ')=>some (!b,ρ')
 |none=>none
def yz(f g:FT):FT:=λρ=>match f ρ with
 |some (false,ρ')=>g ρ'
 |r=>r
theorem EN{a:Expr}{f:FT}(h:PT X a (tFT G f)):PT X (.UnaryOp .Not a pos) (tFT G (p6 f)):=PT.weak (GV h) λσ H Q hh=>by
 obtain⟨F,ρ,H0,d,ρ',R,e,k⟩:=hh;unfold p6 at e;cases e1:f ρ with
 |none=>simp only[e1]at e;cases e
 |some p=>obtain⟨b,ρ1⟩:=p;simp only[e1]at e;cases e;exact⟨F,ρ,H0,b,_,R,e1,λH0' H' s R'=>k _ _ s R'⟩
theorem K9{f g:FT}:∀σ H Q,tFT G (yz f g) σ H Q->tOr (tFT G f) (tFT G g) σ H Q:=λσ H Q hh=>by
 obtain⟨F,ρ,H0,d,ρ',R,e,k⟩:=hh;unfold yz at e;cases e1:f ρ with
 |none=>simp only[e1]at e;cases e
 |some p=>
  obtain⟨b,ρ1⟩:=p;cases b with
  |false=>simp only[e1]at e;exact⟨F,ρ,H0,false,ρ1,R,e1,λH0' H' s R'=>zw ⟨F,ρ1,H0',d,ρ',R',e,λH2 H2' s2 R2=>k _ _ (s.trans s2) R2⟩⟩
  |true=>simp only[e1]at e;cases e;exact⟨F,ρ,H0,true,_,R,e1,λH0' H' s R'=>zx (k _ _ s R')⟩
theorem EO{a:Expr}{f:FT}(h:PT X a (tFT G f)):PW X (.BoolOp .Or [a] pos) (tFT G f):=GU h
theorem CB{a b:Expr}{rest:List Expr}{f g:FT}(ha:PT X a (tFT G f))(hb:PW X (.BoolOp .Or (b::rest) pos) (tFT G g)):PW X (.BoolOp .Or (a::b::rest) pos) (tFT G (yz f g)):=PW.weak (KB ha hb) K9
def oV(f g:FE):FE:=λρ=>match f ρ with
 |some (.bl true,ρ')=>g ρ'
 |some (.bl false,ρ')=>some (.bl false,ρ')
 |_=>none
def ve(f:FE):FE:=λρ=>match f ρ with
 |some (.bl b,ρ')=>some (.bl !b,ρ')
 |_=>none
def cIf(c:FT)(f g:FE):FE:=λρ=>match c ρ with
 |some (true,ρ')=>f ρ'
 |some (false,ρ')=>g ρ'
 |none=>none
theorem HJ{a:Expr}{op}(h:PE X a (tF G f)):PE X (.BoolOp op [a] pos) (tF G f):=GW h
theorem CC:(∃ρ1,f ρ=some (.bl true,ρ1))\/(∃ρ1,f ρ=some (.bl false,ρ1))\/(∀b ρ1,f ρ≠some (.bl b,ρ1)):=by
 by_cases h1:∃ρ1,f ρ=some (.bl true,ρ1)
 ·exact .inl h1
 by_cases h2:∃ρ1,f ρ=some (.bl false,ρ1)
 ·exact .inr (.inl h2)
 refine .inr (.inr λb ρ1 z=>?_);cases b with
 |true=>exact h1 ⟨ρ1,z⟩
 |false=>exact h2 ⟨ρ1,z⟩
theorem Bs{g:FE}(h:∀b ρ1,f ρ≠some (.bl b,ρ1)):oV f g ρ=none:=by
 unfold oV;split
 ·rename_i e;exact aq e (h _ _)
 ·rename_i e;exact aq e (h _ _)
 ·rfl
theorem HK{a b:Expr}{rest:List Expr}{g:FE}(ha:PE X a (tF G f))(hb:PE X (.BoolOp .And (b::rest) pos) (tF G g)):PE X (.BoolOp .And (a::b::rest) pos) (tF G (oV f g)):=PE.weak (GY ha hb) λσ H Q hh=>by
 obtain⟨F,ρ,H0,d,ρ',R,e,k⟩:=hh;rcases CC (f:=f) (ρ:=ρ)with ⟨ρ1,e1⟩|⟨ρ1,e1⟩|e1
 ·have e':g ρ1=some (d,ρ'):=by unfold oV at e;simp only[e1]at e;exact e
  refine⟨F,ρ,H0,_,ρ1,R,e1,λv H1 H1' s R' r=>?_⟩;unfold Rep at r;refine⟨true,r,?_⟩;exact zx ⟨F,ρ1,H1,d,ρ',R',e',λv H2 H2' s2 R2 r2=>k _ _ _ (s.trans s2) R2 r2⟩
 ·have e':some (D.bl false,ρ1)=some (d,ρ'):=by unfold oV at e;simp only[e1]at e;exact e
  cases e';refine⟨F,ρ,H0,_,_,R,e1,λv H1 H1' s R' r=>?_⟩;have r':=r;unfold Rep at r';refine⟨false,r',?_⟩;exact zw (k _ _ _ s R' (om false))
 ·rw[Bs e1]at e;cases e
theorem HL{a:Expr}(ha:PE X a (tF G f)):PE X (.UnaryOp .Not a pos) (tF G (ve f)):=PE.weak (GZ ha) λσ H Q hh=>by
 obtain⟨F,ρ,H0,d,ρ',R,e,k⟩:=hh;unfold ve at e;split at e
 ·rename_i b ρ1 e1;cases e;refine⟨F,ρ,H0,_,_,R,e1,λv H1 H1' s R' r=>?_⟩;unfold Rep at r;exact⟨b,r,k _ _ _ s R' (om _)⟩
 ·cases e
theorem La{c a b:Expr}{h:FT}{g:FE}(hc:PT X c (tFT G h))(ha:PE X a (tF G f))(hb:PE X b (tF G g)):PE X (.IfExp c a b pos) (tF G (cIf h f g)):=PE.weak (B5 hc ha hb) λσ H Q hh=>by
 obtain⟨F,ρ,H0,d,ρ',R,e,k⟩:=hh;unfold cIf at e;cases e1:h ρ with
 |none=>simp only[e1]at e;cases e
 |some p=>
  obtain⟨b,ρ1⟩:=p;refine⟨F,ρ,H0,b,ρ1,R,e1,λH1 H1' s R'=>?_⟩;cases b with
  |true=>simp only[e1]at e;exact zx ⟨F,ρ1,H1,d,ρ',R',e,λv H2 H2' s2 R2 r2=>k _ _ _ (s.trans s2) R2 r2⟩
  |false=>simp only[e1]at e;exact zw ⟨F,ρ1,H1,d,ρ',R',e,λv H2 H2' s2 R2 r2=>k _ _ _ (s.trans s2) R2 r2⟩
noncomputable def ml:FA:=λρ=>some ([],ρ)
noncomputable def aCons(f:FE) (g:FA):FA:=λρ=>match f ρ with
 |some (d,ρ1)=>match g ρ1 with
  |some (ds,ρ2)=>some (d::ds,ρ2)
  |none=>none
 |none=>none
theorem zB{g:FA}(h:aCons f g ρ=some (ds,ρ')):∃d r ρ1,f ρ=some (d,ρ1)/\g ρ1=some (r,ρ')/\ds=d::r:=by
 unfold aCons at h;cases e:f ρ with
 |none=>rw[e]at h;cases h
 |some p=>
  obtain⟨x,ρ1⟩:=p;simp only[e]at h;cases e2:g ρ1 with
  |none=>simp only[e2]at h;cases h
  |some q=>obtain⟨y,ρ2⟩:=q;simp only[e2]at h;cases h;exact⟨x,y,ρ1,rfl,e2,rfl⟩
theorem o6:PA X [] (tFA G ml):=PA.weak qh λσ H Q hh=>by obtain⟨F,ρ,H0,d,ρ',R,e,k⟩:=hh;cases e;exact k _ _ _ (lK.refl _) R ma
theorem nh{g:FA}(ha:PE X e (tF G f))(hr:PA X es (tFA G g))(hs:ao (e::es) X.env=(false,eval e X.env)::ao es X.env:=by rfl):PA X (e::es) (tFA G (aCons f g)):=PA.weak (og ha hr hs) λσ H Q hh=>by obtain⟨F,ρ,H0,d,ρ',R,e,k⟩:=hh;obtain⟨x,r,ρ1,e1,e2,rfl⟩:=zB e;exact⟨F,ρ,H0,x,ρ1,R,e1,λv H1 H1' s R' rv=>⟨F,ρ1,H1,r,ρ',R',e2,λxs H2 H2' s2 R2 rs=>k _ _ _ (s.trans s2) R2 (mw (Rep.mono s2 _ _ rv) rs)⟩⟩
def mC(g:FA):FE:=λρ=>match g ρ with
 |some (ds,ρ')=>if ds.length<=1000 then some (.tup ds,ρ')else none
 |none=>none
def lZ(g:FA):FA:=λρ=>match g ρ with
 |some (ds,ρ')=>if ds.length<=1000 then some (ds,ρ')else none
 |none=>none
theorem HM{x1}{g:FA}(h:PA X es (tFA G g)):PE X (.Tuple es x1 pos) (tF G (mC g)):=PE.weak (Hn h) λσ H Q hh=>by
 obtain⟨F,ρ,H0,d,ρ',R,e,k⟩:=hh;unfold mC at e;cases e1:g ρ with
 |none=>simp only[e1]at e;cases e
 |some p=>
  obtain⟨ds,ρ1⟩:=p;simp only[e1]at e;split at e
  ·rename_i hl;cases e;refine⟨F,ρ,H0,_,_,R,e1,λxs H1 H1' s R' rs=>⟨by rw[<-lI rs];exact oB hl,λp hp=>?_⟩⟩;exact k _ _ _ (s.trans (l3 (R'.h0none hp) _)) (R'.newIm hp _) (xK (SqT.of lQ) (lG.mono (l3 (R'.h0none hp) _) _ _ rs))
  ·cases e
theorem ER{g:FA}(h:PA X es (tFA G g)):PE X (.List es pos) (tFN G (lZ g)):=PE.weak (Ck h) λσ H Q hh=>by
 obtain⟨F,ρ,H0,d,ρ',R,e,k⟩:=hh;unfold lZ at e;cases e1:g ρ with
 |none=>simp only[e1]at e;cases e
 |some p=>
  obtain⟨ds,ρ1⟩:=p;simp only[e1]at e;split at e
  ·rename_i hl;cases e;refine⟨F,ρ,H0,_,_,R,e1,λxs H1 H1' s R' rs=>⟨by rw[<-lI rs];exact oB hl,λp hp=>?_⟩⟩;exact k _ _ _ _ s (R'.newOwn hp _) lQ (R'.h0none hp) (R'.bNone hp) (R'.apart hp) rs
  ·cases e
def cL(g:FA):FE:=λρ=>match g ρ with
 |some (ds,ρ')=>some (.lst ds,ρ')
 |none=>none
theorem ES{g:FA}(h:cL g ρ=some (d,ρ')):∃ds,g ρ=some (ds,ρ')/\d=.lst ds:=by
 unfold cL at h;cases e:g ρ with
 |none=>simp only[e]at h;cases h
 |some p=>obtain⟨ds,ρ1⟩:=p;simp only[e]at h;cases h;exact⟨ds,rfl,rfl⟩
theorem Lb{g:FA}:∀σ H Q,tF G (cL g) σ H Q->tFN G g σ H Q:=λσ H Q hh=>by obtain⟨F,ρ,H0,d,ρ',R,e,k⟩:=hh;obtain⟨ds,e1,rfl⟩:=ES e;refine⟨F,ρ,H0,ds,ρ',R,e1,λp xs H1 H1' s R' hp h0 hb ap rs=>?_⟩;exact k _ _ _ (s.trans (l3 h0 _)) (R'.freeze hp h0 hb ap) (qo lQ (lG.mono (l3 h0 _) _ _ rs))
theorem HN{g:FA}(h:PE X e (tFN G g)):PE X e (tF G (cL g)):=PE.weak h Lb
end
inductive Out where
 |nx (ρ:List Sl)|bk (ρ:List Sl)|ct (ρ:List Sl)
 |rt (d:D) (ρ:List Sl)
 |rn (ds:List D) (ρ:List Sl)
abbrev FS:=List Sl->Option Out
def Ar(G:Bg)(F:Fr)(H0:Hp)(E:Ends):Out->Prop
 |.nx ρ'=>∀σ' H0' H',lK H0 H0'->lU G F σ' ρ' H0' H'->E.nx σ' H'
 |.bk ρ'=>∀σ' H0' H',lK H0 H0'->lU G F σ' ρ' H0' H'->E.bk σ' H'
 |.ct ρ'=>∀σ' H0' H',lK H0 H0'->lU G F σ' ρ' H0' H'->E.ct σ' H'
 |.rt d ρ'=>∀v σ' H0' H',lK H0 H0'->lU G F σ' ρ' H0' H'->Rep G H0' d v->E.rt v H'
 |.rn ds ρ'=>∀p xs σ' H0' H',lK H0 H0'->lU G F σ' ρ' H0' H'->H' p=some (.lst xs)->H0' p=none->F.B p=none->Apart σ' ρ' p->lG G H0' ds xs->E.rt (.ref p) H'
def tFS(G:Bg)(f:FS):TS:=λE σ H=>∃F ρ H0 o,lU G F σ ρ H0 H/\f ρ=some o/\Ar G F H0 E o/\(∀p,E.rt p=E.rt p)
variable{H1:Hp}
theorem Ar.back{E:Ends}{o:Out}(h:Ar G F H0 E o)(s:lK H0 H1):Ar G F H1 E o:=by
 cases o with
 |nx ρ=>exact λσ' H0' H' s' R=>h σ' H0' H' (s.trans s') R
 |bk ρ=>exact λσ' H0' H' s' R=>h σ' H0' H' (s.trans s') R
 |ct ρ=>exact λσ' H0' H' s' R=>h σ' H0' H' (s.trans s') R
 |rt d ρ=>exact λv σ' H0' H' s' R=>h v σ' H0' H' (s.trans s') R
 |rn ds ρ=>exact λp xs σ' H0' H' s' R=>h p xs σ' H0' H' (s.trans s') R
theorem PS.weak{e:Stmt}{t t':TS}(h:PS X e t)(w:∀E σ H,t' E σ H->t E σ H):PS X e t':=λpins s σ H D I hq=>h pins s σ H D I (w _ _ _ hq)
theorem PSs.weak{e:List Stmt}{t t':TS}(h:PSs X e t)(w:∀E σ H,t' E σ H->t E σ H):PSs X e t':=λpins s σ H D I hq=>h pins s σ H D I (w _ _ _ hq)
def nv:FS:=λρ=>some (.nx ρ)
noncomputable def lJ(f g:FS):FS:=λρ=>match f ρ with
 |some (.nx ρ')=>g ρ'
 |r=>r
variable{σ:St}{st:Stmt}{tg:Expr}{gs:List D->List Sl->Option (List Sl)}{N:List Str}{vs:List V}{np:Nat}
section
variable{X:Cx}{G:Bg}
theorem CD{E:Ends}{H:Hp}(h:tFS G nv E σ H):E.nx σ H:=by obtain⟨F,ρ,H0,o,R,e,k,_⟩:=h;cases e;exact k _ _ _ (lK.refl _) R
theorem ET:PSs X [] (tFS G nv):=PSs.weak z8 λE σ H h=>CD h
theorem CG{rest:List Stmt}{f g:FS}(h1:PS X st (tFS G f))(h2:PSs X rest (tFS G g)):PSs X (st::rest) (tFS G (lJ f g)):=PSs.weak (sq h1 h2) λE σ H h=>by
 obtain⟨F,ρ,H0,o,R,e,k,k2⟩:=h;unfold lJ at e;cases e1:f ρ with
 |none=>simp only[e1]at e;cases e
 |some o1=>
  cases o1 with
  |nx ρ1=>simp only[e1]at e;exact⟨F,ρ,H0,_,R,e1,λσ' H0' H' s R'=>⟨F,ρ1,H0',o,R',e,k.back s,k2⟩,k2⟩
  |bk ρ1=>simp only[e1]at e;cases e;exact⟨F,ρ,H0,_,R,e1,k,k2⟩
  |ct ρ1=>simp only[e1]at e;cases e;exact⟨F,ρ,H0,_,R,e1,k,k2⟩
  |rt d ρ1=>simp only[e1]at e;cases e;exact⟨F,ρ,H0,_,R,e1,k,k2⟩
  |rn d ρ1=>simp only[e1]at e;cases e;exact⟨F,ρ,H0,_,R,e1,k,k2⟩
theorem EU{f:FS}(h1:PS X st (tFS G f)):PSs X [st] (tFS G f):=uH h1
noncomputable def mK(f:FE):FS:=λρ=>match f ρ with
 |some (d,ρ')=>some (.rt d ρ')
 |none=>none
noncomputable def nz(f:FA):FS:=λρ=>match f ρ with
 |some (d,ρ')=>some (.rn d ρ')
 |none=>none
theorem lW{α:Type}{f:List Sl->Option (α×List Sl)}:f ρ=none\/∃d ρ',f ρ=some (d,ρ'):=by
 cases e:f ρ with
 |none=>exact .inl rfl
 |some p=>exact .inr ⟨p.1,p.2,rfl⟩
theorem EV(h:PE X e (tF G f)):PS X (.Return (some e) pos) (tFS G (mK f)):=PS.weak (zg h) λE σ H hh=>by
 obtain⟨F,ρ,H0,o,R,e,k,k2⟩:=hh;unfold mK at e;rcases lW (f:=f) (ρ:=ρ)with e1|⟨d,ρ',e1⟩<;>simp only[e1]at e
 ·cases e
 ·cases e;exact⟨F,ρ,H0,d,ρ',R,e1,λv H0' H' s R' r=>k _ _ _ _ s R' r⟩
theorem CH{f:FA}(h:PE X e (tFN G f)):PS X (.Return (some e) pos) (tFS G (nz f)):=PS.weak (zg h) λE σ H hh=>by
 obtain⟨F,ρ,H0,o,R,e,k,k2⟩:=hh;unfold nz at e;rcases lW (f:=f) (ρ:=ρ)with e1|⟨d,ρ',e1⟩<;>simp only[e1]at e
 ·cases e
 ·cases e;exact⟨F,ρ,H0,d,ρ',R,e1,λp xs H0' H' s R' h1 h2 h3 h4 h5=>k _ _ _ _ _ s R' h1 h2 h3 h4 h5⟩
noncomputable def n8(f:FE):FS:=λρ=>match f ρ with
 |some (_,ρ')=>some (.nx ρ')
 |none=>none
theorem CJ(h:PE X e (tF G f))(hs:bH e none pos.line X.env=pure false:=by rfl):PS X (.Expr e pos) (tFS G (n8 f)):=PS.weak (xq h hs) λE σ H hh=>by
 obtain⟨F,ρ,H0,o,R,e,k,k2⟩:=hh;unfold n8 at e;rcases lW (f:=f) (ρ:=ρ)with e1|⟨d,ρ',e1⟩<;>simp only[e1]at e
 ·cases e
 ·cases e;exact⟨F,ρ,H0,d,ρ',R,e1,λv H0' H' s R' r=>k _ _ _ s R'⟩
noncomputable def sIf(c:FT) (f g:FS):FS:=λρ=>match c ρ with
 |some (true,ρ')=>f ρ'
 |some (false,ρ')=>g ρ'
 |none=>none
theorem HP{c:Expr}{a b:List Stmt}{h:FT}{f g:FS}(hc:PT X c (tFT G h))(ha:PSs X a (tFS G f))(hb:PSs X b (tFS G g)):PS X (.If c a b pos) (tFS G (sIf h f g)):=PS.weak (Gc hc ha hb) λE σ H hh=>by
 obtain⟨F,ρ,H0,o,R,e,k,k2⟩:=hh;unfold sIf at e;rcases lW (f:=h) (ρ:=ρ)with e1|⟨d,ρ',e1⟩
 ·simp only[e1]at e;cases e
 ·refine⟨F,ρ,H0,d,ρ',R,e1,λH0' H' s R'=>?_⟩;cases d with
  |true=>simp only[e1]at e;exact zx ⟨F,ρ',H0',o,R',e,k.back s,k2⟩
  |false=>simp only[e1]at e;exact zw ⟨F,ρ',H0',o,R',e,k.back s,k2⟩
abbrev FG:=D->List Sl->Option (List Sl)
def tFG(G:Bg)(n:Nat)(g:FG):TG:=λv σ H Q=>∃F ρ H0 d ρ',lU G F σ ρ H0 H/\Rep G H0 d v/\g d ρ=some ρ'/\∀σ',σ'.drop n=σ.drop n->lU G F σ' ρ' H0 H->Q σ' H
def CK(G:Bg)(n:Nat)(g:List D->List Sl->Option (List Sl)):TGs:=λvs σ H Q=>∃F ρ H0 ds ρ',lU G F σ ρ H0 H/\lG G H0 ds vs/\g ds ρ=some ρ'/\∀σ',σ'.drop n=σ.drop n->lU G F σ' ρ' H0 H->Q σ' H
theorem PG.weak{t t':TG}(h:PG X e t)(w:∀v σ H Q,t' v σ H Q->t v σ H Q):PG X e t':=λpins s σ H x u Q I r hq=>h pins s σ H x u Q I r (w _ _ _ _ hq)
theorem PGs.weak{e:List Expr}{t t':TGs}(h:PGs X e t)(w:∀v σ H Q,t' v σ H Q->t v σ H Q):PGs X e t':=λpins s σ H x u Q I r hq=>h pins s σ H x u Q I r (w _ _ _ _ hq)
def gN(i:Nat):FG:=λd ρ=>some (ρ.set i (.im d))
theorem yA{α:Type}{l:List α}{i n:Nat}{x:α}(h:i<n):(l.set i x).drop n=l.drop n:=by apply iP;intro j;rw[cz,cz,bc,ah (by omega)]
theorem CL{i:Nat}(n:Nat)(h:PG X tg (pN i))(hi:i<n):PG X tg (tFG G n (gN i)):=PG.weak h λv σ H Q hh=>by obtain⟨F,ρ,H0,d,ρ',R,r,e,k⟩:=hh;cases e;exact k _ (yA hi) (R.setIm i r)
def As:List D->List Sl->Option (List Sl):=λds ρ=>match ds with
 |[]=>some ρ
 |_=>none
def rX(g:FG)(gs:List D->List Sl->Option (List Sl)):List D->List Sl->Option (List Sl):=λds ρ=>match ds with
 |d::r=>match g d ρ with
  |some ρ'=>gs r ρ'
  |none=>none
 |[]=>none
theorem EW{n:Nat}(h:PGs X [] KH):PGs X [] (CK G n As):=PGs.weak h λv σ H Q hh=>by
 obtain⟨F,ρ,H0,ds,ρ',R,r,e,k⟩:=hh;cases ds with
 |nil=>cases e;unfold lG at r;exact⟨r,k _ rfl R⟩
 |cons d ds=>cases e
theorem CM{n:Nat}{g:FG}(h:PGs X (e::es) (Gd (tFG G n g) (CK G n gs))):PGs X (e::es) (CK G n (rX g gs)):=PGs.weak h λv σ H Q hh=>by
 obtain⟨F,ρ,H0,ds,ρ',R,r,e,k⟩:=hh;cases ds with
 |nil=>cases e
 |cons d ds=>
  unfold lG at r;obtain⟨v1,r1,rfl,q1,q2⟩:=r;unfold rX at e;cases e1:g d ρ with
  |none=>simp only[e1]at e;cases e
  |some ρ1=>simp only[e1]at e;exact⟨v1,r1,rfl,F,ρ,H0,d,ρ1,R,q1,e1,λσ' s R'=>⟨F,ρ1,H0,ds,ρ',R',q2,e,λσ'' s' R''=>k _ (s'.trans s) R''⟩⟩
def gT(gs:List D->List Sl->Option (List Sl))(n:Nat):FG:=λd ρ=>match d with
 |.tup ds=>if ds.length=n then gs ds ρ else none
 |_=>none
theorem EX{n m:Nat}{k:Nat}(h:PG X (.Tuple es k pos) (G1 G.K m (CK G n gs))):PG X (.Tuple es k pos) (tFG G n (gT gs m)):=PG.weak h λv σ H Q hh=>by
 obtain⟨F,ρ,H0,d,ρ',R,r,e,k⟩:=hh;cases d with
 |tup ds=>
  unfold gT at e;simp only at e;split at e
  ·rename_i hl;unfold Rep at r;obtain⟨a,xs,rfl,h1,h2⟩:=r;exact⟨a,xs,rfl,SqT.mono R.sub h1,by rw[<-lI h2];exact hl,F,ρ,H0,ds,ρ',R,h2,e,k⟩
  ·cases e
 |_=>cases e
def Bt(f:FE)(g:FG):FS:=λρ=>match f ρ with
 |some (d,ρ')=>match g d ρ' with
  |some ρ2=>some (.nx ρ2)
  |none=>none
 |none=>none
theorem EY{g:FG}{n:Nat}(h:PS X st (rW (tF G f) (tFG G n g))):PS X st (tFS G (Bt f g)):=PS.weak h λE σ H hh=>by
 obtain⟨F,ρ,H0,o,R,e,k,k2⟩:=hh;unfold Bt at e;rcases lW (f:=f) (ρ:=ρ)with e1|⟨d,ρ',e1⟩<;>simp only[e1]at e
 ·cases e
 ·cases e2:g d ρ' with
  |none=>simp only[e2]at e;cases e
  |some ρ2=>simp only[e2]at e;cases e;exact⟨F,ρ,H0,d,ρ',R,e1,λv H0' H' s R' r=>⟨F,ρ',H0',d,ρ2,R',r,e2,λσ' _ R2=>k _ _ _ s R2⟩⟩
def mF(i:Nat)(f:FE):FS:=λρ=>match f ρ with
 |some (d,ρ')=>some (.nx (ρ'.set i (.im d)))
 |none=>none
theorem Au{i:Nat}(h:PS X st (rW (tF G f) (pN i))):PS X st (tFS G (mF i f)):=PS.weak h λE σ H hh=>by
 obtain⟨F,ρ,H0,o,R,e,k,k2⟩:=hh;unfold mF at e;rcases lW (f:=f) (ρ:=ρ)with e1|⟨d,ρ',e1⟩<;>simp only[e1]at e
 ·cases e
 ·cases e;exact⟨F,ρ,H0,d,ρ',R,e1,λv H0' H' s R' r=>k _ _ _ s (R'.setIm i r)⟩
def pB(i:Nat)(f:FA):FS:=λρ=>match f ρ with
 |some (d,ρ')=>some (.nx (ρ'.set i (.ls d)))
 |none=>none
theorem yB{i:Nat}{f:FA}(h:PS X st (rW (tFN G f) (pN i))):PS X st (tFS G (pB i f)):=PS.weak h λE σ H hh=>by
 obtain⟨F,ρ,H0,o,R,e,k,k2⟩:=hh;unfold pB at e;rcases lW (f:=f) (ρ:=ρ)with e1|⟨d,ρ',e1⟩<;>simp only[e1]at e
 ·cases e
 ·cases e;exact⟨F,ρ,H0,d,ρ',R,e1,λp xs H0' H' s R' h1 h2 h3 h4 h5=>k _ _ _ s (R'.setLs i h1 h2 h3 h4 h5)⟩
def stE(n:Nat)(ds:List D):List Sl:=ds.map Sl.im++eV (n - ds.length) .un
def fnD(np n:Nat)(f:FS):List D->Option D:=λds=>if ds.length=np then match f (stE n ds)with
 |some (.rt d _)=>some d
 |some (.rn ds _)=>some (.lst ds)
 |some (.nx _)=>some .non
 |_=>none
 else none
def fnN(np n:Nat)(f:FS):List D->Option (List D):=λds=>if ds.length=np then match f (stE n ds)with
 |some (.rn ds _)=>some ds
 |_=>none
 else none
def spF(G:Bg)(g:List D->Option D):Sp:=λvs H Q _=>∃H0 ds d,lK H0 H/\lG G H0 ds vs/\g ds=some d/\
 ∀v H0' H',lK H0 H0'->lK H0' H'->lK H H'->(∀b o,H0' b=some o->H0 b=some o\/H b=none)->Rep G H0' d v->Q v H'
def spN(G:Bg)(g:List D->Option (List D)):Sp:=λvs H Q _=>∃H0 ds d,lK H0 H/\lG G H0 ds vs/\g ds=some d/\
 ∀p xs H0' H',lK H0 H0'->lK H0' H'->lK H H'->(∀b o,H0' b=some o->H0 b=some o\/H b=none)->H p=none->H' p=some (.lst xs)->H0' p=none->lG G H0' d xs->Q (.ref p) H'
theorem sD{n:Nat}{i:Nat}{s:Sl}(h:(stE n ds)[i]?=some s):s=.un\/∃d,ds[i]?=some d/\s=.im d:=by
 unfold stE at h;by_cases hi:i<ds.length
 ·rw[cP (by simpa using hi),aS,aR hi]at h;cases h;exact .inr ⟨_,aR hi,rfl⟩
 ·rw[cO (by simpa using hi),eE]at h;split at h
  ·cases h;exact .inl rfl
  ·cases h
theorem oE{i:Nat}{v:V}(h:vs[i]?=some v):((L2.start N vs)[i]?).join=some v:=by unfold L2.start;have hi:=(bq.mp h).1;rw[cP (by simpa using hi),aS,h];rfl
theorem tI{H:Hp}(s:lK H0 H)(r:lG G H0 ds vs)(hl:vs.length<=N.length):lU G ⟨H0,H,[]⟩ (L2.start N vs) (stE N.length ds) H0 H where
 sub:=s
 g0:=lK.refl _
 keep:=λb o e _=>e
 fr:=λb o e=>.inl e
 am:=λa h=>by cases h
 len:=by unfold L2.start stE;rw[aC,aC,aj,aj,bB,bB,lI r]
 sl:=λi t e=>by
  rcases sD e with rfl|⟨d,e1,rfl⟩
  ·trivial
  ·obtain⟨v,e2,e3⟩:=oP r e1;exact⟨v,oE e2,e3⟩
 ap:=λi j t u a _ e _ ht=>by rcases sD e with rfl|⟨d,_,rfl⟩<;>cases ht
theorem yC{n:Nat}{f:FS}(h:fnD np n f ds=some d):ds.length=np/\((∃ρ,f (stE n ds)=some (.rt d ρ))\/(∃xs ρ,f (stE n ds)=some (.rn xs ρ)/\d=.lst xs)\/∃ρ,f (stE n ds)=some (.nx ρ)/\d=.non):=by
 unfold fnD at h;split at h
 ·rename_i hl;refine⟨hl,?_⟩;split at h
  ·rename_i e;cases h;exact .inl ⟨_,e⟩
  ·rename_i e;cases h;exact .inr (.inl ⟨_,_,e,rfl⟩)
  ·rename_i e;cases h;exact .inr (.inr ⟨_,e,rfl⟩)
  ·cases h
 ·cases h
theorem yD{n:Nat}{f:FS}{xs:List D}(h:fnN np n f ds=some xs):ds.length=np/\∃ρ,f (stE n ds)=some (.rn xs ρ):=by
 unfold fnN at h;split at h
 ·rename_i hl;refine⟨hl,?_⟩;split at h
  ·rename_i e;cases h;exact⟨_,e⟩
  ·cases h
 ·cases h
end
variable{E:XK}
theorem EZ{f:FS}{H:Hp}{Q:VK}(hN:np<=N.length)(h:spF G (fnD np N.length f) vs H Q E):tFS G f { nx:=λ_ H'=>Q .non H',rt:=Q } (L2.start N vs) H:=by
 obtain⟨H0,ds,d,s,r,e,k⟩:=h;obtain⟨hl,e'⟩:=yC e;clear e;have R:=tI (N:=N) s r (by rw[<-lI r,hl];exact hN);have fin:∀{σ':St} {ρ':List Sl} {H0' H':Hp},lU G ⟨H0,H,[]⟩ σ' ρ' H0' H'->lK H H'/\lK H0' H'/\∀b o,H0' b=some o->H0 b=some o\/H b=none:=λR'=>⟨λb o e=>R'.keep b o e (by simp),R'.sub,R'.fr⟩;rcases e' with ⟨ρ,e⟩|⟨xs,ρ,e,rfl⟩|⟨ρ,e,rfl⟩
 ·refine⟨_,_,H0,_,R,e,λv σ' H0' H' s' R' rv=>?_,λ_=>rfl⟩;obtain⟨h1,h2,h3⟩:=fin R';exact k v H0' H' s' h2 h1 h3 rv
 ·refine⟨_,_,H0,_,R,e,λp ys σ' H0' H' s' R' hp h0 hb ap rs=>?_,λ_=>rfl⟩;have R2:=R'.freeze hp h0 hb ap;obtain⟨h1,h2,h3⟩:=fin R2;exact k _ _ H' (s'.trans (l3 h0 _)) h2 h1 h3 (qo lQ (lG.mono (l3 h0 _) _ _ rs))
 ·refine⟨_,_,H0,_,R,e,λσ' H0' H' s' R'=>?_,λ_=>rfl⟩;obtain⟨h1,h2,h3⟩:=fin R';exact k _ H0' H' s' h2 h1 h3 sC
theorem E1{f:FS}{H:Hp}{Q:VK}(hN:np<=N.length)(h:spN G (fnN np N.length f) vs H Q E):tFS G f { nx:=λ_ H'=>Q .non H',rt:=Q } (L2.start N vs) H:=by obtain⟨H0,ds,d,s,r,e,k⟩:=h;obtain⟨hl,ρ,e⟩:=yD e;have R:=tI (N:=N) s r (by rw[<-lI r,hl];exact hN);refine⟨_,_,H0,_,R,e,λp ys σ' H0' H' s' R' hp h0 hb ap rs=>?_,λ_=>rfl⟩;exact k p ys H0' H' s' R'.sub (λb o e=>R'.keep b o e (by simp)) R'.fr hb hp h0 rs
theorem Lc{g:List D->Option D}(hg:∀ds d,g ds=some d->ds.length=np):∀vs H Q E,spF G g vs H Q E->vs.length=np:=λvs H Q E h=>by obtain⟨H0,ds,d,_,r,e,_⟩:=h;rw[<-lI r];exact hg _ _ e
theorem Ld{g:List D->Option (List D)}(hg:∀ds d,g ds=some d->ds.length=np):∀vs H Q E,spN G g vs H Q E->vs.length=np:=λvs H Q E h=>by obtain⟨H0,ds,d,_,r,e,_⟩:=h;rw[<-lI r];exact hg _ _ e
theorem E2{n:Nat}{f:FS}:∀ds d,fnD np n f ds=some d->ds.length=np:=λ_ _ h=>(yC h).1
theorem E3{n:Nat}{f:FS}:∀ds d,fnN np n f ds=some d->ds.length=np:=λ_ _ h=>(yD h).1
def tJ{α:Type}(g:List D->Option α)(a:FA):List Sl->Option (α×List Sl):=λρ=>match a ρ with
 |some (ds,ρ')=>match g ds with
  |some d=>some (d,ρ')
  |none=>none
 |none=>none
abbrev lN(g:List D->Option D)(a:FA):FE:=tJ g a
abbrev mR(g:List D->Option (List D))(a:FA):FA:=tJ g a
theorem qp{α:Type}{g:List D->Option α}{a:FA}{d:α}(h:tJ g a ρ=some (d,ρ')):∃ds,a ρ=some (ds,ρ')/\g ds=some d:=by
 unfold tJ at h;rcases lW (f:=a) (ρ:=ρ)with e1|⟨ds,ρ1,e1⟩<;>simp only[e1]at h
 ·cases h
 ·cases e2:g ds with
  |none=>simp only[e2]at h;cases h
  |some x=>simp only[e2]at h;cases h;exact⟨ds,e1,e2⟩
variable{dvs:List V}{dds:List D}
section
variable{X:Cx}{G:Bg}
theorem E4{g:List D->Option D}{a:FA}(hd:∀H,lG G H dds dvs):∀σ H Q,tF G (lN (λds=>g (ds++dds)) a) σ H Q->qO (spF G g) dvs E (tFA G a) σ H Q:=λσ H Q hh=>by obtain⟨F,ρ,H0,d,ρ',R,e,k⟩:=hh;obtain⟨ds,e1,e2⟩:=qp e;refine⟨F,ρ,H0,ds,ρ',R,e1,λxs H1 H1' s R' rs=>⟨H1,ds++dds,d,R'.sub,mY rs (hd _),e2,λv H2 H2' s1 s2 s3 fr rv=>?_⟩⟩;exact k v H2 H2' (s.trans s1) (R'.grow s3 s1 s2 fr) rv
theorem E5{g:List D->Option (List D)}{a:FA}(hd:∀H,lG G H dds dvs):∀σ H Q,tFN G (mR (λds=>g (ds++dds)) a) σ H Q->qO (spN G g) dvs E (tFA G a) σ H Q:=λσ H Q hh=>by obtain⟨F,ρ,H0,d,ρ',R,e,k⟩:=hh;obtain⟨ds,e1,e2⟩:=qp e;refine⟨F,ρ,H0,ds,ρ',R,e1,λxs H1 H1' s R' rs=>⟨H1,ds++dds,d,R'.sub,mY rs (hd _),e2,λp ys H2 H2' s1 s2 s3 fr hn hp h0 rv=>?_⟩⟩;exact k p ys H2 H2' (s.trans s1) (R'.grow s3 s1 s2 fr) hp h0 (R'.bNone hn) (R'.apart hn) rv
end
variable{ff:FE}{ta:TE}{apos:Pos}{c:Nat}
section
variable{X:Cx}{G:Bg}
theorem E6{g:List D->Option D}{a:FA}(hd:∀H,lG G H dds dvs)(h:PE X e (qO (spF G g) dvs E (tFA G a))):PE X e (tF G (lN (λds=>g (ds++dds)) a)):=PE.weak h (E4 hd)
theorem CN{g:List D->Option (List D)}{a:FA}(hd:∀H,lG G H dds dvs)(h:PE X e (qO (spN G g) dvs E (tFA G a))):PE X e (tFN G (mR (λds=>g (ds++dds)) a)):=PE.weak h (E5 hd)
theorem CO{g:List D->Option D}(h:PE X e (qO (spF G g) [] E xw)):PE X e (tF G (lN g ml)):=PE.weak h λσ H Q hh=>by obtain⟨F,ρ,H0,d,ρ',R,e,k⟩:=hh;obtain⟨ds,e1,e2⟩:=qp e;cases e1;exact⟨H0,[],d,R.sub,ma,e2,λv H2 H2' s1 s2 s3 fr rv=>k v H2 H2' s1 (R.grow s3 s1 s2 fr) rv⟩
theorem Bu{g:List D->Option (List D)}(h:PE X e (qO (spN G g) [] E xw)):PE X e (tFN G (mR g ml)):=PE.weak h λσ H Q hh=>by obtain⟨F,ρ,H0,d,ρ',R,e,k⟩:=hh;obtain⟨ds,e1,e2⟩:=qp e;cases e1;exact⟨H0,[],d,R.sub,ma,e2,λp ys H2 H2' s1 s2 s3 fr hn hp h0 rv=>k p ys H2 H2' s1 (R.grow s3 s1 s2 fr) hp h0 (R.bNone hn) (R.apart hn) rv⟩
def Bv:List Str->List D->Str->Option D
 |n::ns,d::ds,f=>if n=f then some d else Bv ns ds f
 |_,_,_=>none
theorem wJ{H:Hp}:∀{ns:List Str} {ds:List D} {xs:List V} {f:Str} {d:D},lG G H ds xs->Bv ns ds f=some d->∃v,(ns.zip xs).lookup f=some v/\Rep G H d v
 |[],ds,xs,f,d,r,e=>by simp[Bv]at e
 |n::ns,[],xs,f,d,r,e=>by simp[Bv]at e
 |n::ns,d'::ds,xs,f,d,r,e=>by
  unfold lG at r;obtain⟨v,q,rfl,h1,h2⟩:=r;unfold Bv at e;by_cases hn:n=f
  ·rw[ag hn]at e;cases e;subst hn;exact⟨v,by simp[bU],h1⟩
  ·rw[ah hn]at e;obtain⟨w,e1,e2⟩:=wJ h2 e;refine⟨w,?_,e2⟩;have hb:(f==n)=false:=beq_eq_false_iff_ne.mpr λz=>hn z.symm;simp only[cA,bU,hb];exact e1
def l8(ok:Nat->Bool)(f:Str):D->Option D
 |.obj c ns ds=>if ok c=true then Bv ns ds f else none
 |_=>none
theorem CP{f:Str}{ok:Nat->Bool}(he:PE X e (tF G ff))(hc:∀c,ok c=true->Cls X.K (G.ca c)/\pz X.K (G.ca c) f)(hb:c3 e f X.env (eval e X.env)=eval e X.env:=by rfl):PE X (.Attribute e f pos) (tF G (c1 (l8 ok f) ff)):=PE.weak (Hl he hb) λσ H Q hh=>by
 obtain⟨F,ρ,H0,d,ρ',R,e,k⟩:=hh;obtain⟨x,e1,e2⟩:=uJ e;cases x with
 |obj c ns ds=>
  unfold l8 at e2;simp only at e2;split at e2
  ·rename_i hk;refine⟨F,ρ,H0,_,ρ',R,e1,λv H1 H1' s R' r=>?_⟩;unfold Rep at r;obtain⟨a,dx,xs,rfl,h1,h2,h3⟩:=r;obtain⟨w,l1,l2⟩:=wJ h3 e2;exact⟨a,_,dx,_,w,rfl,R'.sub _ _ h1,(hc c hk).1,(hc c hk).2,l1,k _ _ _ s R' l2⟩
  ·cases e2
 |_=>cases e2
def MOk(X:Cx)(C:Addr)(m:Str)(sp:Sp)(dvs:List V)(E:XK):Prop:=∃(k:Nat) (f:Addr) (fd:aZ) (ps:List Str) (ds:List aa),Cls X.K C/\Meth X.K C m f/\oh X.prog X.w X.K X.mg X.base CX0 k f fd ps sp/\mP k X.A/\Binds X.K fd ps ds/\Vals dvs ds/\Passes CX0 X E
def n9(g:Nat->Option (List D->Option D))(m:Str)(f:FE)(a:FA):FE:=λρ=>match f ρ with
 |some (.obj c ns ds,ρ1)=>match g c with
  |some h=>if ns.contains m=true then none else match a ρ1 with
   |some (es,ρ2)=>match h (.obj c ns ds::es)with
    |some d=>some (d,ρ2)
    |none=>none
   |none=>none
  |none=>none
 |_=>none
theorem vg{g:Nat->Option (List D->Option D)}{m:Str}{a:FA}(h:n9 g m f a ρ=some (d,ρ')):
  ∃c ns ds ρ1 hh es,f ρ=some (.obj c ns ds,ρ1)/\g c=some hh/\ns.contains m=false/\a ρ1=some (es,ρ')/\hh (.obj c ns ds::es)=some d:=by
 unfold n9 at h;split at h
 ·rename_i c ns ds ρ1 e1;cases e2:g c with
  |none=>simp only[e2]at h;cases h
  |some hh=>
   simp only[e2]at h;cases e3:ns.contains m with
   |true=>simp only[e3,if_true]at h;cases h
   |false=>
    simp only[e3,dH,if_false]at h;rcases lW (f:=a) (ρ:=ρ1)with e4|⟨es,ρ2,e4⟩<;>simp only[e4]at h
    ·cases h
    ·cases e5:hh (.obj c ns ds::es)with
     |none=>simp only[e5]at h;cases h
     |some x=>simp only[e5]at h;cases h;exact⟨c,ns,ds,ρ1,hh,es,e1,e2,e3,e4,e5⟩
 ·cases h
theorem rY{m:Str}:∀{ns:List Str} {xs:List V},ns.contains m=false->(ns.zip xs).lookup m=none
 |[],xs,h=>rfl
 |n::ns,[],h=>rfl
 |n::ns,x::xs,h=>by rw[iJ,ik]at h;simp only[cA,bU,h.1];exact rY h.2
theorem CQ{o:Expr}{t:TA}{m:Str}{pl:Sem Bool}(T:Addr->Sp->Prop)(hT:∀C sp,T C sp->MOk X C m sp dvs E)(he:PE X o ta)(ha:PA X (e::es) t)
  (hst:ao (e::es) X.env=(false,eval e X.env)::ao es X.env:=by rfl) (hpl:(aL pos (ao es X.env)).any (·.1)=false:=by rfl)
  (ht:eval (.Call (.Attribute o m apos) (e::es) [] pos) X.env=(do
   let ov<-eval o X.env
   standAt apos.atName
   let (f,first)<-holding [ov] (getMethod ov m pl)
   callWith pos f first (aL pos (ao (e::es) X.env)) (backToKw pos (cp [] X.env))):=by rfl):
  PE X (.Call (.Attribute o m apos) (e::es) [] pos) (λσ H Q=>ta σ H λx H1=>∃a C dx fs sp,x=.ref a/\H1 a=some (.ins C dx fs)/\T C sp/\fs.lookup m=none/\t σ H1 λvs H2=>sp (x::(vs++dvs)) H2 Q E):=by
 intro pins s σ H Q I h;refine i9 (pl:=pl) (thn (he pins s σ H _ I h) λu s1 zz=>?_) ht;obtain⟨x,H1,I1,rx,a,C,dx,fs,sp,ex,ea,ht,l,q⟩:=zz;obtain⟨k,f,fd,ps,ds,c,hm,F,hr,hb,hd,hx⟩:=hT C sp ht;subst ex;obtain rfl:u=Value.ref a:=rx;refine uV I1 ea c hm l ?_;refine fg (first:=[.ref a]) (h₀:=X.base) I.ok.mod.kin hm.kp (thn (ha pos pins s1 σ H1 _ I1 q) λus s2 ⟨vs,H2,I2,r,q2⟩=>⟨I2.kIn,?_⟩) hst hpl;exact xy (us:=.ref a::us) (vs:=.ref a::vs) F hr hb hd hx I2 (.cons rfl r) q2
theorem Bw{o:Expr}{m:Str}{pl:Sem Bool}(T:Addr->Sp->Prop)(hT:∀C sp,T C sp->MOk X C m sp dvs E)(he:PE X o ta)
  (ht:eval (.Call (.Attribute o m apos) [] [] pos) X.env=(do
   let ov<-eval o X.env
   standAt apos.atName
   let (f,first)<-holding [ov] (getMethod ov m pl)
   callWith pos f first (aL pos (ao [] X.env)) (backToKw pos (cp [] X.env))):=by rfl):
  PE X (.Call (.Attribute o m apos) [] [] pos) (λσ H Q=>ta σ H λx H1=>∃a C dx fs sp,x=.ref a/\H1 a=some (.ins C dx fs)/\T C sp/\fs.lookup m=none/\sp (x::dvs) H1 Q E):=by
 intro pins s σ H Q I h;refine i9 (pl:=pl) (thn (he pins s σ H _ I h) λu s1 zz=>?_) ht;obtain⟨x,H1,I1,rx,a,C,dx,fs,sp,ex,ea,ht,l,q⟩:=zz;obtain⟨k,f,fd,ps,ds,c,hm,F,hr,hb,hd,hx⟩:=hT C sp ht;subst ex;obtain rfl:u=Value.ref a:=rx;refine uV I1 ea c hm l ?_;exact jr (first:=[.ref a]) I1.kIn hm.kp (xy (us:=[.ref a]) (vs:=[.ref a]) F hr hb hd hx I1 (.cons rfl .nil) q)
def MT(G:Bg)(g:Nat->Option (List D->Option D)):Addr->Sp->Prop:=λC sp=>∃c h,g c=some h/\C=G.ca c/\sp=spF G h
theorem E7{o:Expr}{a:FA}{m:Str}{g:Nat->Option (List D->Option D)}(h:PE X (.Call (.Attribute o m apos) (e::es) [] pos) (λσ H Q=>tF G f σ H λx H1=>∃a' C dx fs sp,x=.ref a'/\H1 a'=some (.ins C dx fs)/\MT G g C sp/\fs.lookup m=none/\tFA G a σ H1 λvs H2=>sp (x::(vs++[])) H2 Q E)):
  PE X (.Call (.Attribute o m apos) (e::es) [] pos) (tF G (n9 g m f a)):=PE.weak h λσ H Q hh=>by
 obtain⟨F,ρ,H0,d,ρ',R,e,k⟩:=hh;obtain⟨c,ns,ds,ρ1,hh,es',e1,e2,e3,e4,e5⟩:=vg e;refine⟨F,ρ,H0,_,ρ1,R,e1,λv H1 H1' s R' r=>?_⟩;have r0:=r;unfold Rep at r;obtain⟨a',dx,xs,rfl,h1,h2,h3⟩:=r;refine⟨a',_,dx,_,_,rfl,R'.sub _ _ h1,⟨c,hh,e2,rfl,rfl⟩,rY e3,F,ρ1,H1,es',ρ',R',e4,λys H2 H2' s2 R2 rs=>?_⟩;show spF G hh (V.ref a'::(ys++[])) H2' Q E;rw[bw];exact⟨H2,_,d,R2.sub,mw (Rep.mono s2 _ _ r0) rs,e5,λv H3 H3' t1 t2 t3 fr rv=>k v H3 H3' (s.trans (s2.trans t1)) (R2.grow t3 t1 t2 fr) rv⟩
theorem CS{o:Expr}{m:Str}{g:Nat->Option (List D->Option D)}(h:PE X (.Call (.Attribute o m apos) [] [] pos) (λσ H Q=>tF G f σ H λx H1=>∃a' C dx fs sp,x=.ref a'/\H1 a'=some (.ins C dx fs)/\MT G g C sp/\fs.lookup m=none/\sp (x::[]) H1 Q E)):
  PE X (.Call (.Attribute o m apos) [] [] pos) (tF G (n9 g m f ml)):=PE.weak h λσ H Q hh=>by
 obtain⟨F,ρ,H0,d,ρ',R,e,k⟩:=hh;obtain⟨c,ns,ds,ρ1,hh,es',e1,e2,e3,e4,e5⟩:=vg e;cases e4;refine⟨F,ρ,H0,_,_,R,e1,λv H1 H1' s R' r=>?_⟩;have r0:=r;unfold Rep at r;obtain⟨a',dx,xs,rfl,h1,h2,h3⟩:=r;refine⟨a',_,dx,_,_,rfl,R'.sub _ _ h1,⟨c,hh,e2,rfl,rfl⟩,rY e3,?_⟩;exact⟨H1,_,d,R'.sub,mw r0 ma,e5,λv H3 H3' t1 t2 t3 fr rv=>k v H3 H3' (s.trans t1) (R'.grow t3 t1 t2 fr) rv⟩
def spI(G:Bg)(c:Nat)(g:List D->Option (List Str×List D)):Sp:=λvs H Q _=>∃(p dx:Addr) (us:List V) (H0:Hp) (ds:List D) (ns:List Str) (es:List D),vs=.ref p::us/\H p=some (.ins (G.ca c) dx [])/\H0 p=none/\lK H0 H/\lG G H0 ds us/\g ds=some (ns,es)/\
 ∀ys dx' H0' H',lK H0 H0'->lK H0' H'->(∀b o,H b=some o->b≠p->H' b=some o)->(∀b o,H0' b=some o->H0 b=some o\/H b=none)->H0' p=none->H' p=some (.ins (G.ca c) dx' (ns.zip ys))->ns.length=ys.length->lG G H0' es ys->Q .non H'
def lY(c:Nat)(g:List D->Option (List Str×List D))(a:FA):FE:=λρ=>match a ρ with
 |some (ds,ρ')=>match g ds with
  |some (ns,es)=>some (.obj c ns es,ρ')
  |none=>none
 |none=>none
theorem E8{g:List D->Option (List Str×List D)}{a:FA}(hd:∀H,lG G H dds dvs)(h:PE X e (Ae (G.ca c) (spI G c g) dvs E (tFA G a))):PE X e (tF G (lY c (λds=>g (ds++dds)) a)):=PE.weak h λσ H Q hh=>by
 obtain⟨F,ρ,H0,d,ρ',R,e,k⟩:=hh;unfold lY at e;rcases lW (f:=a) (ρ:=ρ)with e1|⟨ds,ρ1,e1⟩<;>simp only[e1]at e
 ·cases e
 ·cases e2:g (ds++dds)with
  |none=>simp only[e2]at e;cases e
  |some q=>
   obtain⟨ns,es⟩:=q;simp only[e2]at e;cases e;refine⟨F,ρ,H0,ds,ρ',R,e1,λxs H1 H1' s R' rs x dx hx hdx ne=>?_⟩;have hx2:(upd H1' dx (.own x)) x=none:=by rw[lO (λz=>ne z.symm)];exact hx
   have sx:lK H1' (upd (upd H1' dx (.own x)) x (.ins (G.ca c) dx [])):=(l3 hdx _).trans (l3 hx2 _);refine⟨x,dx,_,H1,ds++dds,ns,es,rfl,lQ,R'.h0none hx,R'.sub.trans sx,mY rs (hd _),e2,λys dx' H2 H2' t1 t2 t3 fr h0 hp hl ry=>⟨rfl,?_⟩⟩;have t4:lK H1' H2':=λb o e=>t3 b o (sx b o e) (mW e hx);have fr1:∀b o,H2 b=some o->H1 b=some o\/H1' b=none:=λb o e=>by
    rcases fr b o e with q|q
    ·exact .inl q
    ·cases z:H1' b with
     |none=>exact .inr rfl
     |some u=>rw[sx b u z]at q;cases q
   have R2:=R'.grow t4 t1 t2 fr1;have hb:F.B x=none:=R'.bNone hx;have R3:=R2.freeze hp h0 hb (λi t ei to z=>R'.apart hx i t ei to z);refine k _ _ _ (s.trans (t1.trans (l3 h0 _))) R3 ?_;unfold Rep;exact⟨x,dx',ys,rfl,lQ,hl,lG.mono (l3 h0 _) _ _ ry⟩
def mn(c0:Nat)(i:Nat)(f:Str)(ff:FE):FS:=λρ=>match ff ρ with
 |some (d,ρ1)=>match ρ1[i]? with
  |some (.ob c ns ds)=>if c=c0 then if ns.contains f=true then none else if ds.length=ns.length then if ns.length<900 then some (.nx (ρ1.set i (.ob c (ns++[f]) (ds++[d]))))else none else none else none
  |_=>none
 |none=>none
theorem yE{f:Str}{v:V}:∀{ns:List Str} {xs:List V},ns.contains f=false->ns.length=xs.length->pZ f v (ns.zip xs)=(ns++[f]).zip (xs++[v])
 |[],[],h,l=>rfl
 |[],x::xs,h,l=>by cases l
 |n::ns,[],h,l=>by cases l
 |n::ns,x::xs,h,l=>by
  rw[iJ,ik]at h;have hn:¬n=f:=λz=>by rw[z]at h;simp at h
  have ih:=yE (f:=f) (v:=v) (ns:=ns) (xs:=xs) h.2 (by simpa using l);show pZ f v ((n,x)::ns.zip xs)=_;rw[show pZ f v ((n,x)::ns.zip xs)=(if n=f then (n,v)::ns.zip xs else (n,x)::pZ f v (ns.zip xs)) from rfl,ah hn,ih];rfl
theorem E9{c0 i:Nat}{f:Str}(h:PS X st (KR X.K (qf i) (tF G ff) f))(hc:Cls X.K (G.ca c0)/\pz X.K (G.ca c0) f):PS X st (tFS G (mn c0 i f ff)):=PS.weak h λE σ H hh=>by
 obtain⟨F,ρ,H0,o,R,e,k,k2⟩:=hh;unfold mn at e;rcases lW (f:=ff) (ρ:=ρ)with e1|⟨d,ρ1,e1⟩<;>simp only[e1]at e
 ·cases e
 ·split at e
  ·rename_i c ns ds e2;split at e
   ·rename_i hcc;subst hcc;split at e
    ·cases e
    rename_i hnc;split at e
    ·rename_i hl;split at e
     ·rename_i h9;cases e;refine⟨F,ρ,H0,d,ρ1,R,e1,λv H1 H1' s R' r=>?_⟩;obtain⟨a,dx,xs,e3,e4,e5,e6,e7,e8⟩:=R'.sl i _ e2;refine⟨_,oo e3,a,_,dx,_,rfl,e4,hc.1,hc.2,by rw[dY];omega,?_⟩;have hnf:ns.contains f=false:=by simpa using hnc
      rw[yE hnf e7];refine k _ _ _ s (R'.mut e2 rfl e3 (λH' hH=>?_) rfl);exact⟨a,dx,xs++[v],rfl,hH,e5,e6,by rw[aC,aC,e7];rfl,mY e8 (mw r ma)⟩
     ·cases e
    ·cases e
   ·cases e
  ·cases e
def stI(c n:Nat)(ds:List D):List Sl:=.ob c [] []::stE (n - 1) ds
def fnI(c np n:Nat)(f:FS):List D->Option (List Str×List D):=λds=>if ds.length=np then match f (stI c n ds)with
 |some (.nx ρ)=>match (ρ:List Sl)[0]? with
  |some (Sl.ob c' ns es)=>if c'=c then if ns.length=es.length then some (ns,es)else none else none
  |_=>none
 |_=>none
 else none
theorem vh{n:Nat}{f:FS}{q:List Str×List D}(h:fnI c np n f ds=some q):ds.length=np/\∃ρ,f (stI c n ds)=some (.nx ρ)/\ρ[0]?=some (.ob c q.1 q.2)/\q.1.length=q.2.length:=by
 unfold fnI at h;split at h
 ·rename_i hl;refine⟨hl,?_⟩;split at h
  ·rename_i ρ e;split at h
   ·rename_i c' ns es e2;split at h
    ·rename_i hc;split at h
     ·rename_i h3;subst hc;cases h;exact⟨ρ,e,e2,h3⟩
     ·cases h
    ·cases h
   ·cases h
  ·cases h
 ·cases h
theorem xN{f:FS}{H:Hp}{Q:VK}(hN:np+1<=N.length)(h:spI G c (fnI c np N.length f) vs H Q E):tFS G f { nx:=λ_ H'=>Q .non H',rt:=Q } (L2.start N vs) H:=by
 obtain⟨p,dx,us,H0,ds,ns,es,rfl,hp,h0,s,r,e,k⟩:=h;obtain⟨hl,ρ,e1,e2,e3⟩:=vh e;have hul:us.length=np:=by rw[<-lI r];exact hl
 have gets:∀{i:Nat} {t:Sl},(stI c N.length ds)[i]?=some t->(i=0/\t=.ob c [] [])\/t=.un\/∃(j:Nat) (d:D),i=j+1/\ds[j]?=some d/\t=.im d:=λ{i t} e=>by
  cases i with
  |zero=>cases e;exact .inl ⟨rfl,rfl⟩
  |succ j=>
   have e':(stE (N.length - 1) ds)[j]?=some t:=e;rcases sD e' with rfl|⟨d,e1,rfl⟩
   ·exact .inr (.inl rfl)
   ·exact .inr (.inr ⟨j,d,rfl,e1,rfl⟩)
 have R:lU G ⟨H0,H,[p]⟩ (L2.start N (.ref p::us)) (stI c N.length ds) H0 H:={
  sub:=s
  g0:=lK.refl _
  keep:=λb o e _=>e
  fr:=λb o e=>.inl e
  am:=λa ha=>by
   have ea:a=p:=by simpa using ha
   subst ea;exact⟨_,hp⟩
  len:=by unfold L2.start stI stE;simp only[aC,aj,bB,aG];have:=lI r;omega
  sl:=λi t e=>by
   rcases gets e with ⟨rfl,rfl⟩|rfl|⟨j,d,rfl,e1,rfl⟩
   ·exact⟨p,dx,[],oE rfl,hp,h0,by simp,rfl,ma⟩
   ·trivial
   ·obtain⟨v,e2,e3⟩:=oP r e1;exact⟨v,oE (by simpa using e2),e3⟩
  ap:=λi j t u a hij ei ej ht hu=>by
   rcases gets ei with ⟨rfl,rfl⟩|rfl|⟨_,_,_,_,rfl⟩
   ·rcases gets ej with ⟨rfl,rfl⟩|rfl|⟨_,_,_,_,rfl⟩
    ·exact aq rfl hij
    ·cases hu
    ·cases hu
   ·cases ht
   ·cases ht }
 refine⟨_,_,H0,_,R,e1,λσ' H0' H' s' R'=>?_,λ_=>rfl⟩;obtain⟨a,dx',ys,q1,q2,q3,q4,q5,q6⟩:=R'.sl 0 _ e2;have ea:a=p:=by simpa using q4
 subst ea;exact k ys dx' H0' H' s' R'.sub (λb o e n=>R'.keep b o e (by simpa using n)) R'.fr q3 q2 q5 q6
end
def Sl.L:Sl->Option (List D)
 |.ls ds=>some ds
 |.pm ds=>some ds
 |_=>none
def Sl.putL:Sl->List D->Sl
 |.pm _,ds=>.pm ds
 |_,ds=>.ls ds
theorem Sl.L_own{s:Sl}(h:s.L=some ds):s.own=true:=by cases s<;>first|rfl|cases h
theorem Sl.putL_L{s:Sl}:(s.putL ds).L=some ds:=by cases s<;>rfl
section
variable{G:Bg}{F:Fr}{σ:St}{ρ:List Sl}{H0 H:Hp}
theorem wc.lst{o:Option V}{s:Sl}{ds:List D}(h:wc G F H0 H o s)(e:s.L=some ds):∃a xs,o=some (.ref a)/\H a=some (.lst xs)/\H0 a=none/\lG G H0 ds xs:=by
 cases s with
 |ls ds'=>cases e;obtain⟨a,xs,h1,h2,h3,h4,h5⟩:=h;exact⟨a,xs,h1,h2,h3,h5⟩
 |pm ds'=>cases e;obtain⟨a,xs,h1,h2,h3,h4,h5⟩:=h;exact⟨a,xs,h1,h2,h3,h5⟩
 |_=>cases e
theorem lU.mutL(R:lU G F σ ρ H0 H){i:Nat}{s:Sl}{ds':List D}{xs':List V}(hi:ρ[i]?=some s)(hs:s.L=some ds)(ha:(σ[i]?).join=some (.ref a))(r:lG G H0 ds' xs'):
  lU G F σ (ρ.set i (s.putL ds')) H0 (upd H a (.lst xs')):=by
 have ok:=R.sl i s hi;rw[ha]at ok;refine R.mut hi (Sl.L_own hs) ha (λH' hH=>?_) (Sl.L_own Sl.putL_L);cases s with
 |ls ds0=>obtain⟨b,xs,h1,h2,h3,h4,h5⟩:=ok;cases h1;exact⟨a,xs',rfl,hH,h3,h4,r⟩
 |pm ds0=>obtain⟨b,xs,h1,h2,h3,h4,h5⟩:=ok;cases h1;exact⟨a,xs',rfl,hH,h3,h4,r⟩
 |_=>cases hs
end
def mT(ρ:List Sl)(i:Nat):Option (List D):=match ρ[i]? with
 |some s=>s.L
 |none=>none
theorem oF{i:Nat}(h:mT ρ i=some ds):∃s,ρ[i]?=some s/\s.L=some ds:=by
 unfold mT at h;cases e:ρ[i]? with
 |none=>rw[e]at h;cases h
 |some s=>rw[e]at h;exact⟨s,rfl,h⟩
def putAt(ρ:List Sl)(i:Nat)(ds:List D):List Sl:=match ρ[i]? with
 |some s=>ρ.set i (s.putL ds)
 |none=>ρ
def rZ(i:Nat)(f:FE):FE:=λρ=>match mT ρ i with
 |some _=>match f ρ with
  |some (d,ρ1)=>match mT ρ1 i with
   |some ds=>if ds.length<1000 then some (.non,putAt ρ1 i (ds++[d]))else none
   |none=>none
  |none=>none
 |none=>none
section
variable{X:Cx}{G:Bg}
theorem nR{H:Hp}(R:lU G F σ ρ H0 H){i:Nat}(h:mT ρ i=some ds):∃a xs,σ[i]?=some (some (.ref a))/\H a=some (.lst xs)/\lG G H0 ds xs/\
  (∀ds' xs',lG G H0 ds' xs'->lU G F σ (putAt ρ i ds') H0 (upd H a (.lst xs'))):=by
 obtain⟨s,e1,e2⟩:=oF h;obtain⟨a,xs,e3,e4,e5,e6⟩:=(R.sl i s e1).lst e2;refine⟨a,xs,oo e3,e4,e6,λds' xs' r=>?_⟩;unfold putAt;rw[e1];exact R.mutL e1 e2 e3 r
theorem By{i:Nat}(h:PE X e (tBM G.K "list" xH (qf i) (tFA G (aCons f ml)))):PE X e (tF G (rZ i f)):=PE.weak h λσ H Q hh=>by
 obtain⟨F,ρ,H0,d,ρ',R,e,k⟩:=hh;unfold rZ at e;cases e0:mT ρ i with
 |none=>simp only[e0]at e;cases e
 |some ds0=>
  simp only[e0]at e;rcases lW (f:=f) (ρ:=ρ)with e1|⟨x,ρ1,e1⟩<;>simp only[e1]at e
  ·cases e
  ·cases e2:mT ρ1 i with
   |none=>simp only[e2]at e;cases e
   |some ds=>
    simp only[e2]at e;split at e
    ·rename_i hl;cases e;obtain⟨a,xs,s1,s2,s3,_⟩:=nR R e0;refine⟨.ref a,s1,.inl ⟨rfl,xs,SqL.of s2⟩,F,ρ,H0,[x],ρ1,R,by unfold aCons;rw[e1];rfl,λys H1 H1' s R' rs=>?_⟩;unfold lG at rs;obtain⟨v,r0,rfl,rv,rn⟩:=rs;unfold lG at rn;subst rn;obtain⟨a',xs',t1,t2,t3,t4⟩:=nR R' e2;rw[s1]at t1;cases t1;exact⟨a,xs',v,rfl,rfl,t2,by rw[<-lI t3];exact rq (by omega),k _ _ _ s (t4 _ _ (mY t3 (mw rv ma))) sC⟩
    ·cases e
def Fb(i:Nat)(f:FA):FE:=λρ=>match mT ρ i with
 |some _=>match f ρ with
  |some (es,ρ1)=>match mT ρ1 i with
   |some ds=>if ds.length+es.length<=1000 then some (.non,putAt ρ1 i (ds++es))else none
   |none=>none
  |none=>none
 |none=>none
theorem BA{i:Nat}{f:FA}(h:PE X e (tBM G.K "list" Am (qf i) (uW (tFN G f) xw))):PE X e (tF G (Fb i f)):=PE.weak h λσ H Q hh=>by
 obtain⟨F,ρ,H0,d,ρ',R,e,k⟩:=hh;unfold Fb at e;cases e0:mT ρ i with
 |none=>simp only[e0]at e;cases e
 |some ds0=>
  simp only[e0]at e;rcases lW (f:=f) (ρ:=ρ)with e1|⟨x,ρ1,e1⟩<;>simp only[e1]at e
  ·cases e
  ·cases e2:mT ρ1 i with
   |none=>simp only[e2]at e;cases e
   |some ds=>
    simp only[e2]at e;split at e
    ·rename_i hl;cases e;obtain⟨a,xs,s1,s2,s3,_⟩:=nR R e0;refine⟨.ref a,s1,.inl ⟨rfl,xs,SqL.of s2⟩,F,ρ,H0,x,ρ1,R,e1,λp ys H1 H1' s R' hp h0 hb ap rs=>?_⟩;obtain⟨a',xs',t1,t2,t3,t4⟩:=nR R' e2;rw[s1]at t1;cases t1;refine⟨a,p,xs',ys,rfl,rfl,t2,hp,?_,k _ _ _ s (t4 _ _ (mY t3 rs)) sC⟩;rw[<-lI t3,<- lI rs];exact oB hl
    ·cases e
def Mn(i:Nat):FE:=λρ=>match mT ρ i with
 |some (d::ds)=>some (d,putAt ρ i ds)
 |_=>none
theorem sE{i:Int}(r:lG G H0 ds xs)(h:atI ds i=some d):∃v,atI xs i=some v/\Rep G H0 d v:=by
 unfold atI at h ⊢;rw[<-lI r];cases e:ixN ds.length i with
 |none=>rw[e]at h;cases h
 |some j=>rw[e]at h;exact oP r h
def vm(i:Nat)(f:FE):FE:=λρ=>match mT ρ i with
 |some _=>match f ρ with
  |some (.int j,ρ1)=>match mT ρ1 i with
   |some ds=>match atI ds j with
    |some d=>some (d,ρ1)
    |none=>none
   |none=>none
  |_=>none
 |none=>none
theorem HQ{i:Nat}(h:PE X e (tOp (Ex G.K) (qf i) (tF G f))):PE X e (tF G (vm i f)):=PE.weak h λσ H Q hh=>by
 obtain⟨F,ρ,H0,d,ρ',R,e,k⟩:=hh;unfold vm at e;cases e9:mT ρ i with
 |none=>simp only[e9]at e;cases e
 |some ds9=>
  simp only[e9]at e;obtain⟨a9,xs9,ev,_⟩:=nR R e9;split at e
  ·rename_i j ρ1 e1;cases e0:mT ρ1 i with
   |none=>simp only[e0]at e;cases e
   |some ds=>
    simp only[e0]at e;cases e2:atI ds j with
    |none=>simp only[e2]at e;cases e
    |some x=>simp only[e2]at e;cases e;refine⟨.ref a9,ev,F,ρ,H0,_,_,R,e1,λu H1 H1' s R' r=>?_⟩;unfold Rep at r;subst r;obtain⟨a,xs,s1,s2,s3,s4⟩:=nR R' e0;rw[ev]at s1;cases s1;obtain⟨w,w1,w2⟩:=sE s3 e2;exact⟨_,xs,j,w,rfl,rfl,SqL.of s2,w1,k _ _ _ s R' w2⟩
  ·cases e
def cFz(i:Nat):FE:=λρ=>match ρ[i]? with
 |some (.ls ds)=>some (.lst ds,ρ.set i (.im (.lst ds)))
 |some (.dk ks ds)=>some (.dic ks ds,ρ.set i (.im (.dic ks ds)))
 |some (.im d)=>some (d,ρ)
 |_=>none
theorem lU.toIm{H:Hp}(R:lU G F σ ρ H0 H){i:Nat}{s:Sl}{o:HO}(hi:ρ[i]?=some s)(hs:(σ[i]?).join=some (.ref p))(so:s.own=true)(hp:H p=some o)(h0:H0 p=none)(hb:F.B p=none)(r:Rep G (upd H0 p o) d (.ref p)):
  lU G F σ (ρ.set i (.im d)) (upd H0 p o) H where
 sub:=λb u e=>by
  by_cases hb:b=p
  ·subst hb;rw[lQ]at e;cases e;exact hp
  ·rw[lO hb]at e;exact R.sub _ _ e
 g0:=R.g0.trans (l3 h0 o)
 keep:=R.keep
 fr:=λb u e=>by
  by_cases hb':b=p
  ·subst hb';exact .inr hb
  ·rw[lO hb']at e;exact R.fr _ _ e
 am:=R.am
 len:=by rw[ck];exact R.len
 sl:=λj t e=>by
  rw[bc]at e;by_cases h:i=j
  ·subst h;rw[ag rfl]at e;split at e
   ·cases e;exact⟨_,hs,r⟩
   ·cases e
  ·rw[ah h]at e;refine(R.sl j t e).grow (l3 h0 o) (λa u _ _ q=>q) λa u z to q q0=>?_;rw[lO (λy=>by subst y;exact R.ap j i t s a (λy=>h y.symm) e hi to so z hs)];exact q0
 ap:=λj k t u b hjk ej ek tj tk vj vk=>by
  have gen:∀{m:Nat} {x:Sl},(ρ.set i (.im d))[m]?=some x->x.own=true->ρ[m]?=some x:=λ{m x} e xo=>by
   rw[bc]at e;by_cases h:i=m
   ·subst h;rw[ag rfl]at e;split at e
    ·cases e;cases xo
    ·cases e
   ·rw[ah h]at e;exact e
  exact R.ap j k t u b hjk (gen ej tj) (gen ek tk) tj tk vj vk
theorem lU.toImD{H:Hp}(R:lU G F σ ρ H0 H){i:Nat}{s:Sl}{o:HO}(hi:ρ[i]?=some s)(hs:(σ[i]?).join=some (.ref p))(so:s.own=true)(h0:H0 p=none)(hb:F.B p=none)(r:Rep G (upd H0 p o) d (.ref p)):
  lU G F σ (ρ.set i (.im d)) (upd H0 p o) (upd H p o) where
 sub:=λb u e=>by
  by_cases hb:b=p
  ·subst hb;rw[lQ]at e ⊢;exact e
  ·rw[lO hb]at e ⊢;exact R.sub _ _ e
 g0:=R.g0.trans (l3 h0 o)
 keep:=λb u e n=>by rw[lO (λz=>by subst z;rw[hb]at e;cases e)];exact R.keep b u e n
 fr:=λb u e=>by
  by_cases hb':b=p
  ·subst hb';exact .inr hb
  ·rw[lO hb']at e;exact R.fr _ _ e
 am:=λb hm=>by
  by_cases hb':b=p
  ·subst hb';exact⟨o,lQ⟩
  ·rw[lO hb'];exact R.am b hm
 len:=by rw[ck];exact R.len
 sl:=λj t e=>by
  rw[bc]at e;by_cases h:i=j
  ·subst h;rw[ag rfl]at e;split at e
   ·cases e;exact⟨_,hs,r⟩
   ·cases e
  ·rw[ah h]at e;refine(R.sl j t e).grow (l3 h0 o) (λa u z to q=>?_) λa u z to q q0=>?_
   ·rw[lO (λy=>by subst y;exact R.ap j i t s a (λy=>h y.symm) e hi to so z hs)];exact q
   ·rw[lO (λy=>by subst y;exact R.ap j i t s a (λy=>h y.symm) e hi to so z hs)];exact q0
 ap:=λj k t u b hjk ej ek tj tk vj vk=>by
  have gen:∀{m:Nat} {x:Sl},(ρ.set i (.im d))[m]?=some x->x.own=true->ρ[m]?=some x:=λ{m x} e xo=>by
   rw[bc]at e;by_cases h:i=m
   ·subst h;rw[ag rfl]at e;split at e
    ·cases e;cases xo
    ·cases e
   ·rw[ah h]at e;exact e
  exact R.ap j k t u b hjk (gen ej tj) (gen ek tk) tj tk vj vk
theorem Le{i:Nat}(h:PE X e (qf i)):PE X e (tF G (cFz i)):=PE.weak (PE.ghost h) λσ H Q hh=>by
 obtain⟨F,ρ,H0,d,ρ',R,e,k⟩:=hh;unfold cFz at e;split at e
 ·rename_i ds e0;cases e;obtain⟨a,xs,h1,h2,h3,h4,h5⟩:=R.sl i _ e0;have rr:Rep G (upd H0 a (.lst xs)) (.lst ds) (.ref a):=qo lQ (lG.mono (l3 h3 _) _ _ h5);exact⟨_,oo h1,.inl (k _ _ _ (l3 h3 _) (R.toIm e0 h1 rfl h2 h3 h4 rr) rr)⟩
 ·rename_i ks ds e0;cases e;obtain⟨a,xs,h1,h2,h3,h4,h5,h6⟩:=R.sl i _ e0;refine⟨_,oo h1,.inr ⟨a,_,h2,λo=>?_⟩⟩;have rr:Rep G (upd H0 a (.frz o (.dK (ks.zip xs)))) (.dic ks ds) (.ref a):=by unfold Rep;exact⟨a,o,xs,rfl,lQ,h5,lG.mono (l3 h3 _) _ _ h6⟩
  exact k _ _ _ (l3 h3 _) (R.toImD e0 h1 rfl h3 h4 rr) rr
 ·rename_i d' e0;cases e;obtain⟨v,e2,e3⟩:=R.sl i _ e0;exact⟨v,oo e2,.inl (k _ _ _ (lK.refl _) R e3)⟩
 ·cases e
def CT(i:Nat):FA:=λρ=>match ρ[i]? with
 |some (.ls ds)=>some (ds,ρ.set i .un)
 |_=>none
theorem Fc{i:Nat}(h:PE X e (qf i)):PE X e (tFN G (CT i)):=PE.weak h λσ H Q hh=>by
 obtain⟨F,ρ,H0,d,ρ',R,e,k⟩:=hh;unfold CT at e;split at e
 ·rename_i ds e0;cases e;obtain⟨a,xs,h1,h2,h3,h4,h5⟩:=R.sl i _ e0;have gen:∀{m:Nat} {x:Sl},(ρ.set i .un)[m]?=some x->x.own=true->m≠i/\ρ[m]?=some x:=λ{m x} e xo=>by
   rw[bc]at e;by_cases h:i=m
   ·subst h;rw[ag rfl]at e;split at e
    ·cases e;cases xo
    ·cases e
   ·rw[ah h]at e;exact⟨λz=>h z.symm,e⟩
  have R':lU G F σ (ρ.set i .un) H0 H:={
   sub:=R.sub,g0:=R.g0,keep:=R.keep,fr:=R.fr,am:=R.am
   len:=by rw[ck];exact R.len
   sl:=λj t e=>by
    rw[bc]at e;by_cases h:i=j
    ·subst h;rw[ag rfl]at e;split at e
     ·cases e;trivial
     ·cases e
    ·rw[ah h]at e;exact R.sl j t e
   ap:=λj k t u b hjk ej ek tj tk vj vk=>R.ap j k t u b hjk (gen ej tj).2 (gen ek tk).2 tj tk vj vk }
  refine⟨_,oo h1,k a xs _ _ (lK.refl _) R' h2 h3 h4 (λj t ej to z=>?_) h5⟩;obtain⟨nj,ej'⟩:=gen ej to;exact R.ap j i t _ a nj ej' e0 to rfl z h1
 ·cases e
end
def spM(G:Bg)(g:List D->List D->Option (D×List D)):Sp:=λvs H Q _=>∃(a:Addr) (us xs:List V) (H0:Hp) (es ds:List D) (d:D) (es':List D),vs=.ref a::us/\H a=some (.lst xs)/\H0 a=none/\lK H0 H/\lG G H0 es xs/\lG G H0 ds us/\g es ds=some (d,es')/\
 ∀v xs' H0' H',lK H0 H0'->lK H0' H'->(∀b o,H b=some o->b≠a->H' b=some o)->(∀b o,H0' b=some o->H0 b=some o\/H b=none)->H0' a=none->H' a=some (.lst xs')->lG G H0' es' xs'->Rep G H0' d v->Q v H'
def stM(n:Nat)(es ds:List D):List Sl:=.pm es::stE (n - 1) ds
def sF(ρ:List Sl):Option (List D):=match ρ with
 |.pm es::_=>some es
 |_=>none
def fnM(np n:Nat)(f:FS):List D->List D->Option (D×List D):=λes ds=>if ds.length=np then match f (stM n es ds)with
 |some (.rt d ρ)=>match sF ρ with
  |some es'=>some (d,es')
  |none=>none
 |some (.rn xs ρ)=>match sF ρ with
  |some es'=>some (.lst xs,es')
  |none=>none
 |_=>none
 else none
theorem vn{es:List D}(h:sF ρ=some es):ρ[0]?=some (.pm es):=by
 unfold sF at h;split at h
 ·cases h;rfl
 ·cases h
variable{es':List D}
theorem yF{n:Nat}{f:FS}{es:List D}(h:fnM np n f es ds=some (d,es')):ds.length=np/\((∃ρ,f (stM n es ds)=some (.rt d ρ)/\ρ[0]?=some (.pm es'))\/∃xs ρ,f (stM n es ds)=some (.rn xs ρ)/\ρ[0]?=some (.pm es')/\d=.lst xs):=by
 unfold fnM at h;split at h
 ·rename_i hl;refine⟨hl,?_⟩;split at h
  ·rename_i x ρ e;cases e2:sF ρ with
   |none=>simp only[e2]at h;cases h
   |some q=>simp only[e2]at h;cases h;exact .inl ⟨ρ,e,vn e2⟩
  ·rename_i x ρ e;cases e2:sF ρ with
   |none=>simp only[e2]at h;cases h
   |some q=>simp only[e2]at h;cases h;exact .inr ⟨x,ρ,e,vn e2,rfl⟩
  ·cases h
 ·cases h
variable{b:FS}
section
variable{X:Cx}{G:Bg}
theorem Fd{f:FS}{H:Hp}{Q:VK}(hN:np+1<=N.length)(h:spM G (fnM np N.length f) vs H Q E):tFS G f { nx:=λ_ H'=>Q .non H',rt:=Q } (L2.start N vs) H:=by
 obtain⟨a,us,xs,H0,es,ds,d,es',rfl,ha,h0,s,r1,r,e,k⟩:=h;obtain⟨hl,e1⟩:=yF e;have hul:us.length=np:=by rw[<-lI r];exact hl
 have gets:∀{i:Nat} {t:Sl},(stM N.length es ds)[i]?=some t->(i=0/\t=.pm es)\/t=.un\/∃(j:Nat) (d:D),i=j+1/\ds[j]?=some d/\t=.im d:=λ{i t} e=>by
  cases i with
  |zero=>cases e;exact .inl ⟨rfl,rfl⟩
  |succ j=>
   have e':(stE (N.length - 1) ds)[j]?=some t:=e;rcases sD e' with rfl|⟨d,e1,rfl⟩
   ·exact .inr (.inl rfl)
   ·exact .inr (.inr ⟨j,d,rfl,e1,rfl⟩)
 have R:lU G ⟨H0,H,[a]⟩ (L2.start N (.ref a::us)) (stM N.length es ds) H0 H:={
  sub:=s
  g0:=lK.refl _
  keep:=λb o e _=>e
  fr:=λb o e=>.inl e
  am:=λb hb=>by
   have eb:b=a:=by simpa using hb
   subst eb;exact⟨_,ha⟩
  len:=by unfold L2.start stM stE;simp only[aC,aj,bB,aG];have:=lI r;omega
  sl:=λi t e=>by
   rcases gets e with ⟨rfl,rfl⟩|rfl|⟨j,d,rfl,e1,rfl⟩
   ·exact⟨a,xs,oE rfl,ha,h0,by simp,r1⟩
   ·trivial
   ·obtain⟨v,e2,e3⟩:=oP r e1;exact⟨v,oE (by simpa using e2),e3⟩
  ap:=λi j t u b hij ei ej ht hu=>by
   rcases gets ei with ⟨rfl,rfl⟩|rfl|⟨_,_,_,_,rfl⟩
   ·rcases gets ej with ⟨rfl,rfl⟩|rfl|⟨_,_,_,_,rfl⟩
    ·exact aq rfl hij
    ·cases hu
    ·cases hu
   ·cases ht
   ·cases ht }
 have fin:∀{v:V} {σ':St} {ρ':List Sl} {H0' H':Hp},lK H0 H0'->lU G ⟨H0,H,[a]⟩ σ' ρ' H0' H'->ρ'[0]?=some (.pm es')->Rep G H0' d v->Q v H':=λs' R' e2 rv=>by
  obtain⟨a',ys,q1,q2,q3,q4,q5⟩:=R'.sl 0 _ e2;have ea:a'=a:=by simpa using q4
  subst ea;exact k _ ys _ _ s' R'.sub (λb o e n=>R'.keep b o e (by simpa using n)) R'.fr q3 q2 q5 rv
 rcases e1 with ⟨ρ,e1,e2⟩|⟨zs,ρ,e1,e2,rfl⟩
 ·exact⟨_,_,H0,_,R,e1,λv σ' H0' H' s' R' rv=>fin s' R' e2 rv,λ_=>rfl⟩
 ·refine⟨_,_,H0,_,R,e1,λp ys σ' H0' H' s' R' hp hp0 hb ap rs=>?_,λ_=>rfl⟩;exact fin (s'.trans (l3 hp0 _)) (R'.freeze hp hp0 hb ap) e2 (qo lQ (lG.mono (l3 hp0 _) _ _ rs))
theorem Lf{g:List D->List D->Option (D×List D)}(hg:∀es ds d,g es ds=some d->ds.length=np):∀vs H Q E,spM G g vs H Q E->vs.length=np+1:=λvs H Q E h=>by obtain⟨a,us,xs,H0,es,ds,d,es',rfl,_,_,_,_,r,e,_⟩:=h;rw[aG,<- lI r,hg _ _ _ e]
theorem Fe{n:Nat}{f:FS}:∀es ds d,fnM np n f es ds=some d->ds.length=np:=λ_ _ d h=>(yF (d:=d.1) (es':=d.2) h).1
theorem lU.call1{H:Hp}(R:lU G F σ ρ H0 H){i:Nat}{s:Sl}{es:List D}{b:Addr}{zs:List V}(hi:ρ[i]?=some s)(hs:s.L=some es)(hb:(σ[i]?).join=some (.ref b))
  (s1:lK H0 H0') (s2:lK H0' H') (s3:∀c o,H c=some o->c≠b->H' c=some o) (fr:∀c o,H0' c=some o->H0 c=some o\/H c=none) (h0:H0' b=none) (hz:H' b=some (.lst zs)) (r:lG G H0' es' zs):
  lU G F σ (ρ.set i (s.putL es')) H0' H':=by
 have so:=Sl.L_own hs;obtain⟨b',u,e1,e2,e3,e4⟩:=(R.sl i s hi).at so;rw[hb]at e1;cases e1;exact {
  sub:=s2
  g0:=R.g0.trans s1
  keep:=λc o e n=>by
   refine s3 c o (R.keep c o e n) λz=>?_;subst z;rcases e4 with q|q
   ·rw[q]at e;cases e
   ·exact n q
  fr:=λc o e=>by
   rcases fr c o e with q|q
   ·exact R.fr c o q
   ·exact .inr (R.bNone q)
  am:=λc hc=>by
   by_cases z:c=b
   ·subst z;exact⟨_,hz⟩
   ·obtain⟨o,q⟩:=R.am c hc;exact⟨o,s3 c o q z⟩
  len:=by rw[ck];exact R.len
  sl:=λj t e=>by
   rw[bc]at e;by_cases h:i=j
   ·subst h;rw[ag rfl]at e;split at e
    ·cases e;rw[hb];have ok:=R.sl i s hi;rw[hb]at ok;cases s with
     |ls ds0=>obtain⟨c,xs,h1,h2,h3,h4,h5⟩:=ok;cases h1;exact⟨b,zs,rfl,hz,h0,h4,r⟩
     |pm ds0=>obtain⟨c,xs,h1,h2,h3,h4,h5⟩:=ok;cases h1;exact⟨b,zs,rfl,hz,h0,h4,r⟩
     |_=>cases hs
    ·cases e
   ·rw[ah h]at e;refine(R.sl j t e).grow s1 (λc w z to q=>s3 c w q λy=>?_) λc w z to q q0=>?_
    ·subst y;exact R.ap j i t s c (λy=>h y.symm) e hi to so z hb
    ·cases y:H0' c with
     |none=>rfl
     |some o=>
      rcases fr c o y with x|x
      ·rw[x]at q0;cases q0
      ·rw[x]at q;cases q
  ap:=λj k t u c hjk ej ek tj tk vj vk=>by
   have gen:∀{m:Nat} {x:Sl},(ρ.set i (s.putL es'))[m]?=some x->∃y,ρ[m]?=some y/\(x.own=true->y.own=true):=λ{m x} e=>by
    rw[bc]at e;by_cases h:i=m
    ·subst h;exact⟨s,hi,λ_=>so⟩
    ·rw[ah h]at e;exact⟨x,e,λq=>q⟩
   obtain⟨y,ey,oy⟩:=gen ej;obtain⟨z,ez,oz⟩:=gen ek;exact R.ap j k y z c hjk ey ez (oy tj) (oz tk) vj vk }
def qM(g:List D->List D->Option (D×List D))(i:Nat)(a:FA):FE:=λρ=>match mT ρ i with
 |some _=>match a ρ with
  |some (ds,ρ1)=>match mT ρ1 i with
   |some es=>match g es ds with
    |some (d,es')=>some (d,putAt ρ1 i es')
    |none=>none
   |none=>none
  |none=>none
 |none=>none
theorem HR{g:List D->List D->Option (D×List D)}{i:Nat}{a:FA}(h:PE X e (qO (spM G g) [] E (uW (qf i) (tFA G a)))):PE X e (tF G (qM g i a)):=PE.weak h λσ H Q hh=>by
 obtain⟨F,ρ,H0,d,ρ',R,e,k⟩:=hh;unfold qM at e;cases e0:mT ρ i with
 |none=>simp only[e0]at e;cases e
 |some ds0=>
  simp only[e0]at e;rcases lW (f:=a) (ρ:=ρ)with e1|⟨ds,ρ1,e1⟩<;>simp only[e1]at e
  ·cases e
  ·cases e2:mT ρ1 i with
   |none=>simp only[e2]at e;cases e
   |some es=>
    simp only[e2]at e;cases e3:g es ds with
    |none=>simp only[e3]at e;cases e
    |some q=>
     obtain⟨d1,es'⟩:=q;simp only[e3]at e;cases e;obtain⟨b,xs,s1,s2,s3,_⟩:=nR R e0;refine⟨.ref b,s1,F,ρ,H0,ds,ρ1,R,e1,λys H1 H1' s R' rs=>?_⟩;obtain⟨s,es0,es1⟩:=oF e2;obtain⟨b',xs',t1,t2,t3,t4⟩:=(R'.sl i s es0).lst es1;rw[oo t1]at s1;cases s1;refine⟨b,ys,xs',H1,es,ds,d,es',?_,t2,t3,R'.sub,t4,rs,e3,λv zs H2 H2' u1 u2 u3 fr w0 w1 w2 w3=>?_⟩
     ·show V.ref b::ys++[]=_;rw[bw]
     ·refine k _ _ _ (lK.trans ‹lK H0 H1› u1) ?_ w3;unfold putAt;rw[es0];exact R'.call1 es0 es1 t1 u1 u2 u3 fr w0 w1 w2
def Walk(G:Bg)(J:It)(ds:List D)(H0:Hp):Prop:=∀(i:Nat) (H1 H1':Hp),lK H0 H1->lK H1 H1'->
 (∀d,ds[i]?=some d->J.go i H1'/\∀x H2',J.yld i H1' x H2'->∃H2,lK H1 H2/\lK H2 H2'/\lK H1' H2'/\(∀b o,H2 b=some o->H1 b=some o\/H1' b=none)/\Rep G H2 d x)/\(i=ds.length->J.stop i H1')
def tFI(G:Bg)(f:FA):TI:=λσ H R=>∃F ρ H0 ds ρ',lU G F σ ρ H0 H/\f ρ=some (ds,ρ')/\∀J H0' H',lK H0 H0'->lU G F σ ρ' H0' H'->Walk G J ds H0'->R J H'
theorem PI.weak{t t':TI}(h:PI X tg e t)(w:∀σ H R,t' σ H R->t σ H R):PI X tg e t':=λpins s σ H R I hq=>h pins s σ H R I (w _ _ _ hq)
theorem vo(h:SqL G.K H0 a xs)(r:lG G H0 ds xs):Walk G (Itl G.K a) ds H0:=λi H1 H1' s s'=>by have h1:SqL G.K H1' a xs:=(s.trans s').seq h;refine⟨λd e=>?_,λhl=>⟨xs,h1,by rw[<-lI r,hl];exact aE _⟩⟩;obtain⟨v,e1,e2⟩:=oP r e;refine⟨⟨xs,v,h1,e1⟩,λx H2' y=>?_⟩;obtain⟨e3,e4⟩:=y;have e5:=e4 xs h1;rw[e1]at e5;cases e5;subst e3;exact⟨H1,lK.refl _,s',lK.refl _,λb o e=>.inl e,Rep.mono s _ _ e2⟩
theorem CU(h:SqT G.K H0 a xs)(r:lG G H0 ds xs):Walk G (Itt G.K a) ds H0:=λi H1 H1' s s'=>by have h1:SqT G.K H1' a xs:=SqT.mono (s.trans s') h;refine⟨λd e=>?_,λhl=>⟨xs,h1,by rw[<-lI r,hl];exact aE _⟩⟩;obtain⟨v,e1,e2⟩:=oP r e;refine⟨⟨xs,v,h1,e1⟩,λx H2' y=>?_⟩;obtain⟨e3,e4⟩:=y;have e5:=e4 xs h1;rw[e1]at e5;cases e5;subst e3;exact⟨H1,lK.refl _,s',lK.refl _,λb o e=>.inl e,Rep.mono s _ _ e2⟩
def iL(f:FE):FA:=λρ=>match f ρ with
 |some (.lst ds,ρ')=>some (ds,ρ')
 |some (.fzl ds,ρ')=>some (ds,ρ')
 |_=>none
def iT(f:FE):FA:=λρ=>match f ρ with
 |some (.tup ds,ρ')=>some (ds,ρ')
 |_=>none
theorem yG(h:PI X tg e (B9 G.K (tF G f))):PI X tg e (tFI G (iL f)):=PI.weak h λσ H R hh=>by
 obtain⟨F,ρ,H0,ds,ρ',R,e,k⟩:=hh;unfold iL at e;split at e
 ·rename_i ds' ρ1 e1;cases e;refine⟨F,ρ,H0,_,_,R,e1,λv H1 H1' s R' r=>?_⟩;unfold Rep at r;obtain⟨a,xs,rfl,r1,r2⟩:=r;exact⟨a,rfl,⟨xs,R'.sub.seq (SqL.of r1)⟩,k _ _ _ s R' (vo (SqL.of r1) r2)⟩
 ·rename_i ds' ρ1 e1;cases e;refine⟨F,ρ,H0,_,_,R,e1,λv H1 H1' s R' r=>?_⟩;unfold Rep at r;obtain⟨a,xs,rfl,r1,r2⟩:=r;exact⟨a,rfl,⟨xs,R'.sub.seq r1⟩,k _ _ _ s R' (vo r1 r2)⟩
 ·cases e
theorem Fg(h:PI X tg e (G5 G.K (tF G f))):PI X tg e (tFI G (iT f)):=PI.weak h λσ H R hh=>by
 obtain⟨F,ρ,H0,ds,ρ',R,e,k⟩:=hh;unfold iT at e;split at e
 ·rename_i ds' ρ1 e1;cases e;refine⟨F,ρ,H0,_,_,R,e1,λv H1 H1' s R' r=>?_⟩;unfold Rep at r;obtain⟨a,xs,rfl,r1,r2⟩:=r;exact⟨a,rfl,⟨xs,SqT.mono R'.sub r1⟩,k _ _ _ s R' (CU r1 r2)⟩
 ·cases e
def rE(lo:Int)(n:Nat):List D:=(bb n).map λ(i:Nat)=>D.int (lo+(i:Int))
theorem yH{lo:Int}{n:Nat}:Walk G (Itr lo n) (rE lo n) H0:=λi H1 H1' s s'=>by
 refine⟨λd e=>?_,λhl=>by show n<=i;rw[hl];simp[rE]⟩;unfold rE at e;rw[aS]at e;by_cases hi:i<n
 ·rw[iw hi]at e;cases e;refine⟨hi,λx H2' y=>?_⟩;obtain⟨e3,rfl⟩:=y;subst e3;exact⟨H1,lK.refl _,s',lK.refl _,λb o e=>.inl e,m5 _⟩
 ·rw[eG (by simpa using hi)]at e;cases e
def iR1(f:FE):FA:=λρ=>match f ρ with
 |some (.int n,ρ')=>if -1000000<=n/\n<=1000000 then some (rE 0 n.toNat,ρ')else none
 |_=>none
theorem zC(h:PI X tg e (Ge (tFA G (aCons f ml)))):PI X tg e (tFI G (iR1 f)):=PI.weak h λσ H R hh=>by
 obtain⟨F,ρ,H0,ds,ρ',R,e,k⟩:=hh;unfold iR1 at e;split at e
 ·rename_i n ρ1 e1;split at e
  ·rename_i hn;cases e;refine⟨F,ρ,H0,[.int n],_,R,by unfold aCons;rw[e1];rfl,λxs H1 H1' s R' rs=>?_⟩;unfold lG at rs;obtain⟨v,r0,rfl,rv,rn⟩:=rs;unfold lG at rn;unfold Rep at rv;subst rn rv;exact⟨n,rfl,by omega,by omega,k _ _ _ s R' yH⟩
  ·cases e
 ·cases e
def forL(g:FG)(b:FS):List D->FS
 |[],ρ=>some (.nx ρ)
 |d::r,ρ=>match g d ρ with
  |none=>none
  |some ρ1=>match b ρ1 with
   |some (.nx ρ2)=>forL g b r ρ2
   |some (.ct ρ2)=>forL g b r ρ2
   |some (.bk ρ2)=>some (.nx ρ2)
   |some (.rt d ρ2)=>some (.rt d ρ2)
   |some (.rn d ρ2)=>some (.rn d ρ2)
   |none=>none
def qT(s:FA)(g:FG)(b:FS):FS:=λρ=>match s ρ with
 |some (ds,ρ')=>forL g b ds ρ'
 |none=>none
theorem Fh{n:Nat}{s:FA}{g:FG}(h:PS X st (G7 (tFI G s) (tFG G n g) (tFS G b))):PS X st (tFS G (qT s g b)):=PS.weak h λE σ H hh=>by
 obtain⟨F,ρ,H0,o,R,e,k,k2⟩:=hh;unfold qT at e;rcases lW (f:=s) (ρ:=ρ)with e1|⟨ds,ρ1,e1⟩<;>simp only[e1]at e
 ·cases e
 ·refine⟨F,ρ,H0,ds,ρ1,R,e1,λJ H1 H1' s1 R1 wk=>?_⟩;refine⟨λi m σ H=>m=ds.length - i/\i<=ds.length/\∃ρi Hi,lK H1 Hi/\lU G F σ ρi Hi H/\forL g b (ds.drop i) ρi=some o,⟨_,rfl,cI _,ρ1,H1,lK.refl _,R1,e⟩,?_⟩;rintro i m σi Hi' ⟨rfl,hi,ρi,Hi,si,Ri,ei⟩;by_cases hlt:i<ds.length
  ·have ed:ds.drop i=ds[i]::ds.drop (i+1):=fG hlt;rw[ed]at ei;unfold forL at ei;obtain⟨go,yl⟩:=(wk i Hi Hi' si Ri.sub).1 ds[i] (aR hlt);refine .inr ⟨go,λσ' H'=>∃ρi Hi,lK H1 Hi/\lU G F σ' ρi Hi H'/\forL g b (ds.drop (i+1)) ρi=some o,λσ' H' q=>⟨ds.length - (i+1),by omega,rfl,hlt,q⟩,λx H' y=>?_⟩;obtain⟨H2,t1,t2,t3,t4,t5⟩:=yl x H' y;have R2:=Ri.grow t3 t1 t2 t4;cases e2:g ds[i] ρi with
   |none=>simp only[e2]at ei;cases ei
   |some ρ2=>
    simp only[e2]at ei;refine⟨F,ρi,H2,_,ρ2,R2,t5,e2,λσ3 _ R3=>?_⟩;have kk:=k.back (s1.trans (si.trans t1));cases e3:b ρ2 with
    |none=>simp only[e3]at ei;cases ei
    |some q=>
     refine⟨F,ρ2,H2,q,R3,e3,?_,λ_=>rfl⟩;cases q with
     |nx ρ3=>simp only[e3]at ei;exact λσ' H0' H' s' R'=>⟨ρ3,H0',si.trans (t1.trans s'),R',ei⟩
     |ct ρ3=>simp only[e3]at ei;exact λσ' H0' H' s' R'=>⟨ρ3,H0',si.trans (t1.trans s'),R',ei⟩
     |bk ρ3=>simp only[e3]at ei;cases ei;exact kk
     |rt d ρ3=>simp only[e3]at ei;cases ei;exact kk
     |rn d ρ3=>simp only[e3]at ei;cases ei;exact kk
  ·have ez:ds.drop i=[]:=hU (by omega);rw[ez]at ei;unfold forL at ei;cases ei;exact .inl ⟨(wk i Hi Hi' si Ri.sub).2 (by omega),k _ _ _ (s1.trans si) Ri⟩
end
def Sl.cap:Sl->Sl
 |.im d=>.im d
 |.ls ds=>.pm ds
 |.pm ds=>.pm ds
 |_=>.un
def uD(k:Nat)(cap:List Nat)(ρ:List Sl):List Sl:=eV k .un++cap.map λj=>((ρ[j]?).getD .un).cap
def ox:List Nat->List Sl->List Sl->Option (List Sl)
 |[],_,ρ=>some ρ
 |j::cap,t::ts,ρ=>match mT ρ j with
  |some _=>match t with
   |.pm ds=>ox cap ts (putAt ρ j ds)
   |_=>none
  |none=>ox cap ts ρ
 |_::_,[],_=>none
def qU(k:Nat)(cap:List Nat)(g:FG)(ft:FT)(fe:FE):List D->List Sl->Option (List D×List Sl)
 |[],ρ=>some ([],ρ)
 |d::r,ρ=>match g d (uD k cap ρ)with
  |none=>none
  |some ρ1=>match ft ρ1 with
   |some (true,ρ2)=>match fe ρ2 with
    |some (x,ρ3)=>match ox cap (ρ3.drop k) ρ with
     |some ρ'=>match qU k cap g ft fe r ρ' with
      |some (xs,ρ'')=>some (x::xs,ρ'')
      |none=>none
     |none=>none
    |none=>none
   |some (false,ρ2)=>match ox cap (ρ2.drop k) ρ with
    |some ρ'=>qU k cap g ft fe r ρ'
    |none=>none
   |none=>none
def lX(k:Nat)(cap:List Nat)(s:FA)(g:FG)(ft:FT)(fe:FE):FA:=λρ=>match s ρ with
 |some (ds,ρ')=>if ds.length<=1000 then qU k cap g ft fe ds ρ' else none
 |none=>none
def mI:FT:=λρ=>some (true,ρ)
theorem qq:∀{cap:List Nat} {ts ρ ρ':List Sl},ox cap ts ρ=some ρ'->ρ'.length=ρ.length/\
  (∀(j:Nat) (s':Sl),ρ'[j]?=some s'->∃s,ρ[j]?=some s/\((s'=s/\(s.L≠none->j∉cap))\/∃(m:Nat) (ds ds0:List D),cap[m]?=some j/\ts[m]?=some (Sl.pm ds)/\s.L=some ds0/\s'=s.putL ds))
 |[],ts,ρ,ρ',h=>by cases h;exact⟨rfl,λj s' e=>⟨s',e,.inl ⟨rfl,λ_ z=>by cases z⟩⟩⟩
 |j0::cap,[],ρ,ρ',h=>by cases h
 |j0::cap,t::ts,ρ,ρ',h=>by
  unfold ox at h;cases e0:mT ρ j0 with
  |none=>
   simp only[e0]at h;obtain⟨h1,h2⟩:=qq h;refine⟨h1,λj s' e=>?_⟩;obtain⟨s,e1,q⟩:=h2 j s' e;refine⟨s,e1,?_⟩;rcases q with ⟨rfl,q⟩|⟨m,ds,ds0,q1,q2,q3,q4⟩
   ·refine .inl ⟨rfl,λz y=>?_⟩;rcases aT.mp y with y|y
    ·subst y;unfold mT at e0;rw[e1]at e0;exact z e0
    ·exact q z y
   ·exact .inr ⟨m+1,ds,ds0,q1,q2,q3,q4⟩
  |some ds1=>
   simp only[e0]at h;cases t with
   |pm ds=>
    simp only at h;obtain⟨s0,e1,e2⟩:=oF e0;unfold putAt at h;rw[e1]at h;simp only at h;obtain⟨h1,h2⟩:=qq h;refine⟨by rw[h1,ck],λj s' e=>?_⟩;obtain⟨s,e3,q⟩:=h2 j s' e;by_cases hj:j0=j
    ·subst hj;rw[bc,ag rfl]at e3;split at e3
     ·cases e3;refine⟨s0,e1,.inr ?_⟩;rcases q with ⟨rfl,q⟩|⟨m,ds',ds0,q1,q2,q3,q4⟩
      ·exact⟨0,ds,ds1,rfl,rfl,e2,rfl⟩
      ·refine⟨m+1,ds',ds1,q1,q2,e2,?_⟩;rw[q4];cases s0<;>rfl
     ·cases e3
    ·rw[bc,ah hj]at e3;refine⟨s,e3,?_⟩;rcases q with ⟨rfl,q⟩|⟨m,ds',ds0,q1,q2,q3,q4⟩
     ·refine .inl ⟨rfl,λz y=>?_⟩;rcases aT.mp y with y|y
      ·exact hj y.symm
      ·exact q z y
     ·exact .inr ⟨m+1,ds',ds0,q1,q2,q3,q4⟩
   |_=>cases h
def we(cap:List Nat)(σ:St)(ρ:List Sl):List Addr:=cap.filterMap λj=>match mT ρ j,(σ[j]?).join with
 |some _,some (.ref a)=>some a
 |_,_=>none
theorem qV{cap:List Nat}:a∈we cap σ ρ ↔ ∃j∈cap,(∃ds,mT ρ j=some ds)/\(σ[j]?).join=some (.ref a):=by
 unfold we;rw[eJ];constructor
 ·rintro⟨j,hj,e⟩;refine⟨j,hj,?_⟩;split at e
  ·rename_i ds a' e1 e2;cases e;exact⟨⟨ds,e1⟩,e2⟩
  ·cases e
 ·rintro⟨j,hj,⟨ds,e1⟩,e2⟩;refine⟨j,hj,?_⟩;rw[e1,e2]
variable{H1':Hp}{ft:FT}{fe:FE}
section
variable{X:Cx}{G:Bg}{F:Fr}{σ:St}{ρ:List Sl}{H0 H:Hp}
theorem vp{k:Nat}{cap:List Nat}{i:Nat}{s:Sl}(h:(uD k cap ρ)[i]?=some s):s=.un\/∃m j,i=k+m/\cap[m]?=some j/\s=((ρ[j]?).getD .un).cap:=by
 unfold uD at h;by_cases hi:i<k
 ·rw[cP (by simpa using hi),eE,ag hi]at h;cases h;exact .inl rfl
 ·rw[cO (by simpa using i4 hi),bB,aS]at h;cases e:cap[i - k]? with
  |none=>rw[e]at h;cases h
  |some j=>rw[e]at h;cases h;exact .inr ⟨i - k,j,by omega,e,rfl⟩
theorem sG{k:Nat}{cap:List Nat}{m:Nat}(h:cap[m]?=some j):((oj k cap σ)[k+m]?).join=(σ[j]?).join:=by unfold oj;rw[cO (by simp),bB,show k+m - k=m by omega,aS,h];rfl
theorem lU.cap(R:lU G F σ ρ H0 H)(k:Nat)(cap:List Nat)(nd:cap.Nodup):lU G ⟨H0,H,we cap σ ρ⟩ (oj k cap σ) (uD k cap ρ) H0 H where
 sub:=R.sub
 g0:=lK.refl _
 keep:=λb o e _=>e
 fr:=λb o e=>.inl e
 am:=λa ha=>by obtain⟨j,hj,⟨ds,e1⟩,e2⟩:=qV.mp ha;obtain⟨s,e3,e4⟩:=oF e1;obtain⟨a',xs,h1,h2,_⟩:=(R.sl j s e3).lst e4;rw[e2]at h1;cases h1;exact⟨_,h2⟩
 len:=by unfold oj uD;rw[aC,aC,bB,bB,aj,aj]
 sl:=λi s e=>by
  rcases vp e with rfl|⟨m,j,rfl,e1,rfl⟩
  ·trivial
  ·rw[sG e1];cases e2:ρ[j]? with
   |none=>trivial
   |some s=>
    have ok:=R.sl j s e2;have mem:∀{a:Addr} {ds:List D},s.L=some ds->(σ[j]?).join=some (.ref a)->a∈we cap σ ρ:=λh1 h2=>qV.mpr ⟨j,bC e1,⟨_,by unfold mT;rw[e2];exact h1⟩,h2⟩;cases s with
    |un=>trivial
    |im d=>exact ok
    |ls ds=>obtain⟨a,xs,h1,h2,h3,h4,h5⟩:=ok;exact⟨a,xs,h1,h2,h3,mem rfl h1,h5⟩
    |pm ds=>obtain⟨a,xs,h1,h2,h3,h4,h5⟩:=ok;exact⟨a,xs,h1,h2,h3,mem rfl h1,h5⟩
    |dk ks ds=>trivial
    |ob c ns ds=>trivial
 ap:=λi i' s t a hii e e' so to v v'=>by
  rcases vp e with rfl|⟨m,j,rfl,e1,rfl⟩
  ·cases so
  rcases vp e' with rfl|⟨m',j',rfl,e1',rfl⟩
  ·cases to
  rw[sG e1]at v;rw[sG e1']at v';have own:∀{j:Nat},(((ρ[j]?).getD Sl.un).cap).own=true->∃s,ρ[j]?=some s/\s.own=true:=λ{j} h=>by
   cases z:ρ[j]? with
   |none=>rw[z]at h;cases h
   |some s=>rw[z]at h;refine⟨s,rfl,?_⟩;cases s<;>first|rfl|cases h
  obtain⟨s,z,zo⟩:=own so;obtain⟨s',z',zo'⟩:=own to;by_cases hj:j=j'
  ·subst hj;have:m=m':=(List.getElem?_inj (bq.mp e1).1 nd).mp (e1.trans e1'.symm);exact hii (by rw[this])
  ·exact R.ap j j' s s' a hj z z' zo zo' v v'
theorem lU.uncap(R:lU G F σ ρ H0 H){k:Nat}{cap:List Nat}{σ4:St}{ρ4:List Sl}(R4:lU G ⟨H0,H,we cap σ ρ⟩ σ4 ρ4 H1 H1')(hd:σ4.drop k=(oj k cap σ).drop k)(hu:ox cap (ρ4.drop k) ρ=some ρ'):lU G F σ ρ' H1 H1':=by
 obtain⟨hl,hc⟩:=qq hu;have at4:∀{m j:Nat},cap[m]?=some j->(σ4[k+m]?).join=(σ[j]?).join:=λ{m j} e=>by
  have q:(σ4.drop k)[m]?=((oj k cap σ).drop k)[m]?:=by rw[hd]
  rw[cz,cz]at q;rw[q];exact sG e
 have nA:∀{j:Nat} {s:Sl} {a:Addr},ρ[j]?=some s->s.own=true->(σ[j]?).join=some (.ref a)->(s.L≠none->j∉cap)->a∉we cap σ ρ:=λ{j s a} e so z hn ha=>by
  obtain⟨i,hi,⟨ds,e1⟩,e2⟩:=qV.mp ha;obtain⟨t,e3,e4⟩:=oF e1;by_cases hij:i=j
  ·subst hij;rw[e]at e3;cases e3;exact hn (by rw[e4];simp) hi
  ·exact R.ap i j t s a hij e3 e (Sl.L_own e4) so e2 z
 have hA:∀a∈we cap σ ρ,F.B a=none\/a∈F.A:=λa ha=>by obtain⟨i,hi,⟨ds,e1⟩,e2⟩:=qV.mp ha;obtain⟨t,e3,e4⟩:=oF e1;obtain⟨a',u,h1,h2,h3,h4⟩:=(R.sl i t e3).at (Sl.L_own e4);rw[e2]at h1;cases h1;exact h4
 have own':∀{j:Nat} {s':Sl},ρ'[j]?=some s'->s'.own=true->∃s,ρ[j]?=some s/\s.own=true:=λ{j s'} e so=>by
  obtain⟨s,e1,q⟩:=hc j s' e;rcases q with ⟨rfl,q⟩|⟨m,ds,ds0,q1,q2,q3,q4⟩
  ·exact⟨s',e1,so⟩
  ·exact⟨s,e1,Sl.L_own q3⟩
 exact {
  sub:=R4.sub
  g0:=R.g0.trans R4.g0
  keep:=λb o e n=>by
   refine R4.keep b o (R.keep b o e n) λha=>?_;rcases hA b ha with q|q
   ·rw[q]at e;cases e
   ·exact n q
  fr:=λb o e=>by
   rcases R4.fr b o e with q|q
   ·exact R.fr b o q
   ·exact .inr (R.bNone q)
  am:=λa ha=>by
   obtain⟨o,q⟩:=R.am a ha;by_cases z:a∈we cap σ ρ
   ·exact R4.am a z
   ·exact⟨o,R4.keep a o q z⟩
  len:=by rw[hl];exact R.len
  sl:=λj s' e=>by
   obtain⟨s,e1,q⟩:=hc j s' e;rcases q with ⟨rfl,q⟩|⟨m,ds,ds0,q1,q2,q3,q4⟩
   ·refine(R.sl j s' e1).grow R4.g0 (λa u z so y=>R4.keep a u y (nA e1 so z q)) λa u z so y y0=>?_;cases w:H1 a with
    |none=>rfl
    |some o=>
     rcases R4.fr a o w with x|x
     ·have x':H0 a=some o:=x;rw[x']at y0;cases y0
     ·have x':H a=none:=x;rw[x']at y;cases y
   ·rw[cz]at q2;obtain⟨a,xs,h1,h2,h3,h4,h5⟩:=R4.sl _ _ q2;rw[at4 q1]at h1;have ok:=R.sl j s e1;subst q4;cases s with
    |ls ds1=>obtain⟨a',xs',g1,g2,g3,g4,g5⟩:=ok;rw[h1]at g1;cases g1;exact⟨a,xs,h1,h2,h3,g4,h5⟩
    |pm ds1=>obtain⟨a',xs',g1,g2,g3,g4,g5⟩:=ok;rw[h1]at g1;cases g1;exact⟨a,xs,h1,h2,h3,g4,h5⟩
    |_=>cases q3
  ap:=λi j s t a hij ei ej so to v v'=>by
   obtain⟨s0,z,zo⟩:=own' ei so;obtain⟨t0,y,yo⟩:=own' ej to;exact R.ap i j s0 t0 a hij z y zo yo v v' }
theorem qW{k:Nat}{cap:List Nat}{ts:List Sl}(h:Apart σ ρ p)(hu:ox cap ts ρ=some ρ'):Apart σ ρ' p:=λi s' e so=>by
 obtain⟨s,e1,q⟩:=(qq hu).2 i s' e;rcases q with ⟨rfl,q⟩|⟨m,ds,ds0,q1,q2,q3,q4⟩
 ·exact h i s' e1 so
 ·exact h i s e1 (Sl.L_own q3)
inductive CI(G:Bg) (F:Fr) (σ:St) (H1:Hp) (p:Addr) (k:Nat) (cap:List Nat) (g:FG) (ft:FT) (fe:FE) (ds es:List D) (ρ':List Sl) (i m:Nat) (acc:List V) (H2:Hp):Prop
 |mk (ρi:List Sl) (Hi:Hp) (dn rest:List D):m=ds.length - i->i<=ds.length->lK H1 Hi->lU G F σ ρi Hi H2->H2 p=some (.lst acc)->Hi p=none->Apart σ ρi p->lG G Hi dn acc->dn.length<=i->qU k cap g ft fe (ds.drop i) ρi=some (rest,ρ')->es=dn++rest->CI G F σ H1 p k cap g ft fe ds es ρ' i m acc H2
theorem xO{k:Nat}{cap:List Nat}{s:FA}{g:FG}(nd:cap.Nodup):∀σ H Q,tFN G (lX k cap s g ft fe) σ H Q->tZ (tFI G s) (tFG G k g) (tFT G ft) (tF G fe) k cap σ H Q:=λσ H Q hh=>by
 obtain⟨F,ρ,H0,es,ρ',R,e,kk⟩:=hh;unfold lX at e;rcases lW (f:=s) (ρ:=ρ)with e1|⟨ds,ρ1,e1⟩<;>simp only[e1]at e
 ·cases e
 ·split at e
  ·rename_i hlen;refine⟨F,ρ,H0,ds,ρ1,R,e1,λJ H1 H1' s1 R1 wk p hp=>?_⟩;refine⟨CI G F σ H1 p k cap g ft fe ds es ρ',
    ⟨_,ρ1,H1,[],es,rfl,cI _,lK.refl _,R1.newOwn hp _,lQ,R1.h0none hp,R1.apart hp,ma,aE _,e,rfl⟩,?_⟩
   rintro i m acc H2 ⟨ρi,Hi,dn,rest,rfl,hi,si,Ri,hp2,hp0,apt,rs,hdn,ei,rfl⟩;by_cases hlt:i<ds.length
   ·have ed:ds.drop i=ds[i]::ds.drop (i+1):=fG hlt;rw[ed]at ei;unfold qU at ei;obtain⟨go,yl⟩:=(wk i Hi H2 si Ri.sub).1 ds[i] (aR hlt);refine .inr ⟨go,λx H3 y=>?_⟩;obtain⟨Hj,t1,t2,t3,t4,t5⟩:=yl x H3 y;have R2:=Ri.grow t3 t1 t2 t4;have hp3:H3 p=some (.lst acc):=t3 _ _ hp2;have hpj:Hj p=none:=by
     cases w:Hj p with
     |none=>rfl
     |some o=>
      rcases t4 p o w with z|z
      ·rw[hp0]at z;cases z
      ·rw[hp2]at z;cases z
    have RC:=R2.cap k cap nd;have npA:p∉we cap σ ρi:=λz=>by obtain⟨j,_,⟨ds',q1⟩,q2⟩:=qV.mp z;obtain⟨t,q3,q4⟩:=oF q1;exact apt j t q3 (Sl.L_own q4) q2
    cases e2:g ds[i] (uD k cap ρi)with
    |none=>simp only[e2]at ei;cases ei
    |some ρ2=>
     simp only[e2]at ei;refine⟨_,_,Hj,ds[i],ρ2,RC,t5,e2,λσ4 hd4 R4=>⟨hd4,?_⟩⟩;rcases lW (f:=ft) (ρ:=ρ2)with e3|⟨b,ρ3,e3⟩
     ·simp only[e3]at ei;cases ei
     ·refine⟨_,ρ2,Hj,b,ρ3,R4,e3,λH5 H5' s5 R5=>?_⟩;have keepP:∀{σ':St} {ρ'':List Sl} {Ha Ha':Hp},lU G ⟨Hj,H3,we cap σ ρi⟩ σ' ρ'' Ha Ha'->Ha' p=some (.lst acc)/\Ha p=none:=λRz=>by
       refine⟨Rz.keep p _ hp3 npA,?_⟩;refine Option.eq_none_iff_forall_ne_some.mpr λo w2=>?_;rcases Rz.fr p o w2 with z|z
       ·have z':Hj p=some o:=z;rw[hpj]at z';cases z'
       ·have z':H3 p=none:=z;rw[hp3]at z';cases z'
      cases b with
      |false=>
       simp only[e3]at ei;refine zw ?_;cases e4:ox cap (ρ3.drop k) ρi with
       |none=>simp only[e4]at ei;cases ei
       |some ρn=>simp only[e4]at ei;obtain⟨w1,w2⟩:=keepP R5;exact⟨ds.length - (i+1),by omega,ρn,H5,dn,rest,rfl,hlt,si.trans (t1.trans s5),R2.uncap R5 hd4 e4,w1,w2,qW (k:=k) apt e4,lG.mono (t1.trans s5) _ _ rs,by omega,ei,rfl⟩
      |true=>
       simp only[e3]at ei;refine zx ?_;rcases lW (f:=fe) (ρ:=ρ3)with e5|⟨x5,ρ5,e5⟩
       ·simp only[e5]at ei;cases ei
       ·simp only[e5]at ei;refine⟨_,ρ3,H5,x5,ρ5,R5,e5,λv H6 H6' s6 R6 rv=>?_⟩;obtain⟨w1,w2⟩:=keepP R6;cases e4:ox cap (ρ5.drop k) ρi with
        |none=>simp only[e4]at ei;cases ei
        |some ρn=>
         simp only[e4]at ei;cases e6:qU k cap g ft fe (ds.drop (i+1)) ρn with
         |none=>simp only[e6]at ei;cases ei
         |some q=>
          obtain⟨rest',ρz⟩:=q;simp only[e6]at ei;cases ei;have Rn:=R2.uncap R6 hd4 e4;have lacc:acc.length=dn.length:=(lI rs).symm;refine⟨acc,w1,rq (by omega),ds.length - (i+1),by omega,ρn,H6,dn++[x5],rest',rfl,hlt,si.trans (t1.trans (s5.trans s6)),?_,lQ,w2,qW (k:=k) apt e4,mY (lG.mono (t1.trans (s5.trans s6)) _ _ rs) (mw rv ma),by rw[aC,bN];omega,e6,by rw[bO];rfl⟩;exact {
           sub:=λb o e=>by rw[lO (λz=>by rw[z,w2]at e;cases e)];exact Rn.sub b o e
           g0:=Rn.g0
           keep:=λb o e n=>by rw[lO (λz=>by subst z;rw[R1.bNone hp]at e;cases e)];exact Rn.keep b o e n
           fr:=Rn.fr
           am:=λb hb=>by
            by_cases z:b=p
            ·subst z;exact⟨_,lQ⟩
            ·rw[lO z];exact Rn.am b hb
           len:=Rn.len
           sl:=λj t ej=>(Rn.sl j t ej).grow (lK.refl _) (λb u z to q=>by rw[lO (λy=>qW (k:=k) apt e4 j t ej to (by rw[z,y]))];exact q) λb u _ _ _ q=>q
           ap:=Rn.ap }
   ·have ez:ds.drop i=[]:=hU (by omega);rw[ez]at ei;unfold qU at ei;cases ei;rw[bw]at kk;exact .inl ⟨(wk i Hi H2 si Ri.sub).2 (by omega),kk p acc Hi H2 (s1.trans si) Ri hp2 hp0 (R1.bNone hp) apt rs⟩
  ·cases e
theorem CV{k:Nat}{cap:List Nat}{s:FA}{g:FG}(nd:cap.Nodup)(h:PE X e (tZ (tFI G s) (tFG G k g) (tFT G ft) (tF G fe) k cap)):PE X e (tFN G (lX k cap s g ft fe)):=PE.weak h (xO nd)
theorem CW:PIf X [] (tFT G mI):=λpins s σ H Q I h=>by obtain⟨F,ρ,H0,b,ρ',R,e,k⟩:=h;cases e;exact EE pins s σ H Q I (k _ _ (lK.refl _) R)
end
def nD:D->Bool
 |.non=>true|.bl _=>true|.int _=>true|.str _=>true|_=>false
def vD:D->V
 |.non=>.non|.bl b=>.bl b|.int i=>.int i|.str x=>.str x|_=>.non
variable{r':R2}{g':D->D->Option D}{neg:Bool}{r:List V->Hp->VK->Prop}
section
variable{X:Cx}{G:Bg}{H:Hp}
theorem oQ{v:V}(h:Rep G H d v)(f:nD d=true):v=vD d:=by cases d<;>first|(unfold Rep at h;exact h)|cases f
theorem sH(f:nD d=true):∀H,Rep G H d (vD d):=λH=>by cases d<;>first|(unfold Rep;rfl)|cases f
theorem tK:∀{ds:List D} {xs:List V},lG G H ds xs->ds.all nD=true->xs=ds.map vD
 |[],xs,h,f=>by unfold lG at h;exact h
 |d::ds,xs,h,f=>by unfold lG at h;obtain⟨v,r,rfl,h1,h2⟩:=h;rw[cm,aB]at f;rw[aK,oQ h1 f.1,tK h2 f.2]
theorem yI(f:nD d=true):rG (vD d)=true:=by cases d<;>first|rfl|cases f
theorem wK:∀{ds:List D},ds.all nD=true->(ds.map vD).all rG=true
 |[],_=>rfl
 |d::ds,f=>by rw[cm,aB]at f;rw[aK,cm,yI f.1,wK f.2];rfl
theorem OpR.or{f:aa->aa->Sem aa}{r:R2}(h:OpR X f r)(h':OpR X f r'):OpR X f (λx y H Q=>r x y H Q\/r' x y H Q):=λpins s σ H x y v u Q I rx ry q=>q.elim (h pins s σ H x y v u Q I rx ry) (h' pins s σ H x y v u Q I rx ry)
theorem OpD.or{r:R2}{g:D->D->Option D}(h:OpD G r g)(h':OpD G r' g'):OpD G (λx y H Q=>r x y H Q\/r' x y H Q) (λx y=>match g x y with|some z=>some z|none=>g' x y):=λx y z H0 H v u Q e s rx ry k=>by
 cases e1:g x y with
 |some w=>simp only[e1]at e;cases e;exact .inl (h x y _ H0 H v u Q e1 s rx ry k)
 |none=>simp only[e1]at e;exact .inr (h' x y z H0 H v u Q e s rx ry k)
def dI(C:Int->Int->Bool)(g:Int->Int->D):D->D->Option D
 |.int a,.int b=>if C a b=true then some (g a b)else none
 |_,_=>none
theorem Av{C:Int->Int->Bool}{C':Int->Int->Prop}{g:Int->Int->D}{g':Int->Int->V}(hC:∀a b,C a b=true->C' a b)(hf:∀a b,nD (g a b)=true/\vD (g a b)=g' a b):OpD G (rI C' g') (dI C g):=λx y z H0 H v u Q e s rx ry k=>by
 unfold dI at e;split at e
 ·rename_i a b;split at e
  ·rename_i hc;cases e;unfold Rep at rx ry;exact⟨a,b,rx,ry,hC _ _ hc,by rw[<-(hf a b).2];exact k _ λH0' _=>sH (hf a b).1 H0'⟩
  ·cases e
 ·cases e
theorem vq{g:Int->Int->D}{g':Int->Int->V}(hf:∀a b,nD (g a b)=true/\vD (g a b)=g' a b):OpD G (rI0 g') (dI (λ_ _=>true) g):=λx y z H0 H v u Q e s rx ry k=>by
 unfold dI at e;split at e
 ·rename_i a b;split at e
  ·cases e;unfold Rep at rx ry;exact⟨a,b,rx,ry,by rw[<-(hf a b).2];exact k _ λH0' _=>sH (hf a b).1 H0'⟩
  ·cases e
 ·cases e
def oa:=dI (λ_ _=>true) λa b=>.int (a+b)
def pS(a:Int):Bool:=decide (-(2 ^ 64)<a)&&decide (a<2 ^ 64)
def pC:=dI (λa b=>pS a||pS b) λa b=>.int (a * b)
def nQ:=dI (λ_ b=>decide (0<b)) λa b=>.int (a % b)
def qD:=dI (λ_ b=>decide (0<b)&&decide (b<1073741824)) λa b=>.int (a / b)
def CY:=dI (λa b=>decide (0<=b)&&decide (b<=1000000)&&decide (a.natAbs<2 ^ 64)) λa b=>.int (a ^ b.toNat)
def Fi:=dI (λ_ _=>true) λa b=>.bl (decide (a<b))
def pD:=dI (λ_ _=>true) λa b=>.bl (decide (a<=b))
def CZ:=dI (λ_ _=>true) λa b=>.bl (decide (b<a))
def HU:=dI (λ_ _=>true) λa b=>.bl (decide (b<=a))
theorem HV:OpD G (rI0 λi j=>.int (i+j)) oa:=vq λ_ _=>⟨rfl,rfl⟩
theorem HW:OpD G (rI Ek λi j=>.int (i * j)) pC:=Av (λa b h=>by
 unfold pS at h;simp only[dZ,aB,bt]at h;exact h) λ_ _=>⟨rfl,rfl⟩
theorem HX:OpD G (rI (λ_ j=>0<j) λi j=>.int (i % j)) nQ:=Av (λa b h=>by simpa using h) λ_ _=>⟨rfl,rfl⟩
theorem HY:OpD G (rI G9 λi j=>.int (i / j)) qD:=Av (λa b h=>by unfold G9;simpa using h) λ_ _=>⟨rfl,rfl⟩
theorem HZ:OpD G (rI KJ λi j=>.int (i ^ j.toNat)) CY:=Av (λa b h=>by
 simp only[aB,bt]at h;exact⟨h.1.1,h.1.2,h.2⟩) λ_ _=>⟨rfl,rfl⟩
theorem Lg:OpD G (rI0 λi j=>.bl (decide (i<j))) Fi:=vq λ_ _=>⟨rfl,rfl⟩
theorem Lh:OpD G (rI0 λi j=>.bl (decide (i<=j))) pD:=vq λ_ _=>⟨rfl,rfl⟩
theorem Li:OpD G (rI0 λi j=>.bl (decide (j<i))) CZ:=vq λ_ _=>⟨rfl,rfl⟩
theorem Lj:OpD G (rI0 λi j=>.bl (decide (j<=i))) HU:=vq λ_ _=>⟨rfl,rfl⟩
def Mo:D->D->Option D
 |.str a,.str b=>if a.length+b.length<=100000 then some (.str (a++b))else none
 |_,_=>none
theorem yJ{n:Nat}(h:n<=100000):n<=av:=bF h (by rw[cb];decide)
def Da:D->D->Option D
 |.str a,.str b=>some (.bl (!decide (b.cps.toList<a.cps.toList)))
 |_,_=>none
theorem Ia:OpD G (λx y H Q=>∃i j,x=.str i/\y=.str j/\Q (.bl (!decide (j.cps.toList<i.cps.toList))) H) Da:=λx y z H0 H v u Q e s rx ry k=>by
 unfold Da at e;split at e
 ·rename_i a b;cases e;unfold Rep at rx ry;exact⟨a,b,rx,ry,k _ λ_ _=>om _⟩
 ·cases e
def yK:D->D->Option D
 |.non,.non=>some (.bl true)
 |_,.non=>some (.bl false)
 |_,_=>none
def Dc:D->D->Option D
 |.non,.non=>some (.bl false)
 |_,.non=>some (.bl true)
 |_,_=>none
theorem Aw{v:V}(h:Rep G H d v):decide (v=.non)=(match d with|.non=>true|_=>false):=by
 cases d<;>unfold Rep at h
 ·subst h;rfl
 ·subst h;rfl
 ·subst h;rfl
 ·subst h;rfl
 ·obtain⟨a,xs,rfl,_⟩:=h;rfl
 ·obtain⟨a,xs,rfl,_⟩:=h;rfl
 ·obtain⟨a,xs,rfl,_⟩:=h;rfl
 ·obtain⟨a,dx,xs,rfl,_⟩:=h;rfl
 ·obtain⟨a,ob,xs,rfl,_⟩:=h;rfl
theorem Ib:OpD G (λx y H Q=>y=.non/\Q (.bl (decide (x=.non))) H) yK:=λx y z H0 H v u Q e s rx ry k=>by
 have e0:=Aw rx;cases y<;>first|(cases x<;>cases e)|skip
 all_goals (unfold Rep at ry;refine⟨ry,?_⟩;rw[e0];exact k _ λ_ _=>om _)
theorem Fj:OpD G (λx y H Q=>y=.non/\Q (.bl (!decide (x=.non))) H) Dc:=λx y z H0 H v u Q e s rx ry k=>by
 have e0:=Aw rx;cases y<;>first|(cases x<;>cases e)|skip
 all_goals (unfold Rep at ry;refine⟨ry,?_⟩;rw[e0];exact k _ λ_ _=>om _)
def L1:D->D->Option D
 |.bl a,.bl b=>some (.bl (a != b))
 |_,_=>none
mutual
def toD:D->Option L3.Dq
 |.non=>some .non
 |.bl b=>some (.bl b)
 |.int i=>some (.int i)
 |.str x=>some (.str x)
 |.tup ds=>match xP ds with
  |some l=>some (.tup l)
  |none=>none
 |.lst ds=>match xP ds with
  |some l=>some (.lst l)
  |none=>none
 |.fzl _=>none
 |.obj _ _ _=>none
 |.dic _ _=>none
def xP:List D->Option (List L3.Dq)
 |[]=>some []
 |d::ds=>match toD d with
  |some x=>match xP ds with
   |some l=>some (x::l)
   |none=>none
  |none=>none
end
mutual
theorem xQ:∀(d:D) (v:V) (x:L3.Dq),Rep G H d v->toD d=some x->L3.Rep G.K H x v
 |.non,v,x,h,e=>by unfold toD at e;cases e;unfold Rep at h;unfold L3.Rep;exact h
 |.bl b,v,x,h,e=>by unfold toD at e;cases e;unfold Rep at h;unfold L3.Rep;exact h
 |.int b,v,x,h,e=>by unfold toD at e;cases e;unfold Rep at h;unfold L3.Rep;exact h
 |.str b,v,x,h,e=>by unfold toD at e;cases e;unfold Rep at h;unfold L3.Rep;exact h
 |.tup ds,v,x,h,e=>by
  unfold toD at e;cases e1:xP ds with
  |none=>simp only[e1]at e;cases e
  |some l=>simp only[e1]at e;cases e;unfold Rep at h;obtain⟨a,xs,rfl,h1,h2⟩:=h;unfold L3.Rep;exact⟨a,xs,rfl,h1,vt ds xs l h2 e1⟩
 |.lst ds,v,x,h,e=>by
  unfold toD at e;cases e1:xP ds with
  |none=>simp only[e1]at e;cases e
  |some l=>simp only[e1]at e;cases e;unfold Rep at h;obtain⟨a,xs,rfl,h1,h2⟩:=h;unfold L3.Rep;exact⟨a,xs,rfl,SqL.of h1,vt ds xs l h2 e1⟩
 |.fzl _,v,x,h,e=>by unfold toD at e;cases e
 |.obj _ _ _,v,x,h,e=>by unfold toD at e;cases e
 |.dic _ _,v,x,h,e=>by unfold toD at e;cases e
theorem vt:∀(ds:List D) (xs:List V) (l:List L3.Dq),lG G H ds xs->xP ds=some l->L3.lG G.K H l xs
 |[],xs,l,h,e=>by unfold xP at e;cases e;unfold lG at h;unfold L3.lG;exact h
 |d::ds,xs,l,h,e=>by
  unfold xP at e;cases e1:toD d with
  |none=>simp only[e1]at e;cases e
  |some x=>
   simp only[e1]at e;cases e2:xP ds with
   |none=>simp only[e2]at e;cases e
   |some l'=>simp only[e2]at e;cases e;unfold lG at h;obtain⟨v,r,rfl,h1,h2⟩:=h;unfold L3.lG;exact⟨v,r,rfl,xQ d v x h1 e1,vt ds r l' h2 e2⟩
end
def zD(neg:Bool):D->D->Option D:=λx y=>match nD x&&nD y&&Cd (vD x) (vD y)with
 |true=>some (.bl (if neg then !decide (vD x=vD y)else decide (vD x=vD y)))
 |false=>none
def Ie(neg:Bool):D->D->Option D:=λx y=>match toD x,toD y with
 |some a,some b=>if Gq a b&&decide (dpt a<=20)&&decide (dpt b<=20)then some (.bl (if neg then !eqD a b else eqD a b))else none
 |_,_=>none
def dEq(neg:Bool):D->D->Option D:=λx y=>match zD neg x y with
 |some z=>some z
 |none=>Ie neg x y
theorem Ig:OpD G rEq (zD false):=λx y z H0 H v u Q e s rx ry k=>by
 unfold zD at e;cases e1:nD x&&nD y&&Cd (vD x) (vD y)with
 |false=>simp only[e1]at e;cases e
 |true=>simp only[e1]at e;cases e;simp only[aB]at e1;rw[oQ rx e1.1.1,oQ ry e1.1.2];exact⟨e1.2,k _ λ_ _=>om _⟩
theorem Ih:OpD G rNe (zD true):=λx y z H0 H v u Q e s rx ry k=>by
 unfold zD at e;cases e1:nD x&&nD y&&Cd (vD x) (vD y)with
 |false=>simp only[e1]at e;cases e
 |true=>simp only[e1]at e;cases e;simp only[aB]at e1;rw[oQ rx e1.1.1,oQ ry e1.1.2];exact⟨e1.2,k _ λ_ _=>om _⟩
theorem Dd:OpD G (zz G.K neg) (Ie neg):=λx y z H0 H v u Q e s rx ry k=>by
 unfold Ie at e;cases e1:toD x with
 |none=>simp only[e1]at e;cases e
 |some a=>
  cases e2:toD y with
  |none=>simp only[e1,e2]at e;cases e
  |some b=>
   simp only[e1,e2]at e;split at e
   ·rename_i hc;cases e;simp only[aB,bt]at hc;exact⟨a,b,xQ x v a (Rep.mono s _ _ rx) e1,xQ y u b (Rep.mono s _ _ ry) e2,hc.1.1,hc.1.2,hc.2,k _ λ_ _=>om _⟩
   ·cases e
theorem Ii(hu:X.A.units+64<cLine)(hK:X.K=G.K:=by rfl):OpR X (aI .Eq) (λx y H Q=>rEq x y H Q\/zz G.K false x y H Q):=by rw[<-hK];exact OpR.or KL (HD hu)
theorem Ik(hu:X.A.units+64<cLine)(hK:X.K=G.K:=by rfl):OpR X (aI .NotEq) (λx y H Q=>rNe x y H Q\/zz G.K true x y H Q):=by rw[<-hK];exact OpR.or KM (HE hu)
theorem Lk:OpD G (λx y H Q=>rEq x y H Q\/zz G.K false x y H Q) (dEq false):=OpD.or Ig Dd
theorem Ll:OpD G (λx y H Q=>rNe x y H Q\/zz G.K true x y H Q) (dEq true):=OpD.or Ih Dd
def De:D->Option (List D)
 |.tup ds=>some ds
 |.lst ds=>some ds
 |.fzl ds=>some ds
 |_=>none
theorem Ax{v:V}(h:Rep G H d v)(e:De d=some ds):∃p xs,v=.ref p/\(SqL G.K H p xs\/SqT G.K H p xs)/\lG G H ds xs:=by
 cases d with
 |tup l=>cases e;unfold Rep at h;obtain⟨a,xs,rfl,h1,h2⟩:=h;exact⟨a,xs,rfl,.inr h1,h2⟩
 |lst l=>cases e;unfold Rep at h;obtain⟨a,xs,rfl,h1,h2⟩:=h;exact⟨a,xs,rfl,.inl (SqL.of h1),h2⟩
 |fzl l=>cases e;unfold Rep at h;obtain⟨a,xs,rfl,h1,h2⟩:=h;exact⟨a,xs,rfl,.inl h1,h2⟩
 |_=>cases e
def dIn(neg:Bool):D->D->Option D:=λx y=>match De y with
 |some ds=>if nD x&&ds.all nD then some (.bl (if neg then !inV (vD x) (ds.map vD)else inV (vD x) (ds.map vD)))else none
 |none=>none
theorem Ay{K:ai}{H:Hp}(s:lK H H')(h:SqL K H p xs\/SqT K H p xs):SqL K H' p xs\/SqT K H' p xs:=h.imp s.seq (SqT.mono s)
theorem Gr:OpD G (rIn G.K neg) (dIn neg):=λx y z H0 H v u Q e s rx ry k=>by
 unfold dIn at e;cases e1:De y with
 |none=>simp only[e1]at e;cases e
 |some ds=>
  simp only[e1]at e;split at e
  ·rename_i hc;cases e;simp only[aB]at hc;obtain⟨p,xs,rfl,h1,h2⟩:=Ax ry e1;refine⟨p,xs,rfl,Ay s h1,?_,?_,?_⟩
   ·rw[oQ rx hc.1];exact yI hc.1
   ·rw[tK h2 hc.2];exact wK hc.2
   ·rw[oQ rx hc.1,tK h2 hc.2];exact k _ λ_ _=>om _
  ·cases e
theorem Il(hK:X.K=G.K:=by rfl):OpR X (aI .In) (rIn G.K false):=by rw[<-hK];exact Bj
theorem BB(hK:X.K=G.K:=by rfl):OpR X (aI .NotIn) (rIn G.K true):=by rw[<-hK];exact xD
def dIx:D->D->Option D
 |.tup ds,.int i=>atI ds i
 |.lst ds,.int i=>atI ds i
 |.fzl ds,.int i=>atI ds i
 |.str x,.int i=>if x.length<=100000 then (atI x.cps.toList i).map λc=>.str ⟨#[c]⟩else none
 |_,_=>none
theorem Lm:OpD G (rIx G.K) dIx:=λx y z H0 H v u Q e s rx ry k=>by
 cases y with
 |int i=>
  unfold Rep at ry;subst ry;cases x with
  |tup ds=>unfold Rep at rx;obtain⟨a,xs,rfl,h1,h2⟩:=rx;obtain⟨w,w1,w2⟩:=sE h2 (show atI ds i=some z from e);exact .inr (.inl ⟨a,xs,i,w,rfl,rfl,SqT.mono s h1,w1,k _ λH0' s'=>Rep.mono s' _ _ w2⟩)
  |lst ds=>unfold Rep at rx;obtain⟨a,xs,rfl,h1,h2⟩:=rx;obtain⟨w,w1,w2⟩:=sE h2 (show atI ds i=some z from e);exact .inl ⟨a,xs,i,w,rfl,rfl,s.seq (SqL.of h1),w1,k _ λH0' s'=>Rep.mono s' _ _ w2⟩
  |fzl ds=>unfold Rep at rx;obtain⟨a,xs,rfl,h1,h2⟩:=rx;obtain⟨w,w1,w2⟩:=sE h2 (show atI ds i=some z from e);exact .inl ⟨a,xs,i,w,rfl,rfl,s.seq h1,w1,k _ λH0' s'=>Rep.mono s' _ _ w2⟩
  |str t=>
   unfold Rep at rx;subst rx;unfold dIx at e;simp only at e;split at e
   ·rename_i hl;cases e1:atI t.cps.toList i with
    |none=>rw[e1]at e;cases e
    |some c=>rw[e1]at e;cases e;exact .inr (.inr ⟨t,i,c,rfl,rfl,yJ hl,e1,k _ λ_ _=>sA _⟩)
   ·cases e
  |_=>cases e
 |_=>cases x<;>cases e
theorem Mi(hK:X.K=G.K:=by rfl):IxR X (rIx G.K):=by rw[<-hK];exact Ht
def wM(G:Bg)(r:List V->Hp->VK->Prop)(g:D->Option D):Prop:=∀x z H0 H v (Q:VK),g x=some z->lK H0 H->Rep G H0 x v->(∀w,(∀H0',lK H0 H0'->Rep G H0' z w)->Q w H)->r [v] H Q
theorem Gs{g:D->Option D}(hr:wM G r g)(h:PE X e (tCB r (tFA G (aCons f ml)))):PE X e (tF G (c1 g f)):=PE.weak h λσ H Q hh=>by obtain⟨F,ρ,H0,d,ρ',R,e,k⟩:=hh;obtain⟨x,e1,e2⟩:=uJ e;refine⟨F,ρ,H0,[x],ρ',R,by unfold aCons;rw[e1];rfl,λys H1 H1' s R' rs=>?_⟩;unfold lG at rs;obtain⟨v,r0,rfl,rv,rn⟩:=rs;unfold lG at rn;subst rn;exact hr x d H1 H1' v Q e2 R'.sub rv λw hw=>k _ _ _ s R' (hw _ (lK.refl _))
theorem ng.or{f:aa}{r':List V->Hp->VK->Prop}(h:ng X f r)(h':ng X f r'):ng X f (λx H Q=>r x H Q\/r' x H Q):=λpins s σ H xs us Q I rv q=>q.elim (h pins s σ H xs us Q I rv) (h' pins s σ H xs us Q I rv)
def nE:D->Option D
 |.tup ds=>some (.int ds.length)
 |.lst ds=>some (.int ds.length)
 |.fzl ds=>some (.int ds.length)
 |.str x=>if x.length<=100000 then some (.int x.length)else none
 |.dic ks ds=>some (.int ks.length)
 |_=>none
theorem BC:ng X (.builtin "len") (λxs H Q=>∃a kvs,xs=[V.ref a]/\Rd H a (.dK kvs)/\Q (.int kvs.length) H):=by intro pins s σ H xs us Q I r h;obtain⟨a,kvs,rfl,ha,q⟩:=h;obtain⟨u,rfl,ru⟩:=vals1 r;cases ru;exact K3 I ha λt s' I'=>⟨.int kvs.length,H,I',⟨t,rfl⟩,q⟩
def Gu(K:ai):List V->Hp->VK->Prop:=λxs H Q=>(∃p ys,xs=[.ref p]/\(SqL K H p ys\/SqT K H p ys)/\Q (.int ys.length) H)\/((∃z,xs=[.str z]/\z.length<=av/\Q (.int z.length) H)\/(∃a kvs,xs=[V.ref a]/\Rd H a (.dK kvs)/\Q (.int kvs.length) H))
theorem BD(hK:X.K=G.K:=by rfl):ng X (.builtin "len") (Gu G.K):=by rw[<-hK];exact ng.or xE (ng.or xF BC)
theorem Im:wM G (Gu G.K) nE:=λx z H0 H v Q e s rx k=>by
 cases x with
 |tup ds=>cases e;unfold Rep at rx;obtain⟨a,xs,rfl,h1,h2⟩:=rx;refine .inl ⟨a,xs,rfl,.inr (SqT.mono s h1),?_⟩;rw[<-lI h2];exact k _ λ_ _=>m5 _
 |lst ds=>cases e;unfold Rep at rx;obtain⟨a,xs,rfl,h1,h2⟩:=rx;refine .inl ⟨a,xs,rfl,.inl (s.seq (SqL.of h1)),?_⟩;rw[<-lI h2];exact k _ λ_ _=>m5 _
 |fzl ds=>cases e;unfold Rep at rx;obtain⟨a,xs,rfl,h1,h2⟩:=rx;refine .inl ⟨a,xs,rfl,.inl (s.seq h1),?_⟩;rw[<-lI h2];exact k _ λ_ _=>m5 _
 |str t=>
  unfold nE at e;simp only at e;split at e
  ·rename_i hl;cases e;unfold Rep at rx;exact .inr (.inl ⟨t,by rw[rx],yJ hl,k _ λ_ _=>m5 _⟩)
  ·cases e
 |dic ks ds=>cases e;unfold Rep at rx;obtain⟨a,o,xs,rfl,h1,h2,h3⟩:=rx;refine .inr (.inr ⟨a,_,rfl,.inr ⟨o,s _ _ h1⟩,?_⟩);rw[dY,<- h2,d7];exact k _ λ_ _=>m5 _
 |_=>cases e
def Io:D->Option D
 |.int i=>some (.int i)
 |.bl b=>some (.int (if b then 1 else 0))
 |_=>none
theorem Ip:wM G (λxs H Q=>(∃i,xs=[.int i]/\Q (.int i) H)\/∃k,xs=[.bl k]/\Q (.int (if k then 1 else 0)) H) Io:=λx z H0 H v Q e s rx k=>by
 cases x with
 |int i=>cases e;unfold Rep at rx;subst rx;exact .inl ⟨i,rfl,k _ λ_ _=>m5 _⟩
 |bl b=>cases e;unfold Rep at rx;subst rx;exact .inr ⟨b,rfl,k _ λ_ _=>m5 _⟩
 |_=>cases e
def wg:List D->Option (List Bool)
 |[]=>some []
 |.bl b::r=>(wg r).map (b::·)
 |_=>none
theorem vv:∀{ds:List D} {xs:List V} {bs:List Bool},lG G H ds xs->wg ds=some bs->xs=bs.map V.bl
 |[],xs,bs,h,e=>by cases e;unfold lG at h;exact h
 |.bl b::r,xs,bs,h,e=>by
  unfold lG at h;obtain⟨v,q,rfl,h1,h2⟩:=h;unfold wg at e;cases e1:wg r with
  |none=>rw[e1]at e;cases e
  |some l=>rw[e1]at e;cases e;unfold Rep at h1;subst h1;rw[vv h2 e1];rfl
 |.non::r,xs,bs,h,e=>by cases e
 |.int _::r,xs,bs,h,e=>by cases e
 |.str _::r,xs,bs,h,e=>by cases e
 |.tup _::r,xs,bs,h,e=>by cases e
 |.lst _::r,xs,bs,h,e=>by cases e
 |.fzl _::r,xs,bs,h,e=>by cases e
 |.obj _ _ _::r,xs,bs,h,e=>by cases e
 |.dic _ _::r,xs,bs,h,e=>by cases e
def oe:D->Option D
 |.lst ds=>(wg ds).map λbs=>.bl (bs.all id)
 |_=>none
theorem Iq:wM G (λxs H Q=>∃(p:Addr) (bs:List Bool),xs=[.ref p]/\SqL G.K H p (bs.map V.bl)/\Q (.bl (bs.all id)) H) oe:=λx z H0 H v Q e s rx k=>by
 cases x with
 |lst ds=>
  unfold oe at e;simp only at e;cases e1:wg ds with
  |none=>rw[e1]at e;cases e
  |some bs=>rw[e1]at e;cases e;unfold Rep at rx;obtain⟨a,xs,rfl,h1,h2⟩:=rx;rw[vv h2 e1]at h1;exact⟨a,bs,rfl,s.seq (SqL.of h1),k _ λ_ _=>om _⟩
 |_=>cases e
theorem BE(hc:X.calm=true)(hK:X.K=G.K:=by rfl):ng X (.builtin "all") (λxs H Q=>∃(p:Addr) (bs:List Bool),xs=[.ref p]/\SqL G.K H p (bs.map V.bl)/\Q (.bl (bs.all id)) H):=by rw[<-hK];exact Cu hc
inductive Ty where
 |b (n:String)|c (k:Nat)
def Ty.val(G:Bg):Ty->aa
 |.b n=>.type n
 |.c k=>.ref (G.ca k)
def Ty.v(G:Bg):Ty->V
 |.b n=>.ty n
 |.c k=>.ref (G.ca k)
def tyD:D->Ty
 |.non=>.b "NoneType" |.bl _=>.b "bool" |.int _=>.b "int" |.str _=>.b "str" |.tup _=>.b "tuple" |.lst _=>.b "list" |.fzl _=>.b "list" |.dic _ _=>.b "dict" |.obj c _ _=>.c c
structure BF(K:ai)(C:Addr):Prop where
 cl:Cls K C
 ha:bQ K (.ref C) "__class__" = some (some (.builtin "object.__class__"))
 hn:jK K (.builtin "object.__class__") "__get__" = some (some (.builtin "getset_descriptor.__get__"))
 htk:W.takesIn K (.builtin "object.__class__")=some true
 hm:W.mroIn K C (.type "object")=some true
theorem Dg{pins:List (Addr×Obj)}{s:ae}{A:aw}{E:aa->ae->Prop}{Q:aa->ae->Prop}{c:aa}{b:Bool}{v:V}{u:aa}(I:Inv X pins σ H s)(hK:X.K=G.K)(hd:Rep G H d v)(rv:RelV v u)(hc:∀k ns ds,d=.obj k ns ds->BF X.K (G.ca k))
  (e:bR X.K ((tyD d).val G) c=some b) (h:∀tk,Q (.bool b) { s with toks:=tk }):af (model X.prog X.w) A (call (.builtin "isinstance") [u,c]) Q E s:=by
 cases d with
 |non=>unfold Rep at hd;subst hd;exact ph I rv .non e h
 |bl x=>unfold Rep at hd;subst hd;exact ph I rv (.bl x) e h
 |int x=>unfold Rep at hd;subst hd;exact ph I rv (.int x) e h
 |str x=>unfold Rep at hd;subst hd;exact ph I rv (.str x) e h
 |tup ds=>unfold Rep at hd;obtain⟨a,xs,rfl,h1,h2⟩:=hd;cases rv;rw[<-hK]at h1;obtain⟨its,_,p,_⟩:=I.tuple h1;obtain⟨o,q1,q2,_⟩:=p;exact bI jC I.kIn ⟨o,q1,q2⟩ e (λz=>nomatch z) h
 |lst ds=>unfold Rep at hd;obtain⟨a,xs,rfl,h1,h2⟩:=hd;exact ph I rv (.lst h1) e h
 |fzl ds=>unfold Rep at hd;obtain⟨a,xs,rfl,h1,h2⟩:=hd;cases rv;rw[<-hK]at h1;obtain⟨its,_,p,_⟩:=I.list h1;obtain⟨o,n,q1,q2,_⟩:=p;exact bI gx I.kIn ⟨o,q1,q2⟩ e (λz=>nomatch z) h
 |dic ks ds=>unfold Rep at hd;obtain⟨a,o,xs,rfl,h1,h2,h3⟩:=hd;cases rv;obtain⟨q0,_,_,vs,_,ob,es,ep,q1,q2,_⟩:=(show mJ X.prog X.w H s.heap a (.frz o (.dK (ks.zip xs))) from I.hok a _ h1);exact bI gy I.kIn ⟨ob,q1,q2.1⟩ e (λz=>nomatch z) h
 |obj k ns ds=>have ci:=hc k ns ds rfl;unfold Rep at hd;obtain⟨a,dx,xs,rfl,h1,h2,h3⟩:=hd;exact ph I rv (.ins h1 ci.cl ci.ha ci.hn ci.htk ci.hm) e h
def oA(t:Ty->Option Bool):D->Option D:=λd=>(t (tyD d)).map .bl
theorem wN(c:Ty){t:Ty->Option Bool}(ht:∀y b,t y=some b->bR X.K (y.val G) (c.val G)=some b)(hc:∀k b,t (.c k)=some b->BF X.K (G.ca k))(hK:X.K=G.K:=by rfl):
  ng X (.builtin "isinstance") (λxs H Q=>∃d x b,xs=[x,c.v G]/\Rep G H d x/\t (tyD d)=some b/\Q (.bl b) H):=by
 intro pins s σ H xs us Q I r h;obtain⟨d,x,b,rfl,hd,e,q⟩:=h;obtain⟨u,w',rfl,ru,rw'⟩:=vals2 r;have ew:w'=c.val G:=by cases c<;>exact rw'
 subst ew;exact Dg I hK hd ru (λk ns ds z=>by subst z;exact hc k b e) (ht _ _ e) λtk=>⟨.bl b,H,I.tok _,rfl,q⟩
theorem AA{c:Ty}{t:Ty->Option Bool}(h:PE X e (tCB (λxs H Q=>∃d x b,xs=[x,c.v G]/\Rep G H d x/\t (tyD d)=some b/\Q (.bl b) H) (uW (tF G f) (uW (tC (c.v G)) xw)))):PE X e (tF G (c1 (oA t) f)):=PE.weak h λσ H Q hh=>by
 obtain⟨F,ρ,H0,d,ρ',R,e,k⟩:=hh;obtain⟨x,e1,e2⟩:=uJ e;unfold oA at e2;cases e3:t (tyD x)with
 |none=>rw[e3]at e2;cases e2
 |some b=>rw[e3]at e2;cases e2;exact⟨F,ρ,H0,x,ρ',R,e1,λv H1 H1' s R' r=>⟨x,v,b,rfl,Rep.mono R'.sub _ _ r,e3,k _ _ _ s R' (om b)⟩⟩
def mL(f g:FE):FA:=λρ=>match f ρ with
 |some (.lst xs,ρ1)=>match g ρ1 with
  |some (.lst ys,ρ2)=>if xs.length+ys.length<=1000 then some (xs++ys,ρ2)else none
  |_=>none
 |_=>none
theorem Fk{a b:Expr}{g:FE}(ha:PE X a (tF G f))(hb:PE X b (tF G g)):PE X (.BinOp a .Add b pos) (tFN G (mL f g)):=PE.weak (Cb Hv ha hb) λσ H Q hh=>by
 obtain⟨F,ρ,H0,d,ρ',R,e,k⟩:=hh;unfold mL at e;split at e
 ·rename_i xs ρ1 e1;split at e
  ·rename_i ys ρ2 e2;split at e
   ·rename_i hl;cases e;refine⟨F,ρ,H0,_,ρ1,R,e1,λv H1 H1' s R' r=>⟨F,ρ1,H1,_,_,R',e2,λu H2 H2' s2 R2 r2=>?_⟩⟩;have r':=Rep.mono s2 _ _ r;unfold Rep at r' r2;obtain⟨a1,xs1,rfl,h1,h2⟩:=r';obtain⟨a2,xs2,rfl,h3,h4⟩:=r2;refine⟨a1,a2,xs1,xs2,rfl,rfl,R2.sub _ _ h1,R2.sub _ _ h3,by rw[<-lI h2,<- lI h4];exact oB hl,λp hp=>?_⟩;exact k p _ _ _ (s.trans s2) (R2.newOwn hp _) lQ (R2.h0none hp) (R2.bNone hp) (R2.apart hp) (mY h2 h4)
   ·cases e
  ·cases e
 ·cases e
def rH(f:FE):FA:=λρ=>match f ρ with
 |some (d,ρ1)=>match De d with
  |some ds=>some (ds,ρ1)
  |none=>none
 |none=>none
theorem Dh(h:PE X e (tCB (λxs H Q=>∃p ys,xs=[.ref p]/\(SqL G.K H p ys\/SqT G.K H p ys)/\∀l,H l=none->Q (.ref l) (upd H l (.lst ys))) (tFA G (aCons f ml)))):PE X e (tFN G (rH f)):=PE.weak h λσ H Q hh=>by
 obtain⟨F,ρ,H0,ds,ρ',R,e,k⟩:=hh;unfold rH at e;rcases lW (f:=f) (ρ:=ρ)with e1|⟨d,ρ1,e1⟩<;>simp only[e1]at e
 ·cases e
 ·cases e2:De d with
  |none=>simp only[e2]at e;cases e
  |some ds'=>simp only[e2]at e;cases e;refine⟨F,ρ,H0,[d],_,R,by unfold aCons;rw[e1];rfl,λys H1 H1' s R' rs=>?_⟩;unfold lG at rs;obtain⟨v,r0,rfl,rv,rn⟩:=rs;unfold lG at rn;subst rn;obtain⟨p,xs,rfl,h1,h2⟩:=Ax rv e2;exact⟨p,xs,rfl,Ay R'.sub h1,λl hl=>k l _ _ _ s (R'.newOwn hl _) lQ (R'.h0none hl) (R'.bNone hl) (R'.apart hl) h2⟩
theorem zF(hK:X.K=G.K:=by rfl):ng X (.type "list") (λxs H Q=>∃p ys,xs=[.ref p]/\(SqL G.K H p ys\/SqT G.K H p ys)/\∀l,H l=none->Q (.ref l) (upd H l (.lst ys))):=by rw[<-hK];exact xG
def cutD(xs:List D)(lo hi:Option Int):List D:=(xs.drop (HT.sIx xs.length 0 lo)).take (HT.sIx xs.length xs.length hi - HT.sIx xs.length 0 lo)
theorem yL{lo hi:Option Int}(r:lG G H0 ds xs):lG G H0 (cutD ds lo hi) (Bh xs lo hi):=by unfold cutD Bh;rw[<-lI r];exact wI _ (wH _ r)
def cSl(f:FE)(lo hi:Option Int):FA:=λρ=>match f ρ with
 |some (.lst ds,ρ1)=>some (cutD ds lo hi,ρ1)
 |some (.fzl ds,ρ1)=>some (cutD ds lo hi,ρ1)
 |_=>none
def tO(o:Option Int):TO:=λ_ H Q=>Q o H
theorem BG{lo hi:Option Int}(h:PE X e (tSl (Bi G.K) (tF G f) (tO lo) (tO hi))):PE X e (tFN G (cSl f lo hi)):=PE.weak h λσ H Q hh=>by
 obtain⟨F,ρ,H0,ds,ρ',R,e,k⟩:=hh;have gen:∀{a:Addr} {xs:List V} {ds':List D} {H1 H1':Hp},lK H0 H1->lU G F σ ρ' H1 H1'->SqL G.K H1 a xs->lG G H1 ds' xs->ds=cutD ds' lo hi->Bi G.K (.ref a) lo hi H1' Q:=λ{a xs ds' H1 H1'} s R' h1 h2 e=>by subst e;exact⟨a,xs,rfl,R'.sub.seq h1,λp hp=>k p _ _ _ s (R'.newOwn hp _) lQ (R'.h0none hp) (R'.bNone hp) (R'.apart hp) (yL h2)⟩
 unfold cSl at e;split at e
 ·rename_i xs ρ1 e1;cases e;refine⟨F,ρ,H0,_,_,R,e1,λv H1 H1' s R' r=>?_⟩;unfold Rep at r;obtain⟨a,ys,rfl,h1,h2⟩:=r;exact gen s R' (SqL.of h1) h2 rfl
 ·rename_i xs ρ1 e1;cases e;refine⟨F,ρ,H0,_,_,R,e1,λv H1 H1' s R' r=>?_⟩;unfold Rep at r;obtain⟨a,ys,rfl,h1,h2⟩:=r;exact gen s R' h1 h2 rfl
 ·cases e
theorem Di{n:Int}{j pos}:PO X (some (.Constant (.int n) j pos)) (tO (some n)):=λpins s σ H Q I h=>Ai zf pins s σ H Q I ⟨n,rfl,h⟩
theorem Ln:PO X none (tO none):=Ah
theorem Lo(hK:X.K=G.K:=by rfl):SlR X (Bi G.K):=by rw[<-hK];exact Ey
end
def Sl.bor:Sl->Sl
 |.un=>.un
 |.im d=>.im d
 |.ls ds=>.im (.lst ds)
 |.pm ds=>.im (.lst ds)
 |.dk _ _=>.un
 |.ob c ns ds=>.im (.obj c ns ds)
variable{fa fb fc:FE}{op':c7}
section
variable{X:Cx}{G:Bg}
theorem lU.bor{H:Hp}(R:lU G F σ ρ H0 H):lU G ⟨H,H,[]⟩ σ (ρ.map Sl.bor) H H where
 sub:=lK.refl _
 g0:=lK.refl _
 keep:=λb o e _=>e
 fr:=λb o e=>.inl e
 am:=λa h=>by cases h
 len:=by rw[aj];exact R.len
 sl:=λi s e=>by
  rw[aS]at e;cases e1:ρ[i]? with
  |none=>rw[e1]at e;cases e
  |some t=>
   rw[e1]at e;cases e;have ok:=R.sl i t e1;cases t with
   |un=>trivial
   |im d=>obtain⟨v,h1,h2⟩:=ok;exact⟨v,h1,Rep.mono R.sub _ _ h2⟩
   |ls ds=>obtain⟨a,xs,h1,h2,h3,h4,h5⟩:=ok;exact⟨_,h1,qo h2 (lG.mono R.sub _ _ h5)⟩
   |pm ds=>obtain⟨a,xs,h1,h2,h3,h4,h5⟩:=ok;exact⟨_,h1,qo h2 (lG.mono R.sub _ _ h5)⟩
   |dk ks ds=>trivial
   |ob c ns ds=>obtain⟨a,dx,xs,h1,h2,h3,h4,h5,h6⟩:=ok;exact⟨_,h1,by unfold Rep;exact⟨a,dx,xs,rfl,h2,h5,lG.mono R.sub _ _ h6⟩⟩
 ap:=λi j s t a _ e _ so=>by
  rw[aS]at e;cases e1:ρ[i]? with
  |none=>rw[e1]at e;cases e
  |some t=>rw[e1]at e;cases e;cases t<;>cases so
theorem lU.unbor{σ':St}{H:Hp}(R:lU G F σ ρ H0 H)(R':lU G ⟨H,H,[]⟩ σ' ρ' H1 H1'):lU G F σ ρ H0 H1':=
 R.grow (λb o e=>R'.keep b o e (by simp)) (lK.refl _) (λb o e=>R'.keep b o (R.sub _ _ e) (by simp)) λb o e=>.inl e
def qr(f:FE):FE:=λρ=>match f (ρ.map Sl.bor)with
 |some (d,_)=>if nD d=true then some (d,ρ)else none
 |none=>none
def vw(f:FT):FT:=λρ=>match f (ρ.map Sl.bor)with
 |some (d,_)=>some (d,ρ)
 |none=>none
theorem Ir(h:PE X e (tF G f)):PE X e (tF G (qr f)):=PE.weak h λσ H Q hh=>by
 obtain⟨F,ρ,H0,d,ρ',R,e,k⟩:=hh;unfold qr at e;rcases lW (f:=f) (ρ:=ρ.map Sl.bor)with e1|⟨x,ρ1,e1⟩<;>simp only[e1]at e
 ·cases e
 ·split at e
  ·rename_i hf;cases e;refine⟨_,_,H,d,ρ1,R.bor,e1,λv H1 H1' s R' r=>?_⟩;rw[oQ r hf];exact k _ _ _ (lK.refl _) (R.unbor R') (sH hf _)
  ·cases e
theorem Fl{f:FT}(h:PT X e (tFT G f)):PT X e (tFT G (vw f)):=PT.weak h λσ H Q hh=>by
 obtain⟨F,ρ,H0,d,ρ',R,e,k⟩:=hh;unfold vw at e;rcases lW (f:=f) (ρ:=ρ.map Sl.bor)with e1|⟨x,ρ1,e1⟩<;>simp only[e1]at e
 ·cases e
 ·cases e;exact⟨_,_,H,d,ρ1,R.bor,e1,λH1 H1' s R'=>k _ _ (lK.refl _) (R.unbor R')⟩
def nV(g g':D->D->Option D)(fa fb fc:FE):FE:=λρ=>match fa ρ with
 |some (x,ρ1)=>match fb ρ1 with
  |some (y,ρ2)=>match g x y with
   |some (.bl true)=>match fc ρ2 with
    |some (z,ρ3)=>match g' y z with
     |some w=>some (w,ρ3)
     |none=>none
    |none=>none
   |some (.bl false)=>some (.bl false,ρ2)
   |_=>none
  |none=>none
 |none=>none
theorem yM{r:R2}{g:D->D->Option D}(ho:OpD G r g)(ho':OpD G r' g'):∀σ H Q,tF G (nV g g' fa fb fc) σ H Q->zj r r' (tF G fa) (tF G fb) (tF G fc) σ H Q:=λσ H Q hh=>by
 obtain⟨F,ρ,H0,d,ρ',R,e,k⟩:=hh;unfold nV at e;rcases lW (f:=fa) (ρ:=ρ)with e1|⟨x,ρ1,e1⟩<;>simp only[e1]at e
 ·cases e
 rcases lW (f:=fb) (ρ:=ρ1)with e2|⟨y,ρ2,e2⟩<;>simp only[e2]at e
 ·cases e
 refine⟨F,ρ,H0,x,ρ1,R,e1,λv H1 H1' s1 R1 r1=>⟨F,ρ1,H1,y,ρ2,R1,e2,λu H2 H2' s2 R2 r2=>?_⟩⟩;split at e
 ·rename_i e3;refine ho x y _ H2 H2' v u _ e3 R2.sub (Rep.mono s2 _ _ r1) r2 λw hw=>?_;have hw':=hw H2 (lK.refl _);unfold Rep at hw';refine⟨true,hw',zx ?_⟩;rcases lW (f:=fc) (ρ:=ρ2)with e4|⟨z,ρ3,e4⟩<;>simp only[e4]at e
  ·cases e
  cases e5:g' y z with
  |none=>simp only[e5]at e;cases e
  |some q=>simp only[e5]at e;cases e;refine⟨F,ρ2,H2,z,_,R2,e4,λt H3 H3' s3 R3 r3=>?_⟩;exact ho' y z _ H3 H3' u t Q e5 R3.sub (Rep.mono s3 _ _ r2) r3 λw hw=>k w H3 H3' (s1.trans (s2.trans s3)) R3 (hw _ (lK.refl _))
 ·rename_i e3;cases e;refine ho x y _ H2 H2' v u _ e3 R2.sub (Rep.mono s2 _ _ r1) r2 λw hw=>?_;have hw':=hw H2 (lK.refl _);unfold Rep at hw';exact⟨false,hw',zw (k _ _ _ (s1.trans s2) R2 (om false))⟩
 ·cases e
theorem Dj{a b c:Expr}{r:R2}{g:D->D->Option D}(hr:OpR X (aI op) r)(hr':OpR X (aI op') r')(ho:OpD G r g)(ho':OpD G r' g')(ha:PE X a (tF G fa))(hb:PE X b (tF G fb))(hc:PE X c (tF G fc))
  (hm:lastMarks [op,op'] [b,c]=false:=by with_unfolding_all rfl):PE X (.Compare a [op,op'] [b,c] pos) (tF G (nV g g' fa fb fc)):=PE.weak (Cg hr hr' ha hb hc hm) (yM ho ho')
theorem BH{a b c:Expr}{r:R2}{g:D->D->Option D}(hr:OpR X (aI op) r)(hr':OpR X (aI op') r')(ho:OpD G r g)(ho':OpD G r' g')(ha:PE X a (tF G fa))(hb:PE X b (tF G fb))(hc:PE X c (tF G fc))
  (hm:lastMarks [op,op'] [b,c]=false:=by with_unfolding_all rfl):PT X (.Compare a [op,op'] [b,c] pos) (tFT G (cT (nV g g' fa fb fc))):=PT.weak (Ci hr hr' ha hb hc hm) λσ H Q hh=>by
 obtain⟨F,ρ,H0,d,ρ',R,e,k⟩:=Aq σ H Q hh;exact yM ho ho' σ H _ ⟨F,ρ,H0,d,ρ',R,e,k⟩
end
def qX(P:au)(w:ak)(K:ai)(mg:Str->Option aa)(base:Heap)(k:Nat)(x:Str)(ps:List Str)(sp:Sp):Prop:=
 ∃(f:Addr) (fd:aZ),mg x=some (.ref f)/\bY K (.ref f)=true/\Binds K fd ps []/\oh P w K mg base CX0 k f fd ps sp
def xR(G:Bg)(P:au)(w:ak)(mg:Str->Option aa)(base:Heap)(k:Nat)(x:Str)(c:Nat)(ps:List Str)(dvs:List V)(g:List D->Option (List Str×List D)):Prop:=
 ∃(f:Addr) (fd:aZ) (ds:List aa),Mk G.K (G.ca c) f/\mg x=some (.ref (G.ca c))/\Binds G.K fd ps ds/\Vals dvs ds/\oh P w G.K mg base CX0 k f fd ps (spI G c g)
def tL(G:Bg)(P:au)(w:ak)(mg:Str->Option aa)(base:Heap)(k:Nat)(m:Str)(c:Nat)(h:List D->Option D):Prop:=
 ∃(f:Addr) (fd:aZ) (ps:List Str),Cls G.K (G.ca c)/\Meth G.K (G.ca c) m f/\Binds G.K fd ps []/\oh P w G.K mg base CX0 k f fd ps (spF G h)
section
variable{X:Cx}{G:Bg}{k:Nat}{x m:Str}{p pos apos:Pos}{e o:Expr}{es:List Expr}{a:FA}{ps:List Str}
theorem ua{α:Type}(g:List D->α):(λds=>g (ds++[]))=g:=funext λds=>by rw[bw]
theorem Iu{g:List D->Option D}(D:qX X.prog X.w X.K X.mg X.base k x ps (spF G g))(hr:mP k X.A)(ha:PA X (e::es) (tFA G a))(hg:Gl X x:=by rfl)(hdb:(x==("__debug__" : Str))=false:=by decide)(he:ao (e::es) X.env=(false,eval e X.env)::ao es X.env:=by rfl)(hpl:(aL pos (ao es X.env)).any (·.1)=false:=by rfl):
  PE X (.Call (.Name x p) (e::es) [] pos) (tF G (lN g a)):=by
 obtain⟨f,fd,h1,h2,h3,h4⟩:=D;have q:=E6 (dvs:=[]) (dds:=[]) (λ_=>ma) (sr (p:=p) (pos:=pos) h4 hr hg h1 h2 h3 .nil tY ha hdb he hpl);rw[ua]at q;exact q
theorem Fm{g:List D->Option D}(D:qX X.prog X.w X.K X.mg X.base k x ps (spF G g))(hr:mP k X.A)(hg:Gl X x:=by rfl)(hdb:(x==("__debug__" : Str))=false:=by decide):PE X (.Call (.Name x p) [] [] pos) (tF G (lN g ml)):=by obtain⟨f,fd,h1,h2,h3,h4⟩:=D;exact CO (yf h4 hr hg h1 h2 h3 .nil tY hdb)
theorem Fn{g:List D->Option (List D)}(D:qX X.prog X.w X.K X.mg X.base k x ps (spN G g))(hr:mP k X.A)(ha:PA X (e::es) (tFA G a))(hg:Gl X x:=by rfl)(hdb:(x==("__debug__" : Str))=false:=by decide)(he:ao (e::es) X.env=(false,eval e X.env)::ao es X.env:=by rfl)(hpl:(aL pos (ao es X.env)).any (·.1)=false:=by rfl):
  PE X (.Call (.Name x p) (e::es) [] pos) (tFN G (mR g a)):=by
 obtain⟨f,fd,h1,h2,h3,h4⟩:=D;have q:=CN (dvs:=[]) (dds:=[]) (λ_=>ma) (sr (p:=p) (pos:=pos) h4 hr hg h1 h2 h3 .nil tY ha hdb he hpl);rw[ua]at q;exact q
theorem Dk{g:List D->Option (List D)}(D:qX X.prog X.w X.K X.mg X.base k x ps (spN G g))(hr:mP k X.A)(hg:Gl X x:=by rfl)(hdb:(x==("__debug__" : Str))=false:=by decide):PE X (.Call (.Name x p) [] [] pos) (tFN G (mR g ml)):=by obtain⟨f,fd,h1,h2,h3,h4⟩:=D;exact Bu (yf h4 hr hg h1 h2 h3 .nil tY hdb)
theorem Fo{g:List D->List D->Option (D×List D)}{i:Nat}(D:qX X.prog X.w X.K X.mg X.base k x ps (spM G g))(hr:mP k X.A)(hv:PE X e (qf i))(ha:PA X es (tFA G a))(hg:Gl X x:=by rfl)(hdb:(x==("__debug__" : Str))=false:=by decide)(he:ao (e::es) X.env=(false,eval e X.env)::ao es X.env:=by rfl)(hpl:(aL pos (ao es X.env)).any (·.1)=false:=by rfl):
  PE X (.Call (.Name x p) (e::es) [] pos) (tF G (qM g i a)):=by
 obtain⟨f,fd,h1,h2,h3,h4⟩:=D;exact HR (sr (p:=p) (pos:=pos) h4 hr hg h1 h2 h3 .nil tY (og hv ha he) hdb he hpl)
theorem Fp{g:List D->Option (List Str×List D)}(M:xR G X.prog X.w X.mg X.base k x c ps dvs g)(hd:∀H,lG G H dds dvs)(hr:mP (k+1) X.A)(ha:PA X (e::es) (tFA G a))(hK:X.K=G.K:=by rfl)(hg:Gl X x:=by rfl)(hdb:(x==("__debug__" : Str))=false:=by decide)
  (he:ao (e::es) X.env=(false,eval e X.env)::ao es X.env:=by rfl) (hpl:(aL pos (ao es X.env)).any (·.1)=false:=by rfl):
  PE X (.Call (.Name x p) (e::es) [] pos) (tF G (lY c (λds=>g (ds++dds)) a)):=by
 obtain⟨f,fd,ds,h1,h2,h3,h4,h5⟩:=M;rw[<-hK]at h1 h3 h5;exact E8 hd (Es (p:=p) (pos:=pos) h1 h5 hr hg h2 h3 h4 tY ha hdb he hpl)
theorem Gv{g:Nat->Option (List D->Option D)}(M:∀c h,g c=some h->tL G X.prog X.w X.mg X.base k m c h)(hr:mP k X.A)(hK:X.K=G.K):∀C sp,MT G g C sp->MOk X C m sp [] E0:=λC sp h=>by obtain⟨c,h,e,rfl,rfl⟩:=h;obtain⟨f,fd,ps,q1,q2,q3,q4⟩:=M c h e;rw[<-hK]at q1 q2 q3 q4;exact⟨k,f,fd,ps,[],q1,q2,q4,hr,q3,.nil,tY⟩
theorem BI{g:Nat->Option (List D->Option D)}{pl:Sem Bool}(M:∀c h,g c=some h->tL G X.prog X.w X.mg X.base k m c h)(hr:mP k X.A)(ho:PE X o (tF G f))(ha:PA X (e::es) (tFA G a))(hK:X.K=G.K:=by rfl)
  (hst:ao (e::es) X.env=(false,eval e X.env)::ao es X.env:=by rfl) (hpl:(aL pos (ao es X.env)).any (·.1)=false:=by rfl)
  (ht:eval (.Call (.Attribute o m apos) (e::es) [] pos) X.env=(do
   let ov<-eval o X.env
   standAt apos.atName
   let (f,first)<-holding [ov] (getMethod ov m pl)
   callWith pos f first (aL pos (ao (e::es) X.env)) (backToKw pos (cp [] X.env))):=by rfl):
  PE X (.Call (.Attribute o m apos) (e::es) [] pos) (tF G (n9 g m f a)):=E7 (E:=E0) (CQ (dvs:=[]) (MT G g) (Gv M hr hK) ho ha hst hpl ht)
theorem zG{g:Nat->Option (List D->Option D)}{pl:Sem Bool}(M:∀c h,g c=some h->tL G X.prog X.w X.mg X.base k m c h)(hr:mP k X.A)(ho:PE X o (tF G f))(hK:X.K=G.K:=by rfl)
  (ht:eval (.Call (.Attribute o m apos) [] [] pos) X.env=(do
   let ov<-eval o X.env
   standAt apos.atName
   let (f,first)<-holding [ov] (getMethod ov m pl)
   callWith pos f first (aL pos (ao [] X.env)) (backToKw pos (cp [] X.env))):=by rfl):
  PE X (.Call (.Attribute o m apos) [] [] pos) (tF G (n9 g m f ml)):=CS (E:=E0) (Bw (dvs:=[]) (MT G g) (Gv M hr hK) ho ht)
end
section
variable{P:au}{w:ak}{K:ai}{mg:Str->Option aa}{base:Heap}{x qual:Str}{st:Stmt}{f T:Addr}{fd:aZ}{N ps:List Str}{k:Nat}{G:Bg}
abbrev qY(P:au)(w:ak)(K:ai)(mg:Str->Option aa)(base:Heap)(N:List Str)(qual:Str)(st:Stmt)(f:Addr)(cdv:aa)(A:aw)(outer:List Env)(s:ae)(H:Hp)(E:XK):Cx:=(xA CX0 P w K mg base N qual (lS st) f cdv A outer s H E).nox
theorem Dl{n:Nat}{g:List D->Option D}(hg:g=fnD np n b)(hp:ps.length=np)(hN:N.length=n)(F:Fun K x qual st f fd)(S:m4 N ps (lS st))(body:∀(cdv:aa) (A:aw) (outer:List Env) (s:ae) (H:Hp) (E:XK),mP k (A.deeper (envOfC qual (lS st) s.heap.objs.size f cdv))->PSs (qY P w K mg base N qual st f cdv A outer s H E) (l7 st) (tFS G b)):
  oh P w K mg base CX0 (k+1) f fd ps (spF G g):=by
 subst hg hp hN;exact F.ok S (Lc E2) λcdv A outer s H vs Q E hr h=>⟨_,body cdv A outer s H E hr,EZ (by have:=aQ bP S.pre;rw[bu]at this;omega) h⟩
theorem Lp{n:Nat}{g:List D->Option (List D)}(hg:g=fnN np n b)(hp:ps.length=np)(hN:N.length=n)(F:Fun K x qual st f fd)(S:m4 N ps (lS st))(body:∀(cdv:aa) (A:aw) (outer:List Env) (s:ae) (H:Hp) (E:XK),mP k (A.deeper (envOfC qual (lS st) s.heap.objs.size f cdv))->PSs (qY P w K mg base N qual st f cdv A outer s H E) (l7 st) (tFS G b)):
  oh P w K mg base CX0 (k+1) f fd ps (spN G g):=by
 subst hg hp hN;exact F.ok S (Ld E3) λcdv A outer s H vs Q E hr h=>⟨_,body cdv A outer s H E hr,E1 (by have:=aQ bP S.pre;rw[bu]at this;omega) h⟩
theorem Lq{n:Nat}{g:List D->List D->Option (D×List D)}{p:Str}{ps:List Str}(hg:g=fnM np n b)(hp:ps.length=np)(hN:N.length=n)(F:Fun K x qual st f fd)(S:m4 N (p::ps) (lS st))(body:∀(cdv:aa) (A:aw) (outer:List Env) (s:ae) (H:Hp) (E:XK),mP k (A.deeper (envOfC qual (lS st) s.heap.objs.size f cdv))->PSs (qY P w K mg base N qual st f cdv A outer s H E) (l7 st) (tFS G b)):
  oh P w K mg base CX0 (k+1) f fd (p::ps) (spM G g):=by
 subst hg hp hN;exact F.ok S (Lf Fe) λcdv A outer s H vs Q E hr h=>⟨_,body cdv A outer s H E hr,Fd (by have:=aQ bP S.pre;rw[bu,aG]at this;omega) h⟩
theorem Gw{g:List D->Option (List Str×List D)}(hg:∀ds q,g ds=some q->ds.length=np):∀vs H Q E,spI G c g vs H Q E->vs.length=np+1:=λvs H Q E h=>by obtain⟨p,dx,us,H0,ds,ns,es,rfl,_,_,_,r,e,_⟩:=h;rw[aG,<- lI r,hg _ _ e]
theorem Lr{n:Nat}{g:List D->Option (List Str×List D)}{p:Str}{ps:List Str}(hg:g=fnI c np n b)(hp:ps.length=np)(hN:N.length=n)(F:Fun K x qual st f fd)(S:m4 N (p::ps) (lS st))(body:∀(cdv:aa) (A:aw) (outer:List Env) (s:ae) (H:Hp) (E:XK),mP k (A.deeper (envOfC qual (lS st) s.heap.objs.size f cdv))->PSs (qY P w K mg base N qual st f cdv A outer s H E) (l7 st) (tFS G b)):
  oh P w K mg base CX0 (k+1) f fd (p::ps) (spI G c g):=by
 subst hg hp hN;exact F.ok S (Gw λds q h=>(vh h).1) λcdv A outer s H vs Q E hr h=>⟨_,body cdv A outer s H E hr,xN (by have:=aQ bP S.pre;rw[bu,aG]at this;omega) h⟩
theorem Iv{n:Nat}{g:List D->Option (List Str×List D)}{p:Str}{ps:List Str}(hg:g=fnI c np n b)(hp:ps.length=np)(hN:N.length=n)(F:Br K x qual st f fd T)(S:m4 N (p::ps) (lS st))(body:∀(cdv:aa) (A:aw) (outer:List Env) (s:ae) (H:Hp) (E:XK),mP k (A.deeper (envOfC qual (lS st) s.heap.objs.size f cdv))->PSs (qY P w K mg base N qual st f cdv A outer s H E) (l7 st) (tFS G b)):
  oh P w K mg base CX0 (k+1) f fd (p::ps) (spI G c g):=by
 subst hg hp hN;exact F.ok S (Gw λds q h=>(vh h).1) λcdv A outer s H vs Q E hr h=>⟨_,body cdv A outer s H E hr,xN (by have:=aQ bP S.pre;rw[bu,aG]at this;omega) h⟩
end
section
variable{X:Cx}{G:Bg}
def rA(G:Bg)(mg:Str->Option aa)(x:Str)(d:D):Prop:=∃(v:V) (u:aa),mg x=some u/\RelV v u/\∀H,Rep G H d v
theorem Dm{x:Str}(h:rA G X.mg x d)(hg:Gl X x:=by rfl)(hd:(x==("__debug__" : Str))=false:=by decide):PE X (.Name x pos) (tF G (cC d)):=by obtain⟨v,u,h1,h2,h3⟩:=h;exact EK (z7 hg h1 h2 hd) h3
def pT(i:Nat)(j:Int)(f:FE):FS:=λρ=>match f ρ with
 |some (d,ρ1)=>match mT ρ1 i with
  |some ds=>match ixN ds.length j with
   |some k=>some (.nx (putAt ρ1 i (ds.set k d)))
   |none=>none
  |none=>none
 |none=>none
theorem BJ{i:Nat}{j:Int}(h:PS X st (rW (tF G f) (KI (qf i) (tC (.int j)) Gh))):PS X st (tFS G (pT i j f)):=PS.weak h λE σ H hh=>by
 obtain⟨F,ρ,H0,o,R,e,k,k2⟩:=hh;unfold pT at e;rcases lW (f:=f) (ρ:=ρ)with e1|⟨d,ρ1,e1⟩<;>simp only[e1]at e
 ·cases e
 cases e2:mT ρ1 i with
 |none=>simp only[e2]at e;cases e
 |some ds=>
  simp only[e2]at e;cases e3:ixN ds.length j with
  |none=>simp only[e3]at e;cases e
  |some m=>simp only[e3]at e;cases e;refine⟨F,ρ,H0,d,ρ1,R,e1,λv H1 H1' s R' r=>?_⟩;obtain⟨a,xs,s1,s2,s3,s4⟩:=nR R' e2;exact⟨.ref a,s1,a,xs,j,m,rfl,rfl,s2,by rw[<-lI s3];exact e3,k _ _ _ s (s4 _ _ (yx m s3 r))⟩
def nF(T:String):Ty->Option Bool
 |.b n=>if n="NoneType" then some false else if n="bool" then some (T=="bool" ||T=="int")else if n="int" then some (T=="int")else if n="str" then some (T=="str")else if n="tuple" then some (T=="tuple")else if n="list" then some (T=="list")else if n="dict" then some (T=="dict")else none
 |.c _=>none
theorem Dn{T:String}:∀k b,nF T (.c k)=some b->BF X.K (G.ca k):=λk b h=>by cases h
theorem Do:∀y b,nF "list" y=some b->bR X.K (y.val G) (.type "list")=some b:=λy b h=>by
 cases y with
 |c k=>cases h
 |b n=>
  unfold nF at h;simp only at h
  iterate 7 (split at h;· rename_i e;subst e;cases h;first|rfl|kernel_rfl)
  cases h
theorem Fq:∀y b,nF "str" y=some b->bR X.K (y.val G) (.type "str")=some b:=λy b h=>by
 cases y with
 |c k=>cases h
 |b n=>
  unfold nF at h;simp only at h
  iterate 7 (split at h;· rename_i e;subst e;cases h;first|rfl|kernel_rfl)
  cases h
end
end L4
namespace L3
open PySem PySem.Spec PyProof.Rows L2
theorem Fs{X:Cx}{i:Nat}{y:Str}{py spos:Pos}{elt iter tg:Expr}{ifs:List Expr}{scope:bA}{pos:Pos}{N':List Str}{k:Nat}{cap:List Nat}{wi:TI}{g:TG}{tt:TT}{te:TE}
  (hc:X.calm=true) (hN:X.N.Nodup) (hy:X.N[i]?=some y) (hyl:Loc X.env.scope y) (hi:PI X tg iter wi)
  (body:∀(cl:List (Str×Addr)) (C:Addr) (fp:List Addr) (s:ae) (H:Hp),PG (mQ X N' scope cl C fp s H) tg g/\PIf (mQ X N' scope cl C fp s H) ifs tt/\PE (mQ X N' scope cl C fp s H) elt te)
  (hkind:scope.kind=.function:=by rfl) (hcell:(scope.names.all λy=>y.2 != .cell)=true:=by rfl)
  (hloc:(scope.names.all λy=>y.2 != .local||scope.names.lookup y.1==some .local)=true:=by rfl)
  (hfree:(scope.names.all λy=>y.2 != .free||(X.env.kindOf y.1==some .cell||X.env.kindOf y.1==some .free))=true:=by rfl)
  (hlen:N'.length=k+cap.length:=by rfl) (hcap:(N'.drop k).map some=cap.map λj=>X.N[j]?:=by rfl)
  (hcf:((N'.drop k).all λx=>scope.names.lookup x==some .free)=true:=by rfl)
  (hs:∀x,dM iter X.env x=pure x:=by intro _;rfl)
  (hsw:bH (.ListComp elt [⟨tg,iter,ifs,0⟩] scope pos) (some (.Name y py)) spos.line X.env=pure true:=by rfl)
  (hfy:X.fn y=true\/X.env.scope.names.lookup y=some .local:=by first|exact .inl rfl|exact .inr rfl|assumption):
  PS X (.Assign [.Name y py] (.ListComp elt [⟨tg,iter,ifs,0⟩] scope pos) spos) (rW (tZ wi g tt te k cap) (pN i)):=by
 intro pins s σ H D I h;rw[exec_Assign_Name_used _ _ _ _ hsw];refine ar (gb (ar ?_));show af _ X.A (do let _<-comprehension (.ListComp elt [⟨tg,iter,ifs,0⟩] scope pos) scope X.env _ (newList []) false (eval iter X.env) (some (assign (.Name y py) X.env))) _ _ s;refine ar (aY (wG (P:=λ_ s'=>SP X pins D .next s') hc hi body hkind hcell hloc hfree hlen hcap hcf hs I h λa C m u s4 H3 hn back fpC qn=>?_) (λ_ s' hq=>ay (ay hq)) λ_ _ e=>e);obtain⟨oC,esC,nC,gC,dC,rC⟩:=id hn;have I7:=back.pinned (fp:=[C]) (λb hb=>aW.mp hb▸fpC) (λb hb=>aW.mp hb▸⟨oC,gC,λv z=>by rw[dC]at z;cases z⟩);show af _ X.A (assign (.Name y py) X.env (.ref a)) _ _ s4;refine thn (z9 (pos:=py) hN hy hyl hfy _ s4 σ H3 (.ref a) (.ref a) (λσ' H'=>D.nx σ' H') I7 rfl qn) λ_ s6 zz=>?_;obtain⟨σ6,H6,I8,q6⟩:=zz;obtain⟨p1,p2,_⟩:=I8.pin (C,oC) (aV _ (aV _ (px (by simp) gC)));exact⟨m,⟨oC,esC,nC,p1,dC,rC⟩,λh' hs'=>⟨σ6,H6,I8.unpinned.turned (t':=s6.toks) (λb o hb e=>(hs'.2 b hb).trans e) p2 fpC.2.1 fpC.2.2.2.1 fpC.2.2.2.2.1 fpC.2.2.2.2.2,q6⟩⟩
end L3
namespace L4
open PySem PySem.Spec PyProof.Rows L2 L3
variable{st:Stmt}{te:TE}{ft:FT}{fe:FE}
section
variable{X:Cx}{G:Bg}
theorem vx{te':TE}{g:TG}(h:PS X st (rW te g))(w:∀σ H Q,te' σ H Q->te σ H Q):PS X st (rW te' g):=PS.weak h λE σ H hh=>w _ _ _ hh
theorem BK{i k:Nat}{cap:List Nat}{s:FA}{g:FG}(nd:cap.Nodup)(h:PS X st (rW (tZ (tFI G s) (tFG G k g) (tFT G ft) (tF G fe) k cap) (pN i))):PS X st (tFS G (pB i (lX k cap s g ft fe))):=yB (vx h (xO nd))
theorem Dp{i k:Nat}{cap:List Nat}{s:FA}{g:FG}(nd:cap.Nodup)(h:PS X st (rW (tZ (tFI G s) (tFG G k g) (tFT G ft) (tF G fe) k cap) (pN i))):PS X st (tFS G (mF i (cL (lX k cap s g ft fe)))):=Au (vx (vx h (xO nd)) Lb)
end
variable{es0 es':List D}{np:Nat}{b:FS}
section
variable{f g h:FS}{c:FT}{e e' e2:FE}{a a':FA}{ρ ρ' ρ1 ρ2 ρ3:List Sl}{d x y z:D}{o:Out}{ds xs ys:List D}
theorem lF(h:f ρ=some (.nx ρ')):lJ f g ρ=g ρ':=by unfold lJ;rw[h]
theorem pj(h:f ρ=some (.rt d ρ')):lJ f g ρ=some (.rt d ρ'):=by unfold lJ;rw[h]
theorem qt(h:c ρ=some (true,ρ')):sIf c f g ρ=f ρ':=by unfold sIf;rw[h]
theorem o7(h:c ρ=some (false,ρ')):sIf c f g ρ=g ρ':=by unfold sIf;rw[h]
theorem m6{i:Nat}(h:e ρ=some (d,ρ')):mF i e ρ=some (.nx (ρ'.set i (.im d))):=by unfold mF;rw[h]
theorem AB{i:Nat}(h:a ρ=some (ds,ρ')):pB i a ρ=some (.nx (ρ'.set i (.ls ds))):=by unfold pB;rw[h]
theorem oG(h:e ρ=some (d,ρ')):mK e ρ=some (.rt d ρ'):=by unfold mK;rw[h]
theorem uK(h:a ρ=some (ds,ρ')):nz a ρ=some (.rn ds ρ'):=by unfold nz;rw[h]
theorem uM(h:e ρ=some (d,ρ')):n8 e ρ=some (.nx ρ'):=by unfold n8;rw[h]
theorem yN{i k:Nat}{j:Int}(h:e ρ=some (d,ρ1))(h1:mT ρ1 i=some ds)(h2:ixN ds.length j=some k):pT i j e ρ=some (.nx (putAt ρ1 i (ds.set k d))):=by unfold pT;rw[h];simp only[h1,h2]
theorem mj{g:D->D->Option D}(h1:e ρ=some (x,ρ1))(h2:e' ρ1=some (y,ρ2))(h3:g x y=some z):c2 g e e' ρ=some (z,ρ2):=by unfold c2;rw[h1];simp only[h2,h3]
theorem mD{g:D->Option D}(h1:e ρ=some (x,ρ1))(h3:g x=some z):c1 g e ρ=some (z,ρ1):=by unfold c1;rw[h1];simp only[h3]
theorem xS(h1:e (ρ.map Sl.bor)=some (d,ρ1))(hf:nD d=true):qr e ρ=some (d,ρ):=by unfold qr;rw[h1];simp only[hf,if_true]
theorem tM{b:Bool}(h1:e ρ=some (.bl b,ρ1)):cT e ρ=some (b,ρ1):=by unfold cT;rw[h1]
theorem lL(h1:e ρ=some (d,ρ1))(h2:a ρ1=some (ds,ρ2)):aCons e a ρ=some (d::ds,ρ2):=by unfold aCons;rw[h1];simp only[h2]
theorem l6{α:Type}{g:List D->Option α}{r:α}(h1:a ρ=some (ds,ρ1))(h2:g ds=some r):tJ g a ρ=some (r,ρ1):=by unfold tJ;rw[h1];simp only[h2]
theorem oH(h1:a ρ=some (ds,ρ1)):cL a ρ=some (.lst ds,ρ1):=by unfold cL;rw[h1]
theorem Iw(h1:a ρ=some (ds,ρ1))(hl:ds.length<=1000):lZ a ρ=some (ds,ρ1):=by unfold lZ;rw[h1];simp only[hl,if_true]
theorem qu(h1:e ρ=some (.lst xs,ρ1))(h2:e' ρ1=some (.lst ys,ρ2))(hl:xs.length+ys.length<=1000):mL e e' ρ=some (xs++ys,ρ2):=by unfold mL;rw[h1];simp only[h2,hl,if_true]
theorem Dr{g:List D->List D->Option (D×List D)}{i:Nat}{es:List D}(h0:mT ρ i=some es0)(h1:a ρ=some (ds,ρ1))(h2:mT ρ1 i=some es)(h3:g es ds=some (d,es')):qM g i a ρ=some (d,putAt ρ1 i es'):=by unfold qM;rw[h0];simp only[h1,h2,h3]
theorem zH{i:Nat}{es:List D}(h0:mT ρ i=some es0)(h1:e ρ=some (d,ρ1))(h2:mT ρ1 i=some es)(hl:es.length<1000):rZ i e ρ=some (.non,putAt ρ1 i (es++[d])):=by unfold rZ;rw[h0];simp only[h1,h2,hl,if_true]
theorem qv{s:FA}{g:FG}(h1:s ρ=some (ds,ρ1)):qT s g f ρ=forL g f ds ρ1:=by unfold qT;rw[h1]
theorem AC{k:Nat}{cap:List Nat}{s:FA}{g:FG}(h1:s ρ=some (ds,ρ1))(hl:ds.length<=1000):lX k cap s g ft fe ρ=qU k cap g ft fe ds ρ1:=by unfold lX;rw[h1];simp only[hl,if_true]
theorem Ds{n:Nat}{es:List D}(hl:ds.length=np)(h:b (L4.stM n es ds)=some (.rt d ρ))(h0:sF ρ=some es'):fnM np n b es ds=some (d,es'):=by unfold fnM;rw[ag hl,h];simp only[h0]
theorem Iy{n:Nat}{es:List D}(hl:ds.length=np)(h:b (L4.stM n es ds)=some (.rn xs ρ))(h0:sF ρ=some es'):fnM np n b es ds=some (.lst xs,es'):=by unfold fnM;rw[ag hl,h];simp only[h0]
theorem Dt{n:Nat}(hl:ds.length=np)(h:b (L4.stE n ds)=some (.rn xs ρ)):fnN np n b ds=some xs:=by unfold fnN;rw[ag hl,h]
theorem nW{n:Nat}(hl:ds.length=np)(h:b (L4.stE n ds)=some (.rt d ρ)):fnD np n b ds=some d:=by unfold fnD;rw[ag hl,h]
end
def uE(es:List D):Prop:=(∃c,es=[.int c])\/∃q r n,es=[.int q,.int r,.int n]
theorem pq{a b:Int}(h:pS a=true\/pS b=true):pC (.int a) (.int b)=some (.int (a * b)):=by unfold pC dI;simp only;rw[ag (by simpa using h)]
theorem pO{a b:Int}(h:0<b):nQ (.int a) (.int b)=some (.int (a % b)):=by unfold nQ dI;simp only;rw[ag (by simpa using h)]
theorem div_pos{a b:Int}(h:0<b)(h':b<1073741824):qD (.int a) (.int b)=some (.int (a / b)):=by unfold qD dI;simp only;rw[ag (by simp[h,h'])]
theorem yO{a:Int}(h:0<=a)(h':a<2147483647):pS a=true:=by unfold pS;simp only[aB,bt];omega
def uF:D->Option Key
 |.int i=>some (.inl i)
 |.str x=>some (.inr x)
 |_=>none
def vy:List Key->List D->Key->Option D
 |k::ks,d::ds,j=>if k=j then some d else vy ks ds j
 |_,_,_=>none
def Ft(ks:List Key)(ds:List D)(k:Key)(d:D):List D:=ee (λk' d'=>if k'=k then d else d') ks ds
def vz(ks:List Key)(k:Key):Bool:=ks.any λk'=>decide (k'=k)
variable{d:D}{a:Addr}{o:Obj}{kvs:List (Key×V)}{f fk:FE}{pos:Pos}{tg e:Expr}
section
variable{X:Cx}{G:Bg}{H:Hp}
theorem uN{v:V}{k:Key}(h:Rep G H d v)(e:uF d=some k):v=kV k:=by
 cases d<;>first|cases e|skip
 all_goals (unfold Rep at h;exact h)
theorem yP:∀{ks:List Key} {ds:List D} {xs:List V} (j:Key),lG G H ds xs->ks.length=xs.length->match vy ks ds j with
  |some d=>∃v,oO (ks.zip xs) j=some v/\Rep G H d v
  |none=>oO (ks.zip xs) j=none
 |[],ds,xs,j,r,l=>by cases ds<;>rfl
 |k::ks,ds,[],j,r,l=>by cases l
 |k::ks,[],x::xs,j,r,l=>by unfold lG at r;cases r
 |k::ks,d::ds,x::xs,j,r,l=>by
  unfold lG at r;obtain⟨v,q,e,h1,h2⟩:=r;cases e;unfold vy;by_cases hk:k=j
  ·rw[ag hk];exact⟨x,sv (p:=(k,x)) hk,h1⟩
  ·rw[ah hk];have ih:=yP (ks:=ks) (ds:=ds) (xs:=xs) j h2 (by simpa using l);have e1:oO ((k::ks).zip (x::xs)) j=oO (ks.zip xs) j:=sy (p:=(k,x)) hk;rw[e1];exact ih
theorem xT{k:Key}:∀{ks:List Key} {xs:List V},ks.length=xs.length->((ks.zip xs).any λkv=>decide (kv.1=k))=vz ks k
 |[],xs,_=>by cases xs<;>rfl
 |k'::ks,[],l=>by cases l
 |k'::ks,x::xs,l=>by unfold vz;rw[cA,c4,c4,xT (by simpa using l)];rfl
theorem AD{k:Key}{v:V}:∀{ks:List Key} {xs:List V},ks.length=xs.length->(ks.zip xs).map (λkv=>if kv.1=k then (kv.1,v)else kv)=ks.zip (ee (λk' x=>if k'=k then v else x) ks xs)
 |[],xs,_=>by cases xs<;>rfl
 |k'::ks,[],l=>by cases l
 |k'::ks,x::xs,l=>by
  rw[cA,aK,AD (by simpa using l),fH,cA];congr 1;by_cases hk:k'=k
  ·rw[ag hk,ag hk]
  ·rw[ah hk,ah hk]
theorem yQ{k:Key}{d:D}{v:V}(hd:Rep G H d v):∀{ks:List Key} {ds:List D} {xs:List V},lG G H ds xs->ks.length=xs.length->lG G H (Ft ks ds k d) (ee (λk' x=>if k'=k then v else x) ks xs)
 |[],ds,xs,r,l=>by unfold Ft;cases ds<;>cases xs<;>exact ma
 |k'::ks,ds,[],r,l=>by cases l
 |k'::ks,[],x::xs,r,l=>by unfold lG at r;cases r
 |k'::ks,d'::ds,x::xs,r,l=>by
  unfold lG at r;obtain⟨w,q,e,h1,h2⟩:=r;cases e;unfold Ft;rw[fH,fH];refine mw ?_ (yQ hd h2 (by simpa using l));by_cases hk:k'=k
  ·rw[ag hk,ag hk];exact hd
  ·rw[ah hk,ah hk];exact h1
theorem _root_.L2.DGet.kf{H:Hp}{k:Key}(e:H a=some (.frz o (.dK kvs))):DGet H a (kV k) (oO kvs k):=.inl ⟨kvs,k,.inr ⟨o,e⟩,rfl,rfl⟩
def ub:D->D->Option D:=λx y=>match x,uF y with
 |.dic ks ds,some k=>vy ks ds k
 |_,_=>none
theorem Fu{a b:Expr}{f':FE}(hu:X.A.units+1<cLine)(ha:PE X a (tF G f))(hb:PE X b (tF G f'))(hs:Hw b:=by exact λ_ _=>rfl):PE X (.Subscript a b pos) (tF G (c2 ub f f')):=PE.weak (EB hu ha hb hs) λσ H Q hh=>by
 obtain⟨F,ρ,H0,d,ρ',R,e,k⟩:=hh;obtain⟨x,y,ρ1,e1,e2,e3⟩:=xM e;refine⟨F,ρ,H0,x,ρ1,R,e1,λv H1 H1' s1 R1 r1=>⟨F,ρ1,H1,y,ρ',R1,e2,λu H2 H2' s2 R2 r2=>?_⟩⟩;have r1':=Rep.mono s2 _ _ r1;cases x with
 |dic ks ds=>
  unfold ub at e3;cases ek:uF y with
  |none=>simp only[ek]at e3;cases e3
  |some j=>simp only[ek]at e3;unfold Rep at r1';obtain⟨p,ob,xs,rfl,h1,h2,h3⟩:=r1';have lv:=yP (ks:=ks) j h3 h2;rw[e3]at lv;obtain⟨w,w1,w2⟩:=lv;refine⟨p,w,rfl,?_,k w H2 H2' (s1.trans s2) R2 w2⟩;rw[uN r2 ek,<- w1];exact DGet.kf (R2.sub _ _ h1)
 |_=>unfold ub at e3;cases e3
def wO(i:Nat):FS:=λρ=>some (.nx (ρ.set i (.dk [] [])))
theorem Du{i:Nat}(h:PS X st (rW zv (pN i))):PS X st (tFS G (wO i)):=PS.weak h λE σ H hh=>by obtain⟨F,ρ,H0,o,R,e,k,k2⟩:=hh;cases e;intro p hp;have R1:=R.newOwn hp (.dK []);refine k _ _ _ (lK.refl _) (R1.set (s:=.dk [] []) ⟨p,[],rfl,lQ,R.h0none hp,R.bNone hp,rfl,ma⟩ λ_ a ea j t _ ej to=>?_);cases ea;exact R.apart hp j t ej to
def oI(i:Nat)(fk fv:FE):FS:=λρ=>match fv ρ with
 |some (d,ρ1)=>match ρ1[i]? with
  |some (.dk _ _)=>match fk ρ1 with
   |some (y,ρ2)=>match uF y with
    |some k=>match ρ2[i]? with
     |some (.dk ks ds)=>if ks.length<1000 then if ds.length=ks.length then some (.nx (ρ2.set i (if vz ks k=true then .dk ks (Ft ks ds k d)else .dk (ks++[k]) (ds++[d]))))else none else none
     |_=>none
    |none=>none
   |none=>none
  |_=>none
 |none=>none
theorem Dv{i:Nat}{fv:FE}(h:PS X st (Gk (qf i) (tF G fk) (tF G fv))):PS X st (tFS G (oI i fk fv)):=PS.weak h λE σ H hh=>by
 obtain⟨F,ρ,H0,o,R,e,k,k2⟩:=hh;unfold oI at e;rcases lW (f:=fv) (ρ:=ρ)with e1|⟨d,ρ1,e1⟩<;>simp only[e1]at e
 ·cases e
 split at e
 ·rename_i ks0 ds0 ei;rcases lW (f:=fk) (ρ:=ρ1)with e2|⟨y,ρ2,e2⟩<;>simp only[e2]at e
  ·cases e
  cases ek:uF y with
  |none=>simp only[ek]at e;cases e
  |some j=>
   simp only[ek]at e;split at e
   ·rename_i ks ds ei2;split at e
    ·rename_i hl;split at e
     ·rename_i hl2;cases e;refine⟨F,ρ,H0,d,ρ1,R,e1,λv H1 H1' s1 R1 r1=>?_⟩;obtain⟨a0,xs0,a1,_⟩:=R1.sl i _ ei;refine⟨_,oo a1,F,ρ1,H1,y,ρ2,R1,e2,λu H2 H2' s2 R2 r2=>?_⟩;obtain⟨a,xs,b1,b2,b3,b4,b5,b6⟩:=R2.sl i _ ei2;rw[a1]at b1;cases b1;refine⟨a0,upd H2' a0 (.dK (putK (ks.zip xs) j v)),rfl,?_,?_⟩
      ·rw[uN r2 ek];exact Cq.k b2 (by rw[dY];exact fP (Nat.min_le_left _ _) (rq (by omega)))
      ·have rv:=Rep.mono s2 _ _ r1;refine k _ _ _ (s1.trans s2) (R2.mut ei2 rfl a1 (λH' hH=>?_) ?_)
       ·by_cases hk:vz ks j=true
        ·rw[ag hk];refine⟨a0,ee (λk' x=>if k'=j then v else x) ks xs,rfl,?_,b3,b4,by rw[ix,b5,d7],yQ rv b6 b5⟩;rw[hH];unfold putK;rw[xT b5,ag hk,AD b5]
        ·rw[ah hk];refine⟨a0,xs++[v],rfl,?_,b3,b4,by rw[aC,aC,b5];rfl,mY b6 (mw rv ma)⟩;rw[hH];unfold putK;rw[xT b5,ah hk,ja b5];rfl
       ·split<;>rfl
     ·cases e
    ·cases e
   ·cases e
 ·cases e
def vA:D->Option D
 |.lst ds=>(wg ds).map λbs=>.bl (bs.any id)
 |_=>none
theorem BL(hc:X.calm=true)(hK:X.K=G.K:=by rfl):ng X (.builtin "any") (λxs H Q=>∃(p:Addr) (bs:List Bool),xs=[.ref p]/\SqL G.K H p (bs.map V.bl)/\Q (.bl (bs.any id)) H):=by
 rw[<-hK];intro pins s σ H xs us Q I r h;obtain⟨p,bs,rfl,hq,q⟩:=h;obtain⟨u,rfl,ru⟩:=vals1 r;cases ru;obtain⟨its,rv,pl,hz⟩:=I.list hq;have hlt:p<s.heap.objs.size:=by obtain⟨o,ho,_⟩:=pl.isList;exact aD ho
 have hl:bs.length=its.length:=by have:=rv.length;rw[aj]at this;exact this
 refine call_any_walk (dJ pl.isList ⟨s.heap.objs.size,_,_,_,_,_,λi=>(bs[i]?).getD false,rfl,fz (show X.A.in1.handled=none from I.ok.hd hc) _ p (aH hlt) its.toArray,⟨⟨_,ba _ rfl,rfl,rfl⟩,?_⟩,?_,λh' tk hk=>?_⟩)
 ·exact pl.isList.at λo e=>aF _ e
 ·intro i v s' Q' E' hv hQ';have hv':its[i]?=some v:=by simpa using hv
  have hi:i<its.length:=(bq.mp hv').1;have hb:(bs.map V.bl)[i]?=some (.bl (bs[i]'(by omega))):=by simp[show i<bs.length by omega]
  obtain⟨u,hu,ru⟩:=rv.get hb;rw[hv']at hu;cases hu;cases ru;refine bZ ?_;have e:(bs[i]?).getD false=bs[i]'(by omega):=by simp[show i<bs.length by omega]
  rw[<-e];exact hQ'
 ·refine⟨.bl (bs.any id),H,?_,?_,q⟩
  ·exact I.kept (t':=tk) λb o e=>hk b o (by simp;exact aH (aD e)) (aF _ e)
  ·show Value.bool _=Value.bool _;congr 1;rw[aJ,<- hl];rw[cE];simp only[bD,cG,id];constructor
   ·rintro⟨i,hi,h⟩;exact⟨bs[i],cU hi,by simpa [hi]using h⟩
   ·rintro⟨b,hb,h⟩;obtain⟨i,hi,rfl⟩:=ig.mp hb;exact⟨i,hi,by simpa [hi]using h⟩
theorem IA:wM G (λxs H Q=>∃(p:Addr) (bs:List Bool),xs=[.ref p]/\SqL G.K H p (bs.map V.bl)/\Q (.bl (bs.any id)) H) vA:=λx z H0 H v Q e s rx k=>by
 cases x with
 |lst ds=>
  unfold vA at e;simp only at e;cases e1:wg ds with
  |none=>rw[e1]at e;cases e
  |some bs=>rw[e1]at e;cases e;unfold Rep at rx;obtain⟨a,xs,rfl,h1,h2⟩:=rx;rw[vv h2 e1]at h1;exact⟨a,bs,rfl,s.seq (SqL.of h1),k _ λ_ _=>om _⟩
 |_=>cases e
def iS(f:FE):FA:=λρ=>match f ρ with
 |some (.str x,ρ')=>some (x.cps.toList.map λc=>D.str ⟨#[c]⟩,ρ')
 |_=>none
theorem Fv(h:PI X tg e (K5 (tF G f))):PI X tg e (tFI G (iS f)):=PI.weak h λσ H R hh=>by
 obtain⟨F,ρ,H0,ds,ρ',R,e,k⟩:=hh;unfold iS at e;split at e
 ·rename_i x ρ1 e1;cases e;refine⟨F,ρ,H0,_,_,R,e1,λv H1 H1' s R' r=>?_⟩;unfold Rep at r;refine⟨x,r,k _ _ _ s R' λi H2 H2' t t'=>⟨λd ed=>?_,λhl=>?_⟩⟩
  ·rw[aS]at ed;cases ec:x.cps.toList[i]? with
   |none=>rw[ec]at ed;cases ed
   |some c=>
    rw[ec]at ed;cases ed;have ec':x.cps[i]?=some c:=by simpa using ec
    refine⟨(Array.getElem?_eq_some_iff.mp ec').1,λz H3 y=>?_⟩;obtain⟨e3,c',hc',rfl⟩:=y;rw[ec']at hc';cases hc';subst e3;exact⟨H2,lK.refl _,t',lK.refl _,λb o e=>.inl e,sA _⟩
  ·show i=x.cps.size;rw[hl,aj];simp
 ·cases e
def yR(f g:FE):FE:=λρ=>match f ρ with
 |some (.tup (x::xs),ρ1)=>match g ρ1 with
  |some (.tup ys,ρ2)=>if xs.length+ys.length<=900 then some (.tup (x::xs++ys),ρ2)else none
  |_=>none
 |_=>none
theorem Fw{a b:Expr}{g:FE}(ha:PE X a (tF G f))(hb:PE X b (tF G g))(hK:X.K=G.K:=by rfl):PE X (.BinOp a .Add b pos) (tF G (yR f g)):=PE.weak (Cb Ew ha hb) λσ H Q hh=>by
 rw[hK];obtain⟨F,ρ,H0,d,ρ',R,e,k⟩:=hh;unfold yR at e;split at e
 ·rename_i x xs ρ1 e1;split at e
  ·rename_i ys ρ2 e2;split at e
   ·rename_i hl;cases e;refine⟨F,ρ,H0,_,ρ1,R,e1,λv H1 H1' s R' r=>⟨F,ρ1,H1,_,_,R',e2,λu H2 H2' s2 R2 r2=>?_⟩⟩;have r':=Rep.mono s2 _ _ r;have r0:=r';unfold Rep at r' r2;obtain⟨a1,xs1,rfl,h1,h2⟩:=r';obtain⟨a2,xs2,rfl,h3,h4⟩:=r2;have l1:=lI h2;have l2:=lI h4;rw[aG]at l1;refine⟨a1,a2,xs1,xs2,rfl,rfl,SqT.mono R2.sub h1,SqT.mono R2.sub h3,(λz=>by rw[z]at l1;cases l1),by rw[<-l1,<- l2];exact oB (by omega),λz=>?_,λ_ p hp=>?_⟩
    ·have ey:ys=[]:=by rw[z]at l2;exact List.length_eq_zero_iff.mp l2
     subst ey;rw[bw]at k;exact k _ _ _ (s.trans s2) R2 r0
    ·exact k _ _ _ ((s.trans s2).trans (l3 (R2.h0none hp) _)) (R2.newIm hp _) (xK (SqT.of lQ) (lG.mono (l3 (R2.h0none hp) _) _ _ (mY h2 h4)))
   ·cases e
  ·cases e
 ·cases e
end
section
variable{X:Cx}{G:Bg}
abbrev FO:=List Sl->Option (Option Int×List Sl)
def tFO(G:Bg)(f:FO):TO:=λσ H Q=>∃F ρ H0 d ρ',lU G F σ ρ H0 H/\f ρ=some (d,ρ')/\∀H0' H',lK H0 H0'->lU G F σ ρ' H0' H'->Q d H'
def oNo:FO:=λρ=>some (none,ρ)
def oAt(f:FE):FO:=λρ=>match f ρ with
 |some (.int i,ρ')=>some (some i,ρ')
 |_=>none
theorem PO.weak{e:Option Expr}{t t':TO}(h:PO X e t)(w:∀σ H Q,t' σ H Q->t σ H Q):PO X e t':=λpins s σ H Q I hq=>h pins s σ H Q I (w _ _ _ hq)
theorem IB:PO X none (tFO G oNo):=PO.weak Ah λσ H Q hh=>by obtain⟨F,ρ,H0,d,ρ',R,e,k⟩:=hh;cases e;exact k _ _ (lK.refl _) R
theorem IC(h:PE X e (tF G f)):PO X (some e) (tFO G (oAt f)):=PO.weak (Ai h) λσ H Q hh=>by
 obtain⟨F,ρ,H0,d,ρ',R,e,k⟩:=hh;unfold oAt at e;split at e
 ·rename_i i ρ1 e1;cases e;refine⟨F,ρ,H0,_,_,R,e1,λv H1 H1' s R' r=>?_⟩;unfold Rep at r;exact⟨i,r,k _ _ s R'⟩
 ·cases e
def rF(f:FE)(lo hi:FO):FA:=λρ=>match f ρ with
 |some (d,ρ1)=>match d with
  |.lst ds=>match lo ρ1 with
   |some (l,ρ2)=>match hi ρ2 with
    |some (h,ρ3)=>some (cutD ds l h,ρ3)
    |none=>none
   |none=>none
  |.fzl ds=>match lo ρ1 with
   |some (l,ρ2)=>match hi ρ2 with
    |some (h,ρ3)=>some (cutD ds l h,ρ3)
    |none=>none
   |none=>none
  |_=>none
 |none=>none
theorem zI{lo hi:FO}(h:PE X e (tSl (Bi G.K) (tF G f) (tFO G lo) (tFO G hi))):PE X e (tFN G (rF f lo hi)):=PE.weak h λσ H Q hh=>by
 obtain⟨F,ρ,H0,ds,ρ',R,e,k⟩:=hh;unfold rF at e;rcases lW (f:=f) (ρ:=ρ)with e1|⟨d,ρ1,e1⟩<;>simp only[e1]at e
 ·cases e
 have gen:∀(xs:List D),(∀{H1:Hp} {v:V},Rep G H1 d v->∃a ys,v=.ref a/\SqL G.K H1 a ys/\lG G H1 xs ys)->(match lo ρ1 with
   |some (l,ρ2)=>match hi ρ2 with
    |some (h,ρ3)=>some (cutD xs l h,ρ3)
    |none=>none
   |none=>none)=some (ds,ρ')->tSl (Bi G.K) (tF G f) (tFO G lo) (tFO G hi) σ H Q:=λxs rd e=>by
  rcases lW (f:=lo) (ρ:=ρ1)with e2|⟨l,ρ2,e2⟩<;>simp only[e2]at e
  ·cases e
  rcases lW (f:=hi) (ρ:=ρ2)with e3|⟨u,ρ3,e3⟩<;>simp only[e3]at e
  ·cases e
  cases e;refine⟨F,ρ,H0,d,ρ1,R,e1,λv H1 H1' s1 R1 r1=>⟨F,ρ1,H1,l,ρ2,R1,e2,λH2 H2' s2 R2=>⟨F,ρ2,H2,u,_,R2,e3,λH3 H3' s3 R3=>?_⟩⟩⟩;obtain⟨a,ys,rfl,q1,q2⟩:=rd (Rep.mono (s2.trans s3) _ _ r1);exact⟨a,ys,rfl,R3.sub.seq q1,λp hp=>k p _ _ _ (s1.trans (s2.trans s3)) (R3.newOwn hp _) lQ (R3.h0none hp) (R3.bNone hp) (R3.apart hp) (yL q2)⟩
 cases d with
 |lst xs=>exact gen xs (λr=>by unfold Rep at r;obtain⟨a,ys,rfl,q1,q2⟩:=r;exact⟨a,ys,rfl,SqL.of q1,q2⟩) e
 |fzl xs=>exact gen xs (λr=>by unfold Rep at r;exact r) e
 |_=>cases e
end
section
variable{X:Cx}{G:Bg}
def r6:FE:=λ_=>none
theorem Dw:PE X e (tF G r6):=λpins s σ H Q I h=>by obtain⟨F,ρ,H0,d,ρ',R,e,_⟩:=h;cases e
def zJ(G:Bg)(c:Nat)(t:Ty->Option Bool):Prop:=(∀y b,t y=some b->bR G.K (y.val G) (.ref (G.ca c))=some b)/\∀j b,t (.c j)=some b->BF G.K (G.ca j)
theorem zK{c:Nat}{t:Ty->Option Bool}(h:zJ G c t)(hK:X.K=G.K:=by rfl):ng X (.builtin "isinstance") (λxs H Q=>∃d x b,xs=[x,(Ty.c c).v G]/\Rep G H d x/\t (tyD d)=some b/\Q (.bl b) H):=
 wN (X:=X) (.c c) (by rw[hK];exact h.1) (by rw[hK];exact h.2) hK
end
def ddp(acc:List Key)(k:Key):List Key:=if acc.any (λz=>decide (z=k))then acc else acc++[k]
def pE(ks:List Key):List Key:=ks.foldl ddp []
theorem Fy(acc:List Key)(k j:Key):(ddp acc k).any (λz=>decide (z=j))=(acc.any (λz=>decide (z=j))||decide (j=k)):=by
 unfold ddp;by_cases h:acc.any (λz=>decide (z=k))=true
 ·rw[ag h];by_cases e:j=k
  ·subst e;rw[h];simp
  ·simp[e]
 ·rw[ah h,List.any_append];by_cases e:j=k
  ·subst e;simp
  ·have hb:¬k=j:=λz=>e z.symm;simp[hb,e]
theorem AE(acc:List Key)(k:Key):(ddp acc k).length=if acc.any (λz=>decide (z=k))=true then acc.length else acc.length+1:=by unfold ddp;split<;>simp
theorem wQ(ks:List Key)(i:Nat)(h:i<ks.length):pE (ks.take (i+1))=ddp (pE (ks.take i)) ks[i]:=by unfold pE;rw[List.take_add_one,aR h,List.foldl_append];rfl
theorem Dy(ks:List Key):(pE ks).length<=ks.length:=by
 have gen:∀(l:List Key) (acc:List Key),(l.foldl ddp acc).length<=acc.length+l.length:=by
  intro l
  induction l with
  |nil=>intro acc;simp
  |cons k l ih=>
   intro acc;rw[fY,aG];have h1:=ih (ddp acc k);have h2:(ddp acc k).length<=acc.length+1:=by rw[AE];split<;>omega
   omega
 have:=gen ks [];simpa [pE]using this
theorem set_same{prog:au}{w:ak}{h:Heap}{S S':Key->Bool}{n n':Nat}(hS:h.SetOf (md prog w) a S n)(e:∀k,S k=S' k)(en:n=n'):h.SetOf (md prog w) a S' n':=by obtain rfl:S=S':=funext e;subst en;exact hS
section
variable{prog:au}{w:ak}{A:aw}{R:cN->ae->Prop}{I:Addr}{fp wr:List Addr}{GG:Array eA->Array eA->Prop}{n:Nat}{PP:Nat->aa->Prop}{SS:Nat->ae->Prop}
theorem DA(W:WalksS prog w A.in1 I fp wr GG n PP SS)(S:Addr)(hSf:S∉fp)(ks:List Key)(hn:ks.length=n)
  (hval:∀i v (h:i<ks.length),PP i v->(md prog w).is ks[i] v=true/\v.scannable=true) (hb:n+1<scanBound):∀(k i:Nat) (s:ae),n - i=k->i<=n->SS i s->
   s.heap.SetOf (md prog w) S (λj=>(pE (ks.take i)).any (λz=>decide (z=j))) (pE (ks.take i)).length->
   (∀s',Moved (S::wr) GG s s'->s'.heap.SetOf (md prog w) S (λj=>(pE ks).any (λz=>decide (z=j))) (pE ks).length->R (.ok (.ret .none)) s')->
   bJ (model prog w) A (.builtin "set.update.loop" ⟨[.ref S,.ref I],[]⟩) R s:=by
 have hSw:S∉wr:=λz=>hSf (W.sub _ z);have up:∀b∈wr,b∈S::wr:=λb z=>aU _ z;intro k
 induction k with
 |zero=>
  intro i s hk hi hst hS hR;obtain rfl:i=n:=by omega
  refine cX dE ?_;rw[c8 cv _];show af _ A.in1 (pyNext (.ref I)>>=_) _ _ s;refine ar (W.done s _ _ hst λs' hm=>?_);show af _ A.in1 (ret Value.none) _ _ s';rw[hX (by omega)]at hS;refine ay (hR s' (hm.mono up) ?_);obtain⟨o,es,ep,t,ho,more⟩:=hS;exact⟨o,es,ep,t,hm.heap S _ hSw ho,more⟩
 |succ k ih=>
  intro i s hk hi hst hS hR;have hlt:i<n:=by omega
  have hlk:i<ks.length:=by omega
  refine cX dE ?_;rw[c8 cv _];show af _ A.in1 (pyNext (.ref I)>>=_) _ _ s;refine ar (W.item i s _ _ hlt hst λv s' hP hst' hm=>?_);obtain⟨kv,sc⟩:=hval i v hlk hP;have hS':s'.heap.SetOf (md prog w) S (λj=>(pE (ks.take i)).any (λz=>decide (z=j))) (pE (ks.take i)).length:=by obtain⟨o,es,ep,t,ho,more⟩:=hS;exact⟨o,es,ep,t,hm.heap S _ hSw ho,more⟩
  show af _ A.in1 (holding [v] (setAdd S v)>>=_) _ _ s';refine ar (bT ?_);unfold setAdd;refine bT ?_;refine ar ((md prog w).pyHash (k:=ks[i]) kv ?_);have room:(pE (ks.take i)).length+1<scanBound:=by have:=Dy (ks.take i);rw[bu]at this;omega
  refine wpAny_setAddHashed_of (knd:=md prog w) (s:={ s' with toks:=s'.toks+1 }) kv sc hS' room λh' hsb hS2=>?_;have hSi:h'.SetOf (md prog w) S (λj=>(pE (ks.take (i+1))).any (λz=>decide (z=j))) (pE (ks.take (i+1))).length:=
   set_same hS2 (λj=>by rw[wQ ks i hlk,Fy]) (by rw[wQ ks i hlk,AE])
  refine ay ⟨eY cv _,ih (i+1) _ (by omega) hlt (W.frame _ s' _ _ hst' (fj _) λb z o e=>?_) hSi λs'' hm'' hS''=>?_⟩
  ·rw[hsb.2 b (λy:b=S=>hSf (by rw[<-y];exact z))];exact e
  ·refine hR s'' (gA W.gtrans ((hm.mono up).then_heap (fj _) λb o z e=>?_) hm'') hS'';rw[hsb.2 b (λy:b=S=>z (by rw[y];exact aO))];exact e
end
theorem FB(l:Addr)(us:Array aa)(m:Nat)(b:Addr)(o:Obj)(ws:Array aa)(m2:Nat)(hc:o.cls=.type "tuple")(hd:o.data=.seq ws m2)(z0:¬(!us.isEmpty&&dD (us.size+ws.size))=true)(z1:us.size<=av)(z2:us.size+ws.size<=av+1):
  Meets (Builtin.«list.extend» ⟨[.ref l,.ref b],[]⟩) (λ_ R s=>s.heap.get? l=some { cls:=.type "list", data:=.seq us m }/\s.heap.get? b=some o/\R (.ok (.ret Value.none)) { s with heap:=s.heap.update l (du λx=>x++ws),toks:=s.toks }):=by
 obtain⟨c,dd,data,sl⟩:=o;cases hc;cases hd;refine .of_wp λprog w A R s h=>?_;obtain⟨hp,g,d,tk,os⟩:=s;obtain⟨hl,hb,h⟩:=h;have f2:=AutoSeq1.sub_tuple_tuple;have f3:=AutoSeq1.sub_list_list;have f4:=AutoSeq1.sub_tuple_list;have f5:=AutoSeq1.sub_list_tuple;have z3:(us++ws).size<=av+1:=Array.size_append (xs:=us) (ys:=ws)▸z2
 wp_walk using (wpAny_updateSeq hl rfl (hz:=z1) (_hz':=z3)),gY hl,gY hb
 exact⟨_,rfl,h⟩
section
variable{X:Cx}{G:Bg}
def yS(K:ai):V->List V->Hp->VK->Prop:=λx vs H Q=>∃l b xs zs,x=.ref l/\vs=[.ref b]/\H l=some (.lst xs)/\SqT K H b zs/\xs.length+zs.length<=av/\Q .non (upd H l (.lst (xs++zs)))
theorem zL:MtM X "list.extend" (yS X.K):=by
 intro pins s σ H x vs v us Q I rx rv h;obtain⟨l,b,xs,zs,rfl,rfl,hH,hB,hz,q⟩:=h;cases rx;obtain⟨u,rfl,ru⟩:=rv.one;cases ru;obtain⟨z,its,n,r,hl,e⟩:=I.lstM hH;obtain⟨its2,r2,⟨o,e2,hc,n2,hd⟩,hz2⟩:=I.tuple hB;have hl2:=r2.length;have hsz:its.toArray.size+its2.toArray.size<=av:=by rw[aJ,aJ];omega
 have hlong:¬(!its.toArray.isEmpty&&dD (its.toArray.size+its2.toArray.size))=true:=by rw[ym hsz,jh];exact aP
 refine gO eO ⟨_,e,rfl⟩ iu (ie _ _)
  (FB l its.toArray n b o its2.toArray n2 hc hd hlong (by rw[aJ];omega) (by omega)) ⟨e,e2,?_⟩
 refine⟨.non,_,I.lset (its':=its++its2) hH e (by simp) (r.append r2) ?_,rfl,q⟩;rw[aC];omega
def uc(i:Nat)(f:FE):FE:=λρ=>match mT ρ i with
 |some _=>match f ρ with
  |some (.tup es,ρ1)=>match mT ρ1 i with
   |some ds=>if ds.length+es.length<=1000 then some (.non,putAt ρ1 i (ds++es))else none
   |none=>none
  |_=>none
 |none=>none
theorem zM{i:Nat}(h:PE X e (tBM G.K "list" (yS G.K) (qf i) (uW (tF G f) xw))):PE X e (tF G (uc i f)):=PE.weak h λσ H Q hh=>by
 obtain⟨F,ρ,H0,d,ρ',R,e,k⟩:=hh;unfold uc at e;cases e0:mT ρ i with
 |none=>simp only[e0]at e;cases e
 |some ds0=>
  simp only[e0]at e;rcases lW (f:=f) (ρ:=ρ)with e1|⟨x,ρ1,e1⟩<;>simp only[e1]at e
  ·cases e
  ·cases x with
   |tup es=>
    cases e2:mT ρ1 i with
    |none=>simp only[e2]at e;cases e
    |some ds=>
     simp only[e2]at e;split at e
     ·rename_i hl;cases e;obtain⟨a,xs,s1,s2,s3,_⟩:=nR R e0;refine⟨.ref a,s1,.inl ⟨rfl,xs,SqL.of s2⟩,F,ρ,H0,_,ρ1,R,e1,λv H1 H1' s R' rs=>?_⟩;unfold Rep at rs;obtain⟨p,ys,rfl,hp,rs⟩:=rs;obtain⟨a',xs',t1,t2,t3,t4⟩:=nR R' e2;rw[s1]at t1;cases t1;refine⟨a,p,xs',ys,rfl,rfl,t2,SqT.mono R'.sub hp,?_,k _ _ _ s (t4 _ _ (mY t3 rs)) sC⟩;rw[<-lI t3,<- lI rs];exact oB hl
     ·cases e
   |_=>cases e
end
abbrev one(j:Nat)(led pl:Bool):fD:=⟨7,#[j],#[],0,led,0,pl⟩
abbrev prb(i q:Nat):eW:=⟨i,0,i,q,none⟩
section
variable{j i q:Nat}{led pl:Bool}{h h1:Int}
theorem p7(i:Nat):(one j led pl).slot i=if j=i then .live 0 else .empty:=by
 by_cases z:j<i
 ·have:j≠i:=by omega
  simp[jv,d5,dN,ef,z,this]
 ·simp[jv,d5,dN,ef,z]
theorem Ls(i:Nat):fZ 7 i - i=0:=by unfold fZ;split<;>omega
theorem AF:(one j led pl).advance (prb i q)=prb ((i * 5+1+q / 32) % 8) (q / 32):=by unfold SetTable.advance SetTable.leap;simp[Ls]
theorem Lu{F:Nat->Int}(e:F 0=h1):∀(f:Nat) (p:eW),b7 (one j led pl) F h f p=b7 (one j led pl) (λ_=>h1) h f p
 |0,p=>rfl
 |f+1,p=>by
  unfold b7;rw[p7];by_cases z:j=p.j
  ·rw[ag z];dsimp only;rw[e,Lu e f]
  ·rw[ah z]
theorem AG(hh:h1≠h):∀(n f i q:Nat),q<32 ^ n->n+2<=f->∃j',j'≠j/\b7 (one j led pl) (λ_=>h1) h f (prb i q)=some (.empty j' none)
 |n,0,i,q,_,hf=>aq hf (by omega)
 |n,f+1,i,q,hq,hf=>by
  unfold b7;rw[p7];by_cases z:j=i
  ·rw[ag z];dsimp only;rw[ah (by simpa using hh),AF];cases n with
   |zero=>
    obtain⟨f,rfl⟩:∃g,f=g+1:=⟨f - 1,by omega⟩;unfold b7;rw[p7];have q0:q=0:=by simpa using hq
    have:¬j=(i * 5+1+q / 32) % 8:=by subst z q0;omega
    rw[ah this];exact⟨_,λe=>this e.symm,rfl⟩
   |succ n=>exact AG hh n f _ _ (by rw[jD]at hq;omega) (by omega)
  ·rw[ah z];exact⟨_,λe=>z e.symm,rfl⟩
theorem BM{n:Nat}(hn:n<=13)(hq:q<32 ^ n):(∃j',j'≠j/\(one j led pl).probe (λ_=>h1) h (prb i q)=some (.empty j' none))\/(h1=h/\j=i/\(one j led pl).probe (λ_=>h1) h (prb i q)=some (.candidate j 0 (prb ((i * 5+1+q / 32) % 8) (q / 32)))):=by
 by_cases hh:h1=h
 ·by_cases z:j=i
  ·right;refine⟨hh,z,?_⟩;subst z hh;show b7 _ _ _ (219+1) _=_;unfold b7;rw[p7,ag rfl];dsimp only;rw[ag (by simp),AF]
  ·left;refine⟨i,λe=>z e.symm,?_⟩;show b7 _ _ _ (219+1) _=_;unfold b7;rw[p7,ah z]
 ·exact .inl (AG hh n 220 i q hq (by omega))
end
variable{ks k1 k2:List Key}{Q:Bool->ae->Prop}{a2:Addr}{ep:Nat}
section
variable{prog:au}{w:ak}{A:aw}{E:aa->ae->Prop}{s:ae}
abbrev TK(prog:au)(w:ak):=IsTupleKey (md prog w)
theorem cls_val(n:Nat){v:aa}(h:dj v=true):dO n v=pure false:=by
 cases v with
 |ref a=>simp[dj]at h
 |_=>first|rfl|simp[dO]|(unfold dO;rfl)
theorem AH(hk:TK prog w s.heap ks a)(h:Q false s):af (model prog w) A (dO 8 (.ref a)) Q E s:=by
 have hT:=hk.typeIs;obtain⟨o,items,n,ho,_,hd,hi⟩:=hk;unfold dO;refine ar (wpAny_typeOf hT ?_);show af _ _ (pure true>>=_) _ _ s;refine ar (ay ?_);simp only[Bool.not_true,dH,if_false];refine ar (ji ho hd ?_);refine ar ?_;show af _ _ (forIn items _ _) _ _ s;rw[<-iK];refine fV _ (λrest r s'=>r.1=none/\s'=s/\∀v∈rest,dj v=true) _ ?_ ?_ _ _ ⟨rfl,rfl,hi.byValue⟩
 ·rintro v rest r s' ⟨hr,rfl,hall⟩;rw[cls_val _ (hall v aO)];refine ar (ay ?_);simp only[dH,if_false];exact ay ⟨rfl,rfl,λu hu'=>hall u (aU _ hu')⟩
 ·rintro⟨r1,r2⟩ s' ⟨hr,rfl,_⟩;simp only at hr;subst hr;exact ay h
theorem FC(n:Nat){v:aa}(h:dj v=true):∃b,hashByValue n v=pure b:=by
 cases v with
 |ref a=>simp[dj]at h
 |_=>cases n<;>first|exact⟨_,rfl⟩|(unfold hashByValue;exact⟨_,rfl⟩)
theorem FD(hk:TK prog w s.heap ks a)(h:∀b,Q b s):af (model prog w) A (hashByValue 8 (.ref a)) Q E s:=by
 have hT:=hk.typeIs;obtain⟨o,items,n,ho,_,hd,hi⟩:=hk;unfold hashByValue;refine ar (i8 hT F.slot_tuple_hash.lookup ?_);show af _ _ (seqItems? (.ref a)>>=_) _ _ s;refine ar (ji ho hd ?_);refine ar ?_;show af _ _ (forIn items _ _) _ _ s;rw[<-iK];refine fV _ (λrest r s'=>s'=s/\∀v∈rest,dj v=true) _ ?_ ?_ _ _ ⟨rfl,hi.byValue⟩
 ·rintro v rest r s' ⟨rfl,hall⟩;obtain⟨b,hb⟩:=FC 7 (hall v aO);rw[hb];refine ar (ay ?_);cases b
  ·exact ay (ay (h _))
  ·exact ay ⟨rfl,λu hu'=>hall u (aU _ hu')⟩
 ·rintro⟨r1,r2⟩ s' ⟨rfl,_⟩;cases r1 with
  |none=>exact ay (h _)
  |some b=>exact ay (h _)
theorem FH{a1:Addr}(h1:TK prog w s.heap k1 a1)(h2:TK prog w s.heap k2 a2)(h:Q false s):af (model prog w) A (searchCouldBeSeen (.ref a2) [.ref a1]) Q E s:=by
 unfold searchCouldBeSeen;refine ar ?_;show af _ _ (forIn [Value.ref a1] _ _) _ _ s;refine fV _ (λrest r s'=>r=(none,())/\s'=s/\∀v∈rest,v=.ref a1) _ ?_ ?_ _ _ ⟨rfl,rfl,λv hv=>by simpa using hv⟩
 ·rintro v rest r s' ⟨rfl,rfl,hall⟩;obtain rfl:=hall v aO;have go:∀v∈rest,v=Value.ref a1:=λu hu'=>hall u (aU _ hu');dsimp only;split
  ·exact ay ⟨rfl,rfl,go⟩
  ·refine ar (ic h2 ?_);refine ar (ic h1 ?_);refine ar (AH h2 ?_);refine ar (AH h1 ?_);exact ay ⟨rfl,rfl,go⟩
 ·rintro r s' ⟨rfl,rfl,_⟩;exact ay h
theorem r9{S a1 a2:Addr}{k1 k2:List Key}{o:Obj}{ep j:Nat}{led pl:Bool}{h h1:Int}{Q:SetFound->ae->Prop}(hu:A.units<cLine)(t1:TK prog w s.heap k1 a1)(t2:TK prog w s.heap k2 a2)(ne:k1≠k2)
  (ho:s.heap.get? S=some o) (hd:o.data=.set #[(h1,.ref a1)] ep (one j led pl)) (hQ:∀j',j'≠j->Q (.free j' false) s):∀(fuel n i q:Nat) (st:Option eW),n<=13->1<=fuel->(i=j->n+2<=fuel)->q<32 ^ n->st.getD ((one j led pl).probeStart h)=prb i q->af (model prog w) A (setSearchFrom S (.ref a2) h true fuel st) Q E s
 |0,n,i,q,st,_,hf,_,_,_=>aq hf (by omega)
 |fuel+1,n,i,q,st,hn,_,hf,hq,hst=>by
  unfold setSearchFrom;refine ar (dP ho hd rfl ?_);dsimp only;rw[ah (by simp[i6])];have P:=BM (led:=led) (pl:=pl) (j:=j) (i:=i) (h:=h) (h1:=h1) hn hq;unfold SetTable.probe at P ⊢;rw[hst,Lu (h1:=h1) rfl];rcases P with ⟨j',hj,e⟩|⟨e1,e2,e⟩
  ·rw[e];exact ay (hQ j' hj)
  ·rw[e];dsimp only;rw[show jQ (λx:Int×aa=>x.snd) (Array.filter (λx=>x.fst==h) #[(h1,Value.ref a1)]).toList=[.ref a1] by simp[e1]];have hf2:=hf e2.symm;have si:∀led,(one j led pl).sameMemory 0 7=some true:=λ_=>rfl;cases led;refine ar (FH t1 t2 ?_)
   all_goals
    refine ar (bT (wpAny_eqBool_tuple hu t1 t2 ?_));refine ar (dP ho hd rfl ?_);rw[aX ne];dsimp only;rw[ah (by decide),si];dsimp only;rw[ag rfl,p7,ag rfl];refine ar (wpAny_isSame_ref_self ?_);refine ar (ay ?_);cases n with
    |zero=>
     have q0:q=0:=by simpa using hq
     exact r9 hu t1 t2 ne ho hd hQ fuel 0 _ _ _ hn (by omega) (λe=>aq e (by subst e2 q0;omega)) (by rw[q0];decide) rfl
    |succ n=>exact r9 hu t1 t2 ne ho hd hQ fuel n _ _ _ (by omega) (by omega) (λ_=>by omega) (by rw[jD]at hq;omega) rfl
theorem AI{S:Addr}{es:Array (Int×aa)}{t:fD}{h:Int}{P:Nat->Prop}(ho:s.heap.get? S=some o)(hd:o.data=.set es ep t)(hf:t.fits es.size=true)(t2:TK prog w s.heap ks a2)
  (hs:∀Q:SetFound->ae->Prop,(∀j',P j'->Q (.free j' false) s)->af (model prog w) A (setSearch S (.ref a2) h true) Q E s) (hT:∀j',P j'->(t.put j').1.tooFull=false) (hz:∀j',P j'->(cR es (t.put j').2 (h,Value.ref a2)).size<=av)
  (hQ:∀j' pl,P j'->Q true { s with heap:=s.heap.update S (gR (cR es (t.put j').2 (h,.ref a2)) { (t.put j').1 with plain:=pl }) }):af (model prog w) A (setAddHashed S (.ref a2) h) Q E s:=by
 unfold setAddHashed setAddHashedIn;refine bT (ar (dP ho hd hf ?_));dsimp only;rw[ah (by simp[byScan,Value.scannable])];refine ar (hs _ λj' hj=>?_);dsimp only;refine ar (dP ho hd hf ?_);dsimp only;have fin:∀b:Bool,af (model prog w) A (do
   storeSet S (cR es (t.put j').2 (h,.ref a2)) (if b=true then (t.put j').1 else { (t.put j').1 with plain:=false })
   if (!false&&(if b=true then (t.put j').1 else { (t.put j').1 with plain:=false }).tooFull)=true then do setRelay S (SetTable.grown (es.size+1));pure true else pure true) Q E s:=λb=>by
  refine ar (wpAny_storeSet_of ho hd ?_ (hz j' hj));have e:(if b=true then (t.put j').1 else { (t.put j').1 with plain:=false })={ (t.put j').1 with plain:=if b=true then (t.put j').1.plain else false }:=by cases b<;>rfl
  rw[e,ah (by have:=hT j' hj;unfold i7 gf at this ⊢;rw[this];decide)];exact ay (hQ _ _ hj)
 split
 ·exact ar (FD t2 λb=>fin b)
 ·exact ar (ay (fin true))
end
section
variable{j i q:Nat}{led pl:Bool}{h h1:Int}
theorem vB(i:Nat):(eX 0 0 led).put i=(one i led true,0):=by simp[gp,eX,d5,dN,ef,cR]
theorem uO{α:Type}(x y:α):((one j led pl).put i).1.place.size=2/\((one j led pl).put i).1.dummies=#[]/\((one j led pl).put i).1.mask=7/\(cR #[x] ((one j led pl).put i).2 y).size=2:=by
 by_cases z:j<i
 ·simp[gp,d5,dN,ef,cR,z]
 ·simp[gp,d5,dN,ef,cR,z]
end
variable{led:Bool}{j:Nat}
section
variable{prog:au}{w:ak}{A:aw}{E:aa->ae->Prop}{s:ae}
theorem DB{hp:Heap}{S:Addr}{es es':Array (Int×aa)}{t t':fD}(ho:hp.get? S=some o)(hd:o.data=.set es ep t):(hp.update S (gR es' t')).get? S=some { o with data:=.set es' (ep+1) t' }:=by have:=ib (gR es' t') ho (by rw[putSet_of es' t' hd];rfl);rw[putSet_of es' t' hd]at this;exact this
theorem BN{S:Addr}{h:Int}(ho:s.heap.get? S=some o)(hd:o.data=.set #[] ep (.fresh 0 0 led))(t2:TK prog w s.heap ks a)
  (hQ:∀h' j pl,dm S s.heap h'->h'.get? S=some { o with data:=.set #[(h,.ref a)] (ep+1) (one j led pl) }->Q true { s with heap:=h' }):af (model prog w) A (setAddHashed S (.ref a) h) Q E s:=by
 refine AI (P:=λ_=>True) ho hd rfl t2 (λQ hq=>?_) (λj' _=>by rw[vB];rfl) (λj' _=>by rw[vB,cb];exact d6 (by decide:1<_)) λj' pl _=>hQ _ j' pl (iy ..) ?_
 ·unfold setSearch setSearchFrom;refine ar (dP ho hd rfl ?_);dsimp only;rw[ah (by simp[i6,eX]),show ∀F p,(eX 0 0 led).probe F h p=some (.empty p.j p.dummy) from λ_ _=>rfl];exact ay (hq _ trivial)
 ·rw[DB ho hd,vB];rfl
theorem zN{S a1:Addr}{pl:Bool}{h h1:Int}(hu:A.units<cLine)(t1:TK prog w s.heap k1 a1)(t2:TK prog w s.heap k2 a2)(ne:k1≠k2)
  (ho:s.heap.get? S=some o) (hd:o.data=.set #[(h1,.ref a1)] ep (one j led pl))
  (hQ:∀h' es t,dm S s.heap h'->h'.get? S=some { o with data:=.set es (ep+1) t }->es.size=2->t.fits 2=true->Q true { s with heap:=h' }):af (model prog w) A (setAddHashed S (.ref a2) h) Q E s:=by
 refine AI (P:=λj'=>j'≠j) ho hd rfl t2 (λQ hq=>?_) (λj' _=>?_) (λj' _=>by rw[(uO _ _).2.2.2,cb];decide) λj' pl' _=>hQ _ _ _ (iy ..) (DB ho hd) (uO _ _).2.2.2 ?_
 ·have hb:eZ h<32 ^ 13:=by unfold eZ;omega
  exact r9 hu t1 t2 ne ho hd hq 100000 13 (eZ h % 8) (eZ h) none (by omega) (by omega) (λ_=>by omega) hb (by show SetTable.Probe.mk _ _ _ _ _=_;rw[Ls])
 ·obtain⟨a,b,c,_⟩:=uO (j:=j) (i:=j') (led:=led) (pl:=pl) 0 0;unfold i7 gf;rw[a,b,c];rfl
 ·obtain⟨a,b,c,_⟩:=uO (j:=j) (i:=j') (led:=led) (pl:=pl) 0 0;unfold SetTable.fits gf;dsimp only;rw[a,b,c];rfl
end
section
variable{prog:au}{w:ak}{A:aw}{R:cN->ae->Prop}{I:Addr}{fp wr:List Addr}{GG:Array eA->Array eA->Prop}{PP:Nat->aa->Prop}{SS:Nat->ae->Prop}
theorem TK.kept{h h':Heap}(t:TK prog w h ks a)(e:∀o,h.get? a=some o->h'.get? a=some o):TK prog w h' ks a:=by obtain⟨o,its,n,ho,m⟩:=t;exact⟨o,its,n,e o ho,m⟩
def ID(h:Heap)(S:Addr)(n:Nat):Prop:=∃o es ep t,h.get? S=some o/\o.ExactSet/\o.data=.set es ep t/\es.size<scanBound/\t.fits es.size=true/\es.size=n
theorem BO(W:WalksS prog w A.in1 I fp wr GG 2 PP SS){S a1:Addr}{s:ae}(hSf:S∉fp)(ne:k1≠k2)(n1:a1∉S::wr)(n2:a2∉S::wr)(p1:∀v,PP 0 v->v=.ref a1)(p2:∀v,PP 1 v->v=.ref a2)(hu:A.in1.units<cLine)
  (hst:SS 0 s) (t1:TK prog w s.heap k1 a1) (t2:TK prog w s.heap k2 a2) (ho:s.heap.get? S=some o) (hx:o.ExactSet) (hd:o.data=.set #[] ep (.fresh 0 0 led)) (hR:∀s',Moved (S::wr) GG s s'->ID s'.heap S 2->R (.ok (.ret .none)) s'):
   bJ (model prog w) A (.builtin "set.update.loop" ⟨[.ref S,.ref I],[]⟩) R s:=by
 have hSw:S∉wr:=λz=>hSf (W.sub _ z);have up:∀b∈wr,b∈S::wr:=λb z=>aU _ z;have q1:a1∉wr:=λz=>n1 (up _ z);have q2:a2∉wr:=λz=>n2 (up _ z);have e1:a1≠S:=λz=>n1 (by rw[z];exact aO);have e2:a2≠S:=λz=>n2 (by rw[z];exact aO);refine cX dE ?_;rw[c8 cv _];show af _ A.in1 (pyNext (.ref I)>>=_) _ _ s;refine ar (W.item 0 s _ _ (by decide) hst λv s1 hP st1 m1=>?_);obtain rfl:=p1 v hP;show af _ A.in1 (holding _ (setAdd S _)>>=_) _ _ s1;refine ar (bT ?_);unfold setAdd;refine bT ?_;have u1:TK prog w s1.heap k1 a1:=t1.kept λo=>m1.heap a1 o q1;have u2:TK prog w s1.heap k2 a2:=t2.kept λo=>m1.heap a2 o q2;refine ar (iM hu u1 ?_);refine BN (m1.heap S _ hSw ho) hd u1 λh' j pl hb hg=>?_;refine ay ⟨eY cv _,?_⟩;have st1':=W.frame (0+1) s1 h' _ st1 (eT _ (k1.length+1)) λb z o e=>by rw[hb.2 b (λy:b=S=>hSf (by rw[<-y];exact z))];exact e
 have m1':Moved (S::wr) GG s { s1 with heap:=h',toks:=s1.toks+(k1.length+1) }:=(m1.mono up).then_heap (eT _ _) λb o z e=>by rw[hb.2 b (λy:b=S=>z (by rw[y];exact aO))];exact e
 have v1:TK prog w h' k1 a1:=u1.kept λo e=>by rw[hb.2 a1 e1];exact e
 have v2:TK prog w h' k2 a2:=u2.kept λo e=>by rw[hb.2 a2 e2];exact e
 refine cX dE ?_;rw[c8 cv _];show af _ A.in1 (pyNext (.ref I)>>=_) _ _ _;refine ar (W.item 1 _ _ _ (by decide) st1' λv s2 hP st2 m2=>?_);obtain rfl:=p2 v hP;show af _ A.in1 (holding _ (setAdd S _)>>=_) _ _ s2;refine ar (bT ?_);unfold setAdd;refine bT ?_;have w1:TK prog w s2.heap k1 a1:=v1.kept λo=>m2.heap a1 o q1;have w2:TK prog w s2.heap k2 a2:=v2.kept λo=>m2.heap a2 o q2;refine ar (iM hu w2 ?_);refine zN hu w1 w2 ne (m2.heap S _ hSw hg) rfl λh2 es t hb2 hg2 z2 f2=>?_;refine ay ⟨eY cv _,?_⟩;have st2':=W.frame (1+1) s2 h2 _ st2 (eT _ (k2.length+1)) λb z o e=>by rw[hb2.2 b (λy:b=S=>hSf (by rw[<-y];exact z))];exact e
 have m2':=gA W.gtrans m1' ((m2.mono up).then_heap (tk:=s2.toks+(k2.length+1)) (eT _ _) λb o z e=>by rw[hb2.2 b (λy:b=S=>z (by rw[y];exact aO))];exact e);refine cX dE ?_;rw[c8 cv _];show af _ A.in1 (pyNext (.ref I)>>=_) _ _ _;refine ar (W.done _ _ _ st2' λs3 m3=>?_);show af _ A.in1 (ret Value.none) _ _ s3;refine ay (hR s3 (gA W.gtrans m2' (m3.mono up)) ?_);exact⟨_,es,_,t,m3.heap S _ hSw hg2,hx,rfl,by rw[z2];decide,by rw[z2];exact f2,z2⟩
end
theorem sub_tuple_set:isSubtype (.type "tuple") (.type "set")=pure false:=by rw[jk];kernel_rfl
theorem sub_tuple_frozenset:isSubtype (.type "tuple") (.type "frozenset")=pure false:=by rw[jk];kernel_rfl
variable{ax:Addr}{itO:Obj}
section
variable{prog:au}{w:ak}{A:aw}{E:aa->ae->Prop}{s:ae}{Q:aa->ae->Prop}
abbrev qN(led:Bool):Obj:={ cls:=.type "set", dict:=none,data:=.set #[] 0 (.fresh 0 0 led) }
abbrev inK(ks:List Key):Key->Bool:=λj=>(pE ks).any (λz=>decide (z=j))
structure Lv(prog:au)(w:ak)(h:Heap)(a:Addr)(items:Array aa)(ks:List Key):Prop where
 len:ks.length=items.size
 key:∀i v (hi:i<ks.length),items[i]?=some v->(md prog w).is ks[i] v=true/\v.scannable=true
 bnd:items.size+1<scanBound
def FI(s:ae)(PS:Heap->Prop)(E:aa->ae->Prop):cN->ae->Prop:=
 wants (λr s2=>r=.none/\∃h2 k2,s2={ s with heap:=h2,toks:=k2 }/\PS h2/\∀b o,b<s.heap.objs.size->s.heap.get? b=some o->h2.get? b=some o) E
theorem yT{items:Array aa}{SS:Nat->Heap->Prop}(K:Lv prog w s.heap ax items ks)(hlt:ax<s.heap.objs.size)
  (W:Walks prog w A.in1 (s.heap.objs.size+1) [s.heap.objs.size+1,ax] [s.heap.objs.size+1] items.size (λi v=>items[i]?=some v) SS) (st:SS 0 ((s.heap.push (qN led)).push itO)) {R:cN->ae->Prop}
  (hR:∀h2 k2,h2.SetOf (md prog w) s.heap.objs.size (inK ks) (pE ks).length->(∀b o,b<s.heap.objs.size->s.heap.get? b=some o->h2.get? b=some o)->R (.ok (.ret .none)) { s with heap:=h2,toks:=k2 }) (tk:Nat):
  bJ (model prog w) A (.builtin "set.update.loop" ⟨[.ref s.heap.objs.size,.ref (s.heap.objs.size+1)],[]⟩) R { s with heap:=(s.heap.push (qN led)).push itO,toks:=tk }:=by
 have notin:s.heap.objs.size∉[s.heap.objs.size+1,ax]:=by
  intro z;rcases aT.mp z with z|z
  ·exact aq z (aH (dR _))
  ·exact aq (aW.mp z) (gj hlt)
 have e0:((s.heap.push (qN led)).push itO).get? s.heap.objs.size=some (qN led):=aF _ (ba _ rfl);refine DA W.toS s.heap.objs.size notin ks K.len (λi v hi hv=>K.key i v hi hv) K.bnd (items.size - 0) 0 _ (by omega) (cI _) st ?_ λs2 mv S2=>?_
 ·exact⟨_,#[],0,_,e0,⟨rfl,rfl,rfl⟩,rfl,λe he=>by simp at he,λk=>by simp[pE],by unfold scanBound;decide,by rfl,rfl⟩
 ·obtain⟨h2,g2,d2,k2,o2⟩:=s2;have eg:g2=s.gens:=mv.gens;have ed:d2=s.drawn:=mv.drawn;have eo:o2=s.os:=mv.os;subst eg ed eo;refine hR h2 k2 S2 λb o hb e=>mv.heap b o (λz=>?_) (aF _ (aF _ e));rcases aT.mp z with z|z
  ·exact aq z (aH hb)
  ·exact aq (aW.mp z) (aH (cQ hb))
theorem zO(a:aa){Q₁:aa->ae->Prop}(h:Q₁ (.ref s.heap.objs.size) { s with heap:=s.heap.push (qN (!w.params.followText "set-order")) }):
  bJ (model prog w) A (.call (.builtin "set.__new__") ⟨[.type "set", a],[]⟩) (wants Q₁ E) s:=by
 refine jb ?_;show af _ A.in1 (do checkBuiltinCall "set.__new__" ⟨[.type "set", a],[]⟩;again (.builtin "set.__new__" ⟨[.type "set", a],[]⟩)) _ _ s;refine ar (wpAny_of_eq (F.newCall_set_1 a) (ay ⟨eY jc _,cX F.entry_set_new ?_⟩));rw[c8 jc _];unfold Builtin.«set.__new__» jU;have hsub:=sub_set_self;obtain⟨hp,g,d,tk,os⟩:=s;dsimp only
 wp_walk
 refine wpAny_askSetting (ay ?_);dsimp only;simp only[newObj];refine ar (wpAny_alloc (ay ?_));exact ay h
theorem vC{T:String}{PS:Heap->Prop}(ho:s.heap.get? ax=some o)(hc:o.cls=.type T)
  (u1:isSubtype (.type T) (.type "set")=pure false) (u2:isSubtype (.type T) (.type "frozenset")=pure false) (u3:(Value.type T==Value.type "dict")=false)
  (itr:∀(A:aw) (Q:aa->ae->Prop) (E:aa->ae->Prop) (s1:ae),s1.heap.get? ax=some o->Q (.ref s1.heap.objs.size) { s1 with heap:=s1.heap.push itO }->af (model prog w) A (pyIter (.ref ax)) Q E s1)
  (fil:∀tk (R:cN->ae->Prop),(∀h2 k2,PS h2->(∀b o,b<s.heap.objs.size->s.heap.get? b=some o->h2.get? b=some o)->R (.ok (.ret .none)) { s with heap:=h2,toks:=k2 })->
   bJ (model prog w) A.in1.in1 (.builtin "set.update.loop" ⟨[.ref s.heap.objs.size,.ref (s.heap.objs.size+1)],[]⟩) R { s with heap:=(s.heap.push (qN (!w.params.followText "set-order"))).push itO,toks:=tk })
  (h:∀h2 k2,PS h2->(∀b o,b<s.heap.objs.size->s.heap.get? b=some o->h2.get? b=some o)->Q (.ref s.heap.objs.size) { s with heap:=h2,toks:=k2 }):
  af (model prog w) A (call (.type "set") [.ref ax]) Q E s:=by
 have hlt:ax<s.heap.objs.size:=aD ho;obtain⟨c,tl,hmro⟩:=cH.mro;have made:=cH.made;have subs:=cH.sub;refine fq (jb ?_);show af _ _ (callAny (.type "set") _) _ _ _;refine ay ⟨Code.quiet_builtin _ (by decide +kernel),cX F.entry_type_call ?_⟩;rw[Around.under_plain (weight_type_call_type "set" [.ref ax] []) rfl];have n1:=cH.notType;have n2:=cH.canCreate;have n3:=F.typeCall_set_1 (.ref ax)
 repeat (any_goals (first|assumption|wp_step))
 let led:Bool:=!w.params.followText "set-order";refine c5 (zO (.ref ax) (E:=E) (Q₁:=λv s1=>v=.ref s.heap.objs.size/\s1={ s with heap:=s.heap.push (qN led) }) ⟨rfl,rfl⟩) λr s1 hr=>?_;cases r with
 |error e=>exact hr
 |ok fl=>
  cases fl with
  |ret v=>
   obtain⟨rfl,rfl⟩:=hr;have e0:(s.heap.push (qN led)).get? s.heap.objs.size=some (qN led):=ba _ rfl;have ty0:Shared.TypeIs { s with heap:=s.heap.push (qN led) } (.ref s.heap.objs.size) "set" := ⟨_,e0,rfl⟩;have l1:=cH.init.lookup;have l2:=cH.init.bind (.ref s.heap.objs.size)
   repeat (any_goals (first|assumption|wp_step))
   refine c5 (codeAny_call_builtin (R:=FI s PS E) cH.init.plain F.entry_set_init (check_set_init_1 ty0 ?_)) λr2 s2 hr2=>?_
   ·obtain⟨oc,od,oda,osl⟩:=o;cases hc;have e1:(s.heap.push (qN led)).get? ax=some { cls:=.type T,dict:=od,data:=oda,slots:=osl }:=aF _ ho;unfold Builtin.«set.__init__» noKeywords jS;generalize gP:pyIter=PP
    wp_walk
    subst gP;refine itr _ _ _ _ e1 ?_;refine ar (wpAny_runValue ?_);have ez:(s.heap.push (qN led)).objs.size=s.heap.objs.size+1:=dh _ _;show bJ _ _ (.builtin "set.update.loop" ⟨[.ref s.heap.objs.size,.ref (s.heap.push (qN led)).objs.size],[]⟩) _ _;rw[ez];refine fil _ _ λh2 k2 S2 kk=>?_;show af _ _ _ _ _ _;refine ay ?_;show af _ _ (ret Value.none) _ _ _;exact ay ⟨rfl,h2,k2,rfl,S2,kk⟩
   ·cases r2 with
    |error e=>exact hr2
    |ok fl2=>
     cases fl2 with
     |ret r=>
      obtain⟨rfl,h2,k2,rfl,S2,kk⟩:=hr2
      repeat (any_goals (first|assumption|wp_step))
      exact h _ _ S2 kk
     |_=>exact hr2.elim
  |_=>exact hr.elim
end
variable{S:ai->Hp->Addr->Nat->Prop}
section
variable{X:Cx}{G:Bg}{H:Hp}{pins:List (Addr×Obj)}{σ:St}{s:ae}
theorem DC{P:au}{w:ak}{k:Key}{v:aa}(h:(md P w).is k v=true):v.scannable=true:=by rcases mH h with ⟨i,t,_,rfl⟩|⟨x,t,_,rfl⟩<;>rfl
theorem DD{its:List aa}(r:Vals (ks.map kV) its)(hb:ks.length+1<scanBound):Lv X.prog X.w s.heap a its.toArray ks:=by
 have hl:ks.length=its.length:=by have:=r.length;rw[aj]at this;exact this
 refine⟨by rw[aJ];exact hl,λi v hi hv=>?_,by rw[aJ];omega⟩;have e:(ks.map kV)[i]?=some (kV ks[i]):=by rw[aS,aR hi];rfl
 obtain⟨u,hu,ru⟩:=r.get e;have eu:v=u:=by rw[List.getElem?_toArray]at hv;rw[hv]at hu;exact bp hu
 subst eu;have:=wz (P:=X.prog) (w:=X.w) ru;exact⟨this,DC this⟩
theorem Gx(I:Inv X pins σ H s)(h:SqT X.K H a (ks.map kV)):TK X.prog X.w s.heap ks a:=by
 obtain⟨its,r,p,_⟩:=I.tuple h;obtain⟨o,ho,hc,n,hd⟩:=p;refine⟨o,_,n,ho,hc,hd,?_⟩;have gen:∀(ks:List Key) (its:List aa),Vals (ks.map kV) its->PySem.ItemsAre (md X.prog X.w) ks its:=λks=>by
  induction ks with
  |nil=>intro its r;cases r;exact .nil
  |cons k ks ih=>intro its r;cases r with|cons h1 h2=>exact .cons (wz h1) (ih _ h2)
 exact gen ks its r
def IE(K:ai)(H:Hp)(a:Addr)(n:Nat):Prop:=∃ks,(SqL K H a (ks.map kV)\/SqT K H a (ks.map kV))/\ks.length+1<scanBound/\n=(pE ks).length
def IF(K:ai)(H:Hp)(a:Addr)(n:Nat):Prop:=IE K H a n\/
 ∃(p q:Addr) (k1 k2:List Key),SqL K H a [.ref p,.ref q]/\SqT K H p (k1.map kV)/\SqT K H q (k2.map kV)/\k1≠k2/\n=2
def IG(X:Cx)(S:ai->Hp->Addr->Nat->Prop):Prop:=∀{pins:List (Addr×Obj)} {σ:St} {H:Hp} {s:ae} {A:aw} {E:aa->ae->Prop} {Q:aa->ae->Prop} {a:Addr} {n:Nat},Inv X pins σ H s->A.handled=none->A.units+8<cLine->S X.K H a n->
 (∀h2 k2,ID h2 s.heap.objs.size n->(∀b o,b<s.heap.objs.size->s.heap.get? b=some o->h2.get? b=some o)->Q (.ref s.heap.objs.size) { s with heap:=h2,toks:=k2 })->af (model X.prog X.w) A (call (.type "set") [.ref a]) Q E s
theorem Lw:IG X (IE):=by
 intro pins σ H s A E Q a n I hh hu hq h;have h3:A.in1.in1.in1.handled=none:=by simp[hh]
 have gt:∀{h2:Heap} {ks:List Key},h2.SetOf (md X.prog X.w) s.heap.objs.size (inK ks) (pE ks).length->ID h2 s.heap.objs.size (pE ks).length:=λS=>by obtain⟨o,es,ep,t,ho,hex,hd,_,_,hz,hf,hn⟩:=S;exact⟨o,es,ep,t,ho,hex,hd,hz,hf,hn⟩
 have it:∀{o:Obj} {led:Bool},o.isFreed=false->((s.heap.push (qN led)).push o).get? (s.heap.objs.size+1)=some o:=λ{o led} z=>by rw[show s.heap.objs.size+1=(s.heap.push (qN led)).objs.size from(dh _ _).symm];exact ba _ z
 obtain⟨ks,hq|hq,hb,rfl⟩:=hq
 ·obtain⟨its,r,p,_⟩:=I.list hq;obtain⟨o,ho,hc,n,hd⟩:=p.isList;have hne:a≠s.heap.objs.size+1:=aH (cQ (aD ho));refine vC ho hc jl il (by decide) (itO:={ cls:=.type "list_iterator", data:=.fields #[.ref a,.int 0 0] })
   (λA Q E s1 e k=>dJ ⟨o,e,hc,n,hd⟩ k) (λtk R hR=>yT (DD r hb) (aD ho) (fz h3 _ a hne its.toArray) ⟨⟨_,it rfl,rfl,rfl⟩,⟨o,aF _ (aF _ ho),hc,n,hd⟩⟩ (λh2 k2 S=>hR h2 k2 (gt S)) tk) h
 ·obtain⟨its,r,p,_⟩:=I.tuple hq;obtain⟨o,ho,hc,n,hd⟩:=p;have hne:a≠s.heap.objs.size+1:=aH (cQ (aD ho));refine vC ho hc sub_tuple_set sub_tuple_frozenset (by decide) (itO:={ cls:=.type "tuple_iterator", data:=.fields #[.ref a,.int 0 0] })
   (λA Q E s1 e k=>iG ⟨o,e,hc,n,hd⟩ k) (λtk R hR=>yT (DD r hb) (aD ho) (Walks.tuple h3 _ a hne its.toArray) ⟨⟨_,it rfl,rfl,rfl⟩,⟨o,aF _ (aF _ ho),hc,n,hd⟩⟩ (λh2 k2 S=>hR h2 k2 (gt S)) tk) h
theorem Lx:IG X (IF):=by
 intro pins σ H s A E Q a n I hh hu hq h;rcases hq with hq|⟨p,q,k1,k2,hq,h1,h2,ne,rfl⟩
 ·exact Lw I hh hu hq h
 have h3:A.in1.in1.in1.handled=none:=by simp[hh]
 have it:∀{o:Obj} {led:Bool},o.isFreed=false->((s.heap.push (qN led)).push o).get? (s.heap.objs.size+1)=some o:=λ{o led} z=>by rw[show s.heap.objs.size+1=(s.heap.push (qN led)).objs.size from(dh _ _).symm];exact ba _ z
 obtain⟨its,r,pp,_⟩:=I.list hq;obtain⟨o,ho,hc,n,hd⟩:=pp.isList;have hne:a≠s.heap.objs.size+1:=aH (cQ (aD ho));obtain⟨u,v,rfl,ru,rv⟩:∃u v,its=[u,v]/\RelV (.ref p) u/\RelV (.ref q) v:=by cases r with|cons c1 r=>cases r with|cons c2 r=>cases r;exact⟨_,_,rfl,c1,c2⟩
 cases ru;cases rv;have t1:=Gx I h1;have t2:=Gx I h2;have far:∀{b:Addr} {ks:List Key},TK X.prog X.w s.heap ks b->b∉s.heap.objs.size::[s.heap.objs.size+1]:=λ{b ks} t z=>by
  obtain⟨o,_,_,e,_⟩:=t;have:=aD e;rcases aT.mp z with z|z
  ·exact aq z (aH this)
  ·exact aq (aW.mp z) (aH (cQ this))
 have notin:s.heap.objs.size∉[s.heap.objs.size+1,a]:=by
  intro z;rcases aT.mp z with z|z
  ·exact aq z (aH (dR _))
  ·exact aq (aW.mp z) (gj (aD ho))
 refine vC ho hc jl il (by decide) (itO:={ cls:=.type "list_iterator", data:=.fields #[.ref a,.int 0 0] })
  (λA Q E s1 e k=>dJ ⟨o,e,hc,n,hd⟩ k) (λtk R hR=>?_) h
 have ke:∀{b:Addr} {o':Obj},s.heap.get? b=some o'->((s.heap.push (qN (!X.w.params.followText "set-order"))).push { cls:=.type "list_iterator", data:=.fields #[.ref a,.int 0 0] }).get? b=some o':=λe=>aF _ (aF _ e);refine BO (fz h3 _ a hne #[.ref p,.ref q]).toS notin ne (far t1) (far t2) (λv e=>(bp e).symm) (λv e=>(bp e).symm) (by show A.units+1+1+1<cLine;omega) ⟨⟨_,it rfl,rfl,rfl⟩,⟨o,ke ho,hc,n,hd⟩⟩ (t1.kept λo=>ke) (t2.kept λo=>ke)
  (aF _ (ba _ rfl)) ⟨rfl,rfl,rfl⟩ rfl λs2 mv S2=>?_
 obtain⟨h2,g2,d2,k2,o2⟩:=s2;have eg:g2=s.gens:=mv.gens;have ed:d2=s.drawn:=mv.drawn;have eo:o2=s.os:=mv.os;subst eg ed eo;exact hR h2 k2 S2 λb o hb e=>mv.heap b o (λz=>by
  rcases aT.mp z with z|z
  ·exact aq z (aH hb)
  ·exact aq (aW.mp z) (aH (cQ hb))) (ke e)
def xU(S:ai->Hp->Addr->Nat->Prop)(K:ai)(te:TE):TE:=λσ H Q=>te σ H λx H1=>∃a n,x=.ref a/\S K H1 a n/\Q (.int n) H1
theorem BP{p1 p2 p3 p4:Pos}(hV:IG X S)(hu:X.A.units+64<cLine)(hc:X.calm=true)(g1:Gl X "len")(m1:X.mg "len" = none)(g2:Gl X "set")(m2:X.mg "set" = none)(he:PE X e te)
  (z1:ao [Expr.Call (.Name "set" p2) [e] [] p3] X.env=[(false,eval (.Call (.Name "set" p2) [e] [] p3) X.env)]:=by rfl) (z2:ao [e] X.env=[(false,eval e X.env)]:=by rfl):PE X (.Call (.Name "len" p1) [.Call (.Name "set" p2) [e] [] p3] [] p4) (xU S X.K te):=by
 intro pins s σ H Q I h;refine cy (rV I g1 m1 jm ?_ (by decide) (by decide));refine callWith_builtin1 ?_ z1 rfl;rw[z1];show af _ _ (spliced [(false,eval (.Call (.Name "set" p2) [e] [] p3) X.env)]) _ _ s;refine eK ?_;refine cy (rV I g2 m2 Pv.boot_set ?_ (by decide) (by decide));refine callWith_type1 (thn (og he qh z2 p3 pins s σ H (λvs H1=>match vs with
  |[x]=>∃a n,x=.ref a/\S X.K H1 a n/\Q (.int n) H1
  |_=>False) I h) λus s1 ⟨vs,H1,I1,r1,q1⟩=>?_) z2 rfl
 match vs,r1,q1 with
 |[x],r1,q1=>
 obtain⟨a,n,e1,hq,q⟩:=q1;subst e1;obtain⟨u,rfl,ru⟩:=vals1 r1;cases ru;refine hV I1 (I1.ok.hd hc) (by omega) hq λh2 k2 S2 kk=>?_;refine fS ?_;obtain⟨o,es,ep,t,ho,hex,hd,hz,hf,hn⟩:=S2;have I2:Inv X pins σ H1 { s1 with heap:=h2,toks:=k2 }:=I1.kept λb o e=>kk b o (aD e) e;refine call_len_set ho hex hd hf (by unfold scanBound at hz;omega) ⟨.int n,H1,I2.tok _,⟨_,by rw[hn]⟩,q⟩
def qE:List D->Option (List Key)
 |[]=>some []
 |d::ds=>match uF d,qE ds with
  |some k,some ks=>some (k::ks)
  |_,_=>none
theorem rB:∀{ds:List D} {xs:List V} {ks:List Key},lG G H ds xs->qE ds=some ks->xs=ks.map kV
 |[],xs,ks,r,e=>by cases e;unfold lG at r;exact r
 |d::ds,xs,ks,r,e=>by
  unfold qE at e;cases e1:uF d with
  |none=>rw[e1]at e;cases e
  |some k=>
   cases e2:qE ds with
   |none=>rw[e1,e2]at e;cases e
   |some ks'=>rw[e1,e2]at e;cases e;unfold lG at r;obtain⟨v,r',rfl,h1,h2⟩:=r;rw[uN h1 e1,rB h2 e2];rfl
def nM(ds:List D):Option D:=match qE ds with
 |some ks=>if ks.length<=1000 then some (.int (pE ks).length)else none
 |none=>none
def IH:List D->Option D
 |[.tup x,.tup y]=>match qE x,qE y with
  |some k1,some k2=>if k1=k2 then none else some (.int 2)
  |_,_=>none
 |_=>none
def vE(g:List D->Option D):D->Option D
 |.lst ds=>match nM ds with
  |some r=>some r
  |none=>g ds
 |.tup ds=>nM ds
 |.fzl ds=>nM ds
 |_=>none
abbrev xV:D->Option D:=vE IH
theorem AJ{g:List D->Option D}{ds:List D}{r:D}(h:nM ds=some r):vE g (.lst ds)=some r:=by show (match nM ds with|some r=>some r|none=>g ds)=some r;rw[h]
theorem zP{g:List D->Option D}(hK:X.K=G.K)(hO:∀{H a n},IE X.K H a n->S X.K H a n)
  (hg:∀{ds d H1 H1' a xs},g ds=some d->SqL X.K H1' a xs->lG G H1 ds xs->lK H1 H1'->∃n:Nat,S X.K H1' a n/\d=.int n)
  (h:PE X e (xU S X.K (tF G f))):PE X e (tF G (c1 (vE g) f)):=PE.weak h λσ H Q hh=>by
 obtain⟨F,ρ,H0,d,ρ',R,e,k⟩:=hh;obtain⟨x,e1,e2⟩:=uJ e;have key:∀{ds:List D} {xs:List V} {a:Addr} {H1 H1':Hp},nM ds=some d->lG G H1 ds xs->lK H0 H1->lU G F σ ρ' H1 H1'->(SqL X.K H1' a xs\/SqT X.K H1' a xs)->
   ∃a' n,V.ref a=.ref a'/\S X.K H1' a' n/\Q (.int n) H1':=λ{ds xs a H1 H1'} ed rs s R' hq=>by
  unfold nM at ed;cases ek:qE ds with
  |none=>rw[ek]at ed;cases ed
  |some ks=>
   rw[ek]at ed;simp only at ed;split at ed
   ·rename_i hl;cases ed;rw[rB rs ek]at hq;exact⟨a,_,rfl,hO ⟨ks,hq,by unfold scanBound;omega,rfl⟩,k _ _ _ s R' (m5 _)⟩
   ·cases ed
 refine⟨F,ρ,H0,x,ρ',R,e1,λv H1 H1' s R' r=>?_⟩;cases x with
 |lst ds=>
  unfold Rep at r;obtain⟨a,xs,rfl,h1,h2⟩:=r;have hq:SqL X.K H1' a xs:=SqL.of (R'.sub _ _ h1);replace e2:(match nM ds with|some r=>some r|none=>g ds)=some d:=e2;cases e3:nM ds with
  |some r=>rw[e3]at e2;cases e2;exact key e3 h2 s R' (.inl hq)
  |none=>rw[e3]at e2;obtain⟨n,h3,rfl⟩:=hg e2 hq h2 R'.sub;exact⟨a,n,rfl,h3,k _ _ _ s R' (m5 _)⟩
 |tup ds=>unfold Rep at r;obtain⟨a,xs,rfl,h1,h2⟩:=r;rw[<-hK]at h1;exact key e2 h2 s R' (.inr (SqT.mono R'.sub h1))
 |fzl ds=>unfold Rep at r;obtain⟨a,xs,rfl,h1,h2⟩:=r;rw[<-hK]at h1;exact key e2 h2 s R' (.inl (R'.sub.seq h1))
 |_=>cases e2
theorem FJ(hK:X.K=G.K):∀{ds d H1 H1' a xs},IH ds=some d->SqL X.K H1' a xs->lG G H1 ds xs->lK H1 H1'->∃n:Nat,IF X.K H1' a n/\d=.int n:=λ{ds d H1 H1' a xs} e2 hq h2 s=>by
 unfold IH at e2;split at e2
 ·rename_i x y;split at e2
  ·rename_i k1 k2 f1 f2;split at e2
   ·cases e2
   ·rename_i ne;cases e2;unfold lG lG lG at h2;obtain⟨v1,r1,rfl,c1,v2,r2,rfl,c2,rfl⟩:=h2;unfold Rep at c1 c2;obtain⟨p,ys,rfl,d1,d2⟩:=c1;obtain⟨q,zs,rfl,d3,d4⟩:=c2;rw[<-hK,rB d2 f1]at d1;rw[<-hK,rB d4 f2]at d3;exact⟨2,.inr ⟨p,q,k1,k2,hq,SqT.mono s d1,SqT.mono s d3,ne,rfl⟩,rfl⟩
  ·cases e2
 ·cases e2
theorem BQ(hK:X.K=G.K)(h:PE X e (xU IF X.K (tF G f))):PE X e (tF G (c1 xV f)):=zP hK .inl (FJ hK) h
end
theorem FK{P:au}{w:ak}{k:Key}{v:aa}(h:(md P w).is k v=true):RelV (kV k) v:=by
 rcases mH h with ⟨i,t,rfl,rfl⟩|⟨x,t,rfl,rfl⟩
 ·exact⟨t,rfl⟩
 ·exact⟨t,rfl⟩
def Itd(a:Addr)(o:Obj)(kvs:List (Key×V)):It:=
 ⟨λi H=>i<kvs.length/\H a=some (.frz o (.dK kvs)),λi H x H'=>H'=H/\∃k z,kvs[i]?=some (k,z)/\x=kV k,λi H=>kvs.length<=i/\H a=some (.frz o (.dK kvs))⟩
section
variable{X:Cx}{pins:List (Addr×Obj)}{σ:St}{H:Hp}{s:ae}
theorem ud{es:Array DictEntry}(I:Inv X pins σ H s)(e:H a=some (.frz o (.dK kvs)))(hd:o.data=.dict es ep):
  (a==bV)=false/\s.heap.get? a=some o/\∃vs,KV kvs vs/\s.heap.DictAt (md X.prog X.w) a vs ep:=by
 obtain⟨q0,_,y,vs,r,ob,es',ep',q1,q2,q3,q4⟩:=(show mJ X.prog X.w H s.heap a (.frz o (.dK kvs)) from I.hok a _ e);rw[q0]at q1;cases q1;rw[hd]at q3;cases q3;exact⟨y,q0,vs,r,o,es,q0,q2,hd,q4⟩
theorem II{vs:List (Key×aa)}(r:KV kvs vs){i:Nat}{k:Key}{x:aa}(e:vs[i]?=some (k,x)):∃z,kvs[i]?=some (k,z):=by
 induction r generalizing i with
 |nil=>cases e
 |@cons p q l l' h _ ih=>
  cases i with
  |zero=>obtain⟨pk,pv⟩:=p;cases e;exact⟨pv,by rw[show pk=k from h.1];rfl⟩
  |succ i=>exact ih e
end
theorem BR{P:au}{w:ak}{K:ai}(a it:Addr)(o:Obj)(kvs:List (Key×V)):Turn P w K tg (Itd a o kvs) [it] it (λi h=>∃es ep,o.data=.dict es ep/\h.IsKeyIter it a i kvs.length ep) where
 mem:=by simp
 obj:=λi h st b hb=>by
  have e:b=it:=by simpa using hb
  subst e;obtain⟨es,ep,hd,ob,e,c,d⟩:=st;exact⟨ob,e,λv z=>by rw[d]at z;cases z⟩
 keep:=λi h h' st k=>by obtain⟨es,ep,hd,x⟩:=st;exact⟨es,ep,hd,x.at λo e=>k it (by simp) o e⟩
 item:=by
  intro X hP hw hK hc i pins s σ H E I hf st hg;subst hP hw hK;obtain⟨hi,he⟩:=hg;obtain⟨es,ep,hd,ki⟩:=st;obtain⟨f0,f1,f2,f3,f4,f5⟩:=hf it (by simp);obtain⟨_,_,vs,r,da⟩:=ud I he hd;have hl:kvs.length=vs.length:=r.length;have hne:a≠it:=λz=>by subst z;rw[he]at f0;cases f0
  have W:=Walks.dictKeys (knd:=md X.prog X.w) (A:=X.A) (I.ok.hd hc) it a hne vs ep;refine W.item i s _ _ (by omega) ⟨by rw[<-hl];exact ki,da⟩ λv h' tk hv st' kk=>?_;obtain⟨k,x,hx,hk⟩:=hv;obtain⟨z,hz⟩:=II r hx;have I1:Inv X pins σ H { s with heap:=h',toks:=tk }:=I.turned (λb o hb e=>kk b o (by simpa using hb) e) f0 f1 f3 f4 f5;obtain⟨ki',_⟩:=st';rw[<-hl]at ki';obtain⟨ob,e,c,d⟩:=id ki';exact⟨v,rfl,Aa (s:={ s with heap:=h',toks:=tk }) e c d (by decide) ⟨kV k,H,I1,FK hk,⟨rfl,k,z,hz,rfl⟩,⟨es,ep,hd,ki'⟩,λb hb=>(hf b hb).1⟩⟩
 done:=by intro X hP hw hK hc i pins s σ H E I hf st hg;subst hP hw hK;obtain⟨hi,he⟩:=hg;obtain⟨es,ep,hd,ki⟩:=st;obtain⟨f0,f1,f2,f3,f4,f5⟩:=hf it (by simp);obtain⟨_,_,vs,r,da⟩:=ud I he hd;have hl:kvs.length=vs.length:=r.length;exact wpAny_pyNext_dict_end (I.ok.hd hc) (by rw[<-hl];exact ki) da (eG (by rw[<-hl];exact hi)) λh' eb=>⟨rfl,I.turned (t':=s.toks) (λb o hb e=>eb b o hb e) f0 f1 f3 f4 f5⟩
 self:=λ_ _ _ _ _ st h=>by obtain⟨es,ep,hd,ki⟩:=st;exact wpAny_pyIter_keyiter ki h
section
variable{X:Cx}{G:Bg}{tg:Expr}
def Ly(tl:TE):TI:=λσ H R=>tl σ H λx H1=>∃a o kvs,x=.ref a/\H1 a=some (.frz o (.dK kvs))/\R (Itd a o kvs) H1
theorem FL{l:Expr}{tl:TE}(hl:PE X l tl):PI X tg l (Ly tl):=by
 intro pins s σ H R I h;refine thn (hl pins s σ H _ I h) λv s1 zz=>?_;obtain⟨x,H1,I1,r1,q1⟩:=zz;obtain⟨a,o,kvs,e,he,q⟩:=q1;subst e;cases r1;obtain⟨q0,_,y,vs,r,ob,es,ep,e1,e2,e3,e4⟩:=(show mJ X.prog X.w H1 s1.heap a (.frz o (.dK kvs)) from I1.hok a _ he);rw[q0]at e1;cases e1;have hl:kvs.length=vs.length:=r.length;refine wpAny_pyIter_dict (knd:=md X.prog X.w) (kvs:=vs) (ep:=ep) y ⟨o,es,q0,e2,e3,e4⟩ ?_;refine⟨s1.heap.objs.size,[s1.heap.objs.size],_,_,H1,rfl,I1.kept (t':=s1.toks) λb o e=>aF _ e,BR a _ o kvs,⟨es,ep,e3,⟨_,ba _ rfl,rfl,by rw[hl];rfl⟩⟩,λb hb=>?_,q⟩;have e:b=s1.heap.objs.size:=by simpa using hb
 subst e;exact I1.fpOk (aE _) (I1.hok.fresh (aE _))
def IJ:Key->D
 |.inl i=>.int i
 |.inr x=>.str x
theorem FM(k:Key){H:Hp}:Rep G H (IJ k) (kV k):=by
 cases k with
 |inl i=>exact m5 i
 |inr x=>exact sA x
def iD(f:FE):FA:=λρ=>match f ρ with
 |some (.dic ks ds,ρ1)=>if ks.length=ds.length then some (ks.map IJ,ρ1)else none
 |_=>none
theorem DE{tg:Expr}(h:PI X tg e (Ly (tF G f))):PI X tg e (tFI G (iD f)):=PI.weak h λσ H R hh=>by
 obtain⟨F,ρ,H0,ds,ρ',R,e,k⟩:=hh;unfold iD at e;split at e
 ·rename_i ks ds' ρ1 e1;split at e
  ·rename_i hlen;cases e;refine⟨F,ρ,H0,_,_,R,e1,λv H1 H1' s R' r=>?_⟩;unfold Rep at r;obtain⟨a,o,xs,rfl,r1,r2,r3⟩:=r;have hz:(ks.zip xs).length=ks.length:=by rw[dY,<- r2,d7]
   refine⟨a,o,_,rfl,R'.sub _ _ r1,k _ _ _ s R' λi H2 H2' t t'=>⟨λd ed=>?_,λhl=>?_⟩⟩
   ·rw[aS]at ed;cases ek:ks[i]? with
    |none=>rw[ek]at ed;cases ed
    |some j=>
     rw[ek]at ed;cases ed;have hi:i<ks.length:=(bq.mp ek).1;refine⟨⟨by rw[hz];exact hi,t' _ _ (t _ _ r1)⟩,λz H3 y=>?_⟩;obtain⟨e3,k',z',hk',rfl⟩:=y;subst e3;have:k'=j:=by rw[List.getElem?_zip_eq_some]at hk';have:=hk'.1;rw[ek]at this;exact(bp this).symm
     subst this;exact⟨H2,lK.refl _,t',lK.refl _,λb o e=>.inl e,FM _⟩
   ·refine⟨by rw[hz,hl,aj];exact aE _,t' _ _ (t _ _ r1)⟩
  ·cases e
 ·cases e
end
mutual
def noC(N c:Nat):D->Bool
 |.non=>true
 |.bl _=>true
 |.int _=>true
 |.str _=>true
 |.tup ds=>yU N c ds
 |.lst ds=>yU N c ds
 |.fzl ds=>yU N c ds
 |.obj k _ ds=>decide (k<N)&&decide (k≠c)&&yU N c ds
 |.dic _ ds=>yU N c ds
def yU(N c:Nat):List D->Bool
 |[]=>true
 |d::ds=>noC N c d&&yU N c ds
end
def without(H:Hp)(a:Addr):Hp:=λb=>if b=a then none else H b
theorem vF{H:Hp}{b:Addr}(h:b≠a):without H a b=H b:=by unfold without;rw[ah h]
theorem sI{H:Hp}{b:Addr}{o:HO}(h:without H a b=some o):b≠a/\H b=some o:=by
 unfold without at h;by_cases hb:b=a
 ·rw[ag hb]at h;cases h
 ·rw[ah hb]at h;exact⟨hb,h⟩
theorem nX{H:Hp}{b:Addr}{u v:HO}(ha:H a=some u)(hb:H b=some v)(d:u≠v):without H a b=some v:=by rw[vF (λz=>by subst z;rw[ha]at hb;exact d (bp hb))];exact hb
variable{p:Addr}{xs:List V}
section
variable{G:Bg}{H:Hp}{a dx:Addr}{fs:List (Str×V)}{N c:Nat}
theorem yV(ha:H a=some (.ins (G.ca c) dx fs))(h:SqT G.K H p xs):SqT G.K (without H a) p xs:=by
 rcases h with (h|⟨o,h⟩)|h
 ·exact .inl (.inl (nX ha h (λz=>nomatch z)))
 ·exact .inl (.inr ⟨o,nX ha h (λz=>nomatch z)⟩)
 ·exact .inr h
theorem yW(ha:H a=some (.ins (G.ca c) dx fs))(h:SqL G.K H p xs):SqL G.K (without H a) p xs:=by
 rcases h with (h|⟨o,h⟩)|h
 ·exact .inl (.inl (nX ha h (λz=>nomatch z)))
 ·exact .inl (.inr ⟨o,nX ha h (λz=>nomatch z)⟩)
 ·exact .inr h
mutual
theorem ue(inj:∀j k,j<N->k<N->G.ca j=G.ca k->j=k)(hc:c<N)(ha:H a=some (.ins (G.ca c) dx fs)):∀(d:D) (v:V),noC N c d=true->Rep G H d v->Rep G (without H a) d v
 |.non,v,_,h=>by unfold Rep at h ⊢;exact h
 |.bl _,v,_,h=>by unfold Rep at h ⊢;exact h
 |.int _,v,_,h=>by unfold Rep at h ⊢;exact h
 |.str _,v,_,h=>by unfold Rep at h ⊢;exact h
 |.tup ds,v,n,h=>by unfold noC at n;unfold Rep at h ⊢;obtain⟨p,xs,e,h1,h2⟩:=h;exact⟨p,xs,e,yV ha h1,nN inj hc ha ds xs n h2⟩
 |.lst ds,v,n,h=>by unfold noC at n;unfold Rep at h ⊢;obtain⟨p,xs,e,h1,h2⟩:=h;exact⟨p,xs,e,nX ha h1 (λz=>nomatch z),nN inj hc ha ds xs n h2⟩
 |.fzl ds,v,n,h=>by unfold noC at n;unfold Rep at h ⊢;obtain⟨p,xs,e,h1,h2⟩:=h;exact⟨p,xs,e,yW ha h1,nN inj hc ha ds xs n h2⟩
 |.obj k ns ds,v,n,h=>by unfold noC at n;simp only[aB,bt]at n;unfold Rep at h ⊢;obtain⟨p,dx',xs,e,h1,h2,h3⟩:=h;refine⟨p,dx',xs,e,nX ha h1 (λz=>?_),h2,nN inj hc ha ds xs n.2 h3⟩;injection z with z1;exact n.1.2 (inj k c n.1.1 hc z1.symm)
 |.dic ks ds,v,n,h=>by unfold noC at n;unfold Rep at h ⊢;obtain⟨p,o,xs,e,h1,h2,h3⟩:=h;exact⟨p,o,xs,e,nX ha h1 (λz=>nomatch z),h2,nN inj hc ha ds xs n h3⟩
theorem nN(inj:∀j k,j<N->k<N->G.ca j=G.ca k->j=k)(hc:c<N)(ha:H a=some (.ins (G.ca c) dx fs)):∀(ds:List D) (xs:List V),yU N c ds=true->lG G H ds xs->lG G (without H a) ds xs
 |[],xs,_,h=>by unfold lG at h ⊢;exact h
 |d::ds,xs,n,h=>by unfold yU at n;simp only[aB]at n;unfold lG at h ⊢;obtain⟨v,r,e,h1,h2⟩:=h;exact⟨v,r,e,ue inj hc ha d v n.1 h1,nN inj hc ha ds r n.2 h2⟩
end
end
def qZ:Sl->Sl
 |.im d=>.im d
 |_=>.un
def rJ(N:Nat)(f:FE):FE:=λρ=>match ρ with
 |.ob c ns ds::r=>match f (.im (.obj c ns ds)::r.map qZ)with
  |some (d,_)=>if (decide (c<N)&&noC N c d)=true then some (d,ρ)else none
  |none=>none
 |_=>none
section
variable{X:Cx}{G:Bg}
theorem zQ{s:Sl}:(qZ s).own=false:=by cases s<;>rfl
theorem FN{N:Nat}(inj:∀j k,j<N->k<N->G.ca j=G.ca k->j=k)(h:PE X e (tF G f)):PE X e (tF G (rJ N f)):=PE.weak h λσ H Q hh=>by
 obtain⟨F,ρ,H0,d,ρ',R,e,k⟩:=hh;unfold rJ at e;split at e
 ·rename_i c ns ds r;rcases lW (f:=f) (ρ:=.im (.obj c ns ds)::r.map qZ)with e1|⟨x,ρ1,e1⟩<;>simp only[e1]at e
  ·cases e
  split at e
  ·rename_i hn;cases e;simp only[aB,bt]at hn;obtain⟨a,dx,xs,h1,h2,h3,h4,h5,h6⟩:=R.sl 0 _ rfl;have RL:lU G ⟨upd H0 a (.ins (G.ca c) dx (ns.zip xs)),H,[]⟩ σ (.im (.obj c ns ds)::r.map qZ) (upd H0 a (.ins (G.ca c) dx (ns.zip xs))) H:={
    sub:=λb o q=>by
     by_cases hb:b=a
     ·subst hb;rw[lQ]at q;cases q;exact h2
     ·rw[lO hb]at q;exact R.sub _ _ q
    g0:=lK.refl _
    keep:=λb o q _=>q
    fr:=λb o q=>.inl q
    am:=λb q=>by cases q
    len:=by have:=R.len;simpa using this
    sl:=λi s q=>by
     cases i with
     |zero=>cases q;exact⟨.ref a,h1,by unfold Rep;exact⟨a,dx,xs,rfl,lQ,h5,lG.mono (l3 h3 _) _ _ h6⟩⟩
     |succ i=>
      have q':(r.map qZ)[i]?=some s:=q;rw[aS]at q';cases q1:r[i]? with
      |none=>rw[q1]at q';cases q'
      |some t=>
       rw[q1]at q';cases q';have ok:=R.sl (i+1) t q1;cases t with
       |im d=>obtain⟨v,g1,g2⟩:=ok;exact⟨v,g1,Rep.mono (l3 h3 _) _ _ g2⟩
       |_=>trivial
    ap:=λi j s t b _ qi _ so=>by
     cases i with
     |zero=>cases qi;cases so
     |succ i=>
      have q':(r.map qZ)[i]?=some s:=qi;rw[aS]at q';cases q1:r[i]? with
      |none=>rw[q1]at q';cases q'
      |some t=>rw[q1]at q';cases q';rw[zQ]at so;cases so }
   refine⟨_,_,_,d,ρ1,RL,e1,λv H1 H1' s R' rd=>?_⟩;have ha:H1 a=some (.ins (G.ca c) dx (ns.zip xs)):=s _ _ lQ;have s0:lK H0 (without H1 a):=λb o q=>by
    have hb:b≠a:=λz=>by subst z;rw[h3]at q;cases q
    rw[vF hb];exact s b o (by rw[lO hb];exact q)
   refine k v (without H1 a) H1' s0 ?_ (ue inj hn.1 ha d v hn.2 rd);refine R.grow (λb o q=>R'.keep b o q (by simp)) s0 (λb o q=>R'.sub _ _ (sI q).2) λb o q=>?_;obtain⟨hb,q⟩:=sI q;rcases R'.fr b o q with z|z
   ·have z':upd H0 a (.ins (G.ca c) dx (ns.zip xs)) b=some o:=z;rw[lO hb]at z';exact .inl z'
   ·exact .inr z
  ·cases e
 ·cases e
end
section
variable{X:Cx}{pins:List (Addr×Obj)}{σ:St}{H:Hp}{s:ae}{a:Addr}{A:aw}{E:aa->ae->Prop}
theorem IK{k:Key}{z:V}{u r:aa}{Q:aa->ae->Prop}(I:Inv X pins σ H s)(e:H a=some (.dK kvs))(ry:RelV (kV k) u)(rz:RelV z r)(hl:kvs.length<av)
  (h1:∀v w s',oO kvs k=some v->Inv X pins σ H s'->RelV v w->Q w s') (h2:∀s',oO kvs k=none->Inv X pins σ (upd H a (.dK (putK kvs k z))) s'->Q r s'):
  af (model X.prog X.w) A (call (.builtin "dict.setdefault") [.ref a,u,r]) Q E s:=by
 obtain⟨y,hd,vs,rel,dd⟩:=Gj I.hok e;have hz:vs.length<=av:=by rw[<-rel.length];exact y
 have hp:(putK kvs k z).length<=av:=by have:=qR kvs k z;omega
 have rv:=rel.val k;refine call_meetsIn hZ dd.typeIs F.entry_dict_setdefault (F.args_dict_setdefault_3 _ _ _) (kt_meets_setdefault (md X.prog X.w) a (wz ry) hd r) ⟨vs,dd,hz,λw hw=>?_,λhn h' dd' hs=>?_⟩
 ·rw[hw]at rv;cases ev:oO kvs k with
  |none=>rw[ev]at rv;exact rv.elim
  |some v=>rw[ev]at rv;exact h1 v w _ ev (I.tok _) rv
 ·rw[hn]at rv;cases ev:oO kvs k with
  |some v=>rw[ev]at rv;exact rv.elim
  |none=>have he:∃q,h'.get? a=some q:=let ⟨q,_,_,hq,_⟩:=dd';⟨q,hq⟩;exact h2 _ ev (xI I (by rw[e];exact True.intro) hs he (Cr hp hd (rel.put k rz) dd'))
def DF(td ty tx:TE):TE:=λσ H Q=>td σ H λx H1=>∃a,x=.ref a/\IsD H1 a/\ty σ H1 λy H2=>tx σ H2 λz H3=>∃kvs k,H3 a=some (.dK kvs)/\y=kV k/\kvs.length<av/\
 (∀v,oO kvs k=some v->Q v H3)/\(oO kvs k=none->Q z (upd H3 a (.dK (putK kvs k z))))
theorem DG{o f:Expr}{apos cpos:Pos}{td ty tx:TE}(ho:PE X o td)(he:PE X e ty)(hf:PE X f tx)(m:M2 X o "setdefault" apos e f cpos):PE X (.Call (.Attribute o "setdefault" apos) [e,f] [] cpos) (DF td ty tx):=by
 intro pins s σ H Q I h;refine wpAny_Call_method m.base m.few m.line F.plainAttrs_dict hZ F.type_dict_setdefault (thn (ho pins s σ H _ I h) λu s1 zz=>?_);obtain⟨x,H1,I1,rx,a,ex,d,q1⟩:=zz;subst ex;obtain rfl:u=Value.ref a:=rx;obtain⟨t1,t2,_⟩:=Hy I1 d;refine⟨t1,t2,?_⟩;rw[m.trees];refine hJ rfl (fK (eK (thn (he pins s1 σ H1 _ I1 q1) λiv s2 ⟨y,H2,I2,ry,q2⟩=>
  eK (thn (hf pins s2 σ H2 _ I2 q2) λfv s3 ⟨z,H3,I3,rz,kvs,k,e3,ey,hl,g1,g2⟩=>fS ?_))))
 subst ey;exact IK I3 e3 ry rz hl (λv w s' ev I' rw'=>⟨v,H3,I',rw',g1 v ev⟩) λs' ev I'=>⟨z,_,I',rz,g2 ev⟩
end
def wj(ks:List Key)(dss:List (List D))(k:Key)(d:D):List Key×List (List D):=
 if vz ks k=true then (ks,ee (λk' ds=>if k'=k then ds++[d]else ds) ks dss)else (ks++[k],dss++[[d]])
theorem yX{k:Key}:vz ks k=true ↔ k∈ks:=by unfold vz;rw[bD];exact⟨λ⟨x,h1,h2⟩=>bM h2▸h1,λh=>⟨k,h,bj rfl⟩⟩
variable{vs:List V}
theorem DH{k:Key}{v:V}:ks.length=vs.length->oO (ks.zip vs) k=some v->∃j:Nat,ks[j]?=some k/\vs[j]?=some v:=by
 induction ks generalizing vs with
 |nil=>intro _ h;cases h
 |cons k0 ks ih=>
  intro hl h;cases vs with
  |nil=>cases hl
  |cons v0 vs=>
   unfold oO at h;rw[cA,cF]at h;by_cases e:k0=k
   ·subst e;simp only[decide_true]at h;cases h;exact⟨0,rfl,rfl⟩
   ·simp only[e,decide_false]at h;obtain⟨j,h1,h2⟩:=ih (by simpa using hl) h;exact⟨j+1,h1,h2⟩
theorem DI{k:Key}:ks.length=vs.length->oO (ks.zip vs) k=none->k∉ks:=by
 induction ks generalizing vs with
 |nil=>intro _ _ h;cases h
 |cons k0 ks ih=>
  intro hl h hm;cases vs with
  |nil=>cases hl
  |cons v0 vs=>
   unfold oO at h;rw[cA,cF]at h;by_cases e:k0=k
   ·subst e;simp only[decide_true]at h;cases h
   ·simp only[e,decide_false]at h;rcases aT.mp hm with z|z
    ·exact e z.symm
    ·exact ih (by simpa using hl) h z
structure Grp(G:Bg)(F:Fr)(H0 H:Hp)(a:Addr)(ks:List Key)(dss:List (List D))(bs:List Addr):Prop where
 at_:H a=some (.dK (ks.zip (bs.map V.ref)))
 n0:H0 a=none
 nB:F.B a=none
 len:ks.length=bs.length
 len':bs.length=dss.length
 nd:bs.Nodup
 kd:ks.Nodup
 each:∀(i:Nat) (b:Addr) (ds:List D),bs[i]?=some b->dss[i]?=some ds->∃xs,H b=some (.lst xs)/\H0 b=none/\F.B b=none/\lG G H0 ds xs
section
variable{G:Bg}{F:Fr}{σ:St}{ρ:List Sl}{H0 H H0' H':Hp}{a:Addr}{ks:List Key}{dss:List (List D)}{bs:List Addr}
theorem Grp.grow(g:Grp G F H0 H a ks dss bs)(hs:lK H H')(h0:lK H0 H0')(hf:∀b o,H0' b=some o->H0 b=some o\/H b=none):Grp G F H0' H' a ks dss bs where
 at_:=hs _ _ g.at_
 n0:=by
  cases q:H0' a with
  |none=>rfl
  |some o=>
   rcases hf a o q with z|z
   ·rw[g.n0]at z;cases z
   ·rw[g.at_]at z;cases z
 nB:=g.nB
 len:=g.len
 len':=g.len'
 nd:=g.nd
 kd:=g.kd
 each:=λi b ds e1 e2=>by
  obtain⟨xs,q1,q2,q3,q4⟩:=g.each i b ds e1 e2;refine⟨xs,hs _ _ q1,?_,q3,lG.mono h0 _ _ q4⟩;cases q:H0' b with
  |none=>rfl
  |some o=>
   rcases hf b o q with z|z
   ·rw[q2]at z;cases z
   ·rw[q1]at z;cases z
theorem lU.still(R:lU G F σ ρ H0 H)(no:∀s∈ρ,s.own=false):lU G ⟨H0,H,[]⟩ σ ρ H0 H where
 sub:=R.sub
 g0:=lK.refl _
 keep:=λb o e _=>e
 fr:=λb o e=>.inl e
 am:=λa h=>by cases h
 len:=R.len
 sl:=λi s e=>by
  have ok:=R.sl i s e;have n:=no s (bC e);cases s with
  |un=>trivial
  |im d=>exact ok
  |_=>cases n
 ap:=λi j s t b _ e _ so=>by rw[no s (bC e)]at so;cases so
theorem lU.touch(R:lU G F σ ρ H0 H)(no:∀s∈ρ,s.own=false)(hk:∀b o,H b=some o->(H0 b≠none\/F.B b≠none)->H' b=some o)(ha:∀b o,H b=some o->∃o',H' b=some o'):lU G F σ ρ H0 H' where
 sub:=λb o e=>hk b o (R.sub _ _ e) (.inl (by rw[e];exact λz=>nomatch z))
 g0:=R.g0
 keep:=λb o e n=>hk b o (R.keep b o e n) (.inr (by rw[e];exact λz=>nomatch z))
 fr:=R.fr
 am:=λb hb=>by obtain⟨o,e⟩:=R.am b hb;exact ha b o e
 len:=R.len
 sl:=λi s e=>by
  have ok:=R.sl i s e;have n:=no s (bC e);cases s with
  |un=>trivial
  |im d=>exact ok
  |_=>cases n
 ap:=λi j s t b _ e _ so=>by rw[no s (bC e)]at so;cases so
theorem IL{bs:List Addr}(h:bs.Nodup){i:Nat}{b:Addr}(e1:bs[i]?=some b)(e2:bs[j]?=some b):i=j:=by obtain⟨h1,q1⟩:=bq.mp e1;obtain⟨h2,q2⟩:=bq.mp e2;exact(fT h).mp (q1.trans q2.symm)
theorem IM{ks:List Key}(h:ks.Nodup){i:Nat}{b:Key}(e1:ks[i]?=some b)(e2:ks[j]?=some b):i=j:=by obtain⟨h1,q1⟩:=bq.mp e1;obtain⟨h2,q2⟩:=bq.mp e2;exact(fT h).mp (q1.trans q2.symm)
theorem Grp.more(g:Grp G F H0 H a ks dss bs){k:Key}{b:Addr}{v:V}(ek:ks[j]?=some k)(eb:bs[j]?=some b)(hx:H b=some (.lst xs))(rd:Rep G H0 d v):
  Grp G F H0 (upd H b (.lst (xs++[v]))) a (wj ks dss k d).1 (wj ks dss k d).2 bs:=by
 have hm:vz ks k=true:=yX.mpr (bC ek);unfold wj;rw[ag hm];have ne:a≠b:=λz=>by subst z;rw[g.at_]at hx;cases hx
 refine⟨by rw[lO ne];exact g.at_,g.n0,g.nB,g.len,?_,g.nd,g.kd,λi c ds e1 e2=>?_⟩
 ·rw[ix,<- g.len',<- g.len,d7,g.len]
 ·rw[List.getElem?_zipWith]at e2;cases q1:ks[i]? with
  |none=>rw[q1]at e2;cases e2
  |some k'=>
   cases q2:dss[i]? with
   |none=>rw[q1,q2]at e2;cases e2
   |some ds'=>
    rw[q1,q2]at e2;cases e2;obtain⟨ys,w1,w2,w3,w4⟩:=g.each i c ds' e1 q2;by_cases hk:k'=k
    ·subst hk;have ij:=IM g.kd q1 ek;subst ij;rw[e1]at eb;cases eb;rw[w1]at hx;cases hx;rw[ag rfl];exact⟨_,lQ,w2,w3,mY w4 (mw rd ma)⟩
    ·rw[ah hk];have nc:c≠b:=λz=>by subst z;have ij:=IL g.nd e1 eb;subst ij;rw[q1]at ek;cases ek;exact hk rfl
     exact⟨ys,by rw[lO nc];exact w1,w2,w3,w4⟩
theorem Grp.fresh(g:Grp G F H0 H a ks dss bs){k:Key}{v:V}(hk:k∉ks)(hp:H p=none)(h0:H0 p=none)(hB:F.B p=none)(rd:Rep G H0 d v):
  Grp G F H0 (upd (upd (upd H p (.lst [])) a (.dK ((ks++[k]).zip ((bs++[p]).map V.ref)))) p (.lst [v])) a (wj ks dss k d).1 (wj ks dss k d).2 (bs++[p]):=by
 have hm:¬vz ks k=true:=λz=>hk (yX.mp z);unfold wj;rw[ah hm];have ne:a≠p:=λz=>by subst z;rw[g.at_]at hp;cases hp
 have np:p∉bs:=λz=>by
  obtain⟨i,hi,e⟩:=fN z;have e1:bs[i]?=some p:=by rw[aR hi,e]
  obtain⟨ds,e2⟩:∃ds,dss[i]?=some ds:=⟨dss[i]'(by rw[<-g.len'];exact hi),aR _⟩;obtain⟨ys,w1,_⟩:=g.each i p ds e1 e2;rw[hp]at w1;cases w1
 refine⟨by rw[lO ne,lQ],g.n0,g.nB,by simp[g.len],by simp[g.len'],?_,?_,λi c ds e1 e2=>?_⟩
 ·rw[bh];refine⟨g.nd,by simp,λx hx y hy=>?_⟩;rw[aW]at hy;subst hy;exact λz=>np (z▸hx)
 ·rw[bh];refine⟨g.kd,by simp,λx hx y hy=>?_⟩;rw[aW]at hy;subst hy;exact λz=>hk (z▸hx)
 ·by_cases hi:i<bs.length
  ·rw[cP hi]at e1;rw[cP (by rw[<-g.len'];exact hi)]at e2;obtain⟨ys,w1,w2,w3,w4⟩:=g.each i c ds e1 e2;have nc:c≠p:=λz=>np (z▸bC e1);have na:c≠a:=λz=>by subst z;rw[g.at_]at w1;cases w1
   exact⟨ys,by rw[lO nc,lO na,lO nc];exact w1,w2,w3,w4⟩
  ·have hi':i=bs.length:=by have:i<(bs++[p]).length:=(bq.mp e1).1;rw[aC,bN]at this;omega
   subst hi';rw[cO (aE _),jE]at e1;rw[g.len',cO (aE _),jE]at e2;cases e1;cases e2;exact⟨[v],lQ,h0,hB,mw rd ma⟩
def yY(G:Bg)(fk:FE):TS:=B6 (tBM G.K "list" xH (DF (qf 1) (tF G fk) (KU xw)) (uW (qf 2) xw))
theorem DJ{D0:Ends}{x:D}{k:Key}{vr:V}(R:lU G F σ ρ H0 H)(no:∀s∈ρ,s.own=false)(h1:σ[1]?=some (some (.ref a)))(h2:σ[2]?=some (some vr))(rd:Rep G H0 d vr)
  (g:Grp G F H0 H a ks dss bs) (hk:fk ρ=some (x,ρ)) (ek:uF x=some k) (l1:ks.length<1000) (l2:∀ds∈dss,ds.length<1000)
  (kont:∀Hi Hj bs',lK H0 Hi->lU G F σ ρ Hi Hj->Grp G F Hi Hj a (wj ks dss k d).1 (wj ks dss k d).2 bs'->D0.nx σ Hj):yY G fk D0 σ H:=by
 refine⟨.ref a,h1,a,rfl,.inl ⟨_,.inl g.at_⟩,_,_,_,x,ρ,lU.still R no,hk,λv H1 H1' s R1 r=>?_⟩;have hs:lK H H1':=λb o e=>R1.keep b o e (by simp);have hf:∀b o,H1 b=some o->H0 b=some o\/H b=none:=R1.fr;have R2:lU G F σ ρ H1 H1':=R.grow hs s R1.sub hf;have g2:Grp G F H1 H1' a ks dss bs:=g.grow hs s hf;have rd2:=Rep.mono s _ _ rd;refine⟨cI _,λp hp=>?_⟩;have np:a≠p:=λz=>by subst z;rw[g2.at_]at hp;cases hp
 have R3:lU G F σ ρ H1 (upd H1' p (.lst [])):=R2.newOwn hp _;have g3:Grp G F H1 (upd H1' p (.lst [])) a ks dss bs:=g2.grow (l3 hp _) (lK.refl _) λb o e=>.inl e;have lz:(ks.zip (bs.map V.ref)).length<av:=by rw[dY,aj,<- g.len,d7,cb];omega
 refine⟨_,k,g3.at_,uN r ek,lz,λw ev=>?_,λev=>?_⟩
 ·obtain⟨j,e1,e2⟩:=DH (by rw[aj];exact g.len) ev;rw[aS]at e2;cases eb:bs[j]? with
  |none=>rw[eb]at e2;cases e2
  |some b=>
   rw[eb]at e2;cases e2;obtain⟨ds,ed⟩:∃ds,dss[j]?=some ds:=⟨dss[j]'(by rw[<-g.len'];exact(bq.mp eb).1),aR _⟩;obtain⟨xs,w1,w2,w3,w4⟩:=g3.each j b ds eb ed;have lx:xs.length<av:=by rw[<-lI w4,cb];have:=l2 ds (bC ed);omega
   refine⟨.inl ⟨rfl,xs,SqL.of w1⟩,vr,h2,b,xs,vr,rfl,rfl,w1,lx,?_⟩;refine kont H1 _ bs s (lU.touch R3 no (λc o e z=>?_) λc o e=>?_) (g3.more e1 eb w1 rd2)
   ·have nc:c≠b:=λy=>by
     subst y;rcases z with z|z
     ·exact z w2
     ·exact z w3
    rw[lO nc];exact e
   ·by_cases y:c=b
    ·subst y;exact⟨_,lQ⟩
    ·rw[lO y];exact⟨o,e⟩
 ·have nk:=DI (by rw[aj];exact g.len) ev;have h0p:H1 p=none:=R2.h0none hp;have hBp:F.B p=none:=R2.bNone hp;have ez:putK (ks.zip (bs.map V.ref)) k (.ref p)=(ks++[k]).zip ((bs++[p]).map V.ref):=by rw[Cp _ ev,bE,ja (by rw[aj];exact g.len)];rfl
  rw[ez];have q0:upd (upd H1' p (.lst [])) a (.dK ((ks++[k]).zip ((bs++[p]).map V.ref))) p=some (.lst []):=by rw[lO (λz=>np z.symm),lQ]
  refine⟨.inl ⟨rfl,[],SqL.of q0⟩,vr,h2,p,[],vr,rfl,rfl,q0,by rw[cb];decide,?_⟩;refine kont H1 _ (bs++[p]) s (lU.touch R3 no (λc o e z=>?_) λc o e=>?_) (g2.fresh nk hp h0p hBp rd2)
  ·have n1:c≠p:=λy=>by
    subst y;rcases z with z|z
    ·exact z h0p
    ·exact z hBp
   have n2:c≠a:=λy=>by
    subst y;rcases z with z|z
    ·exact z g2.n0
    ·exact z g2.nB
   rw[b8,lO n1,lO n2];exact e
  ·by_cases y:c=p
   ·subst y;exact⟨_,lQ⟩
   ·rw[lO y];by_cases y2:c=a
    ·subst y2;exact⟨_,lQ⟩
    ·rw[lO y2];exact⟨o,e⟩
end
def vG(vk:D->Option D):List D->List Key->List (List D)->Option (List Key×List (List D))
 |[],ks,dss=>some (ks,dss)
 |d::r,ks,dss=>match vk d with
  |some x=>match uF x with
   |some k=>if (decide (ks.length<1000)&&dss.all λds=>decide (ds.length<1000))=true then vG vk r (wj ks dss k d).1 (wj ks dss k d).2 else none
   |none=>none
  |none=>none
def zR(vk:D->Option D):FS:=λρ=>match ρ with
 |[.im (.lst L),.un,.un]=>match vG vk L [] []with
  |some (ks,dss)=>some (.rt (.dic ks (dss.map .lst)) [.im (.lst L),.un,.un])
  |none=>none
 |_=>none
section
variable{X:Cx}{G:Bg}
theorem uf{Hq:Hp}:∀(bs:List Addr) (dss:List (List D)),bs.length=dss.length->(∀(i:Nat) (b:Addr) (ds:List D),bs[i]?=some b->dss[i]?=some ds->∃xs,Hq b=some (.lst xs)/\lG G Hq ds xs)->
  lG G Hq (dss.map .lst) (bs.map V.ref)
 |[],[],_,_=>ma
 |[],_::_,h,_=>by cases h
 |_::_,[],h,_=>by cases h
 |b::bs,ds::dss,h,k=>by obtain⟨xs,h1,h2⟩:=k 0 b ds rfl rfl;exact mw (qo h1 h2) (uf bs dss (by simpa using h) λi b ds e1 e2=>k (i+1) b ds e1 e2)
theorem FP{F:Fr}{σ:St}{H0 H:Hp}{dss:List (List D)}{bs:List Addr}{L:List D}{s2:Sl}(R:lU G F σ [.im (.lst L),.un,s2] H0 H)(g:Grp G F H0 H a ks dss bs)(o:Obj):
  ∃Hq,lK H0 Hq/\lU G F σ [.im (.lst L),.un,.un] Hq (upd H a (.frz o (.dK (ks.zip (bs.map V.ref)))))/\Rep G Hq (.dic ks (dss.map .lst)) (.ref a):=by
 have mb:∀{b:Addr},b∈bs->∃xs,H b=some (.lst xs)/\H0 b=none/\F.B b=none:=λ{b} hb=>by obtain⟨i,hi,e⟩:=fN hb;obtain⟨xs,w1,w2,w3,_⟩:=g.each i b (dss[i]'(by rw[<-g.len'];exact hi)) (by rw[aR hi,e]) (aR _);exact⟨xs,w1,w2,w3⟩
 have na:a∉bs:=λz=>by obtain⟨xs,w1,_⟩:=mb z;rw[g.at_]at w1;cases w1
 have s0:lK H0 (λc=>if c=a then some (.frz o (.dK (ks.zip (bs.map V.ref))))else if c∈bs then H c else H0 c):=λc u e=>by
  have n1:c≠a:=λz=>by subst z;rw[g.n0]at e;cases e
  have n2:c∉bs:=λz=>by obtain⟨_,_,w2,_⟩:=mb z;rw[w2]at e;cases e
  show (if c=a then _ else if c∈bs then H c else H0 c)=_;rw[ah n1,ah n2];exact e
 refine⟨_,s0,?_,?_⟩
 ·exact {
   sub:=λc u e=>by
    have e':(if c=a then some (HO.frz o (.dK (ks.zip (bs.map V.ref))))else if c∈bs then H c else H0 c)=some u:=e;by_cases n1:c=a
    ·subst n1;rw[ag rfl]at e';rw[lQ];exact e'
    ·rw[ah n1]at e';rw[lO n1];by_cases n2:c∈bs
     ·rw[ag n2]at e';exact e'
     ·rw[ah n2]at e';exact R.sub _ _ e'
   g0:=R.g0.trans s0
   keep:=λc u e n=>by rw[lO (λz=>by subst z;rw[g.nB]at e;cases e)];exact R.keep c u e n
   fr:=λc u e=>by
    have e':(if c=a then some (HO.frz o (.dK (ks.zip (bs.map V.ref))))else if c∈bs then H c else H0 c)=some u:=e;by_cases n1:c=a
    ·subst n1;exact .inr g.nB
    ·rw[ah n1]at e';by_cases n2:c∈bs
     ·obtain⟨_,_,_,w3⟩:=mb n2;exact .inr w3
     ·rw[ah n2]at e';exact R.fr _ _ e'
   am:=λc hc=>by
    by_cases n1:c=a
    ·subst n1;exact⟨_,lQ⟩
    ·rw[lO n1];exact R.am c hc
   len:=R.len
   sl:=λi s e=>by
    match i,e with
    |0,e=>cases e;obtain⟨v,w1,w2⟩:=R.sl 0 _ rfl;exact⟨v,w1,Rep.mono s0 _ _ w2⟩
    |1,e=>cases e;trivial
    |2,e=>cases e;trivial
    |i+3,e=>cases e
   ap:=λi j s t b _ e _ so=>by
    match i,e with
    |0,e=>cases e;cases so
    |1,e=>cases e;cases so
    |2,e=>cases e;cases so
    |i+3,e=>cases e }
 ·unfold Rep;refine⟨a,o,bs.map V.ref,rfl,by show (if a=a then _ else _)=_;rw[ag rfl],by rw[aj];exact g.len,uf bs dss g.len' λi b ds e1 e2=>?_⟩;obtain⟨xs,w1,w2,w3,w4⟩:=g.each i b ds e1 e2;have hb:=bC e1;refine⟨xs,?_,lG.mono s0 _ _ w4⟩;show (if b=a then _ else if b∈bs then H b else H0 b)=_;have nb:b≠a:=λz=>na (by rw[<-z];exact hb);rw[ah nb,ag hb];exact w1
def DK{L:List D}{s2:Sl}(h:s2.own=false):∀s∈[Sl.im (.lst L),.un,s2],s.own=false:=λs hs=>by
 simp only[aT,de,or_false]at hs;rcases hs with rfl|rfl|rfl
 ·rfl
 ·rfl
 ·exact h
inductive GI(G:Bg) (F:Fr) (Ha:Hp) (p:Addr) (L:List D) (vk:D->Option D) (KS:List Key) (DSS:List (List D)) (i:Nat) (σ':St) (H':Hp):Prop
 |mk (Hi:Hp) (ks:List Key) (dss:List (List D)) (bs:List Addr) (s2:Sl):lK Ha Hi->Sl.own s2=false->lU G F σ' [.im (.lst L),.un,s2] Hi H'->σ'[1]?=some (some (.ref p))->Grp G F Hi H' p ks dss bs->vG vk (L.drop i) ks dss=some (KS,DSS)->GI G F Ha p L vk KS DSS i σ' H'
theorem BS{st1 st2 st3:Stmt}{vk:D->Option D}(h1:PS X st1 (rW zv (pN 1)))(h2:PS X st2 (G7 (tFI G (iL (cV 0))) (pN 2) (yY G (c1 vk (cV 2)))))
  (h3:PS X st3 (KF (λσ H Q=>qf 1 σ H λx H1=>Q x H1\/∃a kvs,H1 a=some (.dK kvs)/\∀o,Q x (upd H1 a (.frz o (.dK kvs)))))):PSs X [st1,st2,st3] (tFS G (zR vk)):=
 PSs.weak (sq h1 (sq h2 (uH h3))) λE σ H hh=>by
  obtain⟨F,ρ,H0,o,R,e,k,k2⟩:=hh;unfold zR at e;split at e
  ·rename_i L;cases eg:vG vk L [] []with
   |none=>simp only[eg]at e;cases e
   |some p=>
    obtain⟨KS,DSS⟩:=p;simp only[eg]at e;cases e;intro p hp;have R1:lU G F (σ.set 1 (some (.ref p))) [.im (.lst L),.un,.un] H0 (upd H p (.dK [])):=(R.newOwn hp (.dK [])).set (i:=1) (v:=.ref p) (s:=.un) trivial (λz=>by cases z);have hlen:σ.length=3:=R.len;have g1:Grp G F H0 (upd H p (.dK [])) p [] [] []:=⟨lQ,R.h0none hp,R.bNone hp,rfl,rfl,f6,f6,λi b ds e1=>by cases e1⟩;have v1:(σ.set 1 (some (V.ref p)))[1]?=some (some (.ref p)):=by rw[eF (by rw[hlen];decide)]
    refine⟨_,_,_,L,_,lU.still R1 (DK rfl),rfl,λJ Ha Hb s Ra wk=>?_⟩;have hs:lK (upd H p (.dK [])) Hb:=λb o e=>Ra.keep b o e (by simp);have R2:=R1.grow hs s Ra.sub Ra.fr;have g2:=g1.grow hs s Ra.fr;refine⟨λi m σ' H'=>m=L.length - i/\i<=L.length/\GI G F Ha p L vk KS DSS i σ' H',
     ⟨_,rfl,cI _,Ha,[],[],[],.un,lK.refl _,rfl,R2,v1,g2,eg⟩,?_⟩
    rintro i m σi Hi' ⟨rfl,hi,Hi,ks,dss,bs,s2,si,n2,Ri,vi,gi,ei⟩;by_cases hlt:i<L.length
    ·have ed:L.drop i=L[i]::L.drop (i+1):=fG hlt;rw[ed]at ei;unfold vG at ei;cases ev:vk L[i]with
     |none=>simp only[ev]at ei;cases ei
     |some x=>
      simp only[ev]at ei;cases ek:uF x with
      |none=>simp only[ek]at ei;cases ei
      |some kk=>
       simp only[ek]at ei;split at ei
       ·rename_i hb;simp only[aB,bt,az]at hb;obtain⟨go,yl⟩:=(wk i Hi Hi' si Ri.sub).1 L[i] (aR hlt);refine .inr ⟨go,GI G F Ha p L vk KS DSS (i+1),
         λσ' H' q=>⟨L.length - (i+1),by omega,rfl,hlt,q⟩,λxv H' y=>?_⟩
        obtain⟨H2,t1,t2,t3,t4,t5⟩:=yl xv H' y;have hl3:σi.length=3:=Ri.len;have R3:lU G F (σi.set 2 (some xv)) [.im (.lst L),.un,.im L[i]] H2 H':=(Ri.grow t3 t1 t2 t4).setIm 2 t5;have w1:(σi.set 2 (some xv))[1]?=some (some (.ref p)):=by rw[fJ (by decide)];exact vi
        have w2:(σi.set 2 (some xv))[2]?=some (some xv):=by rw[eF (by rw[hl3];decide)]
        refine DJ R3 (DK rfl) w1 w2 t5 (gi.grow t3 t1 t4) (by show c1 vk (cV 2) _=_;unfold c1 cV;simp only[List.getElem?_cons_succ,gZ,ev]) ek hb.1 (λds hd=>hb.2 ds hd) λHc Hd bs' sc Rc gc=>?_;exact⟨Hc,_,_,bs',_,si.trans (t1.trans sc),rfl,Rc,w1,gc,ei⟩
       ·cases ei
    ·have hi':i=L.length:=by omega
     refine .inl ⟨(wk i Hi Hi' si Ri.sub).2 hi',?_⟩;subst hi';rw[List.drop_length]at ei;cases ei;refine⟨.ref p,vi,.inr ⟨p,_,gi.at_,λo=>?_⟩⟩;obtain⟨Hq,q1,q2,q3⟩:=FP Ri gi o;exact k _ _ Hq _ (s.trans (si.trans q1)) q2 q3
  ·cases e
end
section
variable{X:Cx}{G:Bg}
theorem FQ:∀y b,nF "int" y=some b->bR X.K (y.val G) (.type "int")=some b:=λy b h=>by
 cases y with
 |c k=>cases h
 |b n=>
  unfold nF at h;simp only at h
  iterate 7 (split at h;· rename_i e;subst e;cases h;first|rfl|kernel_rfl)
  cases h
theorem DL:∀y b,nF "bool" y=some b->bR X.K (y.val G) (.type "bool")=some b:=λy b h=>by
 cases y with
 |c k=>cases h
 |b n=>
  unfold nF at h;simp only at h
  iterate 7 (split at h;· rename_i e;subst e;cases h;first|rfl|kernel_rfl)
  cases h
theorem kit_tuple:∀y b,nF "tuple" y=some b->bR X.K (y.val G) (.type "tuple")=some b:=λy b h=>by
 cases y with
 |c k=>cases h
 |b n=>
  unfold nF at h;simp only at h
  iterate 7 (split at h;· rename_i e;subst e;cases h;first|rfl|kernel_rfl)
  cases h
end
end L4
namespace L4
open PySem PySem.Spec PySem.Calls PyProof.Rows PySem.W L2 L3
inductive StrsAre:List aa->List Str->Prop
 |nil:StrsAre [] []
 |cons (x:Str) (t:Tok) {vs:List aa} {xs:List Str} (h:StrsAre vs xs):StrsAre (.str x t::vs) (x::xs)
end L4
namespace L4
open PySem PySem.Spec PyProof.Rows L2 L3
def AK:List String:=["NoneType", "bool", "int", "str", "tuple", "list", "dict"]
def wR(n c:Nat):Ty->Option Bool:=λy=>match y with
 |.b x=>if AK.contains x=true then some false else none
 |.c k=>if k<n then some (k==c)else none
def uP(K:ai)(cs:List Addr)(C:Addr)(c:Nat):Bool:=
 AK.all (λx=>bR K (.type x) (.ref C)==some false)&&(bb cs.length).all λk=>bR K (.ref (cs.getD k 0)) (.ref C)==some (k==c)
theorem wU{B:Bg}{n c:Nat}{cs:List Addr}(h:uP B.K cs (B.ca c) c=true)(hn:cs.length=n)(hc:∀k,k<n->cs.getD k 0=B.ca k)(hI:∀k,k<n->BF B.K (B.ca k)):zJ B c (wR n c):=by
 unfold uP at h;rw[aB,az,az]at h;refine⟨λy b e=>?_,λj b e=>?_⟩
 ·cases y with
  |b x=>
   unfold wR at e;simp only at e;split at e
   ·rename_i hx;cases e;exact fA (h.1 x (dF.mp hx))
   ·cases e
  |c k=>
   unfold wR at e;simp only at e;split at e
   ·rename_i hk;cases e;have:=fA (h.2 k (cG.mpr (by omega)));rw[hc k hk]at this;exact this
   ·cases e
 ·unfold wR at e;simp only at e;split at e
  ·rename_i hk;exact hI j hk
  ·cases e
theorem IP{l:List Addr}(h:l.Nodup){j k:Nat}(hj:j<l.length)(hk:k<l.length)(e:l.getD j 0=l.getD k 0):j=k:=by
 rw[eD,eD,aR hj,aR hk]at e;have pw:=List.pairwise_iff_getElem.mp h;rcases Nat.lt_trichotomy j k with y|y|y
 ·exact aq e (pw j k hj hk y)
 ·exact y
 ·exact aq e.symm (pw k j hk hj y)
variable{x:Str}
section
variable{B:Bg}{K:ai}{mg:Str->Option aa}{h:Heap}
theorem const_int{i:Int}{t:Tok}(X:K.In h)(Gn:h.Ns aA mg)(e:dB K aA x=some (some (.int i t))):rA B mg x (.int i):=
 ⟨.int i,_,fE X Gn e,⟨_,rfl⟩,λ_=>m5 _⟩
inductive qw:List aa->List Str->Prop
 |nil:qw [] []
 |cons {v:aa} {x:Str} {t:Tok} {vs:List aa} {xs:List Str} (e:v=.str x t) (h:qw vs xs):qw (v::vs) (x::xs)
theorem qw.vals{vs:List aa}{xs:List Str}(h:qw vs xs):Vals (xs.map V.str) vs:=by
 induction h with
 |nil=>exact .nil
 |cons e h ih=>exact .cons ⟨_,e⟩ ih
theorem vH{H:Hp}:∀xs:List Str,lG B H (xs.map D.str) (xs.map V.str)
 |[]=>ma
 |x::xs=>mw (sA x) (vH xs)
theorem zS{a:Addr}{o:Obj}{its:Array aa}{n:Nat}(xs:List Str)(X:B.K.In h)(Gn:h.Ns aA mg)(e:dB B.K aA x=some (some (.ref a)))(l:B.K.lookup a=some o)(hc:o.cls=.type "tuple")(hd:o.data=.seq its n)(hz:its.size<=1000)
  (r:qw its.toList xs):rA B mg x (.tup (xs.map D.str)):=
 ⟨.ref a,_,fE X Gn e,rfl,λH=>xK (.inr ⟨o,its,n,l,hc,hd,by rw[cb];omega,r.vals⟩) (vH xs)⟩
end
variable{l ns:List Str}
section
variable{f g' h:FS}{c:FT}{e e' e2:FE}{a a':FA}{ρ ρ' ρ1 ρ2 ρ3:List Sl}{d x y z:D}{ds xs ys:List D}{k:Nat}{cap:List Nat}{g:FG}{ft:FT}{fe:FE}
theorem vI{α:Type}(dd:α->D)(p:α->Bool)(h:α->D):∀l:List α,
  (∀a∈l,∃ρ1 ρ2,g (dd a) (uD k cap ρ)=some ρ1/\ft ρ1=some (p a,ρ2)/\(p a=true->∃ρ3,fe ρ2=some (h a,ρ3)/\ox cap (ρ3.drop k) ρ=some ρ)/\(p a=false->ox cap (ρ2.drop k) ρ=some ρ))->
  qU k cap g ft fe (l.map dd) ρ=some ((l.filter p).map h,ρ)
 |[],_=>rfl
 |a::l,st=>by
  obtain⟨ρ1,ρ2,h1,h2,h3,h4⟩:=st a aO;have ih:=vI dd p h l λa' ha=>st a' (aU _ ha);rw[aK];unfold qU;rw[h1];simp only[h2];cases hp:p a with
  |true=>obtain⟨ρ3,h5,h6⟩:=h3 hp;simp only[h5,h6,ih,fW,hp,if_true,aK]
  |false=>simp only[h4 hp,ih,fW,hp];rfl
theorem FR{α:Type}(dd:α->D)(h:α->D)(l:List α)(st:∀a∈l,∃ρ1 ρ3,g (dd a) (uD k cap ρ)=some ρ1/\fe ρ1=some (h a,ρ3)/\ox cap (ρ3.drop k) ρ=some ρ):qU k cap g mI fe (l.map dd) ρ=some (l.map h,ρ):=by have:=vI (ft:=mI) dd (λ_=>true) h l λa ha=>let ⟨ρ1,ρ3,h1,h2,h3⟩:=st a ha;⟨ρ1,ρ1,h1,rfl,λ_=>⟨ρ3,h2,h3⟩,λz=>by cases z⟩;rw[this,iz.mpr λ_ _=>rfl]
theorem FU(neg:Bool)(a b:Str):dEq neg (.str a) (.str b)=some (.bl (if neg then !decide (a=b)else decide (a=b))):=by
 have e:zD neg (.str a) (.str b)=some (.bl (if neg then !decide (V.str a=V.str b)else decide (V.str a=V.str b))):=rfl;have e2:decide (V.str a=V.str b)=decide (a=b):=by
  by_cases h:a=b
  ·subst h;simp
  ·rw[aX h,aX (λz=>h (by injection z))]
 unfold dEq;rw[e,e2]
theorem DM(a:Str)(l:List Str):inV (V.str a) (l.map V.str)=decide (a∈l):=by
 unfold inV;rw[cE,bD,bt];constructor
 ·rintro⟨v,hv,he⟩;obtain⟨b,hb,rfl⟩:=aN.mp hv;have:b=a:=by unfold eqV at he;simpa using he
  rw[<-this];exact hb
 ·intro ha;refine⟨.str a,aM ha,?_⟩;unfold eqV;simp
theorem BU(l:List Str):(l.map D.str).all nD=true:=by rw[fi,az];intro x _;rfl
theorem FV(l:List Str):(l.map D.str).map vD=l.map V.str:=by rw[bz];rfl
theorem vJ(neg:Bool)(a:Str)(l:List Str):dIn neg (.str a) (.lst (l.map D.str))=some (.bl (if neg then !decide (a∈l)else decide (a∈l))):=by unfold dIn;show (if nD (.str a)&&(l.map D.str).all nD then some (D.bl (if neg then !inV (vD (.str a)) ((l.map D.str).map vD)else inV (vD (.str a)) ((l.map D.str).map vD)))else none)=_;rw[BU,FV];show some (D.bl (if neg then !inV (V.str a) (l.map V.str)else inV (V.str a) (l.map V.str)))=_;rw[DM]
theorem DN(neg:Bool)(a:Str)(l:List Str):dIn neg (.str a) (.tup (l.map D.str))=some (.bl (if neg then !decide (a∈l)else decide (a∈l))):=vJ neg a l
theorem xW:∀bs:List Bool,wg (bs.map D.bl)=some bs
 |[]=>rfl
 |b::bs=>by rw[aK];unfold wg;rw[xW bs];rfl
theorem DO(bs:List Bool):oe (.lst (bs.map D.bl))=some (.bl (bs.all id)):=by unfold oe;simp only[xW];rfl
theorem DP(bs:List Bool):vA (.lst (bs.map D.bl))=some (.bl (bs.any id)):=by unfold vA;simp only[xW];rfl
theorem FW{α:Type}(l:List α)(p:α->Bool):oe (.lst (l.map λa=>D.bl (p a)))=some (.bl (l.all p)):=by rw[show (l.map λa=>D.bl (p a))=(l.map p).map D.bl by rw[bz];rfl,DO,fi];rfl
theorem FX{α:Type}(l:List α)(p:α->Bool):vA (.lst (l.map λa=>D.bl (p a)))=some (.bl (l.any p)):=by rw[show (l.map λa=>D.bl (p a))=(l.map p).map D.bl by rw[bz];rfl,DP,List.any_map];rfl
theorem vK:∀l:List Str,qE (l.map D.str)=some (l.map Sum.inr)
 |[]=>rfl
 |x::l=>by rw[aK];unfold qE;rw[vK l];rfl
theorem DQ:∀(l acc:List Key),(acc++l).Nodup->l.foldl ddp acc=acc++l
 |[],acc,_=>by rw[bw];rfl
 |k::l,acc,h=>by
  have hn:acc.any (λz=>decide (z=k))=false:=by rw[dQ];intro z;obtain⟨y,hy,ey⟩:=bD.mp z;rw[bh]at h;exact h.2.2 y hy k aO (bM ey)
  rw[fY,show ddp acc k=acc++[k] by unfold ddp;rw[hn];rfl,DQ l (acc++[k]) (by simpa using h)];simp
theorem wV(h:l.Nodup):(l.map (Sum.inr:Str->Key)).Nodup:=by unfold List.Nodup at h ⊢;rw[iW];exact h.imp λhne z=>hne (gr z)
theorem yZ(h:l.Nodup)(hl:l.length<=1000):nM (l.map D.str)=some (.int l.length):=by unfold nM;rw[vK];simp only[aj,hl,if_true];unfold pE;rw[DQ _ [] (by simpa using wV h)];simp
theorem xX(neg:Bool)(a b:Int):dEq neg (.int a) (.int b)=some (.bl (if neg then !decide (a=b)else decide (a=b))):=by
 have e:zD neg (.int a) (.int b)=some (.bl (if neg then !decide (V.int a=V.int b)else decide (V.int a=V.int b))):=rfl;have e2:decide (V.int a=V.int b)=decide (a=b):=by
  by_cases h:a=b
  ·subst h;simp
  ·rw[aX h,aX (λz=>h (by injection z))]
 unfold dEq;rw[e,e2]
theorem vL(h1:e ρ=some (.bl true,ρ1)):oV e e' ρ=e' ρ1:=by unfold oV;rw[h1]
theorem sJ{g:Nat->Option (List D->Option D)}{m:Str}{c:Nat}{hh:List D->Option D}(h1:e ρ=some (.obj c ns xs,ρ1))(h2:g c=some hh)(h3:ns.contains m=false)(h4:a ρ1=some (ys,ρ2))(h5:hh (.obj c ns xs::ys)=some d):n9 g m e a ρ=some (d,ρ2):=by unfold n9;rw[h1];simp only[h2,h3,h4,h5];rfl
theorem AL{c:Nat}{g:List D->Option (List Str×List D)}(h1:a ρ=some (ds,ρ1))(h2:g ds=some (ns,xs)):lY c g a ρ=some (.obj c ns xs,ρ1):=by unfold lY;rw[h1];simp only[h2]
theorem IQ{np n:Nat}{b:FS}(hl:ds.length=np)(h:b (L4.stE n ds)=some (.rn xs ρ)):fnD np n b ds=some (.lst xs):=by unfold fnD;rw[ag hl,h]
theorem y3:∀{ks:List Key} {ds:List D} {k:Key} {d:D},ks.Nodup->(k,d)∈ks.zip ds->vy ks ds k=some d
 |[],_,k,d,_,h=>by simp at h
 |k'::ks,[],k,d,_,h=>by simp at h
 |k'::ks,d'::ds,k,d,nd,h=>by
  unfold vy;rw[cA]at h;rcases aT.mp h with e|h
  ·cases e;rw[ag rfl]
  ·rw[dW]at nd;rw[ah (λz=>nd.1 (by subst z;exact(eU h).1))];exact y3 nd.2 h
end
end L4
namespace L4
open PySem PySem.Spec PyProof.Rows L2 L3
open PySem.W (nsIn findIn keepIn isFn makesIn fnOf)
def zT{α:Type}:Nat->(List α->Prop)->Prop
 |0,P=>P []
 |n+1,P=>∀a,zT n λl=>P (a::l)
theorem uQ{α:Type}:∀{n:Nat} {P:List α->Prop},zT n P->∀l,l.length=n->P l
 |0,P,h,[],_=>h
 |n+1,P,h,a::l,e=>uQ (P:=λl=>P (a::l)) (h a) l (dr e)
structure CF(K:ai)(C:Addr)(xs:List Str):Prop where
 ci:BF K C
 mks:makesIn K C=true
 kp:keepIn K (.ref C)=true
 na:(xs.all λx=>match findIn K (.ref C) x with|some none=>true|_=>false)=true
theorem CF.at{K:ai}{C:Addr}{xs:List Str}(c:CF K C xs)(i:Nat){x:Str}(h:xs[i]?=some x):Cls K C/\pz K C x:=⟨c.ci.cl,by
 have e:=az.mp c.na x (bC h);unfold pz;split at e
 ·rename_i e1;exact e1
 ·cases e⟩
theorem sd{Q:Nat->Prop}{i:Nat}(h:Q i):∀c,(c==i)=true->Q c:=λc e=>by rw[beq_iff_eq]at e;subst e;exact h
theorem orQ{Q:Nat->Prop}{p:Nat->Bool}{i:Nat}(h:∀c,p c=true->Q c)(h':Q i):∀c,(p c||c==i)=true->Q c:=λc e=>by
 rw[dZ]at e;rcases e with e|e
 ·exact h c e
 ·exact sd h' c e
structure Yw(P:au)(w:ak)(mg:Str->Option aa)(base:Heap)(G:Bg):Prop where
 m:∃h:Heap,G.K.In h/\h.Ns aA mg
variable{np:Nat}{b:FS}{vs:List V}{us:List aa}
section
variable{P:au}{w:ak}{mg:Str->Option aa}{base:Heap}{G:Bg}{x m qual:Str}{st:Stmt}{N ps:List Str}{k c:Nat}{K:ai}
theorem Yw.g(y:Yw P w mg base G){v:aa}(e:nsIn G.K aA x=some (some v)):mg x=some v:=by obtain⟨h,X,Gn⟩:=y.m;exact fE X Gn e
theorem Yw.n(y:Yw P w mg base G){xs:List Str}(h:(xs.all λx=>match nsIn G.K aA x with|some none=>true|_=>false)=true)(i:Nat)(hi:xs[i]?=some x):mg x=none:=by
 obtain⟨hh,X,Gn⟩:=y.m;have e:=az.mp h x (bC hi);split at e
 ·rename_i e1;exact W.mg_none_of X Gn e1
 ·cases e
def GC(K:ai)(x:Str)(i:Int):Prop:=∃t:Tok,nsIn K aA x=some (some (.int i t))
theorem Yw.ci(y:Yw P w mg base G){i:Int}(q:GC G.K x i):rA G mg x (.int i):=by obtain⟨h,X,Gn⟩:=y.m;obtain⟨t,e⟩:=q;exact const_int X Gn e
def GS(K:ai)(x:Str)(xs:List Str):Prop:=∃(a:Addr) (o:Obj) (its:Array aa) (n:Nat),nsIn K aA x=some (some (.ref a))/\K.lookup a=some o/\o.cls=.type "tuple" /\ o.data=.seq its n/\its.size<=1000/\qw its.toList xs
theorem Yw.cs(y:Yw P w mg base G){xs:List Str}(q:GS G.K x xs):rA G mg x (.tup (xs.map D.str)):=by obtain⟨h,X,Gn⟩:=y.m;obtain⟨a,o,its,n,e,l,h1,h2,h3,h4⟩:=q;exact zS xs X Gn e l h1 h2 h3 h4
def GD(K:ai)(x:Str)(st:Stmt):Prop:=∃(f:Addr) (fd:aZ),nsIn K aA x=some (some (.ref f))/\Fun K x x st f fd
def GM(K:ai)(C:Addr)(m qual:Str)(st:Stmt):Prop:=∃(f:Addr) (fd:aZ),findIn K (.ref C) m=some (some (.ref f))/\isFn K (.ref f)=true/\Fun K m qual st f fd
def GJ(K:ai)(C:Addr)(qual:Str)(st:Stmt)(vs:List V):Prop:=∃(f:Addr) (fd:aZ) (T:Addr) (o:Obj) (dl:List aa) (n:Nat),findIn K (.ref C) "__init__" = some (some (.ref f))/\isFn K (.ref f)=true/\Br K "__init__" qual st f fd T/\K.lookup T=some o/\o.data=.seq dl.toArray n/\Vals vs dl
abbrev Bdy(P:au)(w:ak)(K:ai)(mg:Str->Option aa)(base:Heap)(N:List Str)(qual:Str)(st:Stmt)(k:Nat)(t:TS):Prop:=∀(f:Addr) (cdv:aa) (A:aw) (outer:List Env) (s:ae) (H:Hp) (E:XK),mP k (A.deeper (envOfC qual (lS st) s.heap.objs.size f cdv))->PSs (qY P w K mg base N qual st f cdv A outer s H E) (l7 st) t
abbrev Bds(x qual:Str)(st:Stmt)(ps:List Str):Prop:=zT ps.length λus=>∀(kV doc pm:aa) (an:Option Addr) (cdv ct:aa),bindArgs (fnOf x qual (oi st) (l7 st) (lS st) .none kV doc pm an cdv ct) ⟨us,[]⟩=pure (ps.zip us)
theorem Bds.ok{f:Addr}{fd:aZ}(b:Bds x qual st ps)(F:Fun K x qual st f fd):Binds K fd ps []:=F.binds λkV doc pm an cdv ct us hl=>uQ b us hl kV doc pm an cdv ct
theorem gD{sp:Sp}(y:Yw P w mg base G)(q:GD G.K x st)(bd:Bds x x st ps)(ok:∀f fd,Fun G.K x x st f fd->oh P w G.K mg base CX0 k f fd ps sp):qX P w G.K mg base k x ps sp:=by obtain⟨f,fd,a,F⟩:=q;exact⟨f,fd,y.g a,F.kp,bd.ok F,ok f fd F⟩
theorem gF{n:Nat}{g:List D->Option D}(hg:g=fnD np n b)(y:Yw P w mg base G)(q:GD G.K x st)(S:m4 N ps (lS st))(body:Bdy P w G.K mg base N x st k (tFS G b))(hp:ps.length=np:=by rfl)(hN:N.length=n:=by rfl)(bd:Bds x x st ps:=by (repeat intro _);rfl):qX P w G.K mg base (k+1) x ps (spF G g):=
 gD y q bd λf fd F=>Dl hg hp hN F S (body f)
theorem gN'{n:Nat}{g:List D->Option (List D)}(hg:g=fnN np n b)(y:Yw P w mg base G)(q:GD G.K x st)(S:m4 N ps (lS st))(body:Bdy P w G.K mg base N x st k (tFS G b))(hp:ps.length=np:=by rfl)(hN:N.length=n:=by rfl)(bd:Bds x x st ps:=by (repeat intro _);rfl):qX P w G.K mg base (k+1) x ps (spN G g):=
 gD y q bd λf fd F=>Lp hg hp hN F S (body f)
theorem gM{n:Nat}{g:List D->List D->Option (D×List D)}{p:Str}(hg:g=fnM np n b)(y:Yw P w mg base G)(q:GD G.K x st)(S:m4 N (p::ps) (lS st))(body:Bdy P w G.K mg base N x st k (tFS G b))(hp:ps.length=np:=by rfl)(hN:N.length=n:=by rfl)(bd:Bds x x st (p::ps):=by (repeat intro _);rfl):qX P w G.K mg base (k+1) x (p::ps) (spM G g):=
 gD y q bd λf fd F=>Lq hg hp hN F S (body f)
theorem gI{n:Nat}{g:List D->Option (List Str×List D)}{xs:List Str}{p:Str}(hg:g=fnI c np n b)(y:Yw P w mg base G)(C:CF G.K (G.ca c) xs)(a:nsIn G.K aA x=some (some (.ref (G.ca c))))(q:GM G.K (G.ca c) "__init__" qual st)(S:m4 N (p::ps) (lS st))(body:Bdy P w G.K mg base N qual st k (tFS G b))(hp:ps.length=np:=by rfl)(hN:N.length=n:=by rfl)(bd:Bds "__init__" qual st (p::ps):=by (repeat intro _);rfl):xR G P w mg base (k+1) x c (p::ps) [] g:=by obtain⟨f,fd,i,i',F⟩:=q;exact⟨f,fd,[],⟨C.mks,i,i',C.kp⟩,y.g a,bd.ok F,.nil,Lr hg hp hN F S (body f)⟩
theorem y4(h:Vals vs us):us.length=vs.length:=by
 induction h with
 |nil=>rfl
 |cons _ _ ih=>rw[aG,aG,ih]
theorem BV(h:Vals vs us):∀j,Vals (vs.drop j) (us.drop j):=by
 induction h with
 |nil=>intro j;rw[jw,jw];exact .nil
 |cons a b ih=>
  intro j;cases j with
  |zero=>exact .cons a b
  |succ j=>exact ih j
theorem gJ{n:Nat}{g:List D->Option (List Str×List D)}{xs:List Str}{p:Str}(hg:g=fnI c np n b)(y:Yw P w mg base G)(C:CF G.K (G.ca c) xs)(a:nsIn G.K aA x=some (some (.ref (G.ca c))))(q:GJ G.K (G.ca c) qual st vs)(S:m4 N (p::ps) (lS st))(body:Bdy P w G.K mg base N qual st k (tFS G b))(j:Nat)(hp:ps.length=np:=by rfl)(hN:N.length=n:=by rfl)
  (bd:zT vs.length λdl=>zT ((p::ps).length - (vs.drop j).length) λus=>∀(T:Addr) (kV doc pm:aa) (an:Option Addr) (cdv ct:aa),∃k,bindArgs (fnOf "__init__" qual (oi st) (l7 st) (lS st) (.ref T) kV doc pm an cdv ct) ⟨us,[]⟩=seqItems? (.ref T)>>=k/\k (some dl.toArray)=pure ((p::ps).zip (us++dl.drop j)):=by (repeat intro _);exact⟨_,rfl,rfl⟩):xR G P w mg base (k+1) x c (p::ps) (vs.drop j) g:=by
 obtain⟨f,fd,T,o,dl,n,i,i',F,l,e,r⟩:=q;refine⟨f,fd,dl.drop j,⟨C.mks,i,i',C.kp⟩,y.g a,F.binds l e λkV doc pm an cdv ct us hl=>?_,BV r j,Iv hg hp hN F S (body f)⟩;exact uQ (uQ bd dl (y4 r)) us (by rw[hl,dc,dc,y4 r]) T kV doc pm an cdv ct
end
end L4
namespace L4
open PySem PySem.Spec PySem.Calls PyProof.Rows PySem.W L2 L3
structure Sto(c:Nat->Nat->Bool)(n:Nat):Prop where
 tr:∀i j k,i<n->j<n->k<n->c i j=true->c j k=true->c i k=true
 tot:∀i j,i<n->j<n->i≠j->c i j=false->c j i=true
def key2:D->Option (List Str)
 |.tup [.str p,.str q]=>some [p,q]
 |_=>none
end L4
namespace L4
open PySem PySem.Spec PyProof.Rows L2 L3
structure Bz where
 P:au
 w:ak
 mg:Str->Option aa
 base:Heap
 G:Bg
structure ZE(X:Cx)(B:Bz)(e:Expr)(f:FE):Prop where p:PE X e (tF B.G f)
structure ZN(X:Cx)(B:Bz)(e:Expr)(f:FA):Prop where p:PE X e (tFN B.G f)
structure ZT(X:Cx)(B:Bz)(e:Expr)(f:FT):Prop where p:PT X e (tFT B.G f)
structure ZW(X:Cx)(B:Bz)(e:Expr)(f:FT):Prop where p:PW X e (tFT B.G f)
structure ZF(X:Cx)(B:Bz)(e:List Expr)(f:FT):Prop where p:PIf X e (tFT B.G f)
structure ZA(X:Cx)(B:Bz)(e:List Expr)(f:FA):Prop where p:PA X e (tFA B.G f)
structure ZS(X:Cx)(B:Bz)(e:Stmt)(f:FS):Prop where p:PS X e (tFS B.G f)
structure ZB(X:Cx)(B:Bz)(e:List Stmt)(f:FS):Prop where p:PSs X e (tFS B.G f)
structure ZI(X:Cx)(B:Bz)(tg e:Expr)(f:FA):Prop where p:PI X tg e (tFI B.G f)
structure ZO(X:Cx)(B:Bz)(e:Option Expr)(f:FO):Prop where p:PO X e (tFO B.G f)
structure ZG(X:Cx)(B:Bz)(e:Expr)(n:Nat)(f:FG):Prop where p:PG X e (tFG B.G n f)
structure ZH(X:Cx)(B:Bz)(e:List Expr)(n:Nat)(f:List D->List Sl->Option (List Sl)):Prop where p:PGs X e (CK B.G n f)
structure ZK(X:Cx)(e:Option Expr)(i:Option Int):Prop where p:PO X e (tO i)
structure ZV(X:Cx)(e:Expr)(i:Nat):Prop where p:PE X e (qf i)
abbrev Gz(X:Cx)(x:Str):Prop:=X.env.kindOf x=some .globalImplicit
abbrev Dz(x:Str):Prop:=(x==("__debug__" : Str))=false
abbrev Nz(x:Str):Prop:=(decide (x≠"__name__")&&!(x==("__debug__" : Str)))=true
abbrev Sz(X:Cx)(e:Expr)(es:List Expr):Prop:=ao (e::es) X.env=(false,eval e X.env)::ao es X.env
abbrev S1(X:Cx)(e:Expr):Prop:=ao [e] X.env=[(false,eval e X.env)]
abbrev Lz(X:Cx)(pos:Pos)(es:List Expr):Prop:=(aL pos (ao es X.env)).any (·.1)=false
abbrev Wz(X:Cx)(e o:Expr)(pos:Pos):Prop:=bH e (some o) pos.line X.env=pure false
abbrev Az(X:Cx)(o:Expr)(m:Str):Prop:=c3 o m X.env (eval o X.env)=eval o X.env
abbrev Ez(p pos:Pos):Prop:=(p.endLine==pos.line)=true
abbrev Iz(e:Expr):Prop:=(λo i=>subscripted e false o i)=λo i=>operate [o,i] (getItem o i)
abbrev Fz(X:Cx)(e:Expr):Prop:=(λx=>dM e X.env x)=λx=>pure x
class Cz(X:Cx)(B:outParam Bz)(k:outParam Nat):Prop where
 P:X.prog=B.P
 w:X.w=B.w
 K:X.K=B.G.K
 mg:X.mg=B.mg
 b:X.base=B.base
 c:X.calm=true
 r:mP k X.A
class Yb(B:Bz):Prop where y:Yw B.P B.w B.mg B.base B.G
class Df(B:Bz)(j:outParam Nat)(x:Str)(sp:Sp):Prop where p:∃ps,qX B.P B.w B.G.K B.mg B.base j x ps sp
class Kf(B:Bz)(j:outParam Nat)(x:Str)(c:Nat)(g:List D->Option (List Str×List D))(dds:List D):Prop where
 p:∃ps,xR B.G B.P B.w B.mg B.base j x c ps (dds.map vD) g
 f:dds.all nD=true
class Mf(B:Bz)(j:outParam Nat)(m:Str)(g:Nat->Option (List D->Option D)):Prop where p:∀c h,g c=some h->tL B.G B.P B.w B.mg B.base j m c h
class Ff(B:Bz)(ok:Nat->Bool)(f:Str):Prop where p:∀c,ok c=true->Cls B.G.K (B.G.ca c)/\pz B.G.K (B.G.ca c) f
class Af(B:Bz)(c:Nat)(xs:outParam (List Str)):Prop where p:CF B.G.K (B.G.ca c) xs
class Nb(B:Bz)(x:Str):Prop where p:B.mg x=none
class Co(B:Bz)(x:Str)(d:D):Prop where p:rA B.G B.mg x d
class Ic(B:Bz)(x:Str)(t:Ty->Option Bool):Prop where p:∃c,zJ B.G c t/\B.mg x=some (.ref (B.G.ca c))
class Ij(B:Bz)(n:Nat):Prop where p:∀j k,j<n->k<n->B.G.ca j=B.G.ca k->j=k
class OpC(op:fB)(g:D->D->Option D):Prop where p:∀(X:Cx) (G:Bg),∃r,OpR X (bX op) r/\OpD G r g
instance in1:OpC .Mod nQ:=⟨λ_ _=>⟨_,Hg,HX⟩⟩
instance in2:OpC .FloorDiv qD:=⟨λ_ _=>⟨_,El,HY⟩⟩
instance in3:OpC .Mult pC:=⟨λ_ _=>⟨_,Hf,HW⟩⟩
instance in5:OpC .Pow CY:=⟨λ_ _=>⟨_,Hh,HZ⟩⟩
instance in6:OpC .Add oa:=⟨λ_ _=>⟨_,He,HV⟩⟩
class CmC(op:c7)(g:D->D->Option D):Prop where p:∀(X:Cx) (G:Bg),X.K=G.K->X.A.units+64<cLine->∃r,OpR X (aI op) r/\OpD G r g
instance in9:CmC .Eq (dEq false):=⟨λ_ _ h u=>⟨_,Ii u h,Lk⟩⟩
instance in10:CmC .NotEq (dEq true):=⟨λ_ _ h u=>⟨_,Ik u h,Ll⟩⟩
instance in11:CmC .In (dIn false):=⟨λ_ _ h _=>⟨_,Il h,Gr⟩⟩
instance in12:CmC .NotIn (dIn true):=⟨λ_ _ h _=>⟨_,BB h,Gr⟩⟩
instance in13:CmC .Is yK:=⟨λ_ _ _ _=>⟨_,Hk,Ib⟩⟩
instance in14:CmC .IsNot Dc:=⟨λ_ _ _ _=>⟨_,Em,Fj⟩⟩
instance in16:CmC .Lt Fi:=⟨λ_ _ _ _=>⟨_,KN,Lg⟩⟩
instance in17:CmC .LtE pD:=⟨λ_ _ _ _=>⟨_,KO,Lh⟩⟩
instance in18:CmC .Gt CZ:=⟨λ_ _ _ _=>⟨_,KP,Li⟩⟩
instance in19:CmC .GtE HU:=⟨λ_ _ _ _=>⟨_,KQ,Lj⟩⟩
instance in20:CmC .LtE Da:=⟨λ_ _ _ _=>⟨_,Bq,Ia⟩⟩
class B1(x:Str)(g:D->Option D):Prop where p:∀(X:Cx) (G:Bg),X.K=G.K->X.calm=true->∃(id:String) (r:List V->Hp->VK->Prop),ng X (.builtin id) r/\wM G r g/\b9 x=some (.builtin id)
instance in21:B1 "len" nE:=⟨λ_ _ h _=>⟨_,_,BD h,Im,jm⟩⟩
instance in22:B1 "all" oe:=⟨λ_ _ h c=>⟨_,_,BE c h,Iq,boot_all⟩⟩
instance in23:B1 "any" vA:=⟨λ_ _ h c=>⟨_,_,BL c h,IA,boot_any⟩⟩
class KtC(x:Str)(T:outParam String):Prop where p:(∀(X:Cx) (G:Bg) y b,nF T y=some b->bR X.K (y.val G) (.type T)=some b)/\b9 x=some (.type T)
instance in24:KtC "str" "str" := ⟨λ_ _=>Fq,Pv.boot_str⟩
instance in25:KtC "int" "int" := ⟨λ_ _=>FQ,jN⟩
instance in26:KtC "bool" "bool" := ⟨λ_ _=>DL,Pv.boot_bool⟩
instance in27:KtC "list" "list" := ⟨λ_ _=>Do,jF⟩
instance in28:KtC "tuple" "tuple" := ⟨λ_ _=>kit_tuple,Pv.boot_tuple⟩
theorem Gy{G:Bg}{H:Hp}:∀{dds:List D},dds.all nD=true->lG G H dds (dds.map vD)
 |[],_=>ma
 |d::ds,h=>by rw[cm,aB]at h;exact mw (sH h.1 H) (Gy h.2)
theorem eqI{α:Sort u}{a b:α}(h:a=b):a=b:=h
def sees(X:Cx)(i:Nat)(x:Str):Bool:=decide (X.N[i]?=some x)&&(match X.env.scope.names.lookup x with|some .local=>true|some .cell=>true|some .free=>true|_=>false)&&!(x==("__debug__" : Str))&&!(x==("__classdict__" : Str))
def sets(X:Cx)(i:Nat)(x:Str):Bool:=decide X.N.Nodup&&decide (X.N[i]?=some x)&&(match X.env.scope.names.lookup x with|some .local=>true|some .cell=>X.fn x|_=>false)
variable{fu:FT}{id T:String}{r:List V->Hp->VK->Prop}{lo:Option Expr}{y:Int}
section
variable{X:Cx}{B:Bz}{k j i n c0:Nat}{x m:Str}{e e' o tg it:Expr}{es:List Expr}{p p2 p3 pos apos:Pos}{f f' f2:FE}{a:FA}{g:D->D->Option D}
theorem pvI(h:sees X i x=true):PE X (.Name x p) (qf i):=by
 unfold sees at h;simp only[aB,bt,cj]at h;obtain⟨⟨⟨h1,h2⟩,h3⟩,h4⟩:=h;refine pv i h1 ?_ h3 h4;unfold Vis;split at h2
 ·rename_i e;exact .inl e
 ·rename_i e;exact .inr (.inl e)
 ·rename_i e;exact .inr (.inr e)
 ·cases h2
theorem LA(h:sees X i x=true):ZE X B (.Name x p) (cV i):=⟨zA (pvI h)⟩
theorem IR(h:sees X i x=true):ZE X B (.Name x p) (cFz i):=⟨Le (pvI h)⟩
theorem FY(h:sees X i x=true):ZN X B (.Name x p) (CT i):=⟨Fc (pvI h)⟩
theorem xY(h:sets X i x=true):X.N.Nodup/\X.N[i]?=some x/\L2.Loc X.env.scope x/\(X.fn x=true\/X.env.scope.names.lookup x=some .local):=by
 unfold sets at h;simp only[aB,bt]at h;obtain⟨⟨h1,h2⟩,h3⟩:=h;unfold L2.Loc;split at h3
 ·rename_i e;exact⟨h1,h2,.inl e,.inr e⟩
 ·rename_i e;exact⟨h1,h2,.inr e,.inl h3⟩
 ·cases h3
theorem pgI(h:sets X i x=true):PG X (.Name x p) (pN i):=by obtain⟨h1,h2,h3,h4⟩:=xY h;exact z9 h1 h2 h3 h4
theorem IS(h:sets X i x=true)(hi:Nat.blt i n=true):ZG X B (.Name x p) n (gN i):=⟨CL n (pgI h) (Nat.blt_eq.mp hi)⟩
theorem stW{te:TE}(h:sets X i x=true)(he:PE X e te)(hs:Wz X e (.Name x p) pos):PS X (.Assign [.Name x p] e pos) (rW te (pN i)):=by obtain⟨h1,h2,h3,h4⟩:=xY h;exact G4 h1 h2 h3 he hs h4
theorem IT(h:sets X i x=true)(he:ZE X B e f)(hs:Wz X e (.Name x p) pos):ZS X B (.Assign [.Name x p] e pos) (mF i f):=⟨Au (stW h he.p hs)⟩
theorem IU(h:sets X i x=true)(he:ZN X B e a)(hs:Wz X e (.Name x p) pos):ZS X B (.Assign [.Name x p] e pos) (pB i a):=⟨yB (stW h he.p hs)⟩
theorem IV(h:sets X i x=true)(hs:Wz X (.Dict [] [] p2) (.Name x p) pos):ZS X B (.Assign [.Name x p] (.Dict [] [] p2) pos) (wO i):=⟨Du (stW h yq hs)⟩
theorem IW{op:fB}[O:OpC op g](ha:ZE X B e f)(hb:ZE X B e' f'):ZE X B (.BinOp e op e' pos) (c2 g f f'):=by obtain⟨r,h1,h2⟩:=O.p X B.G;exact⟨K7 h1 h2 ha.p hb.p⟩
theorem IY [C:Cz X B k](ha:ZE X B e f)(hb:ZE X B e' f')(hs:Iz e'):ZE X B (.Subscript e e' pos) (c2 dIx f f'):=⟨K8 (Mi C.K) Lm ha.p hb.p λo i=>congrFun (congrFun hs o) i⟩
theorem FZ [C:Cz X B k](h:sees X i x=true)(hb:ZE X B e' f')(hs:Iz e'):ZE X B (.Subscript (.Name x p) e' pos) (vm i f'):=⟨HQ (Gg (Cw B.G.K C.K) (pvI h) hb.p λo i=>congrFun (congrFun hs o) i)⟩
theorem IZ [C:Cz X B k](ha:ZE X B e f)(hb:ZE X B e' f')(hs:Iz e'):ZE X B (.Subscript e e' pos) (c2 ub f f'):=⟨Fu (Gm C.r) ha.p hb.p λo i=>congrFun (congrFun hs o) i⟩
section
variable{op op':c7}{g':D->D->Option D}
theorem I0 [O:CmC op g][C:Cz X B k](ha:ZE X B e f)(hb:ZE X B e' f')(hm:cZ op e'=false):ZE X B (.Compare e [op] [e'] pos) (c2 g f f'):=by obtain⟨r,h1,h2⟩:=O.p X B.G C.K C.r.units;exact⟨HI h1 h2 ha.p hb.p hm⟩
theorem Ja [O:CmC op g][C:Cz X B k](ha:ZE X B e f)(hb:ZE X B e' f')(hm:cZ op e'=false):ZT X B (.Compare e [op] [e'] pos) (cT (c2 g f f')):=by obtain⟨r,h1,h2⟩:=O.p X B.G C.K C.r.units;exact⟨EL h1 h2 ha.p hb.p hm⟩
theorem Jb [O:CmC op g][O':CmC op' g'][C:Cz X B k](ha:ZE X B e f)(hb:ZE X B e' f')(hc:ZE X B o f2)(hm:lastMarks [op,op'] [e',o]=false):ZE X B (.Compare e [op,op'] [e',o] pos) (nV g g' f f' f2):=by obtain⟨r,h1,h2⟩:=O.p X B.G C.K C.r.units;obtain⟨r',h3,h4⟩:=O'.p X B.G C.K C.r.units;exact⟨Dj h1 h3 h2 h4 ha.p hb.p hc.p hm⟩
theorem Jc [O:CmC op g][O':CmC op' g'][C:Cz X B k](ha:ZE X B e f)(hb:ZE X B e' f')(hc:ZE X B o f2)(hm:lastMarks [op,op'] [e',o]=false):ZT X B (.Compare e [op,op'] [e',o] pos) (cT (nV g g' f f' f2)):=by obtain⟨r,h1,h2⟩:=O.p X B.G C.K C.r.units;obtain⟨r',h3,h4⟩:=O'.p X B.G C.K C.r.units;exact⟨BH h1 h3 h2 h4 ha.p hb.p hc.p hm⟩
end
theorem Jd(h:ZE X B e f)(he:(λwhole=>isTrue e X.env whole)=λwhole=>(do let v<-whole;standAt e.pos;holding [v] (truthy v))):ZT X B e (cT f):=⟨EM h.p λw=>congrFun he w⟩
theorem Je{ft:FT}(ha:ZT X B e ft)(hb:ZW X B (.BoolOp .Or (e'::es) pos) fu):ZT X B (.BoolOp .Or (e::e'::es) pos) (yz ft fu):=⟨PW.pt (CB ha.p hb.p)⟩
theorem Jf{d:D}[C:Cz X B k][Q:Co B x d](hg:Gz X x)(hd:Dz x):ZE X B (.Name x pos) (cC d):=⟨Dm (C.mg▸Q.p) hg hd⟩
theorem Jg{ok:Nat->Bool}[C:Cz X B k][Q:Ff B ok m](he:ZE X B e f)(hb:Az X e m):ZE X B (.Attribute e m pos) (c1 (l8 ok m) f):=⟨CP he.p (C.K▸Q.p) hb⟩
section
variable(hg:Gz X x)(hd:Dz x)(hs:Sz X e es)(hl:Lz X pos es)
include hg hd
theorem dz{sp:Sp}[C:Cz X B k][Q:Df B j x sp]:∃ps,qX X.prog X.w X.K X.mg X.base j x ps sp:=by rw[C.P,C.w,C.K,C.mg,C.b];exact Q.p
theorem Jh{g:List D->Option (List D)}[C:Cz X B k][Q:Df B j x (spN B.G g)](hj:bK j k=true):ZN X B (.Call (.Name x p) [] [] pos) (mR g ml):=by obtain⟨ps,q⟩:=dz hg hd (X:=X) (Q:=Q);exact⟨Dk q (C.r.mono (bW.mp hj)) hg hd⟩
include hs hl
theorem Ji{g:List D->Option D}[C:Cz X B k][Q:Df B j x (spF B.G g)](ha:ZA X B (e::es) a)(hj:bK j k=true):ZE X B (.Call (.Name x p) (e::es) [] pos) (lN g a):=by obtain⟨ps,q⟩:=dz hg hd (X:=X) (Q:=Q);exact⟨Iu q (C.r.mono (bW.mp hj)) ha.p hg hd hs hl⟩
theorem Jj{g:List D->Option (List D)}[C:Cz X B k][Q:Df B j x (spN B.G g)](ha:ZA X B (e::es) a)(hj:bK j k=true):ZN X B (.Call (.Name x p) (e::es) [] pos) (mR g a):=by obtain⟨ps,q⟩:=dz hg hd (X:=X) (Q:=Q);exact⟨Fn q (C.r.mono (bW.mp hj)) ha.p hg hd hs hl⟩
theorem Jk{g:List D->List D->Option (D×List D)}[C:Cz X B k][Q:Df B j x (spM B.G g)](hv:ZV X e i)(ha:ZA X B es a)(hj:bK j k=true):ZE X B (.Call (.Name x p) (e::es) [] pos) (qM g i a):=by obtain⟨ps,q⟩:=dz hg hd (X:=X) (Q:=Q);exact⟨Fo q (C.r.mono (bW.mp hj)) hv.p ha.p hg hd hs hl⟩
theorem Jl{g:List D->Option (List Str×List D)}{dds:List D}[C:Cz X B k][Q:Kf B j x c0 g dds](ha:ZA X B (e::es) a)(hj:bK (j+1) k=true):ZE X B (.Call (.Name x p) (e::es) [] pos) (lY c0 (λds=>g (ds++dds)) a):=by obtain⟨ps,q⟩:=Q.p;exact⟨Fp (by rw[C.P,C.w,C.mg,C.b];exact q) (λH=>Gy Q.f) (C.r.mono (bW.mp hj)) ha.p C.K hg hd hs hl⟩
end
theorem mz{g:Nat->Option (List D->Option D)}[C:Cz X B k][Q:Mf B j m g]:∀c h,g c=some h->tL B.G X.prog X.w X.mg X.base j m c h:=by rw[C.P,C.w,C.mg,C.b];exact Q.p
theorem Jm{g:Nat->Option (List D->Option D)}{pl:Sem Bool}[C:Cz X B k][Q:Mf B j m g](ho:ZE X B o f)(hj:bK j k=true)
  (ht:eval (.Call (.Attribute o m apos) [] [] pos) X.env=(do
   let ov<-eval o X.env
   standAt apos.atName
   let (f,first)<-holding [ov] (getMethod ov m pl)
   callWith pos f first (aL pos (ao [] X.env)) (backToKw pos (cp [] X.env)))):ZE X B (.Call (.Attribute o m apos) [] [] pos) (n9 g m f ml):=⟨zG mz (C.r.mono (bW.mp hj)) ho.p C.K ht⟩
theorem Jn{g:Nat->Option (List D->Option D)}{pl:Sem Bool}[C:Cz X B k][Q:Mf B j m g](ho:ZE X B o f)(ha:ZA X B (e::es) a)(hj:bK j k=true)(hs:Sz X e es)(hl:Lz X pos es)
  (ht:eval (.Call (.Attribute o m apos) (e::es) [] pos) X.env=(do
   let ov<-eval o X.env
   standAt apos.atName
   let (f,first)<-holding [ov] (getMethod ov m pl)
   callWith pos f first (aL pos (ao (e::es) X.env)) (backToKw pos (cp [] X.env)))):ZE X B (.Call (.Attribute o m apos) (e::es) [] pos) (n9 g m f a):=⟨BI mz (C.r.mono (bW.mp hj)) ho.p ha.p C.K hs hl ht⟩
section
variable(hg:Gz X x)(hd:Nz x)(hs:S1 X e)
include hg hd hs
theorem cbI{t:TA}[C:Cz X B k][N:Nb B x](hc:ng X (.builtin id) r)(hv:b9 x=some (.builtin id))(ha:PA X [e] t):PE X (.Call (.Name x p) [e] [] pos) (tCB r t):=by simp only[aB,bt,cj]at hd;exact qP hc hg (C.mg▸N.p) hv ha hd.1 hd.2 hs rfl
theorem ctI{t:TA}[C:Cz X B k][N:Nb B x](hc:ng X (.type T) r)(hv:b9 x=some (.type T))(ha:PA X [e] t):PE X (.Call (.Name x p) [e] [] pos) (tCB r t):=by simp only[aB,bt,cj]at hd;exact Bf hc hg (C.mg▸N.p) hv ha hd.1 hd.2 hs rfl
theorem Jo{g:D->Option D}[Q:B1 x g][C:Cz X B k][N:Nb B x](ha:ZE X B e f):ZE X B (.Call (.Name x p) [e] [] pos) (c1 g f):=by obtain⟨id,r,h1,h2,h3⟩:=Q.p X B.G C.K C.c;exact⟨Gs h2 (cbI hg hd hs h1 h3 (nh ha.p o6 hs))⟩
end
section
variable(hs:S1 X e)
include hs
theorem Jp [C:Cz X B k][N:Nb B "list"](hg:Gz X "list")(ha:ZE X B e f):ZN X B (.Call (.Name "list" p) [e] [] pos) (rH f):=⟨Dh (ctI hg (by decide) hs (zF C.K) jF (nh ha.p o6 hs))⟩
theorem Jq [C:Cz X B k][N:Nb B "len"][N':Nb B "set"](hg:Gz X "len")(hg':Gz X "set")(ha:ZE X B e f)(z:ao [Expr.Call (.Name "set" p2) [e] [] p3] X.env=[(false,eval (.Call (.Name "set" p2) [e] [] p3) X.env)]):ZE X B (.Call (.Name "len" p) [.Call (.Name "set" p2) [e] [] p3] [] pos) (c1 xV f):=⟨BQ C.K (BP Lx C.r.units C.c hg (C.mg▸N.p) hg' (C.mg▸N'.p) ha.p z hs)⟩
theorem Jr [C:Cz X B k][N:Nb B "range"](hg:Gz X "range")(ha:ZE X B e f):ZI X B tg (.Call (.Name "range" p) [e] [] pos) (iR1 f):=⟨zC (A6 hg (C.mg▸N.p) (nh ha.p o6 hs) hs)⟩
end
section
variable(hi:Gz X "isinstance")(hg:Gz X x)(hs:ao [e,.Name x p2] X.env=[(false,eval e X.env),(false,eval (.Name x p2) X.env)])(hs':S1 X (.Name x p2))
include hi hg hs hs'
theorem Js [Q:KtC x T][C:Cz X B k][N:Nb B "isinstance"][N':Nb B x](ha:ZE X B e f)(hd:Nz x):ZE X B (.Call (.Name "isinstance" p) [e,.Name x p2] [] pos) (c1 (oA (nF T)) f):=by
 simp only[aB,bt,cj]at hd;refine⟨AA (c:=.b T) (qP (wN (.b T) (Q.p.1 X B.G) Dn C.K) hi (C.mg▸N.p) jd (og ha.p (og (Eg (v:=.ty T) hg (C.mg▸N'.p) Q.p.2 rfl hd.1 hd.2) qh ?_) ?_) (by decide) (by decide) ?_ ?_)⟩
 ·exact hs'
 ·rw[hs,hs']
 ·rw[hs,hs']
 ·rw[hs'];rfl
theorem Jt{t:Ty->Option Bool}[Q:Ic B x t][C:Cz X B k][N:Nb B "isinstance"](ha:ZE X B e f)(hd:Dz x):ZE X B (.Call (.Name "isinstance" p) [e,.Name x p2] [] pos) (c1 (oA t) f):=by
 obtain⟨c,q1,q2⟩:=Q.p;refine⟨AA (c:=.c c) (qP (zK q1 C.K) hi (C.mg▸N.p) jd (og ha.p (og (z7 (v:=.ref (B.G.ca c)) hg (C.mg▸q2) rfl hd) qh ?_) ?_) (by decide) (by decide) ?_ ?_)⟩
 ·exact hs'
 ·rw[hs,hs']
 ·rw[hs,hs']
 ·rw[hs'];rfl
end
section
variable(hb:Az X o m)(hl:Ez apos pos)(hs:S1 X e)
include hb hl hs
theorem bmI{r:V->List V->Hp->VK->Prop}{to:TE}{t:TA}[C:Cz X B k](pa:gK T)(slot:Slot T m id)(hty:typeOf (.builtin id)=pure (.type "method_descriptor"))(hm:MtR X id r)(ho:PE X o to)(ha:PA X [e] t):PE X (.Call (.Attribute o m apos) [e] [] pos) (tBM B.G.K T r to t):=
 Cy B.G.K pa slot hty hm ho ha hb (by rw[hs];rfl) hl hs rfl C.K
end
section
variable(h:sees X i x=true)(hb:Az X (.Name x p) m)(hl:Ez apos pos)(hs:S1 X e)
include h hb hl hs
theorem Ju [C:Cz X B k](hm:m="append")(ha:ZE X B e f):ZE X B (.Call (.Attribute (.Name x p) m apos) [e] [] pos) (rZ i f):=by subst hm;exact⟨By (bmI hb hl hs eR fO iN tE (pvI h) (nh ha.p o6 hs))⟩
theorem Jv [C:Cz X B k](hm:m="extend")(ha:ZE X B e f):ZE X B (.Call (.Attribute (.Name x p) m apos) [e] [] pos) (uc i f):=by subst hm;exact⟨zM (bmI hb hl hs eR eO iO (C.K▸zL) (pvI h) (og ha.p qh hs))⟩
end
theorem Jw{xs:List Str}[C:Cz X B k][Q:Af B c0 xs](hx:xs.contains m=true)(h:sees X i x=true)(hv:ZE X B e f)(hs:Wz X e (.Attribute (.Name x p) m apos) pos):ZS X B (.Assign [.Attribute (.Name x p) m apos] e pos) (mn c0 i m f):=⟨E9 (Hm (pvI h) hv.p hs) (by obtain⟨i,_,e⟩:=fN (dF.mp hx);exact C.K▸Q.p.at i (bq.mpr ⟨_,e⟩))⟩
theorem Jx [C:Cz X B k](h:sees X i x=true)(hk:ZE X B e' f')(hv:ZE X B e f)(hs:Wz X e (.Subscript (.Name x p) e' apos) pos):ZS X B (.Assign [.Subscript (.Name x p) e' apos] e pos) (oI i f' f):=⟨Dv (EC (Gm C.r) (pvI h) hk.p hv.p hs)⟩
theorem Jy{n:Nat}[Q:Ij B n](h:ZE X B e f):ZE X B e (rJ n f):=⟨FN Q.p h.p⟩
theorem Jz{hi:Option Expr}{fl fh:FO}[C:Cz X B k](he:ZE X B e f)(hl:ZO X B lo fl)(hh:ZO X B hi fh):ZN X B (.Subscript e (.Slice lo hi none p) pos) (rF f fl fh):=⟨zI (yj (Lo C.K) he.p hl.p hh.p)⟩
theorem JA{hi:Option Expr}{l h:Option Int}[C:Cz X B k](he:ZE X B e f)(hl:ZK X lo l)(hh:ZK X hi h):ZN X B (.Subscript e (.Slice lo hi none p) pos) (cSl f l h):=⟨BG (yj (Lo C.K) he.p hl.p hh.p)⟩
theorem JB:ZK X (some (.Constant (.int y) j pos)) (some y):=⟨Di⟩
theorem JC:ZK X none none:=⟨Ln⟩
theorem JD [C:Cz X B k](h:ZE X B e f):ZI X B tg e (iL f):=⟨yG (yw B.G.K h.p C.K)⟩
theorem JE [C:Cz X B k](h:ZE X B e f):ZI X B tg e (iT f):=⟨Fg (EH B.G.K h.p C.K)⟩
theorem JF(h:ZE X B e f):ZI X B tg e (iD f):=⟨DE (FL h.p)⟩
theorem JG(h:ZE X B e f):ZI X B tg e (iS f):=⟨Fv (HB h.p)⟩
section
variable{gg:FG}{gs:List D->List Sl->Option (List Sl)}
theorem F0:ZH X B [] n As:=⟨EW Eh⟩
theorem F1(h1:ZG X B e n gg)(h2:ZH X B es n gs)(hs:(bG (e::es) X.env).map (·.2)=assign e X.env::(bG es X.env).map (·.2)):ZH X B (e::es) n (rX gg gs):=⟨CM (B7 h1.p h2.p hs)⟩
theorem F2{n' k':Nat}[C:Cz X B k](h:ZH X B es n gs)(hn:(bG es X.env).length=n')(ht:(bG es X.env).findIdx? (·.1)=none):ZG X B (.Tuple es k' pos) n (gT gs n'):=⟨EX (EI B.G.K C.c h.p hn ht C.K)⟩
end
def tgN:Expr->List Str
 |.Name x _=>[x]
 |.Tuple es _ _=>es.filterMap λe=>match e with|.Name x _=>some x|_=>none
 |_=>[]
def cpN(X:Cx)(tg:Expr)(cap:List Nat):List Str:=tgN tg++cap.map λj=>X.N.getD j ""
instance inCz [C:Cz X B k]{N':List Str}{sc:bA}{cl:List (Str×Addr)}{A:Addr}{fp:List Addr}{s:ae}{H:Hp}:Cz (mQ X N' sc cl A fp s H) B k:=⟨C.P,C.w,C.K,C.mg,C.b,C.c,C.r⟩
def JH(X:Cx)(N':List Str)(sc:bA)(n:Nat)(cap:List Nat):Bool:=decide cap.Nodup&&decide (sc.kind=.function)&&(sc.names.all λy=>y.2 != .cell)&&(sc.names.all λy=>y.2 != .local||sc.names.lookup y.1==some .local)&&(sc.names.all λy=>y.2 != .free||(X.env.kindOf y.1==some .cell||X.env.kindOf y.1==some .free))&&decide (N'.length=n+cap.length)&&decide ((N'.drop n).map some=cap.map λj=>X.N[j]?)&&((N'.drop n).all λx=>sc.names.lookup x==some .free)
section
variable{sc:bA}{cap:List Nat}{ifs:List Expr}{gg:FG}{ft:FT}{s:FA}
 (h0:JH X (cpN X tg cap) sc n cap=true) (hs:Fz X it) (hi:ZI X B tg it s)
 (h1:∀(cl:List (Str×Addr)) (A:Addr) (fp:List Addr) (s:ae) (H:Hp),ZG (mQ X (cpN X tg cap) sc cl A fp s H) B tg n gg)
 (h2:∀(cl:List (Str×Addr)) (A:Addr) (fp:List Addr) (s:ae) (H:Hp),ZF (mQ X (cpN X tg cap) sc cl A fp s H) B ifs ft)
 (h3:∀(cl:List (Str×Addr)) (A:Addr) (fp:List Addr) (s:ae) (H:Hp),ZE (mQ X (cpN X tg cap) sc cl A fp s H) B e f)
include h0 hs hi h1 h2 h3
theorem JI [C:Cz X B k]:ZN X B (.ListComp e [⟨tg,it,ifs,0⟩] sc pos) (lX n cap s gg ft f):=by unfold JH at h0;simp only[aB,bt]at h0;obtain⟨⟨⟨⟨⟨⟨⟨a1,a2⟩,a3⟩,a4⟩,a5⟩,a6⟩,a7⟩,a8⟩:=h0;exact⟨CV a1 (EG (N':=cpN X tg cap) C.c hi.p (λcl A fp s H=>⟨(h1 cl A fp s H).p,(h2 cl A fp s H).p,(h3 cl A fp s H).p⟩) a2 a3 a4 a5 a6 a7 a8 λx=>congrFun hs x)⟩
theorem cpW [C:Cz X B k](h:sets X i x=true)(hw:bH (.ListComp e [⟨tg,it,ifs,0⟩] sc pos) (some (.Name x p)) apos.line X.env=pure true):PS X (.Assign [.Name x p] (.ListComp e [⟨tg,it,ifs,0⟩] sc pos) apos) (rW (tZ (tFI B.G s) (tFG B.G n gg) (tFT B.G ft) (tF B.G f) n cap) (pN i))/\cap.Nodup:=by unfold JH at h0;simp only[aB,bt]at h0;obtain⟨⟨⟨⟨⟨⟨⟨a1,a2⟩,a3⟩,a4⟩,a5⟩,a6⟩,a7⟩,a8⟩:=h0;obtain⟨b1,b2,b3,b4⟩:=xY h;exact⟨Fs (N':=cpN X tg cap) C.c b1 b2 b3 hi.p (λcl A fp s H=>⟨(h1 cl A fp s H).p,(h2 cl A fp s H).p,(h3 cl A fp s H).p⟩) a2 a3 a4 a5 a6 a7 a8 (λx=>congrFun hs x) hw b4,a1⟩
theorem JJ [C:Cz X B k](h:sets X i x=true)(hw:bH (.ListComp e [⟨tg,it,ifs,0⟩] sc pos) (some (.Name x p)) apos.line X.env=pure true):ZS X B (.Assign [.Name x p] (.ListComp e [⟨tg,it,ifs,0⟩] sc pos) apos) (mF i (cL (lX n cap s gg ft f))):=by have z:=cpW (k:=k) h0 hs hi h1 h2 h3 h hw;exact⟨Dp z.2 z.1⟩
theorem JK [C:Cz X B k](h:sets X i x=true)(hw:bH (.ListComp e [⟨tg,it,ifs,0⟩] sc pos) (some (.Name x p)) apos.line X.env=pure true):ZS X B (.Assign [.Name x p] (.ListComp e [⟨tg,it,ifs,0⟩] sc pos) apos) (pB i (lX n cap s gg ft f)):=by have z:=cpW (k:=k) h0 hs hi h1 h2 h3 h hw;exact⟨BK z.2 z.1⟩
end
section
variable{st:Stmt}{sts:List Stmt}{fs fs':FS}{ft:FT}{a':FA}{z1:Nat}
theorem LB(ha:ZE X B e f)(hr:ZA X B es a)(hs:Sz X e es):ZA X B (e::es) (aCons f a):=⟨nh ha.p hr.p hs⟩
theorem LC:ZA X B [] ml:=⟨o6⟩
theorem JL(h:sees X i x=true):ZV X (.Name x p) i:=⟨pvI h⟩
theorem JM(h:ZN X B e a):ZE X B e (cL a):=⟨HN h.p⟩
theorem LF{y:Str}:ZE X B (.Constant (.str y) j pos) (cC (.str y)):=⟨HG⟩
theorem LG:ZE X B (.Constant (.int y) j pos) (cC (.int y)):=⟨HF⟩
theorem LH{y:Bool}:ZE X B (.Constant (.bool y) j pos) (cC (.bl y)):=⟨K6⟩
theorem LI:ZE X B (.Constant .none j pos) (cC .non):=⟨HH⟩
theorem AM(h1:ZS X B st fs)(h2:ZB X B sts fs'):ZB X B (st::sts) (lJ fs fs'):=⟨CG h1.p h2.p⟩
theorem LJ(h1:ZS X B st fs):ZB X B [st] fs:=⟨EU h1.p⟩
theorem LK:ZB X B [] nv:=⟨ET⟩
theorem JN(h:ZE X B e f):ZS X B (.Return (some e) pos) (mK f):=⟨EV h.p⟩
theorem JO(h:ZN X B e a):ZS X B (.Return (some e) pos) (nz a):=⟨CH h.p⟩
theorem JP(h:ZE X B e f)(hs:bH e none pos.line X.env=pure false):ZS X B (.Expr e pos) (n8 f):=⟨CJ h.p hs⟩
theorem JQ(h:ZT X B e ft)(h1:ZB X B sts fs){sts':List Stmt}(h2:ZB X B sts' fs'):ZS X B (.If e sts sts' pos) (sIf ft fs fs'):=⟨HP h.p h1.p h2.p⟩
theorem JR:ZE X B e r6:=⟨Dw⟩
theorem JS(h:ZA X B es a):ZN X B (.List es pos) (lZ a):=⟨ER h.p⟩
theorem JT(h:ZA X B es a):ZE X B (.Tuple es z1 pos) (mC a):=⟨HM h.p⟩
theorem JU(ha:ZE X B e f)(hb:ZE X B e' f'):ZN X B (.BinOp e .Add e' pos) (mL f f'):=⟨Fk ha.p hb.p⟩
theorem JV [C:Cz X B k](ha:ZE X B e f)(hb:ZE X B e' f'):ZE X B (.BinOp e .Add e' pos) (yR f f'):=⟨Fw ha.p hb.p C.K⟩
theorem JW(ha:ZE X B e f)(hb:ZE X B (.BoolOp .And (e'::es) pos) f'):ZE X B (.BoolOp .And (e::e'::es) pos) (oV f f'):=⟨HK ha.p hb.p⟩
theorem JX{op}(ha:ZE X B e f):ZE X B (.BoolOp op [e] pos) f:=⟨HJ ha.p⟩
theorem JY(ha:ZE X B e f):ZE X B (.UnaryOp .Not e pos) (ve f):=⟨HL ha.p⟩
theorem JZ(ha:ZT X B e ft):ZT X B (.UnaryOp .Not e pos) (p6 ft):=⟨EN ha.p⟩
theorem J0(h:ZT X B o ft)(ha:ZE X B e f)(hb:ZE X B e' f'):ZE X B (.IfExp o e e' pos) (cIf ft f f'):=⟨La h.p ha.p hb.p⟩
theorem LL(h:ZT X B e ft):ZF X B [e] ft:=⟨EF h.p⟩
theorem LM:ZF X B [] mI:=⟨CW⟩
theorem J1(h:ZE X B e f):ZE X B e (qr f):=⟨Ir h.p⟩
theorem J2(h:ZT X B e ft):ZT X B e (vw ft):=⟨Fl h.p⟩
theorem J3(h:ZE X B e f):ZO X B (some e) (oAt f):=⟨IC h.p⟩
theorem J4:ZO X B none oNo:=⟨IB⟩
theorem J7(ha:ZT X B e ft)(hb:ZW X B (.BoolOp .Or (e'::es) pos) fu):ZW X B (.BoolOp .Or (e::e'::es) pos) (yz ft fu):=⟨CB ha.p hb.p⟩
theorem J8(h:ZT X B e ft):ZW X B (.BoolOp .Or [e] pos) ft:=⟨EO h.p⟩
end
theorem J9{body:List Stmt}{s:FA}{gg:FG}{b:FS}[C:Cz X B k](hp:PassesOwn (model X.prog X.w) X.A X.env X.xe)(hn:X.N.length=n)(hi:ZI X B tg it s)(hg:ZG X B tg n gg)(hb:ZB X B body b)(hs:Fz X it):ZS X B (.For tg it body [] pos) (qT s gg b):=⟨Fh (Ca hp C.c hi.p hg.p hb.p λx=>congrFun hs x)⟩
end
end L4
namespace L4
open PySem PySem.Spec PyProof.Rows L2 L3
open PySem.W (fnOf)
def nmO(st:Stmt):List Str:=(lS st).names.filterMap λy=>match y.2 with|.local=>some y.1|.cell=>some y.1|_=>none
def psO(st:Stmt):List Str:=(oi st).args.map (·.arg)
def okO(N ps:List Str)(st:Stmt)(np n:Nat):Bool:=decide ((lS st).kind=.function)&&(lS st).isCoroutine==false&&(lS st).isGenerator==false&&decide N.Nodup&&decide (N.take ps.length=ps)&&(ps.all λx=>match (lS st).names.lookup x with|some .local=>true|some .cell=>true|_=>false)&&((lS st).names.all λy=>y.2 != .free)&&decide (ps.length=np)&&decide (N.length=n)
theorem okk{N ps:List Str}{st:Stmt}{np n:Nat}(h:okO N ps st np n=true):m4 N ps (lS st)/\ps.length=np/\N.length=n:=by
 unfold okO at h;simp only[aB,bt,beq_iff_eq]at h;obtain⟨⟨⟨⟨⟨⟨⟨⟨h1,h2⟩,h3⟩,h4⟩,h5⟩,h6⟩,h7⟩,h8⟩,h9⟩:=h;refine⟨⟨h1,h2,h3,h4,h5,λx hx=>?_,λy hy e=>?_⟩,h8,h9⟩
 ·have z:=az.mp h6 x hx;split at z
  ·rename_i e;exact .inl e
  ·rename_i e;exact .inr e
  ·cases z
 ·have z:=az.mp h7 y hy;rw[e]at z;exact aq z (by decide)
section
variable{B:Bz}[Y:Yb B]{x m qual:Str}{st s0:Stmt}{l:List Stmt}{k c np n:Nat}{b:FS}{p:Str}{ps xs:List Str}{N:List Str}
abbrev Bdz(B:Bz)(N:List Str)(qual:Str)(st:Stmt)(l:List Stmt)(k:Nat)(b:FS):Prop:=∀{f:Addr} {cdv:aa} {A:aw} {outer:List Env} {s:ae} {H:Hp} {E:XK} [Cz (qY B.P B.w B.G.K B.mg B.base N qual st f cdv A outer s H E) B k],ZB (qY B.P B.w B.G.K B.mg B.base N qual st f cdv A outer s H E) B l b
omit Y in
theorem Bdz.ok(h:Bdz B N qual st l k b)(hl:l7 st=l):Bdy B.P B.w B.G.K B.mg B.base N qual st k (tFS B.G b):=λf cdv A outer s H E hr=>by subst hl;exact(@h f cdv A outer s H E ⟨rfl,rfl,rfl,rfl,rfl,rfl,hr⟩).p
theorem gF4{g:List D->Option D}(hg:g=fnD np n b)(q:GD B.G.K x st)(hl:l7 st=s0::l)(body:Bdz B (nmO st) x st (s0::l) k b)(S:okO (nmO st) (psO st) st np n=true:=by kernel_rfl)(bd:Bds x x st (psO st):=by (repeat intro _);rfl):Df B (k+1) x (spF B.G g):=
 ⟨_,gF hg Y.y q (okk S).1 (body.ok hl) (okk S).2.1 (okk S).2.2 bd⟩
theorem gF5(N:List Str){g:List D->Option D}(hg:g=fnD np n b)(q:GD B.G.K x st)(hl:l7 st=s0::l)(body:Bdz B N x st (s0::l) k b)(S:okO N (psO st) st np n=true:=by kernel_rfl)(bd:Bds x x st (psO st):=by (repeat intro _);rfl):Df B (k+1) x (spF B.G g):=
 ⟨_,gF hg Y.y q (okk S).1 (body.ok hl) (okk S).2.1 (okk S).2.2 bd⟩
theorem gN4{g:List D->Option (List D)}(hg:g=fnN np n b)(q:GD B.G.K x st)(hl:l7 st=s0::l)(body:Bdz B (nmO st) x st (s0::l) k b)(S:okO (nmO st) (psO st) st np n=true:=by kernel_rfl)(bd:Bds x x st (psO st):=by (repeat intro _);rfl):Df B (k+1) x (spN B.G g):=
 ⟨_,gN' hg Y.y q (okk S).1 (body.ok hl) (okk S).2.1 (okk S).2.2 bd⟩
theorem gM4{g:List D->List D->Option (D×List D)}(hg:g=fnM np n b)(q:GD B.G.K x st)(hl:l7 st=s0::l)(hp:psO st=p::ps)(body:Bdz B (nmO st) x st (s0::l) k b)(S:okO (nmO st) (p::ps) st (np+1) n=true:=by kernel_rfl)(bd:Bds x x st (p::ps):=by (repeat intro _);rfl):Df B (k+1) x (spM B.G g):=
 ⟨_,gM hg Y.y q (okk S).1 (body.ok hl) (dr (okk S).2.1) (okk S).2.2 bd⟩
theorem hF4{g:List D->Option D}(C:CF B.G.K (B.G.ca c) xs)(hg:g=fnD np n b)(q:GM B.G.K (B.G.ca c) m qual st)(hl:l7 st=s0::l)(body:Bdz B (nmO st) qual st (s0::l) k b)(S:okO (nmO st) (psO st) st np n=true:=by kernel_rfl)(bd:Bds m qual st (psO st):=by (repeat intro _);rfl):tL B.G B.P B.w B.mg B.base (k+1) m c g:=by obtain⟨f,fd,a,i,F⟩:=q;exact⟨f,fd,_,C.ci.cl,⟨a,i,F.kp⟩,bd.ok F,Dl hg (okk S).2.1 (okk S).2.2 F (okk S).1 (body.ok hl f)⟩
theorem gI4{g:List D->Option (List Str×List D)}(C:CF B.G.K (B.G.ca c) xs)(a:dB B.G.K aA x=some (some (.ref (B.G.ca c))))(hg:g=fnI c np n b)(q:GM B.G.K (B.G.ca c) "__init__" qual st)(hl:l7 st=s0::l)(hp:psO st=p::ps)(body:Bdz B (nmO st) qual st (s0::l) k b)(S:okO (nmO st) (p::ps) st (np+1) n=true:=by kernel_rfl)(bd:Bds "__init__" qual st (p::ps):=by (repeat intro _);rfl):Kf B (k+1) x c g []:=
 ⟨⟨_,gI hg Y.y C a q (okk S).1 (body.ok hl) (dr (okk S).2.1) (okk S).2.2 bd⟩,rfl⟩
theorem gJ4{g:List D->Option (List Str×List D)}{dds:List D}(C:CF B.G.K (B.G.ca c) xs)(a:dB B.G.K aA x=some (some (.ref (B.G.ca c))))(hg:g=fnI c np n b)(q:GJ B.G.K (B.G.ca c) qual st (dds.map vD))(hl:l7 st=s0::l)(hp:psO st=p::ps)(body:Bdz B (nmO st) qual st (s0::l) k b)(j:Nat)(S:okO (nmO st) (p::ps) st (np+1) n=true:=by kernel_rfl)(hf:dds.all nD=true:=by rfl)
  (bd:zT (dds.map vD).length λdl=>zT ((p::ps).length - ((dds.map vD).drop j).length) λus=>∀(T:Addr) (kV doc pm:aa) (an:Option Addr) (cdv ct:aa),∃k,bindArgs (fnOf "__init__" qual (oi st) (l7 st) (lS st) (.ref T) kV doc pm an cdv ct) ⟨us,[]⟩=seqItems? (.ref T)>>=k/\k (some dl.toArray)=pure ((p::ps).zip (us++dl.drop j)):=by (repeat intro _);exact⟨_,rfl,rfl⟩):Kf B (k+1) x c g (dds.drop j):=
 ⟨⟨_,by rw[jx];exact gJ hg Y.y C a q (okk S).1 (body.ok hl) j (dr (okk S).2.1) (okk S).2.2 bd⟩,by
  rw[az]at hf ⊢;exact λd h=>hf d (ip h)⟩
theorem F3(n:Nat)(ca:Nat->Addr):∀k,k<n->((bb n).map ca).getD k 0=ca k:=λk h=>by rw[eD,aS,iw h];rfl
theorem Mj{n:Nat}{ca:Nat->Addr}(h:decide ((bb n).map ca).Nodup=true):∀j k,j<n->k<n->ca j=ca k->j=k:=λj k hj hk e=>by rw[<-F3 n ca j hj,<- F3 n ca k hk]at e;exact IP (bM h) (by simpa using hj) (by simpa using hk) e
def BW:Nat->(Nat->Prop)->Prop
 |0,_=>True
 |n+1,Q=>Q 0/\BW n λk=>Q (k+1)
theorem BW.at:∀{n:Nat} {Q:Nat->Prop},BW n Q->∀k,k<n->Q k
 |_+1,_,h,0,_=>h.1
 |_+1,_,h,k+1,hk=>BW.at (Q:=λk=>_) h.2 k (Nat.lt_of_succ_lt_succ hk)
end
section
variable{X:Cx}{B:Bz}{k j i n:Nat}{x y:Str}{e e' tg:Expr}{es:List Expr}{p p2 p3 pos apos:Pos}{f f':FE}{a:FA}{st:Stmt}{sts:List Stmt}{fs fs':FS}{ft:FT}
theorem Ka{gg:FG}(hn:X.N.length=n)(he:ZE X B e f)(hg:ZG X B tg n gg)(hs:swapsWithSole [tg] e pos.line X.env=pure false)(hw:swappedStores [tg] e X.env=pure none)(h1:(bG [tg] X.env).map (·.2)=[assign tg X.env]):ZS X B (.Assign [tg] e pos) (Bt f gg):=⟨EY (B8 he.p hg.p hs hw h1)⟩
theorem Kb [C:Cz X B k][N:Nb B "int"](hg:Gz X "int")(hs:S1 X e)(ha:ZE X B e f):ZE X B (.Call (.Name "int" p) [e] [] pos) (c1 Io f):=⟨Gs Ip (ctI hg (by decide) hs Bb jN (nh ha.p o6 hs))⟩
end
end L4
namespace L4
open PySem PySem.Spec PyProof.Rows L2 L3
section
variable{t:fD}{m n:Nat}
def rs(m i q:Nat):eW:=⟨i,fZ m i - i,i,q,none⟩
end
section
variable{ow:Array (Option Nat)}
def lv(ow:Array (Option Nat)):List (Nat×Nat):=(bb 32).filterMap λj=>(ow.getD j none).map (j,·)
end
end L4
namespace L4
open PySem PySem.Spec PySem.Calls PyProof.Rows PySem.W L2 L3
noncomputable abbrev cS(s:Str):FE:=cC (.str s)
noncomputable abbrev a1(e:FE):FA:=aCons e ml
end L4
namespace L4
open PySem PySem.Spec PyProof.Rows L2 L3
section
variable{X:Cx}{G:Bg}
def LN(G:Bg)(a n:FA):TA:=λσ H Q=>∃F ρ H0 ds ρ1 ns ρ2,lU G F σ ρ H0 H/\a ρ=some (ds,ρ1)/\n ρ1=some (ns,ρ2)/\∀xs p zs H0' H',lK H0 H0'->lU G F σ ρ2 H0' H'->lG G H0' ds xs->H' p=some (.lst zs)->H0' p=none->F.B p=none->Apart σ ρ2 p->lG G H0' ns zs->Q (xs++[.ref p]) H'
theorem DR{e:Expr}{n:FA}(h:PE X e (tFN G n))(hs:ao [e] X.env=[(false,eval e X.env)]):PA X [e] (LN G ml n):=PA.weak (og h qh hs) λσ H Q hh=>by obtain⟨F,ρ,H0,ds,ρ1,ns,ρ2,R,e,en,k⟩:=hh;cases e;exact⟨F,ρ,H0,ns,ρ2,R,en,λp zs H1 H1' s R' h1 h2 h3 h4 h5=>k [] p zs _ _ s R' ma h1 h2 h3 h4 h5⟩
def cMutT(g:List D->List D->Option (D×List D))(a n:FA):FE:=λρ=>match a ρ with
 |some (ds,ρ1)=>match n ρ1 with
  |some (ns,ρ2)=>match g ns ds with
   |some (d,_)=>some (d,ρ2)
   |none=>none
  |none=>none
 |none=>none
theorem lU.temp{F:Fr}{σ:St}{ρ:List Sl}{H0 H H0' H':Hp}(R:lU G F σ ρ H0 H){b:Addr}{zs:List V}(hb:F.B b=none)(ap:Apart σ ρ b)(s1:lK H0 H0')(s2:lK H0' H')(s3:∀c o,H c=some o->c≠b->H' c=some o)(fr:∀c o,H0' c=some o->H0 c=some o\/H c=none)(hz:H' b=some (.lst zs)):lU G F σ ρ H0' H' where
 sub:=s2
 g0:=R.g0.trans s1
 keep:=λc o e n=>s3 c o (R.keep c o e n) λz=>by rw[z,hb]at e;cases e
 fr:=λc o e=>(fr c o e).elim (R.fr c o) λh=>.inr (R.bNone h)
 am:=λc hc=>by
  obtain⟨o,q⟩:=R.am c hc;by_cases z:c=b
  ·exact⟨_,z▸hz⟩
  ·exact⟨o,s3 c o q z⟩
 len:=R.len
 sl:=λi t e=>(R.sl i t e).grow s1 (λc u z so q=>s3 c u q λw=>ap i t e so (by rw[z,w])) λc u z so q q0=>by
  cases w:H0' c with
  |none=>rfl
  |some o=>
   rcases fr c o w with v|v
   ·rw[v]at q0;cases q0
   ·rw[v]at q;cases q
 ap:=R.ap
end
mutual
def vM:D->Bool
 |.non=>true
 |.bl _=>true
 |.int _=>true
 |.str _=>true
 |.tup ds=>vN ds
 |.lst ds=>vN ds
 |_=>false
def vN:List D->Bool
 |[]=>true
 |d::ds=>vM d&&vN ds
end
mutual
theorem Rep.but{G:Bg}{H H1:Hp}(e:∀b o,H b=some o->(∀u kvs,o≠HO.frz u (.dK kvs))->H1 b=some o):∀(d:D) (v:V),vM d=true->Rep G H d v->Rep G H1 d v
 |.non,v,_,h=>by unfold Rep at h ⊢;exact h
 |.bl b,v,_,h=>by unfold Rep at h ⊢;exact h
 |.int i,v,_,h=>by unfold Rep at h ⊢;exact h
 |.str x,v,_,h=>by unfold Rep at h ⊢;exact h
 |.tup ds,v,n,h=>by
  unfold Rep at h ⊢;unfold vM at n;obtain⟨a,xs,rfl,h1,h2⟩:=h;refine⟨a,xs,rfl,?_,lG.but e ds xs n h2⟩;rcases h1 with (h|⟨o,h⟩)|h
  ·exact .inl (.inl (e _ _ h λ_ _ z=>nomatch z))
  ·exact .inl (.inr ⟨o,e _ _ h λ_ _ z=>nomatch z⟩)
  ·exact .inr h
 |.lst ds,v,n,h=>by unfold Rep at h ⊢;unfold vM at n;obtain⟨a,xs,rfl,h1,h2⟩:=h;exact⟨a,xs,rfl,e _ _ h1 (λ_ _ z=>nomatch z),lG.but e ds xs n h2⟩
 |.fzl ds,v,n,h=>by unfold vM at n;cases n
 |.obj c ns ds,v,n,h=>by unfold vM at n;cases n
 |.dic ks ds,v,n,h=>by unfold vM at n;cases n
theorem lG.but{G:Bg}{H H1:Hp}(e:∀b o,H b=some o->(∀u kvs,o≠HO.frz u (.dK kvs))->H1 b=some o):∀(ds:List D) (xs:List V),vN ds=true->lG G H ds xs->lG G H1 ds xs
 |[],xs,_,h=>by unfold lG at h ⊢;exact h
 |d::ds,xs,n,h=>by unfold lG at h ⊢;unfold vN at n;rw[aB]at n;obtain⟨v,r,rfl,h1,h2⟩:=h;exact⟨v,r,rfl,Rep.but e d v n.1 h1,lG.but e ds r n.2 h2⟩
end
end L4
namespace L4
open PySem PySem.Spec PySem.Calls PyProof.Rows PySem.W L2 L3
variable{e:Expr}{f f':FE}
section
variable{X:Cx}{G:Bg}
def dStrI:D->Option D
 |.int i=>if i.natAbs.log2<1920 then some (.str (toString i))else none
 |_=>none
theorem pf_b2{r:List V->Hp->VK->Prop}{g:Int->Int->Int}(hr:∀i j H Q,Q (.int (g i j)) H->r [.int i,.int j] H Q)(h:PE X e (tCB r (tFA G (aCons f (aCons f' ml))))):PE X e (tF G (c2 (λx y=>match x,y with|.int i,.int j=>some (.int (g i j))|_,_=>none) f f')):=PE.weak h λσ H Q hh=>by
 obtain⟨F,ρ,H0,d,ρ',R,e,k⟩:=hh;obtain⟨x,y,ρ1,e1,e2,e3⟩:=xM e;split at e3
 ·cases e3;rename_i i j;refine⟨F,ρ,H0,[.int i,.int j],ρ',R,by unfold aCons;rw[e1];simp only[e2];rfl,λys H1 H1' s R' rs=>?_⟩;unfold lG at rs;obtain⟨v,r0,rfl,rv,rn⟩:=rs;unfold lG at rn;obtain⟨v',r1,rfl,rv',rn'⟩:=rn;unfold lG at rn';subst rn';unfold Rep at rv rv';subst rv rv';exact hr i j _ _ (k _ _ _ s R' (m5 _))
 ·cases e3
def dMax2:D->D->Option D:=λx y=>match x,y with|.int i,.int j=>some (.int (if j > i then j else i))|_,_=>none
def dMin2:D->D->Option D:=λx y=>match x,y with|.int i,.int j=>some (.int (if j<i then j else i))|_,_=>none
def iR2(f f':FE):FA:=λρ=>match f ρ with
 |some (.int i,ρ1)=>match f' ρ1 with
  |some (.int j,ρ2)=>if (-1000000<=i/\i<=1000000)/\-1000000<=j/\j<=1000000 then some (rE i (j - i).toNat,ρ2)else none
  |_=>none
 |_=>none
theorem pfi_range2{tg:Expr}(h:PI X tg e (Gf (tFA G (aCons f (aCons f' ml))))):PI X tg e (tFI G (iR2 f f')):=PI.weak h λσ H R hh=>by
 obtain⟨F,ρ,H0,ds,ρ',R,e,k⟩:=hh;unfold iR2 at e;split at e
 ·rename_i i ρ1 e1;split at e
  ·rename_i j ρ2 e2;split at e
   ·rename_i hn;cases e;refine⟨F,ρ,H0,[.int i,.int j],_,R,by unfold aCons;rw[e1];simp only[e2];rfl,λxs H1 H1' s R' rs=>?_⟩;unfold lG at rs;obtain⟨v,r0,rfl,rv,rn⟩:=rs;unfold lG at rn;obtain⟨v',r1,rfl,rv',rn'⟩:=rn;unfold lG at rn';subst rn';unfold Rep at rv rv';subst rv rv';refine⟨i,j,rfl,⟨by omega,by omega,by omega,by omega⟩,?_⟩;exact k _ _ _ s R' yH
   ·cases e
  ·cases e
 ·cases e
end
section
variable{X:Cx}{B:Bz}{k:Nat}{e e' tg:Expr}{f f':FE}{p p2 p3 pos apos:Pos}
theorem zr_mxI [C:Cz X B k][N:Nb B "max"](hg:Gz X "max")(hs:ao [e,e'] X.env=[(false,eval e X.env),(false,eval e' X.env)])(hs':S1 X e')(ha:ZE X B e f)(hb:ZE X B e' f'):ZE X B (.Call (.Name "max" p) [e,e'] [] pos) (c2 dMax2 f f'):=
 ⟨pf_b2 (g:=λi j=>if j > i then j else i) (λi j H Q q=>⟨i,j,rfl,q⟩) (qP (A9 C.c) hg (C.mg▸N.p) boot_max (nh ha.p (nh hb.p o6 hs') (by rw[hs,hs'])) (by decide) (by decide) (by rw[hs,hs']) (by rw[hs'];rfl))⟩
theorem zr_mnI [C:Cz X B k][N:Nb B "min"](hg:Gz X "min")(hs:ao [e,e'] X.env=[(false,eval e X.env),(false,eval e' X.env)])(hs':S1 X e')(ha:ZE X B e f)(hb:ZE X B e' f'):ZE X B (.Call (.Name "min" p) [e,e'] [] pos) (c2 dMin2 f f'):=
 ⟨pf_b2 (g:=λi j=>if j<i then j else i) (λi j H Q q=>⟨i,j,rfl,q⟩) (qP (Ba C.c) hg (C.mg▸N.p) boot_min (nh ha.p (nh hb.p o6 hs') (by rw[hs,hs'])) (by decide) (by decide) (by rw[hs,hs']) (by rw[hs'];rfl))⟩
theorem zr_r2I [C:Cz X B k][N:Nb B "range"](hg:Gz X "range")(hs:ao [e,e'] X.env=[(false,eval e X.env),(false,eval e' X.env)])(hs':S1 X e')(ha:ZE X B e f)(hb:ZE X B e' f'):ZI X B tg (.Call (.Name "range" p) [e,e'] [] pos) (iR2 f f'):=⟨pfi_range2 (A7 hg (C.mg▸N.p) (nh ha.p (nh hb.p o6 hs') (by rw[hs,hs'])) hs hs')⟩
end
def tOr(t t':Ty->Option Bool):Ty->Option Bool:=λy=>match t y with
 |some true=>match t' y with
  |some _=>some true
  |none=>none
 |some false=>t' y
 |none=>none
section
variable{X:Cx}{B:Bz}{k i:Nat}{e:Expr}{f:FE}{a:FA}{x:Str}{p p2 p3 pos apos:Pos}
theorem zr_xsI{j:Int}{jj}(h:sees X i x=true)(he:ZE X B e f)(hs:swapsWithSole [.Subscript (.Name x p) (.Constant (.int j) jj p2) p3] e pos.line X.env=pure false)(hw:swappedStores [.Subscript (.Name x p) (.Constant (.int j) jj p2) p3] e X.env=pure none)
  (h1:(bG [.Subscript (.Name x p) (.Constant (.int j) jj p2) p3] X.env).map (·.2)=[assign (.Subscript (.Name x p) (.Constant (.int j) jj p2) p3) X.env]):ZS X B (.Assign [.Subscript (.Name x p) (.Constant (.int j) jj p2) p3] e pos) (pT i j f):=⟨BJ (B8 he.p (G3 (pvI h) zf set_list) hs hw h1)⟩
theorem zr_xeI [C:Cz X B k](h:sees X i x=true)(hb:Az X (.Name x p) "extend")(hl:Ez apos pos)(hs:S1 X e)(ha:ZN X B e a):ZE X B (.Call (.Attribute (.Name x p) "extend" apos) [e] [] pos) (Fb i a):=
 ⟨BA (bmI hb hl hs eR eO iO Bk (pvI h) (og ha.p qh hs))⟩
end
section
variable{B:Bz}[Y:Yb B]{k np n:Nat}{b:FS}{x p:Str}{ps:List Str}{st s0:Stmt}{l:List Stmt}
theorem gM5(N:List Str){g:List D->List D->Option (D×List D)}(hg:g=fnM np n b)(q:GD B.G.K x st)(hl:l7 st=s0::l)(hp:psO st=p::ps)(body:Bdz B N x st (s0::l) k b)(S:okO N (p::ps) st (np+1) n=true:=by kernel_rfl)(bd:Bds x x st (p::ps):=by (repeat intro _);rfl):Df B (k+1) x (spM B.G g):=
 ⟨_,gM hg Y.y q (okk S).1 (body.ok hl) (dr (okk S).2.1) (okk S).2.2 bd⟩
end
end L4
namespace L2
open PySem PySem.Spec PyProof.Rows PySem.W
abbrev vErr:List aa:=[.type "ValueError", .type "Exception", .type "BaseException", .type "object"]
def XC(K:ai)(C:Addr):Prop:=excIn K C vErr "ValueError.__new__" = true
theorem XC.obj{K:ai}{C:Addr}{h:Heap}(q:XC K C)(i:K.In h):OwnCls "x" C vErr "ValueError.__new__" (λ_=>some (.ref C)) h:=by
 refine⟨rfl,?_⟩;have q':excIn K C vErr "ValueError.__new__" = true:=q;unfold excIn at q';split at q'
 ·rename_i di dt sl lk;split at q'
  ·rename_i Cc tl a0 a1 a2 a3 nw a5 em es;simp only[aB,beq_iff_eq,cj]at q';obtain⟨⟨⟨⟨⟨h1,h2⟩,h3⟩,h4⟩,h5⟩,h6⟩:=q';cases dt with
   |mk nm bs mro ns qn hd sn sub ab col del=>cases h1;cases h2;have em':mro=_:=em;have hd':del=false:=h3;cases em';cases hd';obtain⟨ll⟩:=sl;have es':ll=_:=es;cases es';exact⟨tl,ns,nm,qn,bs,hd,sn,sub,ab,col,di,a0,a1,a2,a3,a5,_,i _ _ lk,.of_isNs (isNs_of_in i h5),nsMap_none_of_in i h5 h6,tail_of_in i h4⟩
  ·cases q'
 ·cases q'
structure Fly(P:au)(w:ak)(C:Addr)(l:List Env)(H:Hp)(s:ae)(H':Hp)(a:Addr)(s':ae):Prop where
 ex:∃(B:Heap) (a0:aa),jG B l a (.ref C) a0 s'.heap/\HOk P w H' B/\∀b o,s.heap.get? b=some o->b∉frs l->∃o',B.get? b=some o'
 os:s'.os=s.os
 bare:cf s'.gens
 un:Un (frs l) [] H H' s.heap s'.heap
def CXW(P:au)(w:ak)(C:Addr):CXT:=λl H s E e s'=>∃a H',e=.ref a/\Fly P w C l H s H' a s'/\E e none H'
theorem un_step{l:List Env}{H H':Hp}{h h1 h2 B:Heap}(kb:∀b o,h.get? b=some o->b∉frs l->∃o',B.get? b=some o')(st:B.StaysIn h1)(st2:B.StaysIn h2)(ff:h1.FunFrames B l)(up:h1.UpToSlots h2)(u:Un (frs l) [] H H' h h1):Un (frs l) [] H H' h h2 where
 keep:=λb o q n hb hx=>by obtain⟨o',e⟩:=kb b o q hb;have e1:=u.keep b o q n hb hx;have e2:=st b o' e;rw[e1]at e2;cases e2;exact st2 b _ e
 slot:=λb o q n hb hx=>by obtain⟨sl,e1⟩:=u.slot b o q n hb hx;obtain⟨_,o1,e2,d⟩:=ff.mem hb;rw[e1]at e2;cases e2;obtain⟨sl',e3⟩:=up b _ e1 d;exact⟨sl',e3⟩
 free:=u.free
 there:=λb o q hx=>by
  by_cases hb:b∈frs l
  ·obtain⟨_,o1,e2,d⟩:=ff.mem hb;obtain⟨sl',e3⟩:=up b _ e2 d;exact⟨_,e3⟩
  ·obtain⟨o',e⟩:=kb b o q hb;exact⟨o',st2 b _ e⟩
 tups:=u.tups
 frzs:=u.frzs
 tbls:=u.tbls
variable{pins:List (Addr×Obj)}{σ:St}{H1:Hp}{s1:ae}
section
variable{P:au}{w:ak}{K:ai}{mg:Str->Option aa}{base:Heap}{N:List Str}{qual:Str}{scope:bA}{f C:Addr}{cd:aa}{A:aw}{outer:List Env}{s:ae}{H:Hp}{E:XK}
abbrev cxW(C:Addr)(P:au)(w:ak)(K:ai)(mg:Str->Option aa)(base:Heap)(N:List Str)(qual:Str)(scope:bA)(f:Addr)(cd:aa)(A:aw)(outer:List Env)(s:ae)(H:Hp)(E:XK):Cx:=xA (CXW P w C) P w K mg base N qual scope f cd A outer s H E
theorem kb_out{B:Heap}(I:Inv (cxW C P w K mg base N qual scope f cd A outer s H E) pins σ H1 s1)(kb:∀b o,s1.heap.get? b=some o->b∉frs (cxW C P w K mg base N qual scope f cd A outer s H E).stack->∃o',B.get? b=some o'):
  ∀b o,s.heap.get? b=some o->b∉frs outer->∃o',B.get? b=some o':=λb o q hb=>by
 obtain⟨o1,e1⟩:=I.base.there b o q (λz=>nomatch z);refine kb b o1 e1 λhm=>?_;rcases aT.mp (I.stkSub b hm)with z|z
 ·exact aq (br (aD q) I.ok.above) (by rw[z];exact cY _)
 ·exact hb z
theorem pass_body:Passes (CXW P w C) (cxW C P w K mg base N qual scope f cd A outer s H E) (λ_ _ H'=>∀e,E e none H'):=λpins σ H1 s1 e s' I h=>by obtain⟨a,H',rfl,fl,z⟩:=h;obtain⟨B,a0,hf,hok,kb⟩:=fl.ex;refine wpAny_leaves_onW I.ok.frames rfl hf λh2 hf2 up=>?_;have u:=un_step kb hf.1 hf2.1 hf.2.2.1 up fl.un;have J:=I.call' (s':={ s' with heap:=h2 }) (ch:=[]) fl.os u (hok.kept hf2.1) fl.bare λ_ z=>nomatch z;exact⟨a,H',rfl,⟨⟨B,a0,hf2,hok,kb_out I kb⟩,J.os,J.bare,J.base⟩,z _⟩
theorem made_body{a:Addr}{vs:List aa}{h':Heap}(I:Inv (cxW C P w K mg base N qual scope f cd A outer s H E) pins σ H1 s1)(hx:jn s1.heap h' a (.ref C) vs)(z:∀e,E e none H1):
  (cxW C P w K mg base N qual scope f cd A outer s H E).xe (.ref a) { s1 with heap:=h' }:=by
 have hin:∀env∈(cxW C P w K mg base N qual scope f cd A outer s H E).stack,∀b,env.frame=some b->b∈frs (cxW C P w K mg base N qual scope f cd A outer s H E).stack:=λenv he b hb=>eJ.mpr ⟨env,he,hb⟩;have ff:=funFrames_hide I.stack hin;have kb:∀b o,s1.heap.get? b=some o->b∉frs (cxW C P w K mg base N qual scope f cd A outer s H E).stack->∃o',(hideAll s1.heap (frs (cxW C P w K mg base N qual scope f cd A outer s H E).stack)).get? b=some o':=λb o q n=>⟨o,gq _ q n⟩;have hok:HOk P w H1 (hideAll s1.heap (frs (cxW C P w K mg base N qual scope f cd A outer s H E).stack)):=λb o e=>(I.hok b o e).stay (λc u hc q=>gq _ q λhm=>by
  have n:=I.stkFree c hm;rcases hc with rfl|hc
  ·rw[e]at n;cases n
  ·rw[hc]at n;cases n) (λ_ q=>q) λ_ _ q=>q
 refine wpAny_leaves_madeW (h:=s1.heap) I.ok.frames rfl (λb o q=>gE _ q) ff hx λh2 t hf2 _ _ up=>?_;have u:=un_step kb (λb o q=>hx.keeps b o (gE _ q)) hf2.1 (ff.of_keeps λb o q _=>⟨o,hx.keeps b o q,rfl⟩) up (Un.kept (fs:=frs (cxW C P w K mg base N qual scope f cd A outer s H E).stack) (ex:=[]) (H:=H1) hx.keeps);have J:=I.call' (s':={ s1 with heap:=h2 }) (ch:=[]) rfl u (hok.kept hf2.1) I.bare λ_ z=>nomatch z;exact⟨a,H1,rfl,⟨⟨_,_,hf2,hok,kb_out I kb⟩,J.os,J.bare,J.base⟩,z _⟩
end
def Mades(X:Cx)(C:Addr)(Z:Hp->Prop):Prop:=∀(pins:List (Addr×Obj)) (σ:St) (H:Hp) (s:ae) (a:Addr) (vs:List aa) (h':Heap),Inv X pins σ H s->jn s.heap h' a (.ref C) vs->Z H->X.xe (.ref a) { s with heap:=h' }
section
variable{X:Cx}{C:Addr}{Z:Hp->Prop}{x:Str}{np cpos pos:Pos}{e:Expr}{es:List Expr}{t:TA}
theorem ps_raise(q:XC X.K C)(hc:X.calm=true)(hm:X.mg x=some (.ref C))(mk:Mades X C Z)(ha:PA X (e::es) t)(hg:Gl X x)(hdb:(x==("__debug__" : Str))=false)(he:ao (e::es) X.env=(false,eval e X.env)::ao es X.env)(hpl:(aL cpos (ao es X.env)).any (·.1)=false):
  PS X (.Raise (some (.Call (.Name x np) (e::es) [] cpos)) none pos) (λ_ σ H=>t σ H λvs H1=>vs.length<=av/\Z H1):=by
 intro pins s σ H D I h;obtain⟨bm,N,nm,qn,bs,hd,sn,sub,ab,col,dd,k0,k1,k2,k3,k5,mN,hC,hN,hni,T⟩:=(q.obj I.mod.kin).obj;have hb:bm.contains (.type "BaseException")=true:=T.hasType (b:=true) rfl;refine wpAny_Raise_call_subU (nm:=nm) (q:=qn) (N:=N) (bs:=bs) (hdct:=hd) (sn:=sn) (sub:=sub) (ab:=ab) (col:=col) (dd:=dd) (k0:=k0) (k1:=k1) (k2:=k2) (k3:=k3) (k5:=k5) iq rfl iq hb (I.ok.hd hc) (by rw[he];show (false||(aL cpos (ao es X.env)).any (·.1))=false;rw[hpl];rfl) hni (qg I hg hm ⟨rfl,?_⟩ hdb)
 rw[he];have h2:=ha cpos pins s σ H _ I h;rw[he]at h2;refine fK (thn h2 λus s2 zz=>?_);obtain⟨vs,H2,I2,r,l2,z⟩:=zz;refine⟨rfl,by rw[<-r.length];exact l2,I2.bk _ _ hC,hN.keeps I2.bk,T.keeps I2.bk,λh' a hx=>mk pins σ H2 s2 a us h' I2 hx z⟩
end
abbrev Cx.caught(X:Cx)(v:aa):Cx:={ X with A:=X.A.mark (some v),calm:=false,xe:=λ_ _=>False }
theorem Inv.caught{X:Cx}{H:Hp}{s:ae}(I:Inv X pins σ H s)(v:aa):Inv (X.caught v) pins σ H s:=
 ⟨⟨I.ok.mod,I.ok.kind,I.ok.glob,I.ok.blt,I.ok.above,I.ok.inj,I.ok.has,I.ok.cab,(λz=>by cases z),I.ok.frames,I.ok.stk,I.ok.exf,I.ok.bs,I.ok.bsz,I.ok.noex,I.ok.exfs,I.ok.funs,I.ok.frf⟩,I.os,I.bare,I.base,I.loc,I.cell,I.free,I.freeC,I.pin,I.hok,I.len⟩
variable{fl:Flow}{xe:aa->ae->Prop}
section
variable{X:Cx}{pins:List (Addr×Obj)}{σ:St}{H:Hp}{s:ae}
theorem Inv.uncaught{v:aa}(ok:X.Ok)(I:Inv (X.caught v) pins σ H s):Inv X pins σ H s:=⟨ok,I.os,I.bare,I.base,I.loc,I.cell,I.free,I.freeC,I.pin,I.hok,I.len⟩
theorem SP.uncaught{v:aa}{D:Ends}(ok:X.Ok)(h:SP (X.caught v) pins D fl s):SP X pins D fl s:=by
 cases fl with
 |next=>obtain⟨σ',H',I,q⟩:=h;exact⟨σ',H',I.uncaught ok,q⟩
 |brk=>obtain⟨σ',H',I,q⟩:=h;exact⟨σ',H',I.uncaught ok,q⟩
 |cont=>obtain⟨σ',H',I,q⟩:=h;exact⟨σ',H',I.uncaught ok,q⟩
 |ret u=>obtain⟨v,σ',H',I,r,q⟩:=h;exact⟨v,σ',H',I.uncaught ok,r,q⟩
theorem PA.lift{es:List Expr}{t:TA}(h:PA X es t)(n:∀e s,¬X.xe e s):PA (X.wish xe) es t:=λpos pins s σ H Q I hw=>
 aY (h pos pins s σ H Q I.unwish hw) (λ_ _ ⟨v,H',I',r,q⟩=>⟨v,H',I'.wish xe,r,q⟩) λe s z=>(n e s z).elim
theorem PT.lift{e:Expr}{t:TT}(h:PT X e t)(n:∀e s,¬X.xe e s):PT (X.wish xe) e t:=λpins s σ H Q I hw=>
 aY (h pins s σ H Q I.unwish hw) (λ_ _ ⟨H',I',q⟩=>⟨H',I'.wish xe,q⟩) λe s z=>(n e s z).elim
theorem SP.wish{D:Ends}(xe:aa->ae->Prop)(h:SP X pins D fl s):SP (X.wish xe) pins D fl s:=by
 cases fl with
 |next=>obtain⟨σ',H',I,q⟩:=h;exact⟨σ',H',I.wish xe,q⟩
 |brk=>obtain⟨σ',H',I,q⟩:=h;exact⟨σ',H',I.wish xe,q⟩
 |cont=>obtain⟨σ',H',I,q⟩:=h;exact⟨σ',H',I.wish xe,q⟩
 |ret u=>obtain⟨v,σ',H',I,r,q⟩:=h;exact⟨v,σ',H',I.wish xe,r,q⟩
theorem PS.lift{st:Stmt}{t:TS}(h:PS X st t)(n:∀e s,¬X.xe e s):PS (X.wish xe) st t:=λpins s σ H D I hw=>
 aY (h pins s σ H D I.unwish hw) (λ_ _ q=>q.wish xe) λe s z=>(n e s z).elim
end
section
variable{X:Cx}{CX:CXT}{k:Nat}{f C C0:Addr}{fd:aZ}{ps:List Str}{sp:Sp}{dvs:List V}{ds:List aa}{E:XK}{x y:Str}{p np pos pos1 pos2 hp:Pos}{e:Expr}{es:List Expr}{t:TA}{b0:Stmt}{suite:List Stmt}{th:TS}
theorem run_makeX{H:Hp}{s:ae}{Q:VK}{us:List aa}{vs:List V}(M:Mk X.K C0 f)(F:oh X.prog X.w X.K X.mg X.base CX k f fd ps sp)(hr:mP (k+1) X.A)(hb:Binds X.K fd ps ds)(hd:Vals dvs ds)
  (hx:∀H2 s2 e s',Inv X pins σ H2 s2->CX X.stack H2 s2 E e s'->X.xe e s') (I:Inv X pins σ H s) (r:Vals vs us)
  (h:∀x dx,H x=none->H dx=none->dx≠x->sp (.ref x::(vs++dvs)) (upd (upd H dx (.own x)) x (.ins C0 dx [])) (λv H2=>v=.non/\Q (.ref x) H2) E):
  af (model X.prog X.w) X.A (call (.ref C0) us) (EP X pins σ Q) X.xe s:=by
 have hq:=h (s.heap.objs.size+1) s.heap.objs.size (I.hok.fresh (fj _)) (I.hok.fresh (aE _)) (aH (dR _));have I2:=Inv.made (C:=C0) I;have r2:Vals (V.ref (s.heap.objs.size+1)::(vs++dvs)) (Value.ref (s.heap.objs.size+1)::(us++ds)):=.cons rfl (r.append hd);have hl:(Value.ref (s.heap.objs.size+1)::us++ds).length=ps.length:=by have e:=r2.length;rw[F.len _ _ _ _ hq]at e;exact e.symm
 refine fq (ye (f:=f) I.kIn M.makes M.init (beq_iff_eq.mp M.fn) (c5 (F.run _ X.stack _ _ ⟨Value.ref (s.heap.objs.size+1)::us,[]⟩ (Value.ref (s.heap.objs.size+1)::(us++ds)) _ _ E (hr.make C0 us [])
  (I2.env0.make C0 us []) (hb _ (Value.ref (s.heap.objs.size+1)::us) I2.kIn hl) r2 hq) λr s' hq'=>?_))
 cases r with
 |error e=>exact hx _ _ e s' I2 hq'
 |ok fl=>
  cases fl with
  |ret u=>obtain⟨v,H',I3,rv,ev,q3⟩:=I2.after hq';subst ev;exact⟨rv,⟨V.ref (s.heap.objs.size+1),H',I3,rfl,q3⟩⟩
  |next=>exact bx hq'
  |brk=>exact bx hq'
  |cont=>exact bx hq'
theorem ps_try(hst:X.stack=X.env::X.outer)(hfm:X.env.frame=some X.env.locals)(hn0:∀e s,¬X.xe e s)(q:XC X.K C)(hg':Gl X y)(hm':X.mg y=some (.ref C))(hdb':(y==("__debug__" : Str))=false)
  (M:Mk X.K C0 f) (F:oh X.prog X.w X.K X.mg X.base (CXW X.prog X.w C) k f fd ps sp) (hr:mP (k+1) X.A) (hb:Binds X.K fd ps ds) (hd:Vals dvs ds) (hg:Gl X x) (hm:X.mg x=some (.ref C0)) (ha:PA X (e::es) t) (hdb:(x==("__debug__" : Str))=false)
  (he:ao (e::es) X.env=(false,eval e X.env)::ao es X.env) (hpl:(aL pos (ao es X.env)).any (·.1)=false) (hsw:bH (.Call (.Name x p) (e::es) [] pos) none pos1.line X.env=pure false) (hs:∀v,PSs (X.caught v) (b0::suite) th):
  PS X (.Try [.Expr (.Call (.Name x p) (e::es) [] pos) pos1] [.ExceptHandler (some (.Name y np)) none (b0::suite) hp] [] [] pos2) (λD σ H=>Ae C0 sp dvs (λ_ _ H'=>th D σ H') t σ H λ_ H1=>D.nx σ H1):=by
 intro pins s σ H D I h;refine wpAny_Try_except ?_;let XE:aa->ae->Prop:=λe s₁=>af (model X.prog X.w) X.A (noteFrame e X.env) (λ_ s₂=>af (model X.prog X.w) X.A (setFlight e none) (λ_ s₃=>af (model X.prog X.w) X.A (handleBy e X.env [.ExceptHandler (some (.Name y np)) none (b0::suite) hp]) (SP X pins D) X.xe s₃) X.xe s₂) X.xe s₁;have hx:∀H2 s2 e s',Inv (X.wish XE) pins σ H2 s2->CXW X.prog X.w C X.stack H2 s2 (λ_ _ H'=>th D σ H') e s'->XE e s':=by
  intro H2 s2 ev s' J hc;obtain⟨a,H',rfl,fl,z⟩:=hc;obtain⟨B,a0,hf,hok,kb⟩:=fl.ex;have hfr:X.A.frames=some (X.env::X.outer):=by rw[<-hst];exact I.ok.frames
  have hf':jG B (X.env::X.outer) a (.ref C) a0 s'.heap:=by rw[<-hst];exact hf
  refine wpAny_looks_onW hfr hfm hf' λh4 hh4 up4=>wpAny_landsW hh4 λh5 hf5 up5=>?_;have u5:=un_step kb hf.1 hf5.1 hf.2.2.1 (up4.trans up5) fl.un;have J5:=(J.call' (s':={ s' with heap:=h5 }) (ch:=[]) fl.os u5 (hok.kept hf5.1) fl.bare λ_ z=>nomatch z).unwish;refine wpAny_handleBy_cons (codeAny_handlers_test (qg (X:=X.caught (.ref a)) (J5.caught _) hg' hm' ?_ hdb')) (by intro q;cases q);obtain⟨bm,N,nm,qn,bs,hd,sn,sub,ab,col,dd,k0,k1,k2,k3,k5,mN,hC,hN,hni,T⟩:=(q.obj I.mod.kin).obj;have hbm:bm.contains (.type "BaseException")=true:=T.hasType (b:=true) rfl;obtain⟨ob,hob,hobc⟩:=hf5.there;refine wpAny_excMatches_sub_self (J5.bk _ _ hC) hob hobc hbm (codeAny_handlers_suite ?_);refine lands_againW hf5 λh6 hf6 up6=>?_;have u6:=un_step kb hf.1 hf6.1 hf.2.2.1 ((up4.trans up5).trans up6) fl.un;have J6:=(J.call' (s':={ s' with heap:=h6 }) (ch:=[]) fl.os u6 (hok.kept hf6.1) fl.bare λ_ z=>nomatch z).unwish;exact aY (hs (.ref a) pins _ σ H' D (J6.caught _) z) (λfl s7 hq=>hq.uncaught I.ok) λ_ _ z=>z.elim
 have key:af (model X.prog X.w) X.A (eval (.Call (.Name x p) (e::es) [] pos) X.env) (EP (X.wish XE) pins σ λ_ H1=>D.nx σ H1) XE s:=by refine cy (qg I hg hm ?_ hdb);refine fg (h₀:=X.base) I.ok.mod.kin M.kp (thn ((ha.lift hn0) pos pins s σ H _ (I.wish XE) h) λus s1 ⟨vs,H1,I1,r,q⟩=>⟨I1.kIn,?_⟩) he hpl;exact run_makeX (X:=X.wish XE) M F hr hb hd hx I1 r q
 have key2:af (model X.prog X.w) X.A (exec (.Expr (.Call (.Name x p) (e::es) [] pos) pos1) X.env) (SP X pins D) XE s:=jg (thn key λv s1 ⟨x,H1,I1,r1,q1⟩=>⟨σ,H1,I1.unwish,q1⟩) I.quiet hsw;refine fU (thn key2 λf s1 q=>?_);cases f with
 |next=>exact dS (dS q)
 |ret v=>exact q
 |brk=>exact q
 |cont=>exact q
end
end L2
namespace L4
open PySem PySem.Spec PyProof.Rows L2 L3
def zE(E:Ends)(Z:Hp->Prop):Ends:={ nx:=E.nx,rt:=E.rt,bk:=λ_ H=>Z H,ct:=E.ct }
def tFX(G:Bg)(Z:Hp->Prop)(f:FS):TS:=λE σ H=>tFS G f (zE E Z) σ H
def sNb(f:FS):FS:=λρ=>match f ρ with
 |some (.bk _)=>none
 |r=>r
def sRz(a:FA):FS:=λρ=>match a ρ with
 |some ([_],ρ')=>some (.bk ρ')
 |_=>none
def sXp(g:List D->Option Bool)(a:FA):FS:=λρ=>match a ρ with
 |some (ds,ρ')=>match g ds with
  |some true=>some (.nx ρ')
  |some false=>some (.bk ρ')
  |none=>none
 |none=>none
def fnX(np n:Nat)(f:FS):List D->Option Bool:=λds=>if ds.length=np then match f (stE n ds)with
 |some (.nx _)=>some true
 |some (.bk _)=>some false
 |_=>none
 else none
def fnXI(c np n:Nat)(f:FS):List D->Option (Option (List Str×List D)):=λds=>if ds.length=np then match f (stI c n ds)with
 |some (.bk _)=>some none
 |some (.nx _)=>match fnI c np n f ds with
  |some r=>some (some r)
  |none=>none
 |_=>none
 else none
def sTry(g:List D->Option (Option (List Str×List D)))(a:FA)(fh:FS):FS:=λρ=>match a ρ with
 |some (ds,ρ')=>match g ds with
  |some (some _)=>some (.nx ρ')
  |some none=>fh ρ'
  |none=>none
 |none=>none
def spX(G:Bg)(g:List D->Option Bool):Sp:=λvs H Q E=>∃H0 ds d,lK H0 H/\lG G H0 ds vs/\g ds=some d/\
 (d=true->∀H0' H',lK H0 H0'->lK H0' H'->lK H H'->(∀b o,H0' b=some o->H0 b=some o\/H b=none)->Q .non H')/\(d=false->∀e H',lK H H'->E e none H')
def spXI(G:Bg)(c:Nat)(g:List D->Option (Option (List Str×List D))):Sp:=λvs H Q E=>∃(p dx:Addr) (us:List V) (H0:Hp) (ds:List D),vs=.ref p::us/\H p=some (.ins (G.ca c) dx [])/\H0 p=none/\lK H0 H/\lG G H0 ds us/\
 ((∃ns es,g ds=some (some (ns,es))/\∀ys dx' H0' H',lK H0 H0'->lK H0' H'->(∀b o,H b=some o->b≠p->H' b=some o)->(∀b o,H0' b=some o->H0 b=some o\/H b=none)->H0' p=none->H' p=some (.ins (G.ca c) dx' (ns.zip ys))->ns.length=ys.length->lG G H0' es ys->Q .non H')
  \/ (g ds=some none/\∀e H',(∀b o,H b=some o->b≠p->H' b=some o)->E e none H'))
variable{st:Stmt}{c np:Nat}{ds:List D}{N:List Str}{vs:List V}{E:XK}
section
variable{X:Cx}{G:Bg}{Z:Hp->Prop}
theorem tFS_zE{f:FS}{Q:VK}{nx:St->Hp->Prop}{σ:St}{H:Hp}(h:tFS G f { nx:=nx,rt:=Q } σ H):tFX G Z f { nx:=nx,rt:=Q } σ H:=by
 obtain⟨F,ρ,H0,o,R,e,k,_⟩:=h;refine⟨F,ρ,H0,o,R,e,?_,λ_=>rfl⟩;cases o with
 |bk ρ'=>exact λσ' H0' H' s' R'=>(k σ' H0' H' s' R').elim
 |nx ρ'=>exact k
 |ct ρ'=>exact k
 |rt d ρ'=>exact k
 |rn d ρ'=>exact k
theorem pfx_nil:PSs X [] (tFX G Z nv):=PSs.weak z8 λE σ H h=>CD (E:=zE E Z) h
theorem pfx_cons{rest:List Stmt}{f g:FS}(h1:PS X st (tFX G Z f))(h2:PSs X rest (tFX G Z g)):PSs X (st::rest) (tFX G Z (lJ f g)):=PSs.weak (sq h1 h2) λE σ H h=>by
 obtain⟨F,ρ,H0,o,R,e,k,k2⟩:=h;unfold lJ at e;cases e1:f ρ with
 |none=>simp only[e1]at e;cases e
 |some o1=>
  cases o1 with
  |nx ρ1=>simp only[e1]at e;exact⟨F,ρ,H0,_,R,e1,λσ' H0' H' s R'=>⟨F,ρ1,H0',o,R',e,k.back s,λ_=>rfl⟩,λ_=>rfl⟩
  |bk ρ1=>simp only[e1]at e;cases e;exact⟨F,ρ,H0,_,R,e1,k,λ_=>rfl⟩
  |ct ρ1=>simp only[e1]at e;cases e;exact⟨F,ρ,H0,_,R,e1,k,λ_=>rfl⟩
  |rt d ρ1=>simp only[e1]at e;cases e;exact⟨F,ρ,H0,_,R,e1,k,λ_=>rfl⟩
  |rn d ρ1=>simp only[e1]at e;cases e;exact⟨F,ρ,H0,_,R,e1,k,λ_=>rfl⟩
theorem pfx_up{f:FS}(h:PS X st (tFS G f)):PS X st (tFX G Z (sNb f)):=PS.weak h λE σ H hh=>by
 obtain⟨F,ρ,H0,o,R,e,k,_⟩:=hh;unfold sNb at e;cases e1:f ρ with
 |none=>simp only[e1]at e;cases e
 |some o1=>
  cases o1 with
  |bk ρ1=>simp only[e1]at e;cases e
  |nx ρ1=>simp only[e1]at e;cases e;exact⟨F,ρ,H0,_,R,e1,k,λ_=>rfl⟩
  |ct ρ1=>simp only[e1]at e;cases e;exact⟨F,ρ,H0,_,R,e1,k,λ_=>rfl⟩
  |rt d ρ1=>simp only[e1]at e;cases e;exact⟨F,ρ,H0,_,R,e1,k,λ_=>rfl⟩
  |rn d ρ1=>simp only[e1]at e;cases e;exact⟨F,ρ,H0,_,R,e1,k,λ_=>rfl⟩
theorem pfx_if{c:Expr}{a b:List Stmt}{h:FT}{f g:FS}{pos:Pos}(hc:PT X c (tFT G h))(ha:PSs X a (tFX G Z f))(hb:PSs X b (tFX G Z g)):PS X (.If c a b pos) (tFX G Z (sIf h f g)):=PS.weak (Gc hc ha hb) λE σ H hh=>by
 obtain⟨F,ρ,H0,o,R,e,k,k2⟩:=hh;unfold sIf at e;rcases lW (f:=h) (ρ:=ρ)with e1|⟨d,ρ',e1⟩
 ·simp only[e1]at e;cases e
 ·refine⟨F,ρ,H0,d,ρ',R,e1,λH0' H' s R'=>?_⟩;cases d with
  |true=>simp only[e1]at e;exact zx ⟨F,ρ',H0',o,R',e,k.back s,λ_=>rfl⟩
  |false=>simp only[e1]at e;exact zw ⟨F,ρ',H0',o,R',e,k.back s,λ_=>rfl⟩
theorem pfx_raise{a:FA}(h:PS X st (λ_ σ H=>tFA G a σ H λvs H1=>vs.length<=av/\Z H1)):PS X st (tFX G Z (sRz a)):=PS.weak h λE σ H hh=>by
 obtain⟨F,ρ,H0,o,R,e,k,k2⟩:=hh;unfold sRz at e;split at e
 ·rename_i d ρ' e1;cases e;refine⟨F,ρ,H0,_,ρ',R,e1,λxs H0' H' s R' rs=>⟨?_,k σ H0' H' s R'⟩⟩;rw[<-lI rs];show 1<=av;decide
 ·cases e
theorem pfx_call{g:List D->Option Bool}{a:FA}(h:PS X st (B6 (qO (spX G g) [] (λ_ _ H'=>Z H') (tFA G a)))):PS X st (tFX G Z (sXp g a)):=PS.weak h λE σ H hh=>by
 obtain⟨F,ρ,H0,o,R,e,k,k2⟩:=hh;unfold sXp at e;rcases lW (f:=a) (ρ:=ρ)with e1|⟨ds,ρ',e1⟩<;>simp only[e1]at e
 ·cases e
 ·refine⟨F,ρ,H0,ds,ρ',R,e1,λxs H1 H1' s R' rs=>?_⟩;cases e2:g ds with
  |none=>simp only[e2]at e;cases e
  |some d=>
   refine⟨H1,ds,d,R'.sub,by rw[bw];exact rs,e2,λhd H2 H2' s1 s2 s3 fr=>?_,λhd ev H2' s3=>?_⟩
   ·subst hd;simp only[e2]at e;cases e;exact k σ H2 H2' (s.trans s1) (R'.grow s3 s1 s2 fr)
   ·subst hd;simp only[e2]at e;cases e;exact k σ H1 H2' s (R'.grow s3 (lK.refl _) (R'.sub.trans s3) λb o e=>.inl e)
theorem pfx_try{g:List D->Option (Option (List Str×List D))}{a:FA}{fh:FS}(h:PS X st (λD σ H=>Ae (G.ca c) (spXI G c g) [] (λ_ _ H'=>tFS G fh D σ H') (tFA G a) σ H λ_ H1=>D.nx σ H1)):PS X st (tFS G (sTry g a fh)):=PS.weak h λE σ H hh=>by
 obtain⟨F,ρ,H0,o,R,e,k,k2⟩:=hh;unfold sTry at e;rcases lW (f:=a) (ρ:=ρ)with e1|⟨ds,ρ',e1⟩<;>simp only[e1]at e
 ·cases e
 ·refine⟨F,ρ,H0,ds,ρ',R,e1,λxs H1 H1' s R' rs x dx hx hdx ne=>?_⟩;have hx2:(upd H1' dx (.own x)) x=none:=by rw[lO (λz=>ne z.symm)];exact hx
  have sx:lK H1' (upd (upd H1' dx (.own x)) x (.ins (G.ca c) dx [])):=(l3 hdx _).trans (l3 hx2 _);refine⟨x,dx,_,H1,ds,rfl,lQ,R'.h0none hx,R'.sub.trans sx,by rw[bw];exact rs,?_⟩;cases e2:g ds with
  |none=>simp only[e2]at e;cases e
  |some r=>
   cases r with
   |none=>simp only[e2]at e;refine .inr ⟨rfl,λev H2' t3=>?_⟩;have t4:lK H1' H2':=λb o e=>t3 b o (sx b o e) (mW e hx);exact⟨F,ρ',H1,o,R'.grow t4 (lK.refl _) (R'.sub.trans t4) (λb o e=>.inl e),e,k.back s,λ_=>rfl⟩
   |some q=>
    obtain⟨ns,es⟩:=q;simp only[e2]at e;cases e;refine .inl ⟨ns,es,rfl,λys dx' H2 H2' t1 t2 t3 fr h0 hp hl ry=>⟨rfl,?_⟩⟩;have t4:lK H1' H2':=λb o e=>t3 b o (sx b o e) (mW e hx);have fr1:∀b o,H2 b=some o->H1 b=some o\/H1' b=none:=λb o e=>by
     rcases fr b o e with q|q
     ·exact .inl q
     ·cases z:H1' b with
      |none=>exact .inr rfl
      |some u=>rw[sx b u z]at q;cases q
    exact k σ H2 H2' (s.trans t1) (R'.grow t4 t1 t2 fr1)
theorem fnX_some{n:Nat}{f:FS}{d:Bool}(h:fnX np n f ds=some d):ds.length=np/\((∃ρ,f (stE n ds)=some (.nx ρ)/\d=true)\/∃ρ,f (stE n ds)=some (.bk ρ)/\d=false):=by
 unfold fnX at h;split at h
 ·rename_i hl;refine⟨hl,?_⟩;split at h
  ·rename_i e;cases h;exact .inl ⟨_,e,rfl⟩
  ·rename_i e;cases h;exact .inr ⟨_,e,rfl⟩
  ·cases h
 ·cases h
theorem entry_X{f:FS}{H:Hp}{Q:VK}(hN:np<=N.length)(h:spX G (fnX np N.length f) vs H Q E):tFX G (λH'=>∀e,E e none H') f { nx:=λ_ H'=>Q .non H',rt:=Q } (L2.start N vs) H:=by
 obtain⟨H0,ds,d,s,r,e,k1,k2⟩:=h;obtain⟨hl,e'⟩:=fnX_some e;have R:=tI (N:=N) s r (by rw[<-lI r,hl];exact hN);have fin:∀{σ':St} {ρ':List Sl} {H0' H':Hp},lU G ⟨H0,H,[]⟩ σ' ρ' H0' H'->lK H H'/\lK H0' H'/\∀b o,H0' b=some o->H0 b=some o\/H b=none:=λR'=>⟨λb o e=>R'.keep b o e (by simp),R'.sub,R'.fr⟩;clear e;rcases e' with ⟨ρ,e,rfl⟩|⟨ρ,e,rfl⟩
 ·refine⟨_,_,H0,_,R,e,λσ' H0' H' s' R'=>?_,λ_=>rfl⟩;obtain⟨h1,h2,h3⟩:=fin R';exact k1 rfl H0' H' s' h2 h1 h3
 ·refine⟨_,_,H0,_,R,e,λσ' H0' H' s' R' ev=>?_,λ_=>rfl⟩;exact k2 rfl ev H' (fin R').1
theorem len_X{g:List D->Option Bool}(hg:∀ds d,g ds=some d->ds.length=np):∀vs H Q E,spX G g vs H Q E->vs.length=np:=λvs H Q E h=>by obtain⟨H0,ds,d,_,r,e,_⟩:=h;rw[<-lI r];exact hg _ _ e
theorem relI{p dx:Addr}{us:List V}{H0 H:Hp}(hN:us.length+1<=N.length)(hp:H p=some (.ins (G.ca c) dx []))(h0:H0 p=none)(s:lK H0 H)(r:lG G H0 ds us):lU G ⟨H0,H,[p]⟩ (L2.start N (.ref p::us)) (stI c N.length ds) H0 H:=by
 have gets:∀{i:Nat} {t:Sl},(stI c N.length ds)[i]?=some t->(i=0/\t=.ob c [] [])\/t=.un\/∃(j:Nat) (d:D),i=j+1/\ds[j]?=some d/\t=.im d:=λ{i t} e=>by
  cases i with
  |zero=>cases e;exact .inl ⟨rfl,rfl⟩
  |succ j=>
   have e':(stE (N.length - 1) ds)[j]?=some t:=e;rcases sD e' with rfl|⟨d,e1,rfl⟩
   ·exact .inr (.inl rfl)
   ·exact .inr (.inr ⟨j,d,rfl,e1,rfl⟩)
 exact {
  sub:=s
  g0:=lK.refl _
  keep:=λb o e _=>e
  fr:=λb o e=>.inl e
  am:=λa ha=>by
   have ea:a=p:=by simpa using ha
   subst ea;exact⟨_,hp⟩
  len:=by unfold L2.start stI stE;simp only[aC,aj,bB,aG];have:=lI r;omega
  sl:=λi t e=>by
   rcases gets e with ⟨rfl,rfl⟩|rfl|⟨j,d,rfl,e1,rfl⟩
   ·exact⟨p,dx,[],oE rfl,hp,h0,by simp,rfl,ma⟩
   ·trivial
   ·obtain⟨v,e2,e3⟩:=oP r e1;exact⟨v,oE (by simpa using e2),e3⟩
  ap:=λi j t u a hij ei ej ht hu=>by
   rcases gets ei with ⟨rfl,rfl⟩|rfl|⟨_,_,_,_,rfl⟩
   ·rcases gets ej with ⟨rfl,rfl⟩|rfl|⟨_,_,_,_,rfl⟩
    ·exact aq rfl hij
    ·cases hu
    ·cases hu
   ·cases ht
   ·cases ht }
theorem fnXI_some{n:Nat}{f:FS}{r:Option (List Str×List D)}(h:fnXI c np n f ds=some r):ds.length=np/\((∃ρ,f (stI c n ds)=some (.bk ρ)/\r=none)\/∃q,fnI c np n f ds=some q/\r=some q):=by
 unfold fnXI at h;split at h
 ·rename_i hl;refine⟨hl,?_⟩;split at h
  ·rename_i e;cases h;exact .inl ⟨_,e,rfl⟩
  ·split at h
   ·rename_i e;cases h;exact .inr ⟨_,e,rfl⟩
   ·cases h
  ·cases h
 ·cases h
theorem entry_XI{f:FS}{H:Hp}{Q:VK}(hN:np+1<=N.length)(h:spXI G c (fnXI c np N.length f) vs H Q E):tFX G (λH'=>∀e,E e none H') f { nx:=λ_ H'=>Q .non H',rt:=Q } (L2.start N vs) H:=by
 obtain⟨p,dx,us,H0,ds,rfl,hp,h0,s,r,k⟩:=h;rcases k with ⟨ns,es,e,k⟩|⟨e,k⟩
 ·obtain⟨hl,e'⟩:=fnXI_some e;rcases e' with ⟨_,_,z⟩|⟨q,e1,z⟩
  ·cases z
  ·cases z;exact tFS_zE (xN (E:=E) hN ⟨p,dx,us,H0,ds,ns,es,rfl,hp,h0,s,r,e1,k⟩)
 ·obtain⟨hl,e'⟩:=fnXI_some e;rcases e' with ⟨ρ,e1,_⟩|⟨q,_,z⟩
  ·have R:=relI (N:=N) (by rw[<-lI r,hl];exact hN) hp h0 s r;exact⟨_,_,H0,_,R,e1,λσ' H0' H' s' R' ev=>k ev H' λb o e n=>R'.keep b o e (by simpa using n),λ_=>rfl⟩
  ·cases z
theorem len_XI{g:List D->Option (Option (List Str×List D))}(hg:∀ds q,g ds=some q->ds.length=np):∀vs H Q E,spXI G c g vs H Q E->vs.length=np+1:=λvs H Q E h=>by obtain⟨p,dx,us,H0,ds,rfl,_,_,_,r,k⟩:=h;rw[aG,<- lI r];rcases k with ⟨_,_,e,_⟩|⟨e,_⟩<;>rw[hg _ _ e]
end
structure ZX(X:Cx)(B:Bz)(c:Nat)(st:Stmt)(f:FS):Prop where p:(∀e s,¬X.xe e s)->∀xe Z,Passes (CXW B.P B.w (B.G.ca c)) (X.wish xe) (λ_ _ H'=>Z H')->Mades (X.wish xe) (B.G.ca c) Z->PS (X.wish xe) st (tFX B.G Z f)
structure ZY(X:Cx)(B:Bz)(c:Nat)(st:List Stmt)(f:FS):Prop where p:(∀e s,¬X.xe e s)->∀xe Z,Passes (CXW B.P B.w (B.G.ca c)) (X.wish xe) (λ_ _ H'=>Z H')->Mades (X.wish xe) (B.G.ca c) Z->PSs (X.wish xe) st (tFX B.G Z f)
class Xn(B:Bz)(y:Str)(c:outParam Nat):Prop where p:XC B.G.K (B.G.ca c)/\B.mg y=some (.ref (B.G.ca c))
class Dx(B:Bz)(j:outParam Nat)(x:Str)(c:Nat)(g:List D->Option Bool):Prop where p:∃ps f fd,B.mg x=some (.ref f)/\bY B.G.K (.ref f)=true/\Binds B.G.K fd ps []/\oh B.P B.w B.G.K B.mg B.base (CXW B.P B.w (B.G.ca c)) j f fd ps (spX B.G g)
class Kx(B:Bz)(j:outParam Nat)(x:Str)(c0:outParam Nat)(c:Nat)(g:List D->Option (Option (List Str×List D))):Prop where p:∃ps f fd,Mk B.G.K (B.G.ca c0) f/\B.mg x=some (.ref (B.G.ca c0))/\Binds B.G.K fd ps []/\oh B.P B.w B.G.K B.mg B.base (CXW B.P B.w (B.G.ca c)) j f fd ps (spXI B.G c0 g)
class Bx(X:Cx):Prop where
 n:∀e s,¬X.xe e s
 st:X.stack=X.env::X.outer
 fm:X.env.frame=some X.env.locals
instance inBx {P:au}{w:ak}{K:ai}{mg:Str->Option aa}{base:Heap}{N:List Str}{qual:Str}{st:Stmt}{f:Addr}{cdv:aa}{A:aw}{outer:List Env}{s:ae}{H:Hp}{E:XK}:Bx (qY P w K mg base N qual st f cdv A outer s H E):=⟨λ_ _ z=>z,rfl,rfl⟩
section
variable{X:Cx}{B:Bz}{k j c c0:Nat}{x y:Str}{e:Expr}{es:List Expr}{p p2 p3 pos pos2 pos3 hp:Pos}{a:FA}{st b0:Stmt}{sts sts' suite:List Stmt}{fs fs' fh:FS}{ft:FT}
theorem zr_xU(h:ZS X B st fs):ZX X B c st (sNb fs):=⟨λn xe Z _ _=>pfx_up (h.p.lift n)⟩
theorem zr_yI(h1:ZX X B c st fs)(h2:ZY X B c sts fs'):ZY X B c (st::sts) (lJ fs fs'):=⟨λn xe Z q r=>pfx_cons (h1.p n xe Z q r) (h2.p n xe Z q r)⟩
theorem zr_y1(h1:ZX X B c st fs):ZY X B c [st] fs:=⟨λn xe Z q r=>uH (h1.p n xe Z q r)⟩
theorem zr_y0:ZY X B c [] nv:=⟨λn xe Z q r=>pfx_nil⟩
theorem zr_xI(h:ZT X B e ft)(h1:ZY X B c sts fs)(h2:ZY X B c sts' fs'):ZX X B c (.If e sts sts' pos) (sIf ft fs fs'):=⟨λn xe Z q r=>pfx_if (h.p.lift n) (h1.p n xe Z q r) (h2.p n xe Z q r)⟩
section
variable(hg:Gz X x)(hd:Dz x)(hs:Sz X e es)(hl:Lz X pos es)
include hg hd hs hl
theorem zr_xR [C:Cz X B k][Q:Xn B x c](ha:ZA X B (e::es) a):ZX X B c (.Raise (some (.Call (.Name x p) (e::es) [] pos)) none pos2) (sRz a):=
 ⟨λn xe Z q r=>pfx_raise (ps_raise (X:=X.wish xe) (by show XC X.K _;rw[C.K];exact Q.p.1) C.c (by show X.mg x=_;rw[C.mg];exact Q.p.2) r (ha.p.lift n) hg hd hs hl)⟩
theorem zr_xC{g:List D->Option Bool}[C:Cz X B k][Q:Dx B j x c g](ha:ZA X B (e::es) a)(hj:bK j k=true)(hw:bH (.Call (.Name x p) (e::es) [] pos) none pos2.line X.env=pure false):ZX X B c (.Expr (.Call (.Name x p) (e::es) [] pos) pos2) (sXp g a):=by refine⟨λn xe Z q r=>?_⟩;have Q':=Q.p;rw[<-C.P,<- C.w,<- C.K,<- C.mg,<- C.b]at Q';rw[<-C.P,<- C.w]at q;obtain⟨ps,f,fd,h1,h2,h3,h4⟩:=Q';exact pfx_call (xq (sr (X:=X.wish xe) (p:=p) (pos:=pos) h4 (C.r.mono (bW.mp hj)) hg h1 h2 h3 .nil q (ha.p.lift n) hd hs hl) hw)
theorem zr_tI{g:List D->Option (Option (List Str×List D))}[C:Cz X B k][Q:Xn B y c][R:Kx B j x c0 c g][b:Bx X](ha:ZA X B (e::es) a)(hh:∀v,ZB (X.caught v) B (b0::suite) fh)(hj:bK (j+1) k=true)(hg':Gz X y)(hd':Dz y)(hw:bH (.Call (.Name x p) (e::es) [] pos) none pos2.line X.env=pure false):
  ZS X B (.Try [.Expr (.Call (.Name x p) (e::es) [] pos) pos2] [.ExceptHandler (some (.Name y p2)) none (b0::suite) hp] [] [] pos3) (sTry g a fh):=by
 have R':=R.p;have Q':=Q.p;rw[<-C.P,<- C.w,<- C.K,<- C.mg,<- C.b]at R';rw[<-C.K,<- C.mg]at Q';obtain⟨ps,f,fd,h1,h2,h3,h4⟩:=R';exact⟨pfx_try (c:=c0) (ps_try (ds:=[]) b.st b.fm b.n Q'.1 hg' Q'.2 hd' h1 h4 (C.r.mono (bW.mp hj)) h3 .nil hg h2 ha.p hd hs hl hw λv=>(hh v).p)⟩
end
end
section
variable{B:Bz}[Y:Yb B]{x m qual:Str}{st s0:Stmt}{l:List Stmt}{k c c0 np n:Nat}{b:FS}{p:Str}{ps xs:List Str}{N:List Str}
abbrev Bdx(B:Bz)(N:List Str)(qual:Str)(st:Stmt)(l:List Stmt)(k c:Nat)(b:FS):Prop:=∀{f:Addr} {cdv:aa} {A:aw} {outer:List Env} {s:ae} {H:Hp} {E:XK} [Cz (qY B.P B.w B.G.K B.mg B.base N qual st f cdv A outer s H E) B k],ZY (qY B.P B.w B.G.K B.mg B.base N qual st f cdv A outer s H E) B c l b
omit Y in
theorem Bdx.ok(h:Bdx B N qual st l k c b)(hl:l7 st=l)(f:Addr)(cdv:aa)(A:aw)(outer:List Env)(s:ae)(H:Hp)(E:XK)(hr:mP k (A.deeper (envOfC qual (lS st) s.heap.objs.size f cdv))):
  PSs (cxW (B.G.ca c) B.P B.w B.G.K B.mg B.base N qual (lS st) f cdv A outer s H E) (l7 st) (tFX B.G (λH'=>∀e,E e none H') b):=by
 subst hl;exact(@h f cdv A outer s H E ⟨rfl,rfl,rfl,rfl,rfl,rfl,hr⟩).p (λ_ _ z=>z) (cxW (B.G.ca c) B.P B.w B.G.K B.mg B.base N qual (lS st) f cdv A outer s H E).xe _ pass_body λpins σ H s a vs h' I hx z=>made_body I hx z
theorem gX4{g:List D->Option Bool}(hg:g=fnX np n b)(q:GD B.G.K x st)(hl:l7 st=s0::l)(body:Bdx B (nmO st) x st (s0::l) k c b)(S:okO (nmO st) (psO st) st np n=true:=by kernel_rfl)(bd:Bds x x st (psO st):=by (repeat intro _);rfl):Dx B (k+1) x c g:=by obtain⟨f,fd,a,F⟩:=q;obtain⟨S1,S2,S3⟩:=okk S;refine⟨psO st,f,fd,Y.y.g a,F.kp,bd.ok F,?_⟩;subst hg S2 S3;obtain⟨oc,od,kV,doc,pm,an,cdv,ct,osl,rfl,lk,hcd⟩:=F.ex;exact yh lk hcd S1 (len_X λds d h=>(fnX_some h).1) λA outer s H vs Q E hr hsp=>⟨_,body.ok hl f cdv A outer s H E hr,entry_X (by have:=aQ bP S1.pre;rw[bu]at this;omega) hsp⟩
theorem gX5(N:List Str){g:List D->Option Bool}(hg:g=fnX np n b)(q:GD B.G.K x st)(hl:l7 st=s0::l)(body:Bdx B N x st (s0::l) k c b)(S:okO N (psO st) st np n=true:=by kernel_rfl)(bd:Bds x x st (psO st):=by (repeat intro _);rfl):Dx B (k+1) x c g:=by obtain⟨f,fd,a,F⟩:=q;obtain⟨S1,S2,S3⟩:=okk S;refine⟨psO st,f,fd,Y.y.g a,F.kp,bd.ok F,?_⟩;subst hg S2 S3;obtain⟨oc,od,kV,doc,pm,an,cdv,ct,osl,rfl,lk,hcd⟩:=F.ex;exact yh lk hcd S1 (len_X λds d h=>(fnX_some h).1) λA outer s H vs Q E hr hsp=>⟨_,body.ok hl f cdv A outer s H E hr,entry_X (by have:=aQ bP S1.pre;rw[bu]at this;omega) hsp⟩
theorem gXI4{g:List D->Option (Option (List Str×List D))}(C:CF B.G.K (B.G.ca c0) xs)(a:dB B.G.K aA x=some (some (.ref (B.G.ca c0))))(hg:g=fnXI c0 np n b)(q:GM B.G.K (B.G.ca c0) "__init__" qual st)(hl:l7 st=s0::l)(hp:psO st=p::ps)(body:Bdx B (nmO st) qual st (s0::l) k c b)(S:okO (nmO st) (p::ps) st (np+1) n=true:=by kernel_rfl)(bd:Bds "__init__" qual st (p::ps):=by (repeat intro _);rfl):Kx B (k+1) x c0 c g:=by obtain⟨f,fd,i,i',F⟩:=q;obtain⟨S1,S2,S3⟩:=okk S;refine⟨p::ps,f,fd,⟨C.mks,i,i',C.kp⟩,Y.y.g a,bd.ok F,?_⟩;obtain rfl:ps.length=np:=dr S2;subst hg S3;obtain⟨oc,od,kV,doc,pm,an,cdv,ct,osl,rfl,lk,hcd⟩:=F.ex;exact yh lk hcd S1 (len_XI λds d h=>(fnXI_some h).1) λA outer s H vs Q E hr hsp=>⟨_,body.ok hl f cdv A outer s H E hr,entry_XI (by have:=aQ bP S1.pre;rw[bu,aG]at this;omega) hsp⟩
end
section
variable{X:Cx}{G:Bg}
theorem pf_mut1{e:Expr}{g:List D->List D->Option (D×List D)}{n:FA}(h:PE X e (qO (spM G g) [] E (LN G ml n))):PE X e (tF G (cMutT g ml n)):=PE.weak h λσ H Q hh=>by
 obtain⟨F,ρ,H0,d,ρ',R,e,k⟩:=hh;unfold cMutT at e;rw[show ml ρ=some ([],ρ) from rfl]at e;dsimp only at e;split at e
 ·rename_i ns ρ2 e2;split at e
  ·rename_i d1 es' e3;cases e;refine⟨F,ρ,H0,[],ρ,ns,_,R,rfl,e2,λys b zs H1 H1' s R' rs h1 h2 h3 h4 h5=>?_⟩;obtain rfl:ys=[]:=by cases ys with
    |nil=>rfl
    |cons y ys=>exact aq (lI rs) (by simp)
   refine⟨b,[],zs,H1,ns,[],_,es',rfl,h1,h2,R'.sub,h5,ma,e3,λv zs' H2 H2' u1 u2 u3 fr w0 w1 w2 w3=>?_⟩;exact k _ _ _ (s.trans u1) (R'.temp h3 h4 u1 u2 u3 fr w1) w3
  ·cases e
 ·cases e
end
section
variable{X:Cx}{B:Bz}{k j:Nat}{x:Str}{e:Expr}{n:FA}{p pos:Pos}
theorem zr_mq1{g:List D->List D->Option (D×List D)}[C:Cz X B k][Q:Df B j x (spM B.G g)](hg:Gz X x)(hd:Dz x)(ha:ZN X B e n)(hs:Sz X e [])(hl:Lz X pos [])(hj:bK j k=true):ZE X B (.Call (.Name x p) [e] [] pos) (cMutT g ml n):=by obtain⟨ps,q⟩:=dz hg hd (X:=X) (Q:=Q);obtain⟨f,fd,h1,h2,h3,h4⟩:=q;exact⟨pf_mut1 (sr (p:=p) (pos:=pos) h4 (C.r.mono (bW.mp hj)) hg h1 h2 h3 .nil tY (DR ha.p hs) hd hs hl)⟩
theorem zr_df0{g:List D->Option D}[C:Cz X B k][Q:Df B j x (spF B.G g)](hg:Gz X x)(hd:Dz x)(hj:bK j k=true):ZE X B (.Call (.Name x p) [] [] pos) (lN g ml):=by obtain⟨ps,q⟩:=dz hg hd (X:=X) (Q:=Q);exact⟨Fm q (C.r.mono (bW.mp hj)) hg hd⟩
end
end L4
namespace K06x
open PySem L2 L3 L4
abbrev D:=L4.D
def top(i:Nat):Stmt:=PySem.Challenge.pw_tellworld_k06_things_that_are_none.main.body.getD i (.Pass ⟨0,0,0,0⟩)
def p8:Nat->Bool:=λc=>c==14
def q8:Nat->Bool:=λc=>c==2
def qF:Nat->Bool:=λc=>c==14
def q9:Nat->Bool:=λc=>c==14
def mx:Nat->Bool:=λc=>c==0||c==7
def pF:Nat->Bool:=λc=>c==1
def l5:Nat->Bool:=λc=>c==0||c==1||c==2
def se:Nat->Bool:=λc=>c==2
def p9:Nat->Bool:=λc=>c==14
def qa:Nat->Bool:=λc=>c==14
def nP:Nat->Bool:=λc=>c==0||c==1
def y6:Nat->Bool:=λc=>c==13
def mS:Nat->Bool:=λc=>c==0
def rK:Nat->Bool:=λc=>c==14
abbrev DS:Ty->Option Bool:=wR 15 1
abbrev uR:Ty->Option Bool:=wR 15 0
def oq:L4.D:=(D.tup [(D.str "room"),(D.str "plain"),(D.str "fixed"),(D.str "box"),(D.str "lamp"),(D.str "you")])
def pP:L4.D:=(D.tup [(D.str "room"),(D.str "box"),(D.str "you")])
def pQ:L4.D:=(D.tup [(D.str "box"),(D.str "lamp")])
def rL:L4.D:=(D.tup [(D.str "room"),(D.str "you")])
def ra:L4.D:=(D.int 8)
def rb:L4.D:=(D.int 12)
def vO:L4.D:=(D.tup [(D.str "it"),(D.str "other"),(D.str "here"),(D.str "the"),(D.str "a"),(D.str "undo"),(D.str "restart")])
def vP:L4.D:=(D.tup [(D.str "the"),(D.str "a")])
def qx:L4.D:=(D.int 5)
def oK:L4.D:=(D.int 7)
def sL:L4.D:=(D.int 4)
def rf:L4.D:=(D.int 3)
def ug:L4.D:=(D.int 10)
def sM:L4.D:=(D.int 6)
def sN:L4.D:=(D.int 4)
def pG:L4.D:=(D.tup [(D.str "the"),(D.str "a"),(D.str "undo"),(D.str "restart")])
def sO:L4.D:=(D.int 20)
def pH:FS:=(mK (oV (c1 (oA (nF "str")) (cV 0)) (oV (nV pD pD (cC (.int 1)) (c1 nE (cV 0)) (cV 1)) (c1 oe (cL (lX 1 [] (iS (cV 0)) (gN 0) mI (nV Da Da (cS "a") (cV 0) (cS "z"))))))))
def nY:=fnD 2 2 pH
def wW:FS:=(mK (oV (lN nY (aCons (cV 0) (a1 (cC ra)))) (c2 (dIn true) (cV 0) (cC vO))))
def lV:=fnD 1 1 wW
def wX:FS:=(mK (oV (lN nY (aCons (cV 0) (a1 (cC rb)))) (c2 (dIn true) (cV 0) (cC vP))))
def wY:=fnD 1 1 wX
def uh:FS:=(mK (oV (c1 (oA (nF "str")) (cV 0)) (c2 (dIn false) (cV 0) (cV 1))))
def mq:=fnD 2 2 uh
def vQ:FS:=(mK (oV (c1 (oA (nF "int")) (cV 0)) (ve (c1 (oA (nF "bool")) (cV 0)))))
def sf:=fnD 1 1 vQ
def qG:FS:=(mK (oV (c1 (oA (nF "list")) (cV 0)) (c2 pD (c1 nE (cV 0)) (cV 1))))
def ni:=fnD 2 2 qG
def vR:FS:=(mK (cIf (cT (c1 (oA (nF "list")) (cV 0))) (cL (rH (cV 0))) (cV 0)))
def sg:=fnD 1 1 vR
def qy:FS:=(lJ (mn 0 0 "name" (cV 1))
 (lJ (mn 0 0 "words" (cV 2))
 (lJ (mn 0 0 "kind" (cV 3))
 (mn 0 0 "start" (cV 4)))))
def lM:=fnI 0 4 5 qy
def ui:FS:=(lJ (mn 1 0 "name" (cV 1))
 (lJ (mn 1 0 "start" (cV 2))
 (mn 1 0 "most" (cV 3))))
def uj:=fnI 1 3 4 ui
def rg:FS:=(lJ (mn 2 0 "name" (cV 1))
 (lJ (mn 2 0 "others" (cIf (cT (c2 yK (cV 2) (cC D.non))) (mC ml) (cV 2)))
 (lJ (mn 2 0 "form" (cV 3))
 (mn 2 0 "joining" (cV 4)))))
def nG:=fnI 2 4 5 rg
def wZ:FS:=(lJ (mn 3 0 "term" (cV 1))
 (mn 3 0 "place" (cV 2)))
def w5:=fnI 3 2 3 wZ
def vS:FS:=(mn 4 0 "term" (cV 1))
def sh:=fnI 4 1 2 vS
def rM:FS:=(lJ (mn 6 0 "term" (cV 1))
 (mn 6 0 "value" (cV 2)))
def nr:=fnI 6 2 3 rM
def uk:FS:=(lJ (mn 7 0 "term" (cV 1))
 (mn 7 0 "kind" (cV 2)))
def nH:=fnI 7 2 3 uk
def vT:FS:=(mn 9 0 "inner" (cV 1))
def nZ:=fnI 9 1 2 vT
def um:FS:=(lJ (mn 11 0 "term" (cV 1))
 (mn 11 0 "place" (cV 2)))
def oR:=fnI 11 2 3 um
def vU:FS:=(lJ (mn 12 0 "term" (cV 1))
 (mn 12 0 "value" (cV 2)))
def pI:=fnI 12 2 3 vU
def uo:FS:=(lJ (mn 13 0 "verb" (cV 1))
 (lJ (mn 13 0 "tests" (lN sg (a1 (cV 2))))
 (lJ (mn 13 0 "deeds" (lN sg (a1 (cV 3))))
 (lJ (mn 13 0 "text" (cV 4))
 (mn 13 0 "refuses" (cV 5))))))
def rh:=fnI 13 5 6 uo
def qb:FS:=(mK (c2 (dIn false) (c1 (l8 mx "kind") (cV 0)) (cC pP)))
def qc:=fnD 1 1 qb
def nI:Nat->Option (List D->Option D):=λc=>match c with
 |0=>some qc
 |_=>none
def qd:FS:=(mK (c2 (dIn false) (c1 (l8 mx "kind") (cV 0)) (cC pQ)))
def qe:=fnD 1 1 qd
def mZ:Nat->Option (List D->Option D):=λc=>match c with
 |0=>some qe
 |_=>none
def pJ:FS:=(mK (c2 (dIn true) (c1 (l8 mx "kind") (cV 0)) (cC rL)))
def pK:=fnD 1 1 pJ
def oJ:Nat->Option (List D->Option D):=λc=>match c with
 |0=>some pK
 |_=>none
def qH:FS:=(sIf (p6 (cT (cV 0))) (sRz (a1 (cV 1))) nv)
def lE:=fnX 2 2 qH
def vV:FS:=(mK (c1 nE (cL (lX 1 [1] (iL (cV 0)) (gN 0) (cT (c2 (dEq false) (c1 (l8 mx "kind") (cV 0)) (cV 1))) (cV 0)))))
def n4:=fnD 2 2 vV
def sP:FS:=(nz (lX 1 [] (iL (cV 0)) (gN 0) (cT (n9 oJ "is_plainly" (cV 0) ml)) (cV 0)))
def mU:=fnN 1 1 sP
def w6:FS:=(lJ (sIf (yz (p6 (cT (c1 (oA DS) (cV 0)))) (yz (p6 (cT (lN sf (a1 (c1 (l8 nP "start") (cV 0)))))) (p6 (cT (lN sf (a1 (c1 (l8 pF "most") (cV 0)))))))) (mK (cC (.bl false))) nv)
 (mK (oV (nV pD pD (cC (.int 1)) (c1 (l8 pF "most") (cV 0)) (cC rf)) (nV pD pD (cC (.int 0)) (c1 (l8 nP "start") (cV 0)) (c1 (l8 pF "most") (cV 0))))))
def w9:=fnD 1 1 w6
def pL:FS:=(lJ (sNb (mF 1 (oV (c1 (oA (nF "list")) (cV 0)) (c1 oe (cL (lX 1 [] (iL (cV 0)) (gN 0) mI (c1 (oA uR) (cV 0))))))))
 (lJ (sXp lE (aCons (cV 1) (a1 (cS "things are a list of things"))))
 (lJ (sXp lE (aCons (c1 oe (cL (lX 1 [] (iL (cV 0)) (gN 0) mI (lN mq (aCons (c1 (l8 mx "kind") (cV 0)) (a1 (cC oq))))))) (a1 (cS "a thing is of no kind"))))
 (lJ (sXp lE (aCons (nV pD pD (cC (.int 1)) (lN n4 (aCons (cV 0) (a1 (cS "room")))) (cC qx)) (a1 (cS "a world has 1 to 5 rooms"))))
 (lJ (sXp lE (aCons (c2 (dEq false) (lN n4 (aCons (cV 0) (a1 (cS "you")))) (cC (.int 1))) (a1 (cS "a world has just one you"))))
 (sXp lE (aCons (c2 pD (c1 nE (cL (mR mU (a1 (cV 0))))) (cC oK)) (a1 (cS "a world has at most 7 things beside rooms and you")))))))))
def mr:=fnX 1 2 pL
def rN:FS:=(lJ (sNb (mF 1 (oV (lN ni (aCons (cV 0) (a1 (cC sL)))) (c1 oe (cL (lX 1 [] (iL (cV 0)) (gN 0) mI (lN w9 (a1 (cV 0)))))))))
 (sXp lE (aCons (cV 1) (a1 (cS "marks are a list of at most 4 marks, each from 0 to at most 3")))))
def nt:=fnX 1 2 rN
def sQ:FS:=(mK (c2 (dEq false) (c1 xV (cV 0)) (c1 nE (cV 0))))
def mV:=fnD 1 1 sQ
def nT:FS:=(lJ (sNb (mF 2 (cL (mL (cL (lX 1 [] (iL (cV 0)) (gN 0) mI (c1 (l8 l5 "name") (cV 0)))) (cL (lX 1 [] (iL (cV 1)) (gN 0) mI (c1 (l8 l5 "name") (cV 0))))))))
 (lJ (sXp lE (aCons (c1 oe (cL (lX 1 [] (iL (cV 2)) (gN 0) mI (lN lV (a1 (cV 0)))))) (a1 (cS "a name is no name"))))
 (sXp lE (aCons (lN mV (a1 (cV 2))) (a1 (cS "two things or marks have one name"))))))
def mG:=fnX 2 3 nT
def sR:FS:=(nz (mL (cL (lX 1 [] (iL (cV 0)) (gN 0) (cT (n9 mZ "has_mark" (cV 0) ml)) (c1 (l8 l5 "name") (cV 0)))) (cL (lX 1 [] (iL (cV 1)) (gN 0) mI (c1 (l8 l5 "name") (cV 0))))))
def o8:=fnN 2 2 sR
def sj:FS:=(lJ (sIf (cT (c2 (dEq false) (c1 (l8 mx "kind") (cV 1)) (cS "room"))) (mK (c2 yK (c1 (l8 nP "start") (cV 1)) (cC D.non))) nv)
 (lJ (sIf (cT (c2 (dEq false) (c1 (l8 mx "kind") (cV 1)) (cS "you"))) (mK (lN mq (aCons (c1 (l8 nP "start") (cV 1)) (a1 (cL (lX 1 [] (iL (cV 0)) (gN 0) (cT (c2 (dEq false) (c1 (l8 mx "kind") (cV 0)) (cS "room"))) (c1 (l8 l5 "name") (cV 0)))))))) nv)
 (mK (lN mq (aCons (c1 (l8 nP "start") (cV 1)) (a1 (cL (lX 1 [] (iL (cV 0)) (gN 0) (cT (n9 nI "can_hold" (cV 0) ml)) (c1 (l8 l5 "name") (cV 0))))))))))
def sk:=fnD 2 2 sj
def qI:FS:=(lJ (mF 2 (c2 ub (cV 0) (cV 1)))
 (lJ (qT (iR1 (c1 nE (cV 0))) (gN 3) (lJ (sIf (cT (c2 yK (cV 2) (cC D.non))) (mK (cC (.bl true))) nv)
 (mF 2 (c2 ub (cV 0) (cV 2)))))
 (mK (c2 yK (cV 2) (cC D.non)))))
def my:=fnD 2 4 qI
def nJ:FS:=(lJ (sXp lE (aCons (c1 oe (cL (lX 1 [0] (iL (cV 0)) (gN 0) mI (lN sk (aCons (cV 1) (a1 (cV 0))))))) (a1 (cS "a start is none"))))
 (lJ (sNb (wO 1))
 (lJ (sNb (qT (iL (cV 0)) (gN 2) (oI 1 (c1 (l8 l5 "name") (cV 2)) (c1 (l8 nP "start") (cV 2)))))
 (sXp lE (aCons (c1 oe (cL (lX 1 [1] (iD (cFz 1)) (gN 0) mI (lN my (aCons (cV 1) (a1 (cV 0))))))) (a1 (cS "a thing starts within itself")))))))
def mM:=fnX 1 3 nJ
def uq:FS:=(lJ (sIf (yz (p6 (cT (c1 (oA (nF "tuple")) (cV 0)))) (p6 (cT (nV pD pD (cC (.int 1)) (c1 nE (cV 0)) (cC sN))))) (mK (cC (.bl false))) nv)
 (mK (oV (c1 oe (cL (lX 1 [] (iT (cV 0)) (gN 0) mI (lN wY (a1 (cV 0)))))) (lN mV (a1 (cV 0))))))
def l9:=fnD 1 1 uq
def xa:FS:=(mK (c1 oe (cL (lX 1 [0] (iT (cV 1)) (gN 0) mI (c2 (dIn false) (cV 0) (cV 1))))))
def nu:=fnD 2 2 xa
def oW:FS:=(lJ (mF 2 (cL (lX 1 [1] (iL (cV 0)) (gN 0) (cT (c2 (dEq true) (c1 (l8 l5 "name") (cV 0)) (c1 (l8 l5 "name") (cV 1)))) (cV 0))))
 (mK (ve (c1 vA (cL (lX 1 [1] (iL (cV 2)) (gN 0) mI (lN nu (aCons (c1 (l8 mS "words") (cV 0)) (a1 (c1 (l8 mS "words") (cV 1)))))))))))
def nq:=fnD 2 3 oW
def mB:FS:=(lJ (sXp lE (aCons (c1 oe (cL (lX 1 [] (iL (cV 0)) (gN 0) mI (lN l9 (a1 (c1 (l8 mS "words") (cV 0))))))) (a1 (cS "a thing has 1 to 4 unlike words, as a tuple"))))
 (lJ (sNb (mF 1 (cL (mR mU (a1 (cV 0))))))
 (sXp lE (aCons (c1 oe (cL (lX 1 [1] (iL (cV 1)) (gN 0) mI (lN nq (aCons (cV 1) (a1 (cV 0))))))) (a1 (cS "one thing has all words of another"))))))
def mf:=fnX 1 2 mB
def sS:FS:=(lJ (sNb (mF 2 (oV (c1 (oA (nF "list")) (cV 0)) (oV (c1 oe (cL (lX 1 [1] (iL (cV 0)) (gN 0) mI (lN mq (aCons (cV 0) (a1 (cV 1))))))) (lN mV (a1 (cV 0)))))))
 (sXp lE (aCons (cV 2) (a1 (cS "dark is a list of rooms' names, each once")))))
def sT:=fnX 2 3 sS
def sU:FS:=(lJ (sNb (mF 3 (oV (lN ni (aCons (cV 0) (a1 (cC ug)))) (c1 oe (cL (lX 1 [1,2] (iL (cV 0)) (gN 0) mI r6))))))
 (lJ (sXp lE (aCons (cV 3) (a1 (cS "ways are a list of at most 10 tuples (room, word, room, mark)"))))
 (sXp lE (aCons (lN mV (a1 (cL (lX 1 [] (iL (cV 0)) (gN 0) mI (mC (aCons (c2 dIx (cV 0) (cC (.int 0))) (a1 (c2 dIx (cV 0) (cC (.int 1)))))))))) (a1 (cS "two ways lead from one room by one word"))))))
def sV:=fnX 3 4 sU
def rO:FS:=(lJ (sNb (mF 1 (oV (lN ni (aCons (cV 0) (a1 (cC sM)))) (c1 oe (cL (lX 1 [] (iL (cV 0)) (gN 0) mI r6))))))
 (sXp lE (aCons (cV 1) (a1 (cS "verbs are a list of at most 6 verbs")))))
def rP:=fnX 1 2 rO
def ur:FS:=(mK (ve (c1 vA (cL (lX 1 [1] (iL (cV 0)) (gN 0) mI (c2 (dIn false) (cV 0) (cV 1)))))))
def oT:=fnD 2 2 ur
def n5:FS:=(lJ (sNb (pB 3 (lZ ml)))
 (lJ (sNb (qT (iL (cL (mR mU (a1 (cV 0))))) (gN 4) (n8 (uc 3 (c1 (l8 mS "words") (cV 4))))))
 (lJ (sNb (pB 5 (lZ ml)))
 (lJ (sNb (qT (iL (cV 2)) (gN 6) (n8 (uc 5 (yR (mC (a1 (c1 (l8 l5 "name") (cV 6)))) (c1 (l8 se "others") (cV 6)))))))
 (lJ (sNb (mF 7 (cL (mL (cL (lX 1 [] (iL (cV 2)) (gN 0) (cT (c2 Dc (c1 (l8 q8 "joining") (cV 0)) (cC D.non))) (c1 (l8 q8 "joining") (cV 0)))) (cL (lX 1 [] (iL (cV 1)) (gN 0) mI (c2 dIx (cV 0) (cC (.int 1)))))))))
 (lJ (sXp lE (aCons (lN mV (a1 (cFz 5))) (a1 (cS "two verbs' names are alike"))))
 (lJ (sXp lE (aCons (lN oT (aCons (cL (mL (cFz 5) (cV 7))) (a1 (cFz 3)))) (a1 (cS "a verb's, way's or joining word is a word of a thing"))))
 (lJ (sXp lE (aCons (lN oT (aCons (cL (mL (cFz 5) (cV 7))) (a1 (cC pG)))) (a1 (cS "the, a, undo or restart is a word of the world"))))
 (sXp lE (aCons (lN oT (aCons (cV 7) (a1 (cFz 5)))) (a1 (cS "a way's or joining word is a verb's name"))))))))))))
def n6:=fnX 3 8 n5
def mX:FS:=(lJ (sXp mr (a1 (cV 0)))
 (lJ (sXp nt (a1 (cV 1)))
 (lJ (sXp mG (aCons (cV 0) (a1 (cV 1))))
 (lJ (sXp mM (a1 (cV 0)))
 (lJ (sXp mf (a1 (cV 0)))
 (lJ (sNb (mF 6 (cL (lX 1 [] (iL (cV 0)) (gN 0) (cT (c2 (dEq false) (c1 (l8 mx "kind") (cV 0)) (cS "room"))) (c1 (l8 l5 "name") (cV 0))))))
 (lJ (sXp sT (aCons (cV 2) (a1 (cV 6))))
 (lJ (sXp sV (aCons (cV 3) (aCons (cV 6) (a1 (cL (mR o8 (aCons (cV 0) (a1 (cV 1)))))))))
 (lJ (sXp rP (a1 (cV 4)))
 (sXp n6 (aCons (cV 0) (aCons (cV 3) (a1 (cL (mL (cV 4) (cV 5))))))))))))))))
def l4:=fnX 6 7 mX
def DT:FS:=(mK (lY 13 (λds=>rh (ds++[])) (aCons (cV 0) (aCons (cV 1) (aCons (cV 2) (aCons (cV 3) (a1 (cC (.bl false)))))))))
def pU:=fnD 4 4 DT
def xc:FS:=(mK (lY 13 (λds=>rh (ds++[])) (aCons (cV 0) (aCons (cV 1) (aCons (cL (lZ ml)) (aCons (cV 2) (a1 (cC (.bl true)))))))))
def mE:=fnD 3 3 xc
def sW:FS:=(nz (lZ (aCons (lN mE (aCons (cS "take") (aCons (cL (lZ (a1 (lY 7 (λds=>nH (ds++[])) (aCons (cS "it") (a1 (cS "fixed"))))))) (a1 (cS "That stays."))))) (aCons (lN mE (aCons (cS "take") (aCons (cL (lZ (a1 (lY 3 (λds=>w5 (ds++[])) (aCons (cS "it") (a1 (cV 0))))))) (a1 (cS "You have that."))))) (aCons (lN pU (aCons (cS "take") (aCons (cL (lZ ml)) (aCons (cL (lZ (a1 (lY 11 (λds=>oR (ds++[])) (aCons (cS "it") (a1 (cV 0))))))) (a1 (cS "Taken.")))))) (aCons (lN pU (aCons (cS "drop") (aCons (cL (lZ (a1 (lY 4 (λds=>sh (ds++[])) (a1 (cS "it")))))) (aCons (cL (lZ (a1 (lY 11 (λds=>oR (ds++[])) (aCons (cS "it") (a1 (cS "here"))))))) (a1 (cS "Dropped.")))))) (a1 (lN mE (aCons (cS "drop") (aCons (cL (lZ ml)) (a1 (cS "You lack that."))))))))))))
def sX:=fnN 1 1 sW
def uu:FS:=(nz (lZ (aCons (lN mE (aCons (cS "put") (aCons (cL (lZ (a1 (lY 9 (λds=>nZ (ds++[])) (a1 (lY 4 (λds=>sh (ds++[])) (a1 (cS "it")))))))) (a1 (cS "You lack that."))))) (aCons (lN mE (aCons (cS "put") (aCons (cL (lZ (a1 (lY 9 (λds=>nZ (ds++[])) (a1 (lY 7 (λds=>nH (ds++[])) (aCons (cS "other") (a1 (cS "box"))))))))) (a1 (cS "It holds nothing."))))) (aCons (lN mE (aCons (cS "put") (aCons (cL (lZ (a1 (lY 6 (λds=>nr (ds++[])) (aCons (cS "other") (a1 (cC (.int 0)))))))) (a1 (cS "It is shut."))))) (a1 (lN pU (aCons (cS "put") (aCons (cL (lZ ml)) (aCons (cL (lZ (a1 (lY 11 (λds=>oR (ds++[])) (aCons (cS "it") (a1 (cS "other"))))))) (a1 (cS "Done."))))))))))))
def uv:=fnN 0 0 uu
def uw:FS:=(nz (lZ (aCons (lN mE (aCons (cS "open") (aCons (cL (lZ (a1 (lY 9 (λds=>nZ (ds++[])) (a1 (lY 7 (λds=>nH (ds++[])) (aCons (cS "it") (a1 (cS "box"))))))))) (a1 (cS "It has no lid."))))) (aCons (lN mE (aCons (cS "open") (aCons (cL (lZ (a1 (lY 6 (λds=>nr (ds++[])) (aCons (cS "it") (a1 (cC (.int 1)))))))) (a1 (cS "It is open."))))) (aCons (lN pU (aCons (cS "open") (aCons (cL (lZ ml)) (aCons (cL (lZ (a1 (lY 12 (λds=>pI (ds++[])) (aCons (cS "it") (a1 (cC (.int 1)))))))) (a1 (cS "Opened.")))))) (aCons (lN mE (aCons (cS "shut") (aCons (cL (lZ (a1 (lY 9 (λds=>nZ (ds++[])) (a1 (lY 7 (λds=>nH (ds++[])) (aCons (cS "it") (a1 (cS "box"))))))))) (a1 (cS "It has no lid."))))) (aCons (lN mE (aCons (cS "shut") (aCons (cL (lZ (a1 (lY 6 (λds=>nr (ds++[])) (aCons (cS "it") (a1 (cC (.int 0)))))))) (a1 (cS "It is shut."))))) (a1 (lN pU (aCons (cS "shut") (aCons (cL (lZ ml)) (aCons (cL (lZ (a1 (lY 12 (λds=>pI (ds++[])) (aCons (cS "it") (a1 (cC (.int 0)))))))) (a1 (cS "Shut."))))))))))))))
def ux:=fnN 0 0 uw
def rQ:FS:=(nz (lZ (aCons (lN mE (aCons (cS "light") (aCons (cL (lZ (a1 (lY 9 (λds=>nZ (ds++[])) (a1 (lY 7 (λds=>nH (ds++[])) (aCons (cS "it") (a1 (cS "lamp"))))))))) (a1 (cS "It burns not."))))) (aCons (lN mE (aCons (cS "light") (aCons (cL (lZ (a1 (lY 6 (λds=>nr (ds++[])) (aCons (cS "it") (a1 (cC (.int 1)))))))) (a1 (cS "It is lit."))))) (aCons (lN pU (aCons (cS "light") (aCons (cL (lZ ml)) (aCons (cL (lZ (a1 (lY 12 (λds=>pI (ds++[])) (aCons (cS "it") (a1 (cC (.int 1)))))))) (a1 (cS "Lit.")))))) (aCons (lN mE (aCons (cS "douse") (aCons (cL (lZ (a1 (lY 9 (λds=>nZ (ds++[])) (a1 (lY 7 (λds=>nH (ds++[])) (aCons (cS "it") (a1 (cS "lamp"))))))))) (a1 (cS "It burns not."))))) (aCons (lN mE (aCons (cS "douse") (aCons (cL (lZ (a1 (lY 6 (λds=>nr (ds++[])) (aCons (cS "it") (a1 (cC (.int 0)))))))) (a1 (cS "It is out."))))) (a1 (lN pU (aCons (cS "douse") (aCons (cL (lZ ml)) (aCons (cL (lZ (a1 (lY 12 (λds=>pI (ds++[])) (aCons (cS "it") (a1 (cC (.int 0)))))))) (a1 (cS "Doused."))))))))))))))
def rR:=fnN 0 0 rQ
def vW:FS:=(lJ (mF 2 (cL (lX 1 [0] (iL (cV 1)) (gN 0) mI (lN pU (aCons (cS "go") (aCons r6 (aCons (cL (lZ (a1 (lY 11 (λds=>oR (ds++[])) (aCons (cV 1) (a1 (c2 dIx (cV 0) (cC (.int 2))))))))) (a1 (cS "You go.")))))))))
 (nz (mL (cV 2) (cL (lZ (a1 (lN mE (aCons (cS "go") (aCons (cL (lZ ml)) (a1 (cS "No way there.")))))))))))
def vX:=fnN 2 3 vW
def sY:FS:=(nz (lZ (a1 (lN pU (aCons (cS "wait") (aCons (cL (lZ ml)) (aCons (cL (lZ ml)) (a1 (cS "Time goes by.")))))))))
def sZ:=fnN 0 0 sY
def rj:FS:=(nz (mL (cL (mL (cL (mL (cL (mL (cL (mL (cL (mR sX (a1 (cV 0)))) (cL (mR uv ml)))) (cL (mR ux ml)))) (cL (mR rR ml)))) (cL (mR vX (aCons (cV 0) (a1 (cV 1))))))) (cL (mR sZ ml))))
def pM:=fnN 2 2 rj
def rl:FS:=(nz (mL (cL (lX 1 [] (iT (mC (aCons (cS "take") (aCons (cS "drop") (aCons (cS "open") (aCons (cS "shut") (aCons (cS "light") (a1 (cS "douse"))))))))) (gN 0) mI (lY 2 (λds=>nG (ds++[D.non,(D.str "one"),D.non])) (a1 (cV 0))))) (cL (lZ (aCons (lY 2 (λds=>nG (ds++[])) (aCons (cS "put") (aCons (mC ml) (aCons (cS "two") (a1 (cS "in")))))) (aCons (lY 2 (λds=>nG (ds++[D.non])) (aCons (cS "go") (aCons (mC ml) (a1 (cS "way"))))) (a1 (lY 2 (λds=>nG (ds++[D.non])) (aCons (cS "wait") (aCons (mC ml) (a1 (cS "alone"))))))))))))
def ot:=fnN 0 0 rl
def tN:FS:=(lJ (wO 1)
 (lJ (qT (iL (cV 0)) (gN 2) (oI 1 (c1 (l8 l5 "name") (cV 2)) (cV 2)))
 (mK (cFz 1))))
def tP:=fnD 1 3 tN
def oX:FS:=(lJ (wO 2)
 (lJ (qT (iL (cV 0)) (gN 3) (sIf (cT (n9 mZ "has_mark" (cV 3) ml)) (oI 2 (c1 (l8 l5 "name") (cV 3)) (cC (.int 1))) nv))
 (lJ (qT (iL (cV 1)) (gN 4) (oI 2 (c1 (l8 l5 "name") (cV 4)) (c1 (l8 pF "most") (cV 4))))
 (mK (cFz 2)))))
def oY:=fnD 2 5 oX
def qJ:FS:=(lJ (wO 1)
 (lJ (qT (iL (cV 0)) (gN 2) (qT (iT (yR (mC (a1 (c1 (l8 l5 "name") (cV 2)))) (c1 (l8 se "others") (cV 2)))) (gN 3) (oI 1 (cV 3) (cV 2))))
 (mK (cFz 1))))
def oZ:=fnD 1 4 qJ
def xf:FS:=(zR (l8 y6 "verb"))
def tQ:=fnD 1 3 xf
def qK:FS:=(nz (lX 1 [1] (iL (c1 (l8 qF "kept_things") (cV 0))) (gN 0) (cT (c2 (dEq false) (c1 (l8 mx "kind") (cV 0)) (cV 1))) (c1 (l8 l5 "name") (cV 0))))
def o3:=fnD 2 2 qK
def pV:Nat->Option (List D->Option D):=λc=>match c with
 |14=>some o3
 |_=>none
def pR:FS:=(nz (mL (c1 (l8 q9 "kept_verbs") (cV 0)) (c1 (l8 qa "shared_verbs") (cV 0))))
def tf:=fnD 1 1 pR
def o4:Nat->Option (List D->Option D):=λc=>match c with
 |14=>some tf
 |_=>none
def m7:FS:=(lJ (sXp l4 (aCons (cV 1) (aCons (cV 2) (aCons (cV 3) (aCons (cV 4) (aCons (cV 5) (a1 (cL (mR ot ml)))))))))
 (lJ (sNb (mn 14 0 "kept_things" (cL (rH (cV 1)))))
 (lJ (sNb (mn 14 0 "kept_marks" (cL (rH (cV 2)))))
 (lJ (sNb (mn 14 0 "kept_dark" (cL (rH (cV 3)))))
 (lJ (sNb (mn 14 0 "kept_ways" (cL (rH (cV 4)))))
 (lJ (sNb (mn 14 0 "kept_verbs" (cL (rH (cV 5)))))
 (lJ (sNb (mn 14 0 "shared_verbs" (cL (mR ot ml))))
 (lJ (sNb (mn 14 0 "your_name" (rJ 15 (c2 dIx (n9 pV "of_kind" (cV 0) (a1 (cS "you"))) (cC (.int 0))))))
 (lJ (sNb (mn 14 0 "things_by_name" (lN tP (a1 (cV 1)))))
 (lJ (sNb (mn 14 0 "mosts_by_name" (lN oY (aCons (cV 1) (a1 (cV 2))))))
 (lJ (sNb (mn 14 0 "verbs_by_word" (rJ 15 (lN oZ (a1 (n9 o4 "all_verbs" (cV 0) ml))))))
 (lJ (sNb (mF 7 (rJ 15 (oV (lN ni (aCons (cV 6) (a1 (cC sO)))) (c1 oe (cL (lX 1 [0] (iL (cV 6)) (gN 0) mI r6)))))))
 (lJ (sXp lE (aCons (cV 7) (a1 (cS "rules are a list of at most 20 rules, each as it may be"))))
 (lJ (sNb (mn 14 0 "kept_rules" (cL (rH (cV 6)))))
 (lJ (sNb (mn 14 0 "shared_rules" (rJ 15 (cL (mR pM (aCons (c1 (l8 rK "your_name") (cV 0)) (a1 (cV 4))))))))
 (lJ (sNb (mn 14 0 "copied_rules" (cL (lX 1 [] (iL (cV 6)) (gN 0) mI r6))))
 (sNb (mn 14 0 "rules_by_verb" (rJ 15 (lN tQ (a1 (cL (mL (c1 (l8 p8 "copied_rules") (cV 0)) (c1 (l8 p9 "shared_rules") (cV 0)))))))))))))))))))))))))
def m8:=fnXI 14 6 8 m7
def rm:FS:=(lJ (sIf (cT (c2 Fi (cV 1) (c1 nE (cV 0)))) (mK (c2 dIx (cV 0) (cV 1))) nv)
 (mK (cC (.int 0))))
def mO:=fnD 2 2 rm
def o9:FS:=(lJ (sIf (vw (cT (c2 (dEq false) (c1 nE (cV 0)) (cC (.int 1))))) (lJ (mF 2 (qr (c2 dIx (cV 0) (cC (.int 0)))))
 (lJ (pT 0 0 (c2 pC (cV 2) (c1 Io (c2 HU (cV 2) (c2 CY (cC (.int 10)) (cC (.int 18)))))))
 (n8 (Fb 0 (lZ (aCons (c2 nQ (cV 2) (cC (.int 2147483647))) (a1 (cC (.int 0))))))))) nv)
 (lJ (sIf (vw (cT (c2 CZ (c2 dIx (cV 0) (cC (.int 0))) (cC (.int 0))))) (lJ (mF 3 (qr (c2 nQ (c2 dIx (cV 0) (cC (.int 0))) (cV 1))))
 (lJ (pT 0 0 (qr (c2 qD (c2 dIx (cV 0) (cC (.int 0))) (cV 1))))
 (mK (cV 3)))) nv)
 (lJ (pT 0 2 (qr (c2 oa (c2 dIx (cV 0) (cC (.int 2))) (cC (.int 1)))))
 (lJ (mF 4 (qr (c2 nQ (c2 pC (c2 oa (c2 oa (c2 dIx (cV 0) (cC (.int 1))) (c2 pC (cC (.int 7919)) (c2 dIx (cV 0) (cC (.int 2))))) (cC (.int 1))) (cC (.int 48271))) (cC (.int 2147483647)))))
 (lJ (mF 4 (c2 nQ (c2 pC (cV 4) (c2 oa (c2 qD (cV 4) (cC (.int 1009))) (cC (.int 69621)))) (cC (.int 2147483647))))
 (mK (c2 nQ (c2 nQ (c2 pC (cV 4) (c2 oa (c2 qD (cV 4) (cC (.int 2003))) (cC (.int 40692)))) (cC (.int 2147483399))) (cV 1))))))))
def mm:=fnM 1 5 o9
def pW:FS:=(lJ (mF 1 (cL (rF (cL (lZ (aCons (cS "hall") (aCons (cS "x") (aCons (cS "cellar") (a1 (cS "loft"))))))) oNo (oAt (c2 oa (cC (.int 1)) (qM mm 0 (a1 (cC (.int 4)))))))))
 (lJ (pB 2 (lX 1 [] (iL (cV 1)) (gN 0) mI (lY 0 (λds=>lM (ds++[D.non])) (aCons (cV 0) (aCons (mC (aCons (cV 0) (a1 (cS "place")))) (a1 (cS "room")))))))
 (lJ (n8 (rZ 2 (lY 0 (λds=>lM (ds++[])) (aCons (cS "me") (aCons (mC (aCons (cS "me") (a1 (cS "self")))) (aCons (cS "you") (a1 (c2 dIx (cV 1) (qM mm 0 (a1 (c1 nE (cV 1))))))))))))
 (lJ (pB 3 (mL (cV 1) (cL (lZ (a1 (cS "me"))))))
 (lJ (pB 4 (lZ (aCons (mC (aCons (cS "chest") (a1 (mC (aCons (cS "old") (a1 (cS "chest"))))))) (aCons (mC (aCons (cS "lamp") (a1 (mC (aCons (cS "lamp") (a1 (cS "red"))))))) (aCons (mC (aCons (cS "stone") (a1 (mC (aCons (cS "red") (a1 (cS "stone"))))))) (a1 (mC (aCons (cS "key") (a1 (mC (a1 (cS "key"))))))))))))
 (lJ (n8 (rZ 4 (mC (aCons (cS "itch") (a1 (mC (aCons (cS "old") (aCons (cS "red") (a1 (cS "rag"))))))))))
 (lJ (mF 5 (qM mm 0 (a1 (cC (.int 5)))))
 (lJ (qT (iR1 (qM mm 0 (a1 (cC (.int 5))))) (gN 6) (lJ (Bt (vm 4 (c2 nQ (c2 oa (cV 6) (cV 5)) (cC (.int 5)))) (gT (rX (gN 7) (rX (gN 8) As)) 2))
 (lJ (mF 9 (c2 dIx (cL (lZ (aCons (cS "plain") (aCons (cS "box") (aCons (cS "lamp") (aCons (cS "box") (aCons (cS "fixed") (a1 (cS "plain"))))))))) (qM mm 0 (a1 (cC (.int 6))))))
 (lJ (n8 (rZ 2 (lY 0 (λds=>lM (ds++[])) (aCons (cV 7) (aCons (cV 8) (aCons (cV 9) (a1 (vm 3 (qM mm 0 (a1 (qr (c1 nE (cV 3)))))))))))))
 (sIf (cT (c2 (dEq false) (cV 9) (cS "box"))) (n8 (rZ 3 (cV 7))) nv)))))
 (nz (CT 2))))))))))
def nU:=fnM 0 10 pW
def tm:FS:=(lJ (mF 0 (cL (lZ (aCons (cS "it") (aCons (cS "other") (aCons (cS "here") (aCons (cS "the") (aCons (cS "a") (aCons (cS "undo") (aCons (cS "restart") (aCons (cS "") (aCons (cS "Key") (aCons (cS "ninesigns") (aCons (cS "b2") (aCons (cS "a b") (aCons (cC D.non) (aCons (cC (.int 5)) (a1 (mC (a1 (cS "n")))))))))))))))))))))
 (nz (lX 1 [] (iL (cL (mL (cV 0) (cL (lZ (aCons (cS "hall") (aCons (cS "me") (a1 (cS "gate"))))))))) (gN 0) mI (cL (lZ (a1 (lY 0 (λds=>lM (ds++[])) (aCons (cV 0) (aCons (mC (aCons (cS "odd") (a1 (cS "one")))) (aCons (cS "plain") (a1 (cS "hall"))))))))))))
def pb:=fnD 0 1 tm
def tp:FS:=(lJ (mF 0 (cL (lZ (aCons (cS "door") (aCons (cS "") (aCons (cC D.non) (aCons (cS "Room") (aCons (cS "Box") (aCons (cC (.int 3)) (aCons (cS "lamps") (aCons (cL (lZ (a1 (cS "box")))) (a1 (cS "it")))))))))))))
 (nz (lX 1 [] (iL (cV 0)) (gN 0) mI (cL (lZ (a1 (lY 0 (λds=>lM (ds++[])) (aCons (cS "odd") (aCons (mC (aCons (cS "odd") (a1 (cS "one")))) (aCons (cV 0) (a1 (cS "hall"))))))))))))
def pd:=fnD 0 1 tp
def rS:FS:=(lJ (mF 0 (lY 0 (λds=>lM (ds++[])) (aCons (cS "pebble") (aCons (mC (a1 (cS "pebble"))) (aCons (cS "plain") (a1 (cS "hall")))))))
 (lJ (mF 1 (cL (lX 1 [] (iL (cL (lZ (aCons (cS "plain") (aCons (cS "fixed") (aCons (cS "box") (a1 (cS "lamp")))))))) (gN 0) mI (cL (lZ (a1 (lY 0 (λds=>lM (ds++[])) (aCons (cS "odd") (aCons (mC (aCons (cS "odd") (a1 (cS "one")))) (aCons (cV 0) (a1 (cS "nobody"))))))))))))
 (lJ (mF 1 (cL (mL (cV 1) (cL (lX 1 [0] (iL (cL (lZ (aCons (cS "plain") (aCons (cS "box") (a1 (cS "lamp"))))))) (gN 0) mI (cL (lZ (aCons (cV 1) (a1 (lY 0 (λds=>lM (ds++[])) (aCons (cS "odd") (aCons (mC (aCons (cS "odd") (a1 (cS "one")))) (aCons (cV 0) (a1 (cS "pebble")))))))))))))))
 (lJ (mF 1 (cL (mL (cV 1) (cL (lX 1 [] (iL (cL (lZ (aCons (cC D.non) (aCons (cC (.int 3)) (aCons (cS "gate") (aCons (cS "here") (aCons (cS "it") (a1 (cS "odd")))))))))) (gN 0) mI (cL (lZ (a1 (lY 0 (λds=>lM (ds++[])) (aCons (cS "odd") (aCons (mC (a1 (cS "odd"))) (aCons (cS "plain") (a1 (cV 0))))))))))))))
 (lJ (mF 1 (cL (mL (cV 1) (cL (lZ (aCons (cL (lZ (a1 (lY 0 (λds=>lM (ds++[])) (aCons (cS "odd") (aCons (mC (a1 (cS "odd"))) (aCons (cS "room") (a1 (cS "hall"))))))))) (a1 (cL (lZ (a1 (lY 0 (λds=>lM (ds++[])) (aCons (cS "odd") (aCons (mC (a1 (cS "odd"))) (aCons (cS "room") (a1 (cS "me"))))))))))))))))
 (lJ (mF 2 (lY 0 (λds=>lM (ds++[])) (aCons (cS "candle") (aCons (mC (a1 (cS "candle"))) (aCons (cS "lamp") (a1 (cS "me")))))))
 (nz (mL (cV 1) (cL (lZ (a1 (cL (lZ (aCons (cV 2) (a1 (lY 0 (λds=>lM (ds++[])) (aCons (cS "odd") (aCons (mC (aCons (cS "odd") (a1 (cS "one")))) (aCons (cS "plain") (a1 (cS "candle")))))))))))))))))))))
def oM:=fnD 0 3 rS
def tq:FS:=(lJ (pB 0 (lZ (a1 (cL (lZ (a1 (lY 0 (λds=>lM (ds++[])) (aCons (cS "odd") (aCons (mC (a1 (cS "odd"))) (aCons (cS "box") (a1 (cS "odd"))))))))))))
 (lJ (n8 (rZ 0 (cL (lZ (aCons (lY 0 (λds=>lM (ds++[])) (aCons (cS "odd") (aCons (mC (a1 (cS "odd"))) (aCons (cS "box") (a1 (cS "even")))))) (a1 (lY 0 (λds=>lM (ds++[])) (aCons (cS "even") (aCons (mC (a1 (cS "even"))) (aCons (cS "box") (a1 (cS "odd"))))))))))))
 (lJ (mF 1 (cL (lZ (aCons (lY 0 (λds=>lM (ds++[])) (aCons (cS "odd") (aCons (mC (a1 (cS "odd"))) (aCons (cS "box") (a1 (cS "even")))))) (a1 (lY 0 (λds=>lM (ds++[])) (aCons (cS "even") (aCons (mC (a1 (cS "even"))) (aCons (cS "box") (a1 (cS "third")))))))))))
 (lJ (n8 (rZ 0 (cL (mL (cV 1) (cL (lZ (a1 (lY 0 (λds=>lM (ds++[])) (aCons (cS "third") (aCons (mC (a1 (cS "third"))) (aCons (cS "box") (a1 (cS "odd")))))))))))))
 (lJ (mF 2 (lY 0 (λds=>lM (ds++[])) (aCons (cS "case") (aCons (mC (a1 (cS "case"))) (aCons (cS "box") (a1 (cS "hall")))))))
 (lJ (n8 (rZ 0 (cL (lZ (aCons (cV 2) (a1 (lY 0 (λds=>lM (ds++[])) (aCons (cS "self") (aCons (mC (a1 (cS "own"))) (aCons (cS "you") (a1 (cS "case"))))))))))))
 (nz (mL (cFz 0) (cL (lZ (aCons (cL (lZ (a1 (lY 0 (λds=>lM (ds++[])) (aCons (cS "self") (aCons (mC (a1 (cS "own"))) (aCons (cS "you") (a1 (cS "hall"))))))))) (a1 (cL (lZ (a1 (lY 0 (λds=>lM (ds++[])) (aCons (cS "self") (aCons (mC (a1 (cS "own"))) (aCons (cS "you") (a1 (cS "self")))))))))))))))))))))
def pe:=fnD 0 3 tq
def tu:FS:=(lJ (mF 0 (cL (lZ (aCons (mC ml) (aCons (mC (a1 (cS "a"))) (aCons (mC (aCons (cS "the") (a1 (cS "odd")))) (aCons (mC (aCons (cS "odd") (a1 (cS "odd")))) (aCons (cL (lZ (a1 (cS "odd")))) (aCons (cS "odd") (aCons (cC D.non) (aCons (mC (a1 (cS "Odd"))) (aCons (mC (a1 (cS "thirteensigns"))) (a1 (mC (a1 (cS "b2"))))))))))))))))
 (lJ (mF 0 (cL (mL (cV 0) (cL (lZ (aCons (mC (aCons (cS "o") (aCons (cS "d") (aCons (cS "e") (aCons (cS "v") (a1 (cS "n"))))))) (aCons (mC (a1 (cS ""))) (aCons (mC (a1 (cC D.non))) (aCons (mC (a1 (cS "odd one"))) (a1 (cC (.int 7))))))))))))
 (lJ (pB 1 (lX 1 [] (iL (cV 0)) (gN 0) mI (cL (lZ (a1 (lY 0 (λds=>lM (ds++[])) (aCons (cS "odd") (aCons (cV 0) (aCons (cS "plain") (a1 (cS "hall")))))))))))
 (lJ (pB 1 (mL (cFz 1) (cL (lX 1 [] (iL (cL (cSl (cV 0) none (some 6)))) (gN 0) mI (cL (lZ (a1 (lY 0 (λds=>lM (ds++[D.non])) (aCons (cS "odd") (aCons (cV 0) (a1 (cS "room"))))))))))))
 (lJ (qT (iL (cL (lZ (aCons (mC (aCons (cS "big") (a1 (cS "nail")))) (aCons (mC (aCons (cS "nail") (a1 (cS "big")))) (aCons (mC (a1 (cS "nail"))) (aCons (mC (aCons (cS "nail") (aCons (cS "big") (a1 (cS "iron"))))) (a1 (mC (aCons (cS "iron") (aCons (cS "nail") (aCons (cS "big") (a1 (cS "old")))))))))))))) (gN 2) (n8 (rZ 1 (cL (lZ (aCons (lY 0 (λds=>lM (ds++[])) (aCons (cS "nail") (aCons (mC (aCons (cS "big") (a1 (cS "nail")))) (aCons (cS "plain") (a1 (cS "hall")))))) (a1 (lY 0 (λds=>lM (ds++[])) (aCons (cS "odd") (aCons (cV 2) (aCons (cS "fixed") (a1 (cS "hall")))))))))))))
 (nz (CT 1)))))))
def pf:=fnD 0 3 tu
def ou:FS:=(lJ (sTry m8 (aCons (cV 0) (aCons (cV 1) (aCons (cL (lZ ml)) (aCons (cL (lZ ml)) (aCons (cL (lZ ml)) (a1 (cL (lZ ml)))))))) (mK (cC (.bl true))))
 (mK (cC (.bl false))))
def mi:=fnD 2 2 ou
def AN:FS:=(lJ (mF 1 (cMutT nU ml (lZ (a1 (lN mO (aCons (cV 0) (a1 (cC (.int 0)))))))))
 (lJ (mF 2 (lY 1 (λds=>uj (ds++[])) (aCons (cS "gate") (aCons (cC (.int 1)) (a1 (cC (.int 2)))))))
 (lJ (sIf (cT (lN mi (aCons (cV 1) (a1 (cL (lZ (a1 (cV 2)))))))) (mK (cC (.bl false))) nv)
 (lJ (mF 3 (cL (mL (cL (mL (cL (mL (cL (mL (lN pb ml) (lN pd ml))) (lN oM ml))) (lN pe ml))) (lN pf ml))))
 (lJ (qT (iR2 (cC (.int 1)) (c2 dMax2 (cC (.int 2)) (c2 dMin2 (cC (.int 40)) (c1 nE (cV 0))))) (gN 4) (lJ (mF 5 (lN mO (aCons (cV 0) (a1 (cV 4)))))
 (lJ (mF 6 (c2 dIx (cV 3) (c2 nQ (c2 oa (cV 5) (c2 pC (cC (.int 7)) (cV 4))) (c1 nE (cV 3)))))
 (lJ (mF 7 (c2 nQ (c2 qD (cV 5) (c1 nE (cV 3))) (c2 oa (c1 nE (cV 1)) (cC (.int 1)))))
 (sIf (p6 (cT (lN mi (aCons (cL (mL (cL (mL (cL (rF (cV 1) oNo (oAt (cV 7)))) (cV 6))) (cL (rF (cV 1) (oAt (cV 7)) oNo)))) (a1 (cL (lZ (a1 (cV 2))))))))) (mK (cC (.bl false))) nv)))))
 (mK (ve (lN mi (aCons (cV 1) (a1 (cL (lZ (a1 (cV 2))))))))))))))
def GA:=fnD 1 8 AN
variable{b:Int}
theorem vY{q r n:Int}{s2:Sl}(h0:0<b)(h1:b<1073741824):∃d es' ρ,(lJ (sIf (vw (cT (c2 CZ (c2 dIx (cV 0) (cC (.int 0))) (cC (.int 0))))) (lJ (mF 3 (qr (c2 nQ (c2 dIx (cV 0) (cC (.int 0))) (cV 1))))
 (lJ (pT 0 0 (qr (c2 qD (c2 dIx (cV 0) (cC (.int 0))) (cV 1))))
 (mK (cV 3)))) nv)
 (lJ (pT 0 2 (qr (c2 oa (c2 dIx (cV 0) (cC (.int 2))) (cC (.int 1)))))
 (lJ (mF 4 (qr (c2 nQ (c2 pC (c2 oa (c2 oa (c2 dIx (cV 0) (cC (.int 1))) (c2 pC (cC (.int 7919)) (c2 dIx (cV 0) (cC (.int 2))))) (cC (.int 1))) (cC (.int 48271))) (cC (.int 2147483647)))))
 (lJ (mF 4 (c2 nQ (c2 pC (cV 4) (c2 oa (c2 qD (cV 4) (cC (.int 1009))) (cC (.int 69621)))) (cC (.int 2147483647))))
 (mK (c2 nQ (c2 nQ (c2 pC (cV 4) (c2 oa (c2 qD (cV 4) (cC (.int 2003))) (cC (.int 40692)))) (cC (.int 2147483399))) (cV 1)))))))
  [.pm [.int q,.int r,.int n],.im (.int b),s2,.un,.un]=some (.rt (.int d) ρ)/\sF ρ=some es'/\0<=d/\d<b/\uE es':=by
 have hc:vw (cT (c2 CZ (c2 dIx (cV 0) (cC (.int 0))) (cC (.int 0)))) [.pm [.int q,.int r,.int n],.im (.int b),s2,.un,.un]=some (decide (0<q),[.pm [.int q,.int r,.int n],.im (.int b),s2,.un,.un]):=rfl;by_cases hq:0<q
 ·rw[bj hq]at hc;refine⟨q % b,[.int (q / b),.int r,.int n],[.pm [.int (q / b),.int r,.int n],.im (.int b),s2,.im (.int (q % b)),.un],?_,rfl,dg _ (by omega),c9 _ h0,.inr ⟨_,_,_,rfl⟩⟩;rw[pj (d:=.int (q % b)) (ρ':=[.pm [.int (q / b),.int r,.int n],.im (.int b),s2,.im (.int (q % b)),.un])];rw[qt hc,lF (m6 (xS (mj rfl rfl (pO h0)) rfl)),lF (yN (k:=0) (xS (mj rfl rfl (div_pos h0 h1)) rfl) rfl rfl)];rfl
 ·rw[aX hq]at hc;rw[lF (show _=some (Out.nx [.pm [.int q,.int r,.int n],.im (.int b),s2,.un,.un]) from by rw[o7 hc];rfl)];rw[lF (show _=some (Out.nx [.pm [.int q,.int r,.int (n+1)],.im (.int b),s2,.un,.un]) from rfl)];have h7:pS 7919=true:=by decide
  have h4:pS 48271=true:=by decide
  rw[lF (m6 (xS (d:=.int ((r+7919 * (n+1)+1) * 48271 % 2147483647)) (mj (mj (mj (mj rfl (mj rfl rfl (pq (.inl h7))) rfl) rfl rfl) rfl (pq (.inr h4))) rfl (pO (by decide))) rfl))];generalize hg:(r+7919 * (n+1)+1) * 48271 % 2147483647=g;have g0:0<=g/\g<2147483647:=by rw[<-hg];exact⟨dg _ (by decide),c9 _ (by decide)⟩
  rw[lF (m6 (d:=.int (g * (g / 1009+69621) % 2147483647)) (mj (mj rfl (mj (mj rfl rfl (div_pos (by decide) (by decide))) rfl rfl) (pq (.inl (yO g0.1 g0.2)))) rfl (pO (by decide))))];generalize hh:g * (g / 1009+69621) % 2147483647=m;have m0:0<=m/\m<2147483647:=by rw[<-hh];exact⟨dg _ (by decide),c9 _ (by decide)⟩
  rw[oG (d:=.int (m * (m / 2003+40692) % 2147483399 % b)) (mj (mj (mj rfl (mj (mj rfl rfl (div_pos (by decide) (by decide))) rfl rfl) (pq (.inl (yO m0.1 m0.2)))) rfl (pO (by decide))) rfl (pO h0))];exact⟨_,[.int q,.int r,.int (n+1)],_,rfl,rfl,dg _ (by omega),c9 _ h0,.inr ⟨_,_,_,rfl⟩⟩
variable{es:List L4.D}
theorem y7(h:uE es)(h0:0<b)(h1:b<1073741824):∃d es',mm es [.int b]=some (.int d,es')/\0<=d/\d<b/\uE es':=by
 rcases h with ⟨c,rfl⟩|⟨q,r,n,rfl⟩
 ·obtain⟨d,es',ρ,e,p,q1,q2,q3⟩:=vY (q:=c * (if decide ((10:Int) ^ (18:Int).toNat<=c)=true then 1 else 0)) (r:=c % 2147483647) (n:=0) (s2:=.im (.int c)) h0 h1;refine⟨d,es',Ds rfl ?_ p,q1,q2,q3⟩;unfold o9;rw[lF (ρ':=[.pm [.int (c * (if decide ((10:Int) ^ (18:Int).toNat<=c)=true then 1 else 0)),.int (c % 2147483647),.int 0],.im (.int b),.im (.int c),.un,.un])]
  ·exact e
  ·show sIf _ _ _ [.pm [.int c],.im (.int b),.un,.un,.un]=_;rw[qt (ρ':=[.pm [.int c],.im (.int b),.un,.un,.un]) rfl,lF (show _=some (Out.nx [.pm [.int c],.im (.int b),.im (.int c),.un,.un]) from rfl)];rw[lF (yN (k:=0) (ds:=[.int c]) (mj rfl rfl (pq (.inr (by split<;>decide)))) rfl rfl)];rfl
 ·obtain⟨d,es',ρ,e,p,q1,q2,q3⟩:=vY (q:=q) (r:=r) (n:=n) (s2:=.un) h0 h1;refine⟨d,es',Ds rfl ?_ p,q1,q2,q3⟩;unfold o9;rw[lF (ρ':=[.pm [.int q,.int r,.int n],.im (.int b),.un,.un,.un])]
  ·exact e
  ·show sIf _ _ _ [.pm [.int q,.int r,.int n],.im (.int b),.un,.un,.un]=_;rw[o7 (ρ':=[.pm [.int q,.int r,.int n],.im (.int b),.un,.un,.un]) rfl];rfl
variable{a:FE}
theorem dgx{i:Nat}(st:List L4.D->List Sl)(hp:∀es,mT (st es) i=some es)(hq:∀es es',putAt (st es) i es'=st es')(ha:a (st es)=some (.int b,st es))(hs:uE es)(h0:0<b)(h1:b<1073741824):∃d es',qM mm i (a1 a) (st es)=some (.int d,st es')/\0<=d/\d<b/\uE es':=by obtain⟨d,es',e,q1,q2,q3⟩:=y7 hs h0 h1;exact⟨d,es',by rw[<-hq es es'];exact Dr (hp es) (lL ha rfl) (hp es) e,q1,q2,q3⟩
variable{e:FE}
theorem pk{L:List L4.D}{i:Nat}(st:List L4.D->List Sl)(hp:∀es,mT (st es) i=some es)(hq:∀es es',putAt (st es) i es'=st es')(he:e (st es)=some (.lst L,st es))(ha:a (st es)=some (.int L.length,st es))(hs:uE es)(h0:L≠[])(h1:L.length<=1000):∃d∈L,∃es',c2 dIx e (qM mm i (a1 a)) (st es)=some (d,st es')/\uE es':=by
 have hp0:0<L.length:=iA.mpr h0;obtain⟨d,es',e1,q1,q2,q3⟩:=dgx st hp hq ha hs (by omega) (by omega);obtain⟨m,rfl⟩:=cw q1;have hm:m<L.length:=by omega
 exact⟨L[m],cU hm,es',mj he e1 (rp (aR hm)),q3⟩
variable{q:List L4.D->Option Bool}
section
variable{k:Nat}{cap:List Nat}{g:FG}{ft:FT}{fe e:FE}{s a:FA}{ρ ρ1 ρ2:List Sl}{α:Type}{f f2:FS}{np n:Nat}{ds:List L4.D}
theorem nL{m:L4.D}(h:e ρ=some (.bl true,ρ1)):sXp lE (aCons e (aCons (cC m) ml)) ρ=some (.nx ρ1):=by unfold sXp;rw[lL h (lL rfl rfl)];rfl
theorem uy{m:L4.D}(h:e ρ=some (.bl false,ρ1)):sXp lE (aCons e (aCons (cC m) ml)) ρ=some (.bk ρ1):=by unfold sXp;rw[lL h (lL rfl rfl)];rfl
theorem rT(h:f ρ=some (.bk ρ1)):lJ f f2 ρ=some (.bk ρ1):=by unfold lJ;rw[h]
theorem qL(h:f ρ=some (.nx ρ1)):sNb f ρ=some (.nx ρ1):=by unfold sNb;rw[h]
theorem BX(h:ds.length=np)(e:f (stE n ds)=some (.nx ρ)):fnX np n f ds=some true:=by unfold fnX;rw[ag h,e]
theorem uG(h:ds.length=np)(e:f (stE n ds)=some (.bk ρ)):fnX np n f ds=some false:=by unfold fnX;rw[ag h,e]
theorem qz(h:a ρ=some (ds,ρ1))(e:q ds=some true):sXp q a ρ=some (.nx ρ1):=by unfold sXp;rw[h];simp only[e]
theorem DU(h:a ρ=some (ds,ρ1))(e:q ds=some false):sXp q a ρ=some (.bk ρ1):=by unfold sXp;rw[h];simp only[e]
theorem xg(dd h:α->L4.D)(l:List α)(hs:s ρ=some (l.map dd,ρ1))(hl:l.length<=1000)(st:∀a∈l,∃ρ2 ρ3,g (dd a) (uD k cap ρ1)=some ρ2/\fe ρ2=some (h a,ρ3)/\ox cap (ρ3.drop k) ρ1=some ρ1):
  lX k cap s g mI fe ρ=some (l.map h,ρ1):=(AC hs (by rw[aj];exact hl)).trans (FR dd h l st)
theorem sm(dd h:α->L4.D)(p:α->Bool)(l:List α)(hs:s ρ=some (l.map dd,ρ1))(hl:l.length<=1000)
  (st:∀a∈l,∃ρ2 ρ3,g (dd a) (uD k cap ρ1)=some ρ2/\ft ρ2=some (p a,ρ3)/\(p a=true->∃ρ4,fe ρ3=some (h a,ρ4)/\ox cap (ρ4.drop k) ρ1=some ρ1)/\(p a=false->ox cap (ρ3.drop k) ρ1=some ρ1)):
  lX k cap s g ft fe ρ=some ((l.filter p).map h,ρ1):=(AC hs (by rw[aj];exact hl)).trans (vI dd p h l st)
theorem oN(dd:α->L4.D)(p:α->Bool)(l:List α)(hs:s ρ=some (l.map dd,ρ1))(hl:l.length<=1000)(st:∀a∈l,∃ρ2 ρ3,g (dd a) (uD k cap ρ1)=some ρ2/\fe ρ2=some (.bl (p a),ρ3)/\ox cap (ρ3.drop k) ρ1=some ρ1):
  c1 oe (cL (lX k cap s g mI fe)) ρ=some (.bl (l.all p),ρ1):=mD (oH (xg dd (λa=>.bl (p a)) l hs hl st)) (FW l p)
theorem AO(dd:α->L4.D)(p:α->Bool)(l:List α)(hs:s ρ=some (l.map dd,ρ1))(hl:l.length<=1000)(st:∀a∈l,∃ρ2 ρ3,g (dd a) (uD k cap ρ1)=some ρ2/\fe ρ2=some (.bl (p a),ρ3)/\ox cap (ρ3.drop k) ρ1=some ρ1):
  c1 vA (cL (lX k cap s g mI fe)) ρ=some (.bl (l.any p),ρ1):=mD (oH (xg dd (λa=>.bl (p a)) l hs hl st)) (FX l p)
end
theorem tR{α:Type}{l:List α}{p:α->Bool}{a:α}(h:a∈l)(e:p a=false):l.all p=false:=by rw[dQ];intro z;rw[az.mp z a h]at e;cases e
theorem m9{α:Type}{l:List α}{p:α->Bool}(h:∀a∈l,p a=true):l.all p=true:=az.mpr h
def isT:Option L4.D->Bool
 |some (.bl b)=>b
 |_=>false
def isB:Option L4.D->Bool
 |some (.bl _)=>true
 |_=>false
variable{o:Option L4.D}
theorem xZ(h:isB o=true):o=some (.bl (isT o)):=by
 unfold isB at h;split at h
 ·rfl
 ·cases h
theorem x6(h:isT o=true):o=some (.bl true):=by
 unfold isT at h;split at h
 ·rw[h]
 ·cases h
inductive Kd where
 |room|you|plain|fixed|box|lamp
deriving DecidableEq
def Kd.s:Kd->Str
 |.room=>"room" |.you=>"you" |.plain=>"plain" |.fixed=>"fixed" |.box=>"box" |.lamp=>"lamp"
def Kd.pl:Kd->Bool
 |.room=>false|.you=>false|_=>true
def Kd.hd:Kd->Bool
 |.room=>true|.you=>true|.box=>true|_=>false
def Kd.mk:Kd->Bool
 |.box=>true|.lamp=>true|_=>false
structure Tk where
 n:L4.D
 w:L4.D
 k:Kd
 s:L4.D
def tkD(t:Tk):L4.D:=.obj 0 ["name", "words", "kind", "start"] [t.n,t.w,.str t.k.s,t.s]
abbrev LD(T:List Tk):L4.D:=.lst (T.map tkD)
theorem xh(a b:Kd):dEq false (.str a.s) (.str b.s)=some (.bl (decide (a=b))):=by cases a<;>cases b<;>kernel_rfl
theorem tS(t:Tk):l8 mx "kind" (tkD t)=some (.str t.k.s):=rfl
theorem pX(t:Tk):l8 l5 "name" (tkD t)=some t.n:=rfl
theorem uS(t:Tk):l8 mS "words" (tkD t)=some t.w:=rfl
theorem uT(t:Tk):l8 nP "start" (tkD t)=some t.s:=rfl
theorem F4(t:Tk):qc [tkD t]=some (.bl t.k.hd):=by obtain⟨n,w,k,s⟩:=t;cases k<;>kernel_rfl
theorem AQ(t:Tk):qe [tkD t]=some (.bl t.k.mk):=by obtain⟨n,w,k,s⟩:=t;cases k<;>kernel_rfl
theorem DV(t:Tk):pK [tkD t]=some (.bl t.k.pl):=by obtain⟨n,w,k,s⟩:=t;cases k<;>kernel_rfl
theorem x8(k:Kd):mq [.str k.s,oq]=some (.bl true):=by cases k<;>kernel_rfl
def cK(k:Kd)(T:List Tk):Nat:=(T.filter λt=>decide (t.k=k)).length
def plN(T:List Tk):List Tk:=T.filter λt=>t.k.pl
theorem count_eq(T:List Tk)(hl:T.length<=1000)(k:Kd):n4 [LD T,.str k.s]=some (.int (cK k T)):=by refine nW (ρ:=[.im (LD T),.im (.str k.s)]) rfl ?_;refine oG (mD (oH (sm tkD tkD (λt=>decide (t.k=k)) T (ρ1:=[.im (LD T),.im (.str k.s)]) rfl hl λt _=>⟨[.im (tkD t),.im (.str k.s)],[.im (tkD t),.im (.str k.s)],rfl,tM (mj (mD rfl (tS t)) rfl (xh t.k k)),λ_=>⟨_,rfl,rfl⟩,λ_=>rfl⟩)) ?_);show some (D.int _)=_;rw[aj];rfl
theorem pY(T:List Tk)(hl:T.length<=1000):mU [LD T]=some ((plN T).map tkD):=by refine Dt (ρ:=[.im (LD T)]) rfl ?_;exact uK (sm tkD tkD (λt=>t.k.pl) T (ρ1:=[.im (LD T)]) rfl hl λt _=>⟨[.im (tkD t)],[.im (tkD t)],rfl,tM (sJ (xs:=[t.n,t.w,.str t.k.s,t.s]) (ys:=[]) rfl rfl rfl rfl (DV t)),λ_=>⟨_,rfl,rfl⟩,λ_=>rfl⟩)
variable{ρ:List Sl}{x y:Int}
theorem DW{b c:FE}{z:Int}(h1:a ρ=some (.int x,ρ))(h2:b ρ=some (.int y,ρ))(h3:c ρ=some (.int z,ρ))(hx:x<=y)(hy:y<=z):nV pD pD a b c ρ=some (.bl true,ρ):=by
 unfold nV;rw[h1];simp only[h2];have e1:pD (.int x) (.int y)=some (.bl true):=by show some (D.bl (decide (x<=y)))=_;rw[bj hx]
 have e2:pD (.int y) (.int z)=some (.bl true):=by show some (D.bl (decide (y<=z)))=_;rw[bj hy]
 simp only[e1,h3,e2]
theorem LO{b:FE}(h1:a ρ=some (.int x,ρ))(h2:b ρ=some (.int y,ρ))(hx:x<=y):c2 pD a b ρ=some (.bl true,ρ):=mj h1 h2 (by
 show some (D.bl (decide (x<=y)))=_;rw[bj hx])
theorem F5{α:Type}(dd:α->L4.D)(p:α->Bool)(T:List α)(hl:T.length<=1000)(hi:∀t∈T,oA uR (dd t)=some (.bl true))(hk:∀t∈T,∃d,l8 mx "kind" (dd t)=some d/\mq [d,oq]=some (.bl (p t)))(h:T.all p=false):mr [.lst (T.map dd)]=some false:=by let ρ:List Sl:=[.im (.lst (T.map dd)),.im (.bl true)];refine uG (ρ:=ρ) rfl ?_;unfold pL;rw[lF (qL (show _=some (Out.nx ρ) from(m6 ((vL rfl).trans ((oN dd (λ_=>true) T (ρ1:=[.im (.lst (T.map dd)),.un]) rfl hl λt ht=>⟨_,_,rfl,mD rfl (hi t ht),rfl⟩).trans (by rw[m9 λ_ _=>rfl])))).trans rfl))];rw[lF (nL (ρ1:=ρ) rfl)];refine rT (uy (ρ1:=ρ) ((oN dd p T rfl hl λt ht=>?_).trans (by rw[h])));obtain⟨d,e1,e2⟩:=hk t ht;exact⟨[.im (dd t)],[.im (dd t)],rfl,l6 (lL (mD rfl e1) (lL rfl rfl)) e2,rfl⟩
section
variable{T:List Tk}(hl:T.length<=1000)(h1:1<=cK .room T)(h5:cK .room T<=5)
include hl h1 h5
theorem AR{r:FS}:∃ρ:List Sl,ρ=[.im (LD T),.im (.bl true)]/\(∀o,r ρ=some o->(lJ (sNb (mF 1 (oV (c1 (oA (nF "list")) (cV 0)) (c1 oe (cL (lX 1 [] (iL (cV 0)) (gN 0) mI (c1 (oA uR) (cV 0))))))))
 (lJ (sXp lE (aCons (cV 1) (a1 (cS "things are a list of things"))))
 (lJ (sXp lE (aCons (c1 oe (cL (lX 1 [] (iL (cV 0)) (gN 0) mI (lN mq (aCons (c1 (l8 mx "kind") (cV 0)) (a1 (cC oq))))))) (a1 (cS "a thing is of no kind"))))
 (lJ (sXp lE (aCons (nV pD pD (cC (.int 1)) (lN n4 (aCons (cV 0) (a1 (cS "room")))) (cC qx)) (a1 (cS "a world has 1 to 5 rooms")))) r)))) [.im (LD T),.un]=some o):=by
 refine⟨_,rfl,λo h=>?_⟩;let ρ:List Sl:=[.im (LD T),.im (.bl true)];rw[lF (qL (show _=some (Out.nx ρ) from(m6 ((vL rfl).trans ((oN tkD (λ_=>true) T (ρ1:=[.im (LD T),.un]) rfl hl λt ht=>⟨_,_,rfl,rfl,rfl⟩).trans (by rw[m9 λ_ _=>rfl])))).trans rfl))];rw[lF (nL (ρ1:=ρ) rfl)];rw[lF (nL (ρ1:=ρ) ((oN tkD (λ_=>true) T rfl hl λt _=>⟨[.im (tkD t)],[.im (tkD t)],rfl,l6 (lL (mD rfl (tS t)) (lL rfl rfl)) (x8 t.k),rfl⟩).trans (by rw[m9 λ_ _=>rfl])))];rw[lF (nL (ρ1:=ρ) (DW (x:=1) (y:=cK .room T) (z:=5) rfl (l6 (ds:=[LD T,.str Kd.room.s]) rfl (count_eq T hl .room)) rfl (by omega) (by omega)))];exact h
theorem Kc(hy:cK .you T≠1):mr [LD T]=some false:=by
 let ρ:List Sl:=[.im (LD T),.im (.bl true)];obtain⟨_,rfl,h⟩:=AR hl h1 h5 (r:=(lJ (sXp lE (aCons (c2 (dEq false) (lN n4 (aCons (cV 0) (a1 (cS "you")))) (cC (.int 1))) (a1 (cS "a world has just one you"))))
 (sXp lE (aCons (c2 pD (c1 nE (cL (mR mU (a1 (cV 0))))) (cC oK)) (a1 (cS "a world has at most 7 things beside rooms and you"))))))
 refine uG (ρ:=ρ) rfl (h _ (rT (uy (ρ1:=ρ) (mj (ρ1:=ρ) (x:=.int (cK .you T)) (y:=.int 1) (l6 (ds:=[LD T,.str Kd.you.s]) rfl (count_eq T hl .you)) rfl ?_))));rw[xX];simp;omega
theorem LP(hy:cK .you T=1)(h7:(plN T).length<=7):mr [LD T]=some true:=by
 let ρ:List Sl:=[.im (LD T),.im (.bl true)];obtain⟨_,rfl,h⟩:=AR hl h1 h5 (r:=(lJ (sXp lE (aCons (c2 (dEq false) (lN n4 (aCons (cV 0) (a1 (cS "you")))) (cC (.int 1))) (a1 (cS "a world has just one you"))))
 (sXp lE (aCons (c2 pD (c1 nE (cL (mR mU (a1 (cV 0))))) (cC oK)) (a1 (cS "a world has at most 7 things beside rooms and you"))))))
 refine BX (ρ:=ρ) rfl (h _ ?_);rw[lF (nL (ρ1:=ρ) (mj (ρ1:=ρ) (x:=.int (cK .you T)) (y:=.int 1) (l6 (ds:=[LD T,.str Kd.you.s]) rfl (count_eq T hl .you)) rfl (by rw[hy];rfl)))];refine nL (ρ1:=ρ) (LO (x:=(plN T).length) (y:=7) (mD (oH (l6 rfl (pY T hl))) ?_) rfl (by omega));show some (D.int _)=_;rw[aj]
end
theorem y8{α:Type}{p q:α->Bool}:∀{l:List α},(∀a∈l,p a=q a)->l.all p=l.all q
 |[],_=>rfl
 |a::l,h=>by rw[cm,cm,h a aO,y8 λb hb=>h b (aU _ hb)]
def kS(x:Str):Key:=Sum.inr x
theorem Ke{a b:Str}(h:kS a=kS b):a=b:=gr h
theorem zU:∀(ks acc:List Key),acc.Nodup->(ks.foldl ddp acc).Nodup/\(ks.foldl ddp acc).length<=acc.length+ks.length/\((ks.foldl ddp acc).length=acc.length+ks.length->(acc++ks).Nodup)
 |[],acc,h=>⟨h,aE _,λ_=>by rw[bw];exact h⟩
 |k::ks,acc,h=>by
  rw[fY,aG];by_cases hn:acc.any (λz=>decide (z=k))=true
  ·rw[show ddp acc k=acc from ag hn];obtain⟨h1,h2,h3⟩:=zU ks acc h;exact⟨h1,by omega,λz=>by omega⟩
  ·rw[show ddp acc k=acc++[k] from ah hn];have hk:k∉acc:=λz=>hn (bD.mpr ⟨k,z,bj rfl⟩);have h':(acc++[k]).Nodup:=bh.mpr ⟨h,by simp,λa ha b hb e=>by rw[aW]at hb;subst hb e;exact hk ha⟩;obtain⟨h1,h2,h3⟩:=zU ks (acc++[k]) h';rw[aC,bN]at h2 h3;exact⟨h1,by omega,λz=>by have:=h3 (by omega);rw[bO]at this;exact this⟩
theorem xi:∀l:List Str,qE (l.map D.str)=some (l.map kS)
 |[]=>rfl
 |x::l=>by show (match uF (.str x),qE (l.map D.str)with|some k,some ks=>some (k::ks)|_,_=>none)=_;rw[xi l];rfl
variable{l:List Str}
theorem LQ(h:(l.map kS).Nodup):l.Nodup:=(iW.mp h).imp λhne z=>hne (aQ kS z)
theorem BY(h:¬l.Nodup)(hl:l.length<=1000):∃m:Nat,m<l.length/\nM (l.map D.str)=some (.int m):=by
 obtain⟨h1,h2,h3⟩:=zU (l.map kS) [] f6;rw[aj,dX,jz]at h2 h3;refine⟨(pE (l.map kS)).length,?_,?_⟩
 ·rcases Nat.lt_or_eq_of_le h2 with z|z
  ·exact z
  ·exact aq (LQ (h3 z)) h
 ·unfold nM;rw[xi];simp only;rw[ag (by rw[aj];exact hl)]
theorem vZ(hl:l.length<=1000):mV [.lst (l.map D.str)]=some (.bl (decide l.Nodup)):=by
 refine nW (ρ:=[.im (.lst (l.map D.str))]) rfl ?_;have el:c1 nE (cV 0) [.im (.lst (l.map D.str))]=some (.int l.length,[.im (.lst (l.map D.str))]):=mD rfl (by show some (D.int _)=_;rw[aj]);by_cases h:l.Nodup
 ·refine oG (mj (x:=.int l.length) (y:=.int l.length) (mD rfl (AJ (yZ h hl))) el ?_);rw[xX];simp[h]
 ·obtain⟨m,h1,h2⟩:=BY h hl;refine oG (mj (x:=.int m) (y:=.int l.length) (mD rfl (AJ h2)) el ?_);rw[xX];simp[h];omega
structure Mk where
 n:Str
 st:Int
 mo:Int
def mkD(m:Mk):L4.D:=.obj 1 ["name", "start", "most"] [.str m.n,.int m.st,.int m.mo]
abbrev MD(M:List Mk):L4.D:=.lst (M.map mkD)
theorem AS(m:Mk):l8 l5 "name" (mkD m)=some (.str m.n):=rfl
section
variable{T:List Tk}{M:List Mk}(hT:T.length<=400)(hM:M.length<=400)(hm:∀m∈M,lV [.str m.n]=some (.bl true))
include hT hM hm
theorem DX(p:Tk->Bool)(hp:∀t∈T,lV [t.n]=some (.bl (p t))):(T.all p=false->mG [LD T,MD M]=some false)/\(T.all p=true->∀l:List Str,T.map Tk.n=l.map D.str->mG [LD T,MD M]=some (decide (l++M.map Mk.n).Nodup)):=by
 let ρ0:List Sl:=[.im (LD T),.im (MD M),.un];let ds:List L4.D:=T.map Tk.n++M.map λm=>.str m.n;let ρ:List Sl:=[.im (LD T),.im (MD M),.im (.lst ds)];have e1:lX 1 [] (iL (cV 0)) (gN 0) mI (c1 (l8 l5 "name") (cV 0)) ρ0=some (T.map Tk.n,ρ0):=xg tkD Tk.n T rfl (by omega) λt _=>⟨_,_,rfl,mD rfl (pX t),rfl⟩;have e2:lX 1 [] (iL (cV 1)) (gN 0) mI (c1 (l8 l5 "name") (cV 0)) ρ0=some (M.map λm=>D.str m.n,ρ0):=xg mkD (λm=>D.str m.n) M rfl (by omega) λt _=>⟨_,_,rfl,mD rfl (AS t),rfl⟩;have e3:=m6 (i:=2) (oH (qu (oH e1) (oH e2) (by rw[aj,aj];omega)));have hds:ds.length<=1000:=by show (T.map Tk.n++M.map λm=>D.str m.n).length<=1000;rw[aC,aj,aj];omega
 have tot:∀d∈ds,lV [d]=some (.bl (isT (lV [d]))):=λd hd=>by
  rcases bg.mp hd with h|h
  ·obtain⟨t,ht,rfl⟩:=aN.mp h;rw[hp t ht];rfl
  ·obtain⟨m,h',rfl⟩:=aN.mp h;rw[hm m h'];rfl
 have ea:c1 oe (cL (lX 1 [] (iL (cV 2)) (gN 0) mI (lN lV (a1 (cV 0))))) ρ=some (.bl (ds.all λd=>isT (lV [d])),ρ):=
  oN id (λd=>isT (lV [d])) ds (by rw[gB];rfl) hds λd hd=>⟨[.im d],[.im d],rfl,l6 rfl (tot d hd),rfl⟩
 have es:(ds.all λd=>isT (lV [d]))=T.all p:=by show ((T.map Tk.n++M.map λm=>D.str m.n).all λd=>isT (lV [d]))=_;rw[List.all_append,fi,fi,m9 (l:=M) (λm h=>by show isT (lV [.str m.n])=true;rw[hm m h];rfl),Bool.and_true];exact y8 λt ht=>by show isT (lV [t.n])=p t;rw[hp t ht];rfl
 rw[es]at ea;constructor
 ·intro h;rw[h]at ea;refine uG (ρ:=ρ) rfl ?_;unfold nT;refine(lF (ρ':=ρ) (qL e3)).trans ?_;exact rT (uy ea)
 ·intro h l el;rw[h]at ea;have ed:ds=(l++M.map Mk.n).map D.str:=by show T.map Tk.n++(M.map λm=>D.str m.n)=_;rw[el,bE,bz];rfl
  have eu:lN mV (a1 (cV 2)) ρ=some (.bl (decide (l++M.map Mk.n).Nodup),ρ):=by refine l6 (ds:=[.lst ds]) rfl ?_;rw[ed]at hds ⊢;rw[aj]at hds;exact vZ hds
  cases hn:decide (l++M.map Mk.n).Nodup with
  |true=>rw[hn]at eu;refine BX (ρ:=ρ) rfl ?_;unfold nT;refine(lF (ρ':=ρ) (qL e3)).trans ?_;rw[lF (nL ea)];exact nL eu
  |false=>rw[hn]at eu;refine uG (ρ:=ρ) rfl ?_;unfold nT;refine(lF (ρ':=ρ) (qL e3)).trans ?_;rw[lF (nL ea)];exact uy eu
end
def nS:L4.D->Str
 |.str x=>x
 |_=>""
def Tk.m(t:Tk):Str:=nS t.n
def isIn(d:L4.D)(l:List Str):Bool:=match d with
 |.str x=>decide (x∈l)
 |_=>false
def sOk:L4.D->Bool
 |.str _=>true
 |.non=>true
 |.int _=>true
 |_=>false
def y9:L4.D->Bool
 |.non=>true
 |_=>false
variable{d:L4.D}
theorem DY(h:sOk d=true)(l:List Str):mq [d,.lst (l.map D.str)]=some (.bl (isIn d l)):=by
 cases d with
 |str x=>refine nW (ρ:=[.im (.str x),.im (.lst (l.map D.str))]) rfl ?_;refine oG ((vL rfl).trans (mj rfl rfl ?_));rw[vJ];rfl
 |non=>rfl
 |int i=>rfl
 |_=>cases h
def rmN(T:List Tk):List Str:=(T.filter λt=>decide (t.k=.room)).map Tk.m
def hdN(T:List Tk):List Str:=(T.filter λt=>t.k.hd).map Tk.m
def stB(T:List Tk)(t:Tk):Bool:=match t.k with
 |.room=>y9 t.s
 |.you=>isIn t.s (rmN T)
 |_=>isIn t.s (hdN T)
variable{T:List Tk}
theorem AU(p:Tk->Bool)(hn:∀t∈T,t.n=.str t.m):(T.filter p).map Tk.n=((T.filter p).map Tk.m).map D.str:=by rw[bz];exact iB λt ht=>hn t (bf.mp ht).1
variable{t:Tk}
section
variable{T:List Tk}(hl:T.length<=900)(hn:∀t∈T,t.n=.str t.m)
include hl hn
theorem za{i:Nat}(hi:cV i ρ=some (LD T,ρ)):lX 1 [] (iL (cV i)) (gN 0) (cT (c2 (dEq false) (c1 (l8 mx "kind") (cV 0)) (cC (.str "room")))) (c1 (l8 l5 "name") (cV 0)) ρ=some ((rmN T).map D.str,ρ):=by
 have hs:iL (cV i) ρ=some (T.map tkD,ρ):=by unfold iL;rw[hi]
 refine(sm (k:=1) (cap:=[]) (g:=gN 0) (ft:=cT (c2 (dEq false) (c1 (l8 mx "kind") (cV 0)) (cC (.str "room")))) (fe:=c1 (l8 l5 "name") (cV 0)) tkD Tk.n (λt=>decide (t.k=.room)) T hs (by omega) λt _=>
  ⟨[.im (tkD t)],[.im (tkD t)],rfl,tM (mj (mD rfl (tS t)) rfl (xh t.k .room)),λ_=>⟨_,mD rfl (pX t),rfl⟩,λ_=>rfl⟩).trans ?_
 rw[AU _ hn];rfl
theorem zV{i:Nat}(hi:cV i ρ=some (LD T,ρ)):lX 1 [] (iL (cV i)) (gN 0) (cT (n9 nI "can_hold" (cV 0) ml)) (c1 (l8 l5 "name") (cV 0)) ρ=some ((hdN T).map D.str,ρ):=by
 have hs:iL (cV i) ρ=some (T.map tkD,ρ):=by unfold iL;rw[hi]
 refine(sm (k:=1) (cap:=[]) (g:=gN 0) (ft:=cT (n9 nI "can_hold" (cV 0) ml)) (fe:=c1 (l8 l5 "name") (cV 0)) tkD Tk.n (λt=>t.k.hd) T hs (by omega) λt _=>
  ⟨[.im (tkD t)],[.im (tkD t)],rfl,tM (sJ (xs:=[t.n,t.w,.str t.k.s,t.s]) (ys:=[]) rfl rfl rfl rfl (F4 t)),λ_=>⟨_,mD rfl (pX t),rfl⟩,λ_=>rfl⟩).trans ?_
 rw[AU _ hn];rfl
theorem uz(hs:sOk t.s=true):sk [LD T,tkD t]=some (.bl (stB T t)):=by
 let ρ:List Sl:=[.im (LD T),.im (tkD t)];refine nW (ρ:=ρ) rfl ?_;unfold sj;have k1:cT (c2 (dEq false) (c1 (l8 mx "kind") (cV 1)) (cC (.str "room"))) ρ=some (decide (t.k=.room),ρ):=tM (mj (ρ1:=ρ) (ρ2:=ρ) (mD rfl (tS t)) rfl (xh t.k .room));have k2:cT (c2 (dEq false) (c1 (l8 mx "kind") (cV 1)) (cC (.str "you"))) ρ=some (decide (t.k=.you),ρ):=tM (mj (ρ1:=ρ) (ρ2:=ρ) (mD rfl (tS t)) rfl (xh t.k .you));by_cases h1:t.k=.room
 ·rw[bj h1]at k1;refine pj ((qt k1).trans (oG (mj (ρ1:=ρ) (x:=t.s) (y:=.non) (mD rfl (uT t)) rfl ?_)));unfold stB;rw[h1];generalize t.s=d at hs ⊢;cases d with
  |str x=>rfl
  |non=>rfl
  |int i=>rfl
  |_=>cases hs
 ·rw[aX h1]at k1;refine(lF (ρ':=ρ) ((o7 k1).trans rfl)).trans ?_;by_cases h2:t.k=.you
  ·rw[bj h2]at k2;refine pj ((qt k2).trans (oG ((l6 (lL (mD rfl (uT t)) (lL (oH (za hl hn rfl)) rfl)) (DY hs (rmN T))).trans ?_)));unfold stB;rw[h2]
  ·rw[aX h2]at k2;refine(lF (ρ':=ρ) ((o7 k2).trans rfl)).trans ?_;refine oG ((l6 (lL (mD rfl (uT t)) (lL (oH (zV hl hn rfl)) rfl)) (DY hs (hdN T))).trans ?_);unfold stB;generalize t.k=k at h1 h2 ⊢;cases k with
   |room=>exact aq rfl h1
   |you=>exact aq rfl h2
   |_=>rfl
end
def nK(T:List Tk):List Key:=T.map λt=>kS t.m
def stD(T:List Tk):L4.D:=.dic (nK T) (T.map Tk.s)
theorem AV(h:(T.map Tk.m).Nodup):(nK T).Nodup:=by have:=wV h;rw[bz]at this;exact this
theorem AW(h:(T.map Tk.m).Nodup)(ht:t∈T):vy (nK T) (T.map Tk.s) (kS t.m)=some t.s:=by refine y3 (AV h) ?_;unfold nK;rw[List.zip_map'];exact aM (f:=λt=>(kS t.m,t.s)) ht
variable{ds:List L4.D}
theorem v3{i:Nat}{fk fv:FE}{ks:List Key}{x:Str}(h1:fv ρ=some (d,ρ))(h2:ρ[i]?=some (.dk ks ds))(h3:fk ρ=some (.str x,ρ))(hn:kS x∉ks)(hl:ks.length<1000)(he:ds.length=ks.length):
  oI i fk fv ρ=some (.nx (ρ.set i (.dk (ks++[kS x]) (ds++[d])))):=by
 have hk:vz ks (kS x)=false:=by unfold vz;rw[dQ];intro z;obtain⟨y,hy,ey⟩:=bD.mp z;exact hn (by rw[<-bM ey];exact hy)
 unfold oI;rw[h1];simp only[h2,h3];rw[show uF (.str x)=some (kS x) from rfl];simp only;rw[ag hl,ag he,hk];rfl
section
variable{α:Type}{g:FG}{i:Nat}{fk fv:FE}
theorem tT(dd:α->L4.D)(kf:α->Str)(vf:α->L4.D)(st:List Key->List L4.D->Sl->List Sl)(A:List α)
  (hs:∀a∈A,∀(ks:List Key) (ds:List L4.D) (s:Sl),∃ρ1,g (dd a) (st ks ds s)=some ρ1/\fv ρ1=some (vf a,ρ1)/\ρ1[i]?=some (.dk ks ds)/\fk ρ1=some (.str (kf a),ρ1)/\∀ks' ds',∃s',ρ1.set i (.dk ks' ds')=st ks' ds' s'):
  ∀(l:List α) (ks:List Key) (ds:List L4.D) (s:Sl),(∀a∈l,a∈A)->(ks++l.map λa=>kS (kf a)).Nodup->ks.length+l.length<=1000->ds.length=ks.length->
   ∃s',forL g (oI i fk fv) (l.map dd) (st ks ds s)=some (.nx (st (ks++l.map λa=>kS (kf a)) (ds++l.map vf) s'))
 |[],ks,ds,s,_,_,_,_=>⟨s,by rw[dq,dq,dq,bw,bw];rfl⟩
 |a::l,ks,ds,s,hA,nd,hl,he=>by
  obtain⟨ρ1,h1,h2,h3,h4,h5⟩:=hs a (hA a aO) ks ds s;obtain⟨s1,h6⟩:=h5 (ks++[kS (kf a)]) (ds++[vf a]);rw[aG]at hl;have nd':((ks++[kS (kf a)])++l.map λa=>kS (kf a)).Nodup:=by rw[bO];exact nd
  have hn:kS (kf a)∉ks:=λz=>by rw[bh]at nd;exact nd.2.2 _ z _ (by rw[aK];exact aO) rfl
  obtain⟨s',h7⟩:=tT dd kf vf st A hs l (ks++[kS (kf a)]) (ds++[vf a]) s1 (λb hb=>hA b (aU _ hb)) nd' (by rw[aC,bN];omega) (by rw[aC,aC,he,bN,bN]);refine⟨s',?_⟩;rw[aK];unfold forL;rw[h1];simp only[v3 h2 h3 h4 hn (by omega) he,h6];rw[h7,aK,aK,bO,bO];rfl
end
def cB:FS:=lJ (sIf (cT (c2 yK (cV 2) (cC D.non))) (mK (cC (.bl true))) nv) (mF 2 (c2 ub (cV 0) (cV 2)))
section
variable{T:List Tk}(hl:T.length<=900)(nd:(T.map Tk.m).Nodup)
include hl nd
theorem tU(ht:t∈T):(∀ρ,forL (gN 3) cB (rE 0 T.length) [.im (stD T),.im (.str t.m),.im t.s,.un]=some (.rt (.bl true) ρ)->my [stD T,.str t.m]=some (.bl true))/\
  (∀(d:L4.D) (b:Bool) (s:Sl),yK d .non=some (.bl b)->forL (gN 3) cB (rE 0 T.length) [.im (stD T),.im (.str t.m),.im t.s,.un]=some (.nx [.im (stD T),.im (.str t.m),.im d,s])->my [stD T,.str t.m]=some (.bl b)):=by
 have e0:mF 2 (c2 ub (cV 0) (cV 1)) [.im (stD T),.im (.str t.m),.un,.un]=some (.nx [.im (stD T),.im (.str t.m),.im t.s,.un]):=(m6 (mj rfl rfl (AW nd ht))).trans rfl;have e1:iR1 (c1 nE (cV 0)) [.im (stD T),.im (.str t.m),.im t.s,.un]=some (rE 0 T.length,[.im (stD T),.im (.str t.m),.im t.s,.un]):=by unfold iR1;rw[show c1 nE (cV 0) [.im (stD T),.im (.str t.m),.im t.s,.un]=some (.int T.length,[.im (stD T),.im (.str t.m),.im t.s,.un]) from mD rfl (by show some (D.int _)=_;unfold nK;rw[aj])];simp only;rw[ag (by omega),eQ]
 constructor
 ·intro ρ q;refine nW (ρ:=ρ) rfl ?_;exact(lF e0).trans (pj ((qv e1).trans q))
 ·intro d b s hd q;refine nW (ρ:=[.im (stD T),.im (.str t.m),.im d,s]) rfl ?_;exact(lF e0).trans ((lF ((qv e1).trans q)).trans (oG (mj rfl rfl hd)))
theorem GB{a:Sl}{u:Tk}{s:Sl}(hu:u∈T):cB [.im (stD T),a,.im (.str u.m),s]=some (.nx [.im (stD T),a,.im u.s,s]):=
 (lF (ρ':=[.im (stD T),a,.im (.str u.m),s]) rfl).trans ((m6 (mj rfl rfl (AW nd hu))).trans rfl)
theorem DZ(inR:Tk->Prop)(h:∀u∈T,inR u->∃v∈T,inR v/\u.s=.str v.m)(ht:t∈T)(hr:inR t):my [stD T,.str t.m]=some (.bl false):=by
 have loop:∀(l:List L4.D) (u:Tk) (s:Sl),u∈T->inR u->∃v s',v∈T/\inR v/\forL (gN 3) cB l [.im (stD T),.im (.str t.m),.im (.str u.m),s]=some (.nx [.im (stD T),.im (.str t.m),.im (.str v.m),s']):=by
  intro l
  induction l with
  |nil=>exact λu s hu hr=>⟨u,s,hu,hr,rfl⟩
  |cons d l ih=>intro u s hu hr;obtain⟨v,hv,rv,e⟩:=h u hu hr;obtain⟨v',s',h1,h2,h3⟩:=ih v (.im d) hv rv;refine⟨v',s',h1,h2,?_⟩;unfold forL;rw[show gN 3 d [.im (stD T),.im (.str t.m),.im (.str u.m),s]=some [.im (stD T),.im (.str t.m),.im (.str u.m),.im d] from rfl];simp only[GB hl nd hu];rw[e];exact h3
 obtain⟨v,hv,rv,e⟩:=h t ht hr;obtain⟨v',s',_,_,q⟩:=loop (rE 0 T.length) v .un hv rv;refine(tU hl nd ht).2 (.str v'.m) false s' rfl ?_;rw[e];exact q
theorem zb(G:Tk->Prop)(r:Str->Nat)(h:∀u∈T,G u->r u.m<T.length/\(u.s=.non\/∃v∈T,G v/\u.s=.str v.m/\r v.m<r u.m))(ht:t∈T)(hg:G t):my [stD T,.str t.m]=some (.bl true):=by
 have loop:∀(m:Nat) (l:List L4.D),l.length=m->∀(u:Tk) (s:Sl),u∈T->G u->r u.m<=m->(∃ρ,forL (gN 3) cB l [.im (stD T),.im (.str t.m),.im u.s,s]=some (.rt (.bl true) ρ))\/(∃s',forL (gN 3) cB l [.im (stD T),.im (.str t.m),.im u.s,s]=some (.nx [.im (stD T),.im (.str t.m),.im .non,s'])):=by
  intro m
  induction m with
  |zero=>
   intro l hm u s hu hg hr;cases l with
   |cons d l=>cases hm
   |nil=>
    rcases(h u hu hg).2 with e|⟨v,hv,gv,e,lt⟩
    ·rw[e];exact .inr ⟨s,rfl⟩
    ·omega
  |succ m ih=>
   intro l hm u s hu hg hr;cases l with
   |nil=>cases hm
   |cons d l=>
    rcases(h u hu hg).2 with e|⟨v,hv,gv,e,lt⟩
    ·rw[e];refine .inl ⟨[.im (stD T),.im (.str t.m),.im .non,.im d],?_⟩;unfold forL;rw[show gN 3 d [.im (stD T),.im (.str t.m),.im .non,s]=some [.im (stD T),.im (.str t.m),.im .non,.im d] from rfl];rfl
    ·rw[e];unfold forL;rw[show gN 3 d [.im (stD T),.im (.str t.m),.im (.str v.m),s]=some [.im (stD T),.im (.str t.m),.im (.str v.m),.im d] from rfl];simp only[GB hl nd hv];exact ih l (by simpa using hm) v (.im d) hv gv (by omega)
 rcases loop T.length (rE 0 T.length) (by unfold rE;simp) t .un ht hg (by have:=(h t ht hg).1;omega)with ⟨ρ,q⟩|⟨s',q⟩
 ·exact(tU hl nd ht).1 ρ q
 ·exact(tU hl nd ht).2 .non true s' rfl q
end
section
variable{T:List Tk}(hl:T.length<=900)(hn:∀t∈T,t.n=.str t.m)(hs:∀t∈T,sOk t.s=true)
include hl hn hs
theorem Kg(h:T.all (stB T)=false):mM [LD T]=some false:=by refine uG (ρ:=[.im (LD T),.un,.un]) rfl ?_;unfold nJ;exact rT (uy (ρ1:=[.im (LD T),.un,.un]) ((oN tkD (stB T) T rfl (by omega) λt ht=>⟨[.im (tkD t),.im (LD T)],[.im (tkD t),.im (LD T)],rfl,l6 rfl (uz hl hn (hs t ht)),rfl⟩).trans (by rw[h];rfl)))
theorem D1(nd:(T.map Tk.m).Nodup)(h:T.all (stB T)=true)(c:Tk->Bool)(hc:∀t∈T,my [stD T,.str t.m]=some (.bl (c t))):mM [LD T]=some (T.all c):=by
 obtain⟨s',e1⟩:=tT (g:=gN 2) (i:=1) (fk:=c1 (l8 l5 "name") (cV 2)) (fv:=c1 (l8 nP "start") (cV 2)) tkD Tk.m Tk.s (λks ds s=>[.im (LD T),.dk ks ds,s]) T
  (λt ht ks ds s=>⟨[.im (LD T),.dk ks ds,.im (tkD t)],rfl,mD rfl (uT t),rfl,mD rfl ((pX t).trans (by rw[hn t ht])),λks' ds'=>⟨_,rfl⟩⟩) T [] [] .un (λ_ h=>h) (by rw[b8];exact AV nd) (by simp;omega) rfl
 have src:iD (cFz 1) [.im (LD T),.dk ([]++T.map λa=>kS a.m) ([]++T.map Tk.s),s']=some ((T.map λt=>D.str t.m),[.im (LD T),.im (stD T),s']):=by rw[b8,b8];unfold iD;rw[show cFz 1 [.im (LD T),.dk (T.map λa=>kS a.m) (T.map Tk.s),s']=some (stD T,[.im (LD T),.im (stD T),s']) from rfl];show (if (nK T).length=(T.map Tk.s).length then some ((nK T).map IJ,_)else none)=_;unfold nK;rw[ag (by rw[aj,aj]),bz];rfl
 have ec:c1 oe (cL (lX 1 [1] (iD (cFz 1)) (gN 0) mI (lN my (aCons (cV 1) (a1 (cV 0)))))) [.im (LD T),.dk ([]++T.map λa=>kS a.m) ([]++T.map Tk.s),s']=some (.bl (T.all c),[.im (LD T),.im (stD T),s']):=
  oN (λt:Tk=>D.str t.m) c T src (by omega) λt ht=>⟨[.im (.str t.m),.im (stD T)],[.im (.str t.m),.im (stD T)],rfl,l6 rfl (hc t ht),rfl⟩
 have hd:∀{o:Out},sXp lE (aCons (c1 oe (cL (lX 1 [1] (iD (cFz 1)) (gN 0) mI (lN my (aCons (cV 1) (a1 (cV 0))))))) (a1 (cS "a thing starts within itself"))) [.im (LD T),.dk ([]++T.map λa=>kS a.m) ([]++T.map Tk.s),s']=some o->nJ [.im (LD T),.un,.un]=some o:=λ{o} q=>by unfold nJ;refine(lF (nL (ρ1:=[.im (LD T),.un,.un]) ((oN tkD (stB T) T rfl (by omega) λt ht=>⟨[.im (tkD t),.im (LD T)],[.im (tkD t),.im (LD T)],rfl,l6 rfl (uz hl hn (hs t ht)),rfl⟩).trans (by rw[h])))).trans ?_;refine(lF (ρ':=[.im (LD T),.dk [] [],.un]) rfl).trans ?_;exact(lF (qL ((qv rfl).trans e1))).trans q
 cases hb:T.all c with
 |true=>rw[hb]at ec;exact BX rfl (hd (nL ec))
 |false=>rw[hb]at ec;exact uG rfl (hd (uy ec))
end
def taB(h:Tk->Tk->Bool)(P:List Tk)(t:Tk):Bool:=!(P.filter λu=>!decide (u.m=t.m)).any λu=>h u t
section
variable{T:List Tk}(hl:T.length<=900)
include hl
theorem F6{P:List Tk}(hP:P.length<=900)(hn:∀t∈P,t.n=.str t.m)(h:Tk->Tk->Bool)(ht:t∈P)(hh:∀u∈P,nu [u.w,t.w]=some (.bl (h u t))):nq [LD P,tkD t]=some (.bl (taB h P t)):=by
 let O:=P.filter λu=>!decide (u.m=t.m);let ρ:List Sl:=[.im (LD P),.im (tkD t),.im (LD O)];have hO:O.length<=900:=bF (eI _ _) hP;refine nW (ρ:=ρ) rfl ?_;unfold oW;refine(lF (ρ':=ρ) ((m6 (oH (sm tkD tkD (λu=>!decide (u.m=t.m)) P (ρ1:=[.im (LD P),.im (tkD t),.un]) rfl (by omega) λu hu=>⟨[.im (tkD u),.im (tkD t)],[.im (tkD u),.im (tkD t)],rfl,tM (mj (x:=.str u.m) (y:=.str t.m) (mD rfl ((pX u).trans (by rw[hn u hu]))) (mD rfl ((pX t).trans (by rw[hn t ht]))) (FU true u.m t.m)),λ_=>⟨_,rfl,rfl⟩,λ_=>rfl⟩))).trans rfl)).trans ?_;have e:c1 vA (cL (lX 1 [1] (iL (cV 2)) (gN 0) mI (lN nu (aCons (c1 (l8 mS "words") (cV 0)) (aCons (c1 (l8 mS "words") (cV 1)) ml))))) ρ=some (.bl (O.any λu=>h u t),ρ):=
  AO tkD (λu=>h u t) O rfl (by omega) λu hu=>⟨[.im (tkD u),.im (tkD t)],[.im (tkD u),.im (tkD t)],rfl,l6 (lL (mD rfl (uS u)) (lL (mD rfl (uS t)) rfl)) (hh u (bf.mp hu).1),rfl⟩
 refine oG ?_;unfold ve;rw[e];rfl
theorem D2(p:Tk->Bool)(hp:∀t∈T,l9 [t.w]=some (.bl (p t))):(T.all p=false->mf [LD T]=some false)/\
  (T.all p=true->(∀t∈T,t.n=.str t.m)->∀h:Tk->Tk->Bool,(∀t∈plN T,∀u∈plN T,nu [u.w,t.w]=some (.bl (h u t)))->mf [LD T]=some ((plN T).all (taB h (plN T)))):=by
 let ρ0:List Sl:=[.im (LD T),.un];have ea:c1 oe (cL (lX 1 [] (iL (cV 0)) (gN 0) mI (lN l9 (a1 (c1 (l8 mS "words") (cV 0)))))) ρ0=some (.bl (T.all p),ρ0):=oN tkD p T rfl (by omega) λt ht=>⟨[.im (tkD t)],[.im (tkD t)],rfl,l6 (lL (mD rfl (uS t)) rfl) (hp t ht),rfl⟩;constructor
 ·intro h;rw[h]at ea;refine uG (ρ:=ρ0) rfl ?_;unfold mB;exact rT (uy ea)
 ·intro h hn hh hq;rw[h]at ea;let P:=plN T;have hP:P.length<=900:=bF (eI _ _) hl;have hnP:∀t∈P,t.n=.str t.m:=λt ht=>hn t (bf.mp ht).1;let ρ:List Sl:=[.im (LD T),.im (LD P)];have eb:c1 oe (cL (lX 1 [1] (iL (cV 1)) (gN 0) mI (lN nq (aCons (cV 1) (a1 (cV 0)))))) ρ=some (.bl (P.all (taB hh P)),ρ):=oN tkD (taB hh P) P rfl (by omega) λt ht=>⟨[.im (tkD t),.im (LD P)],[.im (tkD t),.im (LD P)],rfl,l6 rfl (F6 hl hP hnP hh ht λu hu=>hq t ht u hu),rfl⟩;have hd:∀{o:Out},sXp lE (aCons (c1 oe (cL (lX 1 [1] (iL (cV 1)) (gN 0) mI (lN nq (aCons (cV 1) (a1 (cV 0))))))) (a1 (cS "one thing has all words of another"))) ρ=some o->mB ρ0=some o:=λ{o} q=>by unfold mB;refine(lF (nL ea)).trans ?_;exact(lF (ρ':=ρ) (qL ((m6 (oH (l6 rfl (pY T (by omega))))).trans rfl))).trans q
  cases hb:P.all (taB hh P)with
  |true=>rw[hb]at eb;exact BX rfl (hd (nL eb))
  |false=>rw[hb]at eb;exact uG rfl (hd (uy eb))
end
section
variable{d M:L4.D}{c:List L4.D}
abbrev pA(d M:L4.D)(c:List L4.D):List L4.D:=[d,M,.lst [],.lst [],.lst [],.lst c]
theorem xj(h:mr [d]=some false):l4 (pA d M c)=some false:=by refine uG (ρ:=stE 7 (pA d M c)) rfl ?_;unfold mX;exact rT (DU (ds:=[d]) rfl h)
theorem zc(h1:mr [d]=some true)(h2:nt [M]=some true)(h:mG [d,M]=some false):l4 (pA d M c)=some false:=by refine uG (ρ:=stE 7 (pA d M c)) rfl ?_;unfold mX;rw[lF (qz (ds:=[d]) (ρ1:=stE 7 (pA d M c)) rfl h1),lF (qz (ds:=[M]) (ρ1:=stE 7 (pA d M c)) rfl h2)];exact rT (DU (ds:=[d,M]) rfl h)
theorem xk(h1:mr [d]=some true)(h2:nt [M]=some true)(h3:mG [d,M]=some true)(h:mM [d]=some false):l4 (pA d M c)=some false:=by refine uG (ρ:=stE 7 (pA d M c)) rfl ?_;unfold mX;rw[lF (qz (ds:=[d]) (ρ1:=stE 7 (pA d M c)) rfl h1),lF (qz (ds:=[M]) (ρ1:=stE 7 (pA d M c)) rfl h2),lF (qz (ds:=[d,M]) (ρ1:=stE 7 (pA d M c)) rfl h3)];exact rT (DU (ds:=[d]) rfl h)
theorem zd(h1:mr [d]=some true)(h2:nt [M]=some true)(h3:mG [d,M]=some true)(h4:mM [d]=some true)(h:mf [d]=some false):l4 (pA d M c)=some false:=by refine uG (ρ:=stE 7 (pA d M c)) rfl ?_;unfold mX;rw[lF (qz (ds:=[d]) (ρ1:=stE 7 (pA d M c)) rfl h1),lF (qz (ds:=[M]) (ρ1:=stE 7 (pA d M c)) rfl h2),lF (qz (ds:=[d,M]) (ρ1:=stE 7 (pA d M c)) rfl h3),lF (qz (ds:=[d]) (ρ1:=stE 7 (pA d M c)) rfl h4)];exact rT (DU (ds:=[d]) rfl h)
end
def vb(n f:Str)(j:L4.D):L4.D:=.obj 2 ["name", "others", "form", "joining"] [.str n,.tup [],.str f,j]
def v9:List L4.D:=[vb "take" "one" .non,vb "drop" "one" .non,vb "open" "one" .non,vb "shut" "one" .non,vb "light" "one" .non,vb "douse" "one" .non,vb "put" "two" (.str "in"),vb "go" "way" .non,vb "wait" "alone" .non]
theorem GE:ot []=some v9:=by kernel_rfl
variable{M:L4.D}
theorem Ml(h:l4 (pA d M v9)=some false):m8 [d,M,.lst [],.lst [],.lst [],.lst []]=some none:=by
 unfold m8 fnXI;rw[ag (show [d,M,.lst [],.lst [],.lst [],.lst []].length=6 from rfl)];have e:m7 (stI 14 8 [d,M,.lst [],.lst [],.lst [],.lst []])=some (.bk (stI 14 8 [d,M,.lst [],.lst [],.lst [],.lst []])):=by unfold m7;exact rT (DU (ds:=pA d M v9) (lL rfl (lL rfl (lL rfl (lL rfl (lL rfl (lL (oH (l6 (ds:=[]) rfl GE)) rfl)))))) h)
 rw[e]
theorem refused(h:l4 (pA d M v9)=some false):mi [d,M]=some (.bl true):=by refine nW (ρ:=[.im d,.im M]) rfl ?_;unfold ou;refine pj ?_;unfold sTry;rw[lL (d:=d) (ρ1:=[.im d,.im M]) rfl (lL (d:=M) (ρ1:=[.im d,.im M]) rfl (lL (d:=.lst []) (ρ1:=[.im d,.im M]) rfl (lL (d:=.lst []) (ρ1:=[.im d,.im M]) rfl (lL (d:=.lst []) (ρ1:=[.im d,.im M]) rfl (lL (d:=.lst []) (ρ1:=[.im d,.im M]) rfl (ρ2:=[.im d,.im M]) (ds:=[]) rfl)))))];simp only[Ml h];rfl
theorem Kh{q:List Str×List L4.D}(h:m8 [d,M,.lst [],.lst [],.lst [],.lst []]=some (some q)):mi [d,M]=some (.bl false):=by refine nW (ρ:=[.im d,.im M]) rfl ?_;unfold ou;refine(lF (ρ':=[.im d,.im M]) ?_).trans rfl;unfold sTry;rw[lL (d:=d) (ρ1:=[.im d,.im M]) rfl (lL (d:=M) (ρ1:=[.im d,.im M]) rfl (lL (d:=.lst []) (ρ1:=[.im d,.im M]) rfl (lL (d:=.lst []) (ρ1:=[.im d,.im M]) rfl (lL (d:=.lst []) (ρ1:=[.im d,.im M]) rfl (lL (d:=.lst []) (ρ1:=[.im d,.im M]) rfl (ρ2:=[.im d,.im M]) (ds:=[]) rfl)))))];simp only[h]
structure Th where
 n:Str
 w:List Str
 k:Kd
 s:Option Str
def oS:Option Str->L4.D
 |none=>.non
 |some x=>.str x
def Th.tk(t:Th):Tk:=⟨.str t.n,.tup (t.w.map D.str),t.k,oS t.s⟩
def thD(t:Th):L4.D:=tkD t.tk
abbrev TD(T:List Th):L4.D:=.lst (T.map thD)
def Th.nw(t:Th):Str×List Str:=(t.n,t.w)
theorem LR(T:List Th):TD T=LD (T.map Th.tk):=by show D.lst _=D.lst _;rw[bz];rfl
def rmL:List Str:=["hall", "x", "cellar", "loft"]
def plL:List (Str×List Str):=[("chest", ["old", "chest"]),("lamp", ["lamp", "red"]),("stone", ["red", "stone"]),("key", ["key"]),("itch", ["old", "red", "rag"])]
def ze(l:List Th)(r:Th):Prop:=(r.k=.room/\r.s=none)\/(r.k=.you/\∃u∈l,r.s=some u.n/\u.k=.room)\/(r.k.pl=true/\∃u∈l,r.s=some u.n/\u.k.hd=true)
inductive Ord:List Th->Prop
 |nil:Ord []
 |snoc {l:List Th} {r:Th} (h:Ord l) (h':ze l r):Ord (l++[r])
theorem ze.mono{l l':List Th}{r:Th}(h:ze l r)(hs:∀u∈l,u∈l'):ze l' r:=by
 rcases h with h|⟨h1,u,h2,h3⟩|⟨h1,u,h2,h3⟩
 ·exact .inl h
 ·exact .inr (.inl ⟨h1,u,hs u h2,h3⟩)
 ·exact .inr (.inr ⟨h1,u,hs u h2,h3⟩)
theorem Ord.all{l:List Th}(h:Ord l):∀r∈l,ze l r:=by
 induction h with
 |nil=>exact λr hr=>(de hr).elim
 |snoc h h' ih=>
  intro r hr;rcases bg.mp hr with hr|hr
  ·exact(ih r hr).mono λu hu=>bo _ hu
  ·rw[aW]at hr;subst hr;exact h'.mono λu hu=>bo _ hu
theorem ze.start{l:List Th}{r:Th}(h:ze l r){p:Str}(hp:r.s=some p):∃u∈l,u.n=p:=by
 rcases h with ⟨_,h⟩|⟨_,u,h2,h3,_⟩|⟨_,u,h2,h3,_⟩
 ·rw[h]at hp;cases hp
 ·rw[h3]at hp;cases hp;exact⟨u,h2,rfl⟩
 ·rw[h3]at hp;cases hp;exact⟨u,h2,rfl⟩
theorem Ord.rank{l:List Th}(h:Ord l):(l.map Th.n).Nodup->∃rk:Str->Nat,∀t∈l,rk t.n<l.length/\∀p,t.s=some p->rk p<rk t.n/\∃u∈l,u.n=p:=by
 induction h with
 |nil=>exact λ_=>⟨λ_=>0,λt ht=>(de ht).elim⟩
 |@snoc l r h h' ih=>
  intro nd;rw[bE,bh]at nd;obtain⟨rk,hk⟩:=ih nd.1;have ne:∀u∈l,u.n≠r.n:=λu hu z=>nd.2.2 _ (aM hu) _ (by simp) z;refine⟨λx=>if x=r.n then l.length else rk x,λt ht=>?_⟩;rw[aC,bN];dsimp only;rcases bg.mp ht with ht|ht
  ·obtain⟨h1,h2⟩:=hk t ht;rw[ah (ne t ht)];refine⟨by omega,λp hp=>?_⟩;obtain⟨h3,u,hu,rfl⟩:=h2 p hp;rw[ah (ne u hu)];exact⟨h3,u,bo _ hu,rfl⟩
  ·rw[aW]at ht;subst ht;rw[ag rfl];refine⟨by omega,λp hp=>?_⟩;obtain⟨u,hu,rfl⟩:=h'.start hp;rw[ah (ne u hu)];exact⟨(hk u hu).1,u,bo _ hu,rfl⟩
theorem D3(k:Nat)(h:k<=ds.length):cutD ds none (some (k:Int))=ds.take k:=by unfold cutD;rw[HT.yi,HT.Ag,je h,List.drop_zero,Nat.sub_zero]
theorem Ki(k:Nat)(h:k<=ds.length):cutD ds (some (k:Int)) none=ds.drop k:=by unfold cutD;rw[HT.yi,HT.Ag,je h,hX (by rw[dc];omega)]
theorem LS(n:Nat):rE 0 n=(bb n).map λk:Nat=>D.int (k:Nat):=by unfold rE;simp
theorem Kj{P:Kd->Prop}(h1:P .room)(h2:P .you)(h3:P .plain)(h4:P .fixed)(h5:P .box)(h6:P .lamp):∀k,P k:=λk=>by cases k<;>assumption
variable{ρ1:List Sl}
theorem LU{n:Nat}(h:e ρ=some (.int (n:Nat),ρ1))(hn:n<=100):iR1 e ρ=some ((bb n).map λk:Nat=>D.int (k:Nat),ρ1):=by unfold iR1;rw[h];dsimp only;rw[ag (by omega),eQ,LS]
theorem zW{lo hi:FO}{ρ2 ρ3:List Sl}{l u:Option Int}(h1:e ρ=some (.lst ds,ρ1))(h2:lo ρ1=some (l,ρ2))(h3:hi ρ2=some (u,ρ3)):rF e lo hi ρ=some (cutD ds l u,ρ3):=by unfold rF;rw[h1];simp only[h2,h3]
theorem Kk{i:Int}(h:e ρ=some (.int i,ρ1)):oAt e ρ=some (some i,ρ1):=by unfold oAt;rw[h]
theorem ixs{i j:Nat}{L:List L4.D}(h:uE es)(h0:L≠[])(hl:L.length<=1000)(hi:mT ρ i=some es)(hj:mT ρ j=some L)(hb:cV j (ρ.map Sl.bor)=some (.lst L,ρ.map Sl.bor))(hne:∀es',mT (putAt ρ i es') j=some L):
  ∃d∈L,∃es',uE es'/\vm j (qM mm i (a1 (qr (c1 nE (cV j))))) ρ=some (d,putAt ρ i es'):=by
 have hp:0<L.length:=iA.mpr h0;obtain⟨r,es',h4,h2,h3,h1⟩:=y7 h (b:=L.length) (by omega) (by omega);obtain⟨m,rfl⟩:=cw h2;have hm:m<L.length:=by omega
 refine⟨L[m],cU hm,es',h1,?_⟩;have e1:qr (c1 nE (cV j)) ρ=some (.int L.length,ρ):=xS (mD hb rfl) rfl;have e2:qM mm i (a1 (qr (c1 nE (cV j)))) ρ=some (.int m,putAt ρ i es'):=Dr hi (lL e1 rfl) hi h4;unfold vm;rw[hj];simp only[e2,hne es'];rw[show atI L (m:Int)=some L[m] from rp (aR hm)]
theorem Kl{i:Nat}{f:FE}{d0:List L4.D}{j:Int}(h0:mT ρ i=some d0)(h1:f ρ=some (.int j,ρ1))(h2:mT ρ1 i=some ds)(h3:atI ds j=some d):vm i f ρ=some (d,ρ1):=by unfold vm;rw[h0];simp only[h1,h2,h3]
def wm(i:Nat):Str×List Str:=plL.getD i ("key", ["key"])
def plD(q:Str×List Str):L4.D:=.tup [.str q.1,.tup (q.2.map D.str)]
def kL:List Kd:=[.plain,.box,.lamp,.box,.fixed,.plain]
def tB:FS:=(lJ (Bt (vm 4 (c2 nQ (c2 oa (cV 6) (cV 5)) (cC (.int 5)))) (gT (rX (gN 7) (rX (gN 8) As)) 2))
 (lJ (mF 9 (c2 dIx (cL (lZ (aCons (cS "plain") (aCons (cS "box") (aCons (cS "lamp") (aCons (cS "box") (aCons (cS "fixed") (a1 (cS "plain"))))))))) (qM mm 0 (a1 (cC (.int 6))))))
 (lJ (n8 (rZ 2 (lY 0 (λds=>lM (ds++[])) (aCons (cV 7) (aCons (cV 8) (aCons (cV 9) (a1 (vm 3 (qM mm 0 (a1 (qr (c1 nE (cV 3)))))))))))))
 (sIf (cT (c2 (dEq false) (cV 9) (cS "box"))) (n8 (rZ 3 (cV 7))) nv))))
theorem D4{i:Nat}(h:i<5):wm i∈plL/\atI (plL.map plD) (i:Int)=some (plD (wm i)):=by
 have e:plL[i]?=some (wm i):=by unfold wm;rw[eD,aR (show i<plL.length from h)];rfl
 exact⟨bC e,rp (by rw[aS,e];rfl)⟩
theorem uA(a:Sl)(tn:Nat)(htn:tn<5):∀(l:List Nat) (es:List L4.D) (P:List Th) (Hs:List Str) (s6 s7 s8 s9:Sl),uE es->Hs≠[]->(∀x∈Hs,∃u∈P,u.n=x/\u.k.hd=true)->Ord P->P.length+l.length<=900->Hs.length+l.length<=900->
  ∃(es':List L4.D) (P':List Th) (Hs':List Str) (t6 t7 t8 t9:Sl),uE es'/\Ord (P++P')/\P'.map Th.nw=l.map (λk=>wm ((k+tn) % 5))/\(∀t∈P',t.k.pl=true)/\
   forL (gN 6) tB (l.map λk:Nat=>D.int (k:Nat)) [.pm es,a,.ls (P.map thD),.ls (Hs.map D.str),.ls (plL.map plD),.im (.int (tn:Nat)),s6,s7,s8,s9]=some (.nx [.pm es',a,.ls ((P++P').map thD),.ls (Hs'.map D.str),.ls (plL.map plD),.im (.int (tn:Nat)),t6,t7,t8,t9])
 |[],es,P,Hs,s6,s7,s8,s9,h,_,_,ho,_,_=>⟨es,[],Hs,s6,s7,s8,s9,h,by rw[bw];exact ho,rfl,λr hr=>(de hr).elim,by rw[bw];rfl⟩
 |k::l,es,P,Hs,s6,s7,s8,s9,h,h0,hH,ho,hl,hl'=>by
  rw[aG]at hl hl';let Q:Sl:=.ls (plL.map plD);let N:Sl:=.im (.int (tn:Nat));let K:Sl:=.im (.int (k:Nat));let i:Nat:=(k+tn) % 5;have hi:i<5:=gU _ (by decide);obtain⟨pm,ea⟩:=D4 hi;let q:=wm i;let X:Sl:=.im (.str q.1);let Y:Sl:=.im (.tup (q.2.map D.str));obtain⟨d,e1,x1,p0,p1,h1⟩:=dgx (i:=0) (b:=6) (a:=cC (.int 6)) (λes=>[.pm es,a,.ls (P.map thD),.ls (Hs.map D.str),Q,N,K,X,Y,s9]) (λ_=>rfl) (λ_ _=>rfl) rfl h (by decide) (by decide);obtain⟨j,rfl⟩:=cw p0;have hj:j<kL.length:=by show j<6;omega
  let kd:Kd:=kL[j];have hpl:kd.pl=true:=(show ∀k∈kL,Kd.pl k=true by decide) _ (cU hj);have ek:dIx (.lst (kL.map λk=>D.str k.s)) (.int (j:Nat))=some (.str kd.s):=rp (by rw[aS,aR hj];rfl);let Z:Sl:=.im (.str kd.s);let ρ1:List Sl:=[.pm e1,a,.ls (P.map thD),.ls (Hs.map D.str),Q,N,K,X,Y,Z];obtain⟨dd,hdd,e2,h2,x2⟩:=ixs (ρ:=ρ1) (i:=0) (j:=3) h1 (by simpa using h0) (by rw[aj];omega) rfl rfl rfl (λ_=>rfl);obtain⟨p,hp,rfl⟩:=aN.mp hdd;let t:Th:=⟨q.1,q.2,kd,some p⟩;obtain⟨u,hu,hun,huk⟩:=hH p hp;have ok:ze P t:=.inr (.inr ⟨hpl,u,hu,by rw[hun],huk⟩);let Hs1:List Str:=if kd=.box then Hs++[q.1]else Hs
  have xb:tB [.pm es,a,.ls (P.map thD),.ls (Hs.map D.str),Q,N,K,s7,s8,s9]=some (.nx [.pm e2,a,.ls ((P++[t]).map thD),.ls (Hs1.map D.str),Q,N,K,X,Y,Z]):=by
   unfold tB;refine(lF (ρ':=[.pm es,a,.ls (P.map thD),.ls (Hs.map D.str),Q,N,K,X,Y,s9]) ?_).trans ?_
   ·have em:c2 nQ (c2 oa (cV 6) (cV 5)) (cC (.int 5)) [.pm es,a,.ls (P.map thD),.ls (Hs.map D.str),Q,N,K,s7,s8,s9]=some (.int (i:Nat),[.pm es,a,.ls (P.map thD),.ls (Hs.map D.str),Q,N,K,s7,s8,s9]):=(mj (x:=.int ((k:Int)+(tn:Int))) rfl rfl (pO (by decide))).trans (by
     rw[show ((k:Int)+(tn:Int)) % 5=((i:Nat):Int) by show _=(((k+tn) % 5:Nat):Int);omega])
    unfold Bt;rw[Kl (ds:=plL.map plD) rfl em rfl ea];rfl
   refine(lF (ρ':=ρ1) ((m6 (mj (x:=.lst (kL.map λk=>D.str k.s)) rfl x1 ek)).trans rfl)).trans ?_;let ρ3:List Sl:=[.pm e2,a,.ls ((P++[t]).map thD),.ls (Hs.map D.str),Q,N,K,X,Y,Z];refine(lF (ρ':=ρ3) ((uM (zH (es0:=P.map thD) (es:=P.map thD) (ρ1:=[.pm e2,a,.ls (P.map thD),.ls (Hs.map D.str),Q,N,K,X,Y,Z]) (d:=thD t) rfl (AL (ds:=[.str q.1,.tup (q.2.map D.str),.str kd.s,.str p]) (lL rfl (lL rfl (lL rfl (lL x2 rfl)))) rfl) rfl (by rw[aj];omega))).trans ?_)).trans ?_
   ·show some (Out.nx [.pm e2,a,.ls (P.map thD++[thD t]),.ls (Hs.map D.str),Q,N,K,X,Y,Z])=_;rw[show P.map thD++[thD t]=(P++[t]).map thD by rw[bE];rfl]
   ·have et:cT (c2 (dEq false) (cV 9) (cS "box")) ρ3=some (decide (kd=.box),ρ3):=tM (mj rfl rfl (xh kd .box));by_cases hb:kd=.box
    ·rw[bj hb]at et;refine(qt et).trans ((uM (zH (es0:=Hs.map D.str) (es:=Hs.map D.str) (ρ1:=ρ3) (d:=.str q.1) rfl rfl rfl (by rw[aj];omega))).trans ?_);show some (Out.nx [.pm e2,a,.ls ((P++[t]).map thD),.ls (Hs.map D.str++[.str q.1]),Q,N,K,X,Y,Z])=_;rw[show Hs1.map D.str=Hs.map D.str++[.str q.1] by rw[show Hs1=Hs++[q.1] from ag hb,bE];rfl]
    ·rw[aX hb]at et;refine(o7 et).trans ?_;rw[show Hs1=Hs from ah hb];rfl
  have hH1:∀y∈Hs1,∃u∈P++[t],u.n=y/\u.k.hd=true:=λy hy=>by
   have old:y∈Hs->∃u∈P++[t],u.n=y/\u.k.hd=true:=λhy=>by obtain⟨v,hv,h⟩:=hH y hy;exact⟨v,bo _ hv,h⟩
   by_cases hb:kd=.box
   ·rw[show Hs1=Hs++[q.1] from ag hb]at hy;rcases bg.mp hy with hy|hy
    ·exact old hy
    ·rw[aW]at hy;refine⟨t,by simp,hy.symm,?_⟩;show kd.hd=true;rw[hb];rfl
   ·rw[show Hs1=Hs from ah hb]at hy;exact old hy
  have h01:Hs1≠[]:=by
   by_cases hb:kd=.box
   ·rw[show Hs1=Hs++[q.1] from ag hb];simp
   ·rw[show Hs1=Hs from ah hb];exact h0
  have hl1:Hs1.length<=Hs.length+1:=by
   by_cases hb:kd=.box
   ·rw[show Hs1=Hs++[q.1] from ag hb];simp
   ·rw[show Hs1=Hs from ah hb];omega
  obtain⟨e3,P',Hs',t6,t7,t8,t9,g1,g2,g3,g4,g5⟩:=uA a tn htn l e2 (P++[t]) Hs1 K X Y Z h2 h01 hH1 (ho.snoc ok) (by rw[aC,bN];omega) (by omega);refine⟨e3,t::P',Hs',t6,t7,t8,t9,g1,by rw[bO]at g2;exact g2,by rw[aK,aK,g3];rfl,λr hr=>?_,?_⟩
  ·rcases aT.mp hr with rfl|hr
   ·exact hpl
   ·exact g4 r hr
  ·rw[aK];unfold forL;rw[show gN 6 (.int (k:Nat)) [.pm es,a,.ls (P.map thD),.ls (Hs.map D.str),Q,N,s6,s7,s8,s9]=some [.pm es,a,.ls (P.map thD),.ls (Hs.map D.str),Q,N,K,s7,s8,s9] from rfl];simp only[xb];rw[g5,bO];rfl
def rmT(x:Str):Th:=⟨x,[x,"place"],.room,none⟩
structure zX(T:List Th):Prop where
 ord:Ord T
 ex:∃(r tn n:Nat) (y:Str) (P:List Th),1<=r/\r<=4/\tn<5/\n<5/\T=(rmL.take r).map rmT++⟨"me", ["me", "self"],.you,some y⟩::P/\P.map Th.nw=(bb n).map (λk=>wm ((k+tn) % 5))/\∀t∈P,t.k.pl=true
theorem xl:∀(l:List Str) (B:List Th),Ord B->Ord (B++l.map rmT)
 |[],B,h=>by rw[dq,bw];exact h
 |x::l,B,h=>by rw[aK,List.append_cons];exact xl l _ (h.snoc (.inl ⟨rfl,rfl⟩))
theorem BZ(h:uE es):∃(T:List Th) (es':List L4.D),zX T/\nU es []=some (TD T,es'):=by
 let U:Sl:=.un;obtain⟨d,e1,x1,p0,p1,h1⟩:=dgx (i:=0) (b:=4) (a:=cC (.int 4)) (λes=>[.pm es,U,U,U,U,U,U,U,U,U]) (λ_=>rfl) (λ_ _=>rfl) rfl h (by decide) (by decide);obtain⟨r,rfl⟩:=cw p0;let R:List Str:=rmL.take (1+r);have lR:R.length=1+r:=by show (rmL.take (1+r)).length=_;rw[bu];show min (1+r) 4=_;omega
 let RS:Sl:=.im (.lst (R.map D.str));let T0:List Th:=R.map rmT;obtain⟨dd,hdd,e2,x2,h2⟩:=pk (i:=0) (e:=cV 1) (a:=c1 nE (cV 1)) (L:=R.map D.str) (λes=>[.pm es,RS,.ls (T0.map thD),U,U,U,U,U,U,U]) (λ_=>rfl) (λ_ _=>rfl) rfl rfl h1 (by intro z;have:=aQ bP z;rw[aj,lR]at this;simp at this) (by rw[aj];omega);obtain⟨y,hy,rfl⟩:=aN.mp hdd;let me:Th:=⟨"me", ["me", "self"],.you,some y⟩;let P0:List Th:=T0++[me];have o0:Ord T0:=by have:=xl R [] .nil;rw[b8]at this;exact this
 have o1:Ord P0:=o0.snoc (.inr (.inl ⟨rfl,rmT y,aM hy,rfl,rfl⟩));let Hs:List Str:=R++(["me"]:List Str);have hH:∀x∈Hs,∃u∈P0,u.n=x/\u.k.hd=true:=λx hx=>by
  rcases bg.mp hx with hx|hx
  ·exact⟨rmT x,bo _ (aM hx),rfl,rfl⟩
  ·exact⟨me,aV _ (aW.mpr rfl),(aW.mp hx).symm,rfl⟩
 have lP:P0.length=2+r:=by show (R.map rmT++[me]).length=_;rw[aC,aj,lR];show 1+r+1=_;omega
 have lH:Hs.length=2+r:=by show (R++_).length=_;rw[aC,lR];show 1+r+1=_;omega
 let Q:Sl:=.ls (plL.map plD);obtain⟨d3,e3,x3,q0,q1,h3⟩:=dgx (i:=0) (b:=5) (a:=cC (.int 5)) (λes=>[.pm es,RS,.ls (P0.map thD),.ls (Hs.map D.str),Q,U,U,U,U,U]) (λ_=>rfl) (λ_ _=>rfl) rfl h2 (by decide) (by decide);obtain⟨tn,rfl⟩:=cw q0;let N:Sl:=.im (.int (tn:Nat));obtain⟨d4,e4,x4,u0,u1,h4⟩:=dgx (i:=0) (b:=5) (a:=cC (.int 5)) (λes=>[.pm es,RS,.ls (P0.map thD),.ls (Hs.map D.str),Q,N,U,U,U,U]) (λ_=>rfl) (λ_ _=>rfl) rfl h3 (by decide) (by decide);obtain⟨n,rfl⟩:=cw u0;obtain⟨e5,P',Hs',t6,t7,t8,t9,h5,o5,g3,g4,x5⟩:=uA RS tn (by omega) (bb n) e4 P0 Hs U U U U h4 (by show R++(["me"]:List Str)≠[];simp) hH o1 (by rw[eS];omega) (by rw[eS];omega);let T:List Th:=P0++P';have lP':P'.length=n:=by have:=aQ bP g3;rw[aj,aj,eS]at this;exact this
 have lT:T.length=2+r+n:=by show (P0++P').length=_;rw[aC,lP,lP']
 let HS:Sl:=.ls (Hs'.map D.str);have d0:zX T:=⟨o5,1+r,tn,n,y,P',by omega,by omega,by omega,by omega,by show (R.map rmT++[me])++P'=_;rw[bO];rfl,g3,g4⟩;refine⟨T,e5,d0,?_⟩;refine Iy (ρ:=[.pm e5,RS,.un,HS,Q,N,t6,t7,t8,t9]) rfl ?_ rfl;unfold pW;refine(lF (ρ':=[.pm e1,RS,U,U,U,U,U,U,U,U]) ((m6 (oH (zW (ds:=rmL.map D.str) (ρ1:=[.pm es,U,U,U,U,U,U,U,U,U]) rfl rfl (Kk (mj (x:=.int 1) rfl x1 rfl))))).trans ?_)).trans ?_
 ·show some (Out.nx [.pm e1,.im (.lst (cutD (rmL.map D.str) none (some (1+(r:Int))))),U,U,U,U,U,U,U,U])=_;rw[show (1+(r:Int))=((1+r:Nat):Int) by omega,D3 (1+r) (by rw[aj];show 1+r<=4;omega),<- jy]
 refine(lF (ρ':=[.pm e1,RS,.ls (T0.map thD),U,U,U,U,U,U,U]) ((AB (xg D.str (λx=>thD (rmT x)) R (ρ1:=[.pm e1,RS,U,U,U,U,U,U,U,U]) rfl (by omega) λx _=>⟨[.im (.str x)],[.im (.str x)],rfl,rfl,rfl⟩)).trans ?_)).trans ?_
 ·rw[show T0.map thD=R.map λx=>thD (rmT x) by show (R.map rmT).map thD=_;rw[bz];rfl];rfl
 refine(lF (ρ':=[.pm e2,RS,.ls (P0.map thD),U,U,U,U,U,U,U]) ((uM (zH (es0:=T0.map thD) (es:=T0.map thD) (ρ1:=[.pm e2,RS,.ls (T0.map thD),U,U,U,U,U,U,U]) (d:=thD me) rfl (AL (ds:=[.str "me", .tup [.str "me", .str "self"],.str "you", .str y]) (lL rfl (lL rfl (lL rfl (lL x2 rfl)))) rfl) rfl (by show ((R.map rmT).map thD).length<1000;rw[aj,aj];omega))).trans ?_)).trans ?_
 ·rw[show P0.map thD=T0.map thD++[thD me] by show (T0++[me]).map thD=_;rw[bE];rfl];rfl
 refine(lF (ρ':=[.pm e2,RS,.ls (P0.map thD),.ls (Hs.map D.str),U,U,U,U,U,U]) ((AB (qu (xs:=R.map D.str) (ys:=[.str "me"]) (ρ1:=[.pm e2,RS,.ls (P0.map thD),U,U,U,U,U,U,U]) rfl rfl (by rw[aj];show R.length+1<=1000;omega))).trans ?_)).trans ?_
 ·rw[show Hs.map D.str=R.map D.str++[.str "me"] by show (R++(["me"]:List Str)).map D.str=_;rw[bE];rfl];rfl
 refine(lF (ρ':=[.pm e2,RS,.ls (P0.map thD),.ls (Hs.map D.str),.ls ((plL.take 4).map plD),U,U,U,U,U]) rfl).trans ?_;refine(lF (ρ':=[.pm e2,RS,.ls (P0.map thD),.ls (Hs.map D.str),Q,U,U,U,U,U]) rfl).trans ?_;refine(lF ((m6 x3).trans rfl)).trans ?_;refine(lF (ρ':=[.pm e5,RS,.ls (T.map thD),HS,Q,N,t6,t7,t8,t9]) ((qv (LU (ρ1:=[.pm e4,RS,.ls (P0.map thD),.ls (Hs.map D.str),Q,N,U,U,U,U]) x4 (by omega))).trans x5)).trans ?_;exact uK rfl
def nmL:List Str:=rmL++("me" : Str)::plL.map jR
def wP(q:Str×List Str):Str×L4.D:=(q.1,.tup (q.2.map D.str))
def plW:List (Str×L4.D):=plL.map wP
def wdW:List (Str×L4.D):=rmL.map (λx:Str=>wP (x,([x,"place"]:List Str)))++wP ("me", ["me", "self"])::plW
structure Good(T:List Tk):Prop where
 len:T.length<=9
 r1:1<=cK .room T
 r4:cK .room T<=4
 y1:cK .you T=1
 p4:(plN T).length<=4
 nm:∀t∈T,t.n=.str t.m/\t.m∈nmL
 nd:(T.map Tk.m).Nodup
 hall:∃t∈T,t.m="hall" /\ t.k=.room
 me:∃t∈T,t.m="me" /\ t.k=.you
 wd:∀t∈T,(t.m,t.w)∈wdW/\(t.k.pl=true->(t.m,t.w)∈plW)
 st:∀t∈T,(t.k=.room/\t.s=.non)\/(t.k=.you/\∃u∈T,t.s=.str u.m/\u.k=.room)\/(t.k.pl=true/\∃u∈T,t.s=.str u.m/\u.k.hd=true)
 rk:∃r:Str->Nat,∀t∈T,r t.m<T.length/\(t.s=.non\/∃v∈T,t.s=.str v.m/\r v.m<r t.m)
theorem Km:((bb 5).all λtn=>(bb 5).all λn=>decide (rmL++("me" : Str)::((bb n).map λk=>(wm ((k+tn) % 5)).1)).Nodup)=true:=by kernel_rfl
theorem F7{T0:List Th}(d:zX T0):Good (T0.map Th.tk):=by
 obtain⟨r,tn,n,y,P,r1,r4,ht,hn,e0,eP,hP⟩:=d.ex;let R:=(rmL.take r).map rmT;let me:Th:=⟨"me", ["me", "self"],.you,some y⟩;have lR:R.length=r:=by show ((rmL.take r).map rmT).length=r;rw[aj,bu];show min r 4=r;omega
 have lP:P.length=n:=by have:=aQ bP eP;rw[aj,aj,eS]at this;exact this
 have rk:∀t∈R,t.k=.room:=λt h=>by obtain⟨x,_,rfl⟩:=aN.mp h;rfl
 have spl:∀p:Th->Bool,T0.filter p=R.filter p++((if p me=true then [me]else [])++P.filter p):=λp=>by rw[e0,fR,fW];show R.filter p++(if p me=true then me::P.filter p else P.filter p)=_;split<;>rfl
 have all_:∀(p:Kd->Bool) (L:List Th),(∀t∈L,p t.k=true)->L.filter (λt=>p t.k)=L:=λp L h=>iz.mpr h;have non_:∀(p:Kd->Bool) (L:List Th),(∀t∈L,p t.k=false)->L.filter (λt=>p t.k)=[]:=λp L h=>List.filter_eq_nil_iff.mpr λt ht z=>by rw[h t ht]at z;cases z
 have plk:∀k:Kd,k.pl=true->decide (k=.room)=false/\decide (k=.you)=false:=Kj (λz=>by cases z) (λz=>by cases z) (λ_=>⟨rfl,rfl⟩) (λ_=>⟨rfl,rfl⟩) (λ_=>⟨rfl,rfl⟩) (λ_=>⟨rfl,rfl⟩);have fr:T0.filter (λt=>decide (t.k=.room))=R:=by rw[spl,all_ (λk=>decide (k=.room)) R λt h=>by rw[rk t h];rfl,non_ (λk=>decide (k=.room)) P λt h=>(plk t.k (hP t h)).1];exact bw R
 have fy:T0.filter (λt=>decide (t.k=.you))=[me]:=by rw[spl,non_ (λk=>decide (k=.you)) R λt h=>by rw[rk t h];rfl,non_ (λk=>decide (k=.you)) P λt h=>(plk t.k (hP t h)).2];rfl
 have fp:T0.filter (λt=>t.k.pl)=P:=by rw[spl,non_ Kd.pl R λt h=>by rw[rk t h];rfl,all_ Kd.pl P hP];rfl
 have eN:T0.map Th.n=rmL.take r++("me" : Str)::(bb n).map λk=>(wm ((k+tn) % 5)).1:=by
  rw[e0,bE,aK];have e1:((rmL.take r).map rmT).map Th.n=rmL.take r:=by rw[bz];exact gB _
  have e2:P.map Th.n=(bb n).map λk=>(wm ((k+tn) % 5)).1:=by have:=aQ (jQ jR) eP;rw[bz,bz]at this;exact this
  rw[e1,e2]
 have big:=bM (az.mp (az.mp Km tn (cG.mpr ht)) n (cG.mpr hn));have nd0:(T0.map Th.n).Nodup:=by rw[eN];exact big.sublist ((iR r rmL).append (iX _))
 have wP':∀t∈P,t.nw∈plL:=λt h=>by have h1:t.nw∈P.map Th.nw:=aM h;rw[eP]at h1;obtain⟨k,_,e⟩:=aN.mp h1;rw[<-e];exact(D4 (gU _ (by decide))).1
 have eM:(T0.map Th.tk).map Tk.m=T0.map Th.n:=by rw[bz];rfl
 have fl:∀p:Tk->Bool,(T0.map Th.tk).filter p=(T0.filter (p∘Th.tk)).map Th.tk:=λp=>List.filter_map;have hall0:rmT "hall" ∈ T0:=by rw[e0];refine bo _ (aM ?_);obtain⟨q,rfl⟩:∃q,r=q+1:=⟨r - 1,by omega⟩;exact aO
 have me0:me∈T0:=by rw[e0];exact aV _ aO
 constructor
 ·rw[aj,e0,aC,aG,aj,bu,lP];show min r 4+(n+1)<=9;omega
 ·show 1<=((T0.map Th.tk).filter λt=>decide (t.k=.room)).length;rw[fl,aj];show 1<=(T0.filter λt=>decide (t.k=.room)).length;rw[fr,lR];exact r1
 ·show ((T0.map Th.tk).filter λt=>decide (t.k=.room)).length<=4;rw[fl,aj];show (T0.filter λt=>decide (t.k=.room)).length<=4;rw[fr,lR];exact r4
 ·show ((T0.map Th.tk).filter λt=>decide (t.k=.you)).length=1;rw[fl,aj];show (T0.filter λt=>decide (t.k=.you)).length=1;rw[fy];rfl
 ·show ((T0.map Th.tk).filter λt=>t.k.pl).length<=4;rw[fl,aj];show (T0.filter λt=>t.k.pl).length<=4;rw[fp,lP];omega
 ·intro t ht;obtain⟨u,hu,rfl⟩:=aN.mp ht;refine⟨rfl,?_⟩;have hx:u.n∈T0.map Th.n:=aM hu;rw[eN]at hx;show u.n∈nmL;rcases bg.mp hx with hx|hx
  ·exact bo _ (fL hx)
  ·refine aV _ ?_;rcases aT.mp hx with hx|hx
   ·rw[hx];exact aO
   ·obtain⟨k,_,e⟩:=aN.mp hx;rw[<-e];exact aU _ (aM (D4 (gU _ (by decide))).1)
 ·rw[eM];exact nd0
 ·exact⟨_,aM hall0,rfl,rfl⟩
 ·exact⟨_,aM me0,rfl,rfl⟩
 ·intro t ht;obtain⟨u,hu,rfl⟩:=aN.mp ht;have pp:u.nw∈plL->((u.tk.m,u.tk.w):Str×L4.D)∈plW:=λh=>aM (f:=wP) h;rw[e0]at hu;rcases bg.mp hu with h|h
  ·obtain⟨x,hx,rfl⟩:=aN.mp h;exact⟨bo _ (aN.mpr ⟨x,fL hx,rfl⟩),λz=>by cases z⟩
  ·rcases aT.mp h with rfl|h
   ·exact⟨aV _ aO,λz=>by cases z⟩
   ·exact⟨aV _ (aU _ (pp (wP' u h))),λ_=>pp (wP' u h)⟩
 ·intro t ht;obtain⟨u,hu,rfl⟩:=aN.mp ht;rcases d.ord.all u hu with ⟨h1,h2⟩|⟨h1,v,hv,h2,h3⟩|⟨h1,v,hv,h2,h3⟩
  ·exact .inl ⟨h1,by show oS u.s=_;rw[h2];rfl⟩
  ·exact .inr (.inl ⟨h1,v.tk,aM hv,by show oS u.s=_;rw[h2];rfl,h3⟩)
  ·exact .inr (.inr ⟨h1,v.tk,aM hv,by show oS u.s=_;rw[h2];rfl,h3⟩)
 ·obtain⟨rk,h⟩:=d.ord.rank nd0;refine⟨rk,λt ht=>?_⟩;obtain⟨u,hu,rfl⟩:=aN.mp ht;obtain⟨h1,h2⟩:=h u hu;refine⟨by rw[aj];exact h1,?_⟩;cases e:u.s with
  |none=>exact .inl (by show oS u.s=_;rw[e];rfl)
  |some p=>obtain⟨h3,v,hv,rfl⟩:=h2 p e;exact .inr ⟨v.tk,aM hv,by show oS u.s=_;rw[e];rfl,h3⟩
def gL:List Str:=["gate"]
def gate:Mk:=⟨"gate", 1,2⟩
abbrev GD':L4.D:=MD [gate]
theorem qA:nt [GD']=some true:=by kernel_rfl
structure In(O T T':List Tk):Prop where
 g:Good T
 p:T'.Perm (O++T)
 lo:O.length<=3
def isS:L4.D->Bool
 |.str _=>true
 |_=>false
theorem Kn(h:isS t.n=true):t.n=.str t.m:=by
 obtain⟨n,w,k,s⟩:=t;cases n with
 |str x=>rfl
 |_=>cases h
theorem zY{α:Type}{p:α->Bool}:∀{l:List α},l.all p=false->∃a∈l,p a=false
 |[],h=>by cases h
 |a::l,h=>by
  rw[cm]at h;cases q:p a with
  |false=>exact⟨a,aO,q⟩
  |true=>rw[q,Bool.true_and]at h;obtain⟨b,hb,e⟩:=zY h;exact⟨b,aU _ hb,e⟩
theorem GF:(nmL.all λx=>isT (lV [.str x]))=true:=by kernel_rfl
def kO(O:List Tk):Bool:=bK (cK .room O) 1&&c6 (cK .you O) 0
def nO(O:List Tk):Bool:=O.all (λo=>isS o.n&&isT (lV [o.n]))&&decide (O.map Tk.m++(nmL++gL)).Nodup
section
variable{O T T':List Tk}(i:In O T T')
include i
theorem In.mem:t∈T' ↔ t∈O\/t∈T:=by rw[i.p.mem_iff,bg]
theorem In.len:T'.length=O.length+T.length:=by rw[i.p.length_eq,aC]
theorem In.l12:T'.length<=12:=by have:=i.len;have:=i.lo;have:=i.g.len;omega
theorem In.cK(k:Kd):cK k T'=cK k O+cK k T:=by unfold K06x.cK;rw[(i.p.filter _).length_eq,fR,aC]
theorem In.pl:(plN T').length<=O.length+4:=by unfold plN;rw[(i.p.filter _).length_eq,fR,aC];have h1:=eI (λt:Tk=>t.k.pl) O;have h2:=i.g.p4;unfold plN at h2;omega
theorem In.things(h:kO O=true):mr [LD T']=some true:=by unfold kO at h;rw[aB]at h;have h1:=cg h.1;have h2:=fI h.2;have:=i.l12;have a:=i.cK .room;have b:=i.cK .you;have c:=i.pl;have e:=i.lo;have r1:=i.g.r1;have r4:=i.g.r4;have y1:=i.g.y1;exact LP (by omega) (by omega) (by omega) (by omega) (by omega)
theorem In.two(hr:K06x.cK .room O=0)(hy:1<=K06x.cK .you O):l4 (pA (LD T') GD' v9)=some false:=by have:=i.l12;have a:=i.cK .room;have b:=i.cK .you;have r1:=i.g.r1;have r4:=i.g.r4;have y1:=i.g.y1;exact xj (Kc (by omega) (by omega) (by omega) (by omega))
theorem In.name_tot(h:O.all (λo=>isB (lV [o.n]))=true):∀t∈T',lV [t.n]=some (.bl (isT (lV [t.n]))):=λt ht=>by
 rcases i.mem.mp ht with h1|h1
 ·exact xZ (az.mp h t h1)
 ·obtain⟨e,m⟩:=i.g.nm t h1;have q:=x6 (az.mp GF t.m m);rw[e,q];rfl
theorem AX:∀m∈[gate],lV [.str m.n]=some (.bl true):=λm h=>by rw[aW]at h;subst h;kernel_rfl
theorem In.no_name(hk:kO O=true)(h:O.all (λo=>isB (lV [o.n]))=true)(hb:O.all (λo=>isT (lV [o.n]))=false):l4 (pA (LD T') GD' v9)=some false:=by have l:=i.l12;refine zc (i.things hk) qA ((DX (by omega) (by decide) (AX i) (λt=>isT (lV [t.n])) (i.name_tot h)).1 ?_);obtain⟨o,ho,e⟩:=zY hb;exact tR (i.mem.mpr (.inl ho)) e
theorem In.strs(h:O.all (λo=>isS o.n)=true):∀t∈T',t.n=.str t.m:=λt ht=>by
 rcases i.mem.mp ht with h1|h1
 ·exact Kn (az.mp h t h1)
 ·exact(i.g.nm t h1).1
theorem In.names_eq(hs:O.all (λo=>isS o.n)=true)(h:O.all (λo=>isT (lV [o.n]))=true):mG [LD T',GD']=some (decide (T'.map Tk.m++gL).Nodup):=by
 have l:=i.l12;have hB:O.all (λo=>isB (lV [o.n]))=true:=m9 λo ho=>by rw[x6 (az.mp h o ho)];rfl
 refine(DX (by omega) (by decide) (AX i) (λt=>isT (lV [t.n])) (i.name_tot hB)).2 (m9 λt ht=>?_) (T'.map Tk.m) ?_
 ·rcases i.mem.mp ht with h1|h1
  ·exact az.mp h t h1
  ·obtain⟨e,m⟩:=i.g.nm t h1;rw[e];exact az.mp GF t.m m
 ·rw[bz];exact iB λt ht=>i.strs hs t ht
theorem In.same_name(hk:kO O=true)(hs:O.all (λo=>isS o.n)=true)(h:O.all (λo=>isT (lV [o.n]))=true)(hb:(O.any λo=>decide (o.m∈(["hall", "me", "gate"]:List Str)))=true):l4 (pA (LD T') GD' v9)=some false:=by
 refine zc (i.things hk) qA ((i.names_eq hs h).trans ?_);rw[aX];intro nd;have nd':((O++T).map Tk.m++gL).Nodup:=((i.p.map Tk.m).append_right _).nodup_iff.mp nd;rw[bE]at nd';obtain⟨o,ho,e⟩:=bD.mp hb;have e:=bM e;have mo:o.m∈O.map Tk.m:=aM ho;have d1:=(bh.mp (bh.mp nd').1).2.2;have d2:=(bh.mp nd').2.2;simp only[aT,de,or_false]at e;rcases e with e|e|e
 ·obtain⟨t,ht,h1,_⟩:=i.g.hall;exact d1 _ mo _ (aM ht) (by rw[e,h1])
 ·obtain⟨t,ht,h1,_⟩:=i.g.me;exact d1 _ mo _ (aM ht) (by rw[e,h1])
 ·exact d2 _ (bo _ mo) _ (aW.mpr rfl) e
theorem In.nd(h:nO O=true):(T'.map Tk.m++gL).Nodup:=by
 unfold nO at h;rw[aB]at h;have nd:=bM h.2;refine((i.p.map Tk.m).append_right _).nodup_iff.mpr ?_;rw[bE,bO];obtain⟨n1,n2,n3⟩:=bh.mp nd;obtain⟨m1,m2,m3⟩:=bh.mp n2;have sub:∀x∈T.map Tk.m,x∈nmL:=λx hx=>by obtain⟨t,ht,rfl⟩:=aN.mp hx;exact(i.g.nm t ht).2
 refine bh.mpr ⟨n1,bh.mpr ⟨i.g.nd,m2,λa ha b hb=>m3 a (sub a ha) b hb⟩,λa ha b hb=>n3 a ha b ?_⟩;rcases bg.mp hb with hb|hb
 ·exact bo _ (sub b hb)
 ·exact aV _ hb
theorem In.names(h:nO O=true):mG [LD T',GD']=some true/\(T'.map Tk.m).Nodup/\∀t∈T',t.n=.str t.m:=by
 have nd:=i.nd h;unfold nO at h;rw[aB]at h;have hs:O.all (λo=>isS o.n)=true:=m9 λo ho=>by have:=az.mp h.1 o ho;rw[aB]at this;exact this.1
 have hT:O.all (λo=>isT (lV [o.n]))=true:=m9 λo ho=>by have:=az.mp h.1 o ho;rw[aB]at this;exact this.2
 exact⟨(i.names_eq hs hT).trans (by rw[bj nd]),(bh.mp nd).1,i.strs hs⟩
end
def bS(O:List Tk)(o:Tk):Bool:=match o.k with
 |.room=>!y9 o.s
 |.you=>false
 |_=>match o.s with
  |.str x=>decide (x∉nmL)&&O.all λu=>!(u.k.hd&&decide (u.m=x))
  |_=>true
def gS(O:List Tk)(o:Tk):Bool:=match o.k with
 |.room=>y9 o.s
 |.you=>false
 |_=>match o.s with
  |.str x=>decide (x="hall")||O.any λu=>u.k.hd&&decide (u.m=x)
  |_=>false
section
variable{O T T':List Tk}(i:In O T T')(hk:kO O=true)(hn:nO O=true)
include i
theorem In.hd{x:Str}:x∈hdN T' ↔ ∃u∈T',u.k.hd=true/\u.m=x:=by
 unfold hdN;constructor
 ·intro h;obtain⟨u,hu,e⟩:=aN.mp h;exact⟨u,(bf.mp hu).1,(bf.mp hu).2,e⟩
 ·rintro⟨u,hu,h,rfl⟩;exact aM (bf.mpr ⟨hu,h⟩)
theorem In.st_good(ht:t∈T):stB T' t=true:=by
 obtain⟨n,w,k,s⟩:=t;have hr:∀u∈T,u.k=.room->u.m∈rmN T':=λu hu hk=>aM (bf.mpr ⟨i.mem.mpr (.inr hu),bj hk⟩);have hh:∀u∈T,u.k.hd=true->u.m∈hdN T':=λu hu hk=>i.hd.mpr ⟨u,i.mem.mpr (.inr hu),hk,rfl⟩;rcases i.g.st _ ht with ⟨h1,h2⟩|⟨h1,u,hu,h2,h3⟩|⟨h1,u,hu,h2,h3⟩
 ·simp only at h1 h2;subst h1 h2;rfl
 ·simp only at h1 h2;subst h1 h2;exact bj (hr u hu h3)
 ·simp only at h1 h2;subst h2;cases k with
  |room=>cases h1
  |you=>cases h1
  |_=>exact bj (hh u hu h3)
theorem In.st_odd{o:Tk}(ho:o∈O)(h:gS O o=true):stB T' o=true:=by
 have key:∀x:Str,(decide (x="hall")||O.any λu=>u.k.hd&&decide (u.m=x))=true->decide (x∈hdN T')=true:=λx h=>by
  refine bj (i.hd.mpr ?_);rw[dZ]at h;rcases h with h|h
  ·obtain⟨t,ht,h1,h2⟩:=i.g.hall;exact⟨t,i.mem.mpr (.inr ht),by rw[h2];rfl,by rw[h1,bM h]⟩
  ·obtain⟨u,hu,e⟩:=bD.mp h;rw[aB]at e;exact⟨u,i.mem.mpr (.inl hu),e.1,bM e.2⟩
 obtain⟨n,w,k,s⟩:=o;cases k with
 |room=>exact h
 |you=>cases h
 |_=>
  cases s with
  |str x=>exact key x h
  |_=>cases h
theorem In.st_bad{o:Tk}(ho:o∈O)(h:bS O o=true):stB T' o=false:=by
 have key:∀x:Str,(decide (x∉nmL)&&O.all λu=>!(u.k.hd&&decide (u.m=x)))=true->decide (x∈hdN T')=false:=λx h=>by
  rw[aB]at h;refine aX λz=>?_;obtain⟨u,hu,h1,h2⟩:=i.hd.mp z;rcases i.mem.mp hu with hu|hu
  ·have:=az.mp h.2 u hu;rw[h1,h2]at this;simp at this
  ·exact bM h.1 (by rw[<-h2];exact(i.g.nm u hu).2)
 obtain⟨n,w,k,s⟩:=o;cases k with
 |room=>show y9 s=false;exact cj _|>.mp h
 |you=>cases h
 |_=>
  cases s with
  |str x=>exact key x h
  |_=>rfl
theorem In.s_ok(h:O.all (λo=>sOk o.s)=true):∀t∈T',sOk t.s=true:=λt ht=>by
 rcases i.mem.mp ht with h1|h1
 ·exact az.mp h t h1
 ·rcases i.g.st t h1 with ⟨_,e⟩|⟨_,u,_,e,_⟩|⟨_,u,_,e,_⟩<;>rw[e]<;>rfl
include hk hn
theorem In.no_start(hs:O.all (λo=>sOk o.s)=true)(h:O.any (bS O)=true):l4 (pA (LD T') GD' v9)=some false:=by obtain⟨n1,n2,n3⟩:=i.names hn;obtain⟨o,ho,e⟩:=bD.mp h;exact xk (i.things hk) qA n1 (Kg (by have:=i.l12;omega) n3 (i.s_ok hs) (tR (i.mem.mpr (.inl ho)) (i.st_bad ho e)))
theorem In.all_st(h:O.all (gS O)=true):T'.all (stB T')=true:=m9 λt ht=>by
 rcases i.mem.mp ht with h1|h1
 ·exact i.st_odd h1 (az.mp h t h1)
 ·exact i.st_good h1
theorem In.apart{o:Tk}(ho:o∈O)(ht:t∈T):o.m≠t.m:=by have nd:=(bh.mp (i.nd hn)).1;have nd':=(i.p.map Tk.m).nodup_iff.mp nd;rw[bE]at nd';exact(bh.mp nd').2.2 _ (aM ho) _ (aM ht)
theorem In.ring(hs:O.all (λo=>sOk o.s)=true)(hg:O.all (gS O)=true)(hO:O≠[])(h:O.all (λo=>O.any λu=>match o.s with|.str x=>decide (u.m=x)|_=>false)=true):l4 (pA (LD T') GD' v9)=some false:=by
 obtain⟨n1,n2,n3⟩:=i.names hn;have l:T'.length<=900:=by have:=i.l12;omega
 obtain⟨r,hr⟩:=i.g.rk;refine xk (i.things hk) qA n1 ((D1 l n3 (i.s_ok hs) n2 (i.all_st hk hn hg) (λt=>!(O.map Tk.m).contains t.m) λt ht=>?_).trans ?_)
 ·rcases i.mem.mp ht with h1|h1
  ·rw[dF.mpr (aM h1)];refine DZ l n2 (λu=>u∈O) (λu _ hu=>?_) ht h1;obtain⟨v,hv,e⟩:=bD.mp (az.mp h u hu);refine⟨v,i.mem.mpr (.inl hv),hv,?_⟩;split at e
   ·rename_i x q;rw[q,bM e]
   ·cases e
  ·have nc:(O.map Tk.m).contains t.m=false:=by rw[dQ];intro z;obtain⟨o,ho,e⟩:=aN.mp (dF.mp z);exact i.apart hk hn ho h1 e
   rw[nc];refine zb l n2 (λu=>u∈T) r (λu _ hu=>?_) ht h1;obtain⟨h2,h3⟩:=hr u hu;refine⟨by have:=i.len;omega,?_⟩;rcases h3 with h3|⟨v,hv,h4,h5⟩
   ·exact .inl h3
   ·exact .inr ⟨v,i.mem.mpr (.inr hv),hv,h4,h5⟩
 ·obtain⟨o,ho⟩:=List.exists_mem_of_ne_nil O hO;rw[tR (i.mem.mpr (.inl ho)) (by rw[dF.mpr (aM ho)];rfl)]
theorem In.starts(h:O.all (λo=>match o.k with|.room=>y9 o.s|.you=>false|_=>match o.s with|.str x=>decide (x="hall")|_=>false)=true):mM [LD T']=some true:=by
 obtain⟨n1,n2,n3⟩:=i.names hn;have l:T'.length<=900:=by have:=i.l12;omega
 obtain⟨r,hr⟩:=i.g.rk;have one:∀o∈O,gS O o=true/\(o.s=.non\/o.s=.str "hall"):=λo ho=>by
  have q:=az.mp h o ho;obtain⟨n,w,k,s⟩:=o;cases k with
  |room=>cases s with
   |non=>exact⟨rfl,.inl rfl⟩
   |_=>cases q
  |you=>cases q
  |_=>cases s with
   |str x=>refine⟨?_,.inr (by rw[bM q])⟩;show (decide (x="hall")||_)=true;rw[show decide (x="hall")=true from q];rfl
   |_=>cases q
 have hg:O.all (gS O)=true:=m9 λo ho=>(one o ho).1;have hs:O.all (λo=>sOk o.s)=true:=m9 λo ho=>by rcases(one o ho).2 with e|e<;>rw[e]<;>rfl
 obtain⟨b,hb,hbm,hbk⟩:=i.g.hall;refine(D1 l n3 (i.s_ok hs) n2 (i.all_st hk hn hg) (λ_=>true) λt ht=>?_).trans (by rw[m9 λ_ _=>rfl]);refine zb l n2 (λ_=>True) (λx=>if x∈O.map Tk.m then T.length else r x) (λu hu _=>?_) ht trivial;have out:∀v∈T,v.m∉O.map Tk.m:=λv hv z=>by obtain⟨o,ho,e⟩:=aN.mp z;exact i.apart hk hn ho hv e
 have ln:=i.len;rcases i.mem.mp hu with h1|h1
 ·rw[ag (aM h1)];have l0:0<O.length:=List.length_pos_of_mem h1;refine⟨by omega,?_⟩;rcases(one u h1).2 with e|e
  ·exact .inl e
  ·refine .inr ⟨b,i.mem.mpr (.inr hb),trivial,by rw[e,hbm],?_⟩;rw[ah (out b hb)];exact(hr b hb).1
 ·rw[ah (out u h1)];obtain⟨h2,h3⟩:=hr u h1;refine⟨by omega,?_⟩;rcases h3 with h3|⟨v,hv,h4,h5⟩
  ·exact .inl h3
  ·refine .inr ⟨v,i.mem.mpr (.inr hv),trivial,h4,?_⟩;rw[ah (out v hv)];exact h5
end
theorem GH:(wdW.all λq=>isT (l9 [q.2]))=true:=by kernel_rfl
def hA(u t:Tk):Bool:=isT (nu [u.w,t.w])
section
variable{O T T':List Tk}(i:In O T T')
include i
theorem In.word_tot(h:O.all (λo=>isB (l9 [o.w]))=true):∀t∈T',l9 [t.w]=some (.bl (isT (l9 [t.w]))):=λt ht=>by
 rcases i.mem.mp ht with h1|h1
 ·exact xZ (az.mp h t h1)
 ·have q:=x6 (az.mp GH _ (i.g.wd t h1).1);rw[show l9 [t.w]=some (.bl true) from q];rfl
theorem In.no_word(hk:kO O=true)(hn:nO O=true)(hs:O.all (λo=>match o.k with|.room=>y9 o.s|.you=>false|_=>match o.s with|.str x=>decide (x="hall")|_=>false)=true)(h:O.all (λo=>isB (l9 [o.w]))=true)(hb:O.all (λo=>isT (l9 [o.w]))=false):l4 (pA (LD T') GD' v9)=some false:=by obtain⟨n1,n2,n3⟩:=i.names hn;obtain⟨o,ho,e⟩:=zY hb;exact zd (i.things hk) qA n1 (i.starts hk hn hs) ((D2 (by have:=i.l12;omega) (λt=>isT (l9 [t.w])) (i.word_tot h)).1 (tR (i.mem.mpr (.inl ho)) e))
theorem In.words(hn:nO O=true)(h:O.all (λo=>isT (l9 [o.w]))=true)(hh:((plW.map cq++O.map Tk.w).all λa=>(plW.map cq++O.map Tk.w).all λb=>isB (nu [a,b]))=true):mf [LD T']=some ((plN T').all (taB hA (plN T'))):=by
 obtain⟨n1,n2,n3⟩:=i.names hn;have hB:O.all (λo=>isB (l9 [o.w]))=true:=m9 λo ho=>by rw[x6 (az.mp h o ho)];rfl
 refine(D2 (by have:=i.l12;omega) (λt=>isT (l9 [t.w])) (i.word_tot hB)).2 (m9 λt ht=>?_) n3 hA λt ht u hu=>?_
 ·rcases i.mem.mp ht with h1|h1
  ·exact az.mp h t h1
  ·exact az.mp GH _ (i.g.wd t h1).1
 ·have mem:∀v∈plN T',v.w∈plW.map cq++O.map Tk.w:=λv hv=>by
   obtain⟨h1,h2⟩:=bf.mp hv;rcases i.mem.mp h1 with h1|h1
   ·exact aV _ (aM h1)
   ·exact bo _ (aN.mpr ⟨_,(i.g.wd v h1).2 h2,rfl⟩)
  exact xZ (az.mp (az.mp hh u.w (mem u hu)) t.w (mem t ht))
theorem In.alike(hk:kO O=true)(hn:nO O=true)(hs:O.all (λo=>match o.k with|.room=>y9 o.s|.you=>false|_=>match o.s with|.str x=>decide (x="hall")|_=>false)=true)(h:O.all (λo=>isT (l9 [o.w]))=true)(hh:((plW.map cq++O.map Tk.w).all λa=>(plW.map cq++O.map Tk.w).all λb=>isB (nu [a,b]))=true)
  (hb:(O.any λt=>t.k.pl&&O.any λu=>u.k.pl&&(!decide (u.m=t.m)&&hA u t))=true):l4 (pA (LD T') GD' v9)=some false:=by
 obtain⟨n1,n2,n3⟩:=i.names hn;refine zd (i.things hk) qA n1 (i.starts hk hn hs) ((i.words hn h hh).trans ?_);obtain⟨t,ht,e⟩:=bD.mp hb;rw[aB]at e;obtain⟨u,hu,e2⟩:=bD.mp e.2;rw[aB,aB]at e2;have pt:t∈plN T':=bf.mpr ⟨i.mem.mpr (.inl ht),e.1⟩;have pu:u∈plN T':=bf.mpr ⟨i.mem.mpr (.inl hu),e2.1⟩;rw[tR pt];unfold taB;rw[bD.mpr ⟨u,bf.mpr ⟨pu,e2.2.1⟩,e2.2.2⟩];rfl
end
theorem B2:(plW.all λp=>plW.all λq=>decide (q.1=p.1)||!isT (nu [q.2,p.2]))=true:=by kernel_rfl
theorem zZ(g:Good T):mf [LD T]=some true:=by
 have i:In [] T T:=⟨g,f7 _,by decide⟩;refine(i.words (by kernel_rfl) rfl (by kernel_rfl)).trans ?_;rw[m9 λt ht=>?_];obtain⟨h1,h2⟩:=bf.mp ht;unfold taB;rw[cj,dQ];intro z;obtain⟨u,hu,e⟩:=bD.mp z;obtain⟨hu,ne⟩:=bf.mp hu;obtain⟨h3,h4⟩:=bf.mp hu;have q:=az.mp (az.mp B2 _ ((g.wd t h1).2 h2)) _ ((g.wd u h3).2 h4);rw[dZ]at q;rcases q with q|q
 ·rw[show decide (u.m=t.m)=true from q]at ne;cases ne
 ·unfold hA at e;rw[e]at q;cases q
theorem F8{b:Bool}(h:e ρ=some (.bl b,ρ1)):ve e ρ=some (.bl !b,ρ1):=by unfold ve;rw[h]
theorem v5{m:List Str}(hd:d=.lst (m.map D.str)\/d=.tup (m.map D.str))(hl:l.length<=900)(h:∀x∈l,x∉m):oT [.lst (l.map D.str),d]=some (.bl true):=by
 let ρ:List Sl:=[.im (.lst (l.map D.str)),.im d];refine nW (ρ:=ρ) rfl ?_;have e:c1 vA (cL (lX 1 [1] (iL (cV 0)) (gN 0) mI (c2 (dIn false) (cV 0) (cV 1)))) ρ=some (.bl (l.any λ_=>false),ρ):=AO D.str (λ_=>false) l rfl (by omega) λx hx=>⟨[.im (.str x),.im d],[.im (.str x),.im d],rfl,mj rfl rfl (by
  rcases hd with rfl|rfl
  ·rw[vJ];simp[h x hx]
  ·rw[DN];simp[h x hx]),rfl⟩
 refine(oG (F8 e)).trans ?_;rw[iQ.mpr λ_ _=>aP];rfl
def wL:List Str:=plL.flatMap cq
theorem Mm(h:(t.m,t.w)∈plW):∃ws:List Str,t.w=.tup (ws.map D.str)/\ws.length<=3/\∀x∈ws,x∈wL:=by obtain⟨q,hq,e⟩:=aN.mp h;have e2:=aQ cq e;exact⟨q.2,e2.symm,bM (az.mp (show (plL.all λq=>decide (q.2.length<=3))=true by kernel_rfl) q hq),λx hx=>List.mem_flatMap.mpr ⟨q,hq,hx⟩⟩
theorem v7{a b c s5 s6 s7:Sl}:∀(P:List Tk) (acc:List Str) (s:Sl),acc.length+3 * P.length<=900->(∀t∈P,(t.m,t.w)∈plW)->(∀x∈acc,x∈wL)->
  ∃(acc':List Str) (s':Sl),(∀x∈acc',x∈wL)/\forL (gN 4) (n8 (uc 3 (c1 (l8 mS "words") (cV 4)))) (P.map tkD) [a,b,c,.ls (acc.map D.str),s,s5,s6,s7]=some (.nx [a,b,c,.ls (acc'.map D.str),s',s5,s6,s7])
 |[],acc,s,_,_,h=>⟨acc,s,h,rfl⟩
 |t::P,acc,s,hl,hw,h=>by
  obtain⟨ws,ew,h3,hx⟩:=Mm (hw t aO);rw[aG]at hl;obtain⟨acc',s',h1,e⟩:=v7 P (acc++ws) (.im (tkD t)) (by rw[aC];omega) (λu hu=>hw u (aU _ hu)) λx q=>(bg.mp q).elim (h x) (hx x);refine⟨acc',s',h1,?_⟩;rw[aK];unfold forL;have e1:n8 (uc 3 (c1 (l8 mS "words") (cV 4))) [a,b,c,.ls (acc.map D.str),.im (tkD t),s5,s6,s7]=some (.nx [a,b,c,.ls ((acc++ws).map D.str),.im (tkD t),s5,s6,s7]):=by refine(uM (d:=.non) (ρ':=[a,b,c,.ls ((acc++ws).map D.str),.im (tkD t),s5,s6,s7]) ?_);unfold uc;rw[show c1 (l8 mS "words") (cV 4) [a,b,c,.ls (acc.map D.str),.im (tkD t),s5,s6,s7]=some (.tup (ws.map D.str),[a,b,c,.ls (acc.map D.str),.im (tkD t),s5,s6,s7]) from mD rfl ((uS t).trans (by rw[ew]))];show (if (acc.map D.str).length+(ws.map D.str).length<=1000 then some (D.non,[a,b,c,.ls (acc.map D.str++ws.map D.str),.im (tkD t),s5,s6,s7])else none)=_;rw[ag (by rw[aj,aj];omega),bE]
  rw[show gN 4 (tkD t) [a,b,c,.ls (acc.map D.str),s,s5,s6,s7]=some [a,b,c,.ls (acc.map D.str),.im (tkD t),s5,s6,s7] from rfl];simp only[e1];exact e
def uL:List Str:=["take", "drop", "open", "shut", "light", "douse", "put", "go", "wait"]
def bL:List Str:=["in"]
def nwL:List Str:=["the", "a", "undo", "restart"]
theorem z4(g:Good T):n6 [LD T,.lst [],.lst v9]=some true:=by
 have hl:=g.len;let P:=plN T;have hP:P.length<=4:=g.p4;let A:Sl:=.im (LD T);let B:Sl:=.im (.lst []);let C:Sl:=.im (.lst v9);obtain⟨O,s',hO,e1⟩:=v7 (a:=A) (b:=B) (c:=C) (s5:=.un) (s6:=.un) (s7:=.un) P [] .un (by simp;omega) (λt ht=>(g.wd t (bf.mp ht).1).2 (bf.mp ht).2) λx h=>(de h).elim;let m1:Sl:=.ls (O.map D.str);let UL:L4.D:=.lst (uL.map D.str);let Z:Sl:=.im (.lst (bL.map D.str));let z:Sl:=.im (vb "wait" "alone" .non);have s1:∀x∈uL++bL,x∉wL:=by decide +kernel
 have s2:∀x∈uL++bL,x∉nwL:=by decide +kernel
 have s3:∀x∈bL,x∉uL:=by decide +kernel
 have lUB:(uL++bL).length<=900:=by decide
 refine BX (ρ:=[A,B,C,.im (.lst (O.map D.str)),s',.im UL,z,Z]) rfl ?_;unfold n5;refine(lF (ρ':=[A,B,C,.ls [],.un,.un,.un,.un]) rfl).trans ?_;refine(lF (ρ':=[A,B,C,m1,s',.un,.un,.un]) (qL ((qv (ds:=P.map tkD) (ρ1:=[A,B,C,.ls [],.un,.un,.un,.un]) ?_).trans e1))).trans ?_
 ·unfold iL;rw[oH (l6 (g:=mU) (ds:=[LD T]) (ρ1:=[A,B,C,.ls [],.un,.un,.un,.un]) rfl (pY T (by omega)))]
 refine(lF (ρ':=[A,B,C,m1,s',.ls [],.un,.un]) rfl).trans ?_;refine(lF (ρ':=[A,B,C,m1,s',.ls (uL.map D.str),z,.un]) (by kernel_rfl)).trans ?_;refine(lF (ρ':=[A,B,C,m1,s',.ls (uL.map D.str),z,Z]) (by kernel_rfl)).trans ?_;refine(lF (nL (ρ1:=[A,B,C,m1,s',.im UL,z,Z]) (l6 (ds:=[UL]) rfl ((vZ (l:=uL) (by decide)).trans (by rw[bj (by decide:uL.Nodup)]))))).trans ?_;have ca:∀(q:Sl),cL (mL (cFz 5) (cV 7)) [A,B,C,q,s',.im UL,z,Z]=some (.lst ((uL++bL).map D.str),[A,B,C,q,s',.im UL,z,Z]):=λq=>by kernel_rfl
 refine(lF (nL (ρ1:=[A,B,C,.im (.lst (O.map D.str)),s',.im UL,z,Z]) (l6 (lL (ca m1) (lL rfl rfl)) (v5 (l:=uL++bL) (m:=O) (.inl rfl) lUB λx hx ho=>s1 x hx (hO x ho))))).trans ?_;refine(lF (nL (ρ1:=[A,B,C,.im (.lst (O.map D.str)),s',.im UL,z,Z]) (l6 (lL (ca _) (lL rfl rfl)) (v5 (l:=uL++bL) (m:=nwL) (.inr rfl) lUB s2)))).trans ?_;exact nL (ρ1:=[A,B,C,.im (.lst (O.map D.str)),s',.im UL,z,Z]) (l6 (lL rfl (lL rfl rfl)) (v5 (l:=bL) (m:=uL) (.inl rfl) (by decide) s3))
theorem wo(hl:T.length<=200):∃l,o8 [LD T,GD']=some l:=by
 let ρ:List Sl:=[.im (LD T),.im GD'];have h:=eI (λt:Tk=>t.k.mk) T;exact⟨_,Dt (ρ:=ρ) rfl (uK (qu (oH (sm tkD Tk.n (λt=>t.k.mk) T (ρ1:=ρ) rfl (by omega) λt _=>⟨[.im (tkD t)],[.im (tkD t)],rfl,tM (sJ (xs:=[t.n,t.w,.str t.k.s,t.s]) (ys:=[]) rfl rfl rfl rfl (AQ t)),λ_=>⟨_,mD rfl (pX t),rfl⟩,λ_=>rfl⟩))
  (oH (xg mkD (λt=>D.str t.n) [gate] rfl (by decide) λt _=>⟨_,_,rfl,mD rfl (AS t),rfl⟩)) (by rw[aj];show (T.filter λt=>t.k.mk).length+1<=1000;omega)))⟩
theorem z5(g:Good T):l4 (pA (LD T) GD' v9)=some true:=by
 have i:In [] T T:=⟨g,f7 _,by decide⟩;have hk:kO []=true:=rfl;have hn:nO []=true:=by kernel_rfl
 obtain⟨n1,n2,n3⟩:=i.names hn;have hl:=g.len;obtain⟨l,el⟩:=wo (T:=T) (by omega);let rr:L4.D:=.lst ((rmN T).map D.str);let ρ0:List Sl:=stE 7 (pA (LD T) GD' v9);let ρ:List Sl:=[.im (LD T),.im GD',.im (.lst []),.im (.lst []),.im (.lst []),.im (.lst v9),.im rr];refine BX (ρ:=ρ) rfl ?_;unfold mX;rw[lF (qz (ds:=[LD T]) (ρ1:=ρ0) rfl (i.things hk)),lF (qz (ds:=[GD']) (ρ1:=ρ0) rfl qA),lF (qz (ds:=[LD T,GD']) (ρ1:=ρ0) rfl n1),lF (qz (ds:=[LD T]) (ρ1:=ρ0) rfl (i.starts hk hn rfl)),lF (qz (ds:=[LD T]) (ρ1:=ρ0) rfl (zZ g))];refine(lF (ρ':=ρ) (qL ((m6 (oH (za (T:=T) (by omega) n3 rfl))).trans rfl))).trans ?_;refine(lF (qz (ds:=[.lst [],rr]) (ρ1:=ρ) rfl (by kernel_rfl))).trans ?_;refine(lF (qz (ds:=[.lst [],rr,.lst l]) (ρ1:=ρ) (lL rfl (lL rfl (lL (oH (l6 (g:=o8) (ds:=[LD T,GD']) rfl el)) rfl))) (by kernel_rfl))).trans ?_;refine(lF (qz (ds:=[.lst []]) (ρ1:=ρ) rfl (by kernel_rfl))).trans ?_;exact qz (ds:=[LD T,.lst [],.lst v9]) rfl (z4 g)
theorem z6(hl:T.length<=900)(hn:∀t∈T,t.n=.str t.m)(nd:(T.map Tk.m).Nodup):tP [LD T]=some (.dic (nK T) (T.map tkD)):=by
 obtain⟨s',e1⟩:=tT (g:=gN 2) (i:=1) (fk:=c1 (l8 l5 "name") (cV 2)) (fv:=cV 2) tkD Tk.m tkD (λks ds s=>[.im (LD T),.dk ks ds,s]) T
  (λt ht ks ds s=>⟨[.im (LD T),.dk ks ds,.im (tkD t)],rfl,rfl,rfl,mD rfl ((pX t).trans (by rw[hn t ht])),λks' ds'=>⟨_,rfl⟩⟩) T [] [] .un (λ_ h=>h) (by rw[b8];exact AV nd) (by simp;omega) rfl
 refine nW (ρ:=[.im (LD T),.im (.dic (nK T) (T.map tkD)),s']) rfl ?_;unfold tN;refine(lF (ρ':=[.im (LD T),.dk [] [],.un]) rfl).trans ?_;refine(lF ((qv rfl).trans e1)).trans ?_;rw[b8,b8];rfl
theorem tV{a b e:Sl}:∀(l:List Tk) (ks:List Key) (ds:List L4.D) (s:Sl),(∀t∈l,t.n=.str t.m)->(ks++l.map λt=>kS t.m).Nodup->ks.length+l.length<=900->ds.length=ks.length->
  ∃(ks':List Key) (ds':List L4.D) (s':Sl),(∀k∈ks',k∈ks++l.map λt=>kS t.m)/\ks'.length<=ks.length+l.length/\ds'.length=ks'.length/\forL (gN 3) (sIf (cT (n9 mZ "has_mark" (cV 3) ml)) (oI 2 (c1 (l8 l5 "name") (cV 3)) (cC (.int 1))) nv) (l.map tkD) [a,b,.dk ks ds,s,e]=some (.nx [a,b,.dk ks' ds',s',e])
 |[],ks,ds,s,_,_,_,he=>⟨ks,ds,s,λk h=>bo _ h,aE _,he,rfl⟩
 |t::l,ks,ds,s,hn,nd,hl,he=>by
  rw[aG]at hl;let ρ:List Sl:=[a,b,.dk ks ds,.im (tkD t),e];have em:cT (n9 mZ "has_mark" (cV 3) ml) ρ=some (t.k.mk,ρ):=tM (sJ (xs:=[t.n,t.w,.str t.k.s,t.s]) (ys:=[]) rfl rfl rfl rfl (AQ t));have hn':∀u∈l,u.n=.str u.m:=λu hu=>hn u (aU _ hu);rw[aK]at nd;have nd1:((ks++[kS t.m])++l.map λt=>kS t.m).Nodup:=by rw[bO];exact nd
  have nd2:(ks++l.map λt=>kS t.m).Nodup:=nd.sublist ((iX _).append (List.sublist_cons_self _ _));rw[aK,aK];unfold forL;rw[show gN 3 (tkD t) [a,b,.dk ks ds,s,e]=some ρ from rfl];cases hm:t.k.mk with
  |true=>
   rw[hm]at em;have hk:kS t.m∉ks:=λz=>by rw[bh]at nd;exact nd.2.2 _ z _ aO rfl
   obtain⟨ks',ds',s',h1,h2,h3,q⟩:=tV (a:=a) (b:=b) (e:=e) l (ks++[kS t.m]) (ds++[.int 1]) (.im (tkD t)) hn' nd1 (by rw[aC,bN];omega) (by simp[he]);rw[aC,bN]at h2;refine⟨ks',ds',s',λk h=>?_,by rw[aG];omega,h3,?_⟩
   ·have:=h1 k h;rw[bO]at this;exact this
   simp only[(qt em).trans (v3 (i:=2) (fk:=c1 (l8 l5 "name") (cV 3)) (fv:=cC (.int 1)) (ρ:=ρ) (x:=t.m) rfl rfl (mD rfl ((pX t).trans (by rw[hn t aO]))) hk (by omega) he)];exact q
  |false=>
   rw[hm]at em;obtain⟨ks',ds',s',h1,h2,h3,q⟩:=tV (a:=a) (b:=b) (e:=e) l ks ds (.im (tkD t)) hn' nd2 (by omega) he;refine⟨ks',ds',s',λk h=>?_,by rw[aG];omega,h3,?_⟩
   ·rcases bg.mp (h1 k h)with z|z
    ·exact bo _ z
    ·exact aV _ (aU _ z)
   simp only[o7 em,nv];exact q
theorem D5(hl:T.length<=100)(hn:∀t∈T,t.n=.str t.m)(nd:(T.map Tk.m++gL).Nodup):∃d,oY [LD T,GD']=some d:=by
 obtain⟨n1,n2,n3⟩:=bh.mp nd;obtain⟨ks,ds,s1,h1,h2,h3,e1⟩:=tV (a:=.im (LD T)) (b:=.im GD') (e:=.un) T [] [] .un hn (by rw[b8];exact AV n1) (by simp;omega) rfl;have hk:kS "gate" ∉ ks:=λz=>by have:=h1 _ z;rw[b8]at this;obtain⟨t,ht,e⟩:=aN.mp this;exact n3 _ (aM ht) _ (aW.mpr rfl) (Ke e)
 rw[dX]at h2;refine⟨.dic (ks++[kS "gate"]) (ds++[.int 2]),nW (ρ:=[.im (LD T),.im GD',.im (.dic (ks++[kS "gate"]) (ds++[.int 2])),s1,.im (mkD gate)]) rfl ?_⟩;unfold oX;refine(lF (ρ':=[.im (LD T),.im GD',.dk [] [],.un,.un]) rfl).trans ?_;refine(lF ((qv rfl).trans e1)).trans ?_;have e2:forL (gN 4) (oI 2 (c1 (l8 l5 "name") (cV 4)) (c1 (l8 pF "most") (cV 4))) [mkD gate] [.im (LD T),.im GD',.dk ks ds,s1,.un]=some (.nx [.im (LD T),.im GD',.dk (ks++[kS "gate"]) (ds++[.int 2]),s1,.im (mkD gate)]):=by unfold forL;rw[show gN 4 (mkD gate) [.im (LD T),.im GD',.dk ks ds,s1,.un]=some [.im (LD T),.im GD',.dk ks ds,s1,.im (mkD gate)] from rfl];simp only[v3 (i:=2) (fk:=c1 (l8 l5 "name") (cV 4)) (fv:=c1 (l8 pF "most") (cV 4)) (ρ:=[.im (LD T),.im GD',.dk ks ds,s1,.im (mkD gate)]) (x:="gate") (d:=.int 2) rfl rfl rfl hk (by omega) h3];rfl
 exact(lF ((qv rfl).trans e2)).trans rfl
theorem Ko(g:Good T)(ns:List Str)(rest:List L4.D):∃d,o3 [.obj 14 ("kept_things" ::ns) (LD T::rest),.str "you"]=some (.lst [.str d]):=by let ρ:List Sl:=[.im (.obj 14 ("kept_things" ::ns) (LD T::rest)),.im (.str Kd.you.s)];have y:=g.y1;unfold cK at y;obtain⟨t,et⟩:=List.length_eq_one_iff.mp y;have ht:t∈T:=(bf.mp (show t∈T.filter λt=>decide (t.k=.you) by rw[et];exact aW.mpr rfl)).1;refine⟨t.m,(IQ (ρ:=ρ) rfl (uK (sm tkD Tk.n (λt=>decide (t.k=.you)) T (ρ1:=ρ) rfl (by have:=g.len;omega) λt _=>⟨[.im (tkD t),.im (.str Kd.you.s)],[.im (tkD t),.im (.str Kd.you.s)],rfl,tM (mj (mD rfl (tS t)) rfl (xh t.k .you)),λ_=>⟨_,mD rfl (pX t),rfl⟩,λ_=>rfl⟩))).trans ?_⟩;rw[et];show some (D.lst [t.n])=_;rw[(g.nm t ht).1]
variable{ns:List Str}{r:List Sl}
theorem LV{r':List Sl}(h1:e (.im (.obj 14 ns ds)::r.map qZ)=some (d,r'))(h2:noC 15 14 d=true):rJ 15 e (.ob 14 ns ds::r)=some (d,.ob 14 ns ds::r):=by unfold rJ;simp only[h1,h2];rfl
theorem D6{nm:Str}(h1:e (.ob 14 ns ds::r)=some (d,.ob 14 ns ds::r))(h2:ns.contains nm=false)(h3:ds.length=ns.length)(h4:ns.length<900):mn 14 0 nm e (.ob 14 ns ds::r)=some (.nx (.ob 14 (ns++[nm]) (ds++[d])::r)):=by unfold mn;rw[h1];simp only[gZ,h2,h3,h4,if_true,dH,if_false];rfl
def wNs:List Str:=["kept_things", "kept_marks", "kept_dark", "kept_ways", "kept_verbs", "shared_verbs", "your_name", "things_by_name", "mosts_by_name", "verbs_by_word", "kept_rules", "shared_rules", "copied_rules", "rules_by_verb"]
def shL(y:Str):List L4.D:=(pM [.str y,.lst []]).getD []
def vwD:L4.D:=(oZ [.lst v9]).getD .non
def bvD(y:Str):L4.D:=(tQ [.lst (shL y)]).getD .non
def wA(d:L4.D)(y:Str)(d8 d9:L4.D):List L4.D:=[d,GD',.lst [],.lst [],.lst [],.lst v9,.str y,d8,d9,vwD,.lst [],.lst (shL y),.lst [],bvD y]
def wS(d:L4.D)(y:Str)(d8 d9:L4.D)(q:Sl)(k:Nat):List Sl:=[.ob 14 (wNs.take k) ((wA d y d8 d9).take k),.im d,.im GD',.im (.lst []),.im (.lst []),.im (.lst []),.im (.lst []),q]
theorem D7(g:Good T):∃q,m8 [LD T,GD',.lst [],.lst [],.lst [],.lst []]=some (some q):=by
 have i:In [] T T:=⟨g,f7 _,by decide⟩;have hn:nO []=true:=by kernel_rfl
 obtain⟨n1,n2,n3⟩:=i.names hn;have hl:=g.len;obtain⟨d9,e9⟩:=D5 (T:=T) (by omega) n3 (i.nd hn);obtain⟨y,ey⟩:=Ko g (wNs.tail.take 5) [GD',.lst [],.lst [],.lst [],.lst v9];have e8:=z6 (T:=T) (by omega) n3 n2;generalize ed8:D.dic (nK T) (T.map tkD)=d8 at e8;let S:=wS (LD T) y d8 d9;let B:Sl:=.im (.bl true);have e:m7 (S .un 0)=some (.nx (S B 14)):=by unfold m7;refine(lF (ρ':=S .un 0) (qz (ds:=pA (LD T) GD' v9) (lL rfl (lL rfl (lL rfl (lL rfl (lL rfl (lL (oH (l6 (ds:=[]) rfl GE)) rfl)))))) (z5 g))).trans ?_;refine(lF (ρ':=S .un 1) (by kernel_rfl)).trans ((lF (ρ':=S .un 2) (by kernel_rfl)).trans ((lF (ρ':=S .un 3) (by kernel_rfl)).trans ((lF (ρ':=S .un 4) (by kernel_rfl)).trans ((lF (ρ':=S .un 5) (by kernel_rfl)).trans ((lF (ρ':=S .un 6) (by kernel_rfl)).trans ?_)))));refine(lF (ρ':=S .un 7) (qL (D6 (r:=(S .un 6).tail) (LV (d:=.str y) (r':=(.im (.obj 14 (wNs.take 6) ((wA (LD T) y d8 d9).take 6)))::((S .un 6).tail).map qZ) (mj (x:=.lst [.str y]) (sJ (xs:=(wA (LD T) y d8 d9).take 6) (ys:=[.str "you"]) (hh:=o3) rfl rfl rfl rfl ey) rfl rfl) rfl) rfl rfl (by decide)))).trans ?_;refine(lF (ρ':=S .un 8) (qL (D6 (r:=(S .un 7).tail) (l6 (ds:=[LD T]) rfl e8) rfl rfl (by decide)))).trans ?_;refine(lF (ρ':=S .un 9) (qL (D6 (r:=(S .un 8).tail) (l6 (ds:=[LD T,GD']) rfl e9) rfl rfl (by decide)))).trans ?_;refine(lF (ρ':=S .un 10) (by kernel_rfl)).trans ((lF (ρ':=S B 10) (by kernel_rfl)).trans ((lF (ρ':=S B 10) (by kernel_rfl)).trans ((lF (ρ':=S B 11) (by kernel_rfl)).trans ((lF (ρ':=S B 12) (by kernel_rfl)).trans ((lF (ρ':=S B 13) (by kernel_rfl)).trans ?_)))));kernel_rfl
 have e':m7 (stI 14 8 [LD T,GD',.lst [],.lst [],.lst [],.lst []])=some (.nx (S B 14)):=e;refine⟨(wNs,wA (LD T) y d8 d9),?_⟩;unfold m8 fnXI;rw[ag (show [LD T,GD',.lst [],.lst [],.lst [],.lst []].length=6 from rfl),e'];dsimp only;unfold fnI;rw[ag (show [LD T,GD',.lst [],.lst [],.lst [],.lst []].length=6 from rfl),e'];rfl
def nmQ:List (List Tk):=[[⟨(.str "it"),(.tup [(.str "odd"),(.str "one")]),.plain,(.str "hall")⟩],[⟨(.str "other"),(.tup [(.str "odd"),(.str "one")]),.plain,(.str "hall")⟩],[⟨(.str "here"),(.tup [(.str "odd"),(.str "one")]),.plain,(.str "hall")⟩],[⟨(.str "the"),(.tup [(.str "odd"),(.str "one")]),.plain,(.str "hall")⟩],[⟨(.str "a"),(.tup [(.str "odd"),(.str "one")]),.plain,(.str "hall")⟩],[⟨(.str "undo"),(.tup [(.str "odd"),(.str "one")]),.plain,(.str "hall")⟩],[⟨(.str "restart"),(.tup [(.str "odd"),(.str "one")]),.plain,(.str "hall")⟩],[⟨(.str ""),(.tup [(.str "odd"),(.str "one")]),.plain,(.str "hall")⟩],[⟨(.str "Key"),(.tup [(.str "odd"),(.str "one")]),.plain,(.str "hall")⟩],[⟨(.str "ninesigns"),(.tup [(.str "odd"),(.str "one")]),.plain,(.str "hall")⟩],[⟨(.str "b2"),(.tup [(.str "odd"),(.str "one")]),.plain,(.str "hall")⟩],[⟨(.str "a b"),(.tup [(.str "odd"),(.str "one")]),.plain,(.str "hall")⟩],[⟨.non,(.tup [(.str "odd"),(.str "one")]),.plain,(.str "hall")⟩],[⟨(.int 5),(.tup [(.str "odd"),(.str "one")]),.plain,(.str "hall")⟩],[⟨(.tup [(.str "n")]),(.tup [(.str "odd"),(.str "one")]),.plain,(.str "hall")⟩],[⟨(.str "hall"),(.tup [(.str "odd"),(.str "one")]),.plain,(.str "hall")⟩],[⟨(.str "me"),(.tup [(.str "odd"),(.str "one")]),.plain,(.str "hall")⟩],[⟨(.str "gate"),(.tup [(.str "odd"),(.str "one")]),.plain,(.str "hall")⟩]]
theorem Kp:pb []=some (.lst (nmQ.map LD)):=by kernel_rfl
def stO:List (List Tk):=[[⟨(.str "odd"),(.tup [(.str "odd"),(.str "one")]),.plain,(.str "nobody")⟩],[⟨(.str "odd"),(.tup [(.str "odd"),(.str "one")]),.fixed,(.str "nobody")⟩],[⟨(.str "odd"),(.tup [(.str "odd"),(.str "one")]),.box,(.str "nobody")⟩],[⟨(.str "odd"),(.tup [(.str "odd"),(.str "one")]),.lamp,(.str "nobody")⟩],[⟨(.str "pebble"),(.tup [(.str "pebble")]),.plain,(.str "hall")⟩,⟨(.str "odd"),(.tup [(.str "odd"),(.str "one")]),.plain,(.str "pebble")⟩],[⟨(.str "pebble"),(.tup [(.str "pebble")]),.plain,(.str "hall")⟩,⟨(.str "odd"),(.tup [(.str "odd"),(.str "one")]),.box,(.str "pebble")⟩],[⟨(.str "pebble"),(.tup [(.str "pebble")]),.plain,(.str "hall")⟩,⟨(.str "odd"),(.tup [(.str "odd"),(.str "one")]),.lamp,(.str "pebble")⟩],[⟨(.str "odd"),(.tup [(.str "odd")]),.plain,.non⟩],[⟨(.str "odd"),(.tup [(.str "odd")]),.plain,(.int 3)⟩],[⟨(.str "odd"),(.tup [(.str "odd")]),.plain,(.str "gate")⟩],[⟨(.str "odd"),(.tup [(.str "odd")]),.plain,(.str "here")⟩],[⟨(.str "odd"),(.tup [(.str "odd")]),.plain,(.str "it")⟩],[⟨(.str "odd"),(.tup [(.str "odd")]),.plain,(.str "odd")⟩],[⟨(.str "odd"),(.tup [(.str "odd")]),.room,(.str "hall")⟩],[⟨(.str "odd"),(.tup [(.str "odd")]),.room,(.str "me")⟩],[⟨(.str "candle"),(.tup [(.str "candle")]),.lamp,(.str "me")⟩,⟨(.str "odd"),(.tup [(.str "odd"),(.str "one")]),.plain,(.str "candle")⟩]]
theorem Kq:oM []=some (.lst (stO.map LD)):=by kernel_rfl
def rgO:List (List Tk):=[[⟨(.str "odd"),(.tup [(.str "odd")]),.box,(.str "odd")⟩],[⟨(.str "odd"),(.tup [(.str "odd")]),.box,(.str "even")⟩,⟨(.str "even"),(.tup [(.str "even")]),.box,(.str "odd")⟩],[⟨(.str "odd"),(.tup [(.str "odd")]),.box,(.str "even")⟩,⟨(.str "even"),(.tup [(.str "even")]),.box,(.str "third")⟩,⟨(.str "third"),(.tup [(.str "third")]),.box,(.str "odd")⟩],[⟨(.str "case"),(.tup [(.str "case")]),.box,(.str "hall")⟩,⟨(.str "self"),(.tup [(.str "own")]),.you,(.str "case")⟩],[⟨(.str "self"),(.tup [(.str "own")]),.you,(.str "hall")⟩],[⟨(.str "self"),(.tup [(.str "own")]),.you,(.str "self")⟩]]
theorem Kr:pe []=some (.lst (rgO.map LD)):=by kernel_rfl
def wdO:List (List Tk):=[[⟨(.str "odd"),(.tup []),.plain,(.str "hall")⟩],[⟨(.str "odd"),(.tup [(.str "a")]),.plain,(.str "hall")⟩],[⟨(.str "odd"),(.tup [(.str "the"),(.str "odd")]),.plain,(.str "hall")⟩],[⟨(.str "odd"),(.tup [(.str "odd"),(.str "odd")]),.plain,(.str "hall")⟩],[⟨(.str "odd"),(.lst [(.str "odd")]),.plain,(.str "hall")⟩],[⟨(.str "odd"),(.str "odd"),.plain,(.str "hall")⟩],[⟨(.str "odd"),.non,.plain,(.str "hall")⟩],[⟨(.str "odd"),(.tup [(.str "Odd")]),.plain,(.str "hall")⟩],[⟨(.str "odd"),(.tup [(.str "thirteensigns")]),.plain,(.str "hall")⟩],[⟨(.str "odd"),(.tup [(.str "b2")]),.plain,(.str "hall")⟩],[⟨(.str "odd"),(.tup [(.str "o"),(.str "d"),(.str "e"),(.str "v"),(.str "n")]),.plain,(.str "hall")⟩],[⟨(.str "odd"),(.tup [(.str "")]),.plain,(.str "hall")⟩],[⟨(.str "odd"),(.tup [.non]),.plain,(.str "hall")⟩],[⟨(.str "odd"),(.tup [(.str "odd one")]),.plain,(.str "hall")⟩],[⟨(.str "odd"),(.int 7),.plain,(.str "hall")⟩],[⟨(.str "odd"),(.tup []),.room,.non⟩],[⟨(.str "odd"),(.tup [(.str "a")]),.room,.non⟩],[⟨(.str "odd"),(.tup [(.str "the"),(.str "odd")]),.room,.non⟩],[⟨(.str "odd"),(.tup [(.str "odd"),(.str "odd")]),.room,.non⟩],[⟨(.str "odd"),(.lst [(.str "odd")]),.room,.non⟩],[⟨(.str "odd"),(.str "odd"),.room,.non⟩],[⟨(.str "nail"),(.tup [(.str "big"),(.str "nail")]),.plain,(.str "hall")⟩,⟨(.str "odd"),(.tup [(.str "big"),(.str "nail")]),.fixed,(.str "hall")⟩],[⟨(.str "nail"),(.tup [(.str "big"),(.str "nail")]),.plain,(.str "hall")⟩,⟨(.str "odd"),(.tup [(.str "nail"),(.str "big")]),.fixed,(.str "hall")⟩],[⟨(.str "nail"),(.tup [(.str "big"),(.str "nail")]),.plain,(.str "hall")⟩,⟨(.str "odd"),(.tup [(.str "nail")]),.fixed,(.str "hall")⟩],[⟨(.str "nail"),(.tup [(.str "big"),(.str "nail")]),.plain,(.str "hall")⟩,⟨(.str "odd"),(.tup [(.str "nail"),(.str "big"),(.str "iron")]),.fixed,(.str "hall")⟩],[⟨(.str "nail"),(.tup [(.str "big"),(.str "nail")]),.plain,(.str "hall")⟩,⟨(.str "odd"),(.tup [(.str "iron"),(.str "nail"),(.str "big"),(.str "old")]),.fixed,(.str "hall")⟩]]
theorem Ks:pf []=some (.lst (wdO.map LD)):=by kernel_rfl
def kdK:List L4.D:=[(.str "door"),(.str ""),.non,(.str "Room"),(.str "Box"),(.int 3),(.str "lamps"),(.lst [(.str "box")]),(.str "it")]
def kdD(k:L4.D):L4.D:=.obj 0 ["name", "words", "kind", "start"] [.str "odd", .tup [.str "odd", .str "one"],k,.str "hall"]
theorem Kt:pd []=some (.lst (kdK.map λk=>.lst [kdD k])):=by kernel_rfl
def hO(O:List Tk):Bool:=O.all (λo=>match o.k with|.room=>y9 o.s|.you=>false|_=>match o.s with|.str x=>decide (x="hall")|_=>false)
def hH(O:List Tk):Bool:=(plW.map cq++O.map Tk.w).all λa=>(plW.map cq++O.map Tk.w).all λb=>isB (nu [a,b])
def q1(O:List Tk):Bool:=kO O&&(O.all (λo=>isB (lV [o.n]))&&!O.all (λo=>isT (lV [o.n])))
def q2(O:List Tk):Bool:=kO O&&(O.all (λo=>isS o.n)&&(O.all (λo=>isT (lV [o.n]))&&O.any λo=>decide (o.m∈(["hall", "me", "gate"]:List Str))))
def q3(O:List Tk):Bool:=kO O&&(nO O&&(O.all (λo=>sOk o.s)&&O.any (bS O)))
def q4(O:List Tk):Bool:=kO O&&(nO O&&(O.all (λo=>sOk o.s)&&(O.all (gS O)&&(!O.isEmpty&&O.all (λo=>O.any λu=>match o.s with|.str x=>decide (u.m=x)|_=>false)))))
def q5(O:List Tk):Bool:=c6 (cK .room O) 0&&bK 1 (cK .you O)
def q6(O:List Tk):Bool:=kO O&&(nO O&&(hO O&&(O.all (λo=>isB (l9 [o.w]))&&!O.all (λo=>isT (l9 [o.w])))))
def q7(O:List Tk):Bool:=kO O&&(nO O&&(hO O&&(O.all (λo=>isT (l9 [o.w]))&&(hH O&&O.any λt=>t.k.pl&&O.any λu=>u.k.pl&&(!decide (u.m=t.m)&&hA u t)))))
def bad(O:List Tk):Bool:=bK O.length 3&&(q1 O||(q2 O||(q3 O||(q4 O||(q5 O||(q6 O||q7 O))))))
theorem LW:nmQ.all bad=true:=by kernel_rfl
theorem LX:stO.all bad=true:=by kernel_rfl
theorem LY:rgO.all bad=true:=by kernel_rfl
theorem LZ:wdO.all bad=true:=by kernel_rfl
theorem Ku{O T':List Tk}(g:Good T)(p:T'.Perm (O++T))(h:bad O=true):l4 (pA (LD T') GD' v9)=some false:=by
 unfold bad at h;rw[aB]at h;have i:In O T T':=⟨g,p,cg h.1⟩;have h:=h.2;unfold q1 q2 q3 q4 q5 q6 q7 hO hH at h;simp only[dZ,aB,cj]at h;rcases h with h|h|h|h|h|h|h
 ·exact i.no_name h.1 h.2.1 h.2.2
 ·exact i.same_name h.1 h.2.1 h.2.2.1 h.2.2.2
 ·exact i.no_start h.1 h.2.1 h.2.2.1 h.2.2.2
 ·exact i.ring h.1 h.2.1 h.2.2.1 h.2.2.2.1 (λz=>by rw[z]at h;exact aq h.2.2.2.2.1 (by decide)) h.2.2.2.2.2
 ·exact i.two (fI h.1) (cg h.2)
 ·exact i.no_word h.1 h.2.1 h.2.2.1 h.2.2.2.1 h.2.2.2.2
 ·exact i.alike h.1 h.2.1 h.2.2.1 h.2.2.2.1 h.2.2.2.2.1 h.2.2.2.2.2
theorem F9:(kdK.all λk=>isB (mq [k,oq])&&!isT (mq [k,oq]))=true:=by kernel_rfl
theorem L0(g:Good T)(a:Nat){k:L4.D}(hk:k∈kdK):mr [.lst ((T.map tkD).take a++[kdD k]++(T.map tkD).drop a)]=some false:=by
 have hq:=az.mp F9 k hk;rw[aB,cj]at hq;let L:List L4.D:=(T.map tkD).take a++[kdD k]++(T.map tkD).drop a;have hm:∀d∈L,d=kdD k\/∃t∈T,d=tkD t:=λd hd=>by
  have tk:d∈T.map tkD->∃t∈T,d=tkD t:=λh=>by obtain⟨t,ht,e⟩:=aN.mp h;exact⟨t,ht,e.symm⟩
  rcases bg.mp hd with hd|hd
  ·rcases bg.mp hd with hd|hd
   ·exact .inr (tk (fL hd))
   ·exact .inl (aW.mp hd)
  ·exact .inr (tk (ip hd))
 have hl:L.length<=1000:=by show ((T.map tkD).take a++[kdD k]++(T.map tkD).drop a).length<=1000;rw[aC,aC,bu,dc,aj,bN];have:=g.len;omega
 have kk:∀d∈L,∃x,l8 mx "kind" d=some x/\mq [x,oq]=some (.bl (isT (mq [(l8 mx "kind" d).getD .non,oq]))):=λd hd=>by
  rcases hm d hd with rfl|⟨t,_,rfl⟩
  ·exact⟨k,rfl,xZ hq.1⟩
  ·exact⟨.str t.k.s,rfl,by
    rw[x8];show _=some (D.bl (isT (mq [.str t.k.s,oq])));rw[x8];rfl⟩
 have:=F5 (λd:L4.D=>d) (λd=>isT (mq [(l8 mx "kind" d).getD .non,oq])) L hl (λd hd=>by
  rcases hm d hd with rfl|⟨t,_,rfl⟩<;>rfl) kk (tR (a:=kdD k) (bo _ (aV _ (aW.mpr rfl))) hq.2)
 rw[show L.map (λd:L4.D=>d)=L from gB L]at this;exact this
def menu:List L4.D:=nmQ.map LD++(kdK.map λk=>.lst [kdD k])++stO.map LD++rgO.map LD++wdO.map LD
theorem Kv(g:Good T)(a:Nat)(hd:d∈menu):∃o:List L4.D,d=.lst o/\o.length<=3/\mi [.lst ((T.map tkD).take a++o++(T.map tkD).drop a),GD']=some (.bl true):=by
 have key:∀O:List Tk,bad O=true->∃o:List L4.D,LD O=.lst o/\o.length<=3/\mi [.lst ((T.map tkD).take a++o++(T.map tkD).drop a),GD']=some (.bl true):=λO h=>by
  refine⟨O.map tkD,rfl,?_,?_⟩
  ·rw[aj];unfold bad at h;rw[aB]at h;exact cg h.1
  ·rw[<-jy,<- jx,<- bE,<- bE];refine refused (Ku g ?_ h);refine(List.perm_append_comm_assoc (T.take a) O (T.drop a)|> λz=>(by rw[bO];exact z:(T.take a++O++T.drop a).Perm (O++(T.take a++T.drop a)))).trans ?_;rw[List.take_append_drop]
 unfold menu at hd;rcases bg.mp hd with hd|hd
 ·rcases bg.mp hd with hd|hd
  ·rcases bg.mp hd with hd|hd
   ·rcases bg.mp hd with hd|hd
    ·obtain⟨O,h,rfl⟩:=aN.mp hd;exact key O (az.mp LW O h)
    ·obtain⟨k,h,rfl⟩:=aN.mp hd;exact⟨[kdD k],rfl,(by show 1<=3;decide),refused (xj (L0 g a h))⟩
   ·obtain⟨O,h,rfl⟩:=aN.mp hd;exact key O (az.mp LX O h)
  ·obtain⟨O,h,rfl⟩:=aN.mp hd;exact key O (az.mp LY O h)
 ·obtain⟨O,h,rfl⟩:=aN.mp hd;exact key O (az.mp LZ O h)
theorem D8:menu.length=75:=by kernel_rfl
theorem AY(ns:List Int)(k:Nat):∃c,mO [.fzl (ns.map D.int),.int k]=some (.int c):=by
 let ρ:List Sl:=[.im (.fzl (ns.map D.int)),.im (.int k)];have ev:cT (c2 Fi (cV 1) (c1 nE (cV 0))) ρ=some (decide ((k:Int)<((ns.map D.int).length:Nat)),ρ):=rfl;rw[aj]at ev;by_cases h:k<ns.length
 ·rw[bj (by omega)]at ev;refine⟨ns[k],nW (ρ:=ρ) rfl (pj ((qt ev).trans (oG (mj (x:=.fzl (ns.map D.int)) (y:=.int k) rfl rfl ?_))))⟩;exact rp (by rw[aS,aR h];rfl)
 ·rw[aX (by omega)]at ev;exact⟨0,nW (ρ:=ρ) rfl ((lF ((o7 ev).trans rfl)).trans rfl)⟩
def lB:FS:=(lJ (mF 5 (lN mO (aCons (cV 0) (a1 (cV 4)))))
 (lJ (mF 6 (c2 dIx (cV 3) (c2 nQ (c2 oa (cV 5) (c2 pC (cC (.int 7)) (cV 4))) (c1 nE (cV 3)))))
 (lJ (mF 7 (c2 nQ (c2 qD (cV 5) (c1 nE (cV 3))) (c2 oa (c1 nE (cV 1)) (cC (.int 1)))))
 (sIf (p6 (cT (lN mi (aCons (cL (mL (cL (mL (cL (rF (cV 1) oNo (oAt (cV 7)))) (cV 6))) (cL (rF (cV 1) (oAt (cV 7)) oNo)))) (a1 (cL (lZ (a1 (cV 2))))))))) (mK (cC (.bl false))) nv))))
theorem Ga(g:Good T)(ns:List Int)(k:Nat)(s5 s6 s7:Sl):∃t5 t6 t7,lB [.im (.fzl (ns.map D.int)),.im (LD T),.im (mkD gate),.im (.lst menu),.im (.int k),s5,s6,s7]=some (.nx [.im (.fzl (ns.map D.int)),.im (LD T),.im (mkD gate),.im (.lst menu),.im (.int k),t5,t6,t7]):=by
 obtain⟨c,ec⟩:=AY ns k;let S:Sl:=.im (.fzl (ns.map D.int));let A:Sl:=.im (LD T);let G:Sl:=.im (mkD gate);let M:Sl:=.im (.lst menu);let K:Sl:=.im (.int k);have lm:=D8;have lt:=g.len;obtain⟨j,hj⟩:=cw (dg (c+7 * (k:Int)) (by decide:(75:Int)≠0));have hj7:j<menu.length:=by have:=c9 (c+7 * (k:Int)) (by decide:(0:Int)<75);omega
 obtain⟨o,eo,lo,er⟩:=Kv g ((c / 75 % ((T.length:Int)+1)).toNat) (cU hj7);obtain⟨a,ha⟩:=cw (dg (c / 75) (by omega:(T.length:Int)+1≠0));have haT:a<=T.length:=by have:=c9 (c / 75) (by omega:(0:Int)<(T.length:Int)+1);omega
 rw[ha,eQ]at er;let ρ7:List Sl:=[S,A,G,M,K,.im (.int c),.im (.lst o),.im (.int (a:Nat))];refine⟨.im (.int c),.im (.lst o),.im (.int (a:Nat)),?_⟩;unfold lB;refine(lF (ρ':=[S,A,G,M,K,.im (.int c),s6,s7]) ((m6 (l6 (ds:=[.fzl (ns.map D.int),.int k]) (ρ1:=[S,A,G,M,K,s5,s6,s7]) rfl ec)).trans rfl)).trans ?_;have h7:pS 7=true:=by decide
 have eL:∀(x y:Sl),c1 nE (cV 3) [S,A,G,M,K,.im (.int c),x,y]=some (.int 75,[S,A,G,M,K,.im (.int c),x,y]):=λx y=>mD rfl (by show some (D.int (menu.length:Nat))=_;rw[lm];rfl);refine(lF (ρ':=[S,A,G,M,K,.im (.int c),.im (.lst o),s7]) ((m6 (mj (x:=.lst menu) (y:=.int (j:Nat)) (ρ1:=[S,A,G,M,K,.im (.int c),s6,s7]) rfl ((mj (x:=.int (c+7 * (k:Int))) (y:=.int 75) (mj rfl (mj rfl rfl (pq (.inl h7))) rfl) (eL s6 s7) (pO (by decide))).trans (by rw[hj])) (z:=.lst o) ?_)).trans rfl)).trans ?_
 ·rw[<-eo];exact rp (aR hj7)
 refine(lF (ρ':=ρ7) ((m6 (mj (x:=.int (c / 75)) (y:=.int ((T.length:Int)+1)) (ρ1:=[S,A,G,M,K,.im (.int c),.im (.lst o),s7]) (mj rfl (eL _ s7) (div_pos (by decide) (by decide))) (mj (x:=.int (T.length:Int)) (y:=.int 1) (mD rfl (by show some (D.int _)=_;rw[aj])) rfl rfl) (pO (by omega)))).trans (by rw[ha];rfl))).trans ?_;have lTk:((T.map tkD).take a).length<=9:=by rw[bu,aj];omega
 have lDr:((T.map tkD).drop a).length<=9:=by rw[dc,aj];omega
 have x1:rF (cV 1) oNo (oAt (cV 7)) ρ7=some ((T.map tkD).take a,ρ7):=(zW (ds:=T.map tkD) (ρ1:=ρ7) (ρ2:=ρ7) (ρ3:=ρ7) (l:=none) (u:=some (a:Int)) rfl rfl rfl).trans (by rw[D3 a (by rw[aj];exact haT)]);have x2:rF (cV 1) (oAt (cV 7)) oNo ρ7=some ((T.map tkD).drop a,ρ7):=(zW (ds:=T.map tkD) (ρ1:=ρ7) (ρ2:=ρ7) (ρ3:=ρ7) (l:=some (a:Int)) (u:=none) rfl rfl rfl).trans (by rw[Ki a (by rw[aj];exact haT)]);have x3:cL (mL (cL (mL (cL (rF (cV 1) oNo (oAt (cV 7)))) (cV 6))) (cL (rF (cV 1) (oAt (cV 7)) oNo))) ρ7=some (.lst ((T.map tkD).take a++o++(T.map tkD).drop a),ρ7):=
  oH (qu (oH (qu (oH x1) (ys:=o) (ρ2:=ρ7) rfl (by omega))) (oH x2) (by rw[aC];omega))
 have et:p6 (cT (lN mi (aCons (cL (mL (cL (mL (cL (rF (cV 1) oNo (oAt (cV 7)))) (cV 6))) (cL (rF (cV 1) (oAt (cV 7)) oNo)))) (a1 (cL (lZ (a1 (cV 2)))))))) ρ7=some (false,ρ7):=by unfold p6;rw[tM (l6 (lL x3 (lL rfl rfl)) er)];rfl
 exact(o7 et).trans rfl
theorem AZ{T:List Tk}(g:Good T)(ns:List Int):∀(l:List Nat) (s4 s5 s6 s7:Sl),∃t4 t5 t6 t7,forL (gN 4) lB (l.map λk:Nat=>D.int (k:Nat)) [.im (.fzl (ns.map D.int)),.im (LD T),.im (mkD gate),.im (.lst menu),s4,s5,s6,s7]=some (.nx [.im (.fzl (ns.map D.int)),.im (LD T),.im (mkD gate),.im (.lst menu),t4,t5,t6,t7])
 |[],s4,s5,s6,s7=>⟨s4,s5,s6,s7,rfl⟩
 |k::l,s4,s5,s6,s7=>by obtain⟨t5,t6,t7,e⟩:=Ga g ns k s5 s6 s7;obtain⟨u4,u5,u6,u7,e2⟩:=AZ g ns l (.im (.int k)) t5 t6 t7;refine⟨u4,u5,u6,u7,?_⟩;rw[aK];unfold forL;rw[show gN 4 (.int (k:Nat)) [.im (.fzl (ns.map D.int)),.im (LD T),.im (mkD gate),.im (.lst menu),s4,s5,s6,s7]=some [.im (.fzl (ns.map D.int)),.im (LD T),.im (mkD gate),.im (.lst menu),.im (.int k),s5,s6,s7] from rfl];simp only[e];exact e2
theorem Kw(ns:List Int)(hl:ns.length<=63):GA [.fzl (ns.map D.int)]=some (.bl true):=by
 obtain⟨c0,e0⟩:=AY ns 0;obtain⟨T0,es',d0,xt⟩:=BZ (es:=[.int c0]) (.inl ⟨c0,rfl⟩);rw[LR]at xt;have g:=F7 d0;generalize T0.map Th.tk=T at xt g;obtain⟨q,ew⟩:=D7 g;have el:mi [LD T,GD']=some (.bl false):=Kh ew;let S:Sl:=.im (.fzl (ns.map D.int));let A:Sl:=.im (LD T);let G:Sl:=.im (mkD gate);let M:Sl:=.im (.lst menu);let U:Sl:=.un;let m:Int:=if (if (ns.length:Int)<40 then (ns.length:Int)else 40) > 2 then (if (ns.length:Int)<40 then (ns.length:Int)else 40)else 2
 have hm:2<=m/\m<=63:=by show 2<=(if _ then _ else _:Int)/\(if _ then _ else _:Int)<=63;split<;>split<;>omega
 obtain⟨t4,t5,t6,t7,e5⟩:=AZ g ns ((bb (m - 1).toNat).map (1 + ·)) U U U U
 have er:∀(a b c d e:Sl),lN mi (aCons (cV 1) (a1 (cL (lZ (a1 (cV 2)))))) [S,A,G,a,b,c,d,e]=some (.bl false,[S,A,G,a,b,c,d,e]):=λa b c d e=>l6 (ds:=[LD T,GD']) rfl el;refine nW (ρ:=[S,A,G,M,t4,t5,t6,t7]) rfl ?_;unfold AN;refine(lF (ρ':=[S,A,U,U,U,U,U,U]) ((m6 (i:=1) (d:=LD T) (ρ':=[S,U,U,U,U,U,U,U]) ?_).trans rfl)).trans ?_
 ·have e1:lZ (a1 (lN mO (aCons (cV 0) (a1 (cC (.int 0)))))) [S,U,U,U,U,U,U,U]=some ([.int c0],[S,U,U,U,U,U,U,U]):=Iw (lL (l6 (ds:=[.fzl (ns.map D.int),.int 0]) rfl e0) rfl) (cg rfl);show (match lZ (a1 (lN mO (aCons (cV 0) (a1 (cC (.int 0)))))) [S,U,U,U,U,U,U,U]with
   |some (ns,ρ2)=>match nU ns []with|some (d,_)=>some (d,ρ2)|none=>none
   |none=>none)=_
  rw[e1];show (match nU [.int c0] []with|some (d,_)=>some (d,[S,U,U,U,U,U,U,U])|none=>none)=_;rw[xt]
 refine(lF (ρ':=[S,A,G,U,U,U,U,U]) rfl).trans ?_;refine(lF (ρ':=[S,A,G,U,U,U,U,U]) ((o7 (tM (er U U U U U))).trans rfl)).trans ?_;have em:cL (mL (cL (mL (cL (mL (cL (mL (lN pb ml) (lN pd ml))) (lN oM ml))) (lN pe ml))) (lN pf ml)) [S,A,G,U,U,U,U,U]=some (.lst menu,[S,A,G,U,U,U,U,U]):=
  oH (qu (oH (qu (oH (qu (oH (qu (l6 (ds:=[]) rfl Kp) (l6 (ds:=[]) rfl Kt) (cg (by kernel_rfl)))) (l6 (ds:=[]) rfl Kq) (cg (by kernel_rfl)))) (l6 (ds:=[]) rfl Kr) (cg (by kernel_rfl)))) (l6 (ds:=[]) rfl Ks) (cg (by kernel_rfl)))
 refine(lF (ρ':=[S,A,G,M,U,U,U,U]) ((m6 em).trans rfl)).trans ?_;refine(lF ((qv (ds:=((bb (m - 1).toNat).map (1 + ·)).map λk:Nat=>D.int (k:Nat)) (ρ1:=[S,A,G,M,U,U,U,U]) ?_).trans e5)).trans ?_
 ·have em2:c2 dMax2 (cC (.int 2)) (c2 dMin2 (cC (.int 40)) (c1 nE (cV 0))) [S,A,G,M,U,U,U,U]=some (.int m,[S,A,G,M,U,U,U,U]):=by refine mj (x:=.int 2) (y:=.int (if (ns.length:Int)<40 then (ns.length:Int)else 40)) rfl (mj (x:=.int 40) (y:=.int (ns.length:Nat)) rfl (mD rfl (by show some (D.int _)=_;rw[aj])) rfl) rfl
  unfold iR2;show (match c2 dMax2 (cC (.int 2)) (c2 dMin2 (cC (.int 40)) (c1 nE (cV 0))) [S,A,G,M,U,U,U,U]with
   |some (.int j,ρ2)=>if (-1000000<=(1:Int)/\(1:Int)<=1000000)/\-1000000<=j/\j<=1000000 then some (rE 1 (j - 1).toNat,ρ2)else none
   |_=>none)=_
  rw[em2];show (if (-1000000<=(1:Int)/\(1:Int)<=1000000)/\-1000000<=m/\m<=1000000 then some (rE 1 (m - 1).toNat,[S,A,G,M,U,U,U,U])else none)=_;rw[ag (by omega)];unfold rE;rw[bz];congr 2
 refine oG ?_;unfold ve;rw[er];rfl
end K06x
namespace K06x
open PySem L2 L3 L4
open PySem.W (nsIn)
structure Fx(K:ai)(C0 C1 C2 C3 C4 C5 C6 C7 C8 C9 C10 C11 C12 C13 C14 C15:Addr):Prop where
 a0:nsIn K aA "Thing" = some (some (.ref C0))
 a1:nsIn K aA "Mark" = some (some (.ref C1))
 a2:nsIn K aA "Verb" = some (some (.ref C2))
 a3:nsIn K aA "At" = some (some (.ref C3))
 a4:nsIn K aA "Has" = some (some (.ref C4))
 a5:nsIn K aA "Seen" = some (some (.ref C5))
 a6:nsIn K aA "Marked" = some (some (.ref C6))
 a7:nsIn K aA "Kind" = some (some (.ref C7))
 a8:nsIn K aA "Word" = some (some (.ref C8))
 a9:nsIn K aA "Not" = some (some (.ref C9))
 a10:nsIn K aA "Both" = some (some (.ref C10))
 a11:nsIn K aA "Move" = some (some (.ref C11))
 a12:nsIn K aA "Put" = some (some (.ref C12))
 a13:nsIn K aA "Rule" = some (some (.ref C13))
 a14:nsIn K aA "World" = some (some (.ref C14))
 k0:CF K C0 ["kind", "name", "start", "words"]
 k1:CF K C1 ["most", "name", "start"]
 k2:CF K C2 ["joining", "name", "others", "form"]
 k3:CF K C3 ["place", "term"]
 k4:CF K C4 ["term"]
 k5:CF K C5 []
 k6:CF K C6 ["term", "value"]
 k7:CF K C7 ["kind", "term"]
 k8:CF K C8 []
 k9:CF K C9 ["inner"]
 k10:CF K C10 []
 k11:CF K C11 ["place", "term"]
 k12:CF K C12 ["term", "value"]
 k13:CF K C13 ["verb", "deeds", "refuses", "tests", "text"]
 k14:CF K C14 ["copied_rules", "kept_things", "kept_verbs", "shared_rules", "shared_verbs", "your_name", "kept_dark", "kept_marks", "kept_rules", "kept_ways", "mosts_by_name", "rules_by_verb", "things_by_name", "verbs_by_word"]
 ax:nsIn K aA "NoWorld" = some (some (.ref C15))
 xx:XC K C15
 i_Mark:uP K [C0,C1,C2,C3,C4,C5,C6,C7,C8,C9,C10,C11,C12,C13,C14] C1 1=true
 i_Thing:uP K [C0,C1,C2,C3,C4,C5,C6,C7,C8,C9,C10,C11,C12,C13,C14] C0 0=true
 nd:decide ([C0,C1,C2,C3,C4,C5,C6,C7,C8,C9,C10,C11,C12,C13,C14]:List Addr).Nodup=true
 e:((["all", "any", "bool", "int", "isinstance", "len", "list", "max", "min", "range", "set", "str", "tuple"]:List Str).all λx=>match nsIn K aA x with|some none=>true|_=>false)=true
 g0:GS K "KINDS" ["room", "plain", "fixed", "box", "lamp", "you"]
 g1:GS K "KINDS_APART" ["room", "you"]
 g2:GS K "KINDS_THAT_HOLD" ["room", "box", "you"]
 g3:GS K "KINDS_WITH_MARK" ["box", "lamp"]
 g4:GC K "MOST_BESIDE" 7
 g5:GC K "MOST_IN_NAME" 8
 g6:GC K "MOST_IN_WORD" 12
 g7:GC K "MOST_MARKS" 4
 g8:GC K "MOST_OF_MARK" 3
 g9:GC K "MOST_ROOMS" 5
 g10:GC K "MOST_RULES" 20
 g11:GC K "MOST_VERBS" 6
 g12:GC K "MOST_WAYS" 10
 g13:GC K "MOST_WORDS" 4
 g14:GS K "NO_NAMES" ["it", "other", "here", "the", "a", "undo", "restart"]
 g15:GS K "NO_WORDS" ["the", "a"]
 g16:GS K "NO_WORDS_OF_ROWS" ["the", "a", "undo", "restart"]
 q17:GD K "is_small_letters" (top 18)
 q18:GD K "is_name" (top 19)
 q19:GD K "is_word" (top 20)
 q20:GD K "is_one_of" (top 22)
 q21:GD K "is_whole" (top 23)
 q22:GD K "is_list_up_to" (top 24)
 q23:GD K "own_list" (top 96)
 q24:GJ K C0 "Thing.__init__" (inClass (top 10) 0) [V.non]
 q25:GM K C1 "__init__" "Mark.__init__" (inClass (top 11) 0)
 q26:GJ K C2 "Verb.__init__" (inClass (top 12) 0) [V.non,(V.str "one"),V.non]
 q27:GM K C3 "__init__" "At.__init__" (inClass (top 73) 0)
 q28:GM K C4 "__init__" "Has.__init__" (inClass (top 74) 0)
 q29:GM K C6 "__init__" "Marked.__init__" (inClass (top 76) 0)
 q30:GM K C7 "__init__" "Kind.__init__" (inClass (top 77) 0)
 q31:GM K C9 "__init__" "Not.__init__" (inClass (top 80) 0)
 q32:GM K C11 "__init__" "Move.__init__" (inClass (top 87) 0)
 q33:GM K C12 "__init__" "Put.__init__" (inClass (top 88) 0)
 q34:GJ K C13 "Rule.__init__" (inClass (top 95) 0) [(V.bl false)]
 q35:GM K C0 "can_hold" "Thing.can_hold" (inClass (top 10) 1)
 q36:GM K C0 "has_mark" "Thing.has_mark" (inClass (top 10) 2)
 q37:GM K C0 "is_plainly" "Thing.is_plainly" (inClass (top 10) 3)
 q38:GD K "refuse_unless" (top 34)
 q39:GD K "count_of" (top 37)
 q40:GD K "plain_ones" (top 38)
 q41:GD K "is_mark" (top 40)
 q42:GD K "check_things" (top 36)
 q43:GD K "check_marks" (top 39)
 q44:GD K "are_unlike" (top 42)
 q45:GD K "check_names" (top 41)
 q46:GD K "mark_names" (top 43)
 q47:GD K "is_start" (top 45)
 q48:GD K "comes_to_room" (top 46)
 q49:GD K "check_starts" (top 44)
 q50:GD K "are_words" (top 48)
 q51:GD K "has_all" (top 50)
 q52:GD K "is_told_apart" (top 49)
 q53:GD K "check_words_of_things" (top 47)
 q54:GD K "check_dark" (top 51)
 q55:GD K "check_ways" (top 52)
 q56:GD K "check_verbs" (top 54)
 q57:GD K "are_apart" (top 57)
 q58:GD K "check_vocabulary" (top 56)
 q59:GD K "check_parts" (top 35)
 q60:GD K "does" (top 119)
 q61:GD K "refuses" (top 120)
 q62:GD K "hand_rules" (top 121)
 q63:GD K "put_rules" (top 122)
 q64:GD K "lid_rules" (top 123)
 q65:GD K "flame_rules" (top 124)
 q66:GD K "go_rules" (top 125)
 q67:GD K "wait_rules" (top 127)
 q68:GD K "common_rules" (top 118)
 q69:GD K "common_verbs" (top 117)
 q70:GD K "by_name" (top 131)
 q71:GD K "mosts_by_name" (top 132)
 q72:GD K "verbs_by_word" (top 133)
 q73:GD K "by_verb" (top 134)
 q74:GM K C14 "of_kind" "World.of_kind" (inClass (top 130) 3)
 q75:GM K C14 "all_verbs" "World.all_verbs" (inClass (top 130) 13)
 q76:GM K C14 "__init__" "World.__init__" (inClass (top 130) 0)
 q77:GD K "_law_cell_at" (top 136)
 q78:GD K "_law_digit" (top 137)
 q79:GD K "_law_things" (top 138)
 q80:GD K "_law_named" (top 139)
 q81:GD K "_law_kinds" (top 140)
 q82:GD K "_law_starts" (top 141)
 q83:GD K "_law_rings" (top 142)
 q84:GD K "_law_words" (top 143)
 q85:GD K "_law_refused" (top 144)
 q86:GD K "law" (top 145)
class Yx(B:Bz):Prop where
 y:Yw B.P B.w B.mg B.base B.G
 f:Fx B.G.K (B.G.ca 0) (B.G.ca 1) (B.G.ca 2) (B.G.ca 3) (B.G.ca 4) (B.G.ca 5) (B.G.ca 6) (B.G.ca 7) (B.G.ca 8) (B.G.ca 9) (B.G.ca 10) (B.G.ca 11) (B.G.ca 12) (B.G.ca 13) (B.G.ca 14) (B.G.ca 15)
section
variable{B:Bz}[Y:Yx B]
instance:Yb B:=⟨Y.y⟩
instance:Nb B "all" := ⟨Y.y.n Y.f.e 0 rfl⟩
instance:Nb B "any" := ⟨Y.y.n Y.f.e 1 rfl⟩
instance:Nb B "bool" := ⟨Y.y.n Y.f.e 2 rfl⟩
instance:Nb B "int" := ⟨Y.y.n Y.f.e 3 rfl⟩
instance:Nb B "isinstance" := ⟨Y.y.n Y.f.e 4 rfl⟩
instance:Nb B "len" := ⟨Y.y.n Y.f.e 5 rfl⟩
instance:Nb B "list" := ⟨Y.y.n Y.f.e 6 rfl⟩
instance:Nb B "max" := ⟨Y.y.n Y.f.e 7 rfl⟩
instance:Nb B "min" := ⟨Y.y.n Y.f.e 8 rfl⟩
instance:Nb B "range" := ⟨Y.y.n Y.f.e 9 rfl⟩
instance:Nb B "set" := ⟨Y.y.n Y.f.e 10 rfl⟩
instance:Nb B "str" := ⟨Y.y.n Y.f.e 11 rfl⟩
instance:Nb B "tuple" := ⟨Y.y.n Y.f.e 12 rfl⟩
instance:Co B "KINDS" oq:=⟨Y.y.cs Y.f.g0⟩
instance:Co B "KINDS_APART" rL:=⟨Y.y.cs Y.f.g1⟩
instance:Co B "KINDS_THAT_HOLD" pP:=⟨Y.y.cs Y.f.g2⟩
instance:Co B "KINDS_WITH_MARK" pQ:=⟨Y.y.cs Y.f.g3⟩
instance:Co B "MOST_BESIDE" oK:=⟨Y.y.ci Y.f.g4⟩
instance:Co B "MOST_IN_NAME" ra:=⟨Y.y.ci Y.f.g5⟩
instance:Co B "MOST_IN_WORD" rb:=⟨Y.y.ci Y.f.g6⟩
instance:Co B "MOST_MARKS" sL:=⟨Y.y.ci Y.f.g7⟩
instance:Co B "MOST_OF_MARK" rf:=⟨Y.y.ci Y.f.g8⟩
instance:Co B "MOST_ROOMS" qx:=⟨Y.y.ci Y.f.g9⟩
instance:Co B "MOST_RULES" sO:=⟨Y.y.ci Y.f.g10⟩
instance:Co B "MOST_VERBS" sM:=⟨Y.y.ci Y.f.g11⟩
instance:Co B "MOST_WAYS" ug:=⟨Y.y.ci Y.f.g12⟩
instance:Co B "MOST_WORDS" sN:=⟨Y.y.ci Y.f.g13⟩
instance:Co B "NO_NAMES" vO:=⟨Y.y.cs Y.f.g14⟩
instance:Co B "NO_WORDS" vP:=⟨Y.y.cs Y.f.g15⟩
instance:Co B "NO_WORDS_OF_ROWS" pG:=⟨Y.y.cs Y.f.g16⟩
instance:Ff B p8 "copied_rules" := ⟨sd (Y.f.k14.at 0 rfl)⟩
instance:Ff B q8 "joining" := ⟨sd (Y.f.k2.at 0 rfl)⟩
instance:Ff B qF "kept_things" := ⟨sd (Y.f.k14.at 1 rfl)⟩
instance:Ff B q9 "kept_verbs" := ⟨sd (Y.f.k14.at 2 rfl)⟩
instance:Ff B mx "kind" := ⟨orQ (sd (Y.f.k0.at 0 rfl)) (Y.f.k7.at 0 rfl)⟩
instance:Ff B pF "most" := ⟨sd (Y.f.k1.at 0 rfl)⟩
instance:Ff B l5 "name" := ⟨orQ (orQ (sd (Y.f.k0.at 1 rfl)) (Y.f.k1.at 1 rfl)) (Y.f.k2.at 1 rfl)⟩
instance:Ff B se "others" := ⟨sd (Y.f.k2.at 2 rfl)⟩
instance:Ff B p9 "shared_rules" := ⟨sd (Y.f.k14.at 3 rfl)⟩
instance:Ff B qa "shared_verbs" := ⟨sd (Y.f.k14.at 4 rfl)⟩
instance:Ff B nP "start" := ⟨orQ (sd (Y.f.k0.at 2 rfl)) (Y.f.k1.at 2 rfl)⟩
instance:Ff B y6 "verb" := ⟨sd (Y.f.k13.at 0 rfl)⟩
instance:Ff B mS "words" := ⟨sd (Y.f.k0.at 3 rfl)⟩
instance:Ff B rK "your_name" := ⟨sd (Y.f.k14.at 5 rfl)⟩
instance:Af B 0 ["kind", "name", "start", "words"]:=⟨Y.f.k0⟩
instance:Af B 1 ["most", "name", "start"]:=⟨Y.f.k1⟩
instance:Af B 2 ["joining", "name", "others", "form"]:=⟨Y.f.k2⟩
instance:Af B 3 ["place", "term"]:=⟨Y.f.k3⟩
instance:Af B 4 ["term"]:=⟨Y.f.k4⟩
instance:Af B 6 ["term", "value"]:=⟨Y.f.k6⟩
instance:Af B 7 ["kind", "term"]:=⟨Y.f.k7⟩
instance:Af B 9 ["inner"]:=⟨Y.f.k9⟩
instance:Af B 11 ["place", "term"]:=⟨Y.f.k11⟩
instance:Af B 12 ["term", "value"]:=⟨Y.f.k12⟩
instance:Af B 13 ["verb", "deeds", "refuses", "tests", "text"]:=⟨Y.f.k13⟩
instance:Af B 14 ["copied_rules", "kept_things", "kept_verbs", "shared_rules", "shared_verbs", "your_name", "kept_dark", "kept_marks", "kept_rules", "kept_ways", "mosts_by_name", "rules_by_verb", "things_by_name", "verbs_by_word"]:=⟨Y.f.k14⟩
instance:Ic B "Mark" DS:=⟨1,wU Y.f.i_Mark rfl (F3 15 _) (BW.at ⟨Y.f.k0.ci,Y.f.k1.ci,Y.f.k2.ci,Y.f.k3.ci,Y.f.k4.ci,Y.f.k5.ci,Y.f.k6.ci,Y.f.k7.ci,Y.f.k8.ci,Y.f.k9.ci,Y.f.k10.ci,Y.f.k11.ci,Y.f.k12.ci,Y.f.k13.ci,Y.f.k14.ci,trivial⟩),Y.y.g Y.f.a1⟩
instance:Ic B "Thing" uR:=⟨0,wU Y.f.i_Thing rfl (F3 15 _) (BW.at ⟨Y.f.k0.ci,Y.f.k1.ci,Y.f.k2.ci,Y.f.k3.ci,Y.f.k4.ci,Y.f.k5.ci,Y.f.k6.ci,Y.f.k7.ci,Y.f.k8.ci,Y.f.k9.ci,Y.f.k10.ci,Y.f.k11.ci,Y.f.k12.ci,Y.f.k13.ci,Y.f.k14.ci,trivial⟩),Y.y.g Y.f.a0⟩
instance:Xn B "NoWorld" 15:=⟨Y.f.xx,Y.y.g Y.f.ax⟩
instance:Ij B 15:=⟨Mj Y.f.nd⟩
local macro_rules|`(tactic|trivial)=>do let x:=("zr_xC zr_xI zr_xR zr_xU zr_yI zr_y1 zr_y0 zr_tI zr_mq1 zr_df0 LB LA LC LF AM LJ Ji JM LG Jg JS JL IS IT JN JP JI Jl JD Jo JT I0 Ja Jb Jc IW JQ LK JU IY Jk JW JX JO J9 Jj Jh Jf IR Js Jt LH JZ Je Jd LL LM Jw IU IV Jx IZ J7 J8 JY J0 LI Jm Jn J1 J2 Jy Jp Jz JA JB JC J3 J4 F1 F0 F2 JE JF JG Jr zr_r2I Ju zr_xeI Jv FZ JV zr_mxI zr_mnI Jq zr_xsI Ka Kb FY JR".splitOn " ").toArray.map fun s=>Lean.mkIdent (.mkSimple s);`(tactic|repeat' first|(with_reducible apply eqI);(first|rfl|kernel_rfl)|((with_reducible first|apply JJ|apply JK);rotate_left 7;rfl)|(with_reducible first $[|apply $x]*)|(with_reducible intro _)|exact jf)
instance:Df B 1 "is_small_letters" (spF B.G nY):=gF4 rfl Y.f.q17 rfl (by unfold pH;trivial)
instance:Df B 2 "is_name" (spF B.G lV):=gF4 rfl Y.f.q18 rfl (by unfold wW;trivial)
instance:Df B 2 "is_word" (spF B.G wY):=gF4 rfl Y.f.q19 rfl (by unfold wX;trivial)
instance:Df B 1 "is_one_of" (spF B.G mq):=gF4 rfl Y.f.q20 rfl (by unfold uh;trivial)
instance:Df B 1 "is_whole" (spF B.G sf):=gF4 rfl Y.f.q21 rfl (by unfold vQ;trivial)
instance:Df B 1 "is_list_up_to" (spF B.G ni):=gF4 rfl Y.f.q22 rfl (by unfold qG;trivial)
instance:Df B 1 "own_list" (spF B.G sg):=gF4 rfl Y.f.q23 rfl (by unfold vR;trivial)
theorem rU:Bdz B (nmO (inClass (top 10) 0)) "Thing.__init__" (inClass (top 10) 0) (l7 (inClass (top 10) 0)) 0 qy:=by
 unfold qy;refine AM ?_ ?_
 all_goals trivial
instance:Kf B 1 "Thing" 0 lM [D.non]:=gJ4 (dds:=[D.non]) Y.f.k0 Y.f.a0 rfl Y.f.q24 rfl rfl rU 0
instance:Kf B 1 "Thing" 0 lM []:=gJ4 (dds:=[D.non]) Y.f.k0 Y.f.a0 rfl Y.f.q24 rfl rfl rU 1
instance:Kf B 1 "Mark" 1 uj []:=gI4 Y.f.k1 Y.f.a1 rfl Y.f.q25 rfl rfl (by unfold ui;trivial)
theorem qB:Bdz B (nmO (inClass (top 12) 0)) "Verb.__init__" (inClass (top 12) 0) (l7 (inClass (top 12) 0)) 0 rg:=by
 unfold rg;refine AM ?_ ?_
 all_goals trivial
instance:Kf B 1 "Verb" 2 nG [D.non,(D.str "one"),D.non]:=gJ4 (dds:=[D.non,(D.str "one"),D.non]) Y.f.k2 Y.f.a2 rfl Y.f.q26 rfl rfl qB 0
instance:Kf B 1 "Verb" 2 nG [D.non]:=gJ4 (dds:=[D.non,(D.str "one"),D.non]) Y.f.k2 Y.f.a2 rfl Y.f.q26 rfl rfl qB 2
instance:Kf B 1 "Verb" 2 nG []:=gJ4 (dds:=[D.non,(D.str "one"),D.non]) Y.f.k2 Y.f.a2 rfl Y.f.q26 rfl rfl qB 3
instance:Kf B 1 "At" 3 w5 []:=gI4 Y.f.k3 Y.f.a3 rfl Y.f.q27 rfl rfl (by unfold wZ;trivial)
instance:Kf B 1 "Has" 4 sh []:=gI4 Y.f.k4 Y.f.a4 rfl Y.f.q28 rfl rfl (by unfold vS;trivial)
instance:Kf B 1 "Marked" 6 nr []:=gI4 Y.f.k6 Y.f.a6 rfl Y.f.q29 rfl rfl (by unfold rM;trivial)
instance:Kf B 1 "Kind" 7 nH []:=gI4 Y.f.k7 Y.f.a7 rfl Y.f.q30 rfl rfl (by unfold uk;trivial)
instance:Kf B 1 "Not" 9 nZ []:=gI4 Y.f.k9 Y.f.a9 rfl Y.f.q31 rfl rfl (by unfold vT;trivial)
instance:Kf B 1 "Move" 11 oR []:=gI4 Y.f.k11 Y.f.a11 rfl Y.f.q32 rfl rfl (by unfold um;trivial)
instance:Kf B 1 "Put" 12 pI []:=gI4 Y.f.k12 Y.f.a12 rfl Y.f.q33 rfl rfl (by unfold vU;trivial)
instance:Kf B 2 "Rule" 13 rh []:=gJ4 (dds:=[(D.bl false)]) Y.f.k13 Y.f.a13 rfl Y.f.q34 rfl rfl (by unfold uo;trivial) 1
instance:Mf B 9 "can_hold" nI:=⟨λc h e=>by
 unfold nI at e;split at e
 ·cases e;exact hF4 (k:=8) Y.f.k0 rfl Y.f.q35 rfl (by unfold qb;trivial)
 ·cases e⟩
instance:Mf B 9 "has_mark" mZ:=⟨λc h e=>by
 unfold mZ at e;split at e
 ·cases e;exact hF4 (k:=8) Y.f.k0 rfl Y.f.q36 rfl (by unfold qd;trivial)
 ·cases e⟩
instance:Mf B 9 "is_plainly" oJ:=⟨λc h e=>by
 unfold oJ at e;split at e
 ·cases e;exact hF4 (k:=8) Y.f.k0 rfl Y.f.q37 rfl (by unfold pJ;trivial)
 ·cases e⟩
instance:Dx B 1 "refuse_unless" 15 lE:=gX4 rfl Y.f.q38 rfl (by unfold qH;trivial)
instance:Df B 1 "count_of" (spF B.G n4):=gF4 rfl Y.f.q39 rfl (by unfold vV;trivial)
instance:Df B 10 "plain_ones" (spN B.G mU):=gN4 rfl Y.f.q40 rfl (by unfold sP;trivial)
instance:Df B 2 "is_mark" (spF B.G w9):=gF4 rfl Y.f.q41 rfl (by unfold w6;trivial)
instance:Dx B 11 "check_things" 15 mr:=gX4 rfl Y.f.q42 rfl (by unfold pL;trivial)
instance:Dx B 3 "check_marks" 15 nt:=gX4 rfl Y.f.q43 rfl (by unfold rN;trivial)
instance:Df B 1 "are_unlike" (spF B.G mV):=gF4 rfl Y.f.q44 rfl (by unfold sQ;trivial)
instance:Dx B 3 "check_names" 15 mG:=gX4 rfl Y.f.q45 rfl (by unfold nT;trivial)
instance:Df B 10 "mark_names" (spN B.G o8):=gN4 rfl Y.f.q46 rfl (by unfold sR;trivial)
instance:Df B 10 "is_start" (spF B.G sk):=gF4 rfl Y.f.q47 rfl (by unfold sj;trivial)
instance:Df B 1 "comes_to_room" (spF B.G my):=gF4 rfl Y.f.q48 rfl (by unfold qI;trivial)
instance:Dx B 11 "check_starts" 15 mM:=gX5 ["things", "starts", "thing"] rfl Y.f.q49 rfl (by unfold nJ;trivial)
instance:Df B 3 "are_words" (spF B.G l9):=gF4 rfl Y.f.q50 rfl (by unfold uq;trivial)
instance:Df B 1 "has_all" (spF B.G nu):=gF4 rfl Y.f.q51 rfl (by unfold xa;trivial)
instance:Df B 2 "is_told_apart" (spF B.G nq):=gF4 rfl Y.f.q52 rfl (by unfold oW;trivial)
instance:Dx B 11 "check_words_of_things" 15 mf:=gX4 rfl Y.f.q53 rfl (by unfold mB;trivial)
instance:Dx B 2 "check_dark" 15 sT:=gX4 rfl Y.f.q54 rfl (by unfold sS;trivial)
instance:Dx B 2 "check_ways" 15 sV:=gX4 rfl Y.f.q55 rfl (by unfold sU;trivial)
instance:Dx B 2 "check_verbs" 15 rP:=gX4 rfl Y.f.q56 rfl (by unfold rO;trivial)
instance:Df B 1 "are_apart" (spF B.G oT):=gF4 rfl Y.f.q57 rfl (by unfold ur;trivial)
instance:Dx B 11 "check_vocabulary" 15 n6:=gX4 rfl Y.f.q58 rfl (by unfold n5;trivial)
instance:Dx B 12 "check_parts" 15 l4:=gX4 rfl Y.f.q59 rfl (by unfold mX;trivial)
instance:Df B 4 "does" (spF B.G pU):=gF4 rfl Y.f.q60 rfl (by unfold DT;trivial)
instance:Df B 4 "refuses" (spF B.G mE):=gF4 rfl Y.f.q61 rfl (by unfold xc;trivial)
instance:Df B 5 "hand_rules" (spN B.G sX):=gN4 rfl Y.f.q62 rfl (by unfold sW;trivial)
instance:Df B 5 "put_rules" (spN B.G uv):=gN4 rfl Y.f.q63 rfl (by unfold uu;trivial)
instance:Df B 5 "lid_rules" (spN B.G ux):=gN4 rfl Y.f.q64 rfl (by unfold uw;trivial)
instance:Df B 5 "flame_rules" (spN B.G rR):=gN4 rfl Y.f.q65 rfl (by unfold rQ;trivial)
instance:Df B 5 "go_rules" (spN B.G vX):=gN4 rfl Y.f.q66 rfl (by unfold vW;trivial)
instance:Df B 5 "wait_rules" (spN B.G sZ):=gN4 rfl Y.f.q67 rfl (by unfold sY;trivial)
instance:Df B 6 "common_rules" (spN B.G pM):=gN4 rfl Y.f.q68 rfl (by unfold rj;trivial)
instance:Df B 3 "common_verbs" (spN B.G ot):=gN4 rfl Y.f.q69 rfl (by unfold rl;trivial)
instance:Df B 1 "by_name" (spF B.G tP):=gF4 rfl Y.f.q70 rfl (by unfold tN;trivial)
instance:Df B 10 "mosts_by_name" (spF B.G oY):=gF4 rfl Y.f.q71 rfl (by unfold oX;trivial)
instance:Df B 1 "verbs_by_word" (spF B.G oZ):=gF4 rfl Y.f.q72 rfl (by unfold qJ;trivial)
instance:Df B 1 "by_verb" (spF B.G tQ):=gF4 rfl Y.f.q73 rfl (by unfold xf;refine⟨BS (stW (by kernel_rfl) yq rfl) (Ca jf rfl (yG (yw B.G.K (zA (pvI (by kernel_rfl))))) (pgI (by kernel_rfl)) (uH (xq (Cy B.G.K eR fO iN tE (DG (pvI (by kernel_rfl)) (CP (zA (pvI (by kernel_rfl))) (Ff.p (B:=B))) (Ck qh) ⟨rfl,rfl,rfl,rfl⟩) (og (pvI (by kernel_rfl)) qh))))) (zg (PE.ghost (pvI (by kernel_rfl))))⟩)
instance:Mf B 9 "of_kind" pV:=⟨λc h e=>by
 unfold pV at e;split at e
 ·cases e;exact hF4 (k:=8) Y.f.k14 rfl Y.f.q74 rfl (by unfold qK;trivial)
 ·cases e⟩
instance:Mf B 9 "all_verbs" o4:=⟨λc h e=>by
 unfold o4 at e;split at e
 ·cases e;exact hF4 (k:=8) Y.f.k14 rfl Y.f.q75 rfl (by unfold pR;trivial)
 ·cases e⟩
instance:Kx B 13 "World" 14 15 m8:=gXI4 Y.f.k14 Y.f.a14 rfl Y.f.q76 rfl rfl (by unfold m7;trivial)
instance:Df B 1 "_law_cell_at" (spF B.G mO):=gF4 rfl Y.f.q77 rfl (by unfold rm;trivial)
instance:Df B 1 "_law_digit" (spM B.G mm):=gM4 rfl Y.f.q78 rfl rfl (by unfold o9;trivial)
instance:Df B 3 "_law_things" (spM B.G nU):=gM5 ["_law_state", "_law_rooms", "_law_things_here", "_law_holders", "_law_pool", "_law_turn", "_law_k", "_law_name", "_law_words_here", "_law_kind"] rfl Y.f.q79 rfl rfl (by unfold pW;trivial)
instance:Df B 3 "_law_named" (spF B.G pb):=gF4 rfl Y.f.q80 rfl (by unfold tm;trivial)
instance:Df B 3 "_law_kinds" (spF B.G pd):=gF4 rfl Y.f.q81 rfl (by unfold tp;trivial)
instance:Df B 3 "_law_starts" (spF B.G oM):=gF4 rfl Y.f.q82 rfl (by unfold rS;trivial)
instance:Df B 3 "_law_rings" (spF B.G pe):=gF4 rfl Y.f.q83 rfl (by unfold tq;trivial)
instance:Df B 3 "_law_words" (spF B.G pf):=gF5 ["_law_some", "_law_found", "_law_words_here"] rfl Y.f.q84 rfl (by unfold tu;trivial)
instance:Df B 15 "_law_refused" (spF B.G mi):=gF4 rfl Y.f.q85 rfl (by unfold ou;trivial)
theorem D9:Bdz B (nmO (top 145)) "law" (top 145) (l7 (top 145)) 15 AN:=by
 unfold AN;refine AM ?_ ?_
 all_goals trivial
end
end K06x
namespace K06x
open PySem L2 L3 L4
def A0(K:ai):Sp:=λvs H Q _=>∃(a:Addr) (ns:List Int),vs=[.ref a]/\SqL K H a (ns.map V.int)/\ns.length<=63/\∀H',Q (.bl true) H'
theorem xm{G:Bg}{H:Hp}:∀ns:List Int,lG G H (ns.map D.int) (ns.map V.int)
 |[]=>ma
 |n::ns=>mw (m5 n) (xm ns)
theorem Gb{G:Bg}:∀vs H Q E,A0 G.K vs H Q E->spF G GA vs H Q E:=λvs H Q E h=>by obtain⟨a,ns,rfl,hs,hl,k⟩:=h;refine⟨H,[.fzl (ns.map D.int)],.bl true,lK.refl _,mw (by unfold L4.Rep;exact⟨a,_,rfl,hs,xm ns⟩) ma,Kw ns hl,λv H0' H' _ _ _ _ r=>?_⟩;unfold L4.Rep at r;subst r;exact k H'
section
variable{K:ai}{x m q:Str}{st:Stmt}{f C:Addr}{oc:aa}{od:Option Addr}{kV doc pm:aa}{an:Option Addr}{cdv ct:aa}{osl:Array (Option aa)}
theorem Ea(lk:K.lookup f=some ⟨oc,od,.func (cu x q (oi st) (l7 st) (lS st) .none kV doc pm an cdv ct),osl⟩)(hc:dw K cdv q=true)(kp:bY K (.ref f)=true):∃fd,Fun K x q st f fd:=⟨_,⟨_,_,_,_,_,_,_,_,_,rfl,lk,hc⟩,kp⟩
theorem gd_mk(h:dB K aA x=some (some (.ref f)))(lk:K.lookup f=some ⟨oc,od,.func (cu x x (oi st) (l7 st) (lS st) .none kV doc pm an cdv ct),osl⟩)(hc:dw K cdv x=true)(kp:bY K (.ref f)=true):GD K x st:=⟨f,(Ea lk hc kp).imp λ_ F=>⟨h,F⟩⟩
theorem gm_mk(h:bQ K (.ref C) m=some (some (.ref f)))(hf:fF K (.ref f)=true)(lk:K.lookup f=some ⟨oc,od,.func (cu m q (oi st) (l7 st) (lS st) .none kV doc pm an cdv ct),osl⟩)(hc:dw K cdv q=true)(kp:bY K (.ref f)=true):GM K C m q st:=⟨f,(Ea lk hc kp).imp λ_ F=>⟨h,hf,F⟩⟩
end
theorem all_mk{l:eh}{w:ak}{K:ai}{h:Heap}{mg:Str->Option aa}{fa:Addr}(X:K.In h)(Gn:h.Ns aA mg)(hfa:mg "law" = some (.ref fa)){C0 C1 C2 C3 C4 C5 C6 C7 C8 C9 C10 C11 C12 C13 C14 C15:Addr}(F:Fx K C0 C1 C2 C3 C4 C5 C6 C7 C8 C9 C10 C11 C12 C13 C14 C15):
  ∃fd:aZ,(∀(s:ae) (v:aa),dy s fd ⟨[v],[]⟩ [("_law_script", v)])/\∀base:Heap,K.In base->base.Ns aA mg->oh l.prog w K mg base CX0 16 fa fd ["_law_script"] (A0 K):=by
 have gen:∃B:Bg,B.K=K/\B.ca 0=C0/\B.ca 1=C1/\B.ca 2=C2/\B.ca 3=C3/\B.ca 4=C4/\B.ca 5=C5/\B.ca 6=C6/\B.ca 7=C7/\B.ca 8=C8/\B.ca 9=C9/\B.ca 10=C10/\B.ca 11=C11/\B.ca 12=C12/\B.ca 13=C13/\B.ca 14=C14/\B.ca 15=C15:=⟨⟨K,λc=>[C0,C1,C2,C3,C4,C5,C6,C7,C8,C9,C10,C11,C12,C13,C14,C15].getD c 0⟩,rfl,rfl,rfl,rfl,rfl,rfl,rfl,rfl,rfl,rfl,rfl,rfl,rfl,rfl,rfl,rfl,rfl⟩;obtain⟨B,rfl,rfl,rfl,rfl,rfl,rfl,rfl,rfl,rfl,rfl,rfl,rfl,rfl,rfl,rfl,rfl,rfl⟩:=gen;have Z:∀base,Yx ⟨l.prog,w,mg,base,B⟩:=λbase=>⟨⟨h,X,Gn⟩,F⟩;obtain⟨f,fd,a,FF⟩:=F.q86;have e:=hfa.symm.trans (fE X Gn a);cases e;obtain⟨oc,od,kV,doc,pm,an,cdv,ct,osl,rfl,lk,hcd⟩:=FF.ex;exact⟨_,λs v=>.of_eq rfl,λbase _ _=>(Dl rfl rfl rfl FF (okk (N:=nmO (top 145)) (ps:=["_law_script"]) (np:=1) (n:=8) (by kernel_rfl)).1 ((@D9 _ (Z base)).ok rfl _)).imp (Gb (G:=B))⟩
theorem walk{l:eh}{q:au}{loose:List Str}{XP:(Str->Option aa)->Heap->Prop}{YP:ak->Heap->Prop}{d:DefRec}{K:eC->ai}(hn:l.most=some 63)(hdf:d.params.defaults=[])
  (hY:∀(w:ak) (h:Heap),YP w h->(K w.params).In h)
  (F:∀(w:ak) (mg:Str->Option aa) (fa:Addr) (h:Heap),(K w.params).In h->h.Ns aA mg->mg d.name=some (.ref fa)->
   ∃fd:aZ,(∀(s:ae) (u:aa),dy s fd ⟨[u],[]⟩ [("_law_script", u)])/\∀base:Heap,(K w.params).In base->base.Ns aA mg->oh l.prog w (K w.params) mg base CX0 16 fa fd ["_law_script"] (A0 (K w.params))):
  W.WalkO q loose XP YP l.row.toRowW d [] (λf vs=>gQ f vs):=
 L2.ED (n:=63) (k:=16) (x:="_law_script") (CX:=λ_=>CX0) (sp:=λw=>A0 (K w.params)) hn (by decide) hdf ⟨rfl,by decide,by decide⟩ hY F (λ_ _ a ns hl _ hS=>⟨a,ns,rfl,hS,hl,λ_=>rfl⟩) λ_ _ _ _ _ z=>z
end K06x
set_option maxHeartbeats 0
open PySem PySem.W PyProof.Rows
theorem PySem.Challenge.cw_tellworld_k06_things_that_are_none_holds : PySem.Challenge.rw_tellworld_k06_things_that_are_none.Holds := by
 refine hd ?_
 k_fill
 refine K06x.walk (l:=PySem.Challenge.rw_tellworld_k06_things_that_are_none) rfl rfl (λw h Y=>Y) ?F
 case F=>
  intro w mg fa h KX G hmg;refine' K06x.all_mk KX G hmg ?Q
  case Q=>
   constructor
   all_goals as_aux_lemma=>first
   |k_is
   |kernel_rfl
   |(show W.excIn _ _ _ _=true;first|k_exc|k_is|kernel_rfl)
   |exact⟨⟨⟨by k_is,by k_is,by k_is,by k_is⟩,by k_is,by k_is,by k_is,by k_is⟩,by k_is,by k_is,by kernel_rfl⟩
   |exact⟨_,by k_is⟩
   |exact K06x.gd_mk (by k_is) (by k_is) (by k_is) (by k_is)
   |exact K06x.gm_mk (by k_is) (by k_is) (by k_is) (by k_is) (by k_is)
   |exact⟨_,_,_,_,by k_is,by k_is,by rfl,by rfl,by simp,by repeat' first|exact .nil|exact .cons rfl .nil|refine .cons rfl ?_⟩
   |exact⟨_,_,_,_,[_],_,by k_is,by k_is,⟨⟨_,_,_,_,_,_,_,_,_,rfl,by k_is,by k_is⟩,by k_is⟩,by k_is,by rfl,.cons (by first|rfl|exact⟨_,rfl⟩) .nil⟩
   |exact⟨_,_,_,_,[_,_,_],_,by k_is,by k_is,⟨⟨_,_,_,_,_,_,_,_,_,rfl,by k_is,by k_is⟩,by k_is⟩,by k_is,by rfl,.cons (by first|rfl|exact⟨_,rfl⟩) (.cons (by first|rfl|exact⟨_,rfl⟩) (.cons (by first|rfl|exact⟨_,rfl⟩) .nil))⟩
end
