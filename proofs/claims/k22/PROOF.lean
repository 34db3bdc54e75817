import PyProof.Rows.All
import Open.Pieces
import OpenK.KLine
import PySem.Challenge.RW_tellworld_k22_tests_in_tests
import Wide.All
import OpenK.AllK
import Wide.FinOn
import PyProof.EqAt
import PyProof.EqKinds
import PyProof.TupleCall
import PyProof.StrWalks
import PyProof.ConsumeWalk
import PyProof.NeKinds
import PyProof.Rows.SetFrom
import KE.KIsAll
import PyProof.WalksMore
import PyProof.TupleKey
import PyProof.DictWalks
import PyProof.Rows.ZipGen
import KE.KDictLaws
import PyProof.DictItems
import KE.KSortTup
import PyProof.TupleOfSeq
import PyProof.Rows.SortStr
import PyProof.Rows.StrInSeq3
import PyProof.TupleIter
import KE.KDictOf
import PyProof.CollectWalk
set_option compiler.extract_closed false
noncomputable section
open List renaming length_map->ag,length_append->aA,getElem?_eq_getElem->aN,map_cons->au,length_cons->aE,mem_singleton->aP,length_singleton->ba,mem_cons_self->aV,mem_cons_of_mem->bf,mem_cons->aK,mem_map->aG,size_toArray->bg,map_append->bb,getElem?_map->bt,length_take->bp,getElem?_eq_some_iff->bS,mem_append_left->bF,append_assoc->bw,mem_append_right->bO,append_nil->bq,map_map->aW,mem_append->bu,all_eq_true->bD,getD_eq_getElem?_getD->cn,getElem?_append_right->cz,mem_filter->bI,nil_append->bJ,not_mem_nil->bR,length_replicate->cf,getElem?_set->bT,getElem?_append_left->cG,nodup_append->bZ,map_nil->bG,mem_map_of_mem->cq,mem_of_getElem?->cA,length_drop->cb,range->bB,nodup_cons->cc,length->bU,mem_range->cu,getElem?_drop->cX,zip_cons_cons->df,length_nil->cO,zipWith_cons_cons->eB,length_filter_le->eC,getElem_mem->dg,getElem?_replicate->fq,filter_cons->dh,exists_cons_of_ne_nil->gm,lookup_cons->dJ,find?_cons->dM,length_set->dN,countP_eq_length_filter->iE,zipWith->c4,lookup->cP,all_cons->dq,replicate->dP,getElem?_eq_none->gz,length_zip->eL,any_cons->dQ,any_eq_true->fD,getElem?_cons_succ->iJ,getElem?_set_self->iK,map_take->eM,length_range->gO,drop_eq_getElem_cons->j6,mergeSort_perm->iN,map_drop->fG,take_sublist->iO,nodup_nil->gU,filter_eq_nil_iff->j7,getElem?_zipWith->ka,getElem?_set_ne->kc,mem_iff_getElem->kg,mem_of_mem_drop->kj,exists_mem_of_length_pos->ni,of_mem_zip->ja,filter_nil->jb,filterMap_cons->kl,length_zipWith->km,getElem_of_mem->ko,filter_eq_self->kr,mem_filterMap->ku,getElem?_zip_eq_some->nE,pairwise_iff_getElem->nG,getLastD_eq_getLast?->nH,idxOf_lt_length_iff->nL,zip_map'->jf,getElem_inj->kD,length_eq_zero_iff->nN,drop_eq_nil_of_le->nP,take_of_length_le->nQ,contains_iff_mem->nW,countP_mono_left->nX,mem_of_mem_take->n9,mem_erase_of_ne->oa,getElem?_range->og,length_pos_iff->oi,contains_cons->oA,getElem?_take->oG,filter_append->oH,filter_filter->oI,ext_getElem?->oJ,any_eq_false->oK,map_fst_zip->o9,zip_append->pe,foldl_cons->pf,idxOf_cons->pj,filter_map->pA,drop_zero->pF,drop_nil->pK,all_map->pM
open PySem.Heap renaming get?_push_of_some->aJ,lt_size->aM,get?_push_size->bz,size_push->dj,get?_update_other->gv,SameBut->fH,get?_update_self->j9
open PySem renaming wpAny_bind->ao,Value->aa,Shared->ae,wpAny_pure->az,Program->aU,sizeLine_eq->bL,Around->aQ,World->aI,wpAny_truthy_bool->cN,wpAny_mono->bV,Spec->rQ,wpAny_holding->cD,wpAny_Call_Name_kw->dG,codeAny_builtin->di,FuncData->bY,wpAny_passesOwn->eK,wpAny_newObj_type->fz,mem_of_lookup->gA,tupleKind_room_in1->gB,wpAny_pyIter_list->gE,wpAny_setState_of->gK,plainId_quiet->fF,codeAny_mono->fJ,NameKind->c7,call_meetsIn->fK,wpAny_call_entry->iU,wpAny_forIn_list->iW,wpAny_execs_nil->iY,wpAny_Call_method->kC,Paired->eR,wpAny_typeOf->jg,Keyword->dU,call_meets->gX,Builtin->dW,wpAny_specialOf->kF,wpAny_updateSeq->kH,wpAny_loadPart'->nS,wpAny_isTrue_Compare1->nU,wpAny_eqIsQuiet_tuple->nV,isSubtype_type->kK,codeAny_call_builtin->n4,Scope->cU,wpAny_newList->kU,wpAny_pyIter_tuple->oq,wpAny_call->jk,IsPart->dX,wpAny_pyHash_tuple->oE,Within->kY,GenState->gY,BindsTo->fM,slot_list_getitem->oN,wpAny_pyIter_dict->oR,PassesOwn->jn,wpAny_field->ly,seqIndex_of->lA,wpAny_Name->lF,Result->fN,PlainAttrs->lH,call->lI,boot_len->pD
open Nat renaming le_refl->aF,le_of_ble_eq_true->bP,ne_of_lt->aY,lt_of_lt_of_le->b0,le_trans->bK,lt_succ_of_lt->cY,zero_le->cj,lt_succ_self->dH,min_eq_left->dO,lt_of_succ_lt_succ->gx,lt_irrefl->dm,min_self->dR,ble_eq->c6,le_of_lt->eO,le_add_right->gQ,le_succ->eP,ne_of_gt->fI,ble->c8,lt_of_le_of_lt->kz,sub_self->jh,add_right_comm->oj,le_of_eq->kZ,lt_trichotomy->oU,le_of_not_lt->o5,not_lt_zero->pz,beq->gZ
open Bool renaming false_ne_true->br,and_eq_true->bh,eq_iff_iff->cB,false_eq_true->eF,not_eq_true'->fA,eq_false_iff->iR,or_eq_false_iff->kh,or_eq_true->kG,and_comm->kX,and_false->pC,or_false->pH,false_or->pI,rec->lR
open Prod renaming fst->aC,snd->jr
open PySem.W renaming Frag->ar,kia_one->cv,emptyDict->c5,findIn->cF,kitOne->cH,instObj->dr,keepIn->eS,OpenLaw->fL,plainGet_of->kN,callWith_K0->kO,plainGet->jj,callWith_K->lg,cellsFrom_some->oX,methodObj->lp,hasDictIn->lq,kitx_list->lr,kitx_dict->lu,methodCall_KW->pd,lookIn->jo,fnOf->fO,kas_sort->jq,makes_of->lK,takerIn->lL,makesIn->lM,mg_of->jt
open Int renaming eq_ofNat_of_zero_le->cp,toNat_natCast->iP,emod_lt_of_pos->kB,emod_nonneg->kJ
open Option.some renaming inj->cg
open PyProof.Rows.F renaming plain_set_update_loop->dE,entry_set_update_loop->gq
open PySem.SetTable.probe renaming go->cZ
open PySem.Around renaming under_plainId->dF,in1_units->iX,under->la
open Array renaming length_toList->eD,getElem?_toList->j8,perm_iff_toList_perm->nD,forIn_toList->oB,toList->pL
open PySem.Calls renaming spliced_cons->eE,callWith_builtin->gu,spliced_nil->gG,evalArgs_plain->iM,Name_function_global->ny,call_function_entry->nF
open PySem.Builtin.List renaming listTooLong->gn,listExtendWith->nt,listLengthHint->nu,listSameRef->nM
open PyProof.Rows renaming StrsAre->fw,slot_tuple_getitem->iF,AllBare->dt,subscriptTail_builtinR->nO,listUpdate_at->kR,IsTup->du,seqEpoch_at->lD,boot_sorted->lE,IntsAre->hE,Subscript_->lG
open PySem.SetTable renaming insertAt->eG,below->gS,has->gV,Probe->jc,fresh->jd,bits->je,runEnd->kI,fill->kP,put->lh,gaveWay->o7,tooFull->o8,slot->pJ
open List.Sublist renaming refl->eI
open False renaming elim->cE
open PySem.Builtin.Slice renaming slicePlaces->iG,sliceAdjust->j5,sliceApplied->nz
open Classical renaming byContradiction->iH,choose_spec->nY
open Option renaming map_some->eJ,isSome_map->oO,getD_none->oZ,getD_some->o6
open PySem.F renaming plainAttrs_list->fC,called_set->dS,slot_dict_get->fE,plainAttrs_dict->iQ,entry_dict_get->iV,slot_dict_itemiterator_iter->nh,slot_list_append->kx,slot_list_extend->ky,slot_dict_setdefault->nR,slot_list_pop->kE,args_list_extend_2->nZ,sub_list_frozenset->n8,entry_list_extend->oe,args_tuple_add_2->ou,type_list_append->oF,entry_tuple_add->oM,args_dict_get_2->oP,args_dict_get_3->oQ,slot_dict_items->oT,slot_list_index->oV,plain_list_iadd->oW,slot_tuple_add->oY,type_dict_get->pb,plain_set_new->ph,type_list_pop->px
open PySem.Builtin.Tuple renaming tupleExact->iI
open PySem.Obj renaming mapSeq->cQ,putSet->lJ
open PySem.SetTable.below renaming go->gH
open PySem.SeqAt.EqAt renaming same->gR,of_refs->kA,int_str->om,str_int->oo,str_str->ox
open Ne renaming symm->cR
open Nat.succ renaming inj->gW
open LawfulBEq renaming eq_of_beq->eQ
open PySem.AutoSeq1 renaming sub_tuple_tuple->nI,wpAny_loadPart'->nJ
open Sum.inr renaming inj->ji
open List.Perm renaming refl->kL
open PySem.Heap.SameBut renaming update->oh
open PySem.Paired renaming length->kM,snoc->pO
open PySem.Shared renaming TypeIs->kQ
open List.cons renaming inj->kW
open PySem.SeqAt renaming EqAt->jl
open PySem.Walks renaming list->jm,dictKeys->pE
open PySem.Code renaming isFrame->lb
open Prod.mk renaming inj->lj
open PySem.Moved renaming trans->lC
open PySem.Builtin.Frozenset renaming updateFrom->rA,newClass->rB
open PySem.PassesOwn renaming never->pB
open PySem.Txt renaming mul->hG
open PySem.Value renaming isStrOf->pG,isInt->pN
open PyProof.Rows.IsTup renaming new->lQ
open PySem.Heap.IsSliceOf renaming new->rD
open PySem.W.WShape renaming has->pP
def aL:=@decide_eq_false
def ai:=@if_pos
def aj:=@if_neg
def bo:=@of_decide_eq_true
def aX:=@decide_eq_true
def aq:=@absurd
def bA:=@decide_eq_true_eq
def aT:=@congrArg
abbrev cy:=List (PySem.Addr×PySem.Obj)
abbrev aB:=List PySem.Str
set_option Elab.async false
set_option linter.all false
namespace L5
open PySem PySem.W
noncomputable def pick(l:List Obj):Nat->List Addr->List Obj:=
 @List.rec Obj (λ_=>Nat->List Addr->List Obj) (λ_ _=>[])
  (λo _ ih i as=>@List.rec Addr (λ_=>List Obj) [] (λa r _=>@lR (λ_=>List Obj) (ih (Nat.succ i) as) (o::ih (Nat.succ i) r) (gZ a i)) as) l
theorem Oj(i:Nat)(as:List Addr):pick [] i as=[]:=rfl
theorem Rj(o:Obj)(l:List Obj)(i:Nat)(r:List Addr):pick (o::l) i (i::r)=o::pick l (i+1) r:=by show @lR (λ_=>List Obj) _ _ (gZ i i)=_;rw[Nat.beq_refl];rfl
theorem Rk(o:Obj)(l:List Obj)(i a:Nat)(r:List Addr)(h:a≠i):pick (o::l) i (a::r)=pick l (i+1) (a::r):=by
 show @lR (λ_=>List Obj) _ _ (gZ a i)=_;have:gZ a i=false:=by
  cases q:gZ a i with
  |false=>rfl
  |true=>exact aq (Nat.eq_of_beq_eq_true q) h
 rw[this];rfl
theorem HL:∀(l:List Obj) (i:Nat) (as:List Addr),(pick l i as).length=as.length->∀j (hj:j<as.length),∃b,as[j]=i+b/\l[b]?=(pick l i as)[j]?
 |[],i,as,h,j,hj=>by rw[Oj]at h;simp at h;omega
 |o::l,i,[],h,j,hj=>by simp at hj
 |o::l,i,a::r,h,j,hj=>by
  by_cases q:a=i
  ·subst q;rw[Rj]at h ⊢;cases j with
   |zero=>exact⟨0,rfl,rfl⟩
   |succ j=>obtain⟨b,e1,e2⟩:=HL l (a+1) r (by simpa using h) j (by simpa using hj);exact⟨b+1,by rw[List.getElem_cons_succ,e1];exact oj a 1 b,by simpa using e2⟩
  ·rw[Rk _ _ _ _ _ q]at h ⊢;obtain⟨b,e1,e2⟩:=HL l (i+1) (a::r) h j hj;exact⟨b+1,by rw[e1];exact oj i 1 b,by simpa using e2⟩
def live(o:Obj):Bool:=match o with|⟨_,_,.freed,_⟩=>false|_=>true
theorem Rl{h:Heap}{as:List Addr}{K:Frag}(e:as=K.map (·.1))(x:(pick h.objs.toList 0 as,K.all λp=>live p.2)=(K.map (·.2),true)):K.In h:=by
 obtain⟨x1,x2⟩:=lj x;refine Frag.in_of e (oJ λj=>?_);rw[bt,bt];by_cases hj:j<as.length
 ·have hl:(pick h.objs.toList 0 as).length=as.length:=by rw[x1,e,ag,ag]
  obtain⟨b,e1,e2⟩:=HL _ _ _ hl j hj;have hk:j<K.length:=by rw[e,ag]at hj;exact hj
  rw[aN hj,aN hk,eJ,eJ,e1,Nat.zero_add];have e3:h.objs[b]?=some (K[j].2):=by rw[<-j8,e2,x1,bt,aN hk];rfl
  have lv:live K[j].2=true:=bD.mp x2 _ (dg hk);refine aT some ?_;unfold Heap.get?;rw[e3];revert lv;cases K[j].2 with
  |mk c d data sl=>cases data<;>intro lv<;>first|rfl|cases lv
 ·rw[gz (by omega),gz (by rw[e,ag]at hj;omega)];rfl
noncomputable def YN(K:Params->Frag) (as:List Addr) (e:∀P,as=(K P).map (·.1)):Hook:=
 ⟨List Obj×Bool,λs=>(pick s.heap.objs.toList 0 as,true),λw=>((K w.params).map (·.2),(K w.params).all λp=>live p.2),InK K,λw s x=>Rl (e w.params) (by
  obtain⟨x1,x2⟩:=lj x;rw[x1,<- x2]),InK.keeps⟩
end L5
section
open PySem PySem.W PyProof.Rows
local macro_rules|`(tactic|o_head ($f:ident $k $as $e))=>`(tactic|o_head ((L5.YN $k $as (fun _=>by kernel_rfl)):W.Hook))
local macro_rules|`(command|#where)=>do
 let mut r:=#[]
 for n in [43:1663] do
  let x:=Lean.mkIdent (.mkSimple s!"tw{((Lean.Name.mkSimple "hd").str s!"o_{n}").hash}")
  r:=r.push (<-`(command|noncomputable def $x:ident:=0))
 return Lean.mkNullNode r
noncomputable section
namespace PySem.W.Fast
def tw7046642507240672030:=0
def tw16998767113842130368:=0
def tw1484588488312774368:=0
def tw11233446548474340610:=0
def tw4905194841988867268:=0
def tw1090689591775485030:=0
def tw16288130148447953894:=0
def tw12210958215875933223:=0
def tw3542984721355170951:=0
def tw4928333261110095687:=0
def tw11521511281804667912:=0
def tw10374632558016547081:=0
def tw229164427083005643:=0
def tw938635154573522699:=0
def tw10557351479930030444:=0
def tw7774113678449685934:=0
def tw13587151598080963022:=0
def tw17537027142021205455:=0
def tw11163739012320327313:=0
def tw17312523289201507379:=0
def tw861502493610598483:=0
def tw7155359931933253843:=0
def tw6344153461787385748:=0
def tw9300808954929066293:=0
def tw14308600377511790581:=0
def tw6311449247597041334:=0
def tw5169156616507760408:=0
def tw6845741732454156280:=0
def tw7422128600509559289:=0
def tw1735395003836382009:=0
def tw16280658162054754363:=0
def tw4435421394204515611:=0
def tw4142209100229140859:=0
def tw5232775305885696284:=0
def tw15219572437756969500:=0
def tw15234264132796209951:=0
def tw13865323600775035743:=0
def tw18096739253777763795:=0
def tw10473089199940464468:=0
def tw5794000817047500649:=0
def tw14347835829400615940:=0
def tw9094225154769264635:=0
def tw1073704658516941901:=0
def tw2233547320038402401:=0
def tw15892216977243462883:=0
def tw8997383693586321770:=0
def tw6784737039638806343:=0
def tw4022129113586101826:=0
def tw10833825939047706337:=0
def tw8300666452175358407:=0
def tw16629204123399850450:=0
#where
end PySem.W.Fast
end
set_option maxRecDepth 100000 in
set_option maxHeartbeats 0 in
open_top hd for PySem.Challenge.rw_tellworld_k22_tests_in_tests
end
set_option maxRecDepth 100000
namespace L2
open PySem PySem.Spec PyProof.Rows
abbrev Key:=Sum Int Str
def Gu:Key->aa->Bool
 |.inl k,v=>pN k v
 |.inr x,v=>pG x v
def keyH(w:aI):Key->Int
 |.inl k=>hashInt k
 |.inr x=>hashStr w x
theorem tQ:∀{k:Key} {v:aa},Gu k v=true->(∃i t,k=Sum.inl i/\v=Value.int i t)\/(∃x t,k=Sum.inr x/\v=Value.str x t)
 |.inl i,v,h=>by obtain⟨t,e⟩:=Value.isInt_shape (k:=i) (v:=v) h;exact .inl ⟨i,t,rfl,e⟩
 |.inr x,v,h=>by obtain⟨t,e⟩:=Value.isStrOf_shape (x:=x) (v:=v) h;exact .inr ⟨x,t,rfl,e⟩
theorem MX(i:Int)(t:Tok):Gu (.inl i) (.int i t)=true:=by simp[Gu,pN]
theorem MY(x:Str)(t:Tok):Gu (.inr x) (.str x t)=true:=by simp[Gu,pG]
theorem UP(a b:Int):decide ((Sum.inl a:Key)=Sum.inl b)=(a==b):=by
 by_cases e:a=b
 ·subst e;simp
 ·have h:¬(Sum.inl a:Key)=Sum.inl b:=λq=>e (Sum.inl.inj q);rw[aL h];exact(beq_eq_false_iff_ne.mpr e).symm
theorem UQ(a b:Str):decide ((Sum.inr a:Key)=Sum.inr b)=decide (a=b):=by
 by_cases e:a=b
 ·subst e;simp
 ·have h:¬(Sum.inr a:Key)=Sum.inr b:=λq=>e (ji q);rw[aL h,aL e]
theorem UR(a:Int)(b:Str):decide ((Sum.inl a:Key)=Sum.inr b)=false:=aL (λq=>nomatch q)
theorem US(a:Str)(b:Int):decide ((Sum.inr a:Key)=Sum.inl b)=false:=aL (λq=>nomatch q)
def sI(prog:aU)(w:aI):PySem.KeyKind prog w Key where
 is:=Gu
 hash:=keyH w
 inj:=λv a b ha hb=>by
  rcases tQ ha with ⟨i,t,rfl,rfl⟩|⟨x,t,rfl,rfl⟩
  ·rcases tQ hb with ⟨j,u,rfl,e⟩|⟨y,u,rfl,e⟩
   ·injection e with e1 _;rw[e1]
   ·exact nomatch e
  ·rcases tQ hb with ⟨j,u,rfl,e⟩|⟨y,u,rfl,e⟩
   ·exact nomatch e
   ·injection e with e1 _;rw[e1]
 byValue:=λk v h=>by rcases tQ h with ⟨i,t,rfl,rfl⟩|⟨x,t,rfl,rfl⟩<;>rfl
 pyHash:=λhv h=>by
  rcases tQ hv with ⟨i,t,rfl,rfl⟩|⟨x,t,rfl,rfl⟩
  ·exact wpAny_pyHash_int h
  ·exact wpAny_pyHash_str h
 eqBool:=λhu hv h=>by
  rcases tQ hu with ⟨i,t,rfl,rfl⟩|⟨x,t,rfl,rfl⟩
  ·rcases tQ hv with ⟨j,u,rfl,rfl⟩|⟨y,u,rfl,rfl⟩
   ·rw[UP]at h;exact wpAny_eqBool_int h
   ·rw[UR]at h;exact om i t y u _ _ _ _ h
  ·rcases tQ hv with ⟨j,u,rfl,rfl⟩|⟨y,u,rfl,rfl⟩
   ·rw[US]at h;exact oo x t j u _ _ _ _ h
   ·rw[UQ]at h;exact wpAny_eqBool_str h
 «strs»:=λk x t v h=>by
  rcases tQ h with ⟨i,u,rfl,e⟩|⟨y,u,rfl,e⟩
  ·exact nomatch e
  ·injection e with e1 _;subst e1;cases v<;>rfl
theorem I0(prog:aU)(w:aI)(i:Int)(t:Tok):(sI prog w).is (.inl i) (.int i t)=true:=MX i t
theorem Ja(prog:aU)(w:aI)(x:Str)(t:Tok):(sI prog w).is (.inr x) (.str x t)=true:=MY x t
inductive V where
 |non|bl (b:Bool)|int (i:Int)|str (x:Str)|byt (b:Array UInt8)|flt (b:UInt64)|ref (a:Addr)|ty (n:String)
 deriving DecidableEq
abbrev bC:=List V
def RelV:V->aa->Prop
 |.non,u=>u=Value.none
 |.bl b,u=>u=Value.bool b
 |.int i,u=>∃t,u=Value.int i t
 |.str x,u=>∃t,u=Value.str x t
 |.byt b,u=>∃t,u=Value.bytes b t
 |.flt b,u=>∃t,u=Value.float b t
 |.ref a,u=>u=Value.ref a
 |.ty n,u=>u=Value.type n
abbrev Vals:bC->List aa->Prop:=eR RelV
theorem Vals.length(r:Vals xs us):xs.length=us.length:=kM r
theorem Vals.get:∀{xs:bC} {us:List aa} {i:Nat} {x:V},Vals xs us->xs[i]?=some x->∃u,us[i]?=some u/\RelV x u
 |_,_,_,_,.nil,e=>by simp at e
 |_,_,0,_,.cons r _,e=>by simp at e;subst e;exact⟨_,rfl,r⟩
 |_,_,i+1,x,.cons _ t,e=>by obtain⟨u,h1,h2⟩:=Vals.get (i:=i) (x:=x) t (by simpa using e);exact⟨u,by simpa using h1,h2⟩
theorem Vals.set(r:RelV x u):∀{xs:bC} {us:List aa} (i:Nat),Vals xs us->Vals (xs.set i x) (us.set i u)
 |_,_,_,.nil=>.nil
 |_,_,0,.cons _ t=>.cons r t
 |_,_,i+1,.cons q t=>.cons q (Vals.set r i t)
theorem Vals.append:∀{xs ys:bC} {us ws:List aa},Vals xs us->Vals ys ws->Vals (xs++ys) (us++ws)
 |_,_,_,_,.nil,s=>s
 |_,_,_,_,.cons r t,s=>.cons r (Vals.append t s)
theorem Vals.take:∀{xs:bC} {us:List aa} (n:Nat),Vals xs us->Vals (xs.take n) (us.take n)
 |_,_,0,_=>.nil
 |_,_,_+1,.nil=>.nil
 |_,_,n+1,.cons r t=>.cons r (Vals.take n t)
theorem Vals.drop:∀{xs:bC} {us:List aa} (n:Nat),Vals xs us->Vals (xs.drop n) (us.drop n)
 |_,_,0,r=>r
 |_,_,_+1,.nil=>.nil
 |_,_,n+1,.cons _ t=>Vals.drop n t
def zV:Option V->Option aa->Prop
 |some v,some u=>RelV v u
 |none,none=>True
 |_,_=>False
def KV{κ:Type}:List (κ×V)->List (κ×aa)->Prop:=eR λ(p:κ×V) (q:κ×aa)=>p.1=q.1/\RelV p.2 q.2
def kV:Key->V
 |.inl i=>.int i
 |.inr x=>.str x
inductive HO where
 |lst (xs:bC)
 |tup (xs:bC)
 |dK (kvs:List (Key×V))|dT (kvs:List (List Key×V))
 |set (S:Int->Bool) (n:Nat)
 |ins (C dx:Addr) (fs:List (Str×V))
 |own (x:Addr)
 |xd (fs:List (Str×V))
 |met (f x:Addr)
 |rng (lo hi:Int)
 |frz (o:Obj) (u:HO)
 |tbl (ps:Array aa)
 |ext (φ:Heap->Prop)
abbrev Hp:=Addr->Option HO
def upd(H:Hp)(a:Addr)(o:HO):Hp:=λb=>if b=a then some o else H b
theorem se:upd H a o a=some o:=by unfold upd;rw[ai rfl]
theorem sf(h:b≠a):upd H a o b=H b:=by unfold upd;rw[aj h]
variable{a b:Addr}{o:HO}
theorem YO{H:Hp}{u:HO}(h:H a=some o)(h':H b=some u)(d:o≠u):a≠b:=by intro e;subst e;rw[h]at h';exact d (cg h')
theorem uV{H:Hp}(h:H a=some o)(h':H b=none):a≠b:=by intro e;subst e;rw[h]at h';cases h'
section
variable(P:aU)(w:aI)
def tL(H:Hp)(h:Heap)(a:Addr):HO->Prop
 |.lst xs=>xs.length<=sizeLine/\∃(its:List aa) (n:Nat),Vals xs its/\h.get? a=some { cls:=.type "list", data:=.seq its.toArray n }
 |.tup xs=>xs.length<=sizeLine/\∃its:List aa,Vals xs its/\du h a its.toArray
 |.dK kvs=>kvs.length<=sizeLine/\(a==sysModules)=false/\∃vs,KV kvs vs/\h.DictOf (sI P w) a vs
 |.dT kvs=>kvs.length<=sizeLine/\(a==sysModules)=false/\∃xs:List (List Key×Addr×aa),
   eR (λ(p:List Key×V) (q:List Key×Addr×aa)=>p.1=q.1/\H q.2.1=some (.tup (p.1.map kV))/\RelV p.2 q.2.2) kvs xs/\
   ∃o es ep,h.get? a=some o/\o.ExactDict/\o.data=.dict es ep/\es.toList=xs.map (entryOfKey (tupleKind (sI P w)))/\(xs.map (·.1)).Nodup
 |.set S n=>h.SetOf (intKind P w) a S n
 |.ins C dx fs=>H dx=some (.own a)/\fs.length<=1000/\dx≠a/\h.get? a=some (dr C dx)/\
   ∃mA,h.Ns1 dx mA/\(∀f,zV (fs.lookup f) (mA f))/\kY mA (fs.map (·.1))
 |.own _=>∃o,h.get? a=some o
 |.xd fs=>∃mA,h.Ns1 a mA/\∀f,zV (fs.lookup f) (mA f)
 |.rng lo hi=>∃t u v,h.get? a=some { cls:=.type "range", data:=.fields #[.int lo t,.int hi u,.int 1 v] }
 |.frz o u=>h.get? a=some o/\tL H h a u
 |.tbl ps=>h.get? a=some { cls:=.none,data:=.fields ps }
 |.met f x=>h.get? a=some (lp (.ref f) (.ref x))
 |.ext φ=>φ h/\(∃o,h.get? a=some o)/\∀h1 h2:Heap,φ h1->(∀o,h1.get? a=some o->h2.get? a=some o)->φ h2
def HOk(H:Hp)(h:Heap):Prop:=∀a o,H a=some o->tL P w H h a o
end
section
variable{P:aU}{w:aI}{H H':Hp}{h h':Heap}{a:Addr}{o:HO}
theorem tL.lt(x:tL P w H h a o):a<h.objs.size:=by
 cases o with
 |lst xs=>obtain⟨_,_,_,_,e⟩:=x;exact aM e
 |tup xs=>obtain⟨_,_,_,p⟩:=x;exact p.lt
 |dK kvs=>obtain⟨_,_,_,_,o,_,_,e,_⟩:=x;exact aM e
 |dT kvs=>obtain⟨_,_,_,_,o,_,_,e,_⟩:=x;exact aM e
 |set S n=>obtain⟨o,_,_,_,e,_⟩:=x;exact aM e
 |ins C dx fs=>obtain⟨_,_,_,e,_⟩:=x;exact aM e
 |own y=>obtain⟨_,e⟩:=x;exact aM e
 |xd fs=>obtain⟨_,⟨_,_,_,e,_⟩,_⟩:=x;exact aM e
 |rng lo hi=>obtain⟨_,_,_,e⟩:=x;exact aM e
 |frz ob u=>obtain⟨e,_⟩:=x;exact aM e
 |tbl ps=>exact aM (show h.get? a=some _ from x)
 |met f y=>exact aM (show h.get? a=some _ from x)
 |ext φ=>obtain⟨_,⟨_,e⟩,_⟩:=x;exact aM e
theorem Paired.mapP{α β:Type}{F G:α->β->Prop}:∀{l₁:List α} {l₂:List β},eR F l₁ l₂->(∀a b,F a b->G a b)->eR G l₁ l₂
 |_,_,.nil,_=>.nil
 |_,_,.cons r t,f=>.cons (f _ _ r) (Paired.mapP t f)
theorem tL.stay(x:tL P w H h a o)(k:∀b u,(b=a\/H b=some (.own a))->h.get? b=some u->h'.get? b=some u)
  (ho:∀b,H b=some (.own a)->H' b=some (.own a)) (ht:∀b xs,H b=some (.tup xs)->H' b=some (.tup xs)):tL P w H' h' a o:=by
 induction o with
 |lst xs=>obtain⟨z,its,n,r,e⟩:=x;exact⟨z,its,n,r,k _ _ (.inl rfl) e⟩
 |tup xs=>obtain⟨z,its,r,ob,e,c⟩:=x;exact⟨z,its,r,ob,k _ _ (.inl rfl) e,c⟩
 |dK kvs=>obtain⟨z,y,vs,r,ob,es,ep,e,c⟩:=x;exact⟨z,y,vs,r,ob,es,ep,k _ _ (.inl rfl) e,c⟩
 |dT kvs=>obtain⟨z,y,xs,r,ob,es,ep,e,c⟩:=x;exact⟨z,y,xs,Paired.mapP r λp q z=>⟨z.1,ht _ _ z.2.1,z.2.2⟩,ob,es,ep,k _ _ (.inl rfl) e,c⟩
 |set S n=>obtain⟨ob,es,ep,t,e,c⟩:=x;exact⟨ob,es,ep,t,k _ _ (.inl rfl) e,c⟩
 |ins C dx fs=>obtain⟨d,z,ne,e,mA,⟨od,es,ep,e2,c⟩,r⟩:=x;exact⟨ho _ d,z,ne,k _ _ (.inl rfl) e,mA,⟨od,es,ep,k _ _ (.inr d) e2,c⟩,r⟩
 |own y=>obtain⟨ob,e⟩:=x;exact⟨ob,k _ _ (.inl rfl) e⟩
 |xd fs=>obtain⟨mA,⟨od,es,ep,e,c⟩,r⟩:=x;exact⟨mA,⟨od,es,ep,k _ _ (.inl rfl) e,c⟩,r⟩
 |rng lo hi=>obtain⟨t,u,v,e⟩:=x;exact⟨t,u,v,k _ _ (.inl rfl) e⟩
 |frz ob u ih=>obtain⟨e,q⟩:=x;exact⟨k _ _ (.inl rfl) e,ih q⟩
 |tbl ps=>have e:h.get? a=some { cls:=.none,data:=.fields ps }:=x;show h'.get? a=some { cls:=.none,data:=.fields ps };exact k a _ (.inl rfl) e
 |met f y=>have e:h.get? a=some (lp (.ref f) (.ref y)):=x;show h'.get? a=some (lp (.ref f) (.ref y));exact k a _ (.inl rfl) e
 |ext φ=>obtain⟨p,⟨o,e⟩,st⟩:=x;exact⟨st _ _ p λo q=>k _ _ (.inl rfl) q,⟨o,k _ _ (.inl rfl) e⟩,st⟩
theorem HOk.lt(x:HOk P w H h)(e:H a=some o):a<h.objs.size:=(x a o e).lt
theorem HOk.fresh(x:HOk P w H h)(e:h.objs.size<=a):H a=none:=by
 cases q:H a with
 |none=>rfl
 |some u=>exact aq (b0 (x.lt q) e) (dm _)
theorem HOk.kept(x:HOk P w H h)(k:∀b u,h.get? b=some u->h'.get? b=some u):HOk P w H h':=λa o e=>
 (x a o e).stay (λb u _ q=>k b u q) (λ_ q=>q) λ_ _ q=>q
theorem HOk.laid(x:HOk P w H h)(k:∀b u,h.get? b=some u->h'.get? b=some u)(hp:h.objs.size<=a)(new:tL P w (upd H a o) h' a o):HOk P w (upd H a o) h':=λb u e=>by
 have hn:=x.fresh hp;by_cases hb:b=a
 ·subst hb;rw[se]at e;cases e;exact new
 ·rw[sf hb]at e;exact(x b u e).stay (λc v _ q=>k c v q) (λc q=>by rw[sf (uV q hn)];exact q) λc xs q=>by rw[sf (uV q hn)];exact q
end
def Rd(H:Hp)(a:Addr)(u:HO):Prop:=H a=some u\/∃o,H a=some (.frz o u)
theorem Rd.ok(r:Rd H a u)(x:HOk P w H h):tL P w H h a u:=by
 rcases r with r|⟨o,r⟩
 ·exact x a u r
 ·obtain⟨_,q⟩:=x a _ r;exact q
def Mut:Option HO->Prop
 |some (.lst _)=>True
 |some (.dK _)=>True
 |some (.dT _)=>True
 |some (.set _ _)=>True
 |some (.ins _ _ _)=>True
 |some (.ext _)=>True
 |_=>False
section
variable{P:aU}{w:aI}{H:Hp}{h h':Heap}{x e:Addr}{o':HO}
theorem HOk.write(ok:HOk P w H h)(mu:Mut (H x))(he:e=x\/H e=some (.own x))(k:∀b u,b≠e->h.get? b=some u->h'.get? b=some u)(heo:∃u,h'.get? e=some u)
  (new:tL P w (upd H x o') h' x o'):HOk P w (upd H x o') h':=λb u q=>by
 have nown:∀c y,H c=some (.own y)->c≠x:=λc y r z=>by subst z;rw[r]at mu;exact mu
 have ntup:∀c xs,H c=some (.tup xs)->c≠x:=λc xs r z=>by subst z;rw[r]at mu;exact mu
 by_cases hb:b=x
 ·subst hb;rw[se]at q;cases q;exact new
 ·rw[sf hb]at q;by_cases hbe:b=e
  ·have q':H b=some (.own x):=by
    rcases he with z|z
    ·exact aq (hbe.trans z) hb
    ·rw[hbe];exact z
   rw[q]at q';cases q';obtain⟨v,hv⟩:=heo;exact⟨v,by rw[hbe];exact hv⟩
  ·refine(ok b u q).stay (λc v hc r=>k c v ?_ r) (λc r=>by rw[sf (nown c b r)];exact r) λc xs r=>by rw[sf (ntup c xs r)];exact r
   rcases hc with rfl|hc
   ·exact hbe
   ·rintro rfl;rcases he with z|z
    ·exact nown c b hc z
    ·rw[hc]at z;cases z;exact hb rfl
end
structure Un(fs ex:List Addr)(H H':Hp)(h h':Heap):Prop where
 keep:∀b o,h.get? b=some o->H b=none->b∉fs->b∉ex->h'.get? b=some o
 slot:∀b o,h.get? b=some o->H b=none->b∈fs->b∉ex->∃sl,h'.get? b=some { o with slots:=sl }
 free:∀b o,h.get? b=some o->H b=none->b∉ex->H' b=none
 there:∀b o,h.get? b=some o->b∉ex->∃o',h'.get? b=some o'
 tups:∀b xs,H b=some (.tup xs)->H' b=some (.tup xs)
 frzs:∀b o u,H b=some (.frz o u)->H' b=some (.frz o u)
 tbls:∀b ps,H b=some (.tbl ps)->∃more,H' b=some (.tbl (ps++more))
section
variable{fs fs' ex ex':List Addr}{H H1 H2:Hp}{h h1 h2 h':Heap}{a x e:Addr}{o:HO}
theorem Un.any(u:Un fs ex H H1 h h1)(q:h.get? b=some ob)(n:H b=none)(hx:b∉ex):∃sl,h1.get? b=some { ob with slots:=sl }:=by
 by_cases hb:b∈fs
 ·exact u.slot b ob q n hb hx
 ·exact⟨ob.slots,u.keep b ob q n hb hx⟩
theorem Un.kept(k:∀b u,h.get? b=some u->h'.get? b=some u):Un fs ex H H h h':=
 ⟨λb ob q _ _ _=>k b ob q,λb ob q _ _ _=>⟨ob.slots,k b ob q⟩,λ_ _ _ n _=>n,λb ob q _=>⟨ob,k b ob q⟩,λ_ _ q=>q,λ_ _ _ q=>q,λ_ ps q=>⟨#[],by rw[q];simp⟩⟩
theorem Un.refl:Un fs ex H H h h:=Un.kept λ_ _ q=>q
theorem Un.laid(k:∀b u,h.get? b=some u->h'.get? b=some u)(hp:h.objs.size<=a)(hn:H a=none):Un fs ex H (upd H a o) h h' where
 keep:=λb u q _ _ _=>k b u q
 slot:=λb u q _ _ _=>⟨u.slots,k b u q⟩
 free:=λb u q n _=>by rw[sf (aY (b0 (aM q) hp))];exact n
 there:=λb u q _=>⟨u,k b u q⟩
 tups:=λb xs q=>by rw[sf (uV q hn)];exact q
 frzs:=λb u xs q=>by rw[sf (uV q hn)];exact q
 tbls:=λb ps q=>⟨#[],by rw[sf (uV q hn),q];simp⟩
theorem Un.write(mu:Mut (H x))(he:e=x\/H e=some (.own x))(k:∀b u,b≠e->h.get? b=some u->h'.get? b=some u)(heo:∃u,h'.get? e=some u):Un fs ex H (upd H x o) h h':=by
 have hx:∀b,H b=none->b≠x:=λb n z=>by subst z;rw[n]at mu;exact mu
 have hb:∀b,H b=none->b≠e:=λb n z=>by
  subst z;rcases he with r|r
  ·exact hx b n r
  ·rw[n]at r;cases r
 have hm:∀b u,H b=some u->¬Mut (some u)->b≠x:=λb u q nm z=>by subst z;rw[q]at mu;exact nm mu
 refine⟨λb u q n _ _=>k b u (hb b n) q,λb u q n _ _=>⟨u.slots,k b u (hb b n) q⟩,λb u q n _=>by rw[sf (hx b n)];exact n,λb u q _=>?_,
  λb xs q=>by rw[sf (hm b _ q λz=>z)];exact q,λb u xs q=>by rw[sf (hm b _ q λz=>z)];exact q,λb ps q=>⟨#[],by rw[sf (hm b _ q λz=>z),q];simp⟩⟩
 by_cases hbe:b=e
 ·subst hbe;exact heo
 ·exact⟨u,k b u hbe q⟩
end
def trk(h:Heap)(H:Hp):List Addr:=(bB h.objs.size).filter λa=>(H a).isSome
def HM(h:Heap)(H:Hp):Heap:=W.hideAll h (trk h H)
theorem MZ(h:Heap)(H:Hp):(HM h H).objs.size=h.objs.size:=W.hideAll_size _ _
theorem Ol{h:Heap}(e:h.get? b=some o)(n:H b=none):(HM h H).get? b=some o:=
 W.hideAll_get _ e λhm=>by have q:(H b).isSome=true:=(bI.mp hm).2;rw[n]at q;simp at q
theorem Rm(e:(HM h H).get? b=some o):h.get? b=some o/\H b=none:=by
 have e':h.get? b=some o:=W.of_hideAll (trk h H) e;refine⟨e',?_⟩;cases q:H b with
 |none=>rfl
 |some x=>have hm:b∈trk h H:=bI.mpr ⟨cu.mpr (aM e'),by simp[q]⟩;have z:(HM h H).get? b=none:=W.hideAll_none (trk h H) hm;rw[z]at e;cases e
def Ro(g h:Heap)(L:Addr):cy:=(bB h.objs.size).filterMap λa=>if a=L\/(g.get? a).isSome=true then none else (h.get? a).map λo=>(a,o)
def rest(g h:Heap)(L d:Addr):cy:=(Ro g h L).filter λp=>decide (p.1≠d)
structure Mod(K:ar)(mg:Str->Option aa)(base:Heap):Prop where
 kin:K.In base
 glob:base.Ns mainGlobals mg
 blt:∃mb,base.Ns builtinsNs mb/\∀x:Str,x≠"__name__" -> mb x=bootBuiltins x
 nolimit:base.NoLimit
structure Cx where
 prog:aU
 w:aI
 K:ar
 mg:Str->Option aa
 base:Heap
 A:aQ
 N:aB
 s₀:ae
 H₀:Hp
 env:Env
 outer:List Env
 stack:List Env
 ex:List Addr
 fn:Str->Bool
 calm:Bool
 pn:cy
 xe:aa->ae->Prop
def frs(l:List Env):List Addr:=l.filterMap (·.frame)
abbrev Cx.fs(X:Cx):List Addr:=frs X.outer
def Vis(sc:cU)(x:Str):Prop:=sc.names.lookup x=some .local\/sc.names.lookup x=some .cell\/sc.names.lookup x=some .free
def Loc(sc:cU)(x:Str):Prop:=sc.names.lookup x=some .local\/sc.names.lookup x=some .cell
def Look(env:Env)(h:Heap)(m:Str->Option aa)(x:Str)(u:aa):Prop:=
 (env.kindOf x=some .local/\m x=some u)\/((env.kindOf x=some .cell\/env.kindOf x=some .free)/\∃c,env.cells.lookup x=some c/\h.IsCell c (some u))
structure Cx.Ok(X:Cx):Prop where
 mod:Mod X.K X.mg X.base
 kind:X.env.scope.kind=.function
 glob:X.env.globals=mainGlobals
 blt:X.env.builtins=builtinsNs
 above:X.s₀.heap.objs.size<=X.env.locals
 inj:∀x y c,X.env.cells.lookup x=some c->X.env.cells.lookup y=some c->x=y
 has:∀x,(X.env.kindOf x=some .cell\/X.env.kindOf x=some .free)->∃c,X.env.cells.lookup x=some c
 cab:∀x c,X.fn x=true->X.env.cells.lookup x=some c->X.s₀.heap.objs.size<=c
 hd:X.calm=true->X.A.handled=none
 frames:X.A.frames=some X.stack
 stk:X.stack=X.outer\/(X.stack=X.env::X.outer/\X.env.frame=some X.env.locals)
 exf:∀b∈X.ex,b≠X.env.locals/\∀x c,X.env.cells.lookup x=some c->c≠b
 bs:∀b o,X.base.get? b=some o->X.s₀.heap.get? b=some o/\X.H₀ b=none
 bsz:X.base.objs.size<=X.s₀.heap.objs.size
 noex:∀b o,X.base.get? b=some o->b∉X.ex
 exfs:∀b∈X.ex,b∉X.fs
 funs:X.s₀.heap.FunFrames X.base X.outer
 frf:∀b∈X.fs,X.H₀ b=none
structure Inv(X:Cx)(pins:cy)(σ:List (Option V))(H:Hp)(s:ae):Prop where
 ok:X.Ok
 os:s.os=X.s₀.os
 bare:dt s.gens
 base:Un X.fs X.ex X.H₀ H X.s₀.heap s.heap
 loc:∃m,s.heap.Ns X.env.locals m/\∀(i:Nat) (x:Str) (v:V),X.N[i]?=some x->σ[i]?=some (some v)->Vis X.env.scope x->∃u,RelV v u/\Look X.env s.heap m x u
 cell:∀x c,X.env.cells.lookup x=some c->∃v,s.heap.IsCell c v
 free:H X.env.locals=none
 freeC:∀x c,X.env.cells.lookup x=some c->H c=none
 pin:∀p∈X.pn++pins,s.heap.get? p.1=some p.2/\H p.1=none/\p.1≠X.env.locals/\p.1∉X.fs/\∀v,p.2.data≠.cell v
 hok:HOk X.prog X.w H s.heap
 len:σ.length=X.N.length
section
variable{X:Cx}{pins:cy}{σ:List (Option V)}{H H':Hp}{s:ae}{h':Heap}
theorem Cx.Ok.nofr(ok:X.Ok)(e:X.base.get? b=some o):b∉X.fs:=λhb=>by have:=(ok.funs.mem hb).1;rw[e]at this;cases this
theorem Inv.bs(I:Inv X pins σ H s):∀b o,X.base.get? b=some o->s.heap.get? b=some o/\H b=none:=λb o e=>
 ⟨I.base.keep b o (I.ok.bs b o e).1 (I.ok.bs b o e).2 (I.ok.nofr e) (I.ok.noex b o e),I.base.free b o (I.ok.bs b o e).1 (I.ok.bs b o e).2 (I.ok.noex b o e)⟩
theorem Inv.bk(I:Inv X pins σ H s):∀b o,X.base.get? b=some o->s.heap.get? b=some o:=λb o e=>(I.bs b o e).1
theorem Inv.mod(I:Inv X pins σ H s):Mod X.K X.mg X.base:=I.ok.mod
theorem Inv.kIn(I:Inv X pins σ H s):X.K.In s.heap:=I.ok.mod.kin.keeps I.bk
theorem Inv.fr(I:Inv X pins σ H s):∃m,Fr X.base X.env.locals s.heap m:=
 let ⟨m,hn,_⟩:=I.loc
 ⟨m,hn,I.bk,bK I.ok.bsz I.ok.above⟩
theorem Inv.lt(I:Inv X pins σ H s):X.env.locals<s.heap.objs.size:=let ⟨_,hn,_⟩:=I.loc;hn.lt
theorem Inv.sz(I:Inv X pins σ H s):X.s₀.heap.objs.size<=s.heap.objs.size:=bK I.ok.above (eO I.lt)
theorem Inv.nofs(I:Inv X pins σ H s)(h:s.heap.objs.size<=a):a∉X.fs:=λhb=>by obtain⟨_,o,ho,_⟩:=I.ok.funs.mem hb;exact aq (b0 (aM ho) (bK I.sz h)) (dm _)
theorem Inv.cne(I:Inv X pins σ H s):∀x c,X.env.cells.lookup x=some c->c≠X.env.locals:=λx c e z=>by obtain⟨v,o,ho,hd⟩:=I.cell x c e;obtain⟨m,⟨o',es,ep,ho',hd',_⟩,_⟩:=I.loc;rw[z,ho']at ho;cases ho;rw[hd']at hd;cases hd
theorem Inv.funs(I:Inv X pins σ H s):s.heap.FunFrames X.base X.outer:=by
 have all:∀(l:List Env),(∀b∈frs l,b∈X.fs)->X.s₀.heap.FunFrames X.base l->s.heap.FunFrames X.base l:=by
  intro l
  induction l with
  |nil=>intro _ _;trivial
  |cons env r ih=>intro hs hl;obtain⟨hk,⟨L,o,hf,hn,ho,hd⟩,hr⟩:=hl;have hL:L∈X.fs:=hs L (by unfold frs;rw[kl,hf];exact aV);obtain⟨sl,e⟩:=I.base.slot L o ho (I.ok.frf L hL) hL λz=>I.ok.exfs L z hL;exact⟨hk,⟨L,_,hf,hn,e,hd⟩,ih (λb hb=>hs b (by unfold frs;rw[kl,hf];exact bf _ hb)) hr⟩
 exact all X.outer (λ_ hb=>hb) I.ok.funs
theorem Inv.stack(I:Inv X pins σ H s):s.heap.FunFrames X.base X.stack:=by
 rcases I.ok.stk with e|⟨e,hf⟩
 ·rw[e];exact I.funs
 ·rw[e];obtain⟨m,hn,_⟩:=I.loc;refine .cons (by rw[I.ok.kind];decide) hf hn ?_ I.funs;exact Heap.get?_none_of_le (bK I.ok.bsz I.ok.above)
theorem Inv.stkSub(I:Inv X pins σ H s):∀b∈frs X.stack,b∈X.env.locals::X.fs:=λb hb=>by
 rcases I.ok.stk with e|⟨e,hf⟩
 ·rw[e]at hb;exact bf _ hb
 ·rw[e]at hb;unfold frs at hb;rw[kl,hf]at hb;exact hb
theorem Inv.stkFree(I:Inv X pins σ H s):∀b∈frs X.stack,H b=none:=λb hb=>by
 rcases aK.mp (I.stkSub b hb)with e|hb
 ·rw[e];exact I.free
 ·obtain⟨_,o,ho,_⟩:=I.ok.funs.mem hb;exact I.base.free b o ho (I.ok.frf b hb) λz=>I.ok.exfs b z hb
theorem Inv.step{g':Array gY}{t':Nat}{d':Drawn}{ch:List Addr}(I:Inv X pins σ H s)
  (hch:∀b∈ch,(b∈X.ex\/X.s₀.heap.objs.size<=b)/\b≠X.env.locals/\(∀x c,X.env.cells.lookup x=some c->c≠b)/\∀p∈X.pn++pins,p.1≠b)
  (keep:∀b o,b≠X.env.locals->b∉X.fs->b∉ch->s.heap.get? b=some o->H b=none->h'.get? b=some o)
  (slot:∀b o,b≠X.env.locals->b∈X.fs->b∉ch->s.heap.get? b=some o->H b=none->∃sl,h'.get? b=some { o with slots:=sl }) (free:∀b o,b∉ch->s.heap.get? b=some o->H b=none->H' b=none)
  (there:∀b o,b∉ch->s.heap.get? b=some o->∃o',h'.get? b=some o')
  (tups:∀b xs,H b=some (.tup xs)->H' b=some (.tup xs)) (frzs:∀b o u,H b=some (.frz o u)->H' b=some (.frz o u)) (tbls:∀b ps,H b=some (.tbl ps)->∃more,H' b=some (.tbl (ps++more)))
  (ns:∀m,s.heap.Ns X.env.locals m->h'.Ns X.env.locals m) (hok:HOk X.prog X.w H' h') (hg:dt g'):
  Inv X pins σ H' { s with heap:=h',gens:=g',drawn:=d',toks:=t' }:=by
 have neL:∀b o,X.s₀.heap.get? b=some o->b≠X.env.locals:=λb o e=>aY (b0 (aM e) I.ok.above);have neC:∀b o,X.s₀.heap.get? b=some o->b∉X.ex->b∉ch:=λb o e hx hb=>by
  rcases(hch b hb).1 with z|z
  ·exact hx z
  ·exact aq (b0 (aM e) z) (dm _)
 have cellK:∀x c,X.env.cells.lookup x=some c->∀v,s.heap.IsCell c v->h'.IsCell c v:=λx c e v ⟨o,ho,hd⟩=>by
  have nch:c∉ch:=λz=>(hch c z).2.2.1 x c e rfl;by_cases hc:c∈X.fs
  ·obtain⟨sl,q⟩:=slot c o (I.cne x c e) hc nch ho (I.freeC x c e);exact⟨_,q,hd⟩
  ·exact⟨o,keep c o (I.cne x c e) hc nch ho (I.freeC x c e),hd⟩
 refine⟨I.ok,I.os,hg,⟨λb o e n hb hx=>?_,λb o e n hb hx=>?_,λb o e n hx=>?_,λb o e hx=>?_,λb xs e=>tups b xs (I.base.tups b xs e),λb o xs e=>frzs b o xs (I.base.frzs b o xs e),λb ps e=>?_⟩,?_,λx c e=>?_,?_,λx c e=>?_,λp hp=>?_,hok,I.len⟩
 ·exact keep b o (neL b o e) hb (neC b o e hx) (I.base.keep b o e n hb hx) (I.base.free b o e n hx)
 ·obtain⟨sl,e1⟩:=I.base.slot b o e n hb hx;obtain⟨sl',e2⟩:=slot b _ (neL b o e) hb (neC b o e hx) e1 (I.base.free b o e n hx);exact⟨sl',e2⟩
 ·obtain⟨o',e1⟩:=I.base.there b o e hx;exact free b o' (neC b o e hx) e1 (I.base.free b o e n hx)
 ·obtain⟨o',e1⟩:=I.base.there b o e hx;exact there b o' (neC b o e hx) e1
 ·obtain⟨m1,e1⟩:=I.base.tbls b ps e;obtain⟨m2,e2⟩:=tbls b _ e1;exact⟨m1++m2,by rw[e2,Array.append_assoc]⟩
 ·obtain⟨m,hn,hl⟩:=I.loc;refine⟨m,ns m hn,λi x v e1 e2 e3=>?_⟩;obtain⟨u,r,l⟩:=hl i x v e1 e2 e3;refine⟨u,r,?_⟩;rcases l with l|⟨k,c,e,z⟩
  ·exact .inl l
  ·exact .inr ⟨k,c,e,cellK x c e _ z⟩
 ·obtain⟨v,z⟩:=I.cell x c e;exact⟨v,cellK x c e v z⟩
 ·obtain⟨m,⟨o,_,_,ho,_⟩,_⟩:=I.loc;exact free _ o (λz=>(hch _ z).2.1 rfl) ho I.free
 ·obtain⟨v,o,ho,hd⟩:=I.cell x c e;exact free c o (λz=>(hch c z).2.2.1 x c e rfl) ho (I.freeC x c e)
 ·obtain⟨e,n,ne,nf,d⟩:=I.pin p hp;have nch:p.1∉ch:=λz=>(hch p.1 z).2.2.2 p hp rfl;exact⟨keep p.1 p.2 ne nf nch e n,free p.1 p.2 nch e n,ne,nf,d⟩
theorem Inv.un(I:Inv X pins σ H s)(u:Un X.fs [] H H' s.heap h')(hok:HOk X.prog X.w H' h'):Inv X pins σ H' { s with heap:=h',toks:=t' }:=by
 obtain⟨m,⟨o,es,ep,ho,r⟩,_⟩:=id I.loc;obtain⟨sl,hL⟩:=u.any ho I.free (by simp);exact I.step (g':=s.gens) (d':=s.drawn) (ch:=[]) (λ_ z=>nomatch z) (λb o _ hb _ e n=>u.keep b o e n hb (by simp)) (λb o _ hb _ e n=>u.slot b o e n hb (by simp)) (λb o _ e n=>u.free b o e n (by simp)) (λb o _ e=>u.there b o e (by simp)) u.tups u.frzs u.tbls (λm' hm=>by
  obtain⟨o',es',ep',ho',r'⟩:=hm;rw[ho]at ho';cases ho';exact⟨_,es',ep',hL,r'⟩) hok I.bare
theorem Inv.call(I:Inv X pins σ H s)(u:Un (frs X.stack) ch H H' s.heap h')(hok:HOk X.prog X.w H' h')(hg:dt g')
  (hch:∀b∈ch,(b∈X.ex\/X.s₀.heap.objs.size<=b)/\b≠X.env.locals/\(∀x c,X.env.cells.lookup x=some c->c≠b)/\∀p∈X.pn++pins,p.1≠b):
  Inv X pins σ H' { s with heap:=h',gens:=g',drawn:=d',toks:=t' }:=by
 obtain⟨m,⟨o,es,ep,ho,r⟩,_⟩:=id I.loc;obtain⟨sl,hL⟩:=u.any ho I.free λz=>(hch _ z).2.1 rfl;exact I.step (ch:=ch) hch (λb o hL hb hc e n=>u.keep b o e n (λz=>(aK.mp (I.stkSub b z)).elim hL hb) hc) (λb o _ _ hc e n=>u.any e n hc) (λb o hc e n=>u.free b o e n hc) (λb o hc e=>u.there b o e hc) u.tups u.frzs u.tbls (λm' hm=>by
  obtain⟨o',es',ep',ho',r'⟩:=hm;rw[ho]at ho';cases ho';exact⟨_,es',ep',hL,r'⟩) hok hg
theorem Inv.turned(I:Inv X pins σ H s)(k:∀b o,b≠it->s.heap.get? b=some o->h'.get? b=some o)(hn:H it=none)(hL:it≠X.env.locals)
  (h1:it∈X.ex\/X.s₀.heap.objs.size<=it) (h2:∀x c,X.env.cells.lookup x=some c->c≠it) (h3:∀p∈X.pn++pins,p.1≠it):Inv X pins σ H { s with heap:=h',toks:=t' }:=by
 have nit:∀b u,H b=some u->b≠it:=λb u e z=>by rw[z,hn]at e;cases e
 refine I.step (g':=s.gens) (d':=s.drawn) (ch:=[it]) (λb hb=>?_) (λb o _ _ hc e _=>k b o (λz=>hc (by simp[z])) e) (λb o _ _ hc e _=>⟨o.slots,k b o (λz=>hc (by simp[z])) e⟩) (λ_ _ _ _ n=>n)
  (λb o hc e=>⟨o,k b o (λz=>hc (by simp[z])) e⟩) (λ_ _ e=>e) (λ_ _ _ e=>e) (λb ps e=>⟨#[],by rw[e];simp⟩) (λm hm=>?_) (λb u e=>?_) I.bare
 ·have e:b=it:=by simpa using hb
  subst e;exact⟨h1,hL,h2,h3⟩
 ·obtain⟨o,es,ep,ho,r⟩:=hm;exact⟨o,es,ep,k _ o (cR hL) ho,r⟩
 ·refine(I.hok b u e).stay (λc v hc q=>k c v ?_ q) (λ_ q=>q) λ_ _ q=>q;rcases hc with z|z
  ·rw[z];exact nit b u e
  ·exact nit c _ z
theorem Inv.tok(I:Inv X pins σ H s)(t:Nat):Inv X pins σ H { s with toks:=t }:=I.un (h':=s.heap) (t':=t) Un.refl I.hok
theorem Inv.kept(I:Inv X pins σ H s)(k:∀b u,s.heap.get? b=some u->h'.get? b=some u):Inv X pins σ H { s with heap:=h',toks:=t' }:=I.un (Un.kept k) (I.hok.kept k)
theorem Inv.laid(I:Inv X pins σ H s)(k:∀b u,s.heap.get? b=some u->h'.get? b=some u)(hp:s.heap.objs.size<=a)(new:tL X.prog X.w (upd H a o) h' a o):
  Inv X pins σ (upd H a o) { s with heap:=h',toks:=t' }:=I.un (Un.laid k hp (I.hok.fresh hp)) (I.hok.laid k hp new)
theorem Inv.write(I:Inv X pins σ H s)(mu:Mut (H x))(he:e=x\/H e=some (.own x))(k:∀b u,b≠e->s.heap.get? b=some u->h'.get? b=some u)(heo:∃u,h'.get? e=some u)
  (new:tL X.prog X.w (upd H x o) h' x o):Inv X pins σ (upd H x o) { s with heap:=h',toks:=t' }:=I.un (Un.write mu he k heo) (I.hok.write mu he k heo new)
theorem Inv.weak{σ':List (Option V)}(I:Inv X pins σ H s)(hl:σ'.length=σ.length)(w:∀(i:Nat) v,σ'[i]?=some (some v)->σ[i]?=some (some v)):Inv X pins σ' H s:=
 ⟨I.ok,I.os,I.bare,I.base,let ⟨m,hn,hl'⟩:=I.loc;⟨m,hn,λi x v e1 e2 e3=>hl' i x v e1 (w i v e2) e3⟩,I.cell,I.free,I.freeC,I.pin,I.hok,hl.trans I.len⟩
theorem Inv.pins_of(I:Inv X pins σ H s)(h:∀p∈pins',s.heap.get? p.1=some p.2/\H p.1=none/\p.1≠X.env.locals/\p.1∉X.fs/\∀v,p.2.data≠.cell v):Inv X pins' σ H s:=
 ⟨I.ok,I.os,I.bare,I.base,I.loc,I.cell,I.free,I.freeC,λp hp=>(bu.mp hp).elim (λz=>I.pin p (bF _ z)) (h p),I.hok,I.len⟩
theorem Jb{N:aB}(hN:N.Nodup){i j:Nat}{x:Str}(a:N[i]?=some x)(b:N[j]?=some x):i=j:=by obtain⟨h1,e1⟩:=bS.mp a;obtain⟨h2,e2⟩:=bS.mp b;exact(kD hN).mp (e1.trans e2.symm)
theorem M0(I:Inv X pins σ H s)(hN:X.N.Nodup)(hi:X.N[i]?=some x)(hx:Loc X.env.scope x)(r:RelV v u)
  (h:∀s',Inv X pins (σ.set i (some v)) H s'->(∃a,fH a s.heap s'.heap/\(a=X.env.locals\/X.env.cells.lookup x=some a))->Q () s') (hf:X.fn x=true\/X.env.scope.names.lookup x=some .local:=by first|exact .inl rfl|exact .inr rfl|assumption):wpAny M A (storeName X.env x u) Q E s:=by
 obtain⟨m,hn,hl⟩:=id I.loc;have hcls:(X.env.scope.kind==.class||(X.env.scope.kind==.module&&X.env.locals != X.env.globals))=false:=by rw[I.ok.kind];rfl
 have hiσ:i<σ.length:=by rw[I.len];exact(bS.mp hi).1
 have cne:=I.cne;have tracked:∀{a:Addr} {h':Heap},(∃o,s.heap.get? a=some o/\H a=none)->fH a s.heap h'->HOk X.prog X.w H h':=λ{a h'} ha hs b ob e=>by
  obtain⟨_,_,hfree⟩:=ha;refine(I.hok b ob e).stay (λc w' hc q=>(hs.2 c ?_).trans q) (λ_ q=>q) λ_ _ q=>q;rintro rfl;rcases hc with rfl|hc
  ·rw[hfree]at e;cases e
  ·rw[hfree]at hc;cases hc
 rcases hx with hk|hk
 ·refine wpAny_storeName_local hk hn (λh' hn' hs=>?_) hcls;obtain⟨oL,_,_,hoL,_⟩:=id hn;refine h _ ⟨I.ok,I.os,I.bare,⟨λb o e n hb hx=>?_,λb o e n hb hx=>?_,I.base.free,λb o e hx=>?_,I.base.tups,I.base.frzs,I.base.tbls⟩,⟨_,hn',λj y v' e1 e2 e3=>?_⟩,λy c e=>?_,I.free,I.freeC,λp hp=>?_,tracked ⟨oL,hoL,I.free⟩ hs,by simpa using I.len⟩ ⟨_,hs,.inl rfl⟩
  ·exact(hs.2 b (aY (b0 (aM e) I.ok.above))).trans (I.base.keep b o e n hb hx)
  ·obtain⟨sl,e1⟩:=I.base.slot b o e n hb hx;exact⟨sl,(hs.2 b (aY (b0 (aM e) I.ok.above))).trans e1⟩
  ·obtain⟨o',e1⟩:=I.base.there b o e hx;exact⟨o',(hs.2 b (aY (b0 (aM e) I.ok.above))).trans e1⟩
  ·by_cases hj:j=i
   ·subst hj;rw[hi]at e1;cases e1;rw[iK hiσ]at e2;cases e2;exact⟨u,r,.inl ⟨hk,by simp⟩⟩
   ·rw[kc (cR hj)]at e2;obtain⟨u',r',q⟩:=hl j y v' e1 e2 e3;refine⟨u',r',?_⟩;rcases q with ⟨k,e⟩|⟨k,c,e,z⟩
    ·refine .inl ⟨k,?_⟩;have:y≠x:=λe=>hj (Jb hN e1 (e▸hi));simp[this,e]
    ·exact .inr ⟨k,c,e,z.sameBut hs (cne y c e)⟩
  ·obtain⟨w',z⟩:=I.cell y c e;exact⟨w',z.sameBut hs (cne y c e)⟩
  ·obtain⟨e,n,ne,nf,d⟩:=I.pin p hp;exact⟨(hs.2 p.1 ne).trans e,n,ne,nf,d⟩
 ·have hfn:X.fn x=true:=by
   rcases hf with z|z
   ·exact z
   ·rw[z]at hk;cases hk
  obtain⟨c,hc⟩:=I.ok.has x (.inl hk);obtain⟨w',z⟩:=I.cell x c hc;refine wpAny_storeName_cell I.ok.kind hk hc z (λh' hc' hs=>?_);obtain⟨oc,hoc,hocd⟩:=id z;refine h { s with heap:=h' } ⟨I.ok,I.os,I.bare,⟨λb o e n hb hx=>?_,λb o e n hb hx=>?_,I.base.free,λb o e hx=>?_,I.base.tups,I.base.frzs,I.base.tbls⟩,⟨m,hn.sameBut hs (cR (cne x c hc)),λj y v' e1 e2 e3=>?_⟩,λy c' e=>?_,I.free,I.freeC,λp hp=>?_,tracked ⟨oc,hoc,I.freeC x c hc⟩ hs,by simpa using I.len⟩ ⟨c,hs,.inr hc⟩
  ·exact(hs.2 b (aY (b0 (aM e) (I.ok.cab x c hfn hc)))).trans (I.base.keep b o e n hb hx)
  ·obtain⟨sl,e1⟩:=I.base.slot b o e n hb hx;exact⟨sl,(hs.2 b (aY (b0 (aM e) (I.ok.cab x c hfn hc)))).trans e1⟩
  ·obtain⟨o',e1⟩:=I.base.there b o e hx;exact⟨o',(hs.2 b (aY (b0 (aM e) (I.ok.cab x c hfn hc)))).trans e1⟩
  ·by_cases hj:j=i
   ·subst hj;rw[hi]at e1;cases e1;rw[iK hiσ]at e2;cases e2;exact⟨u,r,.inr ⟨.inl hk,c,hc,hc'⟩⟩
   ·rw[kc (cR hj)]at e2;obtain⟨u',r',q⟩:=hl j y v' e1 e2 e3;refine⟨u',r',?_⟩;rcases q with q|⟨k,c',e,z'⟩
    ·exact .inl q
    ·refine .inr ⟨k,c',e,z'.sameBut hs ?_⟩;rintro rfl;exact hj (Jb hN e1 (I.ok.inj _ _ _ e hc▸hi))
  ·by_cases hcc:c'=c
   ·subst hcc;exact⟨_,hc'⟩
   ·obtain⟨w2,z2⟩:=I.cell y c' e;exact⟨w2,z2.sameBut hs hcc⟩
  ·obtain⟨e,n,ne,nf,d⟩:=I.pin p hp;refine⟨(hs.2 p.1 ?_).trans e,n,ne,nf,d⟩;intro q;rw[q,hoc]at e;have q':oc=p.2:=cg e;exact d w' (by rw[<-q'];exact hocd)
theorem Jc(I:Inv X pins σ H s)(hN:X.N.Nodup)(hi:X.N[i]?=some x)(hx:Loc X.env.scope x)(r:RelV v u)
  (h:∀s',Inv X pins (σ.set i (some v)) H s'->Q () s') (hf:X.fn x=true\/X.env.scope.names.lookup x=some .local:=by first|exact .inl rfl|exact .inr rfl|assumption):wpAny M A (storeName X.env x u) Q E s:=
 M0 I hN hi hx r (λs' I' _=>h s' I') hf
theorem Inv.call'{s':ae}(I:Inv X pins σ H s)(ho:s'.os=s.os)(u:Un (frs X.stack) ch H H' s.heap s'.heap)(hok:HOk X.prog X.w H' s'.heap)(hg:dt s'.gens)
  (hch:∀b∈ch,(b∈X.ex\/X.s₀.heap.objs.size<=b)/\b≠X.env.locals/\(∀x c,X.env.cells.lookup x=some c->c≠b)/\∀p∈X.pn++pins,p.1≠b):Inv X pins σ H' s':=by
 obtain⟨h',g',d',t',o'⟩:=s';have e:o'=s.os:=ho;subst e;exact I.call (g':=g') (t':=t') (d':=d') u hok hg hch
end
abbrev XK:=aa->Option Addr->Hp->Prop
abbrev St:=List (Option V)
abbrev VK:=V->Hp->Prop
abbrev TE:=St->Hp->VK->Prop
abbrev TT:=St->Hp->(Bool->Hp->Prop)->Prop
abbrev TA:=St->Hp->(bC->Hp->Prop)->Prop
structure Ends where
 nx:St->Hp->Prop
 rt:VK
 bk:St->Hp->Prop:=λ_ _=>False
 ct:St->Hp->Prop:=λ_ _=>False
abbrev TS:=Ends->St->Hp->Prop
def EP(X:Cx)(pins:cy)(σ:St)(Q:VK)(u:aa)(s':ae):Prop:=∃v H',Inv X pins σ H' s'/\RelV v u/\Q v H'
def TP(X:Cx)(pins:cy)(σ:St)(Q:Bool->Hp->Prop)(b:Bool)(s':ae):Prop:=∃H',Inv X pins σ H' s'/\Q b H'
def AP(X:Cx)(pins:cy)(σ:St)(Q:bC->Hp->Prop)(us:List aa)(s':ae):Prop:=∃vs H',Inv X pins σ H' s'/\Vals vs us/\Q vs H'
def SP(X:Cx)(pins:cy)(D:Ends)(f:Flow)(s':ae):Prop:=
 match f with
 |.next=>∃σ' H',Inv X pins σ' H' s'/\D.nx σ' H'
 |.brk=>∃σ' H',Inv X pins σ' H' s'/\D.bk σ' H'
 |.cont=>∃σ' H',Inv X pins σ' H' s'/\D.ct σ' H'
 |.ret u=>∃v σ' H',Inv X pins σ' H' s'/\RelV v u/\D.rt v H'
def PE(X:Cx)(e:Expr)(t:TE):Prop:=
 ∀(pins:cy) (s:ae) (σ:St) (H:Hp) (Q:VK),Inv X pins σ H s->t σ H Q->wpAny (model X.prog X.w) X.A (eval e X.env) (EP X pins σ Q) X.xe s
def PT(X:Cx)(e:Expr)(t:TT):Prop:=
 ∀(pins:cy) (s:ae) (σ:St) (H:Hp) (Q:Bool->Hp->Prop),Inv X pins σ H s->t σ H Q->wpAny (model X.prog X.w) X.A (isTrue e X.env (eval e X.env)) (TP X pins σ Q) X.xe s
def PW(X:Cx)(e:Expr)(t:TT):Prop:=
 ∀(whole:Sem aa) (pins:cy) (s:ae) (σ:St) (H:Hp) (Q:Bool->Hp->Prop),Inv X pins σ H s->t σ H Q->wpAny (model X.prog X.w) X.A (isTrue e X.env whole) (TP X pins σ Q) X.xe s
theorem PW.pt(h:PW X e t):PT X e t:=h _
def PA(X:Cx)(es:List Expr)(t:TA):Prop:=
 ∀(pos:Pos) (pins:cy) (s:ae) (σ:St) (H:Hp) (Q:bC->Hp->Prop),Inv X pins σ H s->t σ H Q->wpAny (model X.prog X.w) X.A (spliced (backTo pos (starEach es X.env))) (AP X pins σ Q) X.xe s
def PS(X:Cx)(st:Stmt)(t:TS):Prop:=
 ∀(pins:cy) (s:ae) (σ:St) (H:Hp) (D:Ends),Inv X pins σ H s->t D σ H->wpAny (model X.prog X.w) X.A (exec st X.env) (SP X pins D) X.xe s
def PSs(X:Cx)(st:List Stmt)(t:TS):Prop:=
 ∀(pins:cy) (s:ae) (σ:St) (H:Hp) (D:Ends),Inv X pins σ H s->t D σ H->wpAny (model X.prog X.w) X.A (execs st X.env) (SP X pins D) X.xe s
theorem thn{α:Type}{t:Sem α}{Q Q':α->ae->Prop}{M:Model}{A:aQ}{E:aa->ae->Prop}{s:ae}(h:wpAny M A t Q E s)(hQ:∀a s,Q a s->Q' a s):wpAny M A t Q' E s:=bV h hQ λ_ _ x=>x
variable{pins:cy}{σ:St}{R:V->V->Hp->Prop}
section
variable{X:Cx}
theorem bin{a b:Expr}{ta tb:TE}(ha:PE X a ta)(hb:PE X b tb){s:ae}{H:Hp}(I:Inv X pins σ H s)(h:ta σ H λx H1=>tb σ H1 λy H2=>R x y H2)
  {α:Type} {Q:α->ae->Prop} {f:aa->aa->Sem α}
  (hf:∀v u s2 x y H2,Inv X pins σ H2 s2->RelV x v->RelV y u->R x y H2->wpAny (model X.prog X.w) X.A (f v u) Q X.xe s2):
  wpAny (model X.prog X.w) X.A (eval a X.env) (λv s₁=>wpAny (model X.prog X.w) X.A (eval b X.env) (λu s₂=>wpAny (model X.prog X.w) X.A (f v u) Q X.xe s₂) X.xe s₁) X.xe s:=by
 refine thn (ha pins s σ H _ I h) λv s1 ⟨x,H1,I1,r1,q1⟩=>?_;refine thn (hb pins s1 σ H1 _ I1 q1) λu s2 ⟨y,H2,I2,r2,q2⟩=>?_;exact hf v u s2 x y H2 I2 r1 r2 q2
def yp(i:Nat):TE:=λσ H Q=>∃v,σ[i]?=some (some v)/\Q v H
def tC(v:V):TE:=λ_ H Q=>Q v H
theorem UT(hN:X.N[i]?=some x)(hv:Vis X.env.scope x)(hd:(x==("__debug__" : Str))=false:=by decide)(hcd:(x==("__classdict__" : Str))=false:=by decide):PE X (.Name x pos) (yp i):=by
 intro pins s σ H Q I h;obtain⟨v,e,h⟩:=h;obtain⟨m,hn,hl⟩:=I.loc;obtain⟨u,r,l⟩:=hl i x v hN e hv;have fin:EP X pins σ Q u s:=⟨v,H,I,r,h⟩;rcases l with ⟨hk,hm⟩|⟨hk,c,hc,hcell⟩
 ·exact lF (wpAny_loadName_local I.ok.kind hk hn hm fin) hd
 ·rcases hk with hk|hk
  ·exact lF (wpAny_loadName_cell I.ok.kind hk hc hcell fin) hd
  ·exact lF (wpAny_loadName_free I.ok.kind hk hc hcell fin hcd) hd
theorem Kz{i j pos}:PE X (.Constant (.int i) j pos) (tC (.int i)):=λ_ _ _ H _ I h=>wpAny_Constant_int ⟨.int i,H,I.tok _,⟨_,rfl⟩,h⟩
theorem YQ{b j pos}:PE X (.Constant (.bool b) j pos) (tC (.bl b)):=λ_ _ _ H _ I h=>Constant_bool ⟨.bl b,H,I,rfl,h⟩
theorem UU{j pos}:PE X (.Constant .none j pos) (tC .non):=λ_ _ _ H _ I h=>Constant_none ⟨.non,H,I,rfl,h⟩
theorem Om{x j pos}:PE X (.Constant (.str x) j pos) (tC (.str x)):=λ_ _ _ H _ I h=>Calls.Constant_str ⟨.str x,H,I.tok _,⟨_,rfl⟩,h⟩
def Gl(X:Cx)(x:Str):Prop:=X.env.kindOf x=some .globalImplicit
theorem BJ(I:Inv X pins σ H s)(hg:Gl X x)(hm:X.mg x=some u)(h:Q u s)
  (hd:(x==("__debug__" : Str))=false:=by decide):wpAny (model X.prog X.w) X.A (eval (.Name x pos) X.env) Q E s:=
 ny I.ok.kind hg (Calls.loadGlobal_global (by rw[I.ok.glob];exact I.mod.glob.keeps I.bk) hm h) hd
theorem Bp(I:Inv X pins σ H s)(hg:Gl X x)(hm:X.mg x=none)(hv:bootBuiltins x=some u)(h:Q u s)
  (hn:x≠"__name__" := by decide) (hd:(x==("__debug__" : Str))=false:=by decide):wpAny (model X.prog X.w) X.A (eval (.Name x pos) X.env) Q E s:=by
 obtain⟨mb,h1,h2⟩:=I.mod.blt;exact ny I.ok.kind hg (Calls.loadGlobal_builtin (by rw[I.ok.glob];exact I.mod.glob.keeps I.bk) hm (by rw[I.ok.blt];exact h1.keeps I.bk) ((h2 x hn).trans hv) h) hd
theorem LL(hg:Gl X x)(hm:X.mg x=some u)(r:RelV v u)(hd:(x==("__debug__" : Str))=false:=by decide):PE X (.Name x pos) (tC v):=
 λ_ _ _ H _ I h=>BJ I hg hm ⟨v,H,I,r,h⟩ hd
theorem Rp(hg:Gl X x)(hm:X.mg x=none)(hv:bootBuiltins x=some u)(r:RelV v u)(hn:x≠"__name__" := by decide)(hd:(x==("__debug__" : Str))=false:=by decide):PE X (.Name x pos) (tC v):=
 λ_ _ _ H _ I h=>Bp I hg hm hv ⟨v,H,I,r,h⟩ hn hd
variable{a b:Expr}{ta tb:TE}{pos:Pos}
def PC(X:Cx)(op:CmpOp)(a b:Expr)(t:TE):Prop:=
 ∀(pins:cy) (s:ae) (σ:St) (H:Hp) (Q:VK),Inv X pins σ H s->t σ H Q->
  wpAny (model X.prog X.w) X.A (eval a X.env) (λv s₁=>wpAny (model X.prog X.w) X.A (eval b X.env) (λu s₂=>wpAny (model X.prog X.w) X.A (compareOp op v u) (EP X pins σ Q) X.xe s₂) X.xe s₁) X.xe s
def tB(t:TE):TT:=λσ H Q=>t σ H λx H1=>∃c,x=.bl c/\Q c H1
theorem UV(h:PC X op a b t)(h1:behindInMarks op b=false:=by first|exact nobehind _ (by decide) (by decide)|rfl):PE X (.Compare a [op] [b] pos) t:=λpins s σ H Q I hw=>wpAny_Compare1 (h pins s σ H Q I hw) h1
theorem UW(h:PC X op a b t)(h1:behindInMarks op b=false:=by first|exact nobehind _ (by decide) (by decide)|rfl):PT X (.Compare a [op] [b] pos) (tB t):=by intro pins s σ H Q I hw;refine nU (thn (h pins s σ H _ I hw) λv s1 h1=>thn h1 λu s2 h2=>thn h2 λc s3 ⟨x,H1,I1,r1,q1⟩=>?_) h1;obtain⟨d,rfl,q⟩:=q1;cases r1;exact cN ⟨H1,I1,q⟩
theorem UX(h:PE X e t)(he:∀whole,isTrue e X.env whole=(do let v<-whole;standAt e.pos;holding [v] (truthy v)):=by intro _;rfl):PT X e (tB t):=by intro pins s σ H Q I hw;refine isTrue_plain (thn (h pins s σ H _ I hw) λv s1 ⟨x,H1,I1,r1,q1⟩=>?_) (he _);obtain⟨d,rfl,q⟩:=q1;cases r1;exact cN ⟨H1,I1,q⟩
variable{tA tB':TT}{rest:List Expr}
def YR(t u:TT):TT:=λσ H Q=>t σ H λc H1=>if c=true then u σ H1 Q else Q false H1
def tOr(t u:TT):TT:=λσ H Q=>t σ H λc H1=>if c=true then Q true H1 else u σ H1 Q
def tNot(t:TT):TT:=λσ H Q=>t σ H λc H1=>Q (!c) H1
theorem Rq(ha:PT X a tA):PW X (.BoolOp .And [a] pos) tA:=by
 intro wh pins s σ H Q I h;refine isTrue_and (thn (ha pins s σ H Q I h) λc s1 e=>?_);cases c with
 |true=>exact isTrue_and_nil e
 |false=>exact e
theorem UY(ha:PT X a tA):PW X (.BoolOp .Or [a] pos) tA:=by
 intro wh pins s σ H Q I h;refine isTrue_or (thn (ha pins s σ H Q I h) λc s1 e=>?_);cases c with
 |false=>exact isTrue_or_nil e
 |true=>exact e
theorem UZ(ha:PT X a tA)(hb:PW X (.BoolOp .And (b::rest) pos) tB'):PW X (.BoolOp .And (a::b::rest) pos) (YR tA tB'):=by
 intro wh pins s σ H Q I h;refine isTrue_and (thn (ha pins s σ H _ I h) λc s1 ⟨H1,I1,q1⟩=>?_);cases c with
 |true=>exact hb wh pins s1 σ H1 Q I1 q1
 |false=>exact⟨H1,I1,q1⟩
theorem YS(ha:PT X a tA)(hb:PW X (.BoolOp .Or (b::rest) pos) tB'):PW X (.BoolOp .Or (a::b::rest) pos) (tOr tA tB'):=by
 intro wh pins s σ H Q I h;refine isTrue_or (thn (ha pins s σ H _ I h) λc s1 ⟨H1,I1,q1⟩=>?_);cases c with
 |true=>exact⟨H1,I1,q1⟩
 |false=>exact hb wh pins s1 σ H1 Q I1 q1
theorem U0(ha:PT X a tA):PT X (.UnaryOp .Not a pos) (tNot tA):=by intro pins s σ H Q I h;exact isTrue_not (ha pins s σ H (λc H1=>Q (!c) H1) I h)
def YT(ta tb:TE):TE:=λσ H Q=>ta σ H λx H1=>∃c,x=.bl c/\if c=true then tb σ H1 Q else Q (.bl false) H1
def tOrV(ta tb:TE):TE:=λσ H Q=>ta σ H λx H1=>∃c,x=.bl c/\if c=true then Q (.bl true) H1 else tb σ H1 Q
def YU(ta:TE):TE:=λσ H Q=>ta σ H λx H1=>∃c,x=.bl c/\Q (.bl (!c)) H1
theorem U1{op}(h:PE X a t):PE X (.BoolOp op [a] pos) t:=λpins s σ H Q I hw=>BoolOp_one (h pins s σ H Q I hw)
theorem U2(ha:PE X a ta)(hb:PE X (.BoolOp .And (b::rest) pos) tb):PE X (.BoolOp .And (a::b::rest) pos) (YT ta tb):=by
 intro pins s σ H Q I h;refine BoolOp_and (thn (ha pins s σ H _ I h) λv s1 ⟨x,H1,I1,r1,q1⟩=>?_);obtain⟨c,rfl,q1⟩:=q1;cases r1;refine cN ?_;cases c with
 |true=>exact hb pins s1 σ H1 Q I1 q1
 |false=>exact⟨.bl false,H1,I1,rfl,q1⟩
theorem YV(ha:PE X a ta)(hb:PE X (.BoolOp .Or (b::rest) pos) tb):PE X (.BoolOp .Or (a::b::rest) pos) (tOrV ta tb):=by
 intro pins s σ H Q I h;refine BoolOp_or (thn (ha pins s σ H _ I h) λv s1 ⟨x,H1,I1,r1,q1⟩=>?_);obtain⟨c,rfl,q1⟩:=q1;cases r1;refine cN ?_;cases c with
 |false=>exact hb pins s1 σ H1 Q I1 q1
 |true=>exact⟨.bl true,H1,I1,rfl,q1⟩
theorem U3(ha:PE X a ta):PE X (.UnaryOp .Not a pos) (YU ta):=by intro pins s σ H Q I h;refine UnaryOp_ (thn (ha pins s σ H _ I h) λv s1 ⟨x,H1,I1,r1,q1⟩=>?_);obtain⟨c,rfl,q1⟩:=q1;cases r1;exact not_of (cN ⟨.bl (!c),H1,I1,rfl,q1⟩)
def tIf(t:TT)(ta tb:TE):TE:=λσ H Q=>t σ H λc H1=>if c=true then ta σ H1 Q else tb σ H1 Q
theorem On(hc:PT X c tA)(ha:PE X a ta)(hb:PE X b tb):PE X (.IfExp c a b pos) (tIf tA ta tb):=by
 intro pins s σ H Q I h;refine wpAny_IfExp (thn (hc pins s σ H _ I h) λd s1 ⟨H1,I1,q1⟩=>?_);cases d with
 |true=>exact ha pins s1 σ H1 Q I1 q1
 |false=>exact hb pins s1 σ H1 Q I1 q1
end
def SqL(K:ar)(H:Hp)(a:Addr)(xs:bC):Prop:=
 Rd H a (.lst xs)\/
  ∃(o:Obj) (its:Array aa) (n:Nat),K.lookup a=some o/\o.cls=.type "list" /\ o.dict=none/\o.data=.seq its n/\its.size<=sizeLine/\Vals xs its.toList
def SqT(K:ar)(H:Hp)(a:Addr)(xs:bC):Prop:=
 Rd H a (.tup xs)\/
  ∃(o:Obj) (its:Array aa) (n:Nat),K.lookup a=some o/\o.cls=.type "tuple" /\ o.data=.seq its n/\its.size<=sizeLine/\Vals xs its.toList
def absV:aa->Option V
 |.none=>some .non
 |.bool b=>some (.bl b)
 |.int i _=>some (.int i)
 |.str x _=>some (.str x)
 |.bytes b _=>some (.byt b)
 |.float b _=>some (.flt b)
 |.ref a=>some (.ref a)
 |.type n=>some (.ty n)
 |_=>none
theorem RelV.abs(r:RelV x u):absV u=some x:=by
 cases x with
 |non=>cases r;rfl
 |bl _=>cases r;rfl
 |int _=>obtain⟨t,rfl⟩:=r;rfl
 |str _=>obtain⟨t,rfl⟩:=r;rfl
 |byt _=>obtain⟨t,rfl⟩:=r;rfl
 |flt _=>obtain⟨t,rfl⟩:=r;rfl
 |ref _=>cases r;rfl
 |ty _=>cases r;rfl
theorem RelV.inj(r:RelV x u)(q:RelV y u):x=y:=cg (r.abs.symm.trans q.abs)
theorem Vals.inj:∀{xs ys:bC} {us:List aa},Vals xs us->Vals ys us->xs=ys
 |_,_,_,.nil,.nil=>rfl
 |_,_,_,.cons r t,.cons r' t'=>by rw[r.inj r',Vals.inj t t']
section
variable{X:Cx}{pins:cy}{σ:St}{H:Hp}{s:ae}{a:Addr}{xs ys:bC}
theorem SqL.of{K:ar}(h:H a=some (.lst xs)):SqL K H a xs:=.inl (.inl h)
theorem SqT.of{K:ar}(h:H a=some (.tup xs)):SqT K H a xs:=.inl (.inl h)
theorem Inv.list(I:Inv X pins σ H s)(h:SqL X.K H a xs):∃its:List aa,Vals xs its/\PlainL s.heap a its.toArray/\xs.length<=sizeLine:=by
 rcases h with h|⟨o,its,n,hk,hc,hd,hs,hz,r⟩
 ·obtain⟨z,its,n,r,e⟩:=h.ok I.hok;exact⟨its,r,⟨_,n,e,rfl,rfl,rfl⟩,z⟩
 ·refine⟨its.toList,r,⟨o,n,I.kIn a o hk,hc,hd,by simpa using hs⟩,?_⟩;have e:=r.length;simp only[eD]at e;omega
theorem Inv.tuple(I:Inv X pins σ H s)(h:SqT X.K H a xs):∃its:List aa,Vals xs its/\du s.heap a its.toArray/\xs.length<=sizeLine:=by
 rcases h with h|⟨o,its,n,hk,hc,hs,hz,r⟩
 ·obtain⟨z,its,r,p⟩:=h.ok I.hok;exact⟨its,r,p,z⟩
 ·refine⟨its.toList,r,⟨o,I.kIn a o hk,hc,n,by simpa using hs⟩,?_⟩;have e:=r.length;simp only[eD]at e;omega
theorem Inv.list_inj(I:Inv X pins σ H s)(h:SqL X.K H a xs)(h':SqL X.K H a ys):xs=ys:=by
 obtain⟨its,r,⟨o,n,e,_,_,d⟩,_⟩:=I.list h;obtain⟨its',r',⟨o',n',e',_,_,d'⟩,_⟩:=I.list h';rw[e]at e';cases e';rw[d]at d';injection d' with d1 _;have:its=its':=by simpa using aT pL d1
 subst this;exact r.inj r'
theorem Inv.tuple_inj(I:Inv X pins σ H s)(h:SqT X.K H a xs)(h':SqT X.K H a ys):xs=ys:=by
 obtain⟨its,r,⟨o,e,_,n,d⟩,_⟩:=I.tuple h;obtain⟨its',r',⟨o',e',_,n',d'⟩,_⟩:=I.tuple h';rw[e]at e';cases e';rw[d]at d';injection d' with d1 _;have:its=its':=by simpa using aT pL d1
 subst this;exact r.inj r'
end
abbrev Cx.wish(X:Cx)(E:aa->ae->Prop):Cx:={ X with xe:=E }
abbrev Cx.nox(X:Cx):Cx:=X.wish λ_ _=>False
variable{X:Cx}
theorem Cx.Ok.wish(ok:X.Ok)(E:aa->ae->Prop):(X.wish E).Ok:=
 ⟨ok.mod,ok.kind,ok.glob,ok.blt,ok.above,ok.inj,ok.has,ok.cab,ok.hd,ok.frames,ok.stk,ok.exf,ok.bs,ok.bsz,ok.noex,ok.exfs,ok.funs,ok.frf⟩
theorem Cx.Ok.unwish(ok:(X.wish E).Ok):X.Ok:=
 ⟨ok.mod,ok.kind,ok.glob,ok.blt,ok.above,ok.inj,ok.has,ok.cab,ok.hd,ok.frames,ok.stk,ok.exf,ok.bs,ok.bsz,ok.noex,ok.exfs,ok.funs,ok.frf⟩
section
variable{X:Cx}{pins:cy}{σ:St}{H:Hp}{s:ae}{E:aa->ae->Prop}
theorem Inv.wish(I:Inv X pins σ H s)(E:aa->ae->Prop):Inv (X.wish E) pins σ H s:=⟨I.ok.wish E,I.os,I.bare,I.base,I.loc,I.cell,I.free,I.freeC,I.pin,I.hok,I.len⟩
theorem Inv.unwish(I:Inv (X.wish E) pins σ H s):Inv X pins σ H s:=⟨I.ok.unwish,I.os,I.bare,I.base,I.loc,I.cell,I.free,I.freeC,I.pin,I.hok,I.len⟩
theorem SP.unwish{D:Ends}(h:SP (X.wish E) pins D f s'):SP X pins D f s':=by
 cases f with
 |next=>obtain⟨σ',H',I,q⟩:=h;exact⟨σ',H',I.unwish,q⟩
 |brk=>obtain⟨σ',H',I,q⟩:=h;exact⟨σ',H',I.unwish,q⟩
 |cont=>obtain⟨σ',H',I,q⟩:=h;exact⟨σ',H',I.unwish,q⟩
 |ret u=>obtain⟨v,σ',H',I,r,q⟩:=h;exact⟨v,σ',H',I.unwish,r,q⟩
theorem PSs.nox{st:List Stmt}(h:PSs X.nox st t):PSs X st t:=λpins s σ H D I hw=>
 bV (h pins s σ H D (I.wish _) hw) (λ_ _ q=>q.unwish) λ_ _ z=>cE z
end
section
variable{X:Cx}{st:Stmt}{rest:List Stmt}{t u:TS}{e:Expr}{te:TE}{pos:Pos}
def YW:TS:=λD σ H=>D.nx σ H
def tSeq(t u:TS):TS:=λD σ H=>t { D with nx:=u D } σ H
theorem Rr:PSs X [] YW:=λ_ _ σ H _ I h=>iY ⟨σ,H,I,h⟩
theorem EA(h1:PS X st t)(h2:PSs X rest u):PSs X (st::rest) (tSeq t u):=by
 intro pins s σ H D I h;refine wpAny_execs_cons (thn (h1 pins s σ H { D with nx:=u D } I h) λf s1 q=>?_);cases f with
 |next=>obtain⟨σ',H',I',q⟩:=q;exact h2 pins s1 σ' H' D I' q
 |ret v=>exact q
 |brk=>exact q
 |cont=>exact q
theorem HN(h1:PS X st t):PSs X [st] t:=by
 intro pins s σ H D I h;refine wpAny_execs_cons (thn (h1 pins s σ H D I h) λf s1 q=>?_);cases f with
 |next=>exact iY q
 |ret v=>exact q
 |brk=>exact q
 |cont=>exact q
theorem Inv.quiet(I:Inv X pins σ H s):interactive X.env=false:=by simp[interactive,I.ok.kind]
def Uo(te:TE):TS:=λD σ H=>te σ H λ_ H1=>D.nx σ H1
theorem LM(he:PE X e te)(hs:swapsWith e none pos.line X.env=pure false:=by rfl):PS X (.Expr e pos) (Uo te):=by intro pins s σ H D I h;exact wpAny_Expr_any (thn (he pins s σ H _ I h) λv s1 ⟨x,H1,I1,r1,q1⟩=>⟨σ,H1,I1,q1⟩) I.quiet hs
def YX(te:TE):TS:=λD σ H=>te σ H D.rt
theorem KA(he:PE X e te):PS X (.Return (some e) pos) (YX te):=by intro pins s σ H D I h;exact wpAny_Return_some (thn (he pins s σ H _ I h) λv s1 ⟨x,H1,I1,r1,q1⟩=>⟨x,σ,H1,I1,r1,q1⟩)
def tIfS(c:TT)(t u:TS):TS:=λD σ H=>c σ H λb H1=>if b=true then t D σ H1 else u D σ H1
theorem YY(hc:PT X c tc)(ha:PSs X a t)(hb:PSs X b u):PS X (.If c a b pos) (tIfS tc t u):=by
 intro pins s σ H D I h;refine wpAny_If (thn (hc pins s σ H _ I h) λd s1 ⟨H1,I1,q1⟩=>?_);cases d with
 |true=>exact ha pins s1 σ H1 D I1 q1
 |false=>exact hb pins s1 σ H1 D I1 q1
end
abbrev TG:=V->St->Hp->(St->Hp->Prop)->Prop
abbrev TGs:=bC->St->Hp->(St->Hp->Prop)->Prop
def PG(X:Cx)(target:Expr)(t:TG):Prop:=
 ∀(pins:cy) (s:ae) (σ:St) (H:Hp) (v:V) (u:aa) (Q:St->Hp->Prop),Inv X pins σ H s->RelV v u->t v σ H Q->
  wpAny (model X.prog X.w) X.A (assign target X.env u) (λ_ s'=>∃σ' H',Inv X pins σ' H' s'/\Q σ' H') X.xe s
def PGs(X:Cx)(ts:List Expr)(t:TGs):Prop:=
 ∀(pins:cy) (s:ae) (σ:St) (H:Hp) (vs:bC) (us:List aa) (Q:St->Hp->Prop),Inv X pins σ H s->Vals vs us->t vs σ H Q->
  wpAny (model X.prog X.w) X.A (assignInOrder ((assignEach ts X.env).map (·.2)) us) (λ_ s'=>∃σ' H',Inv X pins σ' H' s'/\Q σ' H') X.xe s
section
variable{X:Cx}{pos:Pos}
def yG(i:Nat):TG:=λv σ H Q=>Q (σ.set i (some v)) H
theorem LN(hN:X.N.Nodup)(hi:X.N[i]?=some x)(hx:Loc X.env.scope x)(hf:X.fn x=true\/X.env.scope.names.lookup x=some .local:=by first|exact .inl rfl|exact .inr rfl|assumption):PG X (.Name x pos) (yG i):=by intro pins s σ H v u Q I r h;exact wpAny_assign_Name (Jc I hN hi hx r (λs' I'=>⟨_,H,I',h⟩) hf)
def YZ:TGs:=λvs σ H Q=>vs=[]/\Q σ H
def Up(t:TG)(u:TGs):TGs:=λvs σ H Q=>∃v r,vs=v::r/\t v σ H λσ' H'=>u r σ' H' Q
theorem Rt:PGs X [] YZ:=by intro pins s σ H vs us Q I r h;obtain⟨e,h⟩:=h;subst e;cases r;exact assignInOrder_nil ⟨σ,H,I,h⟩
theorem Oo(h1:PG X e t)(h2:PGs X es u)
  (hs:(assignEach (e::es) X.env).map (·.2)=assign e X.env::(assignEach es X.env).map (·.2):=by rfl):PGs X (e::es) (Up t u):=by
 intro pins s σ H vs us Q I r h;obtain⟨v,vr,e1,h⟩:=h;subst e1;cases r with
 |cons r rr=>rw[hs];refine assignInOrder_cons (thn (h1 pins s σ H _ _ _ I r h) λ_ s1 ⟨σ1,H1,I1,q1⟩=>?_);exact h2 pins s1 σ1 H1 _ _ Q I1 rr q1
def U4(K:ar)(n:Nat)(t:TGs):TG:=λv σ H Q=>∃a xs,v=.ref a/\SqT K H a xs/\xs.length=n/\t xs σ H Q
theorem U5(hc:X.calm=true)(h:PGs X es t)
  (hn:(assignEach es X.env).length=n:=by rfl) (hst:(assignEach es X.env).findIdx? (·.1)=none:=by rfl):PG X (.Tuple es k pos) (U4 X.K n t):=by
 intro pins s σ H v u Q I r hw;obtain⟨a,xs,e1,hq,hl,hw⟩:=hw;subst e1;cases r;obtain⟨its,rv,ht,hz⟩:=I.tuple hq;refine assign_Tuple_tuple (I.ok.hd hc) ht (by simp[hn,<- hl,rv.length]) hst λh' hx=>?_;have I1:Inv X pins σ H { s with heap:=h' }:=I.kept (t':=s.toks) λb o e=>hx b o (aY (aM e)) e;exact h pins _ σ H xs _ Q I1 (by simpa using rv) hw
def CC(te:TE)(g:TG):TS:=λD σ H=>te σ H λx H1=>g x σ H1 D.nx
theorem U6(he:PE X e te)(hg:PG X tg g)(hs:swapsWithSole [tg] e pos.line X.env=pure false:=by rfl)(hw:swappedStores [tg] e X.env=pure none:=by rfl)
  (h1:(assignEach [tg] X.env).map (·.2)=[assign tg X.env]:=by rfl):PS X (.Assign [tg] e pos) (CC te g):=by
 intro pins s σ H D I h;refine wpAny_Assign_stores (thn (he pins s σ H _ I h) λv s1 ⟨x,H1,I1,r1,q1⟩=>?_) hs hw;rw[h1];exact thn (hg pins s1 σ H1 x v _ I1 r1 q1) λ_ s2 q=>q
theorem U7(hN:X.N.Nodup)(hi:X.N[i]?=some x)(hx:Loc X.env.scope x)(he:PE X e te)(hs:swapsWith e (some (.Name x pos')) pos.line X.env=pure false:=by rfl)(hf:X.fn x=true\/X.env.scope.names.lookup x=some .local:=by first|exact .inl rfl|exact .inr rfl|assumption):
  PS X (.Assign [.Name x pos'] e pos) (CC te (yG i)):=by
 intro pins s σ H D I h;refine wpAny_Assign_Name (thn (he pins s σ H _ I h) λv s1 ⟨y,H1,I1,r1,q1⟩=>?_) hs;exact Jc I1 hN hi hx r1 (λs2 I2=>⟨_,H1,I2,q1⟩) hf
end
section
variable{X:Cx}{pos:Pos}
def Oq(c:TT)(tb:TS):TS:=λD σ H=>∃W:Nat->St->Hp->Prop,(∃m,W m σ H)/\∀m σ H,W m σ H->
 c σ H λb H1=>if b=true then ∃N:St->Hp->Prop,(∀σ' H',N σ' H'->∃m',m'<m/\W m' σ' H')/\tb { D with nx:=N,ct:=N,bk:=D.nx } σ H1 else D.nx σ H1
theorem Os(hp:jn (model X.prog X.w) X.A X.env X.xe)(hc:PT X c tc)(hb:PSs X body tb):PS X (.While c body [] pos) (Oq tc tb):=by
 intro pins s σ H D I h;obtain⟨W,⟨m0,w0⟩,turn⟩:=h;refine wpAny_While (codeAny_whileLoop (λn s'=>∃σ' H',Inv X pins σ' H' s'/\W n σ' H') ?_ m0 ⟨σ,H,I,w0⟩);rintro n s1 ⟨σ1,H1,I1,w1⟩;refine eK hp (thn (hc pins s1 σ1 H1 _ I1 (turn n σ1 H1 w1)) λb s2 ⟨H2,I2,q2⟩=>?_);cases b with
 |true=>
  obtain⟨N,hN,q2⟩:=q2;rw[ai rfl];refine eK hp (thn (hb pins s2 σ1 H2 _ I2 q2) λf s3 q3=>?_);cases f with
  |next=>obtain⟨σ3,H3,I3,n3⟩:=q3;obtain⟨m',hm,w3⟩:=hN σ3 H3 n3;exact⟨m',hm,σ3,H3,I3,w3⟩
  |cont=>obtain⟨σ3,H3,I3,n3⟩:=q3;obtain⟨m',hm,w3⟩:=hN σ3 H3 n3;exact⟨m',hm,σ3,H3,I3,w3⟩
  |brk=>exact q3
  |ret v=>exact q3
 |false=>rw[aj br];exact iY ⟨σ1,H2,I2,q2⟩
end
structure It where
 go:Nat->Hp->Prop
 yld:Nat->Hp->V->Hp->Prop
 stop:Nat->Hp->Prop
def Ga(X:Cx)(pins:cy)(H:Hp)(b:Addr):Prop:=
 H b=none/\b≠X.env.locals/\b∉X.fs/\(b∈X.ex\/X.s₀.heap.objs.size<=b)/\(∀x c,X.env.cells.lookup x=some c->c≠b)/\∀p∈X.pn++pins,p.1≠b
theorem Inv.fpOk(I:Inv X pins σ H s)(hb:s.heap.objs.size<=b)(hn:H' b=none):Ga X pins H' b:=by
 refine⟨hn,fI (b0 I.lt hb),I.nofs hb,.inr (bK I.sz hb),λx c e z=>?_,λp hp z=>?_⟩
 ·obtain⟨v,q⟩:=I.cell x c e;exact aq (b0 q.lt (by rw[z];exact hb)) (dm _)
 ·exact aq (b0 (aM (I.pin p hp).1) (by rw[z];exact hb)) (dm _)
structure Turn(P:aU)(w:aI)(K:ar)(tg:Expr)(J:It)(fp:List Addr)(it:Addr)(tn:Nat->Heap->Prop):Prop where
 mem:it∈fp
 obj:∀i h,tn i h->∀b∈fp,∃o,h.get? b=some o/\∀v,o.data≠.cell v
 keep:∀i h h',tn i h->(∀b∈fp,∀o,h.get? b=some o->h'.get? b=some o)->tn i h'
 item:∀(X:Cx),X.prog=P->X.w=w->X.K=K->X.calm=true->∀(i:Nat) (pins:cy) (s:ae) (σ:St) (H:Hp) (E:aa->ae->Prop),Inv X pins σ H s->(∀b∈fp,Ga X pins H b)->tn i s.heap->J.go i H->
  wpAny (model P w) X.A (pyNext (.ref it)) (λr s1=>∃u,r=some u/\
   wpAny (model P w) X.A (letOwnedTupleGo tg (.ref it) u) (λ_ s2=>∃x H',Inv X pins σ H' s2/\RelV x u/\J.yld i H x H'/\tn (i+1) s2.heap/\∀b∈fp,H' b=none) E s1) E s
 done:∀(X:Cx),X.prog=P->X.w=w->X.K=K->X.calm=true->∀(i:Nat) (pins:cy) (s:ae) (σ:St) (H:Hp) (E:aa->ae->Prop),Inv X pins σ H s->(∀b∈fp,Ga X pins H b)->tn i s.heap->J.stop i H->
  wpAny (model P w) X.A (pyNext (.ref it)) (λr s1=>r=none/\Inv X pins σ H s1) E s
 self:∀(A:aQ) (i:Nat) (s:ae) (Q:aa->ae->Prop) (E:aa->ae->Prop),tn i s.heap->Q (.ref it) s->wpAny (model P w) A (pyIter (.ref it)) Q E s
abbrev TI:=St->Hp->(It->Hp->Prop)->Prop
def PIE(X:Cx)(pins:cy)(σ:St)(tg:Expr)(R:It->Hp->Prop)(itv:aa)(s2:ae):Prop:=
 ∃(it:Addr) (fp:List Addr) (tn:Nat->Heap->Prop) (J:It) (H':Hp),itv=.ref it/\Inv X pins σ H' s2/\Turn X.prog X.w X.K tg J fp it tn/\tn 0 s2.heap/\(∀b∈fp,Ga X pins H' b)/\R J H'
def PI(X:Cx)(tg iter:Expr)(wi:TI):Prop:=
 ∀(pins:cy) (s:ae) (σ:St) (H:Hp) (R:It->Hp->Prop),Inv X pins σ H s->wi σ H R->
  wpAny (model X.prog X.w) X.A (eval iter X.env) (λv s1=>wpAny (model X.prog X.w) X.A (pyIter v) (PIE X pins σ tg R) X.xe s1) X.xe s
theorem LO{s:ae}(ho:s.heap.get? it=some o)(hc:o.cls=.type n)(hd:o.data=.fields vs)
  (hn:["enumerate", "zip", "dict_itemiterator", "dict_reverseitemiterator", "odict_iterator", "itertools.zip_longest", "itertools.pairwise"].contains n=false) (hQ:Q () s):wpAny M A (letOwnedTupleGo tg (.ref it) u) Q E s:=by
 unfold letOwnedTupleGo;cases tg<;>first
  |exact az hQ
  |(cases u<;>first
    |exact az hQ
    |(refine ao (wpAny_load ho ?_)
      rw[hc,hd];show wpAny M A (if (["enumerate", "zip", "dict_itemiterator", "dict_reverseitemiterator", "odict_iterator", "itertools.zip_longest", "itertools.pairwise"].contains n&&vs[0]?==some (rawInt _))=true then _ else _) Q E s;rw[aj (by intro h;rw[hn,Bool.false_and]at h;cases h)];exact az hQ))
def Itl(K:ar)(a:Addr):It:=
 ⟨λi H=>∃xs x,SqL K H a xs/\xs[i]?=some x,λi H x H'=>H'=H/\∀xs,SqL K H a xs->xs[i]?=some x,λi H=>∃xs,SqL K H a xs/\xs.length<=i⟩
def Itt(K:ar)(a:Addr):It:=
 ⟨λi H=>∃xs x,SqT K H a xs/\xs[i]?=some x,λi H x H'=>H'=H/\∀xs,SqT K H a xs->xs[i]?=some x,λi H=>∃xs,SqT K H a xs/\xs.length<=i⟩
def Itr(lo:Int)(n:Nat):It:=⟨λi _=>i<n,λi H x H'=>H'=H/\x=.int (lo+i),λi _=>n<=i⟩
theorem M4{K:ar}(a it:Addr):Turn P w K tg (Itl K a) [it] it (λi h=>h.IsListIter it a i) where
 mem:=by simp
 obj:=λi h st b hb=>by
  have e:b=it:=by simpa using hb
  subst e;obtain⟨o,e,c,d⟩:=st;exact⟨o,e,λv z=>by rw[d]at z;cases z⟩
 keep:=λi h h' st k=>st.at λo e=>k it (by simp) o e
 item:=by intro X hP hw hK hc i pins s σ H E I hf st hg;subst hP hw hK;obtain⟨xs,x,hq,hx⟩:=hg;obtain⟨its,rv,p,hz⟩:=I.list hq;obtain⟨u,hu,ru⟩:=rv.get hx;obtain⟨f0,f1,f2,f3,f4,f5⟩:=hf it (by simp);refine wpAny_pyNext_list_item st p.isList (x:=u) (by simpa using hu) λh' st' sb=>?_;have I1:Inv X pins σ H { s with heap:=h' }:=I.turned (t':=s.toks) (λb o hb e=>(sb.2 b hb).trans e) f0 f1 f3 f4 f5;obtain⟨o,e,c,d⟩:=id st';exact⟨u,rfl,LO (s:={ s with heap:=h' }) e c d (by decide) ⟨x,H,I1,ru,⟨rfl,λys hy=>by rw[I.list_inj hy hq];exact hx⟩,st',λb hb=>(hf b hb).1⟩⟩
 done:=by intro X hP hw hK hc i pins s σ H E I hf st hg;subst hP hw hK;obtain⟨xs,hq,hx⟩:=hg;obtain⟨its,rv,p,hz⟩:=I.list hq;obtain⟨f0,f1,f2,f3,f4,f5⟩:=hf it (by simp);have hl:=rv.length;exact wpAny_pyNext_list_end (I.ok.hd hc) st p.isList (by simp;omega) λh' eb=>⟨rfl,I.turned (t':=s.toks) (λb o hb e=>eb b o hb e) f0 f1 f3 f4 f5⟩
 self:=λ_ _ _ _ _ st h=>wpAny_pyIter_listiter st h
theorem KB{K:ar}(a it:Addr):Turn P w K tg (Itt K a) [it] it (λi h=>h.IsTupleIter it a i) where
 mem:=by simp
 obj:=λi h st b hb=>by
  have e:b=it:=by simpa using hb
  subst e;obtain⟨o,e,c,d⟩:=st;exact⟨o,e,λv z=>by rw[d]at z;cases z⟩
 keep:=λi h h' st k=>st.at λo e=>k it (by simp) o e
 item:=by intro X hP hw hK hc i pins s σ H E I hf st hg;subst hP hw hK;obtain⟨xs,x,hq,hx⟩:=hg;obtain⟨its,rv,p,hz⟩:=I.tuple hq;obtain⟨u,hu,ru⟩:=rv.get hx;obtain⟨f0,f1,f2,f3,f4,f5⟩:=hf it (by simp);refine wpAny_pyNext_tuple_item st (show s.heap.IsTuple a its.toArray from p) (x:=u) (by simpa using hu) λh' st' sb=>?_;have I1:Inv X pins σ H { s with heap:=h' }:=I.turned (t':=s.toks) (λb o hb e=>(sb.2 b hb).trans e) f0 f1 f3 f4 f5;obtain⟨o,e,c,d⟩:=id st';exact⟨u,rfl,LO (s:={ s with heap:=h' }) e c d (by decide) ⟨x,H,I1,ru,⟨rfl,λys hy=>by rw[I.tuple_inj hy hq];exact hx⟩,st',λb hb=>(hf b hb).1⟩⟩
 done:=by intro X hP hw hK hc i pins s σ H E I hf st hg;subst hP hw hK;obtain⟨xs,hq,hx⟩:=hg;obtain⟨its,rv,p,hz⟩:=I.tuple hq;obtain⟨f0,f1,f2,f3,f4,f5⟩:=hf it (by simp);have hl:=rv.length;exact wpAny_pyNext_tuple_end (I.ok.hd hc) st (show s.heap.IsTuple a its.toArray from p) (by simp;omega) λh' eb=>⟨rfl,I.turned (t':=s.toks) (λb o hb e=>eb b o hb e) f0 f1 f3 f4 f5⟩
 self:=λ_ _ _ _ _ st h=>wpAny_pyIter_tupleiter st h
theorem KC{K:ar}(it:Addr)(lo:Int)(n:Nat):Turn P w K tg (Itr lo n) [it] it (λi h=>IsRangeIter h it (lo+(i:Nat) * 1) ((n:Int) - (i:Nat)) 1) where
 mem:=by simp
 obj:=λi h st b hb=>by
  have e:b=it:=by simpa using hb
  subst e;exact⟨_,st,λv z=>by
   have z':Data.fields _=Data.cell v:=z;cases z'⟩
 keep:=λi h h' st k=>k it (by simp) _ st
 item:=by intro X hP hw hK hc i pins s σ H E I hf st hg;subst hP hw hK;obtain⟨f0,f1,f2,f3,f4,f5⟩:=hf it (by simp);have W:=Walks.range (prog:=X.prog) (w:=X.w) (I.ok.hd hc) it lo 1 n;refine W.item i s _ _ hg st λv h' tk hv st' kk=>?_;obtain⟨t,rfl⟩:=hv;have I1:Inv X pins σ H { s with heap:=h',toks:=tk }:=I.turned (λb o hb e=>kk b o (by simpa using hb) e) f0 f1 f3 f4 f5;refine⟨_,rfl,LO (s:={ s with heap:=h',toks:=tk }) (n:="range_iterator") st' rfl rfl (by decide) ⟨.int (lo+i),H,I1,⟨t,?_⟩,⟨rfl,rfl⟩,st',λb hb=>(hf b hb).1⟩⟩;rw[Int.mul_one]
 done:=by intro X hP hw hK hc i pins s σ H E I hf st hg;subst hP hw hK;obtain⟨f0,f1,f2,f3,f4,f5⟩:=hf it (by simp);exact wpAny_pyNext_range_end (I.ok.hd hc) st (by have:n<=i:=hg;omega) λh' eb=>⟨rfl,I.turned (t':=s.toks) (λb o hb e=>eb b o hb e) f0 f1 f3 f4 f5⟩
 self:=λ_ _ _ _ _ st h=>wpAny_pyIter_rangeiter st h
section
variable{X:Cx}{tg:Expr}
def Ot(K:ar)(tl:TE):TI:=λσ H R=>tl σ H λx H1=>∃a,x=.ref a/\(∃xs,SqL K H1 a xs)/\R (Itl K a) H1
def U8(K:ar)(tl:TE):TI:=λσ H R=>tl σ H λx H1=>∃a,x=.ref a/\(∃xs,SqT K H1 a xs)/\R (Itt K a) H1
theorem Ru(hl:PE X l tl):PI X tg l (Ot X.K tl):=by
 intro pins s σ H R I h;refine thn (hl pins s σ H _ I h) λv s1 ⟨x,H1,I1,r1,q1⟩=>?_;obtain⟨a,e,⟨xs,hq⟩,q⟩:=q1;subst e;cases r1;obtain⟨its,rv,p,hz⟩:=I1.list hq;refine gE p.isList ?_;refine⟨s1.heap.objs.size,[s1.heap.objs.size],_,_,H1,rfl,I1.kept (t':=s1.toks) λb o e=>aJ _ e,M4 a _,⟨_,bz _ rfl,rfl,rfl⟩,λb hb=>?_,q⟩;have e:b=s1.heap.objs.size:=by simpa using hb
 subst e;exact I1.fpOk (aF _) (I1.hok.fresh (aF _))
theorem U9(hl:PE X l tl):PI X tg l (U8 X.K tl):=by
 intro pins s σ H R I h;refine thn (hl pins s σ H _ I h) λv s1 ⟨x,H1,I1,r1,q1⟩=>?_;obtain⟨a,e,⟨xs,hq⟩,q⟩:=q1;subst e;cases r1;obtain⟨its,rv,p,hz⟩:=I1.tuple hq;refine oq (show s1.heap.IsTuple a its.toArray from p) ?_;refine⟨s1.heap.objs.size,[s1.heap.objs.size],_,_,H1,rfl,I1.kept (t':=s1.toks) λb o e=>aJ _ e,KB a _,⟨_,bz _ rfl,rfl,rfl⟩,λb hb=>?_,q⟩;have e:b=s1.heap.objs.size:=by simpa using hb
 subst e;exact I1.fpOk (aF _) (I1.hok.fresh (aF _))
theorem Ou{lo:Int}{tk:Nat}(I:Inv X pins σ H s)(h1:-(2 ^ 62)<=lo)(h2:lo<2 ^ 62)(h3:-(2 ^ 62)<=hi)(h4:hi<2 ^ 62)
  (q:R (Itr lo (hi - lo).toNat) H):wpAny (model X.prog X.w) X.A (pyIter (.ref s.heap.objs.size)) (PIE X pins σ tg R) E { s with heap:=s.heap.push { cls:=.type "range", data:=.fields #[.int lo t,.int hi u,.int 1 v] },toks:=tk }:=by
 refine wpAny_pyIter_range (IsRange.new ..) (small_one h1 h2 h3 h4) ?_;have I1:Inv X pins σ H { s with heap:=s.heap.push { cls:=.type "range", data:=.fields #[.int lo t,.int hi u,.int 1 v] },toks:=tk }:=I.kept λb o e=>aJ _ e;refine⟨(s.heap.push { cls:=.type "range", data:=.fields #[.int lo t,.int hi u,.int 1 v] }).objs.size,[(s.heap.push { cls:=.type "range", data:=.fields #[.int lo t,.int hi u,.int 1 v] }).objs.size],_,_,H,rfl,
  I1.kept (t':=tk) λb o e=>aJ _ e,KC _ lo (hi - lo).toNat,?_,λb hb=>?_,q⟩
 ·have e1:lo+((0:Nat):Int) * 1=lo:=by simp
  have e2:(((hi - lo).toNat:Nat):Int) - ((0:Nat):Int)=Builtin.Range.rangeSize lo hi 1:=by rw[rangeSize_one];split<;>omega
  show IsRangeIter _ _ (lo+((0:Nat):Int) * 1) ((((hi - lo).toNat:Nat):Int) - ((0:Nat):Int)) 1;rw[e1,e2];exact bz _ rfl
 ·have e:b=(s.heap.push { cls:=.type "range", data:=.fields #[.int lo t,.int hi u,.int 1 v] }).objs.size:=by simpa using hb
  subst e;exact I1.fpOk (aF _) (I1.hok.fresh (aF _))
def Uq(ta:TA):TI:=λσ H R=>ta σ H λvs H1=>∃j:Int,vs=[.int j]/\-(2 ^ 62)<=j/\j<2 ^ 62/\R (Itr 0 j.toNat) H1
theorem M5(hg:Gl X "range")(hm:X.mg "range" = none)(ha:PA X [a] ta)(hs:starEach [a] X.env=[(false,eval a X.env)]:=by rfl):PI X tg (.Call (.Name "range" p) [a] [] pos) (Uq ta):=by
 intro pins s σ H R I h;refine Call_ (Bp I hg hm boot_range (callWith_type1 (thn (ha pos pins s σ H _ I h) λus s1 ⟨vs,H1,I1,r1,q1⟩=>?_) hs rfl));obtain⟨j,e,q1,q2,q⟩:=q1;subst e;cases r1 with
 |cons r rr=>cases rr;obtain⟨t,rfl⟩:=r;exact call_range_1 (Ou I1 (by omega) (by omega) q1 q2 (by simpa using q))
def Va(wi:TI)(g:TG)(tb:TS):TS:=λD σ H=>wi σ H λJ H1=>∃W:Nat->Nat->St->Hp->Prop,(∃m,W 0 m σ H1)/\∀i m σ H,W i m σ H->
 (J.stop i H/\D.nx σ H)\/(J.go i H/\∃N:St->Hp->Prop,(∀σ' H',N σ' H'->∃m',m'<m/\W (i+1) m' σ' H')/\∀x H',J.yld i H x H'->g x σ H' λσ2 H2=>tb { D with nx:=N,ct:=N,bk:=D.nx } σ2 H2)
def EB(fp:List Addr)(h:Heap):cy:=fp.filterMap λb=>(h.get? b).map λo=>(b,o)
theorem xB{h:Heap}(hb:b∈fp)(e:h.get? b=some o):(b,o)∈EB fp h:=ku.mpr ⟨b,hb,by rw[e];rfl⟩
theorem M6(hp:p∈EB fp h):p.1∈fp/\h.get? p.1=some p.2:=by
 obtain⟨b,hb,e⟩:=ku.mp hp;cases q:h.get? b with
 |none=>rw[q]at e;cases e
 |some o=>rw[q]at e;have e':(b,o)=p:=cg e;subst e';exact⟨hb,q⟩
theorem Inv.pinned(I:Inv X pins σ H s)(hf:∀b∈fp,Ga X pins H b)(ho:∀b∈fp,∃o,s.heap.get? b=some o/\∀v,o.data≠.cell v):Inv X (pins++EB fp s.heap) σ H s:=
 I.pins_of λp hp=>(bu.mp hp).elim (λz=>I.pin p (bO _ z)) λz=>by obtain⟨hb,e⟩:=M6 z;obtain⟨f0,f1,f2,_⟩:=hf p.1 hb;obtain⟨o,e',d⟩:=ho p.1 hb;rw[e]at e';cases e';exact⟨e,f0,f1,f2,d⟩
theorem Inv.unpinned(I:Inv X (pins++pl) σ H s):Inv X pins σ H s:=I.pins_of λp hp=>I.pin p (bO _ (bF _ hp))
theorem Ov(hp:jn (model X.prog X.w) X.A X.env X.xe)(hc:X.calm=true)(hi:PI X tg iter wi)(hg:PG X tg g)(hb:PSs X body tb)
  (hs:∀x,foldedSetIterable iter X.env x=pure x:=by intro _;rfl):PS X (.For tg iter body [] pos) (Va wi g tb):=by
 intro pins s σ H D I h;refine wpAny_For (thn (hi pins s σ H _ I h) λv s1 h1=>thn h1 λitv s2 h2=>?_) hs;obtain⟨it,fp,tn,J,H2,e,I2,T,st2,f2,W,⟨m0,w0⟩,turn⟩:=h2;subst e;have stat:∀{H':Hp},(∀b∈fp,H' b=none)->∀b∈fp,Ga X pins H' b:=λhn b hb=>⟨hn b hb,(f2 b hb).2⟩;refine codeAny_forLoop_any (λn s'=>∃i σ' H',Inv X pins σ' H' s'/\tn i s'.heap/\(∀b∈fp,H' b=none)/\W i n σ' H') ?_ m0 ⟨0,σ,H2,I2,st2,λb hb=>(f2 b hb).1,w0⟩;rintro n s3 ⟨i,σ3,H3,I3,st3,fr3,w3⟩;rcases turn i n σ3 H3 w3 with ⟨stop,qn⟩|⟨go,N,hN,step⟩
 ·refine eK hp (thn (T.done X rfl rfl rfl hc i pins s3 σ3 H3 X.xe I3 (stat fr3) st3 stop) λr s4 ⟨hr,I4⟩=>?_);subst hr;exact iY ⟨σ3,H3,I4,qn⟩
 ·refine eK hp (thn (T.item X rfl rfl rfl hc i pins s3 σ3 H3 X.xe I3 (stat fr3) st3 go) λr s4 ⟨u,hr,h4⟩=>?_);subst hr;refine eK hp (thn h4 λ_ s5 ⟨x,H5,I5,r5,y5,st5,fr5⟩=>?_);have I5':=I5.pinned (stat fr5) (T.obj _ _ st5);refine eK hp (thn (hg _ s5 σ3 H5 x u _ I5' r5 (step x H5 y5)) λ_ s6 ⟨σ6,H6,I6,q6⟩=>?_);refine eK hp (thn (hb _ s6 σ6 H6 _ I6 q6) λf s7 q7=>?_);have again:∀{σ7:St} {H7:Hp},Inv X (pins++EB fp s5.heap) σ7 H7 s7->N σ7 H7->∃m,m<n/\∃i σ' H',Inv X pins σ' H' s7/\tn i s7.heap/\(∀b∈fp,H' b=none)/\W i m σ' H':=λ{σ7 H7} I7 n7=>by obtain⟨m',hm,w7⟩:=hN σ7 H7 n7;refine⟨m',hm,i+1,σ7,H7,I7.unpinned,T.keep _ _ _ st5 λb hb o e=>(I7.pin (b,o) (bO _ (bO _ (xB hb e)))).1,λb hb=>?_,w7⟩;obtain⟨o,e,d⟩:=T.obj _ _ st5 b hb;exact(I7.pin (b,o) (bO _ (bO _ (xB hb e)))).2.1
  cases f with
  |next=>obtain⟨σ7,H7,I7,n7⟩:=q7;exact again I7 n7
  |cont=>obtain⟨σ7,H7,I7,n7⟩:=q7;exact again I7 n7
  |brk=>obtain⟨σ7,H7,I7,q7⟩:=q7;exact⟨σ7,H7,I7.unpinned,q7⟩
  |ret v=>obtain⟨x7,σ7,H7,I7,r7,q7⟩:=q7;exact⟨x7,σ7,H7,I7.unpinned,r7,q7⟩
end
abbrev R2:=V->V->Hp->VK->Prop
def OpR(X:Cx)(f:aa->aa->Sem aa)(r:R2):Prop:=
 ∀(pins:cy) (s:ae) (σ:St) (H:Hp) (x y:V) (v u:aa) (Q:VK),Inv X pins σ H s->RelV x v->RelV y u->r x y H Q->
  wpAny (model X.prog X.w) X.A (f v u) (EP X pins σ Q) X.xe s
def uf(X:Cx)(f:aa)(r:bC->Hp->VK->Prop):Prop:=
 ∀(pins:cy) (s:ae) (σ:St) (H:Hp) (xs:bC) (us:List aa) (Q:VK),Inv X pins σ H s->Vals xs us->r xs H Q->
  wpAny (model X.prog X.w) X.A (call f us) (EP X pins σ Q) X.xe s
def tOp(r:R2)(ta tb:TE):TE:=λσ H Q=>ta σ H λx H1=>tb σ H1 λy H2=>r x y H2 Q
def rI(C:Int->Int->Prop)(g:Int->Int->V):R2:=λx y H Q=>∃i j,x=.int i/\y=.int j/\C i j/\Q (g i j) H
def rI0(g:Int->Int->V):R2:=λx y H Q=>∃i j,x=.int i/\y=.int j/\Q (g i j) H
variable{f:aa->aa->Sem aa}
section
variable{X:Cx}{a b c:Expr}{ta tb tc:TE}{pos:Pos}
theorem Vb(ha:PE X a ta)(hb:PE X b tb){s:ae}{H:Hp}(I:Inv X pins σ H s)
  (h:ta σ H λx H1=>tb σ H1 λy H2=>R x y H2) {Q:aa->ae->Prop}
  (hf:∀v u s2 x y H2,Inv X pins σ H2 s2->RelV x v->RelV y u->R x y H2->wpAny (model X.prog X.w) X.A (f v u) Q X.xe s2):
  wpAny (model X.prog X.w) X.A (eval a X.env) (λv s₁=>wpAny (model X.prog X.w) X.A (eval b X.env) (λu s₂=>wpAny (model X.prog X.w) X.A (f v u) Q X.xe s₂) X.xe s₁) X.xe s:=by
 refine thn (ha pins s σ H _ I h) λv s1 ⟨x,H1,I1,r1,q1⟩=>?_;refine thn (hb pins s1 σ H1 _ I1 q1) λu s2 ⟨y,H2,I2,r2,q2⟩=>?_;exact hf v u s2 x y H2 I2 r1 r2 q2
theorem Ow(ho:OpR X (binaryOp op) r)(ha:PE X a ta)(hb:PE X b tb):PE X (.BinOp a op b pos) (tOp r ta tb):=by intro pins s σ H Q I h;exact wpAny_BinOp (Vb ha hb I h λv u s2 x y H2 I2 rx ry q=>ho pins s2 σ H2 x y v u Q I2 rx ry q)
theorem opI{C:Int->Int->Prop}{g:Int->Int->Int}
  (rule:∀(i j:Int) (t u:Tok) (s:ae) (Q:aa->ae->Prop) (E:aa->ae->Prop),C i j->Q (.int (g i j) s.toks) { s with toks:=s.toks+1 }->wpAny (model X.prog X.w) X.A (f (.int i t) (.int j u)) Q E s):
  OpR X f (rI C λi j=>.int (g i j)):=by
 intro pins s σ H x y v u Q I rx ry h;obtain⟨i,j,rfl,rfl,hc,q⟩:=h;obtain⟨t,rfl⟩:=rx;obtain⟨t',rfl⟩:=ry;exact rule i j t t' s _ _ hc ⟨.int (g i j),H,I.tok _,⟨_,rfl⟩,q⟩
theorem Y0{g:Int->Int->Int}
  (rule:∀(i j:Int) (t u:Tok) (s:ae) (Q:aa->ae->Prop) (E:aa->ae->Prop),Q (.int (g i j) s.toks) { s with toks:=s.toks+1 }->wpAny (model X.prog X.w) X.A (f (.int i t) (.int j u)) Q E s):
  OpR X f (rI0 λi j=>.int (g i j)):=by
 intro pins s σ H x y v u Q I rx ry h;obtain⟨i,j,rfl,rfl,q⟩:=h;obtain⟨t,rfl⟩:=rx;obtain⟨t',rfl⟩:=ry;exact rule i j t t' s _ _ ⟨.int (g i j),H,I.tok _,⟨_,rfl⟩,q⟩
theorem Rv{g:Int->Int->Bool}
  (rule:∀(i j:Int) (t u:Tok) (s:ae) (Q:aa->ae->Prop) (E:aa->ae->Prop),Q (.bool (g i j)) s->wpAny (model X.prog X.w) X.A (f (.int i t) (.int j u)) Q E s):
  OpR X f (rI0 λi j=>.bl (g i j)):=by
 intro pins s σ H x y v u Q I rx ry h;obtain⟨i,j,rfl,rfl,q⟩:=h;obtain⟨t,rfl⟩:=rx;obtain⟨t',rfl⟩:=ry;exact rule i j t t' s _ _ ⟨.bl (g i j),H,I,rfl,q⟩
def Vc(i j:Int):Prop:=0<j/\j<1073741824
def Y1(i j:Int):Prop:=0<=j/\j<=1000000/\i.natAbs<2 ^ 64
def Rx(i j:Int):Prop:=(-(2 ^ 64)<i/\i<2 ^ 64)\/(-(2 ^ 64)<j/\j<2 ^ 64)
theorem Rx.ok(h:Rx i j):IntMulOk i j:=by
 rcases h with ⟨h1,h2⟩|⟨h1,h2⟩
 ·exact .of_left (intBits_le_64 h1 h2)
 ·exact .of_right (intBits_le_64 h1 h2)
theorem Vd:OpR X (binaryOp .Add) (rI0 λi j=>.int (i+j)):=Y0 λ_ _ _ _ _ _ _ q=>add_int q
theorem Ve:OpR X (binaryOp .Sub) (rI0 λi j=>.int (i - j)):=Y0 λ_ _ _ _ _ _ _ q=>sub_int q
theorem Vf:OpR X (binaryOp .Mult) (rI Rx λi j=>.int (i * j)):=opI λ_ _ _ _ _ _ _ hc q=>mul_int q hc.ok
theorem RA:OpR X (binaryOp .FloorDiv) (rI Vc λi j=>.int (i / j)):=opI λi j _ _ _ _ _ hc q=>by have h1:(0:Int)<j:=hc.1;have h2:j<1073741824:=hc.2;exact floordiv_int (by omega) (by rw[Int.fdiv_eq_ediv_of_nonneg i (by omega)];exact q) (.inl (PyProof.noPylong_small (by omega)))
theorem Vg:OpR X (binaryOp .Mod) (rI (λ_ j=>0<j) λi j=>.int (i % j)):=opI λi j _ _ _ _ _ hc q=>by have h1:(0:Int)<j:=hc;exact mod_int' (by omega) (by rw[Int.fmod_eq_emod_of_nonneg i (by omega)];exact q)
theorem Vh:OpR X (binaryOp .Pow) (rI Y1 λi j=>.int (i ^ j.toNat)):=opI λ_ _ _ _ _ _ _ hc q=>pow_int_small hc.1 hc.2.1 hc.2.2 q
end
def Ox:V->V->Bool
 |.non,.non=>true|.non,.int _=>true|.int _,.non=>true|.non,.bl _=>true|.bl _,.non=>true|.non,.str _=>true|.str _,.non=>true
 |.int _,.int _=>true|.bl _,.bl _=>true|.str _,.str _=>true|.byt _,.byt _=>true
 |.int _,.str _=>true|.str _,.int _=>true|.bl _,.str _=>true|.str _,.bl _=>true
 |_,_=>false
def rEq:R2:=λx y H Q=>Ox x y=true/\Q (.bl (decide (x=y))) H
def rNe:R2:=λx y H Q=>Ox x y=true/\Q (.bl (!decide (x=y))) H
theorem LP:decide (V.int i=V.int j)=(i==j):=by rw[cB];simp
theorem Oy:decide (V.bl i=V.bl j)=(i==j):=by rw[cB];simp
theorem LQ:decide (V.str i=V.str j)=(i==j):=by rw[cB];simp
theorem LR:decide (V.byt i=V.byt j)=(i.toList==j.toList):=by rw[cB];cases i;cases j;simp
section
variable{X:Cx}{a b c:Expr}{ta tb tc:TE}{pos:Pos}
theorem sW(I:Inv X pins σ H s)(q:Q (.bl k) H)(e:k=k'):EP X pins σ Q (.bool k') s:=by subst e;exact⟨.bl k,H,I,rfl,q⟩
theorem Y2:OpR X (compareOp .Eq) rEq:=by
 intro pins s σ H x y v u Q I rx ry h;obtain⟨hs,q⟩:=h;cases x with
 |non=>
  cases rx;cases y with
  |non=>cases ry;exact PySem.EqNone.eq_none_none (sW I q (by simp))
  |bl j=>cases ry;exact PySem.EqNone.eq_none_bool (sW I q (by simp))
  |int j=>obtain⟨t',rfl⟩:=ry;exact PySem.EqNone.eq_none_int (sW I q (by simp))
  |str j=>obtain⟨t',rfl⟩:=ry;exact PySem.EqNone.eq_none_str (sW I q (by simp))
  |_=>exact aq (show false=true from hs) br
 |bl i=>
  cases rx;cases y with
  |non=>cases ry;exact PySem.EqNone.eq_bool_none (sW I q (by simp))
  |bl j=>cases ry;exact eq_bool (sW I q Oy)
  |str j=>obtain⟨t',rfl⟩:=ry;exact PySem.EqMixed.eq_bool_str (sW I q (by simp))
  |_=>exact aq (show false=true from hs) br
 |int i=>
  obtain⟨t,rfl⟩:=rx;cases y with
  |non=>cases ry;exact PySem.EqNone.eq_int_none (sW I q (by simp))
  |int j=>obtain⟨t',rfl⟩:=ry;exact eq_int (sW I q LP)
  |str j=>obtain⟨t',rfl⟩:=ry;exact PySem.EqMixed.eq_int_str (sW I q (by simp))
  |_=>exact aq (show false=true from hs) br
 |str i=>
  obtain⟨t,rfl⟩:=rx;cases y with
  |non=>cases ry;exact PySem.EqNone.eq_str_none (sW I q (by simp))
  |bl j=>cases ry;exact PySem.EqMixed.eq_str_bool (sW I q (by simp))
  |int j=>obtain⟨t',rfl⟩:=ry;exact PySem.EqMixed.eq_str_int (sW I q (by simp))
  |str j=>obtain⟨t',rfl⟩:=ry;exact eq_str (sW I q LQ)
  |_=>exact aq (show false=true from hs) br
 |byt i=>
  obtain⟨t,rfl⟩:=rx;cases y with
  |byt j=>obtain⟨t',rfl⟩:=ry;exact W.eq_bytes (sW I q LR)
  |_=>exact aq (show false=true from hs) br
 |_=>cases y<;>exact aq (show false=true from hs) br
theorem Y3:OpR X (compareOp .NotEq) rNe:=by
 intro pins s σ H x y v u Q I rx ry h;obtain⟨hs,q⟩:=h;cases x with
 |non=>
  cases rx;cases y with
  |non=>cases ry;exact PySem.EqNone.ne_none_none (sW I q (by simp))
  |bl j=>cases ry;exact PySem.EqNone.ne_none_bool (sW I q (by simp))
  |int j=>obtain⟨t',rfl⟩:=ry;exact PySem.EqNone.ne_none_int (sW I q (by simp))
  |str j=>obtain⟨t',rfl⟩:=ry;exact PySem.EqNone.ne_none_str (sW I q (by simp))
  |_=>exact aq (show false=true from hs) br
 |bl i=>
  cases rx;cases y with
  |non=>cases ry;exact PySem.EqNone.ne_bool_none (sW I q (by simp))
  |bl j=>cases ry;exact ne_bool (sW I q (aT not Oy))
  |str j=>obtain⟨t',rfl⟩:=ry;exact PySem.EqMixed.ne_bool_str (sW I q (by simp))
  |_=>exact aq (show false=true from hs) br
 |int i=>
  obtain⟨t,rfl⟩:=rx;cases y with
  |non=>cases ry;exact PySem.EqNone.ne_int_none (sW I q (by simp))
  |int j=>obtain⟨t',rfl⟩:=ry;exact ne_int (sW I q (aT not LP))
  |str j=>obtain⟨t',rfl⟩:=ry;exact PySem.EqMixed.ne_int_str (sW I q (by simp))
  |_=>exact aq (show false=true from hs) br
 |str i=>
  obtain⟨t,rfl⟩:=rx;cases y with
  |non=>cases ry;exact PySem.EqNone.ne_str_none (sW I q (by simp))
  |bl j=>cases ry;exact PySem.EqMixed.ne_str_bool (sW I q (by simp))
  |int j=>obtain⟨t',rfl⟩:=ry;exact PySem.EqMixed.ne_str_int (sW I q (by simp))
  |str j=>obtain⟨t',rfl⟩:=ry;exact ne_str (sW I q (aT not LQ))
  |_=>exact aq (show false=true from hs) br
 |byt i=>
  obtain⟨t,rfl⟩:=rx;cases y with
  |byt j=>obtain⟨t',rfl⟩:=ry;exact W.ne_bytes (sW I q (aT not LR))
  |_=>exact aq (show false=true from hs) br
 |_=>cases y<;>exact aq (show false=true from hs) br
theorem Y4:OpR X (compareOp .Lt) (rI0 λi j=>.bl (decide (i<j))):=Rv λ_ _ _ _ _ _ _ q=>lt_int q
theorem Y5:OpR X (compareOp .LtE) (rI0 λi j=>.bl (decide (i<=j))):=Rv λ_ _ _ _ _ _ _ q=>le_int q
theorem Y6:OpR X (compareOp .Gt) (rI0 λi j=>.bl (decide (j<i))):=Rv λ_ _ _ _ _ _ _ q=>gt_int q
theorem Y7:OpR X (compareOp .GtE) (rI0 λi j=>.bl (decide (j<=i))):=Rv λ_ _ _ _ _ _ _ q=>ge_int q
theorem Vi:OpR X (compareOp .Is) (λx y H Q=>y=.non/\Q (.bl (decide (x=.non))) H):=by
 intro pins s σ H x y v u Q I rx ry h;obtain⟨rfl,q⟩:=h;cases ry;refine is_none_gen (sW I q ?_);cases x<;>first
  |(cases rx;rfl)
  |(obtain⟨t,rfl⟩:=rx;rfl)
theorem RB:OpR X (compareOp .IsNot) (λx y H Q=>y=.non/\Q (.bl (!decide (x=.non))) H):=by
 intro pins s σ H x y v u Q I rx ry h;obtain⟨rfl,q⟩:=h;cases ry;refine isnot_none_gen (sW I q ?_);cases x<;>first
  |(cases rx;rfl)
  |(obtain⟨t,rfl⟩:=rx;rfl)
theorem RD(ho:OpR X (compareOp op) r)(ha:PE X a ta)(hb:PE X b tb)(hm:behindInMarks op b=false):PE X (.Compare a [op] [b] pos) (tOp r ta tb):=by intro pins s σ H Q I h;exact wpAny_Compare1 (Vb ha hb I h λv u s2 x y H2 I2 rx ry q=>ho pins s2 σ H2 x y v u Q I2 rx ry q) hm
def Oz(t:TE):TT:=λσ H Q=>t σ H λx H'=>∃k,x=.bl k/\Q k H'
theorem RE(ho:OpR X (compareOp op) r)(ha:PE X a ta)(hb:PE X b tb)(hm:behindInMarks op b=false):PT X (.Compare a [op] [b] pos) (Oz (tOp r ta tb)):=by
 intro pins s σ H Q I h;refine nU (thn (ha pins s σ H _ I h) λv s1 ⟨x,H1,I1,r1,q1⟩=>thn (hb pins s1 σ H1 _ I1 q1) λu s2 ⟨y,H2,I2,r2,q2⟩=>
  thn (ho pins s2 σ H2 x y v u _ I2 r1 r2 q2) λc s3 ⟨z,H3,I3,r3,k,e,q3⟩=>?_) hm
 subst e;cases r3;exact cN ⟨H3,I3,q3⟩
def KD(r r':R2)(ta tb tc:TE):TE:=λσ H Q=>ta σ H λx H1=>tb σ H1 λy H2=>r x y H2 λz H3=>∃k,z=.bl k/\
 (if k=true then tc σ H3 λw' H4=>r' y w' H4 Q else Q (.bl false) H3)
theorem OA(ho:OpR X (compareOp op) r)(ho':OpR X (compareOp op') r')(ha:PE X a ta)(hb:PE X b tb)(hc:PE X c tc)
  (hm:lastMarks [op,op'] [b,c]=false:=by with_unfolding_all rfl):PE X (.Compare a [op,op'] [b,c] pos) (KD r r' ta tb tc):=by
 intro pins s σ H Q I h;refine Compare_chain (thn (ha pins s σ H _ I h) λv s1 ⟨x,H1,I1,r1,q1⟩=>chain_link (thn (hb pins s1 σ H1 _ I1 q1) λu s2 ⟨y,H2,I2,r2,q2⟩=>
  thn (ho pins s2 σ H2 x y v u _ I2 r1 r2 q2) λd s3 ⟨z,H3,I3,r3,k,e,q3⟩=>?_)) hm
 subst e;cases r3;refine cN ?_;cases k with
 |false=>exact ite_ff ⟨.bl false,H3,I3,rfl,q3⟩
 |true=>exact ite_tt (chain_last (thn (hc pins s3 σ H3 _ I3 q3) λw' s4 ⟨z',H4,I4,r4,q4⟩=>ho' pins s4 σ H4 y z' u w' Q I4 r2 r4 q4))
theorem OB(ho:OpR X (compareOp op) r)(ho':OpR X (compareOp op') r')(ha:PE X a ta)(hb:PE X b tb)(hc:PE X c tc)
  (hm:lastMarks [op,op'] [b,c]=false:=by with_unfolding_all rfl):PT X (.Compare a [op,op'] [b,c] pos) (Oz (KD r r' ta tb tc)):=by
 intro pins s σ H Q I h;refine isTrue_chain (thn (ha pins s σ H _ I h) λv s1 ⟨x,H1,I1,r1,q1⟩=>test_link (thn (hb pins s1 σ H1 _ I1 q1) λu s2 ⟨y,H2,I2,r2,q2⟩=>
  thn (ho pins s2 σ H2 x y v u _ I2 r1 r2 q2) λd s3 ⟨z,H3,I3,r3,k,e,q3⟩=>?_)) hm
 subst e;cases r3;refine cN ?_;cases k with
 |false=>obtain⟨k',e',q'⟩:=q3;cases e';exact ite_ff ⟨H3,I3,q'⟩
 |true=>refine ite_tt (test_last (thn (hc pins s3 σ H3 _ I3 q3) λw' s4 ⟨z',H4,I4,r4,q4⟩=>thn (ho' pins s4 σ H4 y z' u w' _ I4 r2 r4 q4) λd' s5 ⟨z2,H5,I5,r5,k2,e2,q5⟩=>?_));subst e2;cases r5;exact cN ⟨H5,I5,q5⟩
theorem EC:(sizeLine:Nat)<2 ^ 63:=by rw[bL];decide
theorem vals1(r:Vals [x] us):∃u,us=[u]/\RelV x u:=by
 cases r with
 |cons r1 r2=>cases r2;exact⟨_,rfl,r1⟩
theorem vals2(r:Vals [x,y] us):∃u w',us=[u,w']/\RelV x u/\RelV y w':=by
 cases r with
 |cons r1 r2=>
  cases r2 with
  |cons r3 r4=>cases r4;exact⟨_,_,rfl,r1,r3⟩
theorem M7:uf X (.type "int") (λxs H Q=>(∃i,xs=[.int i]/\Q (.int i) H)\/∃k,xs=[.bl k]/\Q (.int (if k then 1 else 0)) H):=by
 intro pins s σ H xs us Q I r h;rcases h with ⟨i,rfl,q⟩|⟨k,rfl,q⟩
 ·obtain⟨u,rfl,t,rfl⟩:=vals1 r;exact call_int_int ⟨.int i,H,I,⟨_,rfl⟩,q⟩
 ·obtain⟨u,rfl,r1⟩:=vals1 r;cases r1;exact call_int_bool ⟨.int (if k then 1 else 0),H,I.tok _,⟨_,rfl⟩,q⟩
end
structure KE(h:Heap)(x dx C:Addr)(mA:Str->Option aa):Prop where
 obj:h.get? x=some (dr C dx)
 ns:h.Ns1 dx mA
 ne:dx≠x
theorem M8{h:Heap}(n:h.Ns1 dx mA):∃od,h.get? dx=some od/\∀name,jo name od=some (mA name):=by
 obtain⟨o,es,ep,ho,hd,hk,_,hm⟩:=n;refine⟨o,ho,λname=>?_⟩;have e:=hm name;unfold nsFind findBy at e;rw[<-Array.find?_toList]at e;unfold jo;rw[hd];dsimp only;split
 ·rename_i y q;rw[q]at e;exact aT some e
 ·rename_i q;rw[q]at e;have a:es.toList.any (·.refKey)=false:=by rw[oK];intro y hy;obtain⟨z,t,hkey⟩:=hk y (Array.mem_toList_iff.mp hy);simp[DictEntry.refKey,hkey]
  have a':¬es.toList.any (·.refKey)=true:=by rw[a];exact br
  rw[aj a'];exact aT some e
theorem KE.look(I:KE h x dx C mA):∃od,W.InstAt h x (dr C dx) C (some od)/\∀name,jo name od=some (mA name):=
 let ⟨od,ho,hl⟩:=M8 I.ns
 ⟨od,⟨I.obj,rfl,rfl,ho⟩,hl⟩
section
variable{prog:aU}{w:aI}{A:aQ}{E:aa->ae->Prop}{s:ae}{K:ar}{x dx C f:Addr}{mA:Str->Option aa}{name:Str}{v:aa}
theorem get_map(X:K.In s.heap)(I:KE s.heap x dx C mA)(hg:jj K C name=true)(hh:lq K C=true)
  (ha:cF K (.ref C) name=some none) (hv:mA name=some v) (hv':W.handedIn v=true) (h:Q v { s with toks:=s.toks+1 }):
  wpAny (model prog w) A (getAttr (.ref x) name expr) Q E s:=by
 obtain⟨od,J,hl⟩:=I.look;exact W.get_value X J (kN hg).1 (W.findObj_own hh ha rfl (by rw[hl,hv])) hv' h
theorem OC(X:K.In s.heap)(I:KE s.heap x dx C mA)(hg:jj K C name=true)
  (hf:cF K (.ref C) name=some (some (.ref f))) (ht:W.isFn K (.ref f)=true) (hv:mA name=none) (h:Q (.ref f,[.ref x]) s):
  wpAny (model prog w) A (getMethod (.ref x) name pl) Q E s:=by
 obtain⟨od,J,hl⟩:=I.look;exact W.method_fn X J (kN hg).1 (kN hg).2 hf (beq_iff_eq.mp ht) (by show (jo name od).map (·.isSome)=some false;rw[hl,hv];rfl) h
theorem RF(X:K.In s.heap)(I:KE s.heap x dx C mA)
  (hs:cF K (.ref C) "__setattr__" = some (some (.builtin "object.__setattr__"))) (hp:W.plainOver K C=true) (ht:lL K C name=some none) (hh:lq K C=true)
  (hw:kY mA ns) (hsz:ns.length<=sizeLine)
  (h:∀h',KE h' x dx C (λy=>if y=name then some v else mA y)->fH dx s.heap h'->Q () { s with heap:=h',toks:=s.toks+2 }):
  wpAny (model prog w) A (setAttr (.ref x) name v) Q E s:=by
 obtain⟨od,J,hl⟩:=I.look;refine W.set_plain X J hs (W.osa_open (s:={ s with toks:=s.toks+1 }) (r:=none) X J hp ht λb=>?_);obtain⟨cd,hc,hd'⟩:=W.any_some hh;have hx:s.heap.get? x=some ⟨.ref C,some dx,.plain,#[]⟩:=I.obj;refine ao (az (ao (ao (wpAny_loadPart hx (ao (W.Looks.here (s:={ s with toks:=s.toks+1 }) (W.looks_clsIn X hc) ?_))))));rw[hd'];refine az (a:=some dx) (ao (az (ao ?_)));refine wpAny_nsSet1 (s:={ s with toks:=s.toks+1 }) I.ns λh' hn2 hs2=>?_;obtain⟨oD,esD,epD,hoD,hdD,hcD⟩:=hn2.count (PySem.Within.cons name v hw);refine ao (wpAny_lookBehind hoD (by rw[hdD];exact pastItsLine_dict (bK hcD (by rw[aE];omega))) ?_);exact az (h _ ⟨(hs2.2 _ (cR I.ne)).trans I.obj,hn2,I.ne⟩ hs2)
theorem OD(X:K.In s.heap)(hm:lM K C=true)
  (hi:cF K (.ref C) "__init__" = some (some (.ref f))) (hf:W.typeIn K (.ref f)=some (.type "function"))
  (h:codeAny (model prog w) (A.under (.builtin "type.__call__" ⟨.ref C::vs,kw⟩)) (.call (.ref f) ⟨.ref (s.heap.objs.size+1)::vs,kw⟩) (W.InitBack (s.heap.objs.size+1) R)
   { s with heap:=(s.heap.push c5).push (dr C s.heap.objs.size) }):
  codeAny (model prog w) A (.call (.ref C) ⟨vs,kw⟩) R s:=by
 obtain⟨hh,g,d,t,os⟩:=s;exact W.make_core (lK X hm) (W.looks_findIn X hi) (λself=>W.bind_fn X self hf) (.inl rfl) h
theorem M9(X:K.In s.heap)(hm:lM K C=true)
  (hi:cF K (.ref C) "__init__" = some (some (.builtin "object.__init__")))
  (hb:∀self,W.Looks (model prog w) s.heap (bindSpecial (.builtin "object.__init__") self) (.builtin "object.__init__", [self]))
  (h:codeAny (model prog w) (A.under (.builtin "type.__call__" ⟨[.ref C],[]⟩)) (.call (.builtin "object.__init__") ⟨[.ref (s.heap.objs.size+1)],[]⟩) (W.InitBack (s.heap.objs.size+1) R)
   { s with heap:=(s.heap.push c5).push (dr C s.heap.objs.size) }):
  codeAny (model prog w) A (.call (.ref C) ⟨[],[]⟩) R s:=by
 obtain⟨hh,g,d,t,os⟩:=s;exact W.make_core (lK X hm) (W.looks_findIn X hi) hb (.inr ⟨rfl,rfl⟩) h
end
def yH(f:Str)(v:V):List (Str×V)->List (Str×V)
 |[]=>[(f,v)]
 |(g,x)::r=>if g=f then (g,v)::r else (g,x)::yH f v r
theorem Ds(f g:Str)(v:V):∀fs:List (Str×V),(yH f v fs).lookup g=if g=f then some v else fs.lookup g
 |[]=>by
  show cP g [(f,v)]=_;by_cases h:g=f
  ·have hb:(g==f)=true:=beq_iff_eq.mpr h;simp only[cP,hb,ai h]
  ·have hb:(g==f)=false:=beq_eq_false_iff_ne.mpr h;simp only[cP,hb,aj h]
 |(k,x)::r=>by
  have ih:=Ds f g v r;rw[show yH f v ((k,x)::r)=(if k=f then (k,v)::r else (k,x)::yH f v r) from rfl];by_cases hk:k=f
  ·rw[ai hk];by_cases h:g=k
   ·have hb:(g==k)=true:=beq_iff_eq.mpr h;simp only[cP,hb,ai (h.trans hk)]
   ·have hb:(g==k)=false:=beq_eq_false_iff_ne.mpr h;simp only[cP,hb,aj (λe:g=f=>h (e.trans hk.symm))]
  ·rw[aj hk];by_cases h:g=k
   ·have hb:(g==k)=true:=beq_iff_eq.mpr h;simp only[cP,hb,aj (λe:g=f=>hk (h.symm.trans e))]
   ·have hb:(g==k)=false:=beq_eq_false_iff_ne.mpr h;simp only[cP,hb];exact ih
theorem CD(f:Str)(v:V):∀fs:List (Str×V),f∈(yH f v fs).map (·.1)/\∀g,g∈fs.map (·.1)->g∈(yH f v fs).map (·.1)
 |[]=>⟨by simp[yH],λg h=>by simp at h⟩
 |(k,x)::r=>by
  obtain⟨i1,i2⟩:=CD f v r;rw[show yH f v ((k,x)::r)=(if k=f then (k,v)::r else (k,x)::yH f v r) from rfl];by_cases hk:k=f
  ·rw[ai hk];subst hk;exact⟨by simp,λg h=>by simpa using h⟩
  ·rw[aj hk];refine⟨?_,λg h=>?_⟩
   ·rw[au];exact bf _ i1
   ·rw[au]at h ⊢;rcases aK.mp h with e|e
    ·exact aK.mpr (.inl e)
    ·exact bf _ (i2 g e)
theorem Dt(f:Str)(v:V):∀fs:List (Str×V),(yH f v fs).length<=fs.length+1
 |[]=>by simp[yH]
 |(k,x)::r=>by
  have ih:=Dt f v r;rw[show yH f v ((k,x)::r)=(if k=f then (k,v)::r else (k,x)::yH f v r) from rfl];by_cases hk:k=f
  ·rw[ai hk,aE,aE];omega
  ·rw[aj hk,aE,aE];omega
theorem zV.some_of(r:zV (some v) o):∃u,o=some u/\RelV v u:=by
 cases o with
 |none=>exact(show False from r).elim
 |some u=>exact⟨u,rfl,r⟩
theorem zV.none_of(r:zV none o):o=none:=by
 cases o with
 |none=>rfl
 |some u=>exact(show False from r).elim
theorem Na(r:RelV v u):W.handedIn u=true:=by
 cases v with
 |non=>cases (show u=Value.none from r);rfl
 |bl b=>cases (show u=Value.bool b from r);rfl
 |int i=>obtain⟨t,e⟩:=(show ∃t,u=Value.int i t from r);cases e;rfl
 |str x=>obtain⟨t,e⟩:=(show ∃t,u=Value.str x t from r);cases e;rfl
 |byt b=>obtain⟨t,e⟩:=(show ∃t,u=Value.bytes b t from r);cases e;rfl
 |flt b=>obtain⟨t,e⟩:=(show ∃t,u=Value.float b t from r);cases e;rfl
 |ref a=>cases (show u=Value.ref a from r);rfl
 |ty n=>cases (show u=Value.type n from r);rfl
section
variable{P:aU}{w:aI}{H H':Hp}{h h':Heap}{a C dx:Addr}{fs fs':List (Str×V)}
theorem En(hok:HOk P w H h)(e:H a=some (.ins C dx fs)):∃mA,KE h a dx C mA/\(∀f,zV (fs.lookup f) (mA f))/\kY mA (fs.map (·.1))/\fs.length<=1000/\H dx=some (.own a):=by obtain⟨d,z,ne,ob,mA,n,r,q⟩:=(show tL P w H h a (.ins C dx fs) from hok a _ e);exact⟨mA,⟨ob,n,ne⟩,r,q,z,d⟩
end
structure Cls(K:ar)(C:Addr):Prop where
 pg:jj K C Str.empty=true
 hd:lq K C=true
 po:W.plainOver K C=true
 sa:cF K (.ref C) "__setattr__" = some (some (.builtin "object.__setattr__"))
theorem Cls.get{K:ar}(c:Cls K C)(f:Str):jj K C f=true:=c.pg
def xC(K:ar)(C:Addr)(f:Str):Prop:=cF K (.ref C) f=some none
theorem xC.taker{K:ar}(n:xC K C f):lL K C f=some none:=by unfold lL;rw[show cF K (.ref C) f=some none from n];rfl
structure Meth(K:ar)(C:Addr)(m:Str)(f:Addr):Prop where
 at_:cF K (.ref C) m=some (some (.ref f))
 fn:W.isFn K (.ref f)=true
 kp:eS K (.ref f)=true
section
variable{X:Cx}{pins:cy}{σ:St}{H:Hp}{s:ae}{a C dx:Addr}{fs:List (Str×V)}{f:Str}{v:V}{A:aQ}{E:aa->ae->Prop}
theorem KF(I:Inv X pins σ H s)(e:H a=some (.ins C dx fs))(c:Cls X.K C)(n:xC X.K C f)(l:fs.lookup f=some v)
  (h:∀u s',Inv X pins σ H s'->RelV v u->Q u s'):wpAny (model X.prog X.w) A (getAttr (.ref a) f b) Q E s:=by
 obtain⟨mA,O,r,_,_,_⟩:=En I.hok e;obtain⟨u,hu,ru⟩:=zV.some_of (v:=v) (o:=mA f) (by rw[<-l];exact r f);exact get_map I.kIn O (c.get f) c.hd n hu (Na ru) (h u _ (I.tok _) ru)
theorem ED(I:Inv X pins σ H s)(e:H a=some (.ins C dx fs))(c:Cls X.K C)(k:Meth X.K C m g)(l:fs.lookup m=none)
  (h:Q (.ref g,[.ref a]) s):wpAny (model X.prog X.w) A (getMethod (.ref a) m pl) Q E s:=by
 obtain⟨mA,O,r,_,_,_⟩:=En I.hok e;have hn:mA m=none:=zV.none_of (by rw[<-l];exact r m);exact OC I.kIn O (c.get m) k.at_ k.fn hn h
theorem KG(I:Inv X pins σ H s)(e:H a=some (.ins C dx fs))(c:Cls X.K C)(n:xC X.K C f)(hl:fs.length<1000)(ry:RelV y u)
  (h:∀s',Inv X pins σ (upd H a (.ins C dx (yH f y fs))) s'->Q () s'):wpAny (model X.prog X.w) A (setAttr (.ref a) f u) Q E s:=by
 obtain⟨mA,O,r,wi,_,ho⟩:=En I.hok e;have hz:(fs.map (·.1)).length<=sizeLine:=by rw[ag,bL];omega
 refine RF I.kIn O c.sa c.po n.taker c.hd wi hz λh' O' sb=>h _ ?_;have hd:∃o,h'.get? dx=some o:=let ⟨o,_,_,e',_⟩:=O'.ns;⟨o,e'⟩;refine I.write (x:=a) (e:=dx) (by rw[e];exact True.intro) (.inr ho) (λb q hb z=>(sb.2 b hb).trans z) hd ?_;refine⟨by rw[sf O.ne];exact ho,?_,O.ne,O'.obj,_,O'.ns,λg=>?_,λg hg=>?_⟩
 ·have:=Dt f y fs;omega
 ·show zV ((yH f y fs).lookup g) (if g=f then some u else mA g);rw[Ds];by_cases q:g=f
  ·rw[ai q,ai q];exact ry
  ·rw[aj q,aj q];exact r g
 ·by_cases q:g=f
  ·rw[q];exact(CD f y fs).1
  ·refine(CD f y fs).2 g (wi g λz=>hg ?_);show (if g=f then some u else mA g)=none;rw[aj q];exact z
theorem Inv.made(I:Inv X pins σ H s):Inv X pins σ (upd (upd H s.heap.objs.size (.own (s.heap.objs.size+1))) (s.heap.objs.size+1) (.ins C s.heap.objs.size []))
  { s with heap:=(s.heap.push c5).push (dr C s.heap.objs.size) }:=by
 have e1:(s.heap.push c5).get? s.heap.objs.size=some c5:=bz s.heap rfl;have e2:((s.heap.push c5).push (dr C s.heap.objs.size)).get? (s.heap.objs.size+1)=some (dr C s.heap.objs.size):=by
  have:=bz (s.heap.push c5) (o:=dr C s.heap.objs.size) rfl
  rwa [dj]at this
 have e3:(s.heap.push c5).Ns s.heap.objs.size (λ_=>none):=⟨c5,#[],_,e1,rfl,(λe he=>aq he (by simp)),λ_=>rfl⟩;have I1:=I.laid (a:=s.heap.objs.size) (o:=.own (s.heap.objs.size+1)) (h':=s.heap.push c5) (t':=s.toks) (λb u q=>aJ _ q) (aF _) ⟨_,e1⟩;refine I1.laid (a:=s.heap.objs.size+1) (o:=.ins C s.heap.objs.size []) (t':=s.toks) (λb u q=>aJ _ q) (kZ (dj _ _)) ?_;have ne:s.heap.objs.size≠s.heap.objs.size+1:=aY (dH _);refine⟨by rw[sf ne,se],cj _,ne,e2,λ_=>none,(Heap.Ns1.of_empty e3).at λo q=>aJ _ q,λ_=>True.intro,λy hy=>aq rfl hy⟩
theorem RG(hb:attributeBase e f env (eval e env)=eval e env)
  (h:wpAny (model prog w) A (eval e env) (λo s₁=>wpAny (model prog w) A (getAttr o f true) Q E s₁) E s):wpAny (model prog w) A (eval (.Attribute e f pos) env) Q E s:=
 Attribute_any_ h (by rw[arm_eval_Attribute,hb])
end
def tFld(K:ar)(ta:TE)(f:Str):TE:=λσ H Q=>ta σ H λx H1=>∃a C dx fs v,x=.ref a/\H1 a=some (.ins C dx fs)/\Cls K C/\xC K C f/\fs.lookup f=some v/\Q v H1
def Y8(K:ar)(ta tv:TE)(f:Str):TS:=λD σ H=>tv σ H λy H1=>ta σ H1 λx H2=>∃a C dx fs,x=.ref a/\H2 a=some (.ins C dx fs)/\Cls K C/\xC K C f/\fs.length<1000/\
 D.nx σ (upd H2 a (.ins C dx (yH f y fs)))
section
variable{X:Cx}{o e value:Expr}{f:Str}{pos pos' tpos:Pos}{ta tv:TE}
theorem Vj(he:PE X e ta)(hb:attributeBase e f X.env (eval e X.env)=eval e X.env):PE X (.Attribute e f pos) (tFld X.K ta f):=by intro pins s σ H Q I h;refine RG hb (thn (he pins s σ H _ I h) λu s1 ⟨x,H1,I1,rx,a,C,dx,fs,v,ex,ea,c,n,l,q⟩=>?_);subst ex;obtain rfl:u=Value.ref a:=rx;exact KF I1 ea c n l λu' s2 I2 ru=>⟨v,H1,I2,ru,q⟩
theorem Vk(ha:PE X o ta)(hv:PE X value tv)(hs:swapsWith value (some (.Attribute o f pos')) pos.line X.env=pure false):PS X (.Assign [.Attribute o f pos'] value pos) (Y8 X.K ta tv f):=by intro pins s σ H D I h;refine plainObj_wpAny_Assign_Attribute (thn (hv pins s σ H _ I h) λu s1 ⟨y,H1,I1,ry,q⟩=>thn (ha pins s1 σ H1 _ I1 q) λov s2 ⟨x,H2,I2,rx,a,C,dx,fs,ex,ea,c,n,l,q2⟩=>?_) hs;subst ex;obtain rfl:ov=Value.ref a:=rx;exact KG I2 ea c n l ry λs3 I3=>⟨σ,_,I3,q2⟩
end
section
variable{X:Cx}{pins:cy}{σ:St}{H:Hp}{s:ae}{A:aQ}{E:aa->ae->Prop}{Q:aa->ae->Prop}{c:aa}{b:Bool}
inductive Eh(K:ar) (H:Hp):V->aa->Prop where
 |non:Eh K H .non (.type "NoneType")
 |bl (x:Bool):Eh K H (.bl x) (.type "bool")
 |int (i:Int):Eh K H (.int i) (.type "int")
 |str (x:Str):Eh K H (.str x) (.type "str")
 |flt (x:UInt64):Eh K H (.flt x) (.type "float")
 |lst {a:Addr} {xs:bC} (e:H a=some (.lst xs)):Eh K H (.ref a) (.type "list")
 |frz {a:Addr} {o:Obj} {xs:bC} (e:H a=some (.frz o (.lst xs))):Eh K H (.ref a) (.type "list")
 |tup {a:Addr} {xs:bC} (e:H a=some (.tup xs)):Eh K H (.ref a) (.type "tuple")
 |dK {a:Addr} {kvs:List (Key×V)} (e:H a=some (.dK kvs)):Eh K H (.ref a) (.type "dict")
 |dT {a:Addr} {kvs:List (List Key×V)} (e:H a=some (.dT kvs)):Eh K H (.ref a) (.type "dict")
 |ins {a C dx:Addr} {fs:List (Str×V)} (e:H a=some (.ins C dx fs)) (cl:Cls K C) (ha:cF K (.ref C) "__class__" = some (some (.builtin "object.__class__")))
   (hn:W.specialIn K (.builtin "object.__class__") "__get__" = some (some (.builtin "getset_descriptor.__get__"))) (htk:W.takesIn K (.builtin "object.__class__")=some true)
   (hm:W.mroIn K C (.type "object")=some true):Eh K H (.ref a) (.ref C)
theorem xq(I:Inv X pins σ H s)(rx:RelV x u)(ty:Eh X.K H x t)(e:cH X.K t c=some b)(h:∀tk,Q (.bool b) { s with toks:=tk }):
  wpAny (model X.prog X.w) A (call (.builtin "isinstance") [u,c]) Q E s:=by
 cases ty with
 |non=>cases (show u=Value.none from rx);exact cv W.kitx_none I.kIn True.intro e (λz=>nomatch z) h
 |bl y=>cases (show u=Value.bool y from rx);exact cv W.kitx_bool I.kIn True.intro e (λz=>nomatch z) h
 |int i=>obtain⟨t,q⟩:=(show ∃t,u=Value.int i t from rx);cases q;exact cv W.kitx_int I.kIn True.intro e (λz=>nomatch z) h
 |str y=>obtain⟨t,q⟩:=(show ∃t,u=Value.str y t from rx);cases q;exact cv W.kitx_str I.kIn True.intro e (λz=>nomatch z) h
 |flt y=>obtain⟨t,q⟩:=(show ∃t,u=Value.float y t from rx);cases q;exact cv W.kitx_float I.kIn True.intro e (λz=>nomatch z) h
 |@lst a xs ea=>cases (show u=Value.ref a from rx);obtain⟨_,_,n,_,h1⟩:=(show tL X.prog X.w H s.heap a (.lst xs) from I.hok a _ ea);exact cv lr I.kIn ⟨_,h1,rfl⟩ e (λz=>nomatch z) h
 |@frz a ob xs ea=>cases (show u=Value.ref a from rx);obtain⟨_,_,_,n,_,h1⟩:=(show tL X.prog X.w H s.heap a (.frz ob (.lst xs)) from I.hok a _ ea);exact cv lr I.kIn ⟨_,h1,rfl⟩ e (λz=>nomatch z) h
 |@tup a xs ea=>cases (show u=Value.ref a from rx);obtain⟨_,_,_,p⟩:=(show tL X.prog X.w H s.heap a (.tup xs) from I.hok a _ ea);obtain⟨o,h1,h2,_⟩:=p;exact cv W.kitx_tuple I.kIn ⟨o,h1,h2⟩ e (λz=>nomatch z) h
 |@dK a kvs ea=>cases (show u=Value.ref a from rx);obtain⟨_,_,vs,_,p⟩:=(show tL X.prog X.w H s.heap a (.dK kvs) from I.hok a _ ea);obtain⟨o,es,ep,h1,h2,_⟩:=p;exact cv lu I.kIn ⟨o,h1,h2.1⟩ e (λz=>nomatch z) h
 |@dT a kvs ea=>cases (show u=Value.ref a from rx);obtain⟨_,_,xs,_,o,es,ep,h1,h2,_⟩:=(show tL X.prog X.w H s.heap a (.dT kvs) from I.hok a _ ea);exact cv lu I.kIn ⟨o,h1,h2.1⟩ e (λz=>nomatch z) h
 |@ins a C dx fs ea cl ha hn htk hm=>cases (show u=Value.ref a from rx);obtain⟨mA,O,_⟩:=En I.hok ea;obtain⟨od,J,_⟩:=O.look;exact cv (W.kitx_own (cl.get _) cl.hd ha hn htk hm) I.kIn J e (λz=>nomatch z) h
end
structure ug(k:Nat)(A:aQ):Prop where
 hd:A.handled=none
 dp:A.depth+3 * k+5<recursionLimit
 un:A.units+16 * k+200<cLine
theorem ug.mono(r:ug k A)(h:j<=k):ug j A:=⟨r.hd,by have:=r.dp;omega,by have:=r.un;omega⟩
theorem ug.deeper(r:ug (k+1) A)(env:Env):ug k (A.deeper env):=
 ⟨r.hd,by have:=r.dp;show A.depth+1+3 * k+5<_;omega,by have:=r.un;show A.units+3+16 * k+200<_;omega⟩
theorem KH{A:aQ}:(A.under (.builtin "type.__call__" ⟨.ref C::us,kw⟩)).depth=A.depth+1:=by
 first|rfl|simp[la,Code.weight,Code.isCreation,Code.isGuard,Code.isCaller,Code.frames,lb,guardIds]
theorem KI{A:aQ}:(A.under (.builtin "type.__call__" ⟨.ref C::us,kw⟩)).units=A.units+1:=by
 first|rfl|simp[la,Code.cUnits,Code.frames,lb]
theorem ug.make(r:ug (k+1) A)(C:Addr)(us:List aa)(kw:List (Str×aa)):ug k (A.under (.builtin "type.__call__" ⟨.ref C::us,kw⟩)):=
 ⟨r.hd,by have:=r.dp;rw[KH];omega,by have:=r.un;rw[KI];omega⟩
theorem ug.depth(r:ug k A):A.depth<recursionLimit:=by have:=r.dp;omega
theorem ug.units(r:ug k A):A.units+64<cLine:=by have:=r.un;omega
def Jd:TA:=λ_ H Q=>Q [] H
def EE(ta:TE)(tr:TA):TA:=λσ H Q=>ta σ H λx H1=>tr σ H1 λxs H2=>Q (x::xs) H2
section
variable{X:Cx}{e:Expr}{es:List Expr}{te:TE}{t:TA}{pos:Pos}
theorem xD:PA X [] Jd:=λ_ _ _ _ H Q I h=>gG ⟨[],H,I,.nil,h⟩
theorem uj(ha:PE X e te)(hr:PA X es t)(hs:starEach (e::es) X.env=(false,eval e X.env)::starEach es X.env:=by rfl):PA X (e::es) (EE te t):=by intro pos pins s σ H Q I h;rw[hs];show wpAny _ _ (spliced ((false,eval e X.env)::backTo pos (starEach es X.env))) _ _ s;refine eE (thn (ha pins s σ H _ I h) λu s1 ⟨x,H1,I1,r1,q1⟩=>?_);exact thn (hr pos pins s1 σ H1 _ I1 q1) λus s2 ⟨xs,H2,I2,r2,q2⟩=>⟨x::xs,H2,I2,.cons r1 r2,q2⟩
def tTup(t:TA):TE:=λσ H Q=>t σ H λxs H1=>xs.length<=sizeLine/\∀p,H1 p=none->Q (.ref p) (upd H1 p (.tup xs))
def Y9(t:TA):TE:=λσ H Q=>t σ H λxs H1=>xs.length<=sizeLine/\∀p,H1 p=none->Q (.ref p) (upd H1 p (.lst xs))
theorem Vl{x1}(h:PA X es t):PE X (.Tuple es x1 pos) (tTup t):=by intro pins s σ H Q I hq;refine wpAny_Tuple_spliced (thn (h pos pins s σ H _ I hq) λus s1 ⟨xs,H1,I1,r,z,q⟩=>⟨by rw[<-r.length];exact z,?_⟩);have hf:H1 s1.heap.objs.size=none:=I1.hok.fresh (aF _);refine⟨.ref s1.heap.objs.size,upd H1 s1.heap.objs.size (.tup xs),I1.laid (t':=s1.toks) (λb u e=>aJ _ e) (aF _) ?_,rfl,q _ hf⟩;exact⟨z,us,r,⟨_,bz _ rfl,rfl,_,rfl⟩⟩
theorem OE(h:PA X es t):PE X (.List es pos) (Y9 t):=by intro pins s σ H Q I hq;refine wpAny_List_spliced (thn (h pos pins s σ H _ I hq) λus s1 ⟨xs,H1,I1,r,z,q⟩=>⟨by rw[<-r.length];exact z,?_⟩);have hf:H1 s1.heap.objs.size=none:=I1.hok.fresh (aF _);refine⟨.ref s1.heap.objs.size,upd H1 s1.heap.objs.size (.lst xs),I1.laid (t':=s1.toks) (λb u e=>aJ _ e) (aF _) ?_,rfl,q _ hf⟩;exact⟨z,us,0,r,bz _ rfl⟩
end
abbrev Sp:=bC->Hp->VK->XK->Prop
abbrev CXT:=List Env->Hp->ae->XK->aa->ae->Prop
structure KJ(P:aU)(w:aI)(K:ar)(mg:Str->Option aa)(base:Heap)(A:aQ)(outer:List Env)(s:ae)(H:Hp):Prop where
 frames:A.frames=some outer
 mod:Mod K mg base
 bs:∀b o,base.get? b=some o->s.heap.get? b=some o/\H b=none
 bsz:base.objs.size<=s.heap.objs.size
 funs:s.heap.FunFrames base outer
 frf:∀b∈frs outer,H b=none
 hok:HOk P w H s.heap
 bare:dt s.gens
def CE(outer:List Env)(P:aU)(w:aI)(H:Hp)(s:ae)(Q:VK)(u:aa)(s':ae):Prop:=
 ∃v H',s'.os=s.os/\dt s'.gens/\Un (frs outer) [] H H' s.heap s'.heap/\HOk P w H' s'.heap/\RelV v u/\Q v H'
def CR(CX:CXT)(outer:List Env)(P:aU)(w:aI)(H:Hp)(s:ae)(Q:VK)(E:XK)(r:fN)(s':ae):Prop:=
 match r with
 |.ok (.ret u)=>CE outer P w H s Q u s'
 |.ok _=>False
 |.error e=>CX outer H s E e s'
structure vQ(P:aU)(w:aI)(K:ar)(mg:Str->Option aa)(base:Heap)(CX:CXT)(k:Nat)(f:Addr)(fd:bY)(ps:aB)(sp:Sp):Prop where
 len:∀vs H Q E,sp vs H Q E->vs.length=ps.length
 run:∀(A:aQ) (outer:List Env) (s:ae) (H:Hp) (args:Args) (us:List aa) (vs:bC) (Q:VK) (E:XK),ug k A->KJ P w K mg base A outer s H->fM s fd args (ps.zip us)->Vals vs us->sp vs H Q E->
  codeAny (model P w) A (.call (.ref f) args) (CR CX outer P w H s Q E) s
theorem vQ.mono{K:ar}(F:vQ P w K mg base CX j f fd ps sp)(h:j<=k):
  vQ P w K mg base CX k f fd ps sp:=⟨F.len,λA outer s H args us vs Q E hr=>F.run A outer s H args us vs Q E (hr.mono h)⟩
theorem vQ.imp{K:ar}(F:vQ P w K mg base CX k f fd ps sp)
  (h:∀vs H Q E,sp' vs H Q E->sp vs H Q E):vQ P w K mg base CX k f fd ps sp':=
 ⟨λvs H Q E q=>F.len vs H Q E (h _ _ _ _ q),λA outer s H args us vs Q E hr he hb hv hs=>F.run A outer s H args us vs Q E hr he hb hv (h _ _ _ _ hs)⟩
theorem KJ.make{K:ar}(e:KJ P w K mg base A outer s H)(C:Addr)(us:List aa)(kw:List (Str×aa)):
  KJ P w K mg base (A.under (.builtin "type.__call__" ⟨.ref C::us,kw⟩)) outer s H:=⟨by first|exact e.frames|(simpa [la,Code.envs,lb,pushEnvs]using e.frames),e.mod,e.bs,e.bsz,e.funs,e.frf,e.hok,e.bare⟩
section
variable{X:Cx}{pins:cy}{σ:St}{H:Hp}{s s':ae}
theorem Inv.env0(I:Inv X pins σ H s):KJ X.prog X.w X.K X.mg X.base X.A X.stack s H:=
 ⟨I.ok.frames,I.ok.mod,I.bs,bK I.ok.bsz I.sz,I.stack,I.stkFree,I.hok,I.bare⟩
theorem Inv.after(I:Inv X pins σ H s)(h:CE X.stack X.prog X.w H s Q u s'):EP X pins σ Q u s':=by obtain⟨v,H',os,bare,un,hok,r,q⟩:=h;obtain⟨hh,g,d,t,os'⟩:=s';obtain rfl:os'=s.os:=os;exact⟨v,H',I.call (h':=hh) (g':=g) (d':=d) (t':=t) (ch:=[]) un hok bare (λb z=>aq z (by simp)),r,q⟩
end
def zX(sp:Sp)(dvs:bC)(E:XK)(t:TA):TE:=λσ H Q=>t σ H λvs H1=>sp (vs++dvs) H1 Q E
def Ur(C:Addr)(sp:Sp)(dvs:bC)(E:XK)(t:TA):TE:=λσ H Q=>t σ H λvs H1=>∀x dx,H1 x=none->H1 dx=none->dx≠x->
 sp (.ref x::(vs++dvs)) (upd (upd H1 dx (.own x)) x (.ins C dx [])) (λv H2=>v=.non/\Q (.ref x) H2) E
def Binds(K:ar)(fd:bY)(ps:aB)(ds:List aa):Prop:=
 ∀(s:ae) (us:List aa),K.In s.heap->(us++ds).length=ps.length->fM s fd ⟨us,[]⟩ (ps.zip (us++ds))
theorem Binds.all{K:ar}{ps:aB}(h:∀us:List aa,us.length=ps.length->bindArgs fd ⟨us,[]⟩=pure (ps.zip us)):Binds K fd ps []:=λs us _ hl=>by rw[bq]at hl ⊢;exact .of_eq (h us hl)
def Passes(CX:CXT)(X:Cx)(E:XK):Prop:=∀(pins:cy) (σ:St) (H:Hp) (s:ae) (e:aa) (s':ae),Inv X pins σ H s->CX X.stack H s E e s'->X.xe e s'
section
variable{X:Cx}{CX:CXT}{k:Nat}{f C:Addr}{fd:bY}{ps:aB}{sp:Sp}{dvs:bC}{ds:List aa}{E:XK}{x m:Str}{p pos apos:Pos}{e o:Expr}{es:List Expr}{ta:TE}{t:TA}
theorem HP(F:vQ X.prog X.w X.K X.mg X.base CX k f fd ps sp)(hr:ug k X.A)(hb:Binds X.K fd ps ds)(hd:Vals dvs ds)(hx:Passes CX X E)
  (I:Inv X pins σ H s) (r:Vals vs us) (h:sp (vs++dvs) H Q E):wpAny (model X.prog X.w) X.A (call (.ref f) us) (EP X pins σ Q) X.xe s:=by
 have r2:Vals (vs++dvs) (us++ds):=r.append hd;have hl:(us++ds).length=ps.length:=by rw[<-r2.length];exact F.len _ _ _ _ h
 refine jk (fJ (F.run X.A X.stack s H ⟨us,[]⟩ (us++ds) (vs++dvs) Q E hr I.env0 (hb s us I.kIn hl) r2 h) λr s' hq=>?_);cases r with
 |error e=>exact hx pins σ H s e s' I hq
 |ok fl=>
  cases fl with
  |ret u=>exact I.after hq
  |next=>exact cE hq
  |brk=>exact cE hq
  |cont=>exact cE hq
theorem BK(F:vQ X.prog X.w X.K X.mg X.base CX k f fd ps sp)(hr:ug k X.A)(hg:Gl X x)(hm:X.mg x=some (.ref f))(hk:eS X.K (.ref f)=true)(hb:Binds X.K fd ps ds)(hd:Vals dvs ds)(hx:Passes CX X E)
  (ha:PA X (e::es) t) (hdb:(x==("__debug__" : Str))=false:=by decide) (he:starEach (e::es) X.env=(false,eval e X.env)::starEach es X.env:=by rfl) (hpl:(backTo pos (starEach es X.env)).any (·.1)=false:=by rfl):
  PE X (.Call (.Name x p) (e::es) [] pos) (zX sp dvs E t):=by
 intro pins s σ H Q I h;refine dG (BJ I hg hm ?_ hdb);refine lg (h₀:=X.base) I.ok.mod.kin hk (thn (ha pos pins s σ H _ I h) λus s1 ⟨vs,H1,I1,r,q⟩=>⟨I1.kIn,?_⟩) he hpl;exact HP F hr hb hd hx I1 r q
theorem OF(F:vQ X.prog X.w X.K X.mg X.base CX k f fd ps sp)(hr:ug k X.A)(hg:Gl X x)(hm:X.mg x=some (.ref f))(hk:eS X.K (.ref f)=true)(hb:Binds X.K fd ps ds)(hd:Vals dvs ds)(hx:Passes CX X E)
  (hdb:(x==("__debug__" : Str))=false:=by decide):PE X (.Call (.Name x p) [] [] pos) (zX sp dvs E Jd):=by
 intro pins s σ H Q I h;refine dG (BJ I hg hm ?_ hdb);exact kO I.kIn hk (HP (us:=[]) F hr hb hd hx I .nil h)
structure Mk(K:ar)(C f:Addr):Prop where
 makes:lM K C=true
 init:cF K (.ref C) "__init__" = some (some (.ref f))
 fn:W.isFn K (.ref f)=true
 kp:eS K (.ref C)=true
theorem OG(M:Mk X.K C f)(F:vQ X.prog X.w X.K X.mg X.base CX k f fd ps sp)(hr:ug (k+1) X.A)(hb:Binds X.K fd ps ds)(hd:Vals dvs ds)
  (hx:Passes CX X E) (I:Inv X pins σ H s) (r:Vals vs us)
  (h:∀x dx,H x=none->H dx=none->dx≠x->sp (.ref x::(vs++dvs)) (upd (upd H dx (.own x)) x (.ins C dx [])) (λv H2=>v=.non/\Q (.ref x) H2) E):
  wpAny (model X.prog X.w) X.A (call (.ref C) us) (EP X pins σ Q) X.xe s:=by
 have hq:=h (s.heap.objs.size+1) s.heap.objs.size (I.hok.fresh (eP _)) (I.hok.fresh (aF _)) (aY (dH _));have I2:=Inv.made (C:=C) I;have r2:Vals (V.ref (s.heap.objs.size+1)::(vs++dvs)) (Value.ref (s.heap.objs.size+1)::(us++ds)):=.cons rfl (r.append hd);have hl:(Value.ref (s.heap.objs.size+1)::us++ds).length=ps.length:=by have e:=r2.length;rw[F.len _ _ _ _ hq]at e;exact e.symm
 refine jk (OD (f:=f) I.kIn M.makes M.init (beq_iff_eq.mp M.fn) (fJ (F.run _ X.stack _ _ ⟨Value.ref (s.heap.objs.size+1)::us,[]⟩ (Value.ref (s.heap.objs.size+1)::(us++ds)) _ _ E (hr.make C us [])
  (I2.env0.make C us []) (hb _ (Value.ref (s.heap.objs.size+1)::us) I2.kIn hl) r2 hq) λr s' hq'=>?_))
 cases r with
 |error e=>exact hx pins σ _ _ e s' I2 hq'
 |ok fl=>
  cases fl with
  |ret u=>obtain⟨v,H',I3,rv,ev,q3⟩:=I2.after hq';subst ev;exact⟨rv,⟨V.ref (s.heap.objs.size+1),H',I3,rfl,q3⟩⟩
  |next=>exact cE hq'
  |brk=>exact cE hq'
  |cont=>exact cE hq'
theorem RH(M:Mk X.K C f)(F:vQ X.prog X.w X.K X.mg X.base CX k f fd ps sp)(hr:ug (k+1) X.A)(hg:Gl X x)(hm:X.mg x=some (.ref C))(hb:Binds X.K fd ps ds)(hd:Vals dvs ds)(hx:Passes CX X E)
  (ha:PA X (e::es) t) (hdb:(x==("__debug__" : Str))=false:=by decide) (he:starEach (e::es) X.env=(false,eval e X.env)::starEach es X.env:=by rfl) (hpl:(backTo pos (starEach es X.env)).any (·.1)=false:=by rfl):
  PE X (.Call (.Name x p) (e::es) [] pos) (Ur C sp dvs E t):=by
 intro pins s σ H Q I h;refine dG (BJ I hg hm ?_ hdb);refine lg (h₀:=X.base) I.ok.mod.kin M.kp (thn (ha pos pins s σ H _ I h) λus s1 ⟨vs,H1,I1,r,q⟩=>⟨I1.kIn,?_⟩) he hpl;exact OG M F hr hb hd hx I1 r q
end
structure ud(N P:aB)(sc:cU):Prop where
 kind:sc.kind=.function
 co:sc.isCoroutine=false
 gen:sc.isGenerator=false
 nd:N.Nodup
 pre:N.take P.length=P
 par:∀x∈P,sc.names.lookup x=some .local\/sc.names.lookup x=some .cell
 nofree:∀y∈sc.names,y.2≠.free
theorem Gv{kindOf:Str->Option c7}:∀{binds:List (Str×aa)} {m:Str->Option aa},(∀v,(x,v)∉binds)->bindL kindOf binds m x=m x
 |[],_,_=>rfl
 |(n,v)::r,m,h=>by
  unfold bindL;rw[Gv λw hw=>h w (bf _ hw)];split
  ·have:x≠n:=by rintro rfl;exact h v aV
   simp[this]
  ·rfl
theorem Gw{kindOf:Str->Option c7}:∀{binds:List (Str×aa)} {m:Str->Option aa},(∀v,(x,v)∉binds)->bindC kindOf binds m x=m x
 |[],_,_=>rfl
 |(n,v)::r,m,h=>by
  unfold bindC;rw[Gw λw hw=>h w (bf _ hw)];split
  ·rfl
  ·have:x≠n:=by rintro rfl;exact h v aV
   simp[this]
theorem Gx{kindOf:Str->Option c7}:∀{P:aB} {vs:List aa} {i:Nat} {m:Str->Option aa},P.Nodup->P[i]?=some x->vs[i]?=some v->kindOf x=some .local->
  bindL kindOf (P.zip vs) m x=some v
 |[],_,_,_,_,h,_,_=>by simp at h
 |_::_,[],_,_,_,_,h,_=>by simp at h
 |p::P,w::vs,0,m,nd,h1,h2,hk=>by simp at h1 h2;subst h1;subst h2;show bindL kindOf ((p,w)::P.zip vs) m p=_;unfold bindL;rw[Gv λv hv=>(cc.mp nd).1 (ja hv).1,ai hk];simp
 |p::P,w::vs,i+1,m,nd,h1,h2,hk=>by show bindL kindOf ((p,w)::P.zip vs) m x=_;unfold bindL;exact Gx (i:=i) (cc.mp nd).2 (by simpa using h1) (by simpa using h2) hk
theorem Gy{kindOf:Str->Option c7}:∀{P:aB} {vs:List aa} {i:Nat} {m:Str->Option aa},P.Nodup->P[i]?=some x->vs[i]?=some v->kindOf x≠some .local->
  bindC kindOf (P.zip vs) m x=some v
 |[],_,_,_,_,h,_,_=>by simp at h
 |_::_,[],_,_,_,_,h,_=>by simp at h
 |p::P,w::vs,0,m,nd,h1,h2,hk=>by simp at h1 h2;subst h1;subst h2;show bindC kindOf ((p,w)::P.zip vs) m p=_;unfold bindC;rw[Gw λv hv=>(cc.mp nd).1 (ja hv).1,aj hk];simp
 |p::P,w::vs,i+1,m,nd,h1,h2,hk=>by show bindC kindOf ((p,w)::P.zip vs) m x=_;unfold bindC;exact Gy (i:=i) (cc.mp nd).2 (by simpa using h1) (by simpa using h2) hk
def start(N:aB)(vs:bC):St:=vs.map some++dP (N.length - vs.length) none
def Je(CX:CXT)(P:aU)(w:aI)(K:ar)(mg:Str->Option aa)(base:Heap)(N:aB)(qual:Str)(scope:cU)(f:Addr)(cd:aa)(A:aQ)(outer:List Env)(s:ae)(H:Hp)(E:XK):Cx where
 prog:=P
 w:=w
 K:=K
 mg:=mg
 base:=base
 A:=A.deeper (envOfC qual scope s.heap.objs.size f cd)
 N:=N
 s₀:=s
 H₀:=H
 env:=envOfC qual scope s.heap.objs.size f cd
 outer:=outer
 stack:=envOfC qual scope s.heap.objs.size f cd::outer
 ex:=[]
 calm:=true
 fn:=λ_=>true
 pn:=[]
 xe:=λe s'=>wpAny (model P w) (A.deeper (envOfC qual scope s.heap.objs.size f cd)) (leaving (envOfC qual scope s.heap.objs.size f cd) e) (λ_ s''=>CX outer H s E e s'') (λe' s''=>CX outer H s E e' s'') s'
theorem Jf{sc:cU}(h:sc.names.lookup x=some .cell):∃c,(cellsFrom n sc.names []).lookup x=some c:=by have q:=oX sc.names n [] (.inl h);exact Option.isSome_iff_exists.mp q
theorem Nc{K:ar}{A:aQ}{vs:bC}
  (S:ud N ps scope) (hd:A.handled=none) (e0:KJ P w K mg base A outer s H) (hl:vs.length=ps.length) (r:Vals vs us)
  (x:InCallC s s.heap.objs.size (bindL (envOfC qual scope s.heap.objs.size f cd).kindOf (ps.zip us) λ_=>none) (cellsFrom (s.heap.objs.size+1) scope.names []) (bindC (envOfC qual scope s.heap.objs.size f cd).kindOf (ps.zip us) λ_=>none) s1):
  Inv (Je CX P w K mg base N qual scope f cd A outer s H E) [] (start N vs) H s1:=by
 have hpl:ps.length<=N.length:=by have:=aT bU S.pre;rw[bp]at this;omega
 obtain⟨h1,tk,rfl,hk⟩:=x.done;have noA:∀b:Addr,b∉(Je CX P w K mg base N qual scope f cd A outer s H E).ex:=λb z=>aq (show b∈([]:List Addr) from z) (by simp);refine⟨⟨e0.mod,S.kind,rfl,rfl,aF _,λy z c h1 h2=>?_,λy hy=>?_,λy c _ h=>?_,λ_=>hd,Around.frames_deeper e0.frames,.inr ⟨rfl,rfl⟩,λb z=>aq z (noA b),e0.bs,e0.bsz,λb _ _=>noA b,λb z=>aq z (noA b),e0.funs,e0.frf⟩,
  rfl,e0.bare,Un.kept hk,⟨_,x.toInCall.ns,λi y v h1 h2 h3=>?_⟩,λy c h=>⟨_,x.cell y c h⟩,e0.hok.fresh (aF _),λy c h=>?_,λp hp=>aq (show p∈([]:cy) from hp) (by simp),e0.hok.kept hk,?_⟩
 ·exact name_of_addr x.apart (gA h1) (gA h2)
 ·have hy:scope.names.lookup y=some .cell\/scope.names.lookup y=some .free:=hy;rcases hy with hy|hy
  ·exact Jf hy
  ·exact aq rfl (S.nofree _ (gA hy))
 ·exact eO (x.above y c (gA h))
 ·have hi:i<vs.length:=by
   unfold start at h2;by_cases hi:i<vs.length
   ·exact hi
   ·rw[cz (by simpa using hi)]at h2;rw[fq]at h2;split at h2<;>cases h2
  have ha:vs[i]?=some v:=by
   unfold start at h2;rw[cG (by simpa using hi),bt]at h2;cases e:vs[i]? with
   |none=>rw[e]at h2;cases h2
   |some a=>rw[e]at h2;cases h2;rfl
  obtain⟨u,hu,rv⟩:=r.get ha;have hp:ps[i]?=some y:=by rw[<-S.pre,List.getElem?_take_of_lt (by omega)];exact h1
  have ndP:ps.Nodup:=by rw[<-S.pre];exact S.nd.sublist (iO _ _)
  refine⟨u,rv,?_⟩;rcases S.par y (cA hp)with k|k
  ·exact .inl ⟨k,Gx ndP hp hu k⟩
  ·obtain⟨c,e⟩:=Jf (n:=s.heap.objs.size+1) k;refine .inr ⟨.inl k,c,e,?_⟩;have q:=x.cell y c e;rw[Gy ndP hp hu (by show scope.names.lookup y≠_;rw[k];decide)]at q;exact q
 ·exact e0.hok.fresh (eO (x.above y c (gA h)))
 ·unfold start;show _=N.length;rw[aA,ag,cf];omega
theorem Us{K:ar}{kV:aa}
 (lk:K.lookup f=some ⟨oc,od,.func (fO name qual params body scope dV kV doc pm an cdv ct),osl⟩) (hcd:W.codeIn K cdv qual=true) (S:ud N ps scope)
  (len:∀vs H Q E,sp vs H Q E->vs.length=ps.length)
  (hbody:∀(A:aQ) (outer:List Env) (s:ae) (H:Hp) (vs:bC) (Q:VK) (E:XK),ug k (A.deeper (envOfC qual scope s.heap.objs.size f cdv))->sp vs H Q E->
   ∃t,PSs (Je CX P w K mg base N qual scope f cdv A outer s H E) body t/\t { nx:=λ_ H'=>Q .non H',rt:=Q } (start N vs) H):
  vQ P w K mg base CX (k+1) f (fO name qual params body scope dV kV doc pm an cdv ct) ps sp:=by
 refine⟨len,λA outer s H args us vs Q E hr e0 hb r hsp=>?_⟩;have hl:=len _ _ _ _ hsp;have KX:K.In s.heap:=e0.mod.kin.keeps λb o e=>(e0.bs b o e).1;have lim:s.heap.NoLimit:=e0.mod.nolimit.keeps λb o e=>(e0.bs b o e).1;have hkind:∀y∈ps.zip us,scope.names.lookup y.1=some .local\/(scope.names.lookup y.1=some .cell/\((cellsFrom (s.heap.objs.size+1) scope.names []).lookup y.1).isSome=true):=λ⟨n,v⟩ hy=>by
  rcases S.par n (ja hy).1 with q|q
  ·exact .inl q
  ·exact .inr ⟨q,oX _ _ _ (.inl q)⟩
 refine codeAny_call_function hr.depth (KX _ _ lk) rfl S.co S.gen rfl (W.codeRec_of KX hcd) (hb _ _ _ _ ?_);refine wpAny_newFunctionEnv_cells S.kind hkind λenv he s1 x=>?_;subst he;refine⟨lim.keeps x.toInCall.keep,codeAny_func ?_⟩;obtain⟨t,ht,hq⟩:=hbody A outer s H vs Q E (hr.deeper _) hsp;have I:Inv (Je CX P w K mg base N qual scope f cdv A outer s H E) [] (start N vs) H s1:=Nc S hr.hd e0 hl r x;refine bV (ht [] s1 (start N vs) H _ I hq) (λfl s' hs=>?_) λe s' hs=>hs;have fin:∀{σ':St} {H':Hp} {v:V} {u:aa},Inv (Je CX P w K mg base N qual scope f cdv A outer s H E) [] σ' H' s'->RelV v u->Q v H'->CE outer P w H s Q u s':=
  λ{σ' H' v u} J rv q=>⟨v,H',J.os,J.bare,J.base,J.hok,rv,q⟩
 cases fl with
 |ret u=>obtain⟨v,σ',H',J,rv,q⟩:=hs;exact fin J rv q
 |next=>obtain⟨σ',H',J,q⟩:=hs;exact fin (v:=V.non) (u:=Value.none) J rfl q
 |brk=>obtain⟨_,_,_,q⟩:=hs;exact cE q
 |cont=>obtain⟨_,_,_,q⟩:=hs;exact cE q
section
variable{X:Cx}{x:Str}{p pos:Pos}{e:Expr}{es:List Expr}{t:TA}{id T:String}{r:bC->Hp->VK->Prop}
def tCB(r:bC->Hp->VK->Prop)(t:TA):TE:=λσ H Q=>t σ H λvs H1=>r vs H1 Q
theorem EF(hc:uf X (.builtin id) r)(hg:Gl X x)(hm:X.mg x=none)(hv:bootBuiltins x=some (.builtin id))(ha:PA X (e::es) t)(hn:x≠"__name__" := by decide)(hdb:(x==("__debug__" : Str))=false:=by decide)
  (he:starEach (e::es) X.env=(false,eval e X.env)::starEach es X.env:=by rfl) (hpl:(backTo pos (starEach es X.env)).any (·.1)=false:=by rfl):PE X (.Call (.Name x p) (e::es) [] pos) (tCB r t):=by
 intro pins s σ H Q I h;refine dG (Bp I hg hm hv ?_ hn hdb);exact callWith_builtin1 (thn (ha pos pins s σ H _ I h) λus s1 ⟨vs,H1,I1,r1,q1⟩=>hc pins s1 σ H1 vs us Q I1 r1 q1) he hpl
theorem Nd(hc:uf X (.type T) r)(hg:Gl X x)(hm:X.mg x=none)(hv:bootBuiltins x=some (.type T))(ha:PA X (e::es) t)(hn:x≠"__name__" := by decide)(hdb:(x==("__debug__" : Str))=false:=by decide)
  (he:starEach (e::es) X.env=(false,eval e X.env)::starEach es X.env:=by rfl) (hpl:(backTo pos (starEach es X.env)).any (·.1)=false:=by rfl):PE X (.Call (.Name x p) (e::es) [] pos) (tCB r t):=by
 intro pins s σ H Q I h;refine dG (Bp I hg hm hv ?_ hn hdb);exact callWith_type1 (thn (ha pos pins s σ H _ I h) λus s1 ⟨vs,H1,I1,r1,q1⟩=>hc pins s1 σ H1 vs us Q I1 r1 q1) he hpl
end
end L2
namespace HT
open PySem PyProof.Rows
variable{lo:Option Int}
section
variable{prog:aU}{w:aI}{A:aQ}{E:aa->ae->Prop}{s:ae}
theorem RI{vs ws:List aa}(ht:du s.heap t vs.toArray)(hb:du s.heap b ws.toArray)(hv:vs≠[])
  (h1:ws=[]->Q (.ref t) s) (h2:ws≠[]->Q (.ref s.heap.objs.size) { s with heap:=s.heap.push { cls:=.type "tuple", data:=.seq (vs++ws).toArray } })
  (hsz:vs.length+ws.length<=sizeLine):wpAny (model prog w) A (binaryOp .Add (.ref t) (.ref b)) Q E s:=by
 obtain⟨⟨cls,dd,data,sl⟩,ho,hc,n,hd⟩:=id ht;obtain⟨⟨cls2,dd2,data2,sl2⟩,ho2,hc2,n2,hd2⟩:=id hb;simp only at hc hd hc2 hd2;subst hc hd hc2 hd2;have e:vs.toArray++ws.toArray=(vs++ws).toArray:=by simp
 by_cases hw:ws=[]
 ·exact concat_meets ⟨_,ho,rfl⟩ ⟨_,ho2,rfl⟩ noFill_tuple_add seq_tuple_add oY oM (ou _ _)
   (tuple_addW1 t b vs.toArray ws.toArray n n2 dd dd2 sl sl2 (by simpa using hv) (by simp[hw])) ⟨ho,ho2,h1 hw⟩
 ·refine concat_meets ⟨_,ho,rfl⟩ ⟨_,ho2,rfl⟩ noFill_tuple_add seq_tuple_add oY oM (ou _ _)
   (tuple_addW2 t b vs.toArray ws.toArray n n2 dd dd2 sl sl2 (by simpa using hv) (by simpa using hw) (by rw[bg,bg];exact hsz)) ⟨ho,ho2,?_⟩
  rw[e];exact h2 hw
def sIx(n d:Nat):Option Int->Nat
 |none=>d
 |some v=>if v<0 then (v+(n:Int)).toNat else min v.toNat n
theorem EG(n d:Nat):sIx n d none=d:=rfl
theorem BL(n d k:Nat):sIx n d (some (k:Int))=min k n:=by show (if (k:Int)<0 then ((k:Int)+(n:Int)).toNat else min (k:Int).toNat n)=min k n;rw[aj (by omega),iP]
theorem Vm(n d:Nat)(hd:d<=n)(o:Option Int):sIx n d o<=n:=by
 cases o with
 |none=>exact hd
 |some v=>
  show (if v<0 then (v+(n:Int)).toNat else min v.toNat n)<=n;by_cases hv:v<0
  ·rw[ai hv];omega
  ·rw[aj hv];exact Nat.min_le_right _ _
theorem LS(v:Int)(n d:Nat):(if v<0 then max (v+(n:Int)) 0 else min v (n:Int))=((sIx n d (some v):Nat):Int):=by
 show (if v<0 then max (v+(n:Int)) 0 else min v (n:Int))=(((if v<0 then (v+(n:Int)).toNat else min v.toNat n):Nat):Int);by_cases hv:v<0
 ·simp only[ai hv];omega
 ·simp only[aj hv];omega
theorem KL(lo hi:Option Int)(n:Nat):j5 lo hi 1 (n:Int)=(((sIx n 0 lo:Nat):Int),((sIx n n hi:Nat):Int)):=by
 have h1:¬((1:Int)<0):=by omega
 unfold j5;simp only[h1,if_false];refine Prod.ext ?_ ?_
 ·cases lo with
  |none=>rfl
  |some v=>exact LS v n 0
 ·cases hi with
  |none=>rfl
  |some v=>exact LS v n n
theorem KM(i j:Nat):iG (i:Int) (j:Int) 1=j - i:=by
 unfold iG;have h1:(1:Int) > 0:=by omega
 simp only[h1,if_true,Int.ediv_one];split<;>omega
theorem EH(p:dX v o)(h:Q o s):wpAny (model prog w) A (Builtin.Slice.slicePartIndex v) Q E s:=by
 cases p with
 |none=>exact slicePart_none h
 |int i t=>exact slicePart_int h
theorem CG{sl:Addr}{vl vu:aa}{hi:Option Int}{n:Nat}{Q:Int×Int×Nat->ae->Prop}(hs:s.heap.IsSliceOf sl vl vu .none)(pl:dX vl lo)(pu:dX vu hi)
  (h:Q (((sIx n 0 lo:Nat):Int),1,sIx n n hi - sIx n 0 lo) s):wpAny (model prog w) A (nz (.ref sl) (pure (n:Int))) Q E s:=by
 obtain⟨os,hos,hcs,hds⟩:=id hs;unfold nz Builtin.Slice.sliceFields;refine ao (ao (ly hos hds (x:=vl) rfl (ao (ly hos hds (x:=vu) rfl (ao (ly hos hds (x:=.none) rfl (az ?_)))))));refine ao (slicePart_none ?_);show wpAny _ _ (if ((1:Int)==0)=true then _ else _) _ _ s;rw[aj (by decide)];refine ao (EH pl (ao (EH pu (ao (az ?_)))));show wpAny _ _ (match j5 lo hi 1 (n:Int)with|(lo,hi)=>pure (lo,(1:Int),iG lo hi 1)) _ _ s;rw[KL lo hi n];show wpAny _ _ (pure (((sIx n 0 lo:Nat):Int),(1:Int),iG ((sIx n 0 lo:Nat):Int) ((sIx n n hi:Nat):Int) 1)) _ _ s;rw[KM];exact az h
theorem OH(xs:Array aa)(i k:Nat):((bB k).filterMap λ(m:Nat)=>xs[((i:Int)+(m:Int) * 1).toNat]?).toArray=((xs.toList.drop i).take k).toArray:=by
 have e:(λ(m:Nat)=>xs[((i:Int)+(m:Int) * 1).toNat]?)=λm=>xs[i+m]?:=by
  funext m
  have:((i:Int)+(m:Int) * 1).toNat=i+m:=by omega
  rw[this]
 rw[e];have:=pick_run xs i k;rw[List.filterMap_map]at this;have e2:((λx=>xs[x]?)∘λx=>i+x)=λm=>xs[i+m]?:=rfl;rw[e2]at this;rw[this]
theorem BM(ht:du s.heap t items)(hs:s.heap.IsSliceOf sl vl vu .none)(pl:dX vl lo)(pu:dX vu hi)
  (hw:¬(sIx items.size 0 lo=0/\sIx items.size items.size hi=items.size))
  (h:Q (.ref s.heap.objs.size) { s with heap:=s.heap.push { cls:=.type "tuple", data:=.seq ((items.toList.drop (sIx items.size 0 lo)).take (sIx items.size items.size hi - sIx items.size 0 lo)).toArray } })
  (hsz:items.size<=sizeLine):wpAny (model prog w) A (getItem (.ref t) (.ref sl)) Q E s:=by
 have htake:sizeOk (.seq ((items.toList.drop (sIx items.size 0 lo)).take (sIx items.size items.size hi - sIx items.size 0 lo)).toArray):=by show ((items.toList.drop (sIx items.size 0 lo)).take (sIx items.size items.size hi - sIx items.size 0 lo)).toArray.size<=sizeLine;rw[bg,bp,cb,eD];omega
 have hj:sIx items.size items.size hi<=items.size:=Vm _ _ (aF _) hi;obtain⟨os,hos,hcs,hds⟩:=id hs;have hTs:s.TypeIs (.ref sl) "slice" := ⟨os,hos,hcs⟩;unfold getItem
 try with_reducible refine cD ?_
 first|refine ao (az ?_)|skip
 refine ao (wpAny_sequenceKey ht.typeIs (by decide) ?_);refine ao (wpAny_callSpecial?_slot (name:=Str.ofString "__getitem__") ht.typeIs iF
  (iU iF ht.typeIs entry_tuple_getitem ?_ (args_tuple_getitem _ _)))
 show wpAny _ _ (Builtin.Tuple.tupleItemsOf (.ref t)>>=_) _ _ s;refine ao (tupleItemsOf_ ht ?_);refine ao (jg hTs ?_);rw[ai (by decide)];refine ao (CG hs pl pu ?_);have hno:¬((((sIx items.size 0 lo:Nat):Int)==0&&(1:Int)==1&&(sIx items.size items.size hi - sIx items.size 0 lo)==items.size)=true):=by intro q;rw[bh,bh]at q;have q1:((sIx items.size 0 lo:Nat):Int)=0:=eQ q.1.1;have q2:sIx items.size items.size hi - sIx items.size 0 lo=items.size:=eQ q.2;exact hw ⟨by omega,by omega⟩
 show wpAny _ _ (if (((sIx items.size 0 lo:Nat):Int)==0&&(1:Int)==1&&(sIx items.size items.size hi - sIx items.size 0 lo)==items.size)=true then _ else _) _ _ s;rw[aj hno,OH]
 first
  |exact ao (m:=iI _) (fz (az ⟨_,rfl,az h⟩) htake)
  |exact ao (m:=iI _) (fz (ao (az (az ⟨_,rfl,az h⟩))) htake)
  |exact ao (ao (m:=iI _) (fz (az (az ⟨_,rfl,az h⟩)) htake))
  |exact ao (ao (m:=iI _) (fz (az ⟨_,rfl,az h⟩) htake))
end
end HT
namespace L2
open PySem PySem.Spec PyProof.Rows
abbrev TO:=St->Hp->(Option Int->Hp->Prop)->Prop
def PO(X:Cx)(e:Option Expr)(t:TO):Prop:=
 ∀(pins:cy) (s:ae) (σ:St) (H:Hp) (Q:Option Int->Hp->Prop),Inv X pins σ H s->t σ H Q->
  wpAny (model X.prog X.w) X.A (evalPart e X.env) (λu s'=>∃o H',Inv X pins σ H' s'/\dX u o/\Q o H') X.xe s
def RJ:TO:=λ_ H Q=>Q none H
def Za(t:TE):TO:=λσ H Q=>t σ H λx H1=>∃i,x=.int i/\Q (some i) H1
section
variable{X:Cx}{e:Expr}{te:TE}{lo hi:Option Expr}{tl th:TO}{pos p2:Pos}
theorem LU:PO X none RJ:=by intro pins s σ H Q I h;rw[evalPart_none];exact az ⟨none,H,I,.none,h⟩
theorem LV(h:PE X e te):PO X (some e) (Za te):=by intro pins s σ H Q I hw;rw[evalPart_some];refine thn (h pins s σ H _ I hw) λu s1 ⟨x,H1,I1,r1,q1⟩=>?_;obtain⟨i,rfl,q⟩:=q1;obtain⟨t,rfl⟩:=r1;exact⟨some i,H1,I1,.int i t,q⟩
def SlR(X:Cx)(r:V->Option Int->Option Int->Hp->VK->Prop):Prop:=
 ∀(pins:cy) (s:ae) (σ:St) (H:Hp) (x:V) (v vl vu:aa) (lo hi:Option Int) (sl:Addr) (Q:VK),Inv X pins σ H s->RelV x v->s.heap.IsSliceOf sl vl vu .none->dX vl lo->dX vu hi->r x lo hi H Q->
  ∃T id,typeLookup (.type T) "__getitem__" = pure (some (.builtin id))/\s.TypeIs v T/\wpAny (model X.prog X.w) X.A (getItem v (.ref sl)) (EP X pins σ Q) X.xe s
def tSl(r:V->Option Int->Option Int->Hp->VK->Prop)(te:TE)(tl th:TO):TE:=λσ H Q=>te σ H λx H1=>tl σ H1 λl H2=>th σ H2 λu H3=>r x l u H3 Q
theorem EI(hr:SlR X r)(he:PE X e te)(hl:PO X lo tl)(hu:PO X hi th):PE X (.Subscript e (.Slice lo hi none p2) pos) (tSl r te tl th):=by intro pins s σ H Q I h;refine lG (thn (he pins s σ H _ I h) λv s1 ⟨x,H1,I1,r1,q1⟩=>?_);refine wpAny_Slice (thn (hl pins s1 σ H1 _ I1 q1) λvl s2 ⟨l,H2,I2,pl,q2⟩=>thn (hu pins s2 σ H2 _ I2 q2) λvu s3 ⟨u,H3,I3,pu,q3⟩=>?_);rw[evalPart_none];refine az ?_;have I4:Inv X pins σ H3 { s3 with heap:=s3.heap.push { cls:=.type "slice", data:=.fields #[vl,vu,.none] } }:=I3.kept (t':=s3.toks) λb ob q=>aJ _ q;obtain⟨T,id,hT,ht,hg⟩:=hr pins { s3 with heap:=s3.heap.push { cls:=.type "slice", data:=.fields #[vl,vu,.none] } } σ H3 x v vl vu l u s3.heap.objs.size Q I4 r1 (rD ..) pl pu q3;show wpAny (model X.prog X.w) X.A (subscriptTail e (.Slice lo hi none p2) v (.ref s3.heap.objs.size)) (EP X pins σ Q) X.xe { s3 with heap:=s3.heap.push { cls:=.type "slice", data:=.fields #[vl,vu,.none] } };exact tail_any (ops:=[.ref s3.heap.objs.size,v]) ht hT hg (by with_unfolding_all rfl)
def Jg(xs:bC)(lo hi:Option Int):bC:=(xs.drop (HT.sIx xs.length 0 lo)).take (HT.sIx xs.length xs.length hi - HT.sIx xs.length 0 lo)
theorem Du(xs:bC)(lo hi:Option Int):(Jg xs lo hi).length<=xs.length:=by unfold Jg;rw[bp,cb];omega
def Vn(K:ar):V->Option Int->Option Int->Hp->VK->Prop:=λx lo hi H Q=>∃a xs,x=.ref a/\SqT K H a xs/\
 ¬(HT.sIx xs.length 0 lo=0/\HT.sIx xs.length xs.length hi=xs.length)/\∀p,H p=none->Q (.ref p) (upd H p (.tup (Jg xs lo hi)))
theorem Vo:SlR X (Vn X.K):=by
 intro pins s σ H x v vl vu lo hi sl Q I rx hs pl pu h;obtain⟨a,xs,rfl,hx,hw,q⟩:=h;cases rx;obtain⟨its,r,ht,hz⟩:=I.tuple hx;have hlen:its.toArray.size=xs.length:=by rw[bg];exact r.length.symm
 refine⟨"tuple", _,iF.lookup,ht.typeIs,?_⟩;refine HT.BM ht hs pl pu (by rw[hlen];exact hw) ?_ (by rw[hlen];exact hz);rw[hlen];refine⟨.ref s.heap.objs.size,_,I.laid (t':=s.toks) (o:=.tup (Jg xs lo hi)) (λb ob q=>aJ _ q) (aF _) ?_,rfl,q _ (I.hok.fresh (aF _))⟩;exact⟨bK (Du xs lo hi) hz,_,(r.drop (HT.sIx xs.length 0 lo)).take (HT.sIx xs.length xs.length hi - HT.sIx xs.length 0 lo),lQ _ _⟩
def Zb(K:ar):R2:=λx y H Q=>∃a b xs ys,x=.ref a/\y=.ref b/\SqT K H a xs/\SqT K H b ys/\xs≠[]/\xs.length+ys.length<=sizeLine/\
 (ys=[]->Q (.ref a) H)/\(ys≠[]->∀p,H p=none->Q (.ref p) (upd H p (.tup (xs++ys))))
theorem Vals.nil_iff(r:Vals xs us):us=[] ↔ xs=[]:=by
 cases r with
 |nil=>simp
 |cons _ _=>simp
theorem RK:OpR X (binaryOp .Add) (Zb X.K):=by intro pins s σ H x y v u Q I rx ry h;obtain⟨a,b,xs,ys,rfl,rfl,ha,hb,hx,hz,q1,q2⟩:=h;cases rx;cases ry;obtain⟨its,r1,p1,_⟩:=I.tuple ha;obtain⟨its2,r2,p2,_⟩:=I.tuple hb;refine HT.RI p1 p2 (λz=>hx (r1.nil_iff.mp z)) (λz=>⟨.ref a,H,I,rfl,q1 (r2.nil_iff.mp z)⟩) (λz=>?_) (by rw[<-r1.length,<- r2.length];exact hz);refine⟨.ref s.heap.objs.size,_,I.laid (t':=s.toks) (o:=.tup (xs++ys)) (λb ob q=>aJ _ q) (aF _) ?_,rfl,q2 (λw=>z (r2.nil_iff.mpr w)) _ (I.hok.fresh (aF _))⟩;exact⟨by rw[aA];exact hz,_,r1.append r2,lQ _ _⟩
end
def ixN(n:Nat)(i:Int):Option Nat:=if 0<=i then (if i<n then some i.toNat else none)else if -(n:Int)<=i then some (i+n).toNat else none
def atI{α:Type}(xs:List α)(i:Int):Option α:=(ixN xs.length i).bind λj=>xs[j]?
theorem RM(h:ixN n i=some j):seqIndex? i n=some j/\j<n/\-(n:Int)<=i/\i<n:=by
 unfold ixN at h;by_cases h0:0<=i
 ·rw[ai h0]at h;by_cases h1:i<n
  ·rw[ai h1]at h;have e:i.toNat=j:=cg h;exact⟨by rw[lA h0 h1,e],by omega,by omega,h1⟩
  ·rw[aj h1]at h;cases h
 ·rw[aj h0]at h;by_cases h1:-(n:Int)<=i
  ·rw[ai h1]at h;have e:(i+n).toNat=j:=cg h;exact⟨by rw[seqIndex_neg (by omega) h1,e],by omega,h1,by omega⟩
  ·rw[aj h1]at h;cases h
theorem HQ{α:Type}{xs:List α}{i:Int}{v:α}(h:atI xs i=some v):∃j,seqIndex? i xs.length=some j/\xs[j]?=some v/\j<xs.length/\-(xs.length:Int)<=i/\i<xs.length:=by
 unfold atI at h;cases e:ixN xs.length i with
 |none=>rw[e]at h;cases h
 |some j=>rw[e]at h;obtain⟨h1,h2,h3,h4⟩:=RM e;exact⟨j,h1,h,h2,h3,h4⟩
theorem Eo{α:Type}{xs:List α}{j:Nat}{v:α}(h:xs[j]?=some v):atI xs (j:Int)=some v:=by
 have hj:j<xs.length:=(bS.mp h).1;have e:ixN xs.length (j:Int)=some j:=by unfold ixN;rw[ai (by omega),ai (by omega)];simp
 unfold atI;rw[e];exact h
def LW(b:Expr):Prop:=∀o i,subscripted b false o i=operate [o,i] (getItem o i)
def IxR(X:Cx)(r:R2):Prop:=
 ∀(value slice:Expr) (pins:cy) (s:ae) (σ:St) (H:Hp) (x y:V) (v u:aa) (Q:VK),Inv X pins σ H s->RelV x v->RelV y u->r x y H Q->
  subscripted slice false v u=operate [v,u] (getItem v u)->wpAny (model X.prog X.w) X.A (subscriptTail value slice v u) (EP X pins σ Q) X.xe s
def MtR(X:Cx)(id:String)(r:V->bC->Hp->VK->Prop):Prop:=
 ∀(pins:cy) (s:ae) (σ:St) (H:Hp) (x:V) (xs:bC) (v:aa) (us:List aa) (Q:VK),Inv X pins σ H s->RelV x v->Vals xs us->r x xs H Q->
  wpAny (model X.prog X.w) X.A (call (.builtin id) (v::us)) (EP X pins σ Q) X.xe s
section
variable{X:Cx}{a b:Expr}{ta tb:TE}{pos:Pos}
theorem IxR.or(h:IxR X r)(h':IxR X r'):IxR X (λx y H Q=>r x y H Q\/r' x y H Q):=by
 intro value slice pins s σ H x y v u Q I rx ry q hs;rcases q with q|q
 ·exact h value slice pins s σ H x y v u Q I rx ry q hs
 ·exact h' value slice pins s σ H x y v u Q I rx ry q hs
theorem Ut(hr:IxR X r)(ha:PE X a ta)(hb:PE X b tb)(hs:LW b):PE X (.Subscript a b pos) (tOp r ta tb):=by intro pins s σ H Q I h;exact lG (Vb ha hb I h λv u s2 x y H2 I2 rx ry q=>hr a b pins s2 σ H2 x y v u Q I2 rx ry q (hs _ _))
def RN(K:ar):R2:=λx y H Q=>∃p xs i v,x=.ref p/\y=.int i/\SqL K H p xs/\atI xs i=some v/\Q v H
def Zc(K:ar):R2:=λx y H Q=>∃p xs i v,x=.ref p/\y=.int i/\SqT K H p xs/\atI xs i=some v/\Q v H
def Zd:R2:=λx y H Q=>∃z i c,x=.str z/\y=.int i/\z.length<=sizeLine/\atI z.cps.toList i=some c/\Q (.str ⟨#[c]⟩) H
theorem LX:IxR X (RN X.K):=by
 intro value slice pins s σ H x y v u Q I rx ry h hs;obtain⟨p,xs,i,z,rfl,rfl,hq,he,q⟩:=h;cases rx;obtain⟨t,rfl⟩:=ry;obtain⟨its,r,pl,hz⟩:=I.list hq;obtain⟨j,h1,h2,h3,h4,h5⟩:=HQ he;obtain⟨w,ew,rw'⟩:=r.get h2;have hl:=r.length;have hn:=EC;have fin:EP X pins σ Q w s:=⟨z,H,I,rw',q⟩;by_cases h0:0<=i
 ·have hj:i.toNat=j:=by rw[lA h0 h5]at h1;exact cg h1
  exact item_listR pl.isList h0 (by omega) (by rw[hj];simpa using ew) fin hs
 ·have hj:(i+(its.toArray.size:Int)).toNat=j:=by rw[seqIndex_neg (by omega) h4]at h1;rw[bg,<- hl];exact cg h1
  exact nO (x:=w) pl.isList.typeIs oN.lookup
   (wpAny_getItem_list_neg (Q:=λr s'=>r=w/\EP X pins σ Q r s') pl.isList (by omega) (by rw[bg]<;>omega) (by omega) (by rw[hj];simpa using ew) ⟨rfl,fin⟩) hs
theorem Vp:IxR X (Zc X.K):=by
 intro value slice pins s σ H x y v u Q I rx ry h hs;obtain⟨p,xs,i,z,rfl,rfl,hq,he,q⟩:=h;cases rx;obtain⟨t,rfl⟩:=ry;obtain⟨its,r,pl,hz⟩:=I.tuple hq;obtain⟨j,h1,h2,h3,h4,h5⟩:=HQ he;obtain⟨w,ew,rw'⟩:=r.get h2;have hl:=r.length;have hn:=EC;have fin:EP X pins σ Q w s:=⟨z,H,I,rw',q⟩;exact nO (x:=w) pl.typeIs iF.lookup
  (getItem_tuple (j:=j) (Q:=λr s'=>r=w/\EP X pins σ Q r s') pl (by omega) (by omega) (by rw[bg,<- hl];exact h1) (by simpa using ew) ⟨rfl,fin⟩) hs
theorem Vq:IxR X Zd:=by
 intro value slice pins s σ H x y v u Q I rx ry h hs;obtain⟨z,i,c,rfl,rfl,hz,he,q⟩:=h;obtain⟨t,rfl⟩:=rx;obtain⟨t',rfl⟩:=ry;obtain⟨j,h1,h2,h3,h4,h5⟩:=HQ he;have hl:z.cps.toList.length=z.length:=by simp[Str.length]
 rw[hl]at h1 h4 h5;have hn:=EC;exact tail_any (typeIs_str s z t) slot_str_getitem.lookup (getItem_str (c:=c) (by
  have e1:decide (i < -(2 ^ 63:Int))=false:=aL (by omega);have e2:decide (i >= 2 ^ 63)=false:=aL (by omega);rw[e1,e2,pH]) (by rw[h1];simpa using h2) ⟨.str ⟨#[c]⟩,H,I.tok _,⟨_,rfl⟩,q⟩) hs
def rIx(K:ar):R2:=λx y H Q=>RN K x y H Q\/Zc K x y H Q\/Zd x y H Q
theorem Vr:IxR X (rIx X.K):=LX.or (Vp.or Vq)
theorem HR(lo hi:Option Int)(n:Nat):(sliceBounds lo hi none n).1=((HT.sIx n 0 lo:Nat):Int)/\(sliceBounds lo hi none n).2.1=((HT.sIx n n hi:Nat):Int)/\(sliceBounds lo hi none n).2.2=1:=by
 refine⟨?_,?_,rfl⟩
 ·cases lo with
  |none=>simp[sliceBounds,HT.sIx]
  |some i=>
   simp only[sliceBounds,HT.sIx,oZ,show (1:Int) > 0 by decide,if_true];by_cases h:i<0
   ·simp only[h,if_true]<;>omega
   ·simp only[h,if_false]<;>omega
 ·cases hi with
  |none=>simp[sliceBounds,HT.sIx]
  |some i=>
   simp only[sliceBounds,HT.sIx,oZ,show (1:Int) > 0 by decide,if_true];by_cases h:i<0
   ·simp only[h,if_true]<;>omega
   ·simp only[h,if_false]<;>omega
theorem Gb(its:List aa)(lo hi:Option Int):slicePick its.toArray lo hi none=((its.drop (HT.sIx its.length 0 lo)).take (HT.sIx its.length its.length hi - HT.sIx its.length 0 lo)).toArray:=by obtain⟨h1,h2,h3⟩:=HR lo hi its.toArray.size;unfold slicePick;rw[h1,h2,h3];simp only[sliceRange_one,pick_run,bg]<;>rfl
def Nf(K:ar):V->Option Int->Option Int->Hp->VK->Prop:=λx lo hi H Q=>∃a xs,x=.ref a/\SqL K H a xs/\∀p,H p=none->Q (.ref p) (upd H p (.lst (Jg xs lo hi)))
theorem RO:SlR X (Nf X.K):=by intro pins s σ H x v vl vu lo hi sl Q I rx hs pl pu h;obtain⟨a,xs,rfl,hx,q⟩:=h;cases rx;obtain⟨its,r,ht,hz⟩:=I.list hx;have hlen:=r.length;refine⟨"list", _,oN.lookup,ht.isList.typeIs,?_⟩;refine wpAny_getItem_list_slice ht.isList hs pl pu .none (by simp) ?_ (by rw[bg]<;>omega);rw[Gb,<- hlen];refine⟨.ref s.heap.objs.size,_,I.laid (t':=s.toks) (o:=.lst (Jg xs lo hi)) (λb ob q=>aJ _ q) (aF _) ?_,rfl,q _ (I.hok.fresh (aF _))⟩;exact⟨bK (Du xs lo hi) hz,_,0,(r.drop (HT.sIx xs.length 0 lo)).take (HT.sIx xs.length xs.length hi - HT.sIx xs.length 0 lo),bz _ rfl⟩
def A6:V->Bool
 |.non=>true
 |.bl _=>true
 |.int _=>true
 |.str _=>true
 |_=>false
def eqV:V->V->Bool
 |.non,.non=>true
 |.bl a,.bl b=>a==b
 |.bl a,.int b=>(if a then 1 else 0)==b
 |.int a,.bl b=>a==(if b then 1 else 0)
 |.int a,.int b=>a==b
 |.str a,.str b=>a==b
 |_,_=>false
theorem EJ(ry:RelV y u)(rx:RelV x v)(fy:A6 y=true)(fx:A6 x=true):jl A s u v (eqV y x):=by
 cases y with
 |non=>
  cases ry;cases x with
  |non=>cases rx;exact gR _
  |bl b=>cases rx;exact SeqAt.EqAt.none_bool b
  |int b=>obtain⟨t,rfl⟩:=rx;exact SeqAt.EqAt.none_int b t
  |str b=>obtain⟨t,rfl⟩:=rx;exact SeqAt.EqAt.none_str b t
  |_=>exact aq (show false=true from fx) br
 |bl a=>
  cases ry;cases x with
  |non=>cases rx;exact SeqAt.EqAt.bool_none a
  |bl b=>cases rx;exact SeqAt.EqAt.bool_bool a b
  |int b=>obtain⟨t,rfl⟩:=rx;exact SeqAt.EqAt.bool_int a b t
  |str b=>obtain⟨t,rfl⟩:=rx;exact SeqAt.EqAt.bool_str a b t
  |_=>exact aq (show false=true from fx) br
 |int a=>
  obtain⟨t',rfl⟩:=ry;cases x with
  |non=>cases rx;exact SeqAt.EqAt.int_none a t'
  |bl b=>cases rx;exact SeqAt.EqAt.int_bool a t' b
  |int b=>obtain⟨t,rfl⟩:=rx;exact SeqAt.EqAt.int_int a t' b t
  |str b=>obtain⟨t,rfl⟩:=rx;exact om a t' b t
  |_=>exact aq (show false=true from fx) br
 |str a=>
  obtain⟨t',rfl⟩:=ry;cases x with
  |non=>cases rx;exact SeqAt.EqAt.str_none a t'
  |bl b=>cases rx;exact SeqAt.EqAt.str_bool a t' b
  |int b=>obtain⟨t,rfl⟩:=rx;exact oo a t' b t
  |str b=>obtain⟨t,rfl⟩:=rx;exact ox a t' b t
  |_=>exact aq (show false=true from fx) br
 |_=>exact aq (show false=true from fy) br
def eqU(x:V)(u:aa):Bool:=match u with
 |.none=>eqV .non x
 |.bool b=>eqV (.bl b) x
 |.int i _=>eqV (.int i) x
 |.str z _=>eqV (.str z) x
 |_=>false
theorem OI(r:RelV y u)(f:A6 y=true):eqU x u=eqV y x:=by
 cases y with
 |non=>cases r;rfl
 |bl b=>cases r;rfl
 |int i=>obtain⟨t,rfl⟩:=r;rfl
 |str z=>obtain⟨t,rfl⟩:=r;rfl
 |_=>exact aq (show false=true from f) br
theorem BN:∀{xs:bC} {us:List aa},Vals xs us->xs.all A6=true->us.any (eqU x)=xs.any λy=>eqV y x
 |_,_,.nil,_=>rfl
 |y::xs,u::us,.cons r t,f=>by rw[dq,bh]at f;rw[dQ,dQ,OI r f.1,BN t f.2]
theorem zY(rx:RelV x v)(fx:A6 x=true):∀{xs:bC} {us:List aa},Vals xs us->xs.all A6=true->∀u∈us,jl A s u v (eqU x u)
 |_,_,.nil,_=>λu hu=>by cases hu
 |y::xs,u::us,.cons r t,f=>λu' hu=>by
  rw[dq,bh]at f;rcases aK.mp hu with rfl|hu
  ·rw[OI r f.1];exact EJ r rx f.1 fx
  ·exact zY rx fx t f.2 u' hu
def inV(x:V)(xs:bC):Bool:=xs.any λy=>eqV y x
def rIn(K:ar)(neg:Bool):R2:=λx y H Q=>∃p xs,y=.ref p/\(SqL K H p xs\/SqT K H p xs)/\A6 x=true/\xs.all A6=true/\Q (.bl (if neg then !inV x xs else inV x xs)) H
theorem Ng:OpR X (compareOp .In) (rIn X.K false):=by
 intro pins s σ H x y v u Q I rx ry h;obtain⟨p,xs,rfl,hq,fx,fs,q⟩:=h;cases ry;rcases hq with hq|hq
 ·obtain⟨its,r,pl,hz⟩:=I.list hq;refine SeqAt.in_listAt (eqU x) pl.isList (λw hw=>zY rx fx r fs w (by simpa using hw)) ⟨.bl _,H,I,rfl,?_⟩;rw[show its.toArray.any (eqU x)=its.any (eqU x) by simp,BN r fs];exact q
 ·obtain⟨its,r,pl,hz⟩:=I.tuple hq;refine SeqAt.in_tupleAt (eqU x) pl (λw hw=>zY rx fx r fs w (by simpa using hw)) ⟨.bl _,H,I,rfl,?_⟩;rw[show its.toArray.any (eqU x)=its.any (eqU x) by simp,BN r fs];exact q
theorem HS:OpR X (compareOp .NotIn) (rIn X.K true):=by
 intro pins s σ H x y v u Q I rx ry h;obtain⟨p,xs,rfl,hq,fx,fs,q⟩:=h;cases ry;rcases hq with hq|hq
 ·obtain⟨its,r,pl,hz⟩:=I.list hq;refine SeqAt.notIn_listAt (eqU x) pl.isList (λw hw=>zY rx fx r fs w (by simpa using hw)) ⟨.bl _,H,I,rfl,?_⟩;rw[show its.toArray.any (eqU x)=its.any (eqU x) by simp,BN r fs];exact q
 ·obtain⟨its,r,pl,hz⟩:=I.tuple hq;refine SeqAt.notIn_tupleAt (eqU x) pl (λw hw=>zY rx fx r fs w (by simpa using hw)) ⟨.bl _,H,I,rfl,?_⟩;rw[show its.toArray.any (eqU x)=its.any (eqU x) by simp,BN r fs];exact q
theorem HU:uf X (.builtin "len") (λxs H Q=>∃p ys,xs=[.ref p]/\(SqL X.K H p ys\/SqT X.K H p ys)/\Q (.int ys.length) H):=by
 intro pins s σ H xs us Q I r h;obtain⟨p,ys,rfl,hq,q⟩:=h;obtain⟨u,rfl,rx⟩:=vals1 r;cases rx;have hn:=EC;rcases hq with hq|hq
 ·obtain⟨its,r',pl,hz⟩:=I.list hq;have hlen:=r'.length;exact Calls.call_len_list pl.isList (by simp only[bg]<;>omega) ⟨.int ys.length,H,I.tok _,⟨s.toks+1,by rw[bg,hlen]⟩,q⟩
 ·obtain⟨its,r',pl,hz⟩:=I.tuple hq;have hlen:=r'.length;exact len_tuple pl (by simp only[bg]<;>omega) ⟨.int ys.length,H,I.tok _,⟨s.toks+1,by rw[bg,hlen]⟩,q⟩
theorem HV:uf X (.builtin "len") (λxs H Q=>∃z,xs=[.str z]/\z.length<=sizeLine/\Q (.int z.length) H):=by intro pins s σ H xs us Q I r h;obtain⟨z,rfl,hz,q⟩:=h;obtain⟨u,rfl,t,rfl⟩:=vals1 r;have hn:=EC;exact len_str (by omega) ⟨.int z.length,H,I.tok _,⟨_,rfl⟩,q⟩
theorem HW:uf X (.type "list") (λxs H Q=>∃p ys,xs=[.ref p]/\(SqL X.K H p ys\/SqT X.K H p ys)/\∀l,H l=none->Q (.ref l) (upd H l (.lst ys))):=by
 intro pins s σ H xs us Q I r h;obtain⟨p,ys,rfl,hq,q⟩:=h;obtain⟨u,rfl,rx⟩:=vals1 r;cases rx;have fin:∀(its:List aa),Vals ys its->ys.length<=sizeLine->∀(h':Heap) (c':Nat),(∀b o',s.heap.get? b=some o'->h'.get? b=some o')->
   h'.get? s.heap.objs.size=some { cls:=.type "list", dict:=none,data:=.seq its.toArray c',slots:=#[] }->EP X pins σ Q (.ref s.heap.objs.size) { s with heap:=h' }:=λits r' hz h' c' kp e=>
  ⟨.ref s.heap.objs.size,_,I.laid (t':=s.toks) kp (aF _) (show tL X.prog X.w _ h' _ (.lst ys) from⟨hz,its,c',r',e⟩),rfl,q _ (I.hok.fresh (aF _))⟩
 rcases hq with hq|hq
 ·obtain⟨its,r',pl,hz⟩:=I.list hq;have hlen:=r'.length;obtain⟨o,ho,hc,n,hd⟩:=pl.isList;exact call_list_seq p (.inl rfl) ho hc hd (λh' c' kp e=>fin its r' hz h' c' kp e) (by simp only[bg]<;>omega)
 ·obtain⟨its,r',pl,hz⟩:=I.tuple hq;have hlen:=r'.length;obtain⟨o,ho,hc,n,hd⟩:=pl;exact call_list_seq p (.inr rfl) ho hc hd (λh' c' kp e=>fin its r' hz h' c' kp e) (by simp only[bg]<;>omega)
theorem Gc:uf X (.type "tuple") (λxs H Q=>∃p ys,xs=[.ref p]/\((SqL X.K H p ys/\∀l,H l=none->Q (.ref l) (upd H l (.tup ys)))\/(SqT X.K H p ys/\Q (.ref p) H))):=by
 intro pins s σ H xs us Q I r h;obtain⟨p,ys,rfl,h⟩:=h;obtain⟨u,rfl,rx⟩:=vals1 r;cases rx;rcases h with ⟨hq,q⟩|⟨hq,q⟩
 ·obtain⟨its,r',pl,hz⟩:=I.list hq;have hlen:=r'.length;refine call_tuple_list pl.isList (λh' kp=>?_) (by simp only[bg]<;>omega);have I1:Inv X pins σ H { s with heap:=h' }:=I.kept (t':=s.toks) kp;have I2:Inv X pins σ (upd H h'.objs.size (.tup ys)) { s with heap:=h'.push { cls:=.type "tuple", data:=.seq its.toArray } }:=
   I1.laid (t':=s.toks) (λb o e=>aJ _ e) (aF _) (show tL X.prog X.w _ _ _ (.tup ys) from⟨hz,its,r',lQ _ _⟩)
  exact⟨.ref h'.objs.size,_,I2,rfl,q _ (I1.hok.fresh (aF _))⟩
 ·obtain⟨its,r',pl,hz⟩:=I.tuple hq;exact call_tuple_same pl ⟨.ref p,H,I,rfl,q⟩
def tyV(K:ar)(T:String)(x:V)(H:Hp):Prop:=match x with
 |.str _=>T="str"
 |.int _=>T="int"
 |.ref p=>(T="list" /\ ∃xs,SqL K H p xs)\/(T="tuple" /\ ∃o,K.lookup p=some o/\o.cls=.type "tuple" /\ o.dict=none)\/
   (T="dict" /\ ((∃kvs,H p=some (.dK kvs))\/∃kvs,H p=some (.dT kvs)))\/(T="set" /\ ∃S n,H p=some (.set S n))
 |_=>False
theorem Vs(I:Inv X pins σ H s)(r:RelV x v)(ty:tyV X.K T x H):
  s.TypeIs v T/\∀a,v=.ref a->∃ob,s.heap.get? a=some ob/\ob.dict=none:=by
 cases x with
 |str z=>obtain⟨t,rfl⟩:=r;cases (show T="str" from ty);exact⟨typeIs_str s z t,λ_ e=>nomatch e⟩
 |int i=>obtain⟨t,rfl⟩:=r;cases (show T="int" from ty);exact⟨typeIs_int s i t,λ_ e=>nomatch e⟩
 |ref p=>
  cases r;rcases ty with ⟨rfl,xs,hq⟩|⟨rfl,o,hk,hc,hd⟩|⟨rfl,hk⟩|⟨rfl,S,n,hk⟩
  ·obtain⟨its,_,pl,_⟩:=I.list hq;refine⟨pl.isList.typeIs,λa e=>?_⟩;cases e;obtain⟨o,n,e,c,hd,_⟩:=pl;exact⟨o,e,hd⟩
  ·refine⟨⟨o,I.kIn p o hk,hc⟩,λa e=>?_⟩;cases e;exact⟨o,I.kIn _ o hk,hd⟩
  ·have z:∃o,s.heap.get? p=some o/\o.ExactDict:=by
    rcases hk with ⟨kvs,hk⟩|⟨kvs,hk⟩
    ·obtain⟨_,_,_,_,o,_,_,e,ex,_⟩:=I.hok p _ hk;exact⟨o,e,ex⟩
    ·obtain⟨_,_,_,_,o,_,_,e,ex,_⟩:=I.hok p _ hk;exact⟨o,e,ex⟩
   obtain⟨o,e,ex⟩:=z;refine⟨⟨o,e,ex.1⟩,λa e2=>?_⟩;cases e2;exact⟨o,e,ex.2.1⟩
  ·obtain⟨o,_,_,_,e,ex,_⟩:=I.hok p _ hk;refine⟨⟨o,e,ex.1⟩,λa e2=>?_⟩;cases e2;exact⟨o,e,ex.2.1⟩
 |_=>exact cE ty
def tBM(K:ar)(T:String)(r:V->bC->Hp->VK->Prop)(to:TE)(t:TA):TE:=λσ H Q=>to σ H λx H1=>tyV K T x H1/\t σ H1 λxs H2=>r x xs H2 Q
variable{o e:Expr}{es:List Expr}{to:TE}{t:TA}{name:Str}{apos cpos:Pos}{T id:String}{r:V->bC->Hp->VK->Prop}
theorem Ze(pa:lH T)(slot:Slot T name id)(hty:typeOf (.builtin id)=pure (.type "method_descriptor"))(hm:MtR X id r)(ho:PE X o to)(ha:PA X (e::es) t)
  (hbase:attributeBase o name X.env (eval o X.env)=eval o X.env:=by rfl)
  (hfew:((backTo cpos (starEach (e::es) X.env)).all (λx=>!x.1)&&(backToKw cpos (keywordEach [] X.env)).all (λx=>x.1.isSome)
   && decide ((e::es).length+([]:List dU).length+(if ([]:List dU).isEmpty then 0 else 1)<30))=true:=by rfl)
  (hline:(apos.endLine==cpos.line)=true:=by rfl) (hs:starEach (e::es) X.env=(false,eval e X.env)::starEach es X.env:=by rfl) (hplain:(backTo cpos (starEach es X.env)).any (·.1)=false:=by rfl):
  PE X (.Call (.Attribute o name apos) (e::es) [] cpos) (tBM X.K T r to t):=by
 intro pins s σ H Q I h;refine wpAny_Call_method_late hbase hfew hline rfl (thn (ho pins s σ H _ I h) λv s1 ⟨x,H1,I1,r1,ty,q1⟩=>?_);obtain⟨h1,h2⟩:=Vs I1 r1 ty;refine⟨T,id,pa,slot,hty,h1,h2,?_⟩;have hA:=ha cpos pins s1 σ H1 _ I1 q1;rw[hs]at hA ⊢;refine gu (by show (false||(backTo cpos (starEach es X.env)).any (·.1))=false;rw[hplain]<;>rfl) (iM ?_)
 exact thn hA λus s2 ⟨vs,H2,I2,r2,q2⟩=>hm pins s2 σ H2 x vs v us Q I2 r1 r2 q2
end
def MtM(X:Cx)(id:String)(r:V->bC->Hp->VK->Prop):Prop:=
 ∀(pins:cy) (s:ae) (σ:St) (H:Hp) (x:V) (xs:bC) (v:aa) (us:List aa) (Q:VK),Inv X pins σ H s->RelV x v->Vals xs us->r x xs H Q->
  wpAny (model X.prog X.w) X.A (call (.builtin id) (v::us)) (EP X pins σ Q) X.xe s
theorem Vals.one:∀{x:V} {us:List aa},Vals [x] us->∃u,us=[u]/\RelV x u
 |_,_,.cons r .nil=>⟨_,rfl,r⟩
theorem Vals.eraseIdx:∀{xs:bC} {us:List aa} (i:Nat),Vals xs us->Vals (xs.eraseIdx i) (us.eraseIdx i)
 |_,_,_,.nil=>.nil
 |_,_,0,.cons _ t=>t
 |_,_,i+1,.cons r t=>.cons r (Vals.eraseIdx i t)
theorem GA{α:Type}:∀(l:List α) (i:Nat),(l.eraseIdx i).length<=l.length
 |[],_=>aF _
 |_::_,0=>eP _
 |_::r,i+1=>Nat.succ_le_succ (GA r i)
section
variable{X:Cx}{pins:cy}{σ:St}{H:Hp}{s:ae}{l b:Addr}{xs ys zs:bC}
theorem Inv.lset{its its':List aa}(I:Inv X pins σ H s)(hH:H l=some (.lst xs))
  (e:s.heap.get? l=some { cls:=.type "list", data:=.seq its.toArray n }) (hf:f its.toArray=its'.toArray) (hv:Vals ys its') (hz:ys.length<=sizeLine):
  Inv X pins σ (upd H l (.lst ys)) { s with heap:=s.heap.update l (cQ f),toks:=t' }:=by
 have q:=PySem.IsL.update e f;rw[hf]at q;refine I.write (x:=l) (e:=l) (by rw[hH];exact trivial) (.inl rfl) (λb' u hb hu=>(gv s.heap (cQ f) (cR hb)).trans hu) ⟨_,q⟩ ?_;exact⟨hz,its',_,hv,q⟩
theorem Inv.lnew(I:Inv X pins σ H s)(hv:Vals ys its)(hz:ys.length<=sizeLine):
  Inv X pins σ (upd H s.heap.objs.size (.lst ys)) { s with heap:=s.heap.push { cls:=.type "list", data:=.seq its.toArray },toks:=t' }:=
 I.laid (λ_ _ q=>aJ _ q) (aF _) ⟨hz,its,0,hv,bz _ rfl⟩
theorem Inv.fresh(I:Inv X pins σ H s):H s.heap.objs.size=none:=I.hok.fresh (aF _)
theorem Inv.lstM(I:Inv X pins σ H s)(hH:H l=some (.lst xs)):xs.length<=sizeLine/\∃(its:List aa) (n:Nat),Vals xs its/\xs.length=its.length/\s.heap.get? l=some { cls:=.type "list", data:=.seq its.toArray n }:=by obtain⟨z,its,n,r,e⟩:=I.hok l _ hH;exact⟨z,its,n,r,r.length,e⟩
theorem Jh(h:n<=sizeLine):gn n=false:=by unfold gn;exact aL (by omega)
end
section
variable{X:Cx}
def HX:V->bC->Hp->VK->Prop:=λx vs H Q=>∃l xs y,x=.ref l/\vs=[y]/\H l=some (.lst xs)/\xs.length<sizeLine/\Q .non (upd H l (.lst (xs++[y])))
theorem CH:MtM X "list.append" HX:=by intro pins s σ H x vs v us Q I rx rv h;obtain⟨l,xs,y,rfl,rfl,hH,hz,q⟩:=h;cases rx;obtain⟨u,rfl,ru⟩:=rv.one;obtain⟨z,its,n,r,hl,e⟩:=I.lstM hH;refine gX kx ⟨_,e,rfl⟩ F.entry_list_append (F.args_list_append_2 _ _) (PySem.list_append l its.toArray n u (by rw[bg];omega)) ⟨e,?_⟩;refine⟨.non,_,I.lset (its':=its++[u]) hH e (by simp) (r.append (.cons ru .nil)) ?_,rfl,q⟩;rw[aA,ba];omega
def RP:V->bC->Hp->VK->Prop:=λx vs H Q=>∃l b xs zs,x=.ref l/\vs=[.ref b]/\H l=some (.lst xs)/\H b=some (.lst zs)/\xs.length+zs.length<=sizeLine/\Q .non (upd H l (.lst (xs++zs)))
theorem YM:MtM X "list.extend" RP:=by
 intro pins s σ H x vs v us Q I rx rv h;obtain⟨l,b,xs,zs,rfl,rfl,hH,hB,hz,q⟩:=h;cases rx;obtain⟨u,rfl,ru⟩:=rv.one;cases ru;obtain⟨z,its,n,r,hl,e⟩:=I.lstM hH;obtain⟨z2,its2,n2,r2,hl2,e2⟩:=I.lstM hB;have hsz:its.toArray.size+its2.toArray.size<=sizeLine:=by rw[bg,bg];omega
 have hlong:¬(!its.toArray.isEmpty&&gn (its.toArray.size+its2.toArray.size))=true:=by rw[Jh hsz,pC];exact br
 refine gX ky ⟨_,e,rfl⟩ oe (nZ _ _)
  (AutoSeq1.list_extend_list_list_0 l its.toArray n b its2.toArray n2 hlong (by rw[bg];omega) (by omega)) ⟨e,e2,?_⟩
 refine⟨.non,_,I.lset (its':=its++its2) hH e (by simp) (r.append r2) ?_,rfl,q⟩;rw[aA];omega
def KN:V->bC->Hp->VK->Prop:=λx vs H Q=>∃l xs i k y,x=.ref l/\vs=[.int i]/\H l=some (.lst xs)/\-(2 ^ 63)<=i/\i<2 ^ 63/\seqIndex? i xs.length=some k/\xs[k]?=some y/\Q y (upd H l (.lst (xs.eraseIdx k)))
theorem Ji:MtM X "list.pop" KN:=by
 intro pins s σ H x vs v us Q I rx rv h;obtain⟨l,xs,i,k,y,rfl,rfl,hH,h1,h2,hk,hy,q⟩:=h;cases rx;obtain⟨u,rfl,ru⟩:=rv.one;obtain⟨t,rfl⟩:=ru;obtain⟨z,its,n,r,hl,e⟩:=I.lstM hH;obtain⟨w,hw,rw'⟩:=r.get hy;refine gX kE ⟨_,e,rfl⟩ F.entry_list_pop (F.args_list_pop_2 _ _)
  (MeetsSeq.list_pop_at l its.toArray n i t k w (fitsIndex_both h1 h2) (by rw[bg,<- hl];exact hk) (by rw[<-j8];exact hw) (by rw[bg];omega)) ⟨e,?_⟩
 refine⟨y,_,I.lset (its':=its.eraseIdx k) hH e ?_ (r.eraseIdx k) ?_,rw',q⟩
 ·show its.toArray.eraseIdxIfInBounds k=(its.eraseIdx k).toArray;rw[List.eraseIdxIfInBounds_toArray]
 ·have:=GA xs k;omega
def rCat:R2:=λx y H Q=>∃l b xs zs,x=.ref l/\y=.ref b/\H l=some (.lst xs)/\H b=some (.lst zs)/\xs.length+zs.length<=sizeLine/\∀p,H p=none->Q (.ref p) (upd H p (.lst (xs++zs)))
theorem Vt:OpR X (binaryOp .Add) rCat:=by
 intro pins s σ H x y v u Q I rx ry h;obtain⟨l,b,xs,zs,rfl,rfl,hH,hB,hz,q⟩:=h;cases rx;cases ry;obtain⟨z,its,n,r,hl,e⟩:=I.lstM hH;obtain⟨z2,its2,n2,r2,hl2,e2⟩:=I.lstM hB;refine PySem.P.add_list e e2 ?_ (by rw[bg,bg];omega);have ea:its.toArray++its2.toArray=(its++its2).toArray:=by simp
 rw[ea];exact⟨.ref _,_,I.lnew (t':=s.toks) (r.append r2) (by rw[aA];omega),rfl,q _ I.fresh⟩
end
section
variable{prog:aU}{w:aI}{A:aQ}{E:aa->ae->Prop}{s:ae}
set_option maxRecDepth 100000 in
end
section
variable{κ:Type}[DecidableEq κ]
def vR(kvs:List (κ×V))(k:κ):Option V:=(kvs.find? λkv=>decide (kv.1=k)).map (·.2)
def putK(kvs:List (κ×V))(k:κ)(v:V):List (κ×V):=
 if (kvs.any λkv=>decide (kv.1=k))=true then kvs.map (λkv=>if kv.1=k then (kv.1,v)else kv)else kvs++[(k,v)]
theorem BO{p:κ×V}(e:p.1=k):vR (p::r) k=some p.2:=by simp[vR,dM,e]
theorem BP{p:κ×V}(e:¬p.1=k):vR (p::r) k=vR r k:=by simp[vR,dM,e]
theorem EK(k:κ):∀kvs:List (κ×V),(kvs.any λkv=>decide (kv.1=k))=(vR kvs k).isSome
 |[]=>rfl
 |p::r=>by
  rw[dQ];by_cases e:p.1=k
  ·simp only[BO e,aX e,Bool.true_or,Option.isSome_some]
  ·rw[BP e,aL e,pI];exact EK k r
theorem ya(kvs:List (κ×V))(k:κ)(v:V):(putK kvs k v).length<=kvs.length+1:=by
 unfold putK;split
 ·rw[ag];omega
 ·rw[aA,aE,cO];omega
theorem OJ{kvs:List (κ×V)}{k:κ}(v:V)(h:vR kvs k=none):putK kvs k v=kvs++[(k,v)]:=by unfold putK;rw[EK,h];exact aj (by decide)
theorem zV.isSome_eq(r:zV o u):o.isSome=u.isSome:=by
 cases o with
 |none=>cases u with
  |none=>rfl
  |some _=>exact(show False from r).elim
 |some _=>cases u with
  |none=>exact(show False from r).elim
  |some _=>rfl
theorem zV.getD(r:zV o u)(rd:RelV d d'):RelV (o.getD d) (u.getD d'):=by
 cases o with
 |none=>cases u with
  |none=>exact rd
  |some _=>exact(show False from r).elim
 |some _=>cases u with
  |none=>exact(show False from r).elim
  |some _=>exact r
theorem KV.val(r:KV kvs vs)(k:κ):zV (vR kvs k) (valueAt vs k):=by
 unfold KV at r
 induction r with
 |nil=>exact True.intro
 |@cons p q ps qs h t ih=>
  obtain⟨h1,h2⟩:=h;by_cases e:p.1=k
  ·have e':q.1=k:=h1.symm.trans e;have b:valueAt (q::qs) k=some q.2:=by simp[valueAt,dM,e']
   rw[BO e,b];exact h2
  ·have e':¬q.1=k:=λz=>e (h1.trans z);have b:valueAt (q::qs) k=valueAt qs k:=by simp[valueAt,dM,e']
   rw[BP e,b];exact ih
theorem KV.any(r:KV kvs vs)(k:κ):(kvs.any λkv=>decide (kv.1=k))=vs.any λkv=>decide (kv.1=k):=by
 unfold KV at r
 induction r with
 |nil=>rfl
 |cons h t ih=>rw[dQ,dQ,ih,h.1]
theorem KV.repl(r:KV kvs vs)(k:κ)(ry:RelV y u):
  KV (kvs.map λkv=>if kv.1=k then (kv.1,y)else kv) (vs.map λkv=>if kv.1=k then (kv.1,u)else kv):=by
 unfold KV at r ⊢
 induction r with
 |nil=>exact .nil
 |@cons p q ps qs h t ih=>
  rw[au,au];refine .cons ?_ ih;obtain⟨h1,h2⟩:=h;by_cases e:p.1=k
  ·rw[ai e,ai (h1.symm.trans e)];exact⟨h1,ry⟩
  ·rw[aj e,aj (λz=>e (h1.trans z))];exact⟨h1,h2⟩
theorem KV.put{kvs:List (κ×V)}{vs:List (κ×aa)}(r:KV kvs vs)(k:κ){y:V}{u:aa}(ry:RelV y u):KV (putK kvs k y) (stored vs k u):=by
 unfold putK stored;rw[r.any k];by_cases e:(vs.any λkv=>decide (kv.1=k))=true
 ·rw[ai e,ai e];exact r.repl k ry
 ·rw[aj e,aj e];exact pO r ⟨rfl,ry⟩
theorem KV.length(r:KV kvs vs):kvs.length=vs.length:=kM r
end
theorem A7(r:RelV (kV k) u):(sI P w).is k u=true:=by
 cases k with
 |inl i=>obtain⟨t,e⟩:=(show ∃t,u=Value.int i t from r);subst e;exact I0 P w i t
 |inr x=>obtain⟨t,e⟩:=(show ∃t,u=Value.str x t from r);subst e;exact Ja P w x t
theorem GB:∀{ks:List Key} {us:List aa},Vals (ks.map kV) us->ItemsAre (sI P w) ks us
 |[],_,r=>by rw[bG]at r;cases r;exact .nil
 |k::ks,_,r=>by
  rw[au]at r;cases r with
  |cons h t=>exact .cons (A7 h) (GB t)
abbrev KT(H:Hp):List (List Key×V)->List (List Key×Addr×aa)->Prop:=eR λp q=>p.1=q.1/\H q.2.1=some (.tup (p.1.map kV))/\RelV p.2 q.2.2
theorem KT.val(r:KT H kvs xs)(k:List Key):zV (vR kvs k) ((atKey xs k).map (·.2)):=by
 induction r with
 |nil=>exact True.intro
 |@cons p q ps qs h t ih=>
  obtain⟨h1,_,h2⟩:=h;by_cases e:p.1=k
  ·have e':q.1=k:=h1.symm.trans e;have b:atKey (q::qs) k=some q.2:=by simp[atKey,dM,e']
   rw[BO e,b];exact h2
  ·have e':¬q.1=k:=λz=>e (h1.trans z);have b:atKey (q::qs) k=atKey qs k:=by simp[atKey,dM,e']
   rw[BP e,b];exact ih
theorem KT.repl(r:KT H kvs xs)(k:List Key)(ry:RelV y u):
  KT H (kvs.map λkv=>if kv.1=k then (kv.1,y)else kv) (xs.map (putAt k u)):=by
 induction r with
 |nil=>exact .nil
 |@cons p q ps qs h t ih=>
  rw[au,au];refine .cons ?_ ih;obtain⟨h1,h2,h3⟩:=h;unfold putAt;by_cases e:p.1=k
  ·rw[ai e,ai (h1.symm.trans e)];exact⟨h1,h2,ry⟩
  ·rw[aj e,aj (λz=>e (h1.trans z))];exact⟨h1,h2,h3⟩
theorem KT.put{H:Hp}{kvs:List (List Key×V)}{xs:List (List Key×Addr×aa)}(r:KT H kvs xs)(k:List Key){b:Addr}{y:V}{u:aa}(hb:H b=some (.tup (k.map kV)))(ry:RelV y u):
  KT H (putK kvs k y) (storedH xs k b u):=by
 have e:(kvs.any λkv=>decide (kv.1=k))=(atKey xs k).isSome:=by rw[EK,(r.val k).isSome_eq,oO]
 unfold putK storedH;rw[e];by_cases q:(atKey xs k).isSome=true
 ·rw[ai q,ai q];exact r.repl k ry
 ·rw[aj q,aj q];exact pO r ⟨rfl,hb,ry⟩
theorem KT.keeps(r:KT H kvs xs)(ht:∀b ys,H b=some (.tup ys)->H' b=some (.tup ys)):KT H' kvs xs:=
 Paired.mapP r λ_ _ z=>⟨z.1,ht _ _ z.2.1,z.2.2⟩
section
variable{P:aU}{w:aI}{H:Hp}{h:Heap}{a:Addr}
theorem Uu(ok:HOk P w H h)(e:Rd H a u):tL P w H h a u:=e.ok ok
theorem A8(ok:HOk P w H h)(e:Rd H a (.dK kvs)):kvs.length<=sizeLine/\(a==sysModules)=false/\∃vs,KV kvs vs/\h.DictOf (sI P w) a vs:=
 show tL P w H h a (.dK kvs) from Uu ok e
theorem OK(ok:HOk P w H h)(e:H a=some (.dK kvs)):kvs.length<=sizeLine/\(a==sysModules)=false/\∃vs,KV kvs vs/\h.DictOf (sI P w) a vs:=A8 ok (.inl e)
theorem CI{ks:List Key}(ok:HOk P w H h)(e:H a=some (.tup (ks.map kV))):(tupleKind (sI P w)).is h ks a:=by obtain⟨_,its,r,o,h1,h2,n,h3⟩:=(show tL P w H h a (.tup (ks.map kV)) from ok a _ e);exact⟨o,its.toArray,n,h1,h2,h3,by simpa using GB r⟩
theorem EL(ok:HOk P w H h)(e:Rd H a (.dT kvs)):kvs.length<=sizeLine/\(a==sysModules)=false/\
  ∃xs,KT H kvs xs/\h.DictOfH (tupleKind (sI P w)) a xs:=by
 obtain⟨z,y,xs,r,o,es,ep,h1,h2,h3,h4,h5⟩:=(show tL P w H h a (.dT kvs) from Uu ok e);refine⟨z,y,xs,r,o,es,ep,h1,h2,h3,h4,λx hx=>?_,h5⟩;have all:∀{l:List (List Key×V)} {m:List (List Key×Addr×aa)},KT H l m->∀x∈m,(tupleKind (sI P w)).is h x.1 x.2.1:=by
  intro l m q
  induction q with
  |nil=>intro x hx;exact nomatch hx
  |@cons p q ps qs hq t ih=>
   intro x hx;rcases aK.mp hx with e|hx
   ·subst e;exact CI ok (by rw[<-hq.1];exact hq.2.1)
   ·exact ih x hx
 exact all r x hx
theorem Zf(ok:HOk P w H h)(e:H a=some (.dT kvs)):kvs.length<=sizeLine/\(a==sysModules)=false/\
  ∃xs,KT H kvs xs/\h.DictOfH (tupleKind (sI P w)) a xs:=EL ok (.inl e)
end
def DGet(H:Hp)(a:Addr)(y:V)(r:Option V):Prop:=
 (∃kvs k,Rd H a (.dK kvs)/\y=kV k/\r=vR kvs k)\/∃kvs k b,Rd H a (.dT kvs)/\y=.ref b/\H b=some (.tup (k.map kV))/\r=vR kvs k
def OL(H:Hp)(a:Addr)(y v:V)(H':Hp):Prop:=
 (∃kvs k,H a=some (.dK kvs)/\y=kV k/\kvs.length<sizeLine/\H'=upd H a (.dK (putK kvs k v)))\/
 ∃kvs k b,H a=some (.dT kvs)/\y=.ref b/\H b=some (.tup (k.map kV))/\kvs.length<sizeLine/\H'=upd H a (.dT (putK kvs k v))
theorem OL.k{H:Hp}{a:Addr}{kvs:List (Key×V)}{k:Key}{v:V}(e:H a=some (.dK kvs))(hl:kvs.length<sizeLine):OL H a (kV k) v (upd H a (.dK (putK kvs k v))):=.inl ⟨kvs,k,e,rfl,hl,rfl⟩
section
variable{X:Cx}{pins:cy}{σ:St}{H:Hp}{s:ae}{a:Addr}{y v:V}{u r:aa}{o:Option V}{A:aQ}{E:aa->ae->Prop}
theorem Inv.big(I:Inv X pins σ H s):sysModules<s.heap.objs.size:=by have h:mainGlobals<s.heap.objs.size:=(I.mod.glob.keeps I.bk).lt;exact Nat.lt_trans (by decide) h
theorem Nh(hu:A.units+1<cLine)(I:Inv X pins σ H s)(g:DGet H a y (some v))(ry:RelV y u)(h:∀w' s',Inv X pins σ H s'->RelV v w'->Q w' s'):
  wpAny (model X.prog X.w) A (getItem (.ref a) u) Q E s:=by
 rcases g with ⟨kvs,k,e,ey,l⟩|⟨kvs,k,b,e,ey,eb,l⟩
 ·subst ey;obtain⟨z,hd,vs,rel,dd⟩:=A8 I.hok e;obtain⟨w',hw,rw'⟩:=zV.some_of (v:=v) (o:=valueAt vs k) (by rw[l];exact rel.val k);exact wpAny_getItem_of (A7 ry) dd.mapOf hw (h w' _ (I.tok _) rw')
 ·subst ey;cases (show u=Value.ref b from ry);obtain⟨z,hd,xs,rel,dd⟩:=EL I.hok e;obtain⟨w',hw,rw'⟩:=zV.some_of (v:=v) (o:=(atKey xs k).map (·.2)) (by rw[l];exact rel.val k)
  obtain⟨p,hp,hp2⟩:=Option.map_eq_some_iff.mp hw;refine wpAny_getItem_heap (gB hu) (CI I.hok eb) dd hp ?_;rw[hp2];exact h w' _ (I.tok _) rw'
theorem d_in(hu:A.units+1<cLine)(I:Inv X pins σ H s)(g:DGet H a y o)(ry:RelV y u)(h:∀s',Inv X pins σ H s'->Q (.bool o.isSome) s'):
  wpAny (model X.prog X.w) A (compareOp .In u (.ref a)) Q E s:=by
 rcases g with ⟨kvs,k,e,ey,l⟩|⟨kvs,k,b,e,ey,eb,l⟩
 ·subst ey;obtain⟨z,hd,vs,rel,dd⟩:=A8 I.hok e;refine wpAny_in_of (A7 ry) hd dd.mapOf ?_;rw[<-(rel.val k).isSome_eq,<- l];exact h _ (I.tok _)
 ·subst ey;cases (show u=Value.ref b from ry);obtain⟨z,hd,xs,rel,dd⟩:=EL I.hok e;refine wpAny_in_heap (gB hu) (CI I.hok eb) hd dd ?_;have q:=(rel.val k).isSome_eq;rw[oO]at q;rw[<-q,<- l];exact h _ (I.tok _)
theorem Ep(I:Inv X pins σ H s)(mu:Mut (H a))(hs:fH a s.heap h')(he:∃q,h'.get? a=some q)(new:tL X.prog X.w (upd H a ob) h' a ob):
  Inv X pins σ (upd H a ob) { s with heap:=h',toks:=t' }:=
 I.write (x:=a) (e:=a) mu (.inl rfl) (λb q hb z=>(hs.2 b hb).trans z) he new
theorem KO{h':Heap}{kvs:List (Key×V)}(z:kvs.length<=sizeLine)(hd:(a==sysModules)=false)(rel:KV kvs vs)(dd:h'.DictOf (sI P w) a vs):
  tL P w H' h' a (.dK kvs):=⟨z,hd,vs,rel,dd⟩
theorem Ni(hu:A.units+1<cLine)(I:Inv X pins σ H s)(g:OL H a y v H')(ry:RelV y u)(rv:RelV v r)(h:∀s',Inv X pins σ H' s'->Q () s'):
  wpAny (model X.prog X.w) A (setItem (.ref a) u r) Q E s:=by
 rcases g with ⟨kvs,k,e,ey,l,eH⟩|⟨kvs,k,b,e,ey,eb,l,eH⟩
 ·subst ey eH;obtain⟨z,hd,vs,rel,dd⟩:=OK I.hok e;have hz:vs.length<=sizeLine:=by rw[<-rel.length];exact z
  have hl:(putK kvs k v).length<=sizeLine:=by have:=ya kvs k v;omega
  refine wpAny_setItem_pairs (hsz:=hz) (A7 ry) dd λh' dd' hs=>h _ ?_;have he:∃q,h'.get? a=some q:=let ⟨q,_,_,hq,_⟩:=dd';⟨q,hq⟩;exact Ep I (by rw[e];exact True.intro) hs he (KO hl hd (rel.put k rv) dd')
 ·subst ey eH;cases (show u=Value.ref b from ry);obtain⟨z,hd,xs,rel,dd⟩:=Zf I.hok e;have hz:xs.length<=sizeLine:=by rw[<-kM rel];exact z
  have hl:(putK kvs k v).length<=sizeLine:=by have:=ya kvs k v;omega
  refine wpAny_setItem_heap (hsz:=hz) (gB hu) (CI I.hok eb) dd λh' dd' hs=>h _ ?_;obtain⟨q,es,ep,hq,h2,h3,h4,_,h5⟩:=dd';refine Ep I (by rw[e];exact True.intro) hs ⟨q,hq⟩ ⟨hl,hd,_,(rel.put k eb rv).keeps λc ys ec=>?_,q,es,ep,hq,h2,h3,h4,h5⟩;rw[sf (YO ec e (λz=>nomatch z))];exact ec
end
section
variable{X:Cx}{pins:cy}{σ:St}{H:Hp}{s:ae}{a:Addr}{kvs:List (Key×V)}{k:Key}{u:aa}{A:aQ}{E:aa->ae->Prop}
theorem Zg(I:Inv X pins σ H s)(e:Rd H a (.dK kvs))(h:∀t s',Inv X pins σ H s'->Q (.int kvs.length t) s'):wpAny (model X.prog X.w) A (call (.builtin "len") [.ref a]) Q E s:=by obtain⟨z,hd,vs,rel,dd⟩:=A8 I.hok e;refine call_len_dict hd dd (by rw[<-rel.length];rw[bL]at z;omega) ?_;rw[<-rel.length];exact h _ _ (I.tok _)
end
def Vu(i:Expr):Prop:=∀ov iv,subscripted i false ov iv=operate [ov,iv] (getItem ov iv)
theorem RQ{id:String}
  (hl:typeLookup (.type T) "__getitem__" = pure (some (.builtin id))) (hs:Vu slice)
  (h:wpAny (model prog w) A (eval value env) (λo s₁=>wpAny (model prog w) A (eval slice env) (λi s₂=>s₂.TypeIs o T/\wpAny (model prog w) A (getItem o i) Q E s₂) E s₁) E s):
  wpAny (model prog w) A (eval (.Subscript value slice pos) env) Q E s:=by
 refine lG (bV h (λo s₁ h₁=>bV h₁ (λi s₂ h₂=>?_) λ_ _ x=>x) λ_ _ x=>x);obtain⟨hT,h₂⟩:=h₂;unfold subscriptTail;refine ao ?_;rw[getitemInPython_of_ne hT.not_modules];refine ao (kF hT hl ?_);have fin:wpAny (model prog w) A (subscripted slice false o i) (λr s₃=>wpAny (model prog w) A (letTemporaryGo value o r>>=λ_=>pure r) Q E s₃) E s₂:=by rw[hs o i];exact wpAny_operating (bV h₂ (λr s₃ h₃=>ao (wpAny_letTemporaryGo (az h₃))) λ_ _ x=>x)
 first
  |exact az (ao fin)
  |exact ao (az (ao fin))
  |exact ao fin
theorem Jj(I:Inv X pins σ H s)(g:DGet H a y o):s.TypeIs (.ref a) "dict" := by
 rcases g with ⟨kvs,k,e,_,_⟩|⟨kvs,k,b,e,_,_,_⟩
 ·obtain⟨_,_,vs,_,dd⟩:=A8 I.hok e;exact dd.typeIs
 ·obtain⟨_,_,xs,_,dd⟩:=EL I.hok e;exact dd.typeIs
def Zh(td ty:TE):TE:=λσ H Q=>td σ H λx H1=>ty σ H1 λy H2=>∃a v,x=.ref a/\DGet H2 a y (some v)/\Q v H2
def Zi(ty td:TE):TE:=λσ H Q=>ty σ H λy H1=>td σ H1 λx H2=>∃a o,x=.ref a/\DGet H2 a y o/\Q (.bl o.isSome) H2
def Uv(td ty tv:TE):TS:=λD σ H=>tv σ H λv H1=>td σ H1 λx H2=>ty σ H2 λy H3=>∃a H4,x=.ref a/\OL H3 a y v H4/\D.nx σ H4
section
variable{X:Cx}{o i e value:Expr}{pos pos' tpos:Pos}{td ty tv:TE}
theorem RR(hu:X.A.units+1<cLine)(ho:PE X o td)(hi:PE X i ty)(hs:Vu i):PE X (.Subscript o i pos) (Zh td ty):=by intro pins s σ H Q I h;refine RQ F.slot_dict_getitem.lookup hs (thn (ho pins s σ H _ I h) λu s1 ⟨x,H1,I1,rx,q1⟩=>thn (hi pins s1 σ H1 _ I1 q1) λiv s2 ⟨y,H2,I2,ry,a,v,ex,g,q2⟩=>?_);subst ex;obtain rfl:u=Value.ref a:=rx;exact⟨Jj I2 g,Nh hu I2 g ry λw' s3 I3 rw'=>⟨v,H2,I3,rw',q2⟩⟩
theorem OM(hu:X.A.units+1<cLine)(hi:PE X i ty)(ho:PE X o td):PC X .In i o (Zi ty td):=by intro pins s σ H Q I h;refine thn (hi pins s σ H _ I h) λiv s1 ⟨y,H1,I1,ry,q1⟩=>thn (ho pins s1 σ H1 _ I1 q1) λu s2 ⟨x,H2,I2,rx,a,ov,ex,g,q2⟩=>?_;subst ex;obtain rfl:u=Value.ref a:=rx;exact d_in hu I2 g ry λs3 I3=>⟨.bl ov.isSome,H2,I3,rfl,q2⟩
theorem RS(hu:X.A.units+1<cLine)(ho:PE X o td)(hi:PE X i ty)(hv:PE X value tv)(hs:swapsWith value (some (.Subscript o i pos')) pos.line X.env=pure false):
  PS X (.Assign [.Subscript o i pos'] value pos) (Uv td ty tv):=by
 intro pins s σ H D I h;refine wpAny_Assign_Subscript (thn (hv pins s σ H _ I h) λr s1 ⟨v,H1,I1,rv,q1⟩=>thn (ho pins s1 σ H1 _ I1 q1) λu s2 ⟨x,H2,I2,rx,q2⟩=>thn (hi pins s2 σ H2 _ I2 q2) λiv s3 ⟨y,H3,I3,ry,a,H4,ex,g,q3⟩=>?_) hs;subst ex;obtain rfl:u=Value.ref a:=rx;exact Ni hu I3 g ry rv λs4 I4=>⟨σ,H4,I4,q3⟩
end
theorem Jk(h:Heap)(hb:sysModules<h.objs.size):tL P w H (h.push { cls:=.type "dict", data:=.dict #[] }) h.objs.size (.dK []):=
 ⟨cj _,beq_eq_false_iff_ne.mpr (cR (aY hb)),[],.nil,Heap.DictOf.new h⟩
def KP:TE:=λ_ H Q=>∀p,H p=none->Q (.ref p) (upd H p (.dK []))
section
variable{X:Cx}{pos:Pos}
theorem EM:PE X (.Dict [] [] pos) KP:=λpins s σ H Q I h=>
 wpAny_Dict_empty ⟨.ref s.heap.objs.size,_,I.laid (a:=s.heap.objs.size) (o:=.dK []) (t':=s.toks) (λ_ _ q=>aJ _ q) (aF _) (Jk s.heap I.big),rfl,h _ (I.hok.fresh (aF _))⟩
end
def HY:List (TE×TE)->St->Hp->(List (V×V)->Hp->Prop)->Prop
 |[],_,H,Q=>Q [] H
 |(tk,tv)::r,σ,H,Q=>tk σ H λx H1=>tv σ H1 λy H2=>HY r σ H2 λps H3=>Q ((x,y)::ps) H3
abbrev VV:List (V×V)->List (aa×aa)->Prop:=eR λp q=>RelV p.1 q.1/\RelV p.2 q.2
def PPs(X:Cx)(pos:Pos)(keys:List (Option Expr))(values:List Expr)(trs:List (TE×TE)):Prop:=
 ∀(pins:cy) (s:ae) (σ:St) (H:Hp) (Q:List (V×V)->Hp->Prop),Inv X pins σ H s->HY trs σ H Q->
  wpAny (model X.prog X.w) X.A (evalPairs (pairTrees keys values X.env pos)) (λvs s'=>∃ps H',Inv X pins σ H' s'/\VV ps vs/\Q ps H') X.xe s
theorem RT:PPs X pos [] [] []:=λpins s σ H Q I h=>pairTrees_nil_walk ⟨[],H,I,.nil,h⟩
theorem ON{tk:TE}(hk:PE X k tk)(hv:PE X v tv)(hr:PPs X pos ks vs trs):
  PPs X pos (some k::ks) (v::vs) ((tk,tv)::trs):=λpins s σ H Q I h=>
 pairTrees_cons_walk (thn (hk pins s σ H _ I h) λu s1 ⟨x,H1,I1,rx,q1⟩=>thn (hv pins s1 σ H1 _ I1 q1) λw2 s2 ⟨y,H2,I2,ry,q2⟩=>
  thn (hr pins s2 σ H2 _ I2 q2) λws s3 ⟨ps,H3,I3,rel,q3⟩=>⟨(x,y)::ps,H3,I3,.cons ⟨rx,ry⟩ rel,q3⟩)
def zZ(kvs more:List (Key×V)):List (Key×V):=more.foldl (λacc kv=>putK acc kv.1 kv.2) kvs
theorem KV.merge:∀{more:List (Key×V)} {rs:List (Key×aa)} {kvs:List (Key×V)} {vs:List (Key×aa)},KV more rs->KV kvs vs->KV (zZ kvs more) (merged vs rs):=by
 intro more rs kvs vs r;unfold KV at r
 induction r generalizing kvs vs with
 |nil=>intro q;exact q
 |@cons p q ps qs h t ih=>
  intro r0;have e:KV (putK kvs p.1 p.2) (stored vs q.1 q.2):=by have:=r0.put p.1 h.2;rw[<-h.1];exact this
  exact ih e
theorem A9:∀(more kvs:List (Key×V)),(zZ kvs more).length<=kvs.length+more.length
 |[],kvs=>by show kvs.length<=kvs.length+0;omega
 |p::r,kvs=>by have h1:=A9 r (putK kvs p.1 p.2);have h2:=ya kvs p.1 p.2;show (zZ (putK kvs p.1 p.2) r).length<=_;rw[aE];omega
theorem EN:∀{kvs:List (Key×V)} {ws:List (aa×aa)},VV (kvs.map λkv=>(kV kv.1,kv.2)) ws->∃rs,Carries (sI P w) ws rs/\KV kvs rs
 |[],_,r=>by rw[bG]at r;cases r;exact⟨[],True.intro,.nil⟩
 |p::kvs,_,r=>by
  rw[au]at r;cases r with
  |@cons a b as bs h t=>obtain⟨rs,c,q⟩:=EN (P:=P) (w:=w) t;obtain⟨b1,b2⟩:=b;exact⟨(p.1,b2)::rs,⟨A7 h.1,rfl,c⟩,.cons ⟨rfl,h.2⟩ q⟩
def OO(trs:List (TE×TE)):TE:=λσ H Q=>∀p,H p=none->HY trs σ (upd H p (.dK [])) λps H2=>H2 p=some (.dK [])/\∃kvs:List (Key×V),ps=kvs.map (λkv=>(kV kv.1,kv.2))/\kvs.length<=15/\Q (.ref p) (upd H2 p (.dK (zZ [] kvs)))
theorem RU(h:PPs X pos keys values trs)(hall:keys.all (·.isSome)=true)(hl:keys.length=values.length)(h0:keys≠[])
  (h15:keys.length<=15):PE X (.Dict keys values pos) (OO trs):=by
 intro pins s σ H Q I q;have hn:=I.hok.fresh (aF s.heap.objs.size);have I1:=I.laid (a:=s.heap.objs.size) (o:=.dK []) (h':=s.heap.push { cls:=.type "dict", data:=.dict #[] }) (t':=s.toks) (λ_ _ q=>aJ _ q) (aF _) (Jk s.heap I.big);refine wpAny_Dict_walk (knd:=sI X.prog X.w) hall hl h0 h15 (thn (h pins _ σ _ _ I1 (q _ hn)) λws s2 ⟨ps,H2,I2,rel,e,kvs,ep,lk,q2⟩=>?_);subst ep;obtain⟨rs,c,rk⟩:=EN (P:=X.prog) (w:=X.w) rel;obtain⟨z,hd,vs0,r0,dd⟩:=OK I2.hok e;cases r0;refine⟨rs,c,dd,λh' dd' hs=>⟨.ref s.heap.objs.size,_,?_,rfl,q2⟩⟩;have hz:(zZ [] kvs).length<=sizeLine:=by have h1:=A9 kvs [];rw[cO]at h1;rw[bL];omega
 have he:∃q,h'.get? s.heap.objs.size=some q:=let ⟨q,_,_,hq,_⟩:=dd';⟨q,hq⟩;exact Ep I2 (by rw[e];exact True.intro) hs he (KO hz hd (rk.merge .nil) dd')
structure M1(X:Cx)(o:Expr)(m:Str)(apos:Pos)(e:Expr)(cpos:Pos):Prop where
 base:attributeBase o m X.env (eval o X.env)=eval o X.env
 few:((backTo cpos (starEach [e] X.env)).all (λx=>!x.1)&&(backToKw cpos (keywordEach [] X.env)).all (λx=>x.1.isSome)
  && decide (([e]:List Expr).length+([]:List dU).length+(if ([]:List dU).isEmpty then 0 else 1)<30))=true
 line:(apos.endLine==cpos.line)=true
 trees:backTo cpos (starEach [e] X.env)=[(false,eval e X.env)]
structure M2(X:Cx)(o:Expr)(m:Str)(apos:Pos)(e f:Expr)(cpos:Pos):Prop where
 base:attributeBase o m X.env (eval o X.env)=eval o X.env
 few:((backTo cpos (starEach [e,f] X.env)).all (λx=>!x.1)&&(backToKw cpos (keywordEach [] X.env)).all (λx=>x.1.isSome)
  && decide (([e,f]:List Expr).length+([]:List dU).length+(if ([]:List dU).isEmpty then 0 else 1)<30))=true
 line:(apos.endLine==cpos.line)=true
 trees:backTo cpos (starEach [e,f] X.env)=[(false,eval e X.env),(false,eval f X.env)]
def IsD(H:Hp)(a:Addr):Prop:=(∃kvs,Rd H a (.dK kvs))\/∃kvs,Rd H a (.dT kvs)
theorem HZ(I:Inv X pins σ H s)(d:IsD H a):
  s.TypeIs (.ref a) "dict" /\ (∀b,Value.ref a=.ref b->∃ob,s.heap.get? b=some ob/\ob.dict=none)/\(a==sysModules)=false:=by
 rcases d with ⟨kvs,e⟩|⟨kvs,e⟩
 ·obtain⟨_,hd,vs,_,dd⟩:=A8 I.hok e;refine⟨dd.typeIs,λb q=>?_,hd⟩;cases q;obtain⟨ob,_,_,h1,h2,_⟩:=dd;exact⟨ob,h1,h2.2.1⟩
 ·obtain⟨_,hd,xs,_,dd⟩:=EL I.hok e;refine⟨dd.typeIs,λb q=>?_,hd⟩;cases q;obtain⟨ob,_,_,h1,h2,_⟩:=dd;exact⟨ob,h1,h2.2.1⟩
section
variable{X:Cx}{pins:cy}{σ:St}{H:Hp}{s:ae}{a:Addr}{y d:V}{u r:aa}{o:Option V}{A:aQ}{E:aa->ae->Prop}
theorem Vv(hu:A.units+1<cLine)(I:Inv X pins σ H s)(g:DGet H a y o)(ry:RelV y u)(h:∀w' s',Inv X pins σ H s'->RelV (o.getD .non) w'->Q w' s'):
  wpAny (model X.prog X.w) A (call (.builtin "dict.get") [.ref a,u]) Q E s:=by
 rcases g with ⟨kvs,k,e,ey,l⟩|⟨kvs,k,b,e,ey,eb,l⟩
 ·subst ey;obtain⟨z,hd,vs,rel,dd⟩:=A8 I.hok e;refine fK fE dd.typeIs iV (oP _ _) (meets_dict_get (sI X.prog X.w) a (A7 ry) hd) ⟨_,dd.mapOf,h _ _ (I.tok _) ?_⟩;rw[l];exact(rel.val k).getD rfl
 ·subst ey;cases (show u=Value.ref b from ry);obtain⟨z,hd,xs,rel,dd⟩:=EL I.hok e;refine fK fE dd.typeIs iV (oP _ _) (meetsH_dict_get (tupleKind (sI X.prog X.w)) a b hd) ⟨gB hu,k,xs,CI I.hok eb,dd,h _ _ (I.tok _) ?_⟩;rw[l];exact(rel.val k).getD rfl
theorem Vw(hu:A.units+1<cLine)(I:Inv X pins σ H s)(g:DGet H a y o)(ry:RelV y u)(rd:RelV d r)(h:∀w' s',Inv X pins σ H s'->RelV (o.getD d) w'->Q w' s'):
  wpAny (model X.prog X.w) A (call (.builtin "dict.get") [.ref a,u,r]) Q E s:=by
 rcases g with ⟨kvs,k,e,ey,l⟩|⟨kvs,k,b,e,ey,eb,l⟩
 ·subst ey;obtain⟨z,hd,vs,rel,dd⟩:=A8 I.hok e;refine fK fE dd.typeIs iV (oQ _ _ _) (meets_dict_get_default (sI X.prog X.w) a (A7 ry) hd r) ⟨_,dd.mapOf,h _ _ (I.tok _) ?_⟩;rw[l];exact(rel.val k).getD rd
 ·subst ey;cases (show u=Value.ref b from ry);obtain⟨z,hd,xs,rel,dd⟩:=EL I.hok e;refine fK fE dd.typeIs iV (oQ _ _ _) (meetsH_dict_get_default (tupleKind (sI X.prog X.w)) a b hd r) ⟨gB hu,k,xs,CI I.hok eb,dd,h _ _ (I.tok _) ?_⟩;rw[l];exact(rel.val k).getD rd
end
def Vx(td ty:TE):TE:=λσ H Q=>td σ H λx H1=>∃a,x=.ref a/\IsD H1 a/\ty σ H1 λy H2=>∃o,DGet H2 a y o/\Q (o.getD .non) H2
def Vy(td ty tx:TE):TE:=λσ H Q=>td σ H λx H1=>∃a,x=.ref a/\IsD H1 a/\ty σ H1 λy H2=>tx σ H2 λz H3=>∃o,DGet H3 a y o/\Q (o.getD z) H3
section
variable{X:Cx}{o e f:Expr}{apos cpos:Pos}{td ty tx:TE}
theorem OP(hu:X.A.units+1<cLine)(ho:PE X o td)(he:PE X e ty)(m:M1 X o "get" apos e cpos):PE X (.Call (.Attribute o "get" apos) [e] [] cpos) (Vx td ty):=by intro pins s σ H Q I h;refine kC m.base m.few m.line iQ fE pb (thn (ho pins s σ H _ I h) λu s1 ⟨x,H1,I1,rx,a,ex,d,q1⟩=>?_);subst ex;obtain rfl:u=Value.ref a:=rx;obtain⟨t1,t2,_⟩:=HZ I1 d;refine⟨t1,t2,?_⟩;rw[m.trees];refine gu rfl (iM (eE (thn (he pins s1 σ H1 _ I1 q1) λiv s2 ⟨y,H2,I2,ry,ov,g,q2⟩=>gG ?_)));exact Vv hu I2 g ry λw' s3 I3 rw'=>⟨_,H2,I3,rw',q2⟩
theorem OQ(hu:X.A.units+1<cLine)(ho:PE X o td)(he:PE X e ty)(hf:PE X f tx)(m:M2 X o "get" apos e f cpos):PE X (.Call (.Attribute o "get" apos) [e,f] [] cpos) (Vy td ty tx):=by
 intro pins s σ H Q I h;refine kC m.base m.few m.line iQ fE pb (thn (ho pins s σ H _ I h) λu s1 ⟨x,H1,I1,rx,a,ex,d,q1⟩=>?_);subst ex;obtain rfl:u=Value.ref a:=rx;obtain⟨t1,t2,_⟩:=HZ I1 d;refine⟨t1,t2,?_⟩;rw[m.trees];refine gu rfl (iM (eE (thn (he pins s1 σ H1 _ I1 q1) λiv s2 ⟨y,H2,I2,ry,q2⟩=>
  eE (thn (hf pins s2 σ H2 _ I2 q2) λfv s3 ⟨z,H3,I3,rz,ov,g,q3⟩=>gG ?_))))
 exact Vw hu I3 g ry rz λw' s4 I4 rw'=>⟨_,H3,I4,rw',q3⟩
end
end L2
namespace Att
open PySem PySem.W PySem.Calls PyProof.Rows
theorem Ei:∀(ns:List Int) (vs:List aa),WellAll P h vs (ns.map WData.int)->hE vs ns:=by
 intro ns
 induction ns with
 |nil=>intro vs w;rw[bG]at w;cases w;exact .nil
 |cons n ns ih=>
  intro vs w;rw[au]at w;cases w with
  |cons a b=>cases a;exact .cons _ _ (ih _ b)
theorem Nj{l:fL}(hn:l.most=some n)
  (hpre:l.row.toRowW.claim.pre args=true) (hwl:WellAll P h vals args):
  ∃a vs ns,vals=[Value.ref a]/\args=[WData.list (ns.map WData.int)]/\h.get? a=some { cls:=.type "list", data:=.seq vs.toArray }/\hE vs ns/\ns.length<=n:=by
 have hsh:WShape.hasAll [] args [.list .int]=true:=(pre_splitW hpre).1;have hc:l.pre.holds [] { args:=args }=true:=(pre_splitW hpre).2;obtain⟨d,r,rfl,h1,h2⟩:=hasAllW_cons hsh;obtain rfl:=hasAllW_nil h2;obtain⟨xs,rfl,h3⟩:=hasW_list h1;obtain⟨ns,rfl⟩:=items_int h3;have hlen:ns.length<=n:=by
  unfold OpenLaw.pre at hc;have h4:(WTm.not (.lt (.lit (.int (n:Int))) (.len (.arg 0)))).holds [] { args:=[.list (ns.map .int)] }=true:=by have h4:=(holds_andW hc).1;rw[hn]at h4;exact h4
  have h5:=condW_of h4 (w_not (w_lt w_lit (w_len_list (w_arg rfl))));rw[ag]at h5;refine o5 λq=>?_;have q':(n:Int)<((ns.length:Nat):Int):=by omega
  first
   |(rw[aX q']at h5;exact aq h5 (by decide))
   |(simp at h5;omega)
 cases hwl with
 |cons w1 w2=>
  cases w2;cases w1 with
  |list ho hall=>exact⟨_,_,ns,rfl,rfl,ho,Ei ns _ hall,hlen⟩
theorem Nk(l:fL)(args:List WData):l.row.toRowW.claim.post args (.bool true) args=true:=
 postW_of (r:=l.row.toRowW) (X:=(true==true))
  (show pP [] (.bool true) .bool=true by first|rfl|decide|simp[pP,WShape.arms,WShape.armsAll])
  (show (WTm.eq .res (.lit (.bool true))).value [] { args:=args,res:=some (.bool true),after:=args }=some (.bool (true==true)) from w_eq_bool (w_res rfl) w_lit) rfl
theorem attach_call{l:fL}{d:DefRec}
  (hn:l.most=some n) (hdf:d.params.defaults=[])
  (call:∀(w:aI) (s₀ s₁:ae) (mg mb:Str->Option aa) (fa:Addr) (o:Obj) (pm cd doc:aa) (a:Addr) (vs:List aa) (ns:List Int),
   Ground q loose [] XP w s₀ mg mb s₁.heap->YP w s₁.heap->
   s₁.heap.get? fa=some o->o.data=.func (docDef d.name d.params d.body d.scope pm cd doc)->s₁.heap.CodeRec cd d.name->mg d.name=some (.ref fa)->
   s₁.heap.get? a=some { cls:=.type "list", data:=.seq vs.toArray }->hE vs ns->ns.length<=n->s₁.gens=#[]->
   codeAny (model l.prog w) callerA (.call (.ref fa) ⟨[.ref a],[]⟩) (λr s'=>r=.ok (.ret (.bool true))/\OldK s₁.heap s'.heap/\s'.os=s₁.os/\dt s'.gens) s₁):
  WalkO q loose XP YP l.row.toRowW d [] (λf vs=>lI f vs):=by
 intro w s₀ s₁ mg mb G Y fa o pm cd doc dV kV ho hd hcd hD hmg hg args vals as hpre hlay hrd hwl hlo;obtain rfl:dV=.none:=Dflts.none hD hdf;obtain rfl:kV=.none:=Dflts.noKw hD;obtain⟨a,vs,ns,rfl,rfl,hobj,hints,hlen⟩:=Nj hn hpre hwl;refine enter_call (fJ (call w s₀ s₁ mg mb fa o pm cd doc a vs ns G Y ho (fd_plain hd) hcd hmg hobj hints hlen hg) λr s' hq=>?_);obtain⟨rfl,h2,h3,h4⟩:=hq;exact⟨.inl ⟨.bool true,.bool true,[],rfl,λ_=>rfl,.bool true,Nk l _,λ_=>⟨List.Pairwise.nil,λ_ hm=>(nomatch hm)⟩⟩,h2,h3,h4⟩
end Att
namespace L2
open PySem PySem.Spec PyProof.Rows
theorem GE:∀{vs:List aa} {ns:List Int},hE vs ns->Vals (ns.map V.int) vs
 |_,_,.nil=>.nil
 |_,_,.cons n t h=>.cons ⟨t,rfl⟩ (GE h)
def Vz(H:Hp):Prop:=∀b,H b=none\/∃o xs,H b=some (.frz o (.lst xs))
theorem OR{K:ar}{s₁:ae}{vs:List aa}
  (KX:K.In s₁.heap) (hns:s₁.heap.Ns mainGlobals mg) (hb:s₁.heap.Ns builtinsNs mb) (hbb:∀x:Str,x≠"__name__" -> mb x=bootBuiltins x) (hlim:s₁.heap.NoLimit) (hg:s₁.gens=#[])
  (ha:s₁.heap.get? a=some { cls:=.type "list", data:=.seq vs.toArray }) (hi:hE vs ns) (hl:ns.length<=sizeLine) (hr:ug k callerA)
  (F:∀base:Heap,K.In base->base.Ns mainGlobals mg->vQ P w K mg base CX k fa fd [x] sp) (hbind:∀(s:ae) (u:aa),fM s fd ⟨[u],[]⟩ [(x,u)])
  (hsp:∀H:Hp,Vz H->SqL K H a (ns.map V.int)->sp [.ref a] H (λv _=>v=.bl true) λ_ _ _=>False)
  (hCX:∀H e s',CX [] H s₁ (λ_ _ _=>False) e s'->False):
  codeAny (model P w) callerA (.call (.ref fa) ⟨[.ref a],[]⟩) (λr s'=>r=.ok (.ret (.bool true))/\OldK s₁.heap s'.heap/\s'.os=s₁.os/\dt s'.gens) s₁:=by
 have rv:=GE hi;have lenV:=hi.length;have core:∀H:Hp,Vz H->SqL K H a (ns.map V.int)->HOk P w H s₁.heap->(∀b,H b≠none->b=a)->(H a≠none->K.lookup a=none)->
   codeAny (model P w) callerA (.call (.ref fa) ⟨[.ref a],[]⟩) (λr s'=>r=.ok (.ret (.bool true))/\OldK s₁.heap s'.heap/\s'.os=s₁.os/\dt s'.gens) s₁:=by
  intro H hO hS hok hA hK;have base_of:∀{b:Addr} {o:Obj},s₁.heap.get? b=some o->H b=none->(HM s₁.heap H).get? b=some o:=λe n=>Ol e n;have noA:∀{b:Addr} {o:Obj} {es:Array DictEntry} {ep:Nat},s₁.heap.get? b=some o->o.data=.dict es ep->H b=none:=λ{b o es ep} e d=>by
   cases q:H b with
   |none=>rfl
   |some u=>have e':b=a:=hA b (by rw[q];simp);subst e';rw[ha]at e;cases e;have d':Data.seq vs.toArray _=Data.dict es ep:=d;cases d'
  have nsK:∀{b:Addr} {m:Str->Option aa},s₁.heap.Ns b m->(HM s₁.heap H).Ns b m:=λ{b m} ⟨o,es,ep,e,d,r⟩=>⟨o,es,ep,base_of e (noA e d),d,r⟩;have hKb:K.In (HM s₁.heap H):=λb o e=>base_of (KX b o e) (by
   cases q:H b with
   |none=>rfl
   |some u=>
    have e':b=a:=hA b (by rw[q];simp);subst e';rw[hK (by rw[q];simp)]at e;cases e)
  have hM:Mod K mg (HM s₁.heap H):=⟨hKb,nsK hns,⟨mb,nsK hb,hbb⟩,let ⟨mc,h1,h2⟩:=hlim;⟨mc,nsK h1,h2⟩⟩;have e0:KJ P w K mg (HM s₁.heap H) callerA [] s₁ H:=⟨rfl,hM,λb o e=>Rm e,kZ (MZ _ _),trivial,λb hb=>aq (show b∈([]:List Addr) from hb) (by simp),hok,.of_eq hg⟩;refine fJ ((F _ hKb (nsK hns)).run callerA [] s₁ H ⟨[.ref a],[]⟩ [.ref a] [.ref a] _ _ hr e0 (hbind s₁ (.ref a)) (.cons rfl .nil) (hsp H hO hS)) λr s' h=>?_;cases r with
  |error e=>exact(hCX H e s' h).elim
  |ok fl=>
   cases fl with
   |next=>exact cE h
   |brk=>exact cE h
   |cont=>exact cE h
   |ret u=>
    obtain⟨v,H',os,bare,un,hok',r',q⟩:=h;have q':v=.bl true:=q;subst q';obtain rfl:u=Value.bool true:=r';refine⟨rfl,OldK.of_keep λb o e=>?_,os,bare⟩;cases q:H b with
    |none=>exact un.keep b o e q (by intro z;exact aq (show b∈([]:List Addr) from z) (by simp)) (by simp)
    |some u=>
     rcases hO b with z|⟨ob,xs,z⟩
     ·rw[q]at z;cases z
     ·have z2:=un.frzs b ob _ z;obtain⟨e1,_⟩:=hok b _ z;obtain⟨e2,_⟩:=hok' b _ z2;rw[e]at e1;cases e1;exact e2
 cases hk:K.lookup a with
 |some o=>have e:=KX a o hk;rw[ha]at e;cases e;refine core (λ_=>none) (λ_=>.inl rfl) (.inr ⟨_,vs.toArray,_,hk,rfl,rfl,rfl,by rw[bg,lenV];exact hl,by simpa using rv⟩) (λb u z=>by have z':(none:Option HO)=some u:=z;cases z') (λb z=>aq rfl z) λz=>aq rfl z
 |none=>
  refine core (λb=>if b=a then some (.frz { cls:=.type "list", data:=.seq vs.toArray } (.lst (ns.map V.int)))else none) (λb=>?_) (.inl (.inr ⟨{ cls:=.type "list", data:=.seq vs.toArray },ai rfl⟩)) (λb u z=>?_) (λb z=>?_) λ_=>hk
  ·by_cases hb:b=a
   ·exact .inr ⟨_,_,ai hb⟩
   ·exact .inl (aj hb)
  ·by_cases hb:b=a
   ·have z':=(ai hb).symm.trans z;cases z';subst hb;exact⟨ha,by rw[ag];exact hl,vs,_,rv,ha⟩
   ·have z':=(aj hb).symm.trans z;cases z'
  ·by_cases hb:b=a
   ·exact hb
   ·exact aq (aj hb) z
theorem RV{l:fL}{n k:Nat}{q:aU}{loose:aB}{XP:(Str->Option aa)->Heap->Prop}{YP:aI->Heap->Prop}{d:DefRec}{K:Params->ar}{CX:aI->CXT}{sp:aI->Sp}{x:Str}
  (hn:l.most=some n) (hn2:n<=sizeLine) (hdf:d.params.defaults=[]) (hr:ug k callerA)
  (hY:∀(w:aI) (h:Heap),YP w h->(K w.params).In h)
  (F:∀(w:aI) (mg:Str->Option aa) (fa:Addr) (h:Heap),(K w.params).In h->h.Ns mainGlobals mg->mg d.name=some (.ref fa)->
   ∃fd:bY,(∀(s:ae) (u:aa),fM s fd ⟨[u],[]⟩ [(x,u)])/\
    ∀base:Heap,(K w.params).In base->base.Ns mainGlobals mg->vQ l.prog w (K w.params) mg base (CX w) k fa fd [x] (sp w))
  (hsp:∀(w:aI) (H:Hp) (a:Addr) (ns:List Int),ns.length<=n->Vz H->SqL (K w.params) H a (ns.map V.int)->sp w [.ref a] H (λv _=>v=.bl true) λ_ _ _=>False)
  (hCX:∀(w:aI) (H:Hp) (s:ae) (e:aa) (s':ae),CX w [] H s (λ_ _ _=>False) e s'->False):
  W.WalkO q loose XP YP l.row.toRowW d [] (λf vs=>lI f vs):=by
 refine Att.attach_call hn hdf λw s₀ s₁ mg mb fa o pm cd doc a vs ns G Y ho hd hcd hmg hobj hints hlen hg=>?_;have KX:=hY w _ Y;obtain⟨fd,hb,hF⟩:=F w mg fa _ KX G.T.g hmg;exact OR KX G.T.g G.T.b G.T.builtins G.T.nolimit hg hobj hints (bK hlen hn2) hr hF hb (λH hO hS=>hsp w H a ns hlen hO hS) λH e s'=>hCX w H s₁ e s'
def inClass(s:Stmt)(j:Nat):Stmt:=match s with
 |.ClassDef _ _ _ body _ _ _ _ _ _ _=>body.getD j (.Pass ⟨0,0,0,0⟩)
 |_=>.Pass ⟨0,0,0,0⟩
def yb(s:Stmt):Arguments:=match s with
 |.FunctionDef _ a _ _ _ _ _ _ _ _=>a
 |_=>{ posonlyargs:=[],args:=[],vararg:=none,kwonlyargs:=[],kw_defaults:=[],kwarg:=none,defaults:=[] }
def tp(s:Stmt):List Stmt:=match s with
 |.FunctionDef _ _ b _ _ _ _ _ _ _=>b
 |_=>[]
def sE(s:Stmt):cU:=match s with
 |.FunctionDef _ _ _ _ _ _ sc _ _ _=>sc
 |_=>{ kind:=.function,names:=[],isGenerator:=false,isCoroutine:=false }
abbrev CX0:CXT:=λ_ _ _ _ _ _=>False
abbrev E0:XK:=λ_ _ _=>False
theorem Dv:Passes CX0 X E0:=λ_ _ _ _ _ _ _ h=>h.elim
structure Fun(K:ar)(x qual:Str)(st:Stmt)(f:Addr)(fd:bY):Prop where
 ex:∃(oc:aa) (od:Option Addr) (kV doc pm:aa) (an:Option Addr) (cdv ct:aa) (osl:Array (Option aa)),
  fd=fO x qual (yb st) (tp st) (sE st) .none kV doc pm an cdv ct/\K.lookup f=some ⟨oc,od,.func fd,osl⟩/\W.codeIn K cdv qual=true
 kp:eS K (.ref f)=true
variable{st:Stmt}
section
variable{P:aU}{w:aI}{K:ar}{mg:Str->Option aa}{base:Heap}
theorem Fun.ok(F:Fun K x qual st f fd)(S:ud N ps (sE st))(len:∀vs H Q E,sp vs H Q E->vs.length=ps.length)
  (hbody:∀(cdv:aa) (A:aQ) (outer:List Env) (s:ae) (H:Hp) (vs:bC) (Q:VK) (E:XK),ug k (A.deeper (envOfC qual (sE st) s.heap.objs.size f cdv))->sp vs H Q E->
   ∃t,PSs (Je CX0 P w K mg base N qual (sE st) f cdv A outer s H E).nox (tp st) t/\t { nx:=λ_ H'=>Q .non H',rt:=Q } (start N vs) H):vQ P w K mg base CX0 (k+1) f fd ps sp:=by
 obtain⟨oc,od,kV,doc,pm,an,cdv,ct,osl,rfl,lk,hcd⟩:=F.ex;refine Us lk hcd S len λA outer s H vs Q E hr hsp=>?_;obtain⟨t,h,q⟩:=hbody cdv A outer s H vs Q E hr hsp;exact⟨t,h.nox,q⟩
theorem Fun.binds{ps:aB}(F:Fun K x qual st f fd)
  (h:∀(kV doc pm:aa) (an:Option Addr) (cdv ct:aa) (us:List aa),us.length=ps.length->bindArgs (fO x qual (yb st) (tp st) (sE st) .none kV doc pm an cdv ct) ⟨us,[]⟩=pure (ps.zip us)):Binds K fd ps []:=by
 obtain⟨oc,od,kV,doc,pm,an,cdv,ct,osl,rfl,lk,hcd⟩:=F.ex;exact .all (h kV doc pm an cdv ct)
end
theorem GF(hr:ug k A):A.units+1<cLine:=kz (Nat.add_le_add_left (by decide:1<=64) _) hr.units
theorem AN(h:n<=1000):n<sizeLine:=kz h (by decide)
section
variable{X:Cx}
theorem pv(i:Nat)(hN:X.N[i]?=some x:=by rfl)(hv:Vis X.env.scope x:=by first|exact Or.inl rfl|exact Or.inr (Or.inl rfl)|exact Or.inr (Or.inr rfl))(hd:(x==("__debug__" : Str))=false:=by decide)
  (hcd:(x==("__classdict__" : Str))=false:=by decide):PE X (.Name x pos) (yp i):=UT hN hv hd hcd
end
variable{B:Prop}
theorem Ia{A:Prop}(h:B):if false=true then A else B:=by rw[aj br];exact h
theorem Ib{A:Prop}(h:A):if true=true then A else B:=by rw[ai rfl];exact h
def sq(H H':Hp):Prop:=∀b o,H b=some o->H' b=some o
theorem sq.refl(H:Hp):sq H H:=λ_ _ h=>h
theorem sq.trans(a:sq H H1)(b:sq H1 H2):sq H H2:=λc o h=>b c o (a c o h)
theorem sq.seq{K:ar}(e:sq H H')(h:SqL K H a xs):SqL K H' a xs:=by
 rcases h with (h|⟨o,h⟩)|h
 ·exact .inl (.inl (e _ _ h))
 ·exact .inl (.inr ⟨o,e _ _ h⟩)
 ·exact .inr h
end L2
set_option maxHeartbeats 4000000
namespace L3
open PySem PySem.Spec PyProof.Rows L2
abbrev St:=L2.St
theorem EO{α β:Type}{f:α->β->Sem (ForInStep β)}{g:β->α->β}:∀(l:List α) (b:β),(∀x∈l,∀c,f x c=pure (ForInStep.yield (g c x)))->(forIn l b f:Sem β)=pure (l.foldl g b)
 |[],b,_=>by simp
 |x::r,b,h=>by rw[List.forIn_cons,h x aV b];show (forIn r (g b x) f:Sem β)=_;rw[EO r (g b x) λy hy c=>h y (bf _ hy) c];rfl
def zJ(cells:List (Str×Addr))(cs:List (Str×Addr))(x:Str×c7):List (Str×Addr):=if (x.2==NameKind.free)=true then (x.1,(cells.lookup x.1).getD 0)::cs else cs
def wI(cells:List (Str×Addr))(names:List (Str×c7)):List (Str×Addr):=names.foldl (zJ cells) []
variable{scope:cU}
theorem Gd{env:Env}(h:∀x∈scope.names,x.2=.free->∃c,env.cells.lookup x.1=some c):
  closureFor scope env=pure (wI env.cells scope.names):=by
 simp only[closureFor];rw[EO (g:=zJ env.cells) scope.names [] λx hx c=>by
  obtain⟨n,k⟩:=x;by_cases hk:k=.free
  ·subst hk;obtain⟨a,e⟩:=h _ hx rfl;have e':env.cells.lookup n=some a:=e;simp only[zJ,cellOf,e',beq_self_eq_true,if_true,o6];rfl
  ·have hb:(k==NameKind.free)=false:=by simpa using hk
   simp only[zJ,hb,eF,if_false]]
 rfl
theorem Jl{cells:List (Str×Addr)}:∀(names:List (Str×c7)) (acc:List (Str×Addr)),(∀x∈names,x.2=.free->∃c,cells.lookup x.1=some c)->(∀x c,acc.lookup x=some c->cells.lookup x=some c)->
  ∀x c,(names.foldl (zJ cells) acc).lookup x=some c->cells.lookup x=some c
 |[],acc,_,ha,x,c,e=>ha x c e
 |y::r,acc,h,ha,x,c,e=>by
  refine Jl r (zJ cells acc y) (λz hz=>h z (bf _ hz)) (λz d ez=>?_) x c e;obtain⟨n,k⟩:=y;unfold zJ at ez;split at ez
  ·rename_i hk;obtain⟨a,ea⟩:=h (n,k) aV (by simpa using hk);have ea':cells.lookup n=some a:=ea;rw[dJ]at ez;cases hb:z==n with
   |true=>rw[hb]at ez;have ez':some ((cells.lookup n).getD 0)=some d:=ez;rw[ea']at ez';rw[eQ hb,ea'];exact ez'
   |false=>rw[hb]at ez;exact ha z d ez
  ·exact ha z d ez
theorem GH:∀(names:List (Str×c7)) (acc:List (Str×Addr)) (x:Str),(∃c,acc.lookup x=some c)->∃c,(names.foldl (zJ cells) acc).lookup x=some c
 |[],_,_,h=>h
 |y::r,acc,x,h=>by
  refine GH r (zJ cells acc y) x ?_;unfold zJ;split
  ·rw[dJ];cases x==y.1 with
   |true=>exact⟨_,rfl⟩
   |false=>exact h
  ·exact h
theorem ER:∀(names:List (Str×c7)) (acc:List (Str×Addr)) (x:Str),(x,NameKind.free)∈names->∃c,(names.foldl (zJ cells) acc).lookup x=some c
 |[],_,_,h=>by cases h
 |y::r,acc,x,h=>by
  rcases aK.mp h with e|h
  ·subst e;refine GH r _ x ?_;unfold zJ;rw[ai (by simp),dJ];simp
  ·exact ER r _ x h
theorem y4{env:Env}(x:Str):∀(names:List (Str×c7)),
  (names.map λ(n,k)=>if (k==NameKind.free&&env.scope.kind==.function&&env.kindOf n==some .cell)then (n,NameKind.cell)else (n,k)).lookup x=
   (names.lookup x).map λk=>if (k==NameKind.free&&env.scope.kind==.function&&env.kindOf x==some .cell)=true then NameKind.cell else k
 |[]=>rfl
 |(n,k)::r=>by
  have ih:=y4 (env:=env) x r;rw[au,dJ (k:=n)];show cP x ((if (k==NameKind.free&&env.scope.kind==.function&&env.kindOf n==some .cell)=true then (n,NameKind.cell)else (n,k))::_)=_;cases hx:x==n with
  |true=>
   have e:=eQ hx;subst e;split
   ·rename_i hc;simp only[dJ,hx,eJ,hc,if_true]
   ·rename_i hc;simp only[dJ,hx,eJ];rw[aj hc]
  |false=>
   rw[<-ih];split
   ·simp only[dJ,hx]
   ·simp only[dJ,hx]
theorem KQ(hcell:∀y∈scope.names,y.2≠.cell)(h:(relabel scope env).names.lookup x=some .cell\/(relabel scope env).names.lookup x=some .free):(x,NameKind.free)∈scope.names:=by
 have e:=y4 (env:=env) x scope.names;have h':(scope.names.lookup x).map (λk=>if (k==NameKind.free&&env.scope.kind==.function&&env.kindOf x==some .cell)=true then NameKind.cell else k)=some .cell\/
   (scope.names.lookup x).map (λk=>if (k==NameKind.free&&env.scope.kind==.function&&env.kindOf x==some .cell)=true then NameKind.cell else k)=some .free:=by
  rw[<-e];exact h
 cases q:scope.names.lookup x with
 |none=>rw[q]at h';rcases h' with z|z<;>cases z
 |some k=>
  rw[q]at h';have hm:=mem_of_lookup q;have hc:=hcell _ hm;cases k with
  |free=>exact hm
  |cell=>exact aq rfl hc
  |_=>rcases h' with z|z<;>cases z
theorem Ge(h:scope.names.lookup x=some .free):(relabel scope env).names.lookup x=some .cell\/(relabel scope env).names.lookup x=some .free:=by
 have e:=y4 (env:=env) x scope.names;have e':(relabel scope env).names.lookup x=(scope.names.lookup x).map λk=>if (k==NameKind.free&&env.scope.kind==.function&&env.kindOf x==some .cell)=true then NameKind.cell else k:=e
 rw[e',h,eJ];split
 ·exact .inl rfl
 ·exact .inr rfl
def uh(X:Cx)(N':aB)(scope:cU)(cl:List (Str×Addr))(C:Addr)(fp:List Addr)(s:ae)(H:Hp):Cx:=
 { X with N:=N',s₀:=s,H₀:=H,env:=compEnvC scope cl C X.env,outer:=X.stack,ex:=fp,fn:=λ_=>false,pn:=[],xe:=λ_ _=>False }
def PIf(X:Cx)(ifs:List Expr)(t:TT):Prop:=
 ∀(pins:cy) (s:ae) (σ:St) (H:Hp) (Q:Bool->Hp->Prop),Inv X pins σ H s->t σ H Q->
  wpAny (model X.prog X.w) X.A (forIn ifs true λc r=>if r=true then do let ok<-isTrue c X.env (eval c X.env);pure (ForInStep.yield ok)else pure (ForInStep.yield r)) (TP X pins σ Q) X.xe s
def tIf0:TT:=λ_ H Q=>Q true H
theorem RW:PIf X [] tIf0:=λ_ _ _ H _ I h=>wpAny_tests_nil ⟨H,I,h⟩
theorem RX(h:PT X c t):PIf X [c] t:=λpins s σ H Q I hq=>wpAny_tests_one (h pins s σ H Q I hq)
section
variable{prog:aU}{w:aI}{A:aQ}{R:fN->ae->Prop}{s:ae}
theorem Ie(J:Nat->ae->Prop)
  (turn:∀n s,J n s->wpAny (model prog w) A (pyNext it) (λr s₁=>match r with
   |none=>R (.ok .next) s₁
   |some v=>wpAny (model prog w) A (letOwnedTupleGo target it v) (λ_ s₁'=>wpAny (model prog w) A (assign target env v) (λ_ s₂=>
     wpAny (model prog w) A (forIn ifs true λc r=>if r=true then do let ok<-isTrue c env (eval c env);pure (ForInStep.yield ok)else pure (ForInStep.yield r)) (λok s₃=>
      if ok=true then wpAny (model prog w) A (eval elt env) (λx s₄=>
       wpAny (model prog w) A (call (.builtin "list.append") [acc,x]) (λ_ s₅=>∃m,m<n/\J m s₅) (notedBy (model prog w) A env λe s'=>R (.error e) s') s₄) (notedBy (model prog w) A env λe s'=>R (.error e) s') s₃
      else ∃m,m<n/\J m s₃) (notedBy (model prog w) A env λe s'=>R (.error e) s') s₂) (notedBy (model prog w) A env λe s'=>R (.error e) s') s₁')
      (notedBy (model prog w) A env λe s'=>R (.error e) s') s₁) (notedBy (model prog w) A env λe s'=>R (.error e) s') s)
  (n:Nat) (h:J n s):
  codeAny (model prog w) A (.compLoop (.ListComp elt [⟨target,iter,ifs,0⟩] scope pos) 0 it acc env) R s:=by
 refine codeAny_loop rfl J (λn s hI=>?_) n h;show wpAny _ A ((compTurn (.ListComp elt [⟨target,iter,ifs,0⟩] scope pos) 0 it acc env).onRaise (λx=>do noteFrame x env;theTreesLotGoes x)) _ _ s;refine wpAny_noted ?_;rw[compTurn_list];refine ao (wpAny_standAt (ao (bV (turn n s hI) (λr s₁ h₁=>?_) λ_ _ h'=>h')));cases r with
 |none=>exact az h₁
 |some v=>
  refine ao (bV h₁ (λ_ s₁' h₁'=>?_) λ_ _ h'=>h');refine ao (bV h₁' (λ_ s₂ h₂=>ao (bV h₂ (λok s₃ h₃=>?_) λ_ _ h'=>h')) λ_ _ h'=>h');cases ok with
  |false=>exact az ⟨rfl,h₃⟩
  |true=>exact ao (ao (bV h₃ (λx s₄ h₄=>ao (bV h₄ (λ_ s₅ h₅=>az (az ⟨rfl,h₅⟩)) λ_ _ h'=>h')) λ_ _ h'=>h'))
end
def vS(k:Nat)(cap:List Nat)(σ:St):St:=dP k none++cap.map λj=>(σ[j]?).join
theorem GI(h:(vS k cap σ)[i]?=some (some v)):k<=i:=by
 by_cases hi:k<=i
 ·exact hi
 ·unfold vS at h;rw[cG (by rw[cf];omega),fq]at h;split at h<;>cases h
theorem Nl{k:Nat}{cap:List Nat}{σ:St}{N N':aB}{i:Nat}{v:V}{x:Str}(hcap:(N'.drop k).map some=cap.map λj=>N[j]?)(hx:N'[i]?=some x)(h:(vS k cap σ)[i]?=some (some v)):
  ∃j:Nat,N[j]?=some x/\σ[j]?=some (some v)/\x∈N'.drop k:=by
 have hi:=GI h;unfold vS at h;rw[cz (by rw[cf];exact hi),cf,bt]at h;have hd:(N'.drop k)[i - k]?=some x:=by rw[cX,show k+(i - k)=i by omega];exact hx
 have e:=aT (λl=>l[i - k]?) hcap;simp only[bt,hd,eJ]at e;cases q:cap[i - k]? with
 |none=>rw[q]at h;cases h
 |some j=>
  rw[q]at h e;simp only[eJ,Option.some.injEq]at h e;refine⟨j,e.symm,?_,cA hd⟩;cases z:σ[j]? with
  |none=>rw[z]at h;cases h
  |some o=>rw[z]at h;have h':o=some v:=h;rw[h']
def ES(wi:TI)(g:TG)(tt:TT)(te:TE)(k:Nat)(cap:List Nat):TE:=λσ H Q=>wi σ H λJ H1=>∀p,H1 p=none->
 ∃W:Nat->Nat->bC->Hp->Prop,(∃m,W 0 m [] (upd H1 p (.lst [])))/\∀i m acc H2,W i m acc H2->
  (J.stop i H2/\Q (.ref p) H2)\/
   (J.go i H2/\∀x H3,J.yld i H2 x H3->g x (vS k cap σ) H3 λσ4 H4=>σ4.drop k=(vS k cap σ).drop k/\tt σ4 H4 λb H5=>
    if b=true then te σ4 H5 λy H6=>∃acc',H6 p=some (.lst acc')/\acc'.length<sizeLine/\∃m',m'<m/\W (i+1) m' (acc'++[y]) (upd H6 p (.lst (acc'++[y])))
    else ∃m',m'<m/\W (i+1) m' acc H5)
variable{X:Cx}
theorem GK{cap:List Nat}
  (hc:X.calm=true) (hi:PI X tg iter wi)
  (body:∀(cl:List (Str×Addr)) (C:Addr) (fp:List Addr) (s:ae) (H:Hp),PG (uh X N' scope cl C fp s H) tg g/\PIf (uh X N' scope cl C fp s H) ifs tt/\PE (uh X N' scope cl C fp s H) elt te)
  (hkind:scope.kind=.function) (hcell:(scope.names.all λy=>y.2 != .cell)=true)
  (hloc:(scope.names.all λy=>y.2 != .local||scope.names.lookup y.1==some .local)=true)
  (hfree:(scope.names.all λy=>y.2 != .free||(X.env.kindOf y.1==some .cell||X.env.kindOf y.1==some .free))=true)
  (hlen:N'.length=k+cap.length) (hcap:(N'.drop k).map some=cap.map λj=>X.N[j]?)
  (hcf:((N'.drop k).all λx=>scope.names.lookup x==some .free)=true)
  (hs:∀x,foldedSetIterable iter X.env x=pure x)
  (I:Inv X pins σ H s) (h:ES wi g tt te k cap σ H Q)
  (fin:∀a C m u s4 H3,s4.heap.Ns C m->Inv X pins σ H3 s4->Ga X pins H3 C->Q (.ref a) H3->compPost (model X.prog X.w) X.A X.xe use P (.ref a) C (.ok u) s4):
  wpAny (model X.prog X.w) X.A (comprehension (.ListComp elt [⟨tg,iter,ifs,0⟩] scope pos) scope X.env (firstIterPos [⟨tg,iter,ifs,0⟩] pos) (newList []) false (eval iter X.env) use) P X.xe s:=by
 have hcell':∀y∈scope.names,y.2≠.cell:=λy hy e=>by have z:=bD.mp hcell y hy;rw[e]at z;exact aq z (by decide)
 have hloc':∀y∈scope.names,y.2=.local->scope.names.lookup y.1=some .local:=λy hy e=>by have z:=bD.mp hloc y hy;rw[e]at z;simpa using z
 have hfree':∀y∈scope.names,y.2=.free->X.env.kindOf y.1=some .cell\/X.env.kindOf y.1=some .free:=λy hy e=>by have z:=bD.mp hfree y hy;rw[e]at z;simpa using z
 have hcl:∀y∈scope.names,y.2=.free->∃c,X.env.cells.lookup y.1=some c:=λy hy e=>I.ok.has y.1 (hfree' y hy e);refine wpAny_comprehension_free rfl hs (Gd hcl) hkind hloc' (thn (hi pins s σ H _ I h) λxv s₁ h₁=>thn h₁ λit s₂ h₂=>?_);obtain⟨ita,fp,tn,J,H2,e,I2,T,st2,f2,R2⟩:=h₂;subst e;obtain⟨W,⟨m0,w0⟩,turn⟩:=R2 s₂.heap.objs.size (I2.hok.fresh (aF _));refine fz (wpAny_newFunctionEnv hcell' (by intro y hy;simp at hy) (λh₁ hns₁ hsb₁=>?_) hkind);dsimp only at hns₁ hsb₁ ⊢;generalize hp:s₂.heap.push { cls:=.type "list", dict:=none,data:=.seq ([]:List aa).toArray }=hpL at hns₁ hsb₁ ⊢;have hsz:hpL.objs.size=s₂.heap.objs.size+1:=by rw[<-hp,dj]
 have I3:Inv X pins σ (upd H2 s₂.heap.objs.size (.lst [])) { s₂ with heap:=hpL }:=by rw[<-hp];exact I2.laid (t':=s₂.toks) (λb u e=>aJ _ e) (aF _) ⟨cj _,[],0,.nil,bz _ rfl⟩
 have old:∀b o,hpL.get? b=some o->h₁.get? b=some o:=λb o e=>hsb₁.extBut b o (aY (aM e)) (aJ _ e);have older:∀b o,s₂.heap.get? b=some o->hpL.get? b=some o:=λb o e=>by rw[<-hp];exact aJ _ e
 have hfpS:∀b∈fp,b<s₂.heap.objs.size:=λb hb=>let ⟨o,e,_⟩:=T.obj _ _ st2 b hb;aM e;have sub:∀x c,(wI X.env.cells scope.names).lookup x=some c->X.env.cells.lookup x=some c:=Jl scope.names [] hcl (λx c e=>by cases e);have ok':(uh X N' scope (wI X.env.cells scope.names) hpL.objs.size fp { s₂ with heap:=hpL } (upd H2 s₂.heap.objs.size (.lst []))).Ok:={
  mod:=I3.ok.mod
  kind:=hkind
  glob:=I3.ok.glob
  blt:=I3.ok.blt
  above:=aF _
  inj:=λx y c h1 h2=>I3.ok.inj x y c (sub x c h1) (sub y c h2)
  has:=λx hx=>ER scope.names [] x (KQ hcell' hx)
  cab:=λx c hf _=>aq (show false=true from hf) br
  hd:=I3.ok.hd
  frames:=I3.ok.frames
  stk:=.inl rfl
  exf:=λb hb=>⟨(by
   show b≠hpL.objs.size;rw[hsz];exact aY (cY (hfpS b hb))),λx c e=>(f2 b hb).2.2.2.2.1 x c (sub x c e)⟩
  bs:=I3.bs
  bsz:=bK I3.ok.bsz I3.sz
  noex:=λb o e hb=>by
   rcases(f2 b hb).2.2.2.1 with z|z
   ·exact I3.ok.noex b o e z
   ·exact aq (b0 (aM e) (bK I3.ok.bsz z)) (dm _)
  exfs:=λb hb z=>(aK.mp (I3.stkSub b z)).elim (f2 b hb).2.1 (f2 b hb).2.2.1
  funs:=I3.stack
  frf:=I3.stkFree }
 have IX:Inv (uh X N' scope (wI X.env.cells scope.names) hpL.objs.size fp { s₂ with heap:=hpL } (upd H2 s₂.heap.objs.size (.lst []))) [] (vS k cap σ) (upd H2 s₂.heap.objs.size (.lst []))
   { s₂ with heap:=h₁,toks:=s₂.toks+([]:List (Str×aa)).length }:={
  ok:=ok'
  os:=rfl
  bare:=I3.bare
  base:=Un.kept old
  loc:=⟨_,hns₁,λi x v e1 e2 _=>by
   obtain⟨j,hj,hσ,hm⟩:=Nl hcap e1 e2;have hx:scope.names.lookup x=some .free:=by simpa using bD.mp hcf x hm
   have hk:=hfree' (x,.free) (mem_of_lookup hx) rfl;obtain⟨m,hn,hl⟩:=I3.loc;obtain⟨u,r,lk⟩:=hl j x v hj hσ (hk.elim (λz=>.inr (.inl z)) λz=>.inr (.inr z));refine⟨u,r,.inr ⟨Ge hx,?_⟩⟩;rcases lk with ⟨z,_⟩|⟨_,c,e,o,ho,hd⟩
   ·rcases hk with y|y
    ·rw[y]at z;cases z
    ·rw[y]at z;cases z
   ·obtain⟨c',e'⟩:=ER (cells:=X.env.cells) scope.names [] x (mem_of_lookup hx);have ec:=sub x c' e';rw[e]at ec;have ec':c=c':=cg ec;subst ec';exact⟨c,e',o,old _ _ ho,hd⟩⟩
  cell:=λx c e=>by obtain⟨v,o,ho,hd⟩:=I3.cell x c (sub x c e);exact⟨v,o,old _ _ ho,hd⟩
  free:=I3.hok.fresh (aF _)
  freeC:=λx c e=>I3.freeC x c (sub x c e)
  pin:=λp hp=>aq (show p∈([]:cy) from hp) (by simp)
  hok:=I3.hok.kept old
  len:=by
   show (vS k cap σ).length=N'.length;rw[hlen];unfold vS;rw[aA,cf,ag] }
 have stat:∀{H':Hp},(∀b∈fp,H' b=none)->∀b∈fp,Ga (uh X N' scope (wI X.env.cells scope.names) hpL.objs.size fp { s₂ with heap:=hpL } (upd H2 s₂.heap.objs.size (.lst []))) [] H' b:=λhn b hb=>⟨hn b hb,(ok'.exf b hb).1,ok'.exfs b hb,.inl hb,(ok'.exf b hb).2,λp hp=>aq (show p∈([]:cy) from hp) (by simp)⟩
 have st4:tn 0 h₁:=T.keep _ _ _ st2 λb _ o e=>old b o (older b o e);have loop:codeAny (model X.prog X.w) X.A (.compLoop (.ListComp elt [⟨tg,iter,ifs,0⟩] scope pos) 0 (.ref ita) (.ref s₂.heap.objs.size) (compEnvC scope (wI X.env.cells scope.names) hpL.objs.size X.env))
   (compPost (model X.prog X.w) X.A X.xe use P (.ref s₂.heap.objs.size) hpL.objs.size) { s₂ with heap:=h₁,toks:=s₂.toks+([]:List (Str×aa)).length }:=by
  refine Ie (λn s'=>∃i acc H',Inv (uh X N' scope (wI X.env.cells scope.names) hpL.objs.size fp { s₂ with heap:=hpL } (upd H2 s₂.heap.objs.size (.lst []))) [] (vS k cap σ) H' s'/\tn i s'.heap/\(∀b∈fp,H' b=none)/\W i n acc H')
   ?_ m0 ⟨0,[],_,IX,st4,λb hb=>?_,w0⟩
  ·rintro n s3 ⟨i,acc,H3,I4,st3,fr3,w3⟩;rcases turn i n acc H3 w3 with ⟨stop,qn⟩|⟨go,step⟩
   ·refine thn (T.done (uh X N' scope (wI X.env.cells scope.names) hpL.objs.size fp { s₂ with heap:=hpL } (upd H2 s₂.heap.objs.size (.lst []))) rfl rfl rfl hc i [] s3 _ H3 _ I4 (stat fr3) st3 stop) λr s4 ⟨hr,I5⟩=>?_;subst hr;obtain⟨m,hn,_⟩:=id I5.loc;have U:=I5.base;refine fin _ _ m _ _ _ hn (I3.call' (s':=s4) (ch:=fp) I5.os ⟨λb o e n hb hx=>U.keep b o e n hb hx,λb o e n hb hx=>U.slot b o e n hb hx,U.free,λb o e hx=>U.there b o e hx,U.tups,U.frzs,U.tbls⟩ I5.hok I5.bare
     λb hb=>⟨(f2 b hb).2.2.2.1,(f2 b hb).2.1,(f2 b hb).2.2.2.2.1,(f2 b hb).2.2.2.2.2⟩) (I3.fpOk (aF _) I5.free) qn
   ·refine thn (T.item (uh X N' scope (wI X.env.cells scope.names) hpL.objs.size fp { s₂ with heap:=hpL } (upd H2 s₂.heap.objs.size (.lst []))) rfl rfl rfl hc i [] s3 _ H3 _ I4 (stat fr3) st3 go) λr s4 ⟨u,hr,h4⟩=>?_;subst hr;refine thn h4 λ_ s5 ⟨x,H5,I5,r5,y5,st5,fr5⟩=>?_;have I5':=I5.pinned (stat fr5) (T.obj _ _ st5);have again:∀{H8:Hp} {s8:ae} {σ8:St} {acc8:bC} {m':Nat},Inv (uh X N' scope (wI X.env.cells scope.names) hpL.objs.size fp { s₂ with heap:=hpL } (upd H2 s₂.heap.objs.size (.lst []))) ([]++EB fp s5.heap) σ8 H8 s8->σ8.drop k=(vS k cap σ).drop k->m'<n->W (i+1) m' acc8 H8->
      ∃m,m<n/\∃i acc H',Inv (uh X N' scope (wI X.env.cells scope.names) hpL.objs.size fp { s₂ with heap:=hpL } (upd H2 s₂.heap.objs.size (.lst []))) [] (vS k cap σ) H' s8/\tn i s8.heap/\(∀b∈fp,H' b=none)/\W i m acc H':=λ{H8 s8 σ8 acc8 m'} I8 hd8 hm8 w8=>by
     refine⟨m',hm8,i+1,acc8,H8,I8.unpinned.weak (IX.len.trans I8.len.symm) (λj v e=>?_),T.keep _ _ _ st5 λb hb o e=>(I8.pin (b,o) (bO _ (bO _ (xB hb e)))).1,λb hb=>?_,w8⟩
     ·have hj:=GI e;have q:(σ8.drop k)[j - k]?=((vS k cap σ).drop k)[j - k]?:=by rw[hd8]
      rw[cX,cX,show k+(j - k)=j by omega]at q;rw[q];exact e
     ·obtain⟨o,e,d⟩:=T.obj _ _ st5 b hb;exact(I8.pin (b,o) (bO _ (bO _ (xB hb e)))).2.1
    refine bV ((body _ _ _ _ _).1 _ s5 _ H5 x u _ I5' r5 (step x H5 y5)) (λ_ s6 h6=>?_) λ_ _ f=>f.elim;obtain⟨σ6,H6,I6,hd6,q6⟩:=h6;refine bV ((body _ _ _ _ _).2.1 _ s6 σ6 H6 _ I6 q6) (λb s7 h7=>?_) λ_ _ f=>f.elim;obtain⟨H7,I7,q7⟩:=h7;cases b with
    |false=>rw[aj br]at q7;rw[aj br];obtain⟨m',hm',w7⟩:=q7;exact again I7 hd6 hm' w7
    |true=>rw[ai rfl]at q7;rw[ai rfl];refine bV ((body _ _ _ _ _).2.2 _ s7 σ6 H7 _ I7 q7) (λyv s8 h8=>?_) λ_ _ f=>f.elim;obtain⟨y,H8,I8,r8,acc',hp8,hl8,m',hm',w8⟩:=h8;refine bV (CH (X:=uh X N' scope (wI X.env.cells scope.names) hpL.objs.size fp { s₂ with heap:=hpL } (upd H2 s₂.heap.objs.size (.lst []))) _ s8 σ6 H8 (.ref s₂.heap.objs.size) [y] (.ref s₂.heap.objs.size) [yv] (λ_ Hx=>Hx=upd H8 s₂.heap.objs.size (.lst (acc'++[y]))) I8 rfl (.cons r8 .nil) ⟨_,acc',y,rfl,rfl,hp8,hl8,rfl⟩) (λ_ s9 h9=>?_) λ_ _ f=>f.elim;obtain⟨_,H9,I9,_,e9⟩:=h9;subst e9;exact again I9 hd6 hm' w8
  ·have z:b≠s₂.heap.objs.size:=aY (hfpS b hb);rw[sf z];exact(f2 b hb).1
 exact codeAny_compStart_list loop (T.self _ 0 _ _ _ st4 loop)
theorem RY{cap:List Nat}
  (hc:X.calm=true) (hi:PI X tg iter wi)
  (body:∀(cl:List (Str×Addr)) (C:Addr) (fp:List Addr) (s:ae) (H:Hp),PG (uh X N' scope cl C fp s H) tg g/\PIf (uh X N' scope cl C fp s H) ifs tt/\PE (uh X N' scope cl C fp s H) elt te)
  (hkind:scope.kind=.function:=by rfl) (hcell:(scope.names.all λy=>y.2 != .cell)=true:=by rfl)
  (hloc:(scope.names.all λy=>y.2 != .local||scope.names.lookup y.1==some .local)=true:=by rfl)
  (hfree:(scope.names.all λy=>y.2 != .free||(X.env.kindOf y.1==some .cell||X.env.kindOf y.1==some .free))=true:=by rfl)
  (hlen:N'.length=k+cap.length:=by rfl) (hcap:(N'.drop k).map some=cap.map λj=>X.N[j]?:=by rfl)
  (hcf:((N'.drop k).all λx=>scope.names.lookup x==some .free)=true:=by rfl)
  (hs:∀x,foldedSetIterable iter X.env x=pure x:=by intro _;rfl):
  PE X (.ListComp elt [⟨tg,iter,ifs,0⟩] scope pos) (ES wi g tt te k cap):=by
 intro pins s σ H Q I h;exact GK hc hi body hkind hcell hloc hfree hlen hcap hcf hs I h λa C m u s4 H3 hn back fpC qn=>⟨m,hn,λh' hs'=>⟨.ref a,H3,back.turned (t':=s4.toks) (λb o hb e=>(hs'.2 b hb).trans e) fpC.1 fpC.2.1 fpC.2.2.2.1 fpC.2.2.2.2.1 fpC.2.2.2.2.2,rfl,qn⟩⟩
def Its(x:Str):It:=⟨λi _=>i<x.cps.size,λi H v H'=>H'=H/\∃c,x.cps[i]?=some c/\v=.str ⟨#[c]⟩,λi _=>i=x.cps.size⟩
theorem VA(hQ:Q () s):wpAny M A (letOwnedTupleGo tg (.ref it) (.str c t)) Q E s:=by unfold letOwnedTupleGo;cases tg<;>exact az hQ
theorem Jm{K:ar}(it:Addr)(ty:String)(x:Str)(t:Tok)
  (hW:∀A:aQ,A.handled=none->Walks P w A it [it] [it] x.cps.size (SignAt x) (λi h=>h.IsStrIter it ty x t i))
  (hS:∀(A:aQ) (i:Nat) (s:ae) (Q:aa->ae->Prop) (E:aa->ae->Prop),s.heap.IsStrIter it ty x t i->Q (.ref it) s->wpAny (model P w) A (pyIter (.ref it)) Q E s):
  Turn P w K tg (Its x) [it] it (λi h=>h.IsStrIter it ty x t i) where
 mem:=by simp
 obj:=λi h st b hb=>by
  have e:b=it:=by simpa using hb
  subst e;obtain⟨o,e,c,d⟩:=st;exact⟨o,e,λv z=>by rw[d]at z;cases z⟩
 keep:=λi h h' st k=>by obtain⟨o,e,r⟩:=st;exact⟨o,k it (by simp) o e,r⟩
 item:=by intro X hP hw hK hc i pins s σ H E I hf st hg;subst hP hw hK;obtain⟨f0,f1,f2,f3,f4,f5⟩:=hf it (by simp);refine(hW _ (I.ok.hd hc)).item i s _ _ hg st λv h' tk hv st' kk=>?_;obtain⟨c,t',hc',rfl⟩:=hv;have I1:Inv X pins σ H { s with heap:=h',toks:=tk }:=I.turned (λb o hb e=>kk b o (by simpa using hb) e) f0 f1 f3 f4 f5;exact⟨_,rfl,VA ⟨.str ⟨#[c]⟩,H,I1,⟨t',rfl⟩,⟨rfl,c,hc',rfl⟩,st',λb hb=>(hf b hb).1⟩⟩
 done:=by intro X hP hw hK hc i pins s σ H E I hf st hg;subst hP hw hK;obtain⟨f0,f1,f2,f3,f4,f5⟩:=hf it (by simp);have hg':i=x.cps.size:=hg;subst hg';exact(hW _ (I.ok.hd hc)).done s _ _ st λh' tk kk=>⟨rfl,I.turned (λb o hb e=>kk b o (by simpa using hb) e) f0 f1 f3 f4 f5⟩
 self:=hS
section
variable{X:Cx}{tg:Expr}
def Zj(tl:TE):TI:=λσ H R=>tl σ H λv H1=>∃x,v=.str x/\R (Its x) H1
theorem VB(hl:PE X l tl):PI X tg l (Zj tl):=by
 intro pins s σ H R I h;refine thn (hl pins s σ H _ I h) λv s1 ⟨x,H1,I1,r1,q1⟩=>?_;obtain⟨z,e,q⟩:=q1;subst e;obtain⟨t,rfl⟩:=r1;have fp:∀b∈[s1.heap.objs.size],Ga X pins H1 b:=λb hb=>by
  have e:b=s1.heap.objs.size:=by simpa using hb
  subst e;exact I1.fpOk (aF _) (I1.hok.fresh (aF _))
 cases ha:z.cps.all (· < 128)
 ·refine wpAny_pyIter_wide ha ⟨s1.heap.objs.size,[s1.heap.objs.size],_,_,H1,rfl,I1.kept (t':=s1.toks) λb o e=>aJ _ e,Jm _ "str_iterator" z t (λA hA=>Walks.strWide hA _ z t) (λA i s Q E st hQ=>wpAny_pyIter_striter_wide st hQ),⟨_,bz _ rfl,rfl,rfl⟩,fp,q⟩
 ·refine wpAny_pyIter_ascii ha ⟨s1.heap.objs.size,[s1.heap.objs.size],_,_,H1,rfl,I1.kept (t':=s1.toks) λb o e=>aJ _ e,Jm _ "str_ascii_iterator" z t (λA hA=>Walks.strAscii hA _ z t) (λA i s Q E st hQ=>wpAny_pyIter_striter_ascii st hQ),⟨_,bz _ rfl,rfl,rfl⟩,fp,q⟩
end
section
variable{X:Cx}
theorem Nn:OpR X (compareOp .LtE) (λx y H Q=>∃i j,x=.str i/\y=.str j/\Q (.bl (!decide (j.cps.toList<i.cps.toList))) H):=by intro pins s σ H x y v u Q I rx ry h;obtain⟨i,j,rfl,rfl,q⟩:=h;obtain⟨t,rfl⟩:=rx;obtain⟨t',rfl⟩:=ry;exact PySem.P.le_str (sW I q rfl)
theorem OS(hc:X.calm=true):uf X (.builtin "all") (λxs H Q=>∃(p:Addr) (bs:List Bool),xs=[.ref p]/\SqL X.K H p (bs.map V.bl)/\Q (.bl (bs.all id)) H):=by
 intro pins s σ H xs us Q I r h;obtain⟨p,bs,rfl,hq,q⟩:=h;obtain⟨u,rfl,ru⟩:=vals1 r;cases ru;obtain⟨its,rv,pl,hz⟩:=I.list hq;have hlt:p<s.heap.objs.size:=by obtain⟨o,ho,_⟩:=pl.isList;exact aM ho
 have hl:bs.length=its.length:=by have:=rv.length;rw[ag]at this;exact this
 refine call_all_walk (gE pl.isList ⟨s.heap.objs.size,_,_,_,_,_,λi=>(bs[i]?).getD true,rfl,jm (show X.A.in1.handled=none from I.ok.hd hc) _ p (aY hlt) its.toArray,⟨⟨_,bz _ rfl,rfl,rfl⟩,?_⟩,?_,λh' tk hk=>?_⟩)
 ·exact pl.isList.at λo e=>aJ _ e
 ·intro i v s' Q' E' hv hQ';have hv':its[i]?=some v:=by simpa using hv
  have hi:i<its.length:=(bS.mp hv').1;have hb:(bs.map V.bl)[i]?=some (.bl (bs[i]'(by omega))):=by simp[show i<bs.length by omega]
  obtain⟨u,hu,ru⟩:=rv.get hb;rw[hv']at hu;cases hu;cases ru;refine cN ?_;have e:(bs[i]?).getD true=bs[i]'(by omega):=by simp[show i<bs.length by omega]
  rw[<-e];exact hQ'
 ·refine⟨.bl (bs.all id),H,?_,?_,q⟩
  ·exact I.kept (t':=tk) λb o e=>hk b o (by simp;exact aY (aM e)) (aJ _ e)
  ·show Value.bool _=Value.bool _;congr 1;rw[bg,<- hl];rw[cB];simp only[bD,cu,id];constructor
   ·intro hh b hb;obtain⟨i,hi,rfl⟩:=kg.mp hb;have:=hh i hi;simpa [hi]using this
   ·intro hh i hi;simp only[aN hi,o6];exact hh _ (dg hi)
end
inductive Dq where
 |non|bl (b:Bool)|int (i:Int)|str (x:Str)|tup (ds:List Dq)|lst (ds:List Dq)
mutual
def Rep(K:ar)(H:Hp):Dq->V->Prop
 |.non,v=>v=.non
 |.bl b,v=>v=.bl b
 |.int i,v=>v=.int i
 |.str x,v=>v=.str x
 |.tup ds,v=>∃a xs,v=.ref a/\SqT K H a xs/\r6 K H ds xs
 |.lst ds,v=>∃a xs,v=.ref a/\SqL K H a xs/\r6 K H ds xs
def r6(K:ar)(H:Hp):List Dq->bC->Prop
 |[],xs=>xs=[]
 |d::ds,xs=>∃v r,xs=v::r/\Rep K H d v/\r6 K H ds r
end
mutual
def eqD:Dq->Dq->Bool
 |.non,.non=>true
 |.bl a,.bl b=>a==b
 |.bl a,.int b=>(if a then 1 else 0)==b
 |.int a,.bl b=>a==(if b then 1 else 0)
 |.int a,.int b=>a==b
 |.str a,.str b=>a==b
 |.tup a,.tup b=>wJ a b
 |.lst a,.lst b=>wJ a b
 |_,_=>false
def wJ:List Dq->List Dq->Bool
 |[],[]=>true
 |a::r,b::q=>eqD a b&&wJ r q
 |_,_=>false
end
mutual
def dpt:Dq->Nat
 |.tup ds=>uB ds+1
 |.lst ds=>uB ds+1
 |_=>0
def uB:List Dq->Nat
 |[]=>0
 |d::r=>max (dpt d) (uB r)
end
mutual
theorem Jn:∀d:Dq,eqD d d=true
 |.non=>by unfold eqD;rfl
 |.bl b=>by unfold eqD;simp
 |.int i=>by unfold eqD;simp
 |.str x=>by unfold eqD;simp
 |.tup ds=>by unfold eqD;exact CJ ds
 |.lst ds=>by unfold eqD;exact CJ ds
theorem CJ:∀ds:List Dq,wJ ds ds=true
 |[]=>by unfold wJ;rfl
 |d::r=>by unfold wJ;rw[Jn d,CJ r];rfl
end
theorem r9{K:ar}:∀{ds:List Dq} {xs:bC},r6 K H ds xs->ds.length=xs.length
 |[],xs,h=>by unfold r6 at h;subst h;rfl
 |d::ds,xs,h=>by unfold r6 at h;obtain⟨v,r,rfl,_,h2⟩:=h;rw[aE,aE,r9 h2]
def eAt(ds ds':List Dq)(j:Nat):Bool:=match ds[j]?,ds'[j]? with
 |some a,some b=>eqD a b
 |_,_=>true
theorem ET:∀(ds ds':List Dq),wJ ds ds'=true ↔ ds.length=ds'.length/\∀j,j<ds.length->eAt ds ds' j=true
 |[],[]=>by simp[wJ]
 |[],b::q=>by simp[wJ]
 |a::r,[]=>by simp[wJ]
 |a::r,b::q=>by
  have ih:=ET r q;unfold wJ;rw[bh,ih,aE,aE];constructor
  ·rintro⟨h1,h2,h3⟩;refine⟨by omega,λj hj=>?_⟩;cases j with
   |zero=>exact h1
   |succ j=>exact h3 j (by omega)
  ·rintro⟨h1,h2⟩;exact⟨h2 0 (by omega),by omega,λj hj=>h2 (j+1) (by omega)⟩
variable{ds ds':List Dq}
theorem y6(hn:ds.length=n)(hm:ds'.length=m):((bB (min n m)).all (eAt ds ds')&&n==m)=wJ ds ds':=by
 rw[cB,ET,bh,bD];subst hn hm;constructor
 ·rintro⟨h1,h2⟩;have e:ds.length=ds'.length:=by simpa using h2
  exact⟨e,λj hj=>h1 j (cu.mpr (by omega))⟩
 ·rintro⟨e,h⟩;exact⟨λj hj=>h j (by have:=cu.mp hj;omega),by simpa using e⟩
theorem z7(hn:ds.length=n)(hm:ds'.length=n):(bB n).all (eAt ds ds')=wJ ds ds':=by rw[<-y6 hn hm];simp
theorem EU(h:ds.length≠ds'.length):wJ ds ds'=false:=by
 cases e:wJ ds ds' with
 |false=>rfl
 |true=>exact aq ((ET ds ds').mp e).1 h
section
variable{X:Cx}{pins:cy}{σ:St}{H:Hp}{s:ae}
theorem Uw(I:Inv X pins σ H s)(h:SqL X.K H a xs)(h':SqT X.K H a ys):False:=by obtain⟨its,_,p,_⟩:=I.list h;obtain⟨its',_,p',_⟩:=I.tuple h';exact SeqAt.ne_of_list_tuple p.isList (show s.heap.IsTuple a its'.toArray from p') rfl
mutual
theorem EV(I:Inv X pins σ H s):∀(d d':Dq) (v:V),Rep X.K H d v->Rep X.K H d' v->eqD d d'=true
 |.non,d',v,h,h'=>by unfold Rep at h;subst h;cases d'<;>unfold Rep at h'<;>first|rfl|(exact nomatch h')|(obtain⟨_,_,e,_⟩:=h';exact nomatch e)
 |.bl b,d',v,h,h'=>by unfold Rep at h;subst h;cases d'<;>unfold Rep at h'<;>first|(obtain⟨_,_,e,_⟩:=h';cases e)|(cases h'<;>simp[eqD])
 |.int b,d',v,h,h'=>by unfold Rep at h;subst h;cases d'<;>unfold Rep at h'<;>first|(obtain⟨_,_,e,_⟩:=h';cases e)|(cases h'<;>simp[eqD])
 |.str b,d',v,h,h'=>by unfold Rep at h;subst h;cases d'<;>unfold Rep at h'<;>first|(obtain⟨_,_,e,_⟩:=h';cases e)|(cases h'<;>simp[eqD])
 |.tup ds,d',v,h,h'=>by
  unfold Rep at h;obtain⟨a,xs,rfl,hq,hr⟩:=h;cases d' with
  |tup ds'=>unfold Rep at h';obtain⟨a',xs',e,hq',hr'⟩:=h';cases e;have ex:=I.tuple_inj hq hq';subst ex;unfold eqD;exact CK I ds ds' xs hr hr'
  |lst ds'=>unfold Rep at h';obtain⟨a',xs',e,hq',hr'⟩:=h';cases e;exact(Uw I hq' hq).elim
  |_=>unfold Rep at h';exact nomatch h'
 |.lst ds,d',v,h,h'=>by
  unfold Rep at h;obtain⟨a,xs,rfl,hq,hr⟩:=h;cases d' with
  |lst ds'=>unfold Rep at h';obtain⟨a',xs',e,hq',hr'⟩:=h';cases e;have ex:=I.list_inj hq hq';subst ex;unfold eqD;exact CK I ds ds' xs hr hr'
  |tup ds'=>unfold Rep at h';obtain⟨a',xs',e,hq',hr'⟩:=h';cases e;exact(Uw I hq hq').elim
  |_=>unfold Rep at h';exact nomatch h'
theorem CK(I:Inv X pins σ H s):∀(ds ds':List Dq) (xs:bC),r6 X.K H ds xs->r6 X.K H ds' xs->wJ ds ds'=true
 |[],ds',xs,h,h'=>by
  unfold r6 at h;subst h;cases ds' with
  |nil=>rfl
  |cons d r=>unfold r6 at h';obtain⟨_,_,e,_⟩:=h';exact nomatch e
 |d::ds,ds',xs,h,h'=>by
  unfold r6 at h;obtain⟨v,r,rfl,h1,h2⟩:=h;cases ds' with
  |nil=>unfold r6 at h';exact nomatch h'
  |cons d' r'=>unfold r6 at h';obtain⟨v',q,e,h1',h2'⟩:=h';cases e;unfold wJ;rw[EV I d d' v h1 h1',CK I ds r' r h2 h2'];rfl
end
mutual
theorem OT(I:Inv X pins σ H s):∀(d d':Dq) (x y:V) (u v:aa) (A:aQ),Rep X.K H d x->Rep X.K H d' y->RelV x u->RelV y v->A.units+dpt d+dpt d'<cLine->jl A s u v (eqD d d')
 |.tup ds,d',x,y,u,v,A,hx,hy,ru,rv,hu=>by
  unfold Rep at hx;obtain⟨a,xs,rfl,hq,hr⟩:=hx;cases ru;obtain⟨its,rx,p,_⟩:=I.tuple hq;have p:s.heap.IsTuple a its.toArray:=p;cases d' with
  |non=>unfold Rep at hy;subst hy;cases rv;exact SeqAt.EqAt.tuple_none p (by omega)
  |bl b=>unfold Rep at hy;subst hy;cases rv;exact SeqAt.EqAt.tuple_bool b p (by omega)
  |int b=>unfold Rep at hy;subst hy;obtain⟨t,rfl⟩:=rv;exact SeqAt.EqAt.tuple_int b t p (by omega)
  |str b=>unfold Rep at hy;subst hy;obtain⟨t,rfl⟩:=rv;exact SeqAt.EqAt.tuple_str b t p (by omega)
  |lst ds'=>unfold Rep at hy;obtain⟨b,ys,rfl,hq',hr'⟩:=hy;cases rv;obtain⟨its',ry,p',_⟩:=I.list hq';exact SeqAt.EqAt.tuple_list p p'.isList (by omega)
  |tup ds'=>
   have hy0:=hy;unfold Rep at hy;obtain⟨b,ys,rfl,hq',hr'⟩:=hy;cases rv;obtain⟨its',ry,p',_⟩:=I.tuple hq';have p':s.heap.IsTuple b its'.toArray:=p';by_cases hab:a=b
   ·subst hab;have e:eqD (.tup ds) (.tup ds')=true:=EV I _ _ (.ref a) (by unfold Rep;exact⟨a,xs,rfl,hq,hr⟩) hy0;rw[e];exact gR _
   ·have hd:dpt (.tup ds)=uB ds+1:=by rw[dpt]
    have hd':dpt (.tup ds')=uB ds'+1:=by rw[dpt]
    have q:=SeqAt.RcAt.tuples (A:=A) (e:=eAt ds ds') p p' (by omega) λj h1 h2=>by have z:=y7 I ds ds' xs ys its its' A.in1 hr hr' rx ry (by show A.units+1+uB ds+uB ds'<cLine;omega) j (by simpa using h1) (by simpa using h2);simpa using z
    rw[y6 (by rw[r9 hr,rx.length];simp) (by rw[r9 hr',ry.length];simp)]at q;exact kA hab (by unfold eqD;exact q)
 |.lst ds,d',x,y,u,v,A,hx,hy,ru,rv,hu=>by
  unfold Rep at hx;obtain⟨a,xs,rfl,hq,hr⟩:=hx;cases ru;obtain⟨its,rx,p,_⟩:=I.list hq;have p:=p.isList;cases d' with
  |non=>unfold Rep at hy;subst hy;cases rv;exact SeqAt.EqAt.list_none p (by omega)
  |bl b=>unfold Rep at hy;subst hy;cases rv;exact SeqAt.EqAt.list_bool b p (by omega)
  |int b=>unfold Rep at hy;subst hy;obtain⟨t,rfl⟩:=rv;exact SeqAt.EqAt.list_int b t p (by omega)
  |str b=>unfold Rep at hy;subst hy;obtain⟨t,rfl⟩:=rv;exact SeqAt.EqAt.list_str b t p (by omega)
  |tup ds'=>unfold Rep at hy;obtain⟨b,ys,rfl,hq',hr'⟩:=hy;cases rv;obtain⟨its',ry,p',_⟩:=I.tuple hq';exact SeqAt.EqAt.list_tuple p (show s.heap.IsTuple b its'.toArray from p') (by omega)
  |lst ds'=>
   have hy0:=hy;unfold Rep at hy;obtain⟨b,ys,rfl,hq',hr'⟩:=hy;cases rv;obtain⟨its',ry,p',_⟩:=I.list hq';have p':=p'.isList;by_cases hab:a=b
   ·subst hab;have e:eqD (.lst ds) (.lst ds')=true:=EV I _ _ (.ref a) (by unfold Rep;exact⟨a,xs,rfl,hq,hr⟩) hy0;rw[e];exact gR _
   ·have hd:dpt (.lst ds)=uB ds+1:=by rw[dpt]
    have hd':dpt (.lst ds')=uB ds'+1:=by rw[dpt]
    by_cases hl:its.length=its'.length
    ·have q:=SeqAt.RcAt.lists (A:=A) (e:=eAt ds ds') p p' (by simpa using hl) (by omega) λj h1 h2=>by have z:=y7 I ds ds' xs ys its its' A.in1 hr hr' rx ry (by show A.units+1+uB ds+uB ds'<cLine;omega) j (by simpa using h1) (by simpa using h2);simpa using z
     rw[z7 (by rw[r9 hr,rx.length];simp) (by rw[r9 hr',ry.length,<- hl];simp)]at q;exact kA hab (by unfold eqD;exact q)
    ·have e:eqD (.lst ds) (.lst ds')=false:=by unfold eqD;exact EU (by rw[r9 hr,r9 hr',rx.length,ry.length];exact hl)
     rw[e];exact kA hab (SeqAt.RcAt.lists_lengths p p' (by simpa using hl) (by omega))
 |.non,d',x,y,u,v,A,hx,hy,ru,rv,hu=>by
  unfold Rep at hx;subst hx;cases d' with
  |tup ds'=>unfold Rep at hy;obtain⟨b,ys,rfl,hq',hr'⟩:=hy;cases rv;cases ru;obtain⟨its',ry,p',_⟩:=I.tuple hq';exact SeqAt.EqAt.none_tuple (show s.heap.IsTuple b its'.toArray from p') (by omega)
  |lst ds'=>unfold Rep at hy;obtain⟨b,ys,rfl,hq',hr'⟩:=hy;cases rv;cases ru;obtain⟨its',ry,p',_⟩:=I.list hq';exact SeqAt.EqAt.none_list p'.isList (by omega)
  |_=>unfold Rep at hy;subst hy;exact EJ ru rv rfl rfl
 |.bl c,d',x,y,u,v,A,hx,hy,ru,rv,hu=>by
  unfold Rep at hx;subst hx;cases d' with
  |tup ds'=>unfold Rep at hy;obtain⟨b,ys,rfl,hq',hr'⟩:=hy;cases rv;cases ru;obtain⟨its',ry,p',_⟩:=I.tuple hq';exact SeqAt.EqAt.bool_tuple c (show s.heap.IsTuple b its'.toArray from p') (by omega)
  |lst ds'=>unfold Rep at hy;obtain⟨b,ys,rfl,hq',hr'⟩:=hy;cases rv;cases ru;obtain⟨its',ry,p',_⟩:=I.list hq';exact SeqAt.EqAt.bool_list c p'.isList (by omega)
  |_=>unfold Rep at hy;subst hy;exact EJ ru rv rfl rfl
 |.int c,d',x,y,u,v,A,hx,hy,ru,rv,hu=>by
  unfold Rep at hx;subst hx;cases d' with
  |tup ds'=>unfold Rep at hy;obtain⟨b,ys,rfl,hq',hr'⟩:=hy;cases rv;obtain⟨t,rfl⟩:=ru;obtain⟨its',ry,p',_⟩:=I.tuple hq';exact SeqAt.EqAt.int_tuple c t (show s.heap.IsTuple b its'.toArray from p') (by omega)
  |lst ds'=>unfold Rep at hy;obtain⟨b,ys,rfl,hq',hr'⟩:=hy;cases rv;obtain⟨t,rfl⟩:=ru;obtain⟨its',ry,p',_⟩:=I.list hq';exact SeqAt.EqAt.int_list c t p'.isList (by omega)
  |_=>unfold Rep at hy;subst hy;exact EJ ru rv rfl rfl
 |.str c,d',x,y,u,v,A,hx,hy,ru,rv,hu=>by
  unfold Rep at hx;subst hx;cases d' with
  |tup ds'=>unfold Rep at hy;obtain⟨b,ys,rfl,hq',hr'⟩:=hy;cases rv;obtain⟨t,rfl⟩:=ru;obtain⟨its',ry,p',_⟩:=I.tuple hq';exact SeqAt.EqAt.str_tuple c t (show s.heap.IsTuple b its'.toArray from p') (by omega)
  |lst ds'=>unfold Rep at hy;obtain⟨b,ys,rfl,hq',hr'⟩:=hy;cases rv;obtain⟨t,rfl⟩:=ru;obtain⟨its',ry,p',_⟩:=I.list hq';exact SeqAt.EqAt.str_list c t p'.isList (by omega)
  |_=>unfold Rep at hy;subst hy;exact EJ ru rv rfl rfl
theorem y7(I:Inv X pins σ H s):∀(ds ds':List Dq) (xs ys:bC) (us vs:List aa) (A:aQ),r6 X.K H ds xs->r6 X.K H ds' ys->Vals xs us->Vals ys vs->A.units+uB ds+uB ds'<cLine->
  ∀(j:Nat) (h1:j<us.length) (h2:j<vs.length),jl A s us[j] vs[j] (eAt ds ds' j)
 |[],ds',xs,ys,us,vs,A,hx,hy,ru,rv,hu,j,h1,h2=>by
  have:=r9 hx;have:=ru.length;simp only[cO]at *
  omega
 |d::ds,[],xs,ys,us,vs,A,hx,hy,ru,rv,hu,j,h1,h2=>by
  have:=r9 hy;have:=rv.length;simp only[cO]at *
  omega
 |d::ds,d'::ds',xs,ys,us,vs,A,hx,hy,ru,rv,hu,j,h1,h2=>by
  unfold r6 at hx hy;obtain⟨x,xr,rfl,hx1,hx2⟩:=hx;obtain⟨y,yr,rfl,hy1,hy2⟩:=hy;have e1:uB (d::ds)=max (dpt d) (uB ds):=by rw[uB]
  have e2:uB (d'::ds')=max (dpt d') (uB ds'):=by rw[uB]
  cases ru with
  |cons r1 r2=>
   cases rv with
   |cons q1 q2=>
    cases j with
    |zero=>exact OT I d d' x y _ _ A hx1 hy1 r1 q1 (by omega)
    |succ j=>exact y7 I ds ds' xr yr _ _ A hx2 hy2 r2 q2 (by omega) j (by simpa using h1) (by simpa using h2)
end
def GL:Dq->Dq->Bool
 |.tup _,.tup _=>true
 |.lst _,.lst _=>true
 |_,_=>false
def KR(K:ar)(neg:Bool):R2:=λx y H Q=>∃d d',Rep K H d x/\Rep K H d' y/\GL d d'=true/\dpt d<=20/\dpt d'<=20/\Q (.bl (if neg then !eqD d d' else eqD d d')) H
theorem VC(hu:X.A.units+64<cLine):OpR X (compareOp .Eq) (KR X.K false):=by
 intro pins s σ H x y u v Q I ru rv h;obtain⟨d,d',hx,hy,hd,h1,h2,q⟩:=h;cases d with
 |tup ds=>
  cases d' with
  |tup ds'=>
   have hd1:dpt (.tup ds)=uB ds+1:=by rw[dpt]
   have hd2:dpt (.tup ds')=uB ds'+1:=by rw[dpt]
   unfold Rep at hx hy;obtain⟨a,xs,rfl,hq,hr⟩:=hx;obtain⟨b,ys,rfl,hq',hr'⟩:=hy;cases ru;cases rv;obtain⟨its,rx,p,_⟩:=I.tuple hq;obtain⟨its',ry,p',_⟩:=I.tuple hq';refine SeqAt.eq_tupleAt (e:=eAt ds ds') (show s.heap.IsTuple a its.toArray from p) (show s.heap.IsTuple b its'.toArray from p') (by omega) (λj h1 h2=>?_) ?_
   ·have z:=y7 I ds ds' xs ys its its' X.A.in1 hr hr' rx ry (by show X.A.units+1+uB ds+uB ds'<cLine;omega) j (by simpa using h1) (by simpa using h2);simpa using z
   ·rw[y6 (by rw[r9 hr,rx.length];simp) (by rw[r9 hr',ry.length];simp)];unfold eqD at q;exact sW I q rfl
  |_=>exact nomatch hd
 |lst ds=>
  cases d' with
  |lst ds'=>
   have hd1:dpt (.lst ds)=uB ds+1:=by rw[dpt]
   have hd2:dpt (.lst ds')=uB ds'+1:=by rw[dpt]
   unfold Rep at hx hy;obtain⟨a,xs,rfl,hq,hr⟩:=hx;obtain⟨b,ys,rfl,hq',hr'⟩:=hy;cases ru;cases rv;obtain⟨its,rx,p,_⟩:=I.list hq;obtain⟨its',ry,p',_⟩:=I.list hq';by_cases hl:its.length=its'.length
   ·refine SeqAt.eq_listAt (e:=eAt ds ds') p.isList p'.isList (by simpa using hl) (by omega) (λj h1 h2=>?_) ?_
    ·have z:=y7 I ds ds' xs ys its its' X.A.in1 hr hr' rx ry (by show X.A.units+1+uB ds+uB ds'<cLine;omega) j (by simpa using h1) (by simpa using h2);simpa using z
    ·rw[z7 (by rw[r9 hr,rx.length];simp) (by rw[r9 hr',ry.length,<- hl];simp)];unfold eqD at q;exact sW I q rfl
   ·refine SeqAt.eq_list_lengthsAt p.isList p'.isList (by simpa using hl) (by omega) ?_;have e:wJ ds ds'=false:=EU (by rw[r9 hr,r9 hr',rx.length,ry.length];exact hl);unfold eqD at q;rw[e]at q;exact sW I q rfl
  |_=>exact nomatch hd
 |_=>exact nomatch hd
theorem VD(hu:X.A.units+64<cLine):OpR X (compareOp .NotEq) (KR X.K true):=by
 intro pins s σ H x y u v Q I ru rv h;obtain⟨d,d',hx,hy,hd,h1,h2,q⟩:=h;cases d with
 |tup ds=>
  cases d' with
  |tup ds'=>
   have hd1:dpt (.tup ds)=uB ds+1:=by rw[dpt]
   have hd2:dpt (.tup ds')=uB ds'+1:=by rw[dpt]
   unfold Rep at hx hy;obtain⟨a,xs,rfl,hq,hr⟩:=hx;obtain⟨b,ys,rfl,hq',hr'⟩:=hy;cases ru;cases rv;obtain⟨its,rx,p,_⟩:=I.tuple hq;obtain⟨its',ry,p',_⟩:=I.tuple hq';have w:=SeqAt.RcNeAt.tuples (A:=X.A) (e:=eAt ds ds') (show s.heap.IsTuple a its.toArray from p) (show s.heap.IsTuple b its'.toArray from p') (by omega) (λj h1 h2=>by
    have z:=y7 I ds ds' xs ys its its' X.A.in1 hr hr' rx ry (by show X.A.units+1+uB ds+uB ds'<cLine;omega) j (by simpa using h1) (by simpa using h2);simpa using z)
   rw[y6 (by rw[r9 hr,rx.length];simp) (by rw[r9 hr',ry.length];simp)]at w;unfold eqD at q;exact w X.prog X.w X.xe _ (sW I q rfl)
  |_=>exact nomatch hd
 |lst ds=>
  cases d' with
  |lst ds'=>
   have hd1:dpt (.lst ds)=uB ds+1:=by rw[dpt]
   have hd2:dpt (.lst ds')=uB ds'+1:=by rw[dpt]
   unfold Rep at hx hy;obtain⟨a,xs,rfl,hq,hr⟩:=hx;obtain⟨b,ys,rfl,hq',hr'⟩:=hy;cases ru;cases rv;obtain⟨its,rx,p,_⟩:=I.list hq;obtain⟨its',ry,p',_⟩:=I.list hq';by_cases hl:its.length=its'.length
   ·have w:=SeqAt.RcNeAt.lists (A:=X.A) (e:=eAt ds ds') p.isList p'.isList (by simpa using hl) (by omega) (λj h1 h2=>by
     have z:=y7 I ds ds' xs ys its its' X.A.in1 hr hr' rx ry (by show X.A.units+1+uB ds+uB ds'<cLine;omega) j (by simpa using h1) (by simpa using h2);simpa using z)
    rw[z7 (by rw[r9 hr,rx.length];simp) (by rw[r9 hr',ry.length,<- hl];simp)]at w;unfold eqD at q;exact w X.prog X.w X.xe _ (sW I q rfl)
   ·have e:wJ ds ds'=false:=EU (by rw[r9 hr,r9 hr',rx.length,ry.length];exact hl);unfold eqD at q;rw[e]at q;exact SeqAt.RcNeAt.lists_lengths p.isList p'.isList (by simpa using hl) (by omega) X.prog X.w X.xe _ (sW I q rfl)
  |_=>exact nomatch hd
 |_=>exact nomatch hd
end
theorem GN{K:ar}:∀l:aB,r6 K H (l.map Dq.str) (l.map V.str)
 |[]=>by rw[bG,bG];unfold r6;rfl
 |x::r=>by rw[au,au];unfold r6;exact⟨_,_,rfl,(by unfold Rep;rfl),GN r⟩
theorem yI:∀l:aB,uB (l.map Dq.str)=0
 |[]=>by rw[bG,uB]
 |x::r=>by rw[au];unfold uB;rw[yI r];unfold dpt;rfl
inductive uk:List Expr->bC->Prop
 |nil:uk [] []
 |cons {x:Str} {j:Nat} {pos:Pos} {es:List Expr} {vs:bC} (h:uk es vs):uk (.Constant (.str x) j pos::es) (.str x::vs)
theorem xE(h:n<=1000):n<=sizeLine:=eO (AN h)
theorem sq.new(x:sq H H1)(hp:H1 p=none)(o:HO):sq H (upd H1 p o):=λb u e=>by have z:=x b u e;rw[sf (uV z hp)];exact z
structure Np(K:ar)(x qual:Str)(st:Stmt)(f:Addr)(fd:bY)(T:Addr):Prop where
 ex:∃(oc:aa) (od:Option Addr) (kV doc pm:aa) (an:Option Addr) (cdv ct:aa) (osl:Array (Option aa)),
  fd=fO x qual (yb st) (tp st) (sE st) (.ref T) kV doc pm an cdv ct/\K.lookup f=some ⟨oc,od,.func fd,osl⟩/\W.codeIn K cdv qual=true
 kp:eS K (.ref f)=true
variable{st:Stmt}
section
variable{P:aU}{w:aI}{K:ar}{mg:Str->Option aa}{base:Heap}
theorem Np.ok(F:Np K x qual st f fd T)(S:ud N ps (sE st))(len:∀vs H Q E,sp vs H Q E->vs.length=ps.length)
  (hbody:∀(cdv:aa) (A:aQ) (outer:List Env) (s:ae) (H:Hp) (vs:bC) (Q:VK) (E:XK),ug k (A.deeper (envOfC qual (sE st) s.heap.objs.size f cdv))->sp vs H Q E->
   ∃t,PSs (Je CX0 P w K mg base N qual (sE st) f cdv A outer s H E).nox (tp st) t/\t { nx:=λ_ H'=>Q .non H',rt:=Q } (L2.start N vs) H):vQ P w K mg base CX0 (k+1) f fd ps sp:=by
 obtain⟨oc,od,kV,doc,pm,an,cdv,ct,osl,rfl,lk,hcd⟩:=F.ex;refine Us lk hcd S len λA outer s H vs Q E hr hsp=>?_;obtain⟨t,h,q⟩:=hbody cdv A outer s H vs Q E hr hsp;exact⟨t,h.nox,q⟩
end
theorem Np.binds{K:ar}{ps:aB}{ds:List aa}(F:Np K x qual st f fd T)(ho:K.lookup T=some o)(hs:o.data=.seq items n)
  (h:∀(kV doc pm:aa) (an:Option Addr) (cdv ct:aa) (us:List aa),us.length=ps.length - ds.length->∃k,bindArgs (fO x qual (yb st) (tp st) (sE st) (.ref T) kV doc pm an cdv ct) ⟨us,[]⟩=seqItems? (.ref T)>>=k/\k (some items)=pure (ps.zip (us++ds))):Binds K fd ps ds:=by
 obtain⟨oc,od,kV,doc,pm,an,cdv,ct,osl,rfl,lk,hcd⟩:=F.ex;intro s us KX hl;obtain⟨k,h1,h2⟩:=h kV doc pm an cdv ct us (by rw[aA]at hl;omega);exact BindsTo.of_defaults (k:=k) rfl (KX _ _ ho) hs h1 h2
section
variable{X:Cx}
theorem KU:OpR X (binaryOp .Mult) (λx y H Q=>∃z n,x=.str z/\y=.int n/\MulOk z n/\Q (.str (hG z n)) H):=by intro pins s σ H x y v u Q I rx ry h;obtain⟨z,n,rfl,rfl,hm,q⟩:=h;obtain⟨t,rfl⟩:=rx;obtain⟨t',rfl⟩:=ry;exact SB.mul hm λt2 k=>⟨.str _,H,I.tok _,⟨t2,rfl⟩,q⟩
end
section
variable{X:Cx}(K:ar)
theorem OU(hK:X.K=K:=by rfl):IxR X (RN K):=by subst hK;exact LX
theorem Jo(hl:PE X l tl)(hK:X.K=K:=by rfl):PI X tg l (Ot K tl):=by subst hK;exact Ru hl
theorem RZ(hl:PE X l tl)(hK:X.K=K:=by rfl):PI X tg l (U8 K tl):=by subst hK;exact U9 hl
theorem R0(hc:X.calm=true)(h:PGs X es t)(hn:(assignEach es X.env).length=n:=by rfl)(hst:(assignEach es X.env).findIdx? (·.1)=none:=by rfl)(hK:X.K=K:=by rfl):PG X (.Tuple es k pos) (U4 K n t):=by subst hK;exact U5 hc h hn hst
variable{o e:Expr}{es:List Expr}{to:TE}{t:TA}{name:Str}{apos cpos:Pos}{T id:String}{r:V->bC->Hp->VK->Prop}
theorem OV(pa:lH T)(slot:Slot T name id)(hty:typeOf (.builtin id)=pure (.type "method_descriptor"))(hm:MtR X id r)(ho:PE X o to)(ha:PA X (e::es) t)
  (hbase:attributeBase o name X.env (eval o X.env)=eval o X.env:=by rfl)
  (hfew:((backTo cpos (starEach (e::es) X.env)).all (λx=>!x.1)&&(backToKw cpos (keywordEach [] X.env)).all (λx=>x.1.isSome)
   && decide ((e::es).length+([]:List dU).length+(if ([]:List dU).isEmpty then 0 else 1)<30))=true:=by rfl)
  (hline:(apos.endLine==cpos.line)=true:=by rfl) (hs:starEach (e::es) X.env=(false,eval e X.env)::starEach es X.env:=by rfl) (hplain:(backTo cpos (starEach es X.env)).any (·.1)=false:=by rfl) (hK:X.K=K:=by rfl):
  PE X (.Call (.Attribute o name apos) (e::es) [] cpos) (tBM K T r to t):=by subst hK;exact Ze pa slot hty hm ho ha hbase hfew hline hs hplain
end
end L3
namespace L2
open PySem PySem.Spec PyProof.Rows
section
variable{X:Cx}{pins:cy}{σ:St}{H:Hp}{s:ae}
theorem yJ(e:H a=some u)(q:H c=some v)(d:u≠v)(n:HO):upd H a n c=some v:=by rw[sf (λz=>by subst z;rw[e]at q;exact d (cg q))];exact q
theorem Inv.freeze(I:Inv X pins σ H s)(e:H a=some (.dK kvs)):∃o,Inv X pins σ (upd H a (.frz o (.dK kvs))) s:=by
 obtain⟨z,y,vs,r,ob,es,ep,e1,c⟩:=(show tL X.prog X.w H s.heap a (.dK kvs) from I.hok a _ e);refine⟨ob,?_⟩;have I':=I.step (H':=upd H a (.frz ob (.dK kvs))) (h':=s.heap) (g':=s.gens) (d':=s.drawn) (t':=s.toks) (ch:=[]) (λ_ z=>nomatch z) (λb o _ _ _ q _=>q) (λb o _ _ _ q _=>⟨o.slots,q⟩)
  (λb o _ _ n=>by rw[sf (λz=>by subst z;rw[e]at n;cases n)];exact n) (λb o _ q=>⟨o,q⟩) (λb xs q=>yJ e q (λz=>nomatch z) _) (λb o u q=>yJ e q (λz=>nomatch z) _)
  (λb ps q=>⟨#[],by rw[yJ e q (λz=>nomatch z) _];simp⟩) (λm q=>q) ?_ I.bare
 ·obtain⟨h,g,d,t,os⟩:=s;exact I'
 ·intro b u q;have st:∀{b:Addr} {u:HO},tL X.prog X.w H s.heap b u->tL X.prog X.w (upd H a (.frz ob (.dK kvs))) s.heap b u:=λ{b u} x=>x.stay (λ_ _ _ q=>q) (λc q=>yJ e q (λz=>nomatch z) _) λc xs q=>yJ e q (λz=>nomatch z) _
  by_cases hb:b=a
  ·subst hb;rw[se]at q;cases q;exact⟨e1,st (I.hok b _ e)⟩
  ·rw[sf hb]at q;exact st (I.hok b u q)
theorem PE.ghost(h:PE X e t):PE X e (λσ H Q=>t σ H λx H1=>Q x H1\/∃a kvs,H1 a=some (.dK kvs)/\∀o,Q x (upd H1 a (.frz o (.dK kvs)))):=λpins s σ H Q I hq=>
 thn (h pins s σ H _ I hq) λu s1 ⟨x,H1,I1,r1,q1⟩=>by
  rcases q1 with q|⟨a,kvs,e,q⟩
  ·exact⟨x,H1,I1,r1,q⟩
  ·obtain⟨o,I2⟩:=I1.freeze e;exact⟨x,_,I2,r1,q o⟩
end
end L2
namespace L4
open PySem PySem.Spec PyProof.Rows L2 L3
abbrev St:=L2.St
inductive D where
 |non|bl (b:Bool)|int (i:Int)|str (x:Str)
 |tup (ds:List D)|lst (ds:List D)
 |fzl (ds:List D)
 |obj (c:Nat) (ns:aB) (ds:List D)
 |dic (ks:List Key) (ds:List D)
abbrev aS:=List D
structure Bg where
 K:ar
 ca:Nat->Addr
mutual
def Rep(G:Bg)(H:Hp):D->V->Prop
 |.non,v=>v=.non
 |.bl b,v=>v=.bl b
 |.int i,v=>v=.int i
 |.str x,v=>v=.str x
 |.tup ds,v=>∃a xs,v=.ref a/\SqT G.K H a xs/\r6 G H ds xs
 |.lst ds,v=>∃a xs,v=.ref a/\H a=some (.lst xs)/\r6 G H ds xs
 |.fzl ds,v=>∃a xs,v=.ref a/\SqL G.K H a xs/\r6 G H ds xs
 |.obj c ns ds,v=>∃a dx xs,v=.ref a/\H a=some (.ins (G.ca c) dx (ns.zip xs))/\ns.length=xs.length/\r6 G H ds xs
 |.dic ks ds,v=>∃a o xs,v=.ref a/\H a=some (.frz o (.dK (ks.zip xs)))/\ks.length=xs.length/\r6 G H ds xs
def r6(G:Bg)(H:Hp):aS->bC->Prop
 |[],xs=>xs=[]
 |d::ds,xs=>∃v r,xs=v::r/\Rep G H d v/\r6 G H ds r
end
theorem SqT.mono{K:ar}(e:sq H H')(h:SqT K H a xs):SqT K H' a xs:=by
 rcases h with (h|⟨o,h⟩)|h
 ·exact .inl (.inl (e _ _ h))
 ·exact .inl (.inr ⟨o,e _ _ h⟩)
 ·exact .inr h
mutual
theorem Rep.mono(e:sq H H'):∀(d:D) (v:V),Rep G H d v->Rep G H' d v
 |.non,v,h=>by unfold Rep at h ⊢;exact h
 |.bl b,v,h=>by unfold Rep at h ⊢;exact h
 |.int i,v,h=>by unfold Rep at h ⊢;exact h
 |.str x,v,h=>by unfold Rep at h ⊢;exact h
 |.tup ds,v,h=>by unfold Rep at h ⊢;obtain⟨a,xs,rfl,h1,h2⟩:=h;exact⟨a,xs,rfl,SqT.mono e h1,r6.mono e ds xs h2⟩
 |.lst ds,v,h=>by unfold Rep at h ⊢;obtain⟨a,xs,rfl,h1,h2⟩:=h;exact⟨a,xs,rfl,e _ _ h1,r6.mono e ds xs h2⟩
 |.fzl ds,v,h=>by unfold Rep at h ⊢;obtain⟨a,xs,rfl,h1,h2⟩:=h;exact⟨a,xs,rfl,e.seq h1,r6.mono e ds xs h2⟩
 |.obj c ns ds,v,h=>by unfold Rep at h ⊢;obtain⟨a,dx,xs,rfl,h1,h2,h3⟩:=h;exact⟨a,dx,xs,rfl,e _ _ h1,h2,r6.mono e ds xs h3⟩
 |.dic ks ds,v,h=>by unfold Rep at h ⊢;obtain⟨a,o,xs,rfl,h1,h2,h3⟩:=h;exact⟨a,o,xs,rfl,e _ _ h1,h2,r6.mono e ds xs h3⟩
theorem r6.mono(e:sq H H'):∀(ds:aS) (xs:bC),r6 G H ds xs->r6 G H' ds xs
 |[],xs,h=>by unfold r6 at h ⊢;exact h
 |d::ds,xs,h=>by unfold r6 at h ⊢;obtain⟨v,r,rfl,h1,h2⟩:=h;exact⟨v,r,rfl,Rep.mono e d v h1,r6.mono e ds r h2⟩
end
section
variable{G:Bg}{H:Hp}
theorem sR:r6 G H [] []:=by unfold r6;rfl
theorem sP(h:Rep G H d v)(r:r6 G H ds xs):r6 G H (d::ds) (v::xs):=by unfold r6;exact⟨v,xs,rfl,h,r⟩
theorem r9:∀{ds:aS} {xs:bC},r6 G H ds xs->ds.length=xs.length
 |[],xs,h=>by unfold r6 at h;subst h;rfl
 |d::ds,xs,h=>by unfold r6 at h;obtain⟨v,r,rfl,_,h2⟩:=h;rw[aE,aE,r9 h2]
theorem uI:∀{ds es:aS} {xs ys:bC},r6 G H ds xs->r6 G H es ys->r6 G H (ds++es) (xs++ys)
 |[],es,xs,ys,h,h'=>by unfold r6 at h;subst h;exact h'
 |d::ds,es,xs,ys,h,h'=>by unfold r6 at h;obtain⟨v,r,rfl,h1,h2⟩:=h;exact sP h1 (uI h2 h')
theorem um:∀{ds:aS} {xs:bC} {i:Nat} {d:D},r6 G H ds xs->ds[i]?=some d->∃v,xs[i]?=some v/\Rep G H d v
 |[],xs,i,d,h,e=>by simp at e
 |d'::ds,xs,i,d,h,e=>by
  unfold r6 at h;obtain⟨v,r,rfl,h1,h2⟩:=h;cases i with
  |zero=>simp at e;subst e;exact⟨v,rfl,h1⟩
  |succ i=>simpa using um (i:=i) (d:=d) h2 (by simpa using e)
theorem GO:∀{ds:aS} {xs:bC} (n:Nat),r6 G H ds xs->r6 G H (ds.drop n) (xs.drop n)
 |ds,xs,0,h=>h
 |[],xs,n+1,h=>by unfold r6 at h;subst h;exact sR
 |d::ds,xs,n+1,h=>by unfold r6 at h;obtain⟨v,r,rfl,h1,h2⟩:=h;exact GO n h2
theorem GP:∀{ds:aS} {xs:bC} (n:Nat),r6 G H ds xs->r6 G H (ds.take n) (xs.take n)
 |ds,xs,0,h=>sR
 |[],xs,n+1,h=>by unfold r6 at h;subst h;exact sR
 |d::ds,xs,n+1,h=>by unfold r6 at h;obtain⟨v,r,rfl,h1,h2⟩:=h;exact sP h1 (GP n h2)
theorem y8(h:SqT G.K H a xs)(r:r6 G H ds xs):Rep G H (.tup ds) (.ref a):=by unfold Rep;exact⟨a,xs,rfl,h,r⟩
theorem yc(h:H a=some (.lst xs))(r:r6 G H ds xs):Rep G H (.lst ds) (.ref a):=by unfold Rep;exact⟨a,xs,rfl,h,r⟩
theorem uE(i:Int):Rep G H (.int i) (.int i):=by unfold Rep;rfl
theorem uQ(i:Bool):Rep G H (.bl i) (.bl i):=by unfold Rep;rfl
theorem y9(i:Str):Rep G H (.str i) (.str i):=by unfold Rep;rfl
theorem BQ:Rep G H .non .non:=by unfold Rep;rfl
end
inductive Sl where
 |un
 |im (d:D)
 |ls (ds:aS)
 |pm (ds:aS)
 |dk (ks:List Key) (ds:aS)
 |ob (c:Nat) (ns:aB) (ds:aS)
abbrev aZ:=List Sl
def Sl.own:Sl->Bool
 |.ls _=>true
 |.pm _=>true
 |.dk _ _=>true
 |.ob _ _ _=>true
 |_=>false
structure Fr where
 B0:Hp
 B:Hp
 A:List Addr
def Bq(G:Bg)(F:Fr)(H0 H:Hp)(o:Option V):Sl->Prop
 |.un=>True
 |.im d=>∃v,o=some v/\Rep G H0 d v
 |.ls ds=>∃a xs,o=some (.ref a)/\H a=some (.lst xs)/\H0 a=none/\F.B a=none/\r6 G H0 ds xs
 |.pm ds=>∃a xs,o=some (.ref a)/\H a=some (.lst xs)/\H0 a=none/\a∈F.A/\r6 G H0 ds xs
 |.dk ks ds=>∃a xs,o=some (.ref a)/\H a=some (.dK (ks.zip xs))/\H0 a=none/\F.B a=none/\ks.length=xs.length/\r6 G H0 ds xs
 |.ob c ns ds=>∃a dx xs,o=some (.ref a)/\H a=some (.ins (G.ca c) dx (ns.zip xs))/\H0 a=none/\a∈F.A/\ns.length=xs.length/\r6 G H0 ds xs
structure sC(G:Bg)(F:Fr)(σ:St)(ρ:aZ)(H0 H:Hp):Prop where
 sub:sq H0 H
 g0:sq F.B0 H0
 keep:∀b o,F.B b=some o->b∉F.A->H b=some o
 fr:∀b o,H0 b=some o->F.B0 b=some o\/F.B b=none
 am:∀a∈F.A,∃o,H a=some o
 len:σ.length=ρ.length
 sl:∀(i:Nat) (s:Sl),ρ[i]?=some s->Bq G F H0 H (σ[i]?).join s
 ap:∀(i j:Nat) (s t:Sl) (a:Addr),i≠j->ρ[i]?=some s->ρ[j]?=some t->s.own=true->t.own=true->(σ[i]?).join=some (.ref a)->(σ[j]?).join=some (.ref a)->False
theorem Bq.at(h:Bq G F H0 H o s)(e:s.own=true):∃a u,o=some (.ref a)/\H a=some u/\H0 a=none/\(F.B a=none\/a∈F.A):=by
 cases s with
 |un=>cases e
 |im d=>cases e
 |ls ds=>obtain⟨a,xs,h1,h2,h3,h4,_⟩:=h;exact⟨a,_,h1,h2,h3,.inl h4⟩
 |pm ds=>obtain⟨a,xs,h1,h2,h3,h4,_⟩:=h;exact⟨a,_,h1,h2,h3,.inr h4⟩
 |dk ks ds=>obtain⟨a,xs,h1,h2,h3,h4,_⟩:=h;exact⟨a,_,h1,h2,h3,.inl h4⟩
 |ob c ns ds=>obtain⟨a,dx,xs,h1,h2,h3,h4,_⟩:=h;exact⟨a,_,h1,h2,h3,.inr h4⟩
theorem Bq.grow(h:Bq G F H0 H o s)(h0:sq H0 H0')(hk:∀a u,o=some (.ref a)->s.own=true->H a=some u->H' a=some u)
  (hn:∀a u,o=some (.ref a)->s.own=true->H a=some u->H0 a=none->H0' a=none):Bq G F H0' H' o s:=by
 cases s with
 |un=>trivial
 |im d=>obtain⟨v,h1,h2⟩:=h;exact⟨v,h1,Rep.mono h0 _ _ h2⟩
 |ls ds=>obtain⟨a,xs,h1,h2,h3,h4,h5⟩:=h;exact⟨a,xs,h1,hk _ _ h1 rfl h2,hn _ _ h1 rfl h2 h3,h4,r6.mono h0 _ _ h5⟩
 |pm ds=>obtain⟨a,xs,h1,h2,h3,h4,h5⟩:=h;exact⟨a,xs,h1,hk _ _ h1 rfl h2,hn _ _ h1 rfl h2 h3,h4,r6.mono h0 _ _ h5⟩
 |dk ks ds=>obtain⟨a,xs,h1,h2,h3,h4,h5,h6⟩:=h;exact⟨a,xs,h1,hk _ _ h1 rfl h2,hn _ _ h1 rfl h2 h3,h4,h5,r6.mono h0 _ _ h6⟩
 |ob c ns ds=>obtain⟨a,dx,xs,h1,h2,h3,h4,h5,h6⟩:=h;exact⟨a,dx,xs,h1,hk _ _ h1 rfl h2,hn _ _ h1 rfl h2 h3,h4,h5,r6.mono h0 _ _ h6⟩
section
variable{G:Bg}{F:Fr}{σ:St}{ρ:aZ}{H0 H H0' H':Hp}
theorem sC.bNone(R:sC G F σ ρ H0 H)(h:H b=none):F.B b=none:=by
 cases e:F.B b with
 |none=>rfl
 |some o=>
  by_cases ha:b∈F.A
  ·obtain⟨xs,q⟩:=R.am b ha;rw[q]at h;cases h
  ·have q:=R.keep b o e ha;rw[q]at h;cases h
theorem sC.grow(R:sC G F σ ρ H0 H)(hs:sq H H')(h0:sq H0 H0')(sub':sq H0' H')(hf:∀b o,H0' b=some o->H0 b=some o\/H b=none):sC G F σ ρ H0' H' where
 sub:=sub'
 g0:=R.g0.trans h0
 keep:=λb o e n=>hs _ _ (R.keep b o e n)
 fr:=λb o e=>by
  rcases hf b o e with q|q
  ·exact R.fr b o q
  ·exact .inr (R.bNone q)
 am:=λa ha=>let ⟨xs,q⟩:=R.am a ha;⟨xs,hs _ _ q⟩
 len:=R.len
 sl:=λi s e=>(R.sl i s e).grow h0 (λa u _ _ q=>hs _ _ q) λa u _ _ q q0=>by
  cases z:H0' a with
  |none=>rfl
  |some o=>
   rcases hf a o z with y|y
   ·rw[y]at q0;cases q0
   ·rw[y]at q;cases q
 ap:=R.ap
theorem sv(hp:H p=none)(o:HO):sq H (upd H p o):=sq.new (sq.refl H) hp o
theorem sC.h0none(R:sC G F σ ρ H0 H)(hp:H p=none):H0 p=none:=by
 cases e:H0 p with
 |none=>rfl
 |some o=>have:=R.sub _ _ e;rw[this]at hp;cases hp
theorem OW(s:sq H0 H)(p:Addr)(o:HO):sq (upd H0 p o) (upd H p o):=λb u e=>by
 by_cases hb:b=p
 ·subst hb;rw[se]at e ⊢;exact e
 ·rw[sf hb]at e ⊢;exact s _ _ e
theorem sC.newIm(R:sC G F σ ρ H0 H)(hp:H p=none)(o:HO):sC G F σ ρ (upd H0 p o) (upd H p o):=
 R.grow (sv hp o) (sv (R.h0none hp) o) (OW R.sub p o) λb u e=>by
  by_cases hb:b=p
  ·subst hb;exact .inr hp
  ·rw[sf hb]at e;exact .inl e
theorem sC.newOwn(R:sC G F σ ρ H0 H)(hp:H p=none)(o:HO):sC G F σ ρ H0 (upd H p o):=
 R.grow (sv hp o) (sq.refl _) (λb u e=>by rw[sf (uV (R.sub _ _ e) hp)];exact R.sub _ _ e) λb u e=>.inl e
def Apart(σ:St)(ρ:aZ)(p:Addr):Prop:=∀(i:Nat) (s:Sl),ρ[i]?=some s->s.own=true->(σ[i]?).join≠some (.ref p)
theorem sC.apart(R:sC G F σ ρ H0 H)(hp:H p=none):Apart σ ρ p:=λi s e so z=>by obtain⟨a,u,h1,h2,_⟩:=(R.sl i s e).at so;rw[z]at h1;cases h1;rw[hp]at h2;cases h2
theorem sC.freeze(R:sC G F σ ρ H0 H)(hp:H p=some o)(h0:H0 p=none)(hb:F.B p=none)(ap:Apart σ ρ p):sC G F σ ρ (upd H0 p o) H where
 sub:=λb u e=>by
  by_cases hb:b=p
  ·subst hb;rw[se]at e;cases e;exact hp
  ·rw[sf hb]at e;exact R.sub _ _ e
 g0:=R.g0.trans (sv h0 o)
 keep:=R.keep
 fr:=λb u e=>by
  by_cases hb':b=p
  ·subst hb';exact .inr hb
  ·rw[sf hb']at e;exact R.fr _ _ e
 am:=R.am
 len:=R.len
 sl:=λi s e=>(R.sl i s e).grow (sv h0 o) (λa u _ _ q=>q) λa u z so q q0=>by rw[sf (λy=>ap i s e so (by rw[z,y]))];exact q0
 ap:=R.ap
theorem Jp{σ:St}(hi:i<σ.length):((σ.set i v)[j]?).join=if j=i then v else (σ[j]?).join:=by
 rw[bT];by_cases h:i=j
 ·subst h;simp[hi]
 ·rw[aj h,aj (λz=>h z.symm)]
theorem sC.set(R:sC G F σ ρ H0 H)(hs:Bq G F H0 H (some v) s)(ap:s.own=true->∀a,v=.ref a->∀(j:Nat) (t:Sl),j≠i->ρ[j]?=some t->t.own=true->(σ[j]?).join≠some (.ref a)):
  sC G F (σ.set i (some v)) (ρ.set i s) H0 H where
 sub:=R.sub
 g0:=R.g0
 keep:=R.keep
 fr:=R.fr
 am:=R.am
 len:=by rw[dN,dN,R.len]
 sl:=λj t e=>by
  rw[bT]at e;by_cases h:i=j
  ·subst h;rw[ai rfl]at e;split at e
   ·rename_i hi;cases e;rw[Jp (by rw[R.len];exact hi),ai rfl];exact hs
   ·cases e
  ·rw[aj h]at e;have hh:=R.sl j t e;rw[bT,aj h];exact hh
 ap:=λj k t u a hjk ej ek tj tk vj vk=>by
  have gen:∀{m:Nat} {x:Sl},(ρ.set i s)[m]?=some x->m≠i->ρ[m]?=some x/\((σ.set i (some v))[m]?).join=(σ[m]?).join:=λ{m x} e hm=>by rw[bT,aj (λz=>hm z.symm)]at e;exact⟨e,by rw[bT,aj (λz=>hm z.symm)]⟩
  have self:∀{x:Sl},(ρ.set i s)[i]?=some x->x=s/\((σ.set i (some v))[i]?).join=some v:=λ{x} e=>by
   rw[bT,ai rfl]at e;split at e
   ·rename_i hi;cases e;exact⟨rfl,by rw[Jp (by rw[R.len];exact hi),ai rfl]⟩
   ·cases e
  by_cases hj:j=i
  ·subst hj;obtain⟨rfl,ev⟩:=self ej;rw[ev]at vj;cases vj;obtain⟨e2,e3⟩:=gen ek (λz=>hjk z.symm);rw[e3]at vk;exact ap tj a rfl k u (λz=>hjk z.symm) e2 tk vk
  ·obtain⟨e2,e3⟩:=gen ej hj;by_cases hk:k=i
   ·subst hk;obtain⟨rfl,ev⟩:=self ek;rw[ev]at vk;cases vk;rw[e3]at vj;exact ap tk a rfl j t hj e2 tj vj
   ·obtain⟨e4,e5⟩:=gen ek hk;rw[e3]at vj;rw[e5]at vk;exact R.ap j k t u a hjk e2 e4 tj tk vj vk
theorem sC.setIm(R:sC G F σ ρ H0 H)(i:Nat)(h:Rep G H0 d v):sC G F (σ.set i (some v)) (ρ.set i (.im d)) H0 H:=R.set ⟨v,rfl,h⟩ λz=>by cases z
theorem sC.setLs(R:sC G F σ ρ H0 H)(i:Nat)(hp:H p=some (.lst xs))(h0:H0 p=none)(hb:F.B p=none)(ap:Apart σ ρ p)(h:r6 G H0 ds xs):sC G F (σ.set i (some (.ref p))) (ρ.set i (.ls ds)) H0 H:=
 R.set ⟨p,xs,rfl,hp,h0,hb,h⟩ λ_ a e j t _ ej tj=>by cases e;exact ap j t ej tj
theorem sC.mut(R:sC G F σ ρ H0 H)(hi:ρ[i]?=some s)(so:s.own=true)(ha:(σ[i]?).join=some (.ref a))(ok:∀H',H' a=some o->Bq G F H0 H' (some (.ref a)) s')
  (so':s'.own=true):sC G F σ (ρ.set i s') H0 (upd H a o):=by
 obtain⟨a',u,e1,e2,e3,e4⟩:=(R.sl i s hi).at so;rw[ha]at e1;cases e1;exact {
  sub:=λb w e=>by rw[sf (λz=>by rw[z,e3]at e;cases e)];exact R.sub _ _ e
  g0:=R.g0
  keep:=λb w e n=>by
   have nb:b≠a:=λz=>by
    subst z;rcases e4 with q|q
    ·rw[q]at e;cases e
    ·exact n q
   rw[sf nb];exact R.keep b w e n
  fr:=R.fr
  am:=λb hb=>by
   by_cases z:b=a
   ·subst z;exact⟨o,se⟩
   ·rw[sf z];exact R.am b hb
  len:=by rw[dN];exact R.len
  sl:=λj t e=>by
   rw[bT]at e;by_cases h:i=j
   ·subst h;rw[ai rfl]at e;split at e
    ·cases e;rw[ha];exact ok _ se
    ·cases e
   ·rw[aj h]at e;refine(R.sl j t e).grow (sq.refl _) (λb w z to q=>?_) λb w _ _ _ q=>q;rw[sf (λy=>by subst y;exact R.ap j i t s b (λy=>h y.symm) e hi to so z ha)];exact q
  ap:=λj k t u b hjk ej ek tj tk vj vk=>by
   have gen:∀{m:Nat} {x:Sl},(ρ.set i s')[m]?=some x->∃y,ρ[m]?=some y/\(x.own=true->y.own=true):=λ{m x} e=>by
    rw[bT]at e;by_cases h:i=m
    ·subst h;exact⟨s,hi,λ_=>so⟩
    ·rw[aj h]at e;exact⟨x,e,λq=>q⟩
   obtain⟨y,ey,oy⟩:=gen ej;obtain⟨z,ez,oz⟩:=gen ek;exact R.ap j k y z b hjk ey ez (oy tj) (oz tk) vj vk }
end
abbrev FE:=aZ->Option (D×aZ)
abbrev FT:=aZ->Option (Bool×aZ)
abbrev FA:=aZ->Option (aS×aZ)
def tF(G:Bg)(f:FE):TE:=λσ H Q=>∃F ρ H0 d ρ',sC G F σ ρ H0 H/\f ρ=some (d,ρ')/\∀v H0' H',sq H0 H0'->sC G F σ ρ' H0' H'->Rep G H0' d v->Q v H'
def tFT(G:Bg)(f:FT):TT:=λσ H Q=>∃F ρ H0 d ρ',sC G F σ ρ H0 H/\f ρ=some (d,ρ')/\∀H0' H',sq H0 H0'->sC G F σ ρ' H0' H'->Q d H'
def tFA(G:Bg)(f:FA):TA:=λσ H Q=>∃F ρ H0 ds ρ',sC G F σ ρ H0 H/\f ρ=some (ds,ρ')/\∀xs H0' H',sq H0 H0'->sC G F σ ρ' H0' H'->r6 G H0' ds xs->Q xs H'
def tFN(G:Bg)(f:FA):TE:=λσ H Q=>∃F ρ H0 ds ρ',sC G F σ ρ H0 H/\f ρ=some (ds,ρ')/\∀p xs H0' H',sq H0 H0'->sC G F σ ρ' H0' H'->H' p=some (.lst xs)->H0' p=none->F.B p=none->Apart σ ρ' p->r6 G H0' ds xs->Q (.ref p) H'
theorem PE.weak(h:PE X e t)(w:∀σ H Q,t' σ H Q->t σ H Q):PE X e t':=λpins s σ H Q I hq=>h pins s σ H Q I (w _ _ _ hq)
theorem PT.weak(h:PT X e t)(w:∀σ H Q,t' σ H Q->t σ H Q):PT X e t':=λpins s σ H Q I hq=>h pins s σ H Q I (w _ _ _ hq)
theorem PW.weak(h:PW X e t)(w:∀σ H Q,t' σ H Q->t σ H Q):PW X e t':=λwh pins s σ H Q I hq=>h wh pins s σ H Q I (w _ _ _ hq)
theorem PA.weak(h:PA X e t)(w:∀σ H Q,t' σ H Q->t σ H Q):PA X e t':=λpos pins s σ H Q I hq=>h pos pins s σ H Q I (w _ _ _ hq)
noncomputable def cC(d:D):FE:=λρ=>some (d,ρ)
noncomputable def cV(i:Nat):FE:=λρ=>match ρ[i]? with
 |some (.im d)=>some (d,ρ)
 |_=>none
noncomputable def c1(g:D->Option D) (f:FE):FE:=λρ=>match f ρ with
 |some (d,ρ')=>match g d with
  |some x=>some (x,ρ')
  |none=>none
 |none=>none
noncomputable def c2(g:D->D->Option D) (f f':FE):FE:=λρ=>match f ρ with
 |some (x,ρ1)=>match f' ρ1 with
  |some (y,ρ2)=>match g x y with
   |some z=>some (z,ρ2)
   |none=>none
  |none=>none
 |none=>none
theorem Er(h:c1 g f ρ=some (z,ρ')):∃d,f ρ=some (d,ρ')/\g d=some z:=by
 unfold c1 at h;cases e:f ρ with
 |none=>rw[e]at h;cases h
 |some p=>
  obtain⟨d,ρ1⟩:=p;rw[e]at h;cases e2:g d with
  |none=>simp only[e2]at h;cases h
  |some x=>simp only[e2]at h;cases h;exact⟨d,rfl,e2⟩
theorem BR(h:c2 g f f' ρ=some (z,ρ')):∃x y ρ1,f ρ=some (x,ρ1)/\f' ρ1=some (y,ρ')/\g x y=some z:=by
 unfold c2 at h;cases e:f ρ with
 |none=>rw[e]at h;cases h
 |some p=>
  obtain⟨x,ρ1⟩:=p;simp only[e]at h;cases e2:f' ρ1 with
  |none=>simp only[e2]at h;cases h
  |some q=>
   obtain⟨y,ρ2⟩:=q;simp only[e2]at h;cases e3:g x y with
   |none=>simp only[e3]at h;cases h
   |some w=>simp only[e3]at h;cases h;exact⟨x,y,ρ1,rfl,e2,e3⟩
variable{ρ:aZ}
section
variable{X:Cx}{G:Bg}
theorem VE{i j pos}:PE X (.Constant (.int i) j pos) (tF G (cC (.int i))):=PE.weak Kz λσ H Q h=>by obtain⟨F,ρ,H0,d,ρ',R,e,k⟩:=h;cases e;exact k _ _ _ (sq.refl _) R (uE i)
theorem Zk{i j pos}:PE X (.Constant (.bool i) j pos) (tF G (cC (.bl i))):=PE.weak YQ λσ H Q h=>by obtain⟨F,ρ,H0,d,ρ',R,e,k⟩:=h;cases e;exact k _ _ _ (sq.refl _) R (uQ i)
theorem VF{i j pos}:PE X (.Constant (.str i) j pos) (tF G (cC (.str i))):=PE.weak Om λσ H Q h=>by obtain⟨F,ρ,H0,d,ρ',R,e,k⟩:=h;cases e;exact k _ _ _ (sq.refl _) R (y9 i)
theorem VG{j pos}:PE X (.Constant .none j pos) (tF G (cC .non)):=PE.weak UU λσ H Q h=>by obtain⟨F,ρ,H0,d,ρ',R,e,k⟩:=h;cases e;exact k _ _ _ (sq.refl _) R BQ
theorem R7(h:cV i ρ=some (d,ρ')):ρ[i]?=some (.im d)/\ρ'=ρ:=by
 unfold cV at h;split at h
 ·rename_i e;cases h;exact⟨e,rfl⟩
 ·cases h
theorem uW{α:Type}{o:Option (Option α)}{v:α}(h:o.join=some v):o=some (some v):=by
 cases o with
 |none=>cases h
 |some u=>cases u with
  |none=>cases h
  |some w=>cases h;rfl
theorem KW(h:PE X e (yp i)):PE X e (tF G (cV i)):=PE.weak h λσ H Q hh=>by obtain⟨F,ρ,H0,d,ρ',R,e,k⟩:=hh;obtain⟨e1,rfl⟩:=R7 e;obtain⟨v,e2,e3⟩:=R.sl i _ e1;exact⟨v,uW e2,k _ _ _ (sq.refl _) R e3⟩
theorem R8(h:PE X e (tC v))(r:∀H,Rep G H d v):PE X e (tF G (cC d)):=PE.weak h λσ H Q hh=>by obtain⟨F,ρ,H0,d',ρ',R,e,k⟩:=hh;cases e;exact k _ _ _ (sq.refl _) R (r _)
def OpD(G:Bg)(r:R2)(g:D->D->Option D):Prop:=∀x y z H0 H v u (Q:VK),g x y=some z->sq H0 H->Rep G H0 x v->Rep G H0 y u->(∀w,(∀H0',sq H0 H0'->Rep G H0' z w)->Q w H)->r v u H Q
theorem LY(ho:OpD G r g):∀σ H Q,tF G (c2 g f f') σ H Q->tOp r (tF G f) (tF G f') σ H Q:=λσ H Q hh=>by obtain⟨F,ρ,H0,d,ρ',R,e,k⟩:=hh;obtain⟨x,y,ρ1,e1,e2,e3⟩:=BR e;refine⟨F,ρ,H0,x,ρ1,R,e1,λv H1 H1' s1 R1 r1=>⟨F,ρ1,H1,y,ρ',R1,e2,λu H2 H2' s2 R2 r2=>?_⟩⟩;exact ho x y d H2 H2' v u Q e3 R2.sub (Rep.mono s2 _ _ r1) r2 λw hw=>k w H2 H2' (s1.trans s2) R2 (hw _ (sq.refl _))
theorem Zl(hr:OpR X (binaryOp op) r)(ho:OpD G r g)(ha:PE X a (tF G f))(hb:PE X b (tF G f')):PE X (.BinOp a op b pos) (tF G (c2 g f f')):=PE.weak (Ow hr ha hb) (LY ho)
theorem VH(hr:OpR X (compareOp op) r)(ho:OpD G r g)(ha:PE X a (tF G f))(hb:PE X b (tF G f'))(hm:behindInMarks op b=false):PE X (.Compare a [op] [b] pos) (tF G (c2 g f f')):=PE.weak (RD hr ha hb hm) (LY ho)
theorem Zm(hr:IxR X r)(ho:OpD G r g)(ha:PE X a (tF G f))(hb:PE X b (tF G f'))(hs:LW b):PE X (.Subscript a b pos) (tF G (c2 g f f')):=PE.weak (Ut hr ha hb hs) (LY ho)
def cT(f:FE):FT:=λρ=>match f ρ with
 |some (.bl b,ρ')=>some (b,ρ')
 |_=>none
theorem LZ(h:cT f ρ=some (b,ρ')):f ρ=some (.bl b,ρ'):=by
 unfold cT at h;split at h
 ·rename_i e;cases h;exact e
 ·cases h
theorem Ig:∀σ H Q,tFT G (cT f) σ H Q->Oz (tF G f) σ H Q:=λσ H Q hh=>by obtain⟨F,ρ,H0,d,ρ',R,e,k⟩:=hh;refine⟨F,ρ,H0,_,ρ',R,LZ e,λv H0' H' s R' r=>?_⟩;unfold Rep at r;exact⟨d,r,k _ _ s R'⟩
theorem R9(hr:OpR X (compareOp op) r)(ho:OpD G r g)(ha:PE X a (tF G f))(hb:PE X b (tF G f'))(hm:behindInMarks op b=false):
  PT X (.Compare a [op] [b] pos) (tFT G (cT (c2 g f f'))):=PT.weak (RE hr ha hb hm) λσ H Q hh=>by
 obtain⟨F,ρ,H0,d,ρ',R,e,k⟩:=Ig σ H Q hh;exact LY ho σ H _ ⟨F,ρ,H0,d,ρ',R,e,k⟩
theorem Sa(h:PE X e (tF G f))(he:∀whole,isTrue e X.env whole=(do let v<-whole;standAt e.pos;holding [v] (truthy v)):=by intro _;rfl):PT X e (tFT G (cT f)):=PT.weak (UX h he) λσ H Q hh=>by obtain⟨F,ρ,H0,d,ρ',R,e,k⟩:=hh;refine⟨F,ρ,H0,_,ρ',R,LZ e,λv H0' H' s R' r=>?_⟩;unfold Rep at r;exact⟨d,r,k _ _ s R'⟩
def wY(f:FT):FT:=λρ=>match f ρ with
 |some (b,ρ')=>some (!b,ρ')
 |none=>none
def vw(f g:FT):FT:=λρ=>match f ρ with
 |some (true,ρ')=>g ρ'
 |r=>r
def wK(f g:FT):FT:=λρ=>match f ρ with
 |some (false,ρ')=>g ρ'
 |r=>r
theorem Sb(h:PT X a (tFT G f)):PT X (.UnaryOp .Not a pos) (tFT G (wY f)):=PT.weak (U0 h) λσ H Q hh=>by
 obtain⟨F,ρ,H0,d,ρ',R,e,k⟩:=hh;unfold wY at e;cases e1:f ρ with
 |none=>simp only[e1]at e;cases e
 |some p=>obtain⟨b,ρ1⟩:=p;simp only[e1]at e;cases e;exact⟨F,ρ,H0,b,_,R,e1,λH0' H' s R'=>k _ _ s R'⟩
theorem VI:∀σ H Q,tFT G (vw f g) σ H Q->YR (tFT G f) (tFT G g) σ H Q:=λσ H Q hh=>by
 obtain⟨F,ρ,H0,d,ρ',R,e,k⟩:=hh;unfold vw at e;cases e1:f ρ with
 |none=>simp only[e1]at e;cases e
 |some p=>
  obtain⟨b,ρ1⟩:=p;cases b with
  |true=>simp only[e1]at e;exact⟨F,ρ,H0,true,ρ1,R,e1,λH0' H' s R'=>Ib ⟨F,ρ1,H0',d,ρ',R',e,λH2 H2' s2 R2=>k _ _ (s.trans s2) R2⟩⟩
  |false=>simp only[e1]at e;cases e;exact⟨F,ρ,H0,false,_,R,e1,λH0' H' s R'=>Ia (k _ _ s R')⟩
theorem Zn:∀σ H Q,tFT G (wK f g) σ H Q->tOr (tFT G f) (tFT G g) σ H Q:=λσ H Q hh=>by
 obtain⟨F,ρ,H0,d,ρ',R,e,k⟩:=hh;unfold wK at e;cases e1:f ρ with
 |none=>simp only[e1]at e;cases e
 |some p=>
  obtain⟨b,ρ1⟩:=p;cases b with
  |false=>simp only[e1]at e;exact⟨F,ρ,H0,false,ρ1,R,e1,λH0' H' s R'=>Ia ⟨F,ρ1,H0',d,ρ',R',e,λH2 H2' s2 R2=>k _ _ (s.trans s2) R2⟩⟩
  |true=>simp only[e1]at e;cases e;exact⟨F,ρ,H0,true,_,R,e1,λH0' H' s R'=>Ib (k _ _ s R')⟩
theorem OX(h:PT X a (tFT G f)):PW X (.BoolOp .And [a] pos) (tFT G f):=Rq h
theorem Se(h:PT X a (tFT G f)):PW X (.BoolOp .Or [a] pos) (tFT G f):=UY h
theorem L0{rest:List Expr}(ha:PT X a (tFT G f))(hb:PW X (.BoolOp .And (b::rest) pos) (tFT G g)):PW X (.BoolOp .And (a::b::rest) pos) (tFT G (vw f g)):=PW.weak (UZ ha hb) VI
theorem OY{rest:List Expr}(ha:PT X a (tFT G f))(hb:PW X (.BoolOp .Or (b::rest) pos) (tFT G g)):PW X (.BoolOp .Or (a::b::rest) pos) (tFT G (wK f g)):=PW.weak (YS ha hb) Zn
def tV(f g:FE):FE:=λρ=>match f ρ with
 |some (.bl true,ρ')=>g ρ'
 |some (.bl false,ρ')=>some (.bl false,ρ')
 |_=>none
def cOr(f g:FE):FE:=λρ=>match f ρ with
 |some (.bl false,ρ')=>g ρ'
 |some (.bl true,ρ')=>some (.bl true,ρ')
 |_=>none
def CL(f:FE):FE:=λρ=>match f ρ with
 |some (.bl b,ρ')=>some (.bl !b,ρ')
 |_=>none
def cIf(c:FT)(f g:FE):FE:=λρ=>match c ρ with
 |some (true,ρ')=>f ρ'
 |some (false,ρ')=>g ρ'
 |none=>none
theorem VJ{op}(h:PE X a (tF G f)):PE X (.BoolOp op [a] pos) (tF G f):=U1 h
theorem Jq{f:FE}:(∃ρ1,f ρ=some (.bl true,ρ1))\/(∃ρ1,f ρ=some (.bl false,ρ1))\/(∀b ρ1,f ρ≠some (.bl b,ρ1)):=by
 by_cases h1:∃ρ1,f ρ=some (.bl true,ρ1)
 ·exact .inl h1
 by_cases h2:∃ρ1,f ρ=some (.bl false,ρ1)
 ·exact .inr (.inl h2)
 refine .inr (.inr λb ρ1 z=>?_);cases b with
 |true=>exact h1 ⟨ρ1,z⟩
 |false=>exact h2 ⟨ρ1,z⟩
theorem Nq(h:∀b ρ1,f ρ≠some (.bl b,ρ1)):tV f g ρ=none:=by
 unfold tV;split
 ·rename_i e;exact aq e (h _ _)
 ·rename_i e;exact aq e (h _ _)
 ·rfl
theorem OZ(h:∀b ρ1,f ρ≠some (.bl b,ρ1)):cOr f g ρ=none:=by
 unfold cOr;split
 ·rename_i e;exact aq e (h _ _)
 ·rename_i e;exact aq e (h _ _)
 ·rfl
theorem VL{rest:List Expr}(ha:PE X a (tF G f))(hb:PE X (.BoolOp .And (b::rest) pos) (tF G g)):PE X (.BoolOp .And (a::b::rest) pos) (tF G (tV f g)):=PE.weak (U2 ha hb) λσ H Q hh=>by
 obtain⟨F,ρ,H0,d,ρ',R,e,k⟩:=hh;rcases Jq (f:=f) (ρ:=ρ)with ⟨ρ1,e1⟩|⟨ρ1,e1⟩|e1
 ·have e':g ρ1=some (d,ρ'):=by unfold tV at e;simp only[e1]at e;exact e
  refine⟨F,ρ,H0,_,ρ1,R,e1,λv H1 H1' s R' r=>?_⟩;unfold Rep at r;refine⟨true,r,?_⟩;exact Ib ⟨F,ρ1,H1,d,ρ',R',e',λv H2 H2' s2 R2 r2=>k _ _ _ (s.trans s2) R2 r2⟩
 ·have e':some (D.bl false,ρ1)=some (d,ρ'):=by unfold tV at e;simp only[e1]at e;exact e
  cases e';refine⟨F,ρ,H0,_,_,R,e1,λv H1 H1' s R' r=>?_⟩;have r':=r;unfold Rep at r';refine⟨false,r',?_⟩;exact Ia (k _ _ _ s R' (uQ false))
 ·rw[Nq e1]at e;cases e
theorem Zo{rest:List Expr}(ha:PE X a (tF G f))(hb:PE X (.BoolOp .Or (b::rest) pos) (tF G g)):PE X (.BoolOp .Or (a::b::rest) pos) (tF G (cOr f g)):=PE.weak (YV ha hb) λσ H Q hh=>by
 obtain⟨F,ρ,H0,d,ρ',R,e,k⟩:=hh;rcases Jq (f:=f) (ρ:=ρ)with ⟨ρ1,e1⟩|⟨ρ1,e1⟩|e1
 ·have e':some (D.bl true,ρ1)=some (d,ρ'):=by unfold cOr at e;simp only[e1]at e;exact e
  cases e';refine⟨F,ρ,H0,_,_,R,e1,λv H1 H1' s R' r=>?_⟩;unfold Rep at r;refine⟨true,r,?_⟩;exact Ib (k _ _ _ s R' (uQ true))
 ·have e':g ρ1=some (d,ρ'):=by unfold cOr at e;simp only[e1]at e;exact e
  refine⟨F,ρ,H0,_,ρ1,R,e1,λv H1 H1' s R' r=>?_⟩;unfold Rep at r;refine⟨false,r,?_⟩;exact Ia ⟨F,ρ1,H1,d,ρ',R',e',λv H2 H2' s2 R2 r2=>k _ _ _ (s.trans s2) R2 r2⟩
 ·rw[OZ e1]at e;cases e
theorem VM(ha:PE X a (tF G f)):PE X (.UnaryOp .Not a pos) (tF G (CL f)):=PE.weak (U3 ha) λσ H Q hh=>by
 obtain⟨F,ρ,H0,d,ρ',R,e,k⟩:=hh;unfold CL at e;split at e
 ·rename_i b ρ1 e1;cases e;refine⟨F,ρ,H0,_,_,R,e1,λv H1 H1' s R' r=>?_⟩;unfold Rep at r;exact⟨b,r,k _ _ _ s R' (uQ _)⟩
 ·cases e
theorem Zp(hc:PT X c (tFT G h))(ha:PE X a (tF G f))(hb:PE X b (tF G g)):PE X (.IfExp c a b pos) (tF G (cIf h f g)):=PE.weak (On hc ha hb) λσ H Q hh=>by
 obtain⟨F,ρ,H0,d,ρ',R,e,k⟩:=hh;unfold cIf at e;cases e1:h ρ with
 |none=>simp only[e1]at e;cases e
 |some p=>
  obtain⟨b,ρ1⟩:=p;refine⟨F,ρ,H0,b,ρ1,R,e1,λH1 H1' s R'=>?_⟩;cases b with
  |true=>simp only[e1]at e;exact Ib ⟨F,ρ1,H1,d,ρ',R',e,λv H2 H2' s2 R2 r2=>k _ _ _ (s.trans s2) R2 r2⟩
  |false=>simp only[e1]at e;exact Ia ⟨F,ρ1,H1,d,ρ',R',e,λv H2 H2' s2 R2 r2=>k _ _ _ (s.trans s2) R2 r2⟩
noncomputable def sS:FA:=λρ=>some ([],ρ)
noncomputable def rR(f:FE) (g:FA):FA:=λρ=>match f ρ with
 |some (d,ρ1)=>match g ρ1 with
  |some (ds,ρ2)=>some (d::ds,ρ2)
  |none=>none
 |none=>none
theorem za(h:rR f g ρ=some (ds,ρ')):∃d r ρ1,f ρ=some (d,ρ1)/\g ρ1=some (r,ρ')/\ds=d::r:=by
 unfold rR at h;cases e:f ρ with
 |none=>rw[e]at h;cases h
 |some p=>
  obtain⟨x,ρ1⟩:=p;simp only[e]at h;cases e2:g ρ1 with
  |none=>simp only[e2]at h;cases h
  |some q=>obtain⟨y,ρ2⟩:=q;simp only[e2]at h;cases h;exact⟨x,y,ρ1,rfl,e2,rfl⟩
theorem vC:PA X [] (tFA G sS):=PA.weak xD λσ H Q hh=>by obtain⟨F,ρ,H0,d,ρ',R,e,k⟩:=hh;cases e;exact k _ _ _ (sq.refl _) R sR
theorem uJ(ha:PE X e (tF G f))(hr:PA X es (tFA G g))(hs:starEach (e::es) X.env=(false,eval e X.env)::starEach es X.env:=by rfl):PA X (e::es) (tFA G (rR f g)):=PA.weak (uj ha hr hs) λσ H Q hh=>by obtain⟨F,ρ,H0,d,ρ',R,e,k⟩:=hh;obtain⟨x,r,ρ1,e1,e2,rfl⟩:=za e;exact⟨F,ρ,H0,x,ρ1,R,e1,λv H1 H1' s R' rv=>⟨F,ρ1,H1,r,ρ',R',e2,λxs H2 H2' s2 R2 rs=>k _ _ _ (s.trans s2) R2 (sP (Rep.mono s2 _ _ rv) rs)⟩⟩
def tH(g:FA):FE:=λρ=>match g ρ with
 |some (ds,ρ')=>if ds.length<=1000 then some (.tup ds,ρ')else none
 |none=>none
def sV(g:FA):FA:=λρ=>match g ρ with
 |some (ds,ρ')=>if ds.length<=1000 then some (ds,ρ')else none
 |none=>none
theorem VN{x1}(h:PA X es (tFA G g)):PE X (.Tuple es x1 pos) (tF G (tH g)):=PE.weak (Vl h) λσ H Q hh=>by
 obtain⟨F,ρ,H0,d,ρ',R,e,k⟩:=hh;unfold tH at e;cases e1:g ρ with
 |none=>simp only[e1]at e;cases e
 |some p=>
  obtain⟨ds,ρ1⟩:=p;simp only[e1]at e;split at e
  ·rename_i hl;cases e;refine⟨F,ρ,H0,_,_,R,e1,λxs H1 H1' s R' rs=>⟨by rw[<-r9 rs];exact xE hl,λp hp=>?_⟩⟩;exact k _ _ _ (s.trans (sv (R'.h0none hp) _)) (R'.newIm hp _) (y8 (SqT.of se) (r6.mono (sv (R'.h0none hp) _) _ _ rs))
  ·cases e
theorem Sf(h:PA X es (tFA G g)):PE X (.List es pos) (tFN G (sV g)):=PE.weak (OE h) λσ H Q hh=>by
 obtain⟨F,ρ,H0,d,ρ',R,e,k⟩:=hh;unfold sV at e;cases e1:g ρ with
 |none=>simp only[e1]at e;cases e
 |some p=>
  obtain⟨ds,ρ1⟩:=p;simp only[e1]at e;split at e
  ·rename_i hl;cases e;refine⟨F,ρ,H0,_,_,R,e1,λxs H1 H1' s R' rs=>⟨by rw[<-r9 rs];exact xE hl,λp hp=>?_⟩⟩;exact k _ _ _ _ s (R'.newOwn hp _) se (R'.h0none hp) (R'.bNone hp) (R'.apart hp) rs
  ·cases e
def cL(g:FA):FE:=λρ=>match g ρ with
 |some (ds,ρ')=>some (.lst ds,ρ')
 |none=>none
theorem Sg(h:cL g ρ=some (d,ρ')):∃ds,g ρ=some (ds,ρ')/\d=.lst ds:=by
 unfold cL at h;cases e:g ρ with
 |none=>simp only[e]at h;cases h
 |some p=>obtain⟨ds,ρ1⟩:=p;simp only[e]at h;cases h;exact⟨ds,rfl,rfl⟩
theorem Zq:∀σ H Q,tF G (cL g) σ H Q->tFN G g σ H Q:=λσ H Q hh=>by obtain⟨F,ρ,H0,d,ρ',R,e,k⟩:=hh;obtain⟨ds,e1,rfl⟩:=Sg e;refine⟨F,ρ,H0,ds,ρ',R,e1,λp xs H1 H1' s R' hp h0 hb ap rs=>?_⟩;exact k _ _ _ (s.trans (sv h0 _)) (R'.freeze hp h0 hb ap) (yc se (r6.mono (sv h0 _) _ _ rs))
theorem VO(h:PE X e (tFN G g)):PE X e (tF G (cL g)):=PE.weak h Zq
end
inductive Out where
 |nx (ρ:aZ)|bk (ρ:aZ)|ct (ρ:aZ)
 |rt (d:D) (ρ:aZ)
 |rn (ds:aS) (ρ:aZ)
abbrev FS:=aZ->Option Out
def L1(G:Bg)(F:Fr)(H0:Hp)(E:Ends):Out->Prop
 |.nx ρ'=>∀σ' H0' H',sq H0 H0'->sC G F σ' ρ' H0' H'->E.nx σ' H'
 |.bk ρ'=>∀σ' H0' H',sq H0 H0'->sC G F σ' ρ' H0' H'->E.bk σ' H'
 |.ct ρ'=>∀σ' H0' H',sq H0 H0'->sC G F σ' ρ' H0' H'->E.ct σ' H'
 |.rt d ρ'=>∀v σ' H0' H',sq H0 H0'->sC G F σ' ρ' H0' H'->Rep G H0' d v->E.rt v H'
 |.rn ds ρ'=>∀p xs σ' H0' H',sq H0 H0'->sC G F σ' ρ' H0' H'->H' p=some (.lst xs)->H0' p=none->F.B p=none->Apart σ' ρ' p->r6 G H0' ds xs->E.rt (.ref p) H'
def tFS(G:Bg)(f:FS):TS:=λE σ H=>∃F ρ H0 o,sC G F σ ρ H0 H/\f ρ=some o/\L1 G F H0 E o/\(∀p,E.rt p=E.rt p)
theorem L1.back(h:L1 G F H0 E o)(s:sq H0 H1):L1 G F H1 E o:=by
 cases o with
 |nx ρ=>exact λσ' H0' H' s' R=>h σ' H0' H' (s.trans s') R
 |bk ρ=>exact λσ' H0' H' s' R=>h σ' H0' H' (s.trans s') R
 |ct ρ=>exact λσ' H0' H' s' R=>h σ' H0' H' (s.trans s') R
 |rt d ρ=>exact λv σ' H0' H' s' R=>h v σ' H0' H' (s.trans s') R
 |rn ds ρ=>exact λp xs σ' H0' H' s' R=>h p xs σ' H0' H' (s.trans s') R
theorem PS.weak(h:PS X e t)(w:∀E σ H,t' E σ H->t E σ H):PS X e t':=λpins s σ H D I hq=>h pins s σ H D I (w _ _ _ hq)
theorem PSs.weak(h:PSs X e t)(w:∀E σ H,t' E σ H->t E σ H):PSs X e t':=λpins s σ H D I hq=>h pins s σ H D I (w _ _ _ hq)
def sF:FS:=λρ=>some (.nx ρ)
noncomputable def rV(f g:FS):FS:=λρ=>match f ρ with
 |some (.nx ρ')=>g ρ'
 |r=>r
variable{st:Stmt}{i:Nat}{N:aB}
section
variable{X:Cx}{G:Bg}
theorem VP(h:tFS G sF E σ H):E.nx σ H:=by obtain⟨F,ρ,H0,o,R,e,k,_⟩:=h;cases e;exact k _ _ _ (sq.refl _) R
theorem Sh:PSs X [] (tFS G sF):=PSs.weak Rr λE σ H h=>VP h
theorem O0{rest:List Stmt}(h1:PS X st (tFS G f))(h2:PSs X rest (tFS G g)):PSs X (st::rest) (tFS G (rV f g)):=PSs.weak (EA h1 h2) λE σ H h=>by
 obtain⟨F,ρ,H0,o,R,e,k,k2⟩:=h;unfold rV at e;cases e1:f ρ with
 |none=>simp only[e1]at e;cases e
 |some o1=>
  cases o1 with
  |nx ρ1=>simp only[e1]at e;exact⟨F,ρ,H0,_,R,e1,λσ' H0' H' s R'=>⟨F,ρ1,H0',o,R',e,k.back s,k2⟩,k2⟩
  |bk ρ1=>simp only[e1]at e;cases e;exact⟨F,ρ,H0,_,R,e1,k,k2⟩
  |ct ρ1=>simp only[e1]at e;cases e;exact⟨F,ρ,H0,_,R,e1,k,k2⟩
  |rt d ρ1=>simp only[e1]at e;cases e;exact⟨F,ρ,H0,_,R,e1,k,k2⟩
  |rn d ρ1=>simp only[e1]at e;cases e;exact⟨F,ρ,H0,_,R,e1,k,k2⟩
theorem Si(h1:PS X st (tFS G f)):PSs X [st] (tFS G f):=HN h1
noncomputable def sH(f:FE):FS:=λρ=>match f ρ with
 |some (d,ρ')=>some (.rt d ρ')
 |none=>none
noncomputable def uC(f:FA):FS:=λρ=>match f ρ with
 |some (d,ρ')=>some (.rn d ρ')
 |none=>none
theorem sO{α:Type}{f:aZ->Option (α×aZ)}:f ρ=none\/∃d ρ',f ρ=some (d,ρ'):=by
 cases e:f ρ with
 |none=>exact .inl rfl
 |some p=>exact .inr ⟨p.1,p.2,rfl⟩
theorem Sj(h:PE X e (tF G f)):PS X (.Return (some e) pos) (tFS G (sH f)):=PS.weak (KA h) λE σ H hh=>by
 obtain⟨F,ρ,H0,o,R,e,k,k2⟩:=hh;unfold sH at e;rcases sO (f:=f) (ρ:=ρ)with e1|⟨d,ρ',e1⟩<;>simp only[e1]at e
 ·cases e
 ·cases e;exact⟨F,ρ,H0,d,ρ',R,e1,λv H0' H' s R' r=>k _ _ _ _ s R' r⟩
theorem O1(h:PE X e (tFN G f)):PS X (.Return (some e) pos) (tFS G (uC f)):=PS.weak (KA h) λE σ H hh=>by
 obtain⟨F,ρ,H0,o,R,e,k,k2⟩:=hh;unfold uC at e;rcases sO (f:=f) (ρ:=ρ)with e1|⟨d,ρ',e1⟩<;>simp only[e1]at e
 ·cases e
 ·cases e;exact⟨F,ρ,H0,d,ρ',R,e1,λp xs H0' H' s R' h1 h2 h3 h4 h5=>k _ _ _ _ _ s R' h1 h2 h3 h4 h5⟩
noncomputable def sT(f:FE):FS:=λρ=>match f ρ with
 |some (_,ρ')=>some (.nx ρ')
 |none=>none
theorem O2{pos:Pos}(h:PE X e (tF G f))(hs:swapsWith e none pos.line X.env=pure false:=by rfl):PS X (.Expr e pos) (tFS G (sT f)):=PS.weak (LM h hs) λE σ H hh=>by
 obtain⟨F,ρ,H0,o,R,e,k,k2⟩:=hh;unfold sT at e;rcases sO (f:=f) (ρ:=ρ)with e1|⟨d,ρ',e1⟩<;>simp only[e1]at e
 ·cases e
 ·cases e;exact⟨F,ρ,H0,d,ρ',R,e1,λv H0' H' s R' r=>k _ _ _ s R'⟩
noncomputable def sIf(c:FT) (f g:FS):FS:=λρ=>match c ρ with
 |some (true,ρ')=>f ρ'
 |some (false,ρ')=>g ρ'
 |none=>none
theorem VQ(hc:PT X c (tFT G h))(ha:PSs X a (tFS G f))(hb:PSs X b (tFS G g)):PS X (.If c a b pos) (tFS G (sIf h f g)):=PS.weak (YY hc ha hb) λE σ H hh=>by
 obtain⟨F,ρ,H0,o,R,e,k,k2⟩:=hh;unfold sIf at e;rcases sO (f:=h) (ρ:=ρ)with e1|⟨d,ρ',e1⟩
 ·simp only[e1]at e;cases e
 ·refine⟨F,ρ,H0,d,ρ',R,e1,λH0' H' s R'=>?_⟩;cases d with
  |true=>simp only[e1]at e;exact Ib ⟨F,ρ',H0',o,R',e,k.back s,k2⟩
  |false=>simp only[e1]at e;exact Ia ⟨F,ρ',H0',o,R',e,k.back s,k2⟩
abbrev FG:=D->aZ->Option aZ
def tFG(G:Bg)(n:Nat)(g:FG):TG:=λv σ H Q=>∃F ρ H0 d ρ',sC G F σ ρ H0 H/\Rep G H0 d v/\g d ρ=some ρ'/\∀σ',σ'.drop n=σ.drop n->sC G F σ' ρ' H0 H->Q σ' H
def O3(G:Bg)(n:Nat)(g:aS->aZ->Option aZ):TGs:=λvs σ H Q=>∃F ρ H0 ds ρ',sC G F σ ρ H0 H/\r6 G H0 ds vs/\g ds ρ=some ρ'/\∀σ',σ'.drop n=σ.drop n->sC G F σ' ρ' H0 H->Q σ' H
theorem PG.weak(h:PG X e t)(w:∀v σ H Q,t' v σ H Q->t v σ H Q):PG X e t':=λpins s σ H x u Q I r hq=>h pins s σ H x u Q I r (w _ _ _ _ hq)
theorem PGs.weak(h:PGs X e t)(w:∀v σ H Q,t' v σ H Q->t v σ H Q):PGs X e t':=λpins s σ H x u Q I r hq=>h pins s σ H x u Q I r (w _ _ _ _ hq)
def gN(i:Nat):FG:=λd ρ=>some (ρ.set i (.im d))
theorem Jr{α:Type}{l:List α}{n:Nat}{x:α}(h:i<n):(l.set i x).drop n=l.drop n:=by apply oJ;intro j;rw[cX,cX,bT,aj (by omega)]
theorem O4(n:Nat)(h:PG X tg (yG i))(hi:i<n):PG X tg (tFG G n (gN i)):=PG.weak h λv σ H Q hh=>by obtain⟨F,ρ,H0,d,ρ',R,r,e,k⟩:=hh;cases e;exact k _ (Jr hi) (R.setIm i r)
def EW:aS->aZ->Option aZ:=λds ρ=>match ds with
 |[]=>some ρ
 |_=>none
def vE(g:FG)(gs:aS->aZ->Option aZ):aS->aZ->Option aZ:=λds ρ=>match ds with
 |d::r=>match g d ρ with
  |some ρ'=>gs r ρ'
  |none=>none
 |[]=>none
theorem Sk(h:PGs X [] YZ):PGs X [] (O3 G n EW):=PGs.weak h λv σ H Q hh=>by
 obtain⟨F,ρ,H0,ds,ρ',R,r,e,k⟩:=hh;cases ds with
 |nil=>cases e;unfold r6 at r;exact⟨r,k _ rfl R⟩
 |cons d ds=>cases e
theorem O5(h:PGs X (e::es) (Up (tFG G n g) (O3 G n gs))):PGs X (e::es) (O3 G n (vE g gs)):=PGs.weak h λv σ H Q hh=>by
 obtain⟨F,ρ,H0,ds,ρ',R,r,e,k⟩:=hh;cases ds with
 |nil=>cases e
 |cons d ds=>
  unfold r6 at r;obtain⟨v1,r1,rfl,q1,q2⟩:=r;unfold vE at e;cases e1:g d ρ with
  |none=>simp only[e1]at e;cases e
  |some ρ1=>simp only[e1]at e;exact⟨v1,r1,rfl,F,ρ,H0,d,ρ1,R,q1,e1,λσ' s R'=>⟨F,ρ1,H0,ds,ρ',R',q2,e,λσ'' s' R''=>k _ (s'.trans s) R''⟩⟩
def gT(gs:aS->aZ->Option aZ)(n:Nat):FG:=λd ρ=>match d with
 |.tup ds=>if ds.length=n then gs ds ρ else none
 |_=>none
theorem Sm(h:PG X (.Tuple es k pos) (U4 G.K m (O3 G n gs))):PG X (.Tuple es k pos) (tFG G n (gT gs m)):=PG.weak h λv σ H Q hh=>by
 obtain⟨F,ρ,H0,d,ρ',R,r,e,k⟩:=hh;cases d with
 |tup ds=>
  unfold gT at e;simp only at e;split at e
  ·rename_i hl;unfold Rep at r;obtain⟨a,xs,rfl,h1,h2⟩:=r;exact⟨a,xs,rfl,SqT.mono R.sub h1,by rw[<-r9 h2];exact hl,F,ρ,H0,ds,ρ',R,h2,e,k⟩
  ·cases e
 |_=>cases e
def Nr(f:FE)(g:FG):FS:=λρ=>match f ρ with
 |some (d,ρ')=>match g d ρ' with
  |some ρ2=>some (.nx ρ2)
  |none=>none
 |none=>none
theorem Sn(h:PS X st (CC (tF G f) (tFG G n g))):PS X st (tFS G (Nr f g)):=PS.weak h λE σ H hh=>by
 obtain⟨F,ρ,H0,o,R,e,k,k2⟩:=hh;unfold Nr at e;rcases sO (f:=f) (ρ:=ρ)with e1|⟨d,ρ',e1⟩<;>simp only[e1]at e
 ·cases e
 ·cases e2:g d ρ' with
  |none=>simp only[e2]at e;cases e
  |some ρ2=>simp only[e2]at e;cases e;exact⟨F,ρ,H0,d,ρ',R,e1,λv H0' H' s R' r=>⟨F,ρ',H0',d,ρ2,R',r,e2,λσ' _ R2=>k _ _ _ s R2⟩⟩
def sM(i:Nat)(f:FE):FS:=λρ=>match f ρ with
 |some (d,ρ')=>some (.nx (ρ'.set i (.im d)))
 |none=>none
theorem L6(h:PS X st (CC (tF G f) (yG i))):PS X st (tFS G (sM i f)):=PS.weak h λE σ H hh=>by
 obtain⟨F,ρ,H0,o,R,e,k,k2⟩:=hh;unfold sM at e;rcases sO (f:=f) (ρ:=ρ)with e1|⟨d,ρ',e1⟩<;>simp only[e1]at e
 ·cases e
 ·cases e;exact⟨F,ρ,H0,d,ρ',R,e1,λv H0' H' s R' r=>k _ _ _ s (R'.setIm i r)⟩
def vz(i:Nat)(f:FA):FS:=λρ=>match f ρ with
 |some (d,ρ')=>some (.nx (ρ'.set i (.ls d)))
 |none=>none
theorem O6(h:PS X st (CC (tFN G f) (yG i))):PS X st (tFS G (vz i f)):=PS.weak h λE σ H hh=>by
 obtain⟨F,ρ,H0,o,R,e,k,k2⟩:=hh;unfold vz at e;rcases sO (f:=f) (ρ:=ρ)with e1|⟨d,ρ',e1⟩<;>simp only[e1]at e
 ·cases e
 ·cases e;exact⟨F,ρ,H0,d,ρ',R,e1,λp xs H0' H' s R' h1 h2 h3 h4 h5=>k _ _ _ s (R'.setLs i h1 h2 h3 h4 h5)⟩
def stE(n:Nat)(ds:aS):aZ:=ds.map Sl.im++dP (n - ds.length) .un
def fnD(np n:Nat)(f:FS):aS->Option D:=λds=>if ds.length=np then match f (stE n ds)with
 |some (.rt d _)=>some d
 |some (.rn ds _)=>some (.lst ds)
 |some (.nx _)=>some .non
 |_=>none
 else none
def fnN(np n:Nat)(f:FS):aS->Option aS:=λds=>if ds.length=np then match f (stE n ds)with
 |some (.rn ds _)=>some ds
 |_=>none
 else none
def spF(G:Bg)(g:aS->Option D):Sp:=λvs H Q _=>∃H0 ds d,sq H0 H/\r6 G H0 ds vs/\g ds=some d/\
 ∀v H0' H',sq H0 H0'->sq H0' H'->sq H H'->(∀b o,H0' b=some o->H0 b=some o\/H b=none)->Rep G H0' d v->Q v H'
def spN(G:Bg)(g:aS->Option aS):Sp:=λvs H Q _=>∃H0 ds d,sq H0 H/\r6 G H0 ds vs/\g ds=some d/\
 ∀p xs H0' H',sq H0 H0'->sq H0' H'->sq H H'->(∀b o,H0' b=some o->H0 b=some o\/H b=none)->H p=none->H' p=some (.lst xs)->H0' p=none->r6 G H0' d xs->Q (.ref p) H'
theorem Es{n:Nat}{ds:aS}{s:Sl}(h:(stE n ds)[i]?=some s):s=.un\/∃d,ds[i]?=some d/\s=.im d:=by
 unfold stE at h;by_cases hi:i<ds.length
 ·rw[cG (by simpa using hi),bt,aN hi]at h;cases h;exact .inr ⟨_,aN hi,rfl⟩
 ·rw[cz (by simpa using hi),fq]at h;split at h
  ·cases h;exact .inl rfl
  ·cases h
theorem vd{vs:bC}{v:V}(h:vs[i]?=some v):((L2.start N vs)[i]?).join=some v:=by unfold L2.start;have hi:=(bS.mp h).1;rw[cG (by simpa using hi),bt,h];rfl
theorem GQ(s:sq H0 H)(r:r6 G H0 ds vs)(hl:vs.length<=N.length):sC G ⟨H0,H,[]⟩ (L2.start N vs) (stE N.length ds) H0 H where
 sub:=s
 g0:=sq.refl _
 keep:=λb o e _=>e
 fr:=λb o e=>.inl e
 am:=λa h=>by cases h
 len:=by unfold L2.start stE;rw[aA,aA,ag,ag,cf,cf,r9 r]
 sl:=λi t e=>by
  rcases Es e with rfl|⟨d,e1,rfl⟩
  ·trivial
  ·obtain⟨v,e2,e3⟩:=um r e1;exact⟨v,vd e2,e3⟩
 ap:=λi j t u a _ e _ ht=>by rcases Es e with rfl|⟨d,_,rfl⟩<;>cases ht
theorem Js(h:fnD np n f ds=some d):ds.length=np/\((∃ρ,f (stE n ds)=some (.rt d ρ))\/(∃xs ρ,f (stE n ds)=some (.rn xs ρ)/\d=.lst xs)\/∃ρ,f (stE n ds)=some (.nx ρ)/\d=.non):=by
 unfold fnD at h;split at h
 ·rename_i hl;refine⟨hl,?_⟩;split at h
  ·rename_i e;cases h;exact .inl ⟨_,e⟩
  ·rename_i e;cases h;exact .inr (.inl ⟨_,_,e,rfl⟩)
  ·rename_i e;cases h;exact .inr (.inr ⟨_,e,rfl⟩)
  ·cases h
 ·cases h
theorem Jt(h:fnN np n f ds=some xs):ds.length=np/\∃ρ,f (stE n ds)=some (.rn xs ρ):=by
 unfold fnN at h;split at h
 ·rename_i hl;refine⟨hl,?_⟩;split at h
  ·rename_i e;cases h;exact⟨_,e⟩
  ·cases h
 ·cases h
end
theorem So(hN:np<=N.length)(h:spF G (fnD np N.length f) vs H Q E):tFS G f { nx:=λ_ H'=>Q .non H',rt:=Q } (L2.start N vs) H:=by
 obtain⟨H0,ds,d,s,r,e,k⟩:=h;obtain⟨hl,e'⟩:=Js e;clear e;have R:=GQ (N:=N) s r (by rw[<-r9 r,hl];exact hN);have fin:∀{σ':St} {ρ':aZ} {H0' H':Hp},sC G ⟨H0,H,[]⟩ σ' ρ' H0' H'->sq H H'/\sq H0' H'/\∀b o,H0' b=some o->H0 b=some o\/H b=none:=λR'=>⟨λb o e=>R'.keep b o e (by simp),R'.sub,R'.fr⟩;rcases e' with ⟨ρ,e⟩|⟨xs,ρ,e,rfl⟩|⟨ρ,e,rfl⟩
 ·refine⟨_,_,H0,_,R,e,λv σ' H0' H' s' R' rv=>?_,λ_=>rfl⟩;obtain⟨h1,h2,h3⟩:=fin R';exact k v H0' H' s' h2 h1 h3 rv
 ·refine⟨_,_,H0,_,R,e,λp ys σ' H0' H' s' R' hp h0 hb ap rs=>?_,λ_=>rfl⟩;have R2:=R'.freeze hp h0 hb ap;obtain⟨h1,h2,h3⟩:=fin R2;exact k _ _ H' (s'.trans (sv h0 _)) h2 h1 h3 (yc se (r6.mono (sv h0 _) _ _ rs))
 ·refine⟨_,_,H0,_,R,e,λσ' H0' H' s' R'=>?_,λ_=>rfl⟩;obtain⟨h1,h2,h3⟩:=fin R';exact k _ H0' H' s' h2 h1 h3 BQ
theorem Sq(hN:np<=N.length)(h:spN G (fnN np N.length f) vs H Q E):tFS G f { nx:=λ_ H'=>Q .non H',rt:=Q } (L2.start N vs) H:=by obtain⟨H0,ds,d,s,r,e,k⟩:=h;obtain⟨hl,ρ,e⟩:=Jt e;have R:=GQ (N:=N) s r (by rw[<-r9 r,hl];exact hN);refine⟨_,_,H0,_,R,e,λp ys σ' H0' H' s' R' hp h0 hb ap rs=>?_,λ_=>rfl⟩;exact k p ys H0' H' s' R'.sub (λb o e=>R'.keep b o e (by simp)) R'.fr hb hp h0 rs
theorem Zr(hg:∀ds d,g ds=some d->ds.length=np):∀vs H Q E,spF G g vs H Q E->vs.length=np:=λvs H Q E h=>by obtain⟨H0,ds,d,_,r,e,_⟩:=h;rw[<-r9 r];exact hg _ _ e
theorem Zs(hg:∀ds d,g ds=some d->ds.length=np):∀vs H Q E,spN G g vs H Q E->vs.length=np:=λvs H Q E h=>by obtain⟨H0,ds,d,_,r,e,_⟩:=h;rw[<-r9 r];exact hg _ _ e
theorem Sr:∀ds d,fnD np n f ds=some d->ds.length=np:=λ_ _ h=>(Js h).1
theorem Ss:∀ds d,fnN np n f ds=some d->ds.length=np:=λ_ _ h=>(Jt h).1
def CM{α:Type}(g:aS->Option α)(a:FA):aZ->Option (α×aZ):=λρ=>match a ρ with
 |some (ds,ρ')=>match g ds with
  |some d=>some (d,ρ')
  |none=>none
 |none=>none
abbrev rW(g:aS->Option D)(a:FA):FE:=CM g a
abbrev sX(g:aS->Option aS)(a:FA):FA:=CM g a
variable{ρ':aZ}
theorem Br{α:Type}{g:aS->Option α}{a:FA}{d:α}(h:CM g a ρ=some (d,ρ')):∃ds,a ρ=some (ds,ρ')/\g ds=some d:=by
 unfold CM at h;rcases sO (f:=a) (ρ:=ρ)with e1|⟨ds,ρ1,e1⟩<;>simp only[e1]at h
 ·cases h
 ·cases e2:g ds with
  |none=>simp only[e2]at h;cases h
  |some x=>simp only[e2]at h;cases h;exact⟨ds,e1,e2⟩
section
variable{X:Cx}{G:Bg}
theorem Su(hd:∀H,r6 G H dds dvs):∀σ H Q,tF G (rW (λds=>g (ds++dds)) a) σ H Q->zX (spF G g) dvs E (tFA G a) σ H Q:=λσ H Q hh=>by obtain⟨F,ρ,H0,d,ρ',R,e,k⟩:=hh;obtain⟨ds,e1,e2⟩:=Br e;refine⟨F,ρ,H0,ds,ρ',R,e1,λxs H1 H1' s R' rs=>⟨H1,ds++dds,d,R'.sub,uI rs (hd _),e2,λv H2 H2' s1 s2 s3 fr rv=>?_⟩⟩;exact k v H2 H2' (s.trans s1) (R'.grow s3 s1 s2 fr) rv
theorem Sv(hd:∀H,r6 G H dds dvs):∀σ H Q,tFN G (sX (λds=>g (ds++dds)) a) σ H Q->zX (spN G g) dvs E (tFA G a) σ H Q:=λσ H Q hh=>by obtain⟨F,ρ,H0,d,ρ',R,e,k⟩:=hh;obtain⟨ds,e1,e2⟩:=Br e;refine⟨F,ρ,H0,ds,ρ',R,e1,λxs H1 H1' s R' rs=>⟨H1,ds++dds,d,R'.sub,uI rs (hd _),e2,λp ys H2 H2' s1 s2 s3 fr hn hp h0 rv=>?_⟩⟩;exact k p ys H2 H2' (s.trans s1) (R'.grow s3 s1 s2 fr) hp h0 (R'.bNone hn) (R'.apart hn) rv
end
section
variable{X:Cx}{G:Bg}
theorem Sw(hd:∀H,r6 G H dds dvs)(h:PE X e (zX (spF G g) dvs E (tFA G a))):PE X e (tF G (rW (λds=>g (ds++dds)) a)):=PE.weak h (Su hd)
theorem O7(hd:∀H,r6 G H dds dvs)(h:PE X e (zX (spN G g) dvs E (tFA G a))):PE X e (tFN G (sX (λds=>g (ds++dds)) a)):=PE.weak h (Sv hd)
theorem Nt(h:PE X e (zX (spN G g) [] E Jd)):PE X e (tFN G (sX g sS)):=PE.weak h λσ H Q hh=>by obtain⟨F,ρ,H0,d,ρ',R,e,k⟩:=hh;obtain⟨ds,e1,e2⟩:=Br e;cases e1;exact⟨H0,[],d,R.sub,sR,e2,λp ys H2 H2' s1 s2 s3 fr hn hp h0 rv=>k p ys H2 H2' s1 (R.grow s3 s1 s2 fr) hp h0 (R.bNone hn) (R.apart hn) rv⟩
def Nu:aB->aS->Str->Option D
 |n::ns,d::ds,f=>if n=f then some d else Nu ns ds f
 |_,_,_=>none
theorem GR:∀{ns:aB} {ds:aS} {xs:bC} {f:Str} {d:D},r6 G H ds xs->Nu ns ds f=some d->∃v,(ns.zip xs).lookup f=some v/\Rep G H d v
 |[],ds,xs,f,d,r,e=>by simp[Nu]at e
 |n::ns,[],xs,f,d,r,e=>by simp[Nu]at e
 |n::ns,d'::ds,xs,f,d,r,e=>by
  unfold r6 at r;obtain⟨v,q,rfl,h1,h2⟩:=r;unfold Nu at e;by_cases hn:n=f
  ·rw[ai hn]at e;cases e;subst hn;exact⟨v,by simp[cP],h1⟩
  ·rw[aj hn]at e;obtain⟨w,e1,e2⟩:=GR h2 e;refine⟨w,?_,e2⟩;have hb:(f==n)=false:=beq_eq_false_iff_ne.mpr λz=>hn z.symm;simp only[df,cP,hb];exact e1
def uX(ok:Nat->Bool)(f:Str):D->Option D
 |.obj c ns ds=>if ok c=true then Nu ns ds f else none
 |_=>none
theorem O8(he:PE X e (tF G ff))(hc:∀c,ok c=true->Cls X.K (G.ca c)/\xC X.K (G.ca c) f)(hb:attributeBase e f X.env (eval e X.env)=eval e X.env:=by rfl):PE X (.Attribute e f pos) (tF G (c1 (uX ok f) ff)):=PE.weak (Vj he hb) λσ H Q hh=>by
 obtain⟨F,ρ,H0,d,ρ',R,e,k⟩:=hh;obtain⟨x,e1,e2⟩:=Er e;cases x with
 |obj c ns ds=>
  unfold uX at e2;simp only at e2;split at e2
  ·rename_i hk;refine⟨F,ρ,H0,_,ρ',R,e1,λv H1 H1' s R' r=>?_⟩;unfold Rep at r;obtain⟨a,dx,xs,rfl,h1,h2,h3⟩:=r;obtain⟨w,l1,l2⟩:=GR h3 e2;exact⟨a,_,dx,_,w,rfl,R'.sub _ _ h1,(hc c hk).1,(hc c hk).2,l1,k _ _ _ s R' l2⟩
  ·cases e2
 |_=>cases e2
def MOk(X:Cx)(C:Addr)(m:Str)(sp:Sp)(dvs:bC)(E:XK):Prop:=∃(k:Nat) (f:Addr) (fd:bY) (ps:aB) (ds:List aa),Cls X.K C/\Meth X.K C m f/\vQ X.prog X.w X.K X.mg X.base CX0 k f fd ps sp/\ug k X.A/\Binds X.K fd ps ds/\Vals dvs ds/\Passes CX0 X E
def t8(g:Nat->Option (aS->Option D))(m:Str)(f:FE)(a:FA):FE:=λρ=>match f ρ with
 |some (.obj c ns ds,ρ1)=>match g c with
  |some h=>if ns.contains m=true then none else match a ρ1 with
   |some (es,ρ2)=>match h (.obj c ns ds::es)with
    |some d=>some (d,ρ2)
    |none=>none
   |none=>none
  |none=>none
 |_=>none
theorem EX(h:t8 g m f a ρ=some (d,ρ')):
  ∃c ns ds ρ1 hh es,f ρ=some (.obj c ns ds,ρ1)/\g c=some hh/\ns.contains m=false/\a ρ1=some (es,ρ')/\hh (.obj c ns ds::es)=some d:=by
 unfold t8 at h;split at h
 ·rename_i c ns ds ρ1 e1;cases e2:g c with
  |none=>simp only[e2]at h;cases h
  |some hh=>
   simp only[e2]at h;cases e3:ns.contains m with
   |true=>simp only[e3,if_true]at h;cases h
   |false=>
    simp only[e3,eF,if_false]at h;rcases sO (f:=a) (ρ:=ρ1)with e4|⟨es,ρ2,e4⟩<;>simp only[e4]at h
    ·cases h
    ·cases e5:hh (.obj c ns ds::es)with
     |none=>simp only[e5]at h;cases h
     |some x=>simp only[e5]at h;cases h;exact⟨c,ns,ds,ρ1,hh,es,e1,e2,e3,e4,e5⟩
 ·cases h
theorem Bs:∀{ns:aB} {xs:bC},ns.contains m=false->(ns.zip xs).lookup m=none
 |[],xs,h=>rfl
 |n::ns,[],h=>rfl
 |n::ns,x::xs,h=>by rw[oA,kh]at h;simp only[df,cP,h.1];exact Bs h.2
theorem O9(T:Addr->Sp->Prop)(hT:∀C sp,T C sp->MOk X C m sp dvs E)(he:PE X o ta)(ha:PA X (e::es) t)
  (hst:starEach (e::es) X.env=(false,eval e X.env)::starEach es X.env:=by rfl) (hpl:(backTo pos (starEach es X.env)).any (·.1)=false:=by rfl)
  (ht:eval (.Call (.Attribute o m apos) (e::es) [] pos) X.env=(do
   let ov<-eval o X.env
   standAt apos.atName
   let (f,first)<-holding [ov] (getMethod ov m pl)
   callWith pos f first (backTo pos (starEach (e::es) X.env)) (backToKw pos (keywordEach [] X.env))):=by rfl):
  PE X (.Call (.Attribute o m apos) (e::es) [] pos) (λσ H Q=>ta σ H λx H1=>∃a C dx fs sp,x=.ref a/\H1 a=some (.ins C dx fs)/\T C sp/\fs.lookup m=none/\t σ H1 λvs H2=>sp (x::(vs++dvs)) H2 Q E):=by
 intro pins s σ H Q I h;refine pd (pl:=pl) (thn (he pins s σ H _ I h) λu s1 ⟨x,H1,I1,rx,a,C,dx,fs,sp,ex,ea,ht,l,q⟩=>?_) ht;obtain⟨k,f,fd,ps,ds,c,hm,F,hr,hb,hd,hx⟩:=hT C sp ht;subst ex;obtain rfl:u=Value.ref a:=rx;refine ED I1 ea c hm l ?_;refine lg (first:=[.ref a]) (h₀:=X.base) I.ok.mod.kin hm.kp (thn (ha pos pins s1 σ H1 _ I1 q) λus s2 ⟨vs,H2,I2,r,q2⟩=>⟨I2.kIn,?_⟩) hst hpl;exact HP (us:=.ref a::us) (vs:=.ref a::vs) F hr hb hd hx I2 (.cons rfl r) q2
theorem Nv(T:Addr->Sp->Prop)(hT:∀C sp,T C sp->MOk X C m sp dvs E)(he:PE X o ta)
  (ht:eval (.Call (.Attribute o m apos) [] [] pos) X.env=(do
   let ov<-eval o X.env
   standAt apos.atName
   let (f,first)<-holding [ov] (getMethod ov m pl)
   callWith pos f first (backTo pos (starEach [] X.env)) (backToKw pos (keywordEach [] X.env))):=by rfl):
  PE X (.Call (.Attribute o m apos) [] [] pos) (λσ H Q=>ta σ H λx H1=>∃a C dx fs sp,x=.ref a/\H1 a=some (.ins C dx fs)/\T C sp/\fs.lookup m=none/\sp (x::dvs) H1 Q E):=by
 intro pins s σ H Q I h;refine pd (pl:=pl) (thn (he pins s σ H _ I h) λu s1 ⟨x,H1,I1,rx,a,C,dx,fs,sp,ex,ea,ht,l,q⟩=>?_) ht;obtain⟨k,f,fd,ps,ds,c,hm,F,hr,hb,hd,hx⟩:=hT C sp ht;subst ex;obtain rfl:u=Value.ref a:=rx;refine ED I1 ea c hm l ?_;exact kO (first:=[.ref a]) I1.kIn hm.kp (HP (us:=[.ref a]) (vs:=[.ref a]) F hr hb hd hx I1 (.cons rfl .nil) q)
def MT(G:Bg)(g:Nat->Option (aS->Option D)):Addr->Sp->Prop:=λC sp=>∃c h,g c=some h/\C=G.ca c/\sp=spF G h
theorem Sx(h:PE X (.Call (.Attribute o m apos) (e::es) [] pos) (λσ H Q=>tF G f σ H λx H1=>∃a' C dx fs sp,x=.ref a'/\H1 a'=some (.ins C dx fs)/\MT G g C sp/\fs.lookup m=none/\tFA G a σ H1 λvs H2=>sp (x::(vs++[])) H2 Q E)):
  PE X (.Call (.Attribute o m apos) (e::es) [] pos) (tF G (t8 g m f a)):=PE.weak h λσ H Q hh=>by
 obtain⟨F,ρ,H0,d,ρ',R,e,k⟩:=hh;obtain⟨c,ns,ds,ρ1,hh,es',e1,e2,e3,e4,e5⟩:=EX e;refine⟨F,ρ,H0,_,ρ1,R,e1,λv H1 H1' s R' r=>?_⟩;have r0:=r;unfold Rep at r;obtain⟨a',dx,xs,rfl,h1,h2,h3⟩:=r;refine⟨a',_,dx,_,_,rfl,R'.sub _ _ h1,⟨c,hh,e2,rfl,rfl⟩,Bs e3,F,ρ1,H1,es',ρ',R',e4,λys H2 H2' s2 R2 rs=>?_⟩;show spF G hh (V.ref a'::(ys++[])) H2' Q E;rw[bq];exact⟨H2,_,d,R2.sub,sP (Rep.mono s2 _ _ r0) rs,e5,λv H3 H3' t1 t2 t3 fr rv=>k v H3 H3' (s.trans (s2.trans t1)) (R2.grow t3 t1 t2 fr) rv⟩
theorem Pa(h:PE X (.Call (.Attribute o m apos) [] [] pos) (λσ H Q=>tF G f σ H λx H1=>∃a' C dx fs sp,x=.ref a'/\H1 a'=some (.ins C dx fs)/\MT G g C sp/\fs.lookup m=none/\sp (x::[]) H1 Q E)):
  PE X (.Call (.Attribute o m apos) [] [] pos) (tF G (t8 g m f sS)):=PE.weak h λσ H Q hh=>by
 obtain⟨F,ρ,H0,d,ρ',R,e,k⟩:=hh;obtain⟨c,ns,ds,ρ1,hh,es',e1,e2,e3,e4,e5⟩:=EX e;cases e4;refine⟨F,ρ,H0,_,_,R,e1,λv H1 H1' s R' r=>?_⟩;have r0:=r;unfold Rep at r;obtain⟨a',dx,xs,rfl,h1,h2,h3⟩:=r;refine⟨a',_,dx,_,_,rfl,R'.sub _ _ h1,⟨c,hh,e2,rfl,rfl⟩,Bs e3,?_⟩;exact⟨H1,_,d,R'.sub,sP r0 sR,e5,λv H3 H3' t1 t2 t3 fr rv=>k v H3 H3' (s.trans t1) (R'.grow t3 t1 t2 fr) rv⟩
def spI(G:Bg)(c:Nat)(g:aS->Option (aB×aS)):Sp:=λvs H Q _=>∃(p dx:Addr) (us:bC) (H0:Hp) (ds:aS) (ns:aB) (es:aS),vs=.ref p::us/\H p=some (.ins (G.ca c) dx [])/\H0 p=none/\sq H0 H/\r6 G H0 ds us/\g ds=some (ns,es)/\
 ∀ys dx' H0' H',sq H0 H0'->sq H0' H'->(∀b o,H b=some o->b≠p->H' b=some o)->(∀b o,H0' b=some o->H0 b=some o\/H b=none)->H0' p=none->H' p=some (.ins (G.ca c) dx' (ns.zip ys))->ns.length=ys.length->r6 G H0' es ys->Q .non H'
def sU(c:Nat)(g:aS->Option (aB×aS))(a:FA):FE:=λρ=>match a ρ with
 |some (ds,ρ')=>match g ds with
  |some (ns,es)=>some (.obj c ns es,ρ')
  |none=>none
 |none=>none
theorem Sy(hd:∀H,r6 G H dds dvs)(h:PE X e (Ur (G.ca c) (spI G c g) dvs E (tFA G a))):PE X e (tF G (sU c (λds=>g (ds++dds)) a)):=PE.weak h λσ H Q hh=>by
 obtain⟨F,ρ,H0,d,ρ',R,e,k⟩:=hh;unfold sU at e;rcases sO (f:=a) (ρ:=ρ)with e1|⟨ds,ρ1,e1⟩<;>simp only[e1]at e
 ·cases e
 ·cases e2:g (ds++dds)with
  |none=>simp only[e2]at e;cases e
  |some q=>
   obtain⟨ns,es⟩:=q;simp only[e2]at e;cases e;refine⟨F,ρ,H0,ds,ρ',R,e1,λxs H1 H1' s R' rs x dx hx hdx ne=>?_⟩;have hx2:(upd H1' dx (.own x)) x=none:=by rw[sf (λz=>ne z.symm)];exact hx
   have sx:sq H1' (upd (upd H1' dx (.own x)) x (.ins (G.ca c) dx [])):=(sv hdx _).trans (sv hx2 _);refine⟨x,dx,_,H1,ds++dds,ns,es,rfl,se,R'.h0none hx,R'.sub.trans sx,uI rs (hd _),e2,λys dx' H2 H2' t1 t2 t3 fr h0 hp hl ry=>⟨rfl,?_⟩⟩;have t4:sq H1' H2':=λb o e=>t3 b o (sx b o e) (uV e hx);have fr1:∀b o,H2 b=some o->H1 b=some o\/H1' b=none:=λb o e=>by
    rcases fr b o e with q|q
    ·exact .inl q
    ·cases z:H1' b with
     |none=>exact .inr rfl
     |some u=>rw[sx b u z]at q;cases q
   have R2:=R'.grow t4 t1 t2 fr1;have hb:F.B x=none:=R'.bNone hx;have R3:=R2.freeze hp h0 hb (λi t ei to z=>R'.apart hx i t ei to z);refine k _ _ _ (s.trans (t1.trans (sv h0 _))) R3 ?_;unfold Rep;exact⟨x,dx',ys,rfl,se,hl,r6.mono (sv h0 _) _ _ ry⟩
def sY(c0:Nat)(i:Nat)(f:Str)(ff:FE):FS:=λρ=>match ff ρ with
 |some (d,ρ1)=>match ρ1[i]? with
  |some (.ob c ns ds)=>if c=c0 then if ns.contains f=true then none else if ds.length=ns.length then if ns.length<900 then some (.nx (ρ1.set i (.ob c (ns++[f]) (ds++[d]))))else none else none else none
  |_=>none
 |none=>none
theorem Ju:∀{ns:aB} {xs:bC},ns.contains f=false->ns.length=xs.length->yH f v (ns.zip xs)=(ns++[f]).zip (xs++[v])
 |[],[],h,l=>rfl
 |[],x::xs,h,l=>by cases l
 |n::ns,[],h,l=>by cases l
 |n::ns,x::xs,h,l=>by
  rw[oA,kh]at h;have hn:¬n=f:=λz=>by rw[z]at h;simp at h
  have ih:=Ju (f:=f) (v:=v) (ns:=ns) (xs:=xs) h.2 (by simpa using l);show yH f v ((n,x)::ns.zip xs)=_;rw[show yH f v ((n,x)::ns.zip xs)=(if n=f then (n,v)::ns.zip xs else (n,x)::yH f v (ns.zip xs)) from rfl,aj hn,ih];rfl
theorem SA(h:PS X st (Y8 X.K (yp i) (tF G ff) f))(hc:Cls X.K (G.ca c0)/\xC X.K (G.ca c0) f):PS X st (tFS G (sY c0 i f ff)):=PS.weak h λE σ H hh=>by
 obtain⟨F,ρ,H0,o,R,e,k,k2⟩:=hh;unfold sY at e;rcases sO (f:=ff) (ρ:=ρ)with e1|⟨d,ρ1,e1⟩<;>simp only[e1]at e
 ·cases e
 ·split at e
  ·rename_i c ns ds e2;split at e
   ·rename_i hcc;subst hcc;split at e
    ·cases e
    rename_i hnc;split at e
    ·rename_i hl;split at e
     ·rename_i h9;cases e;refine⟨F,ρ,H0,d,ρ1,R,e1,λv H1 H1' s R' r=>?_⟩;obtain⟨a,dx,xs,e3,e4,e5,e6,e7,e8⟩:=R'.sl i _ e2;refine⟨_,uW e3,a,_,dx,_,rfl,e4,hc.1,hc.2,by rw[eL];omega,?_⟩;have hnf:ns.contains f=false:=by simpa using hnc
      rw[Ju hnf e7];refine k _ _ _ s (R'.mut e2 rfl e3 (λH' hH=>?_) rfl);exact⟨a,dx,xs++[v],rfl,hH,e5,e6,by rw[aA,aA,e7];rfl,uI e8 (sP r sR)⟩
     ·cases e
    ·cases e
   ·cases e
  ·cases e
def stI(c n:Nat)(ds:aS):aZ:=.ob c [] []::stE (n - 1) ds
def fnI(c np n:Nat)(f:FS):aS->Option (aB×aS):=λds=>if ds.length=np then match f (stI c n ds)with
 |some (.nx ρ)=>match (ρ:aZ)[0]? with
  |some (Sl.ob c' ns es)=>if c'=c then if ns.length=es.length then some (ns,es)else none else none
  |_=>none
 |_=>none
 else none
theorem EY(h:fnI c np n f ds=some q):ds.length=np/\∃ρ,f (stI c n ds)=some (.nx ρ)/\ρ[0]?=some (.ob c q.1 q.2)/\q.1.length=q.2.length:=by
 unfold fnI at h;split at h
 ·rename_i hl;refine⟨hl,?_⟩;split at h
  ·rename_i ρ e;split at h
   ·rename_i c' ns es e2;split at h
    ·rename_i hc;split at h
     ·rename_i h3;subst hc;cases h;exact⟨ρ,e,e2,h3⟩
     ·cases h
    ·cases h
   ·cases h
  ·cases h
 ·cases h
theorem L7(hN:np+1<=N.length)(h:spI G c (fnI c np N.length f) vs H Q E):tFS G f { nx:=λ_ H'=>Q .non H',rt:=Q } (L2.start N vs) H:=by
 obtain⟨p,dx,us,H0,ds,ns,es,rfl,hp,h0,s,r,e,k⟩:=h;obtain⟨hl,ρ,e1,e2,e3⟩:=EY e;have hul:us.length=np:=by rw[<-r9 r];exact hl
 have gets:∀{i:Nat} {t:Sl},(stI c N.length ds)[i]?=some t->(i=0/\t=.ob c [] [])\/t=.un\/∃(j:Nat) (d:D),i=j+1/\ds[j]?=some d/\t=.im d:=λ{i t} e=>by
  cases i with
  |zero=>cases e;exact .inl ⟨rfl,rfl⟩
  |succ j=>
   have e':(stE (N.length - 1) ds)[j]?=some t:=e;rcases Es e' with rfl|⟨d,e1,rfl⟩
   ·exact .inr (.inl rfl)
   ·exact .inr (.inr ⟨j,d,rfl,e1,rfl⟩)
 have R:sC G ⟨H0,H,[p]⟩ (L2.start N (.ref p::us)) (stI c N.length ds) H0 H:={
  sub:=s
  g0:=sq.refl _
  keep:=λb o e _=>e
  fr:=λb o e=>.inl e
  am:=λa ha=>by
   have ea:a=p:=by simpa using ha
   subst ea;exact⟨_,hp⟩
  len:=by unfold L2.start stI stE;simp only[aA,ag,cf,aE];have:=r9 r;omega
  sl:=λi t e=>by
   rcases gets e with ⟨rfl,rfl⟩|rfl|⟨j,d,rfl,e1,rfl⟩
   ·exact⟨p,dx,[],vd rfl,hp,h0,by simp,rfl,sR⟩
   ·trivial
   ·obtain⟨v,e2,e3⟩:=um r e1;exact⟨v,vd (by simpa using e2),e3⟩
  ap:=λi j t u a hij ei ej ht hu=>by
   rcases gets ei with ⟨rfl,rfl⟩|rfl|⟨_,_,_,_,rfl⟩
   ·rcases gets ej with ⟨rfl,rfl⟩|rfl|⟨_,_,_,_,rfl⟩
    ·exact aq rfl hij
    ·cases hu
    ·cases hu
   ·cases ht
   ·cases ht }
 refine⟨_,_,H0,_,R,e1,λσ' H0' H' s' R'=>?_,λ_=>rfl⟩;obtain⟨a,dx',ys,q1,q2,q3,q4,q5,q6⟩:=R'.sl 0 _ e2;have ea:a=p:=by simpa using q4
 subst ea;exact k ys dx' H0' H' s' R'.sub (λb o e n=>R'.keep b o e (by simpa using n)) R'.fr q3 q2 q5 q6
end
def Sl.L:Sl->Option aS
 |.ls ds=>some ds
 |.pm ds=>some ds
 |_=>none
def Sl.putL:Sl->aS->Sl
 |.pm _,ds=>.pm ds
 |_,ds=>.ls ds
theorem Sl.L_own{s:Sl}(h:s.L=some ds):s.own=true:=by cases s<;>first|rfl|cases h
theorem Sl.putL_L{s:Sl}:(s.putL ds).L=some ds:=by cases s<;>rfl
section
variable{G:Bg}{F:Fr}{σ:St}{ρ:aZ}{H0 H:Hp}
theorem Bq.lst{o:Option V}{s:Sl}{ds:aS}(h:Bq G F H0 H o s)(e:s.L=some ds):∃a xs,o=some (.ref a)/\H a=some (.lst xs)/\H0 a=none/\r6 G H0 ds xs:=by
 cases s with
 |ls ds'=>cases e;obtain⟨a,xs,h1,h2,h3,h4,h5⟩:=h;exact⟨a,xs,h1,h2,h3,h5⟩
 |pm ds'=>cases e;obtain⟨a,xs,h1,h2,h3,h4,h5⟩:=h;exact⟨a,xs,h1,h2,h3,h5⟩
 |_=>cases e
theorem sC.mutL(R:sC G F σ ρ H0 H)(hi:ρ[i]?=some s)(hs:s.L=some ds)(ha:(σ[i]?).join=some (.ref a))(r:r6 G H0 ds' xs'):
  sC G F σ (ρ.set i (s.putL ds')) H0 (upd H a (.lst xs')):=by
 have ok:=R.sl i s hi;rw[ha]at ok;refine R.mut hi (Sl.L_own hs) ha (λH' hH=>?_) (Sl.L_own Sl.putL_L);cases s with
 |ls ds0=>obtain⟨b,xs,h1,h2,h3,h4,h5⟩:=ok;cases h1;exact⟨a,xs',rfl,hH,h3,h4,r⟩
 |pm ds0=>obtain⟨b,xs,h1,h2,h3,h4,h5⟩:=ok;cases h1;exact⟨a,xs',rfl,hH,h3,h4,r⟩
 |_=>cases hs
end
def uc(ρ:aZ)(i:Nat):Option aS:=match ρ[i]? with
 |some s=>s.L
 |none=>none
theorem ve(h:uc ρ i=some ds):∃s,ρ[i]?=some s/\s.L=some ds:=by
 unfold uc at h;cases e:ρ[i]? with
 |none=>rw[e]at h;cases h
 |some s=>rw[e]at h;exact⟨s,rfl,h⟩
def putAt(ρ:aZ)(i:Nat)(ds:aS):aZ:=match ρ[i]? with
 |some s=>ρ.set i (s.putL ds)
 |none=>ρ
def yK(i:Nat)(f:FE):FE:=λρ=>match uc ρ i with
 |some _=>match f ρ with
  |some (d,ρ1)=>match uc ρ1 i with
   |some ds=>if ds.length<1000 then some (.non,putAt ρ1 i (ds++[d]))else none
   |none=>none
  |none=>none
 |none=>none
section
variable{X:Cx}{G:Bg}
theorem uv(R:sC G F σ ρ H0 H)(h:uc ρ i=some ds):∃a xs,σ[i]?=some (some (.ref a))/\H a=some (.lst xs)/\r6 G H0 ds xs/\
  (∀ds' xs',r6 G H0 ds' xs'->sC G F σ (putAt ρ i ds') H0 (upd H a (.lst xs'))):=by
 obtain⟨s,e1,e2⟩:=ve h;obtain⟨a,xs,e3,e4,e5,e6⟩:=(R.sl i s e1).lst e2;refine⟨a,xs,uW e3,e4,e6,λds' xs' r=>?_⟩;unfold putAt;rw[e1];exact R.mutL e1 e2 e3 r
theorem Nw(h:PE X e (tBM G.K "list" HX (yp i) (tFA G (rR f sS)))):PE X e (tF G (yK i f)):=PE.weak h λσ H Q hh=>by
 obtain⟨F,ρ,H0,d,ρ',R,e,k⟩:=hh;unfold yK at e;cases e0:uc ρ i with
 |none=>simp only[e0]at e;cases e
 |some ds0=>
  simp only[e0]at e;rcases sO (f:=f) (ρ:=ρ)with e1|⟨x,ρ1,e1⟩<;>simp only[e1]at e
  ·cases e
  ·cases e2:uc ρ1 i with
   |none=>simp only[e2]at e;cases e
   |some ds=>
    simp only[e2]at e;split at e
    ·rename_i hl;cases e;obtain⟨a,xs,s1,s2,s3,_⟩:=uv R e0;refine⟨.ref a,s1,.inl ⟨rfl,xs,SqL.of s2⟩,F,ρ,H0,[x],ρ1,R,by unfold rR;rw[e1];rfl,λys H1 H1' s R' rs=>?_⟩;unfold r6 at rs;obtain⟨v,r0,rfl,rv,rn⟩:=rs;unfold r6 at rn;subst rn;obtain⟨a',xs',t1,t2,t3,t4⟩:=uv R' e2;rw[s1]at t1;cases t1;exact⟨a,xs',v,rfl,rfl,t2,by rw[<-r9 t3];exact AN (by omega),k _ _ _ s (t4 _ _ (uI t3 (sP rv sR))) BQ⟩
    ·cases e
def L8(i:Nat):FE:=λρ=>match uc ρ i with
 |some (d::ds)=>some (d,putAt ρ i ds)
 |_=>none
theorem SC(h:PE X e (tBM G.K "list" KN (yp i) (EE (tC (.int 0)) Jd))):PE X e (tF G (L8 i)):=PE.weak h λσ H Q hh=>by
 obtain⟨F,ρ,H0,d,ρ',R,e,k⟩:=hh;unfold L8 at e;split at e
 ·rename_i d' ds e0;cases e;obtain⟨a,xs,s1,s2,s3,s4⟩:=uv R e0;unfold r6 at s3;obtain⟨v,r,rfl,r1,r2⟩:=s3;refine⟨.ref a,s1,.inl ⟨rfl,_,SqL.of s2⟩,a,v::r,0,0,v,rfl,rfl,s2,by decide,by decide,?_,rfl,?_⟩
  ·unfold seqIndex?;simp
  ·exact k _ _ _ (sq.refl _) (s4 _ _ r2) r1
 ·cases e
theorem BS(r:r6 G H0 ds xs)(h:atI ds i=some d):∃v,atI xs i=some v/\Rep G H0 d v:=by
 unfold atI at h ⊢;rw[<-r9 r];cases e:ixN ds.length i with
 |none=>rw[e]at h;cases h
 |some j=>rw[e]at h;exact um r h
def Ih(i:Nat)(f:FE):FE:=λρ=>match uc ρ i with
 |some _=>match f ρ with
  |some (.int j,ρ1)=>match uc ρ1 i with
   |some ds=>match atI ds j with
    |some d=>some (d,ρ1)
    |none=>none
   |none=>none
  |_=>none
 |none=>none
theorem VR(h:PE X e (tOp (RN G.K) (yp i) (tF G f))):PE X e (tF G (Ih i f)):=PE.weak h λσ H Q hh=>by
 obtain⟨F,ρ,H0,d,ρ',R,e,k⟩:=hh;unfold Ih at e;cases e9:uc ρ i with
 |none=>simp only[e9]at e;cases e
 |some ds9=>
  simp only[e9]at e;obtain⟨a9,xs9,ev,_⟩:=uv R e9;split at e
  ·rename_i j ρ1 e1;cases e0:uc ρ1 i with
   |none=>simp only[e0]at e;cases e
   |some ds=>
    simp only[e0]at e;cases e2:atI ds j with
    |none=>simp only[e2]at e;cases e
    |some x=>simp only[e2]at e;cases e;refine⟨.ref a9,ev,F,ρ,H0,_,_,R,e1,λu H1 H1' s R' r=>?_⟩;unfold Rep at r;subst r;obtain⟨a,xs,s1,s2,s3,s4⟩:=uv R' e0;rw[ev]at s1;cases s1;obtain⟨w,w1,w2⟩:=BS s3 e2;exact⟨_,xs,j,w,rfl,rfl,SqL.of s2,w1,k _ _ _ s R' w2⟩
  ·cases e
def cFz(i:Nat):FE:=λρ=>match ρ[i]? with
 |some (.ls ds)=>some (.lst ds,ρ.set i (.im (.lst ds)))
 |some (.dk ks ds)=>some (.dic ks ds,ρ.set i (.im (.dic ks ds)))
 |some (.im d)=>some (d,ρ)
 |_=>none
theorem sC.toIm(R:sC G F σ ρ H0 H)(hi:ρ[i]?=some s)(hs:(σ[i]?).join=some (.ref p))(so:s.own=true)(hp:H p=some o)(h0:H0 p=none)(hb:F.B p=none)(r:Rep G (upd H0 p o) d (.ref p)):
  sC G F σ (ρ.set i (.im d)) (upd H0 p o) H where
 sub:=λb u e=>by
  by_cases hb:b=p
  ·subst hb;rw[se]at e;cases e;exact hp
  ·rw[sf hb]at e;exact R.sub _ _ e
 g0:=R.g0.trans (sv h0 o)
 keep:=R.keep
 fr:=λb u e=>by
  by_cases hb':b=p
  ·subst hb';exact .inr hb
  ·rw[sf hb']at e;exact R.fr _ _ e
 am:=R.am
 len:=by rw[dN];exact R.len
 sl:=λj t e=>by
  rw[bT]at e;by_cases h:i=j
  ·subst h;rw[ai rfl]at e;split at e
   ·cases e;exact⟨_,hs,r⟩
   ·cases e
  ·rw[aj h]at e;refine(R.sl j t e).grow (sv h0 o) (λa u _ _ q=>q) λa u z to q q0=>?_;rw[sf (λy=>by subst y;exact R.ap j i t s a (λy=>h y.symm) e hi to so z hs)];exact q0
 ap:=λj k t u b hjk ej ek tj tk vj vk=>by
  have gen:∀{m:Nat} {x:Sl},(ρ.set i (.im d))[m]?=some x->x.own=true->ρ[m]?=some x:=λ{m x} e xo=>by
   rw[bT]at e;by_cases h:i=m
   ·subst h;rw[ai rfl]at e;split at e
    ·cases e;cases xo
    ·cases e
   ·rw[aj h]at e;exact e
  exact R.ap j k t u b hjk (gen ej tj) (gen ek tk) tj tk vj vk
theorem sC.toImD(R:sC G F σ ρ H0 H)(hi:ρ[i]?=some s)(hs:(σ[i]?).join=some (.ref p))(so:s.own=true)(h0:H0 p=none)(hb:F.B p=none)(r:Rep G (upd H0 p o) d (.ref p)):
  sC G F σ (ρ.set i (.im d)) (upd H0 p o) (upd H p o) where
 sub:=λb u e=>by
  by_cases hb:b=p
  ·subst hb;rw[se]at e ⊢;exact e
  ·rw[sf hb]at e ⊢;exact R.sub _ _ e
 g0:=R.g0.trans (sv h0 o)
 keep:=λb u e n=>by rw[sf (λz=>by subst z;rw[hb]at e;cases e)];exact R.keep b u e n
 fr:=λb u e=>by
  by_cases hb':b=p
  ·subst hb';exact .inr hb
  ·rw[sf hb']at e;exact R.fr _ _ e
 am:=λb hm=>by
  by_cases hb':b=p
  ·subst hb';exact⟨o,se⟩
  ·rw[sf hb'];exact R.am b hm
 len:=by rw[dN];exact R.len
 sl:=λj t e=>by
  rw[bT]at e;by_cases h:i=j
  ·subst h;rw[ai rfl]at e;split at e
   ·cases e;exact⟨_,hs,r⟩
   ·cases e
  ·rw[aj h]at e;refine(R.sl j t e).grow (sv h0 o) (λa u z to q=>?_) λa u z to q q0=>?_
   ·rw[sf (λy=>by subst y;exact R.ap j i t s a (λy=>h y.symm) e hi to so z hs)];exact q
   ·rw[sf (λy=>by subst y;exact R.ap j i t s a (λy=>h y.symm) e hi to so z hs)];exact q0
 ap:=λj k t u b hjk ej ek tj tk vj vk=>by
  have gen:∀{m:Nat} {x:Sl},(ρ.set i (.im d))[m]?=some x->x.own=true->ρ[m]?=some x:=λ{m x} e xo=>by
   rw[bT]at e;by_cases h:i=m
   ·subst h;rw[ai rfl]at e;split at e
    ·cases e;cases xo
    ·cases e
   ·rw[aj h]at e;exact e
  exact R.ap j k t u b hjk (gen ej tj) (gen ek tk) tj tk vj vk
theorem Zt(h:PE X e (yp i)):PE X e (tF G (cFz i)):=PE.weak (PE.ghost h) λσ H Q hh=>by
 obtain⟨F,ρ,H0,d,ρ',R,e,k⟩:=hh;unfold cFz at e;split at e
 ·rename_i ds e0;cases e;obtain⟨a,xs,h1,h2,h3,h4,h5⟩:=R.sl i _ e0;have rr:Rep G (upd H0 a (.lst xs)) (.lst ds) (.ref a):=yc se (r6.mono (sv h3 _) _ _ h5);exact⟨_,uW h1,.inl (k _ _ _ (sv h3 _) (R.toIm e0 h1 rfl h2 h3 h4 rr) rr)⟩
 ·rename_i ks ds e0;cases e;obtain⟨a,xs,h1,h2,h3,h4,h5,h6⟩:=R.sl i _ e0;refine⟨_,uW h1,.inr ⟨a,_,h2,λo=>?_⟩⟩;have rr:Rep G (upd H0 a (.frz o (.dK (ks.zip xs)))) (.dic ks ds) (.ref a):=by unfold Rep;exact⟨a,o,xs,rfl,se,h5,r6.mono (sv h3 _) _ _ h6⟩
  exact k _ _ _ (sv h3 _) (R.toImD e0 h1 rfl h3 h4 rr) rr
 ·rename_i d' e0;cases e;obtain⟨v,e2,e3⟩:=R.sl i _ e0;exact⟨v,uW e2,.inl (k _ _ _ (sq.refl _) R e3)⟩
 ·cases e
def KY(i:Nat):FA:=λρ=>match ρ[i]? with
 |some (.ls ds)=>some (ds,ρ.set i .un)
 |_=>none
theorem SD(h:PE X e (yp i)):PE X e (tFN G (KY i)):=PE.weak h λσ H Q hh=>by
 obtain⟨F,ρ,H0,d,ρ',R,e,k⟩:=hh;unfold KY at e;split at e
 ·rename_i ds e0;cases e;obtain⟨a,xs,h1,h2,h3,h4,h5⟩:=R.sl i _ e0;have gen:∀{m:Nat} {x:Sl},(ρ.set i .un)[m]?=some x->x.own=true->m≠i/\ρ[m]?=some x:=λ{m x} e xo=>by
   rw[bT]at e;by_cases h:i=m
   ·subst h;rw[ai rfl]at e;split at e
    ·cases e;cases xo
    ·cases e
   ·rw[aj h]at e;exact⟨λz=>h z.symm,e⟩
  have R':sC G F σ (ρ.set i .un) H0 H:={
   sub:=R.sub,g0:=R.g0,keep:=R.keep,fr:=R.fr,am:=R.am
   len:=by rw[dN];exact R.len
   sl:=λj t e=>by
    rw[bT]at e;by_cases h:i=j
    ·subst h;rw[ai rfl]at e;split at e
     ·cases e;trivial
     ·cases e
    ·rw[aj h]at e;exact R.sl j t e
   ap:=λj k t u b hjk ej ek tj tk vj vk=>R.ap j k t u b hjk (gen ej tj).2 (gen ek tk).2 tj tk vj vk }
  refine⟨_,uW h1,k a xs _ _ (sq.refl _) R' h2 h3 h4 (λj t ej to z=>?_) h5⟩;obtain⟨nj,ej'⟩:=gen ej to;exact R.ap j i t _ a nj ej' e0 to rfl z h1
 ·cases e
end
def spM(G:Bg)(g:aS->aS->Option (D×aS)):Sp:=λvs H Q _=>∃(a:Addr) (us xs:bC) (H0:Hp) (es ds:aS) (d:D) (es':aS),vs=.ref a::us/\H a=some (.lst xs)/\H0 a=none/\sq H0 H/\r6 G H0 es xs/\r6 G H0 ds us/\g es ds=some (d,es')/\
 ∀v xs' H0' H',sq H0 H0'->sq H0' H'->(∀b o,H b=some o->b≠a->H' b=some o)->(∀b o,H0' b=some o->H0 b=some o\/H b=none)->H0' a=none->H' a=some (.lst xs')->r6 G H0' es' xs'->Rep G H0' d v->Q v H'
def stM(n:Nat)(es ds:aS):aZ:=.pm es::stE (n - 1) ds
def Dw(ρ:aZ):Option aS:=match ρ with
 |.pm es::_=>some es
 |_=>none
def fnM(np n:Nat)(f:FS):aS->aS->Option (D×aS):=λes ds=>if ds.length=np then match f (stM n es ds)with
 |some (.rt d ρ)=>match Dw ρ with
  |some es'=>some (d,es')
  |none=>none
 |some (.rn xs ρ)=>match Dw ρ with
  |some es'=>some (.lst xs,es')
  |none=>none
 |_=>none
 else none
theorem EZ(h:Dw ρ=some es):ρ[0]?=some (.pm es):=by
 unfold Dw at h;split at h
 ·cases h;rfl
 ·cases h
theorem Jv(h:fnM np n f es ds=some (d,es')):ds.length=np/\((∃ρ,f (stM n es ds)=some (.rt d ρ)/\ρ[0]?=some (.pm es'))\/∃xs ρ,f (stM n es ds)=some (.rn xs ρ)/\ρ[0]?=some (.pm es')/\d=.lst xs):=by
 unfold fnM at h;split at h
 ·rename_i hl;refine⟨hl,?_⟩;split at h
  ·rename_i x ρ e;cases e2:Dw ρ with
   |none=>simp only[e2]at h;cases h
   |some q=>simp only[e2]at h;cases h;exact .inl ⟨ρ,e,EZ e2⟩
  ·rename_i x ρ e;cases e2:Dw ρ with
   |none=>simp only[e2]at h;cases h
   |some q=>simp only[e2]at h;cases h;exact .inr ⟨x,ρ,e,EZ e2,rfl⟩
  ·cases h
 ·cases h
section
variable{X:Cx}{G:Bg}
theorem SE(hN:np+1<=N.length)(h:spM G (fnM np N.length f) vs H Q E):tFS G f { nx:=λ_ H'=>Q .non H',rt:=Q } (L2.start N vs) H:=by
 obtain⟨a,us,xs,H0,es,ds,d,es',rfl,ha,h0,s,r1,r,e,k⟩:=h;obtain⟨hl,e1⟩:=Jv e;have hul:us.length=np:=by rw[<-r9 r];exact hl
 have gets:∀{i:Nat} {t:Sl},(stM N.length es ds)[i]?=some t->(i=0/\t=.pm es)\/t=.un\/∃(j:Nat) (d:D),i=j+1/\ds[j]?=some d/\t=.im d:=λ{i t} e=>by
  cases i with
  |zero=>cases e;exact .inl ⟨rfl,rfl⟩
  |succ j=>
   have e':(stE (N.length - 1) ds)[j]?=some t:=e;rcases Es e' with rfl|⟨d,e1,rfl⟩
   ·exact .inr (.inl rfl)
   ·exact .inr (.inr ⟨j,d,rfl,e1,rfl⟩)
 have R:sC G ⟨H0,H,[a]⟩ (L2.start N (.ref a::us)) (stM N.length es ds) H0 H:={
  sub:=s
  g0:=sq.refl _
  keep:=λb o e _=>e
  fr:=λb o e=>.inl e
  am:=λb hb=>by
   have eb:b=a:=by simpa using hb
   subst eb;exact⟨_,ha⟩
  len:=by unfold L2.start stM stE;simp only[aA,ag,cf,aE];have:=r9 r;omega
  sl:=λi t e=>by
   rcases gets e with ⟨rfl,rfl⟩|rfl|⟨j,d,rfl,e1,rfl⟩
   ·exact⟨a,xs,vd rfl,ha,h0,by simp,r1⟩
   ·trivial
   ·obtain⟨v,e2,e3⟩:=um r e1;exact⟨v,vd (by simpa using e2),e3⟩
  ap:=λi j t u b hij ei ej ht hu=>by
   rcases gets ei with ⟨rfl,rfl⟩|rfl|⟨_,_,_,_,rfl⟩
   ·rcases gets ej with ⟨rfl,rfl⟩|rfl|⟨_,_,_,_,rfl⟩
    ·exact aq rfl hij
    ·cases hu
    ·cases hu
   ·cases ht
   ·cases ht }
 have fin:∀{v:V} {σ':St} {ρ':aZ} {H0' H':Hp},sq H0 H0'->sC G ⟨H0,H,[a]⟩ σ' ρ' H0' H'->ρ'[0]?=some (.pm es')->Rep G H0' d v->Q v H':=λs' R' e2 rv=>by
  obtain⟨a',ys,q1,q2,q3,q4,q5⟩:=R'.sl 0 _ e2;have ea:a'=a:=by simpa using q4
  subst ea;exact k _ ys _ _ s' R'.sub (λb o e n=>R'.keep b o e (by simpa using n)) R'.fr q3 q2 q5 rv
 rcases e1 with ⟨ρ,e1,e2⟩|⟨zs,ρ,e1,e2,rfl⟩
 ·exact⟨_,_,H0,_,R,e1,λv σ' H0' H' s' R' rv=>fin s' R' e2 rv,λ_=>rfl⟩
 ·refine⟨_,_,H0,_,R,e1,λp ys σ' H0' H' s' R' hp hp0 hb ap rs=>?_,λ_=>rfl⟩;exact fin (s'.trans (sv hp0 _)) (R'.freeze hp hp0 hb ap) e2 (yc se (r6.mono (sv hp0 _) _ _ rs))
theorem Pb(hg:∀es ds d,g es ds=some d->ds.length=np):∀vs H Q E,spM G g vs H Q E->vs.length=np+1:=λvs H Q E h=>by obtain⟨a,us,xs,H0,es,ds,d,es',rfl,_,_,_,_,r,e,_⟩:=h;rw[aE,<- r9 r,hg _ _ _ e]
theorem SF:∀es ds d,fnM np n f es ds=some d->ds.length=np:=λ_ _ d h=>(Jv (d:=d.1) (es':=d.2) h).1
theorem sC.call1(R:sC G F σ ρ H0 H)(hi:ρ[i]?=some s)(hs:s.L=some es)(hb:(σ[i]?).join=some (.ref b))
  (s1:sq H0 H0') (s2:sq H0' H') (s3:∀c o,H c=some o->c≠b->H' c=some o) (fr:∀c o,H0' c=some o->H0 c=some o\/H c=none) (h0:H0' b=none) (hz:H' b=some (.lst zs)) (r:r6 G H0' es' zs):
  sC G F σ (ρ.set i (s.putL es')) H0' H':=by
 have so:=Sl.L_own hs;obtain⟨b',u,e1,e2,e3,e4⟩:=(R.sl i s hi).at so;rw[hb]at e1;cases e1;exact {
  sub:=s2
  g0:=R.g0.trans s1
  keep:=λc o e n=>by
   refine s3 c o (R.keep c o e n) λz=>?_;subst z;rcases e4 with q|q
   ·rw[q]at e;cases e
   ·exact n q
  fr:=λc o e=>by
   rcases fr c o e with q|q
   ·exact R.fr c o q
   ·exact .inr (R.bNone q)
  am:=λc hc=>by
   by_cases z:c=b
   ·subst z;exact⟨_,hz⟩
   ·obtain⟨o,q⟩:=R.am c hc;exact⟨o,s3 c o q z⟩
  len:=by rw[dN];exact R.len
  sl:=λj t e=>by
   rw[bT]at e;by_cases h:i=j
   ·subst h;rw[ai rfl]at e;split at e
    ·cases e;rw[hb];have ok:=R.sl i s hi;rw[hb]at ok;cases s with
     |ls ds0=>obtain⟨c,xs,h1,h2,h3,h4,h5⟩:=ok;cases h1;exact⟨b,zs,rfl,hz,h0,h4,r⟩
     |pm ds0=>obtain⟨c,xs,h1,h2,h3,h4,h5⟩:=ok;cases h1;exact⟨b,zs,rfl,hz,h0,h4,r⟩
     |_=>cases hs
    ·cases e
   ·rw[aj h]at e;refine(R.sl j t e).grow s1 (λc w z to q=>s3 c w q λy=>?_) λc w z to q q0=>?_
    ·subst y;exact R.ap j i t s c (λy=>h y.symm) e hi to so z hb
    ·cases y:H0' c with
     |none=>rfl
     |some o=>
      rcases fr c o y with x|x
      ·rw[x]at q0;cases q0
      ·rw[x]at q;cases q
  ap:=λj k t u c hjk ej ek tj tk vj vk=>by
   have gen:∀{m:Nat} {x:Sl},(ρ.set i (s.putL es'))[m]?=some x->∃y,ρ[m]?=some y/\(x.own=true->y.own=true):=λ{m x} e=>by
    rw[bT]at e;by_cases h:i=m
    ·subst h;exact⟨s,hi,λ_=>so⟩
    ·rw[aj h]at e;exact⟨x,e,λq=>q⟩
   obtain⟨y,ey,oy⟩:=gen ej;obtain⟨z,ez,oz⟩:=gen ek;exact R.ap j k y z c hjk ey ez (oy tj) (oz tk) vj vk }
def tI(g:aS->aS->Option (D×aS))(i:Nat)(a:FA):FE:=λρ=>match uc ρ i with
 |some _=>match a ρ with
  |some (ds,ρ1)=>match uc ρ1 i with
   |some es=>match g es ds with
    |some (d,es')=>some (d,putAt ρ1 i es')
    |none=>none
   |none=>none
  |none=>none
 |none=>none
theorem VS(h:PE X e (zX (spM G g) [] E (EE (yp i) (tFA G a)))):PE X e (tF G (tI g i a)):=PE.weak h λσ H Q hh=>by
 obtain⟨F,ρ,H0,d,ρ',R,e,k⟩:=hh;unfold tI at e;cases e0:uc ρ i with
 |none=>simp only[e0]at e;cases e
 |some ds0=>
  simp only[e0]at e;rcases sO (f:=a) (ρ:=ρ)with e1|⟨ds,ρ1,e1⟩<;>simp only[e1]at e
  ·cases e
  ·cases e2:uc ρ1 i with
   |none=>simp only[e2]at e;cases e
   |some es=>
    simp only[e2]at e;cases e3:g es ds with
    |none=>simp only[e3]at e;cases e
    |some q=>
     obtain⟨d1,es'⟩:=q;simp only[e3]at e;cases e;obtain⟨b,xs,s1,s2,s3,_⟩:=uv R e0;refine⟨.ref b,s1,F,ρ,H0,ds,ρ1,R,e1,λys H1 H1' s R' rs=>?_⟩;obtain⟨s,es0,es1⟩:=ve e2;obtain⟨b',xs',t1,t2,t3,t4⟩:=(R'.sl i s es0).lst es1;rw[uW t1]at s1;cases s1;refine⟨b,ys,xs',H1,es,ds,d,es',?_,t2,t3,R'.sub,t4,rs,e3,λv zs H2 H2' u1 u2 u3 fr w0 w1 w2 w3=>?_⟩
     ·show V.ref b::ys++[]=_;rw[bq]
     ·refine k _ _ _ (sq.trans ‹sq H0 H1› u1) ?_ w3;unfold putAt;rw[es0];exact R'.call1 es0 es1 t1 u1 u2 u3 fr w0 w1 w2
def Walk(G:Bg)(J:It)(ds:aS)(H0:Hp):Prop:=∀(i:Nat) (H1 H1':Hp),sq H0 H1->sq H1 H1'->
 (∀d,ds[i]?=some d->J.go i H1'/\∀x H2',J.yld i H1' x H2'->∃H2,sq H1 H2/\sq H2 H2'/\sq H1' H2'/\(∀b o,H2 b=some o->H1 b=some o\/H1' b=none)/\Rep G H2 d x)/\(i=ds.length->J.stop i H1')
def tFI(G:Bg)(f:FA):TI:=λσ H R=>∃F ρ H0 ds ρ',sC G F σ ρ H0 H/\f ρ=some (ds,ρ')/\∀J H0' H',sq H0 H0'->sC G F σ ρ' H0' H'->Walk G J ds H0'->R J H'
theorem PI.weak(h:PI X tg e t)(w:∀σ H R,t' σ H R->t σ H R):PI X tg e t':=λpins s σ H R I hq=>h pins s σ H R I (w _ _ _ hq)
theorem E1(h:SqL G.K H0 a xs)(r:r6 G H0 ds xs):Walk G (Itl G.K a) ds H0:=λi H1 H1' s s'=>by have h1:SqL G.K H1' a xs:=(s.trans s').seq h;refine⟨λd e=>?_,λhl=>⟨xs,h1,by rw[<-r9 r,hl];exact aF _⟩⟩;obtain⟨v,e1,e2⟩:=um r e;refine⟨⟨xs,v,h1,e1⟩,λx H2' y=>?_⟩;obtain⟨e3,e4⟩:=y;have e5:=e4 xs h1;rw[e1]at e5;cases e5;subst e3;exact⟨H1,sq.refl _,s',sq.refl _,λb o e=>.inl e,Rep.mono s _ _ e2⟩
theorem Pc(h:SqT G.K H0 a xs)(r:r6 G H0 ds xs):Walk G (Itt G.K a) ds H0:=λi H1 H1' s s'=>by have h1:SqT G.K H1' a xs:=SqT.mono (s.trans s') h;refine⟨λd e=>?_,λhl=>⟨xs,h1,by rw[<-r9 r,hl];exact aF _⟩⟩;obtain⟨v,e1,e2⟩:=um r e;refine⟨⟨xs,v,h1,e1⟩,λx H2' y=>?_⟩;obtain⟨e3,e4⟩:=y;have e5:=e4 xs h1;rw[e1]at e5;cases e5;subst e3;exact⟨H1,sq.refl _,s',sq.refl _,λb o e=>.inl e,Rep.mono s _ _ e2⟩
def iL(f:FE):FA:=λρ=>match f ρ with
 |some (.lst ds,ρ')=>some (ds,ρ')
 |some (.fzl ds,ρ')=>some (ds,ρ')
 |_=>none
def iT(f:FE):FA:=λρ=>match f ρ with
 |some (.tup ds,ρ')=>some (ds,ρ')
 |_=>none
theorem Jw(h:PI X tg e (Ot G.K (tF G f))):PI X tg e (tFI G (iL f)):=PI.weak h λσ H R hh=>by
 obtain⟨F,ρ,H0,ds,ρ',R,e,k⟩:=hh;unfold iL at e;split at e
 ·rename_i ds' ρ1 e1;cases e;refine⟨F,ρ,H0,_,_,R,e1,λv H1 H1' s R' r=>?_⟩;unfold Rep at r;obtain⟨a,xs,rfl,r1,r2⟩:=r;exact⟨a,rfl,⟨xs,R'.sub.seq (SqL.of r1)⟩,k _ _ _ s R' (E1 (SqL.of r1) r2)⟩
 ·rename_i ds' ρ1 e1;cases e;refine⟨F,ρ,H0,_,_,R,e1,λv H1 H1' s R' r=>?_⟩;unfold Rep at r;obtain⟨a,xs,rfl,r1,r2⟩:=r;exact⟨a,rfl,⟨xs,R'.sub.seq r1⟩,k _ _ _ s R' (E1 r1 r2)⟩
 ·cases e
theorem SG(h:PI X tg e (U8 G.K (tF G f))):PI X tg e (tFI G (iT f)):=PI.weak h λσ H R hh=>by
 obtain⟨F,ρ,H0,ds,ρ',R,e,k⟩:=hh;unfold iT at e;split at e
 ·rename_i ds' ρ1 e1;cases e;refine⟨F,ρ,H0,_,_,R,e1,λv H1 H1' s R' r=>?_⟩;unfold Rep at r;obtain⟨a,xs,rfl,r1,r2⟩:=r;exact⟨a,rfl,⟨xs,SqT.mono R'.sub r1⟩,k _ _ _ s R' (Pc r1 r2)⟩
 ·cases e
def E2(lo:Int)(n:Nat):aS:=(bB n).map λ(i:Nat)=>D.int (lo+(i:Int))
theorem Pd{lo:Int}:Walk G (Itr lo n) (E2 lo n) H0:=λi H1 H1' s s'=>by
 refine⟨λd e=>?_,λhl=>by show n<=i;rw[hl];simp[E2]⟩;unfold E2 at e;rw[bt]at e;by_cases hi:i<n
 ·rw[og hi]at e;cases e;refine⟨hi,λx H2' y=>?_⟩;obtain⟨e3,rfl⟩:=y;subst e3;exact⟨H1,sq.refl _,s',sq.refl _,λb o e=>.inl e,uE _⟩
 ·rw[gz (by simpa using hi)]at e;cases e
def iR1(f:FE):FA:=λρ=>match f ρ with
 |some (.int n,ρ')=>if -1000000<=n/\n<=1000000 then some (E2 0 n.toNat,ρ')else none
 |_=>none
theorem KZ(h:PI X tg e (Uq (tFA G (rR f sS)))):PI X tg e (tFI G (iR1 f)):=PI.weak h λσ H R hh=>by
 obtain⟨F,ρ,H0,ds,ρ',R,e,k⟩:=hh;unfold iR1 at e;split at e
 ·rename_i n ρ1 e1;split at e
  ·rename_i hn;cases e;refine⟨F,ρ,H0,[.int n],_,R,by unfold rR;rw[e1];rfl,λxs H1 H1' s R' rs=>?_⟩;unfold r6 at rs;obtain⟨v,r0,rfl,rv,rn⟩:=rs;unfold r6 at rn;unfold Rep at rv;subst rn rv;exact⟨n,rfl,by omega,by omega,k _ _ _ s R' Pd⟩
  ·cases e
 ·cases e
def forL(g:FG)(b:FS):aS->FS
 |[],ρ=>some (.nx ρ)
 |d::r,ρ=>match g d ρ with
  |none=>none
  |some ρ1=>match b ρ1 with
   |some (.nx ρ2)=>forL g b r ρ2
   |some (.ct ρ2)=>forL g b r ρ2
   |some (.bk ρ2)=>some (.nx ρ2)
   |some (.rt d ρ2)=>some (.rt d ρ2)
   |some (.rn d ρ2)=>some (.rn d ρ2)
   |none=>none
def vB(s:FA)(g:FG)(b:FS):FS:=λρ=>match s ρ with
 |some (ds,ρ')=>forL g b ds ρ'
 |none=>none
theorem SH(h:PS X st (Va (tFI G s) (tFG G n g) (tFS G b))):PS X st (tFS G (vB s g b)):=PS.weak h λE σ H hh=>by
 obtain⟨F,ρ,H0,o,R,e,k,k2⟩:=hh;unfold vB at e;rcases sO (f:=s) (ρ:=ρ)with e1|⟨ds,ρ1,e1⟩<;>simp only[e1]at e
 ·cases e
 ·refine⟨F,ρ,H0,ds,ρ1,R,e1,λJ H1 H1' s1 R1 wk=>?_⟩;refine⟨λi m σ H=>m=ds.length - i/\i<=ds.length/\∃ρi Hi,sq H1 Hi/\sC G F σ ρi Hi H/\forL g b (ds.drop i) ρi=some o,⟨_,rfl,cj _,ρ1,H1,sq.refl _,R1,e⟩,?_⟩;rintro i m σi Hi' ⟨rfl,hi,ρi,Hi,si,Ri,ei⟩;by_cases hlt:i<ds.length
  ·have ed:ds.drop i=ds[i]::ds.drop (i+1):=j6 hlt;rw[ed]at ei;unfold forL at ei;obtain⟨go,yl⟩:=(wk i Hi Hi' si Ri.sub).1 ds[i] (aN hlt);refine .inr ⟨go,λσ' H'=>∃ρi Hi,sq H1 Hi/\sC G F σ' ρi Hi H'/\forL g b (ds.drop (i+1)) ρi=some o,λσ' H' q=>⟨ds.length - (i+1),by omega,rfl,hlt,q⟩,λx H' y=>?_⟩;obtain⟨H2,t1,t2,t3,t4,t5⟩:=yl x H' y;have R2:=Ri.grow t3 t1 t2 t4;cases e2:g ds[i] ρi with
   |none=>simp only[e2]at ei;cases ei
   |some ρ2=>
    simp only[e2]at ei;refine⟨F,ρi,H2,_,ρ2,R2,t5,e2,λσ3 _ R3=>?_⟩;have kk:=k.back (s1.trans (si.trans t1));cases e3:b ρ2 with
    |none=>simp only[e3]at ei;cases ei
    |some q=>
     refine⟨F,ρ2,H2,q,R3,e3,?_,λ_=>rfl⟩;cases q with
     |nx ρ3=>simp only[e3]at ei;exact λσ' H0' H' s' R'=>⟨ρ3,H0',si.trans (t1.trans s'),R',ei⟩
     |ct ρ3=>simp only[e3]at ei;exact λσ' H0' H' s' R'=>⟨ρ3,H0',si.trans (t1.trans s'),R',ei⟩
     |bk ρ3=>simp only[e3]at ei;cases ei;exact kk
     |rt d ρ3=>simp only[e3]at ei;cases ei;exact kk
     |rn d ρ3=>simp only[e3]at ei;cases ei;exact kk
  ·have ez:ds.drop i=[]:=nP (by omega);rw[ez]at ei;unfold forL at ei;cases ei;exact .inl ⟨(wk i Hi Hi' si Ri.sub).2 (by omega),k _ _ _ (s1.trans si) Ri⟩
def whL(c:FT)(b:FS):Nat->FS
 |0,_=>none
 |n+1,ρ=>match c ρ with
  |some (false,ρ1)=>some (.nx ρ1)
  |some (true,ρ1)=>match b ρ1 with
   |some (.nx ρ2)=>whL c b n ρ2
   |some (.ct ρ2)=>whL c b n ρ2
   |some (.bk ρ2)=>some (.nx ρ2)
   |some (.rt d ρ2)=>some (.rt d ρ2)
   |some (.rn d ρ2)=>some (.rn d ρ2)
   |none=>none
  |none=>none
theorem Nx(n:Nat)(h:PS X st (Oq (tFT G c) (tFS G b))):PS X st (tFS G (whL c b n)):=PS.weak h λE σ H hh=>by
 obtain⟨F,ρ,H0,o,R,e,k,k2⟩:=hh;refine⟨λm σ H=>∃ρi Hi,sq H0 Hi/\sC G F σ ρi Hi H/\whL c b m ρi=some o,⟨n,ρ,H0,sq.refl _,R,e⟩,?_⟩;rintro m σi Hi' ⟨ρi,Hi,si,Ri,ei⟩;cases m with
 |zero=>cases ei
 |succ m=>
  unfold whL at ei;rcases sO (f:=c) (ρ:=ρi)with e1|⟨t,ρ1,e1⟩
  ·simp only[e1]at ei;cases ei
  ·refine⟨F,ρi,Hi,t,ρ1,Ri,e1,λH1 H1' s1 R1=>?_⟩;cases t with
   |false=>simp only[e1]at ei;cases ei;exact Ia (k _ _ _ (si.trans s1) R1)
   |true=>
    simp only[e1]at ei;refine Ib ⟨λσ' H'=>∃ρi Hi,sq H0 Hi/\sC G F σ' ρi Hi H'/\whL c b m ρi=some o,λσ' H' q=>⟨m,dH m,q⟩,?_⟩;have kk:=k.back (si.trans s1);cases e3:b ρ1 with
    |none=>simp only[e3]at ei;cases ei
    |some q=>
     refine⟨F,ρ1,H1,q,R1,e3,?_,λ_=>rfl⟩;cases q with
     |nx ρ3=>simp only[e3]at ei;exact λσ' H0' H' s' R'=>⟨ρ3,H0',si.trans (s1.trans s'),R',ei⟩
     |ct ρ3=>simp only[e3]at ei;exact λσ' H0' H' s' R'=>⟨ρ3,H0',si.trans (s1.trans s'),R',ei⟩
     |bk ρ3=>simp only[e3]at ei;cases ei;exact kk
     |rt d ρ3=>simp only[e3]at ei;cases ei;exact kk
     |rn d ρ3=>simp only[e3]at ei;cases ei;exact kk
end
def Sl.cap:Sl->Sl
 |.im d=>.im d
 |.ls ds=>.pm ds
 |.pm ds=>.pm ds
 |_=>.un
def A5(k:Nat)(cap:List Nat)(ρ:aZ):aZ:=dP k .un++cap.map λj=>((ρ[j]?).getD .un).cap
def vA:List Nat->aZ->aZ->Option aZ
 |[],_,ρ=>some ρ
 |j::cap,t::ts,ρ=>match uc ρ j with
  |some _=>match t with
   |.pm ds=>vA cap ts (putAt ρ j ds)
   |_=>none
  |none=>vA cap ts ρ
 |_::_,[],_=>none
def v9(k:Nat)(cap:List Nat)(g:FG)(ft:FT)(fe:FE):aS->aZ->Option (aS×aZ)
 |[],ρ=>some ([],ρ)
 |d::r,ρ=>match g d (A5 k cap ρ)with
  |none=>none
  |some ρ1=>match ft ρ1 with
   |some (true,ρ2)=>match fe ρ2 with
    |some (x,ρ3)=>match vA cap (ρ3.drop k) ρ with
     |some ρ'=>match v9 k cap g ft fe r ρ' with
      |some (xs,ρ'')=>some (x::xs,ρ'')
      |none=>none
     |none=>none
    |none=>none
   |some (false,ρ2)=>match vA cap (ρ2.drop k) ρ with
    |some ρ'=>v9 k cap g ft fe r ρ'
    |none=>none
   |none=>none
def sL(k:Nat)(cap:List Nat)(s:FA)(g:FG)(ft:FT)(fe:FE):FA:=λρ=>match s ρ with
 |some (ds,ρ')=>if ds.length<=1000 then v9 k cap g ft fe ds ρ' else none
 |none=>none
def tR:FT:=λρ=>some (true,ρ)
theorem zb:∀{cap:List Nat} {ts ρ ρ':aZ},vA cap ts ρ=some ρ'->ρ'.length=ρ.length/\
  (∀(j:Nat) (s':Sl),ρ'[j]?=some s'->∃s,ρ[j]?=some s/\((s'=s/\(s.L≠none->j∉cap))\/∃(m:Nat) (ds ds0:aS),cap[m]?=some j/\ts[m]?=some (Sl.pm ds)/\s.L=some ds0/\s'=s.putL ds))
 |[],ts,ρ,ρ',h=>by cases h;exact⟨rfl,λj s' e=>⟨s',e,.inl ⟨rfl,λ_ z=>by cases z⟩⟩⟩
 |j0::cap,[],ρ,ρ',h=>by cases h
 |j0::cap,t::ts,ρ,ρ',h=>by
  unfold vA at h;cases e0:uc ρ j0 with
  |none=>
   simp only[e0]at h;obtain⟨h1,h2⟩:=zb h;refine⟨h1,λj s' e=>?_⟩;obtain⟨s,e1,q⟩:=h2 j s' e;refine⟨s,e1,?_⟩;rcases q with ⟨rfl,q⟩|⟨m,ds,ds0,q1,q2,q3,q4⟩
   ·refine .inl ⟨rfl,λz y=>?_⟩;rcases aK.mp y with y|y
    ·subst y;unfold uc at e0;rw[e1]at e0;exact z e0
    ·exact q z y
   ·exact .inr ⟨m+1,ds,ds0,q1,q2,q3,q4⟩
  |some ds1=>
   simp only[e0]at h;cases t with
   |pm ds=>
    simp only at h;obtain⟨s0,e1,e2⟩:=ve e0;unfold putAt at h;rw[e1]at h;simp only at h;obtain⟨h1,h2⟩:=zb h;refine⟨by rw[h1,dN],λj s' e=>?_⟩;obtain⟨s,e3,q⟩:=h2 j s' e;by_cases hj:j0=j
    ·subst hj;rw[bT,ai rfl]at e3;split at e3
     ·cases e3;refine⟨s0,e1,.inr ?_⟩;rcases q with ⟨rfl,q⟩|⟨m,ds',ds0,q1,q2,q3,q4⟩
      ·exact⟨0,ds,ds1,rfl,rfl,e2,rfl⟩
      ·refine⟨m+1,ds',ds1,q1,q2,e2,?_⟩;rw[q4];cases s0<;>rfl
     ·cases e3
    ·rw[bT,aj hj]at e3;refine⟨s,e3,?_⟩;rcases q with ⟨rfl,q⟩|⟨m,ds',ds0,q1,q2,q3,q4⟩
     ·refine .inl ⟨rfl,λz y=>?_⟩;rcases aK.mp y with y|y
      ·exact hj y.symm
      ·exact q z y
     ·exact .inr ⟨m+1,ds',ds0,q1,q2,q3,q4⟩
   |_=>cases h
def Gf(cap:List Nat)(σ:St)(ρ:aZ):List Addr:=cap.filterMap λj=>match uc ρ j,(σ[j]?).join with
 |some _,some (.ref a)=>some a
 |_,_=>none
theorem z8:a∈Gf cap σ ρ ↔ ∃j∈cap,(∃ds,uc ρ j=some ds)/\(σ[j]?).join=some (.ref a):=by
 unfold Gf;rw[ku];constructor
 ·rintro⟨j,hj,e⟩;refine⟨j,hj,?_⟩;split at e
  ·rename_i ds a' e1 e2;cases e;exact⟨⟨ds,e1⟩,e2⟩
  ·cases e
 ·rintro⟨j,hj,⟨ds,e1⟩,e2⟩;refine⟨j,hj,?_⟩;rw[e1,e2]
section
variable{X:Cx}{G:Bg}{F:Fr}{σ:St}{ρ:aZ}{H0 H:Hp}
theorem E3(h:(A5 k cap ρ)[i]?=some s):s=.un\/∃m j,i=k+m/\cap[m]?=some j/\s=((ρ[j]?).getD .un).cap:=by
 unfold A5 at h;by_cases hi:i<k
 ·rw[cG (by simpa using hi),fq,ai hi]at h;cases h;exact .inl rfl
 ·rw[cz (by simpa using o5 hi),cf,bt]at h;cases e:cap[i - k]? with
  |none=>rw[e]at h;cases h
  |some j=>rw[e]at h;cases h;exact .inr ⟨i - k,j,by omega,e,rfl⟩
theorem BU(h:cap[m]?=some j):((vS k cap σ)[k+m]?).join=(σ[j]?).join:=by unfold vS;rw[cz (by simp),cf,show k+m - k=m by omega,bt,h];rfl
theorem sC.cap(R:sC G F σ ρ H0 H)(k:Nat)(cap:List Nat)(nd:cap.Nodup):sC G ⟨H0,H,Gf cap σ ρ⟩ (vS k cap σ) (A5 k cap ρ) H0 H where
 sub:=R.sub
 g0:=sq.refl _
 keep:=λb o e _=>e
 fr:=λb o e=>.inl e
 am:=λa ha=>by obtain⟨j,hj,⟨ds,e1⟩,e2⟩:=z8.mp ha;obtain⟨s,e3,e4⟩:=ve e1;obtain⟨a',xs,h1,h2,_⟩:=(R.sl j s e3).lst e4;rw[e2]at h1;cases h1;exact⟨_,h2⟩
 len:=by unfold vS A5;rw[aA,aA,cf,cf,ag,ag]
 sl:=λi s e=>by
  rcases E3 e with rfl|⟨m,j,rfl,e1,rfl⟩
  ·trivial
  ·rw[BU e1];cases e2:ρ[j]? with
   |none=>trivial
   |some s=>
    have ok:=R.sl j s e2;have mem:∀{a:Addr} {ds:aS},s.L=some ds->(σ[j]?).join=some (.ref a)->a∈Gf cap σ ρ:=λh1 h2=>z8.mpr ⟨j,cA e1,⟨_,by unfold uc;rw[e2];exact h1⟩,h2⟩;cases s with
    |un=>trivial
    |im d=>exact ok
    |ls ds=>obtain⟨a,xs,h1,h2,h3,h4,h5⟩:=ok;exact⟨a,xs,h1,h2,h3,mem rfl h1,h5⟩
    |pm ds=>obtain⟨a,xs,h1,h2,h3,h4,h5⟩:=ok;exact⟨a,xs,h1,h2,h3,mem rfl h1,h5⟩
    |dk ks ds=>trivial
    |ob c ns ds=>trivial
 ap:=λi i' s t a hii e e' so to v v'=>by
  rcases E3 e with rfl|⟨m,j,rfl,e1,rfl⟩
  ·cases so
  rcases E3 e' with rfl|⟨m',j',rfl,e1',rfl⟩
  ·cases to
  rw[BU e1]at v;rw[BU e1']at v';have own:∀{j:Nat},(((ρ[j]?).getD Sl.un).cap).own=true->∃s,ρ[j]?=some s/\s.own=true:=λ{j} h=>by
   cases z:ρ[j]? with
   |none=>rw[z]at h;cases h
   |some s=>rw[z]at h;refine⟨s,rfl,?_⟩;cases s<;>first|rfl|cases h
  obtain⟨s,z,zo⟩:=own so;obtain⟨s',z',zo'⟩:=own to;by_cases hj:j=j'
  ·subst hj;have:m=m':=(List.getElem?_inj (bS.mp e1).1 nd).mp (e1.trans e1'.symm);exact hii (by rw[this])
  ·exact R.ap j j' s s' a hj z z' zo zo' v v'
theorem sC.uncap(R:sC G F σ ρ H0 H){k:Nat}{cap:List Nat}{σ4:St}{ρ4:aZ}{H1 H1':Hp}(R4:sC G ⟨H0,H,Gf cap σ ρ⟩ σ4 ρ4 H1 H1')(hd:σ4.drop k=(vS k cap σ).drop k)(hu:vA cap (ρ4.drop k) ρ=some ρ'):sC G F σ ρ' H1 H1':=by
 obtain⟨hl,hc⟩:=zb hu;have at4:∀{m j:Nat},cap[m]?=some j->(σ4[k+m]?).join=(σ[j]?).join:=λ{m j} e=>by
  have q:(σ4.drop k)[m]?=((vS k cap σ).drop k)[m]?:=by rw[hd]
  rw[cX,cX]at q;rw[q];exact BU e
 have nA:∀{j:Nat} {s:Sl} {a:Addr},ρ[j]?=some s->s.own=true->(σ[j]?).join=some (.ref a)->(s.L≠none->j∉cap)->a∉Gf cap σ ρ:=λ{j s a} e so z hn ha=>by
  obtain⟨i,hi,⟨ds,e1⟩,e2⟩:=z8.mp ha;obtain⟨t,e3,e4⟩:=ve e1;by_cases hij:i=j
  ·subst hij;rw[e]at e3;cases e3;exact hn (by rw[e4];simp) hi
  ·exact R.ap i j t s a hij e3 e (Sl.L_own e4) so e2 z
 have hA:∀a∈Gf cap σ ρ,F.B a=none\/a∈F.A:=λa ha=>by obtain⟨i,hi,⟨ds,e1⟩,e2⟩:=z8.mp ha;obtain⟨t,e3,e4⟩:=ve e1;obtain⟨a',u,h1,h2,h3,h4⟩:=(R.sl i t e3).at (Sl.L_own e4);rw[e2]at h1;cases h1;exact h4
 have own':∀{j:Nat} {s':Sl},ρ'[j]?=some s'->s'.own=true->∃s,ρ[j]?=some s/\s.own=true:=λ{j s'} e so=>by
  obtain⟨s,e1,q⟩:=hc j s' e;rcases q with ⟨rfl,q⟩|⟨m,ds,ds0,q1,q2,q3,q4⟩
  ·exact⟨s',e1,so⟩
  ·exact⟨s,e1,Sl.L_own q3⟩
 exact {
  sub:=R4.sub
  g0:=R.g0.trans R4.g0
  keep:=λb o e n=>by
   refine R4.keep b o (R.keep b o e n) λha=>?_;rcases hA b ha with q|q
   ·rw[q]at e;cases e
   ·exact n q
  fr:=λb o e=>by
   rcases R4.fr b o e with q|q
   ·exact R.fr b o q
   ·exact .inr (R.bNone q)
  am:=λa ha=>by
   obtain⟨o,q⟩:=R.am a ha;by_cases z:a∈Gf cap σ ρ
   ·exact R4.am a z
   ·exact⟨o,R4.keep a o q z⟩
  len:=by rw[hl];exact R.len
  sl:=λj s' e=>by
   obtain⟨s,e1,q⟩:=hc j s' e;rcases q with ⟨rfl,q⟩|⟨m,ds,ds0,q1,q2,q3,q4⟩
   ·refine(R.sl j s' e1).grow R4.g0 (λa u z so y=>R4.keep a u y (nA e1 so z q)) λa u z so y y0=>?_;cases w:H1 a with
    |none=>rfl
    |some o=>
     rcases R4.fr a o w with x|x
     ·have x':H0 a=some o:=x;rw[x']at y0;cases y0
     ·have x':H a=none:=x;rw[x']at y;cases y
   ·rw[cX]at q2;obtain⟨a,xs,h1,h2,h3,h4,h5⟩:=R4.sl _ _ q2;rw[at4 q1]at h1;have ok:=R.sl j s e1;subst q4;cases s with
    |ls ds1=>obtain⟨a',xs',g1,g2,g3,g4,g5⟩:=ok;rw[h1]at g1;cases g1;exact⟨a,xs,h1,h2,h3,g4,h5⟩
    |pm ds1=>obtain⟨a',xs',g1,g2,g3,g4,g5⟩:=ok;rw[h1]at g1;cases g1;exact⟨a,xs,h1,h2,h3,g4,h5⟩
    |_=>cases q3
  ap:=λi j s t a hij ei ej so to v v'=>by
   obtain⟨s0,z,zo⟩:=own' ei so;obtain⟨t0,y,yo⟩:=own' ej to;exact R.ap i j s0 t0 a hij z y zo yo v v' }
theorem z9{k:Nat}(h:Apart σ ρ p)(hu:vA cap ts ρ=some ρ'):Apart σ ρ' p:=λi s' e so=>by
 obtain⟨s,e1,q⟩:=(zb hu).2 i s' e;rcases q with ⟨rfl,q⟩|⟨m,ds,ds0,q1,q2,q3,q4⟩
 ·exact h i s' e1 so
 ·exact h i s e1 (Sl.L_own q3)
theorem L9{cap:List Nat}(nd:cap.Nodup):∀σ H Q,tFN G (sL k cap s g ft fe) σ H Q->ES (tFI G s) (tFG G k g) (tFT G ft) (tF G fe) k cap σ H Q:=λσ H Q hh=>by
 obtain⟨F,ρ,H0,es,ρ',R,e,kk⟩:=hh;unfold sL at e;rcases sO (f:=s) (ρ:=ρ)with e1|⟨ds,ρ1,e1⟩<;>simp only[e1]at e
 ·cases e
 ·split at e
  ·rename_i hlen;refine⟨F,ρ,H0,ds,ρ1,R,e1,λJ H1 H1' s1 R1 wk p hp=>?_⟩;refine⟨λi m acc H2=>m=ds.length - i/\i<=ds.length/\∃ρi Hi dn rest,sq H1 Hi/\sC G F σ ρi Hi H2/\H2 p=some (.lst acc)/\Hi p=none/\Apart σ ρi p/\r6 G Hi dn acc/\dn.length<=i/\v9 k cap g ft fe (ds.drop i) ρi=some (rest,ρ')/\es=dn++rest,
    ⟨_,rfl,cj _,ρ1,H1,[],es,sq.refl _,R1.newOwn hp _,se,R1.h0none hp,R1.apart hp,sR,aF _,e,rfl⟩,?_⟩
   rintro i m acc H2 ⟨rfl,hi,ρi,Hi,dn,rest,si,Ri,hp2,hp0,apt,rs,hdn,ei,rfl⟩;by_cases hlt:i<ds.length
   ·have ed:ds.drop i=ds[i]::ds.drop (i+1):=j6 hlt;rw[ed]at ei;unfold v9 at ei;obtain⟨go,yl⟩:=(wk i Hi H2 si Ri.sub).1 ds[i] (aN hlt);refine .inr ⟨go,λx H3 y=>?_⟩;obtain⟨Hj,t1,t2,t3,t4,t5⟩:=yl x H3 y;have R2:=Ri.grow t3 t1 t2 t4;have hp3:H3 p=some (.lst acc):=t3 _ _ hp2;have hpj:Hj p=none:=by
     cases w:Hj p with
     |none=>rfl
     |some o=>
      rcases t4 p o w with z|z
      ·rw[hp0]at z;cases z
      ·rw[hp2]at z;cases z
    have RC:=R2.cap k cap nd;have npA:p∉Gf cap σ ρi:=λz=>by obtain⟨j,_,⟨ds',q1⟩,q2⟩:=z8.mp z;obtain⟨t,q3,q4⟩:=ve q1;exact apt j t q3 (Sl.L_own q4) q2
    cases e2:g ds[i] (A5 k cap ρi)with
    |none=>simp only[e2]at ei;cases ei
    |some ρ2=>
     simp only[e2]at ei;refine⟨_,_,Hj,ds[i],ρ2,RC,t5,e2,λσ4 hd4 R4=>⟨hd4,?_⟩⟩;rcases sO (f:=ft) (ρ:=ρ2)with e3|⟨b,ρ3,e3⟩
     ·simp only[e3]at ei;cases ei
     ·refine⟨_,ρ2,Hj,b,ρ3,R4,e3,λH5 H5' s5 R5=>?_⟩;have keepP:∀{σ':St} {ρ'':aZ} {Ha Ha':Hp},sC G ⟨Hj,H3,Gf cap σ ρi⟩ σ' ρ'' Ha Ha'->Ha' p=some (.lst acc)/\Ha p=none:=λRz=>by
       refine⟨Rz.keep p _ hp3 npA,?_⟩;refine Option.eq_none_iff_forall_ne_some.mpr λo w2=>?_;rcases Rz.fr p o w2 with z|z
       ·have z':Hj p=some o:=z;rw[hpj]at z';cases z'
       ·have z':H3 p=none:=z;rw[hp3]at z';cases z'
      cases b with
      |false=>
       simp only[e3]at ei;refine Ia ?_;cases e4:vA cap (ρ3.drop k) ρi with
       |none=>simp only[e4]at ei;cases ei
       |some ρn=>simp only[e4]at ei;obtain⟨w1,w2⟩:=keepP R5;exact⟨ds.length - (i+1),by omega,rfl,hlt,ρn,H5,dn,rest,si.trans (t1.trans s5),R2.uncap R5 hd4 e4,w1,w2,z9 (k:=k) apt e4,r6.mono (t1.trans s5) _ _ rs,by omega,ei,rfl⟩
      |true=>
       simp only[e3]at ei;refine Ib ?_;rcases sO (f:=fe) (ρ:=ρ3)with e5|⟨x5,ρ5,e5⟩
       ·simp only[e5]at ei;cases ei
       ·simp only[e5]at ei;refine⟨_,ρ3,H5,x5,ρ5,R5,e5,λv H6 H6' s6 R6 rv=>?_⟩;obtain⟨w1,w2⟩:=keepP R6;cases e4:vA cap (ρ5.drop k) ρi with
        |none=>simp only[e4]at ei;cases ei
        |some ρn=>
         simp only[e4]at ei;cases e6:v9 k cap g ft fe (ds.drop (i+1)) ρn with
         |none=>simp only[e6]at ei;cases ei
         |some q=>
          obtain⟨rest',ρz⟩:=q;simp only[e6]at ei;cases ei;have Rn:=R2.uncap R6 hd4 e4;have lacc:acc.length=dn.length:=(r9 rs).symm;refine⟨acc,w1,AN (by omega),ds.length - (i+1),by omega,rfl,hlt,ρn,H6,dn++[x5],rest',si.trans (t1.trans (s5.trans s6)),?_,se,w2,z9 (k:=k) apt e4,uI (r6.mono (t1.trans (s5.trans s6)) _ _ rs) (sP rv sR),by rw[aA,ba];omega,e6,by rw[bw];rfl⟩;exact {
           sub:=λb o e=>by rw[sf (λz=>by rw[z,w2]at e;cases e)];exact Rn.sub b o e
           g0:=Rn.g0
           keep:=λb o e n=>by rw[sf (λz=>by subst z;rw[R1.bNone hp]at e;cases e)];exact Rn.keep b o e n
           fr:=Rn.fr
           am:=λb hb=>by
            by_cases z:b=p
            ·subst z;exact⟨_,se⟩
            ·rw[sf z];exact Rn.am b hb
           len:=Rn.len
           sl:=λj t ej=>(Rn.sl j t ej).grow (sq.refl _) (λb u z to q=>by rw[sf (λy=>z9 (k:=k) apt e4 j t ej to (by rw[z,y]))];exact q) λb u _ _ _ q=>q
           ap:=Rn.ap }
   ·have ez:ds.drop i=[]:=nP (by omega);rw[ez]at ei;unfold v9 at ei;cases ei;rw[bq]at kk;exact .inl ⟨(wk i Hi H2 si Ri.sub).2 (by omega),kk p acc Hi H2 (s1.trans si) Ri hp2 hp0 (R1.bNone hp) apt rs⟩
  ·cases e
theorem Pe{cap:List Nat}(nd:cap.Nodup)(h:PE X e (ES (tFI G s) (tFG G k g) (tFT G ft) (tF G fe) k cap)):PE X e (tFN G (sL k cap s g ft fe)):=PE.weak h (L9 nd)
theorem Pf:PIf X [] (tFT G tR):=λpins s σ H Q I h=>by obtain⟨F,ρ,H0,b,ρ',R,e,k⟩:=h;cases e;exact RW pins s σ H Q I (k _ _ (sq.refl _) R)
end
def uY:D->Bool
 |.non=>true|.bl _=>true|.int _=>true|.str _=>true|_=>false
def vD:D->V
 |.non=>.non|.bl b=>.bl b|.int i=>.int i|.str x=>.str x|_=>.non
section
variable{X:Cx}{G:Bg}{H:Hp}
theorem wz(h:Rep G H d v)(f:uY d=true):v=vD d:=by cases d<;>first|(unfold Rep at h;exact h)|cases f
theorem BV(f:uY d=true):∀H,Rep G H d (vD d):=λH=>by cases d<;>first|(unfold Rep;rfl)|cases f
theorem CN:∀{ds:aS} {xs:bC},r6 G H ds xs->ds.all uY=true->xs=ds.map vD
 |[],xs,h,f=>by unfold r6 at h;exact h
 |d::ds,xs,h,f=>by unfold r6 at h;obtain⟨v,r,rfl,h1,h2⟩:=h;rw[dq,bh]at f;rw[au,wz h1 f.1,CN h2 f.2]
theorem Jx(f:uY d=true):A6 (vD d)=true:=by cases d<;>first|rfl|cases f
theorem GT:∀{ds:aS},ds.all uY=true->(ds.map vD).all A6=true
 |[],_=>rfl
 |d::ds,f=>by rw[dq,bh]at f;rw[au,dq,Jx f.1,GT f.2];rfl
theorem OpR.or(h:OpR X f r)(h':OpR X f r'):OpR X f (λx y H Q=>r x y H Q\/r' x y H Q):=λpins s σ H x y v u Q I rx ry q=>q.elim (h pins s σ H x y v u Q I rx ry) (h' pins s σ H x y v u Q I rx ry)
theorem OpD.or(h:OpD G r g)(h':OpD G r' g'):OpD G (λx y H Q=>r x y H Q\/r' x y H Q) (λx y=>match g x y with|some z=>some z|none=>g' x y):=λx y z H0 H v u Q e s rx ry k=>by
 cases e1:g x y with
 |some w=>simp only[e1]at e;cases e;exact .inl (h x y _ H0 H v u Q e1 s rx ry k)
 |none=>simp only[e1]at e;exact .inr (h' x y z H0 H v u Q e s rx ry k)
def dI(C:Int->Int->Bool)(g:Int->Int->D):D->D->Option D
 |.int a,.int b=>if C a b=true then some (g a b)else none
 |_,_=>none
theorem Ma(hC:∀a b,C a b=true->C' a b)(hf:∀a b,uY (g a b)=true/\vD (g a b)=g' a b):OpD G (rI C' g') (dI C g):=λx y z H0 H v u Q e s rx ry k=>by
 unfold dI at e;split at e
 ·rename_i a b;split at e
  ·rename_i hc;cases e;unfold Rep at rx ry;exact⟨a,b,rx,ry,hC _ _ hc,by rw[<-(hf a b).2];exact k _ λH0' _=>BV (hf a b).1 H0'⟩
  ·cases e
 ·cases e
theorem CO(hf:∀a b,uY (g a b)=true/\vD (g a b)=g' a b):OpD G (rI0 g') (dI (λ_ _=>true) g):=λx y z H0 H v u Q e s rx ry k=>by
 unfold dI at e;split at e
 ·rename_i a b;split at e
  ·cases e;unfold Rep at rx ry;exact⟨a,b,rx,ry,by rw[<-(hf a b).2];exact k _ λH0' _=>BV (hf a b).1 H0'⟩
  ·cases e
 ·cases e
def uu:=dI (λ_ _=>true) λa b=>.int (a+b)
def Jy:=dI (λ_ _=>true) λa b=>.int (a - b)
def Bt(a:Int):Bool:=decide (-(2 ^ 64)<a)&&decide (a<2 ^ 64)
def Ba:=dI (λa b=>Bt a||Bt b) λa b=>.int (a * b)
def xF:=dI (λ_ b=>decide (0<b)) λa b=>.int (a % b)
def E4:=dI (λ_ b=>decide (0<b)&&decide (b<1073741824)) λa b=>.int (a / b)
def GU:=dI (λa b=>decide (0<=b)&&decide (b<=1000000)&&decide (a.natAbs<2 ^ 64)) λa b=>.int (a ^ b.toNat)
def Gg:=dI (λ_ _=>true) λa b=>.bl (decide (a<b))
def yq:=dI (λ_ _=>true) λa b=>.bl (decide (a<=b))
def Pg:=dI (λ_ _=>true) λa b=>.bl (decide (b<a))
def VT:=dI (λ_ _=>true) λa b=>.bl (decide (b<=a))
theorem VU:OpD G (rI0 λi j=>.int (i+j)) uu:=CO λ_ _=>⟨rfl,rfl⟩
theorem VW:OpD G (rI0 λi j=>.int (i - j)) Jy:=CO λ_ _=>⟨rfl,rfl⟩
theorem VX:OpD G (rI Rx λi j=>.int (i * j)) Ba:=Ma (λa b h=>by
 unfold Bt at h;simp only[kG,bh,bA]at h;exact h) λ_ _=>⟨rfl,rfl⟩
theorem VY:OpD G (rI (λ_ j=>0<j) λi j=>.int (i % j)) xF:=Ma (λa b h=>by simpa using h) λ_ _=>⟨rfl,rfl⟩
theorem VZ:OpD G (rI Vc λi j=>.int (i / j)) E4:=Ma (λa b h=>by unfold Vc;simpa using h) λ_ _=>⟨rfl,rfl⟩
theorem V3:OpD G (rI Y1 λi j=>.int (i ^ j.toNat)) GU:=Ma (λa b h=>by
 simp only[bh,bA]at h;exact⟨h.1.1,h.1.2,h.2⟩) λ_ _=>⟨rfl,rfl⟩
theorem Zu:OpD G (rI0 λi j=>.bl (decide (i<j))) Gg:=CO λ_ _=>⟨rfl,rfl⟩
theorem Zv:OpD G (rI0 λi j=>.bl (decide (i<=j))) yq:=CO λ_ _=>⟨rfl,rfl⟩
theorem Zw:OpD G (rI0 λi j=>.bl (decide (j<i))) Pg:=CO λ_ _=>⟨rfl,rfl⟩
theorem Zx:OpD G (rI0 λi j=>.bl (decide (j<=i))) VT:=CO λ_ _=>⟨rfl,rfl⟩
def aaY:D->D->Option D
 |.str a,.str b=>if a.length+b.length<=100000 then some (.str (a++b))else none
 |_,_=>none
theorem Jz(h:n<=100000):n<=sizeLine:=bK h (by rw[bL];decide)
def Ph:D->D->Option D
 |.str a,.str b=>some (.bl (!decide (b.cps.toList<a.cps.toList)))
 |_,_=>none
theorem V4:OpD G (λx y H Q=>∃i j,x=.str i/\y=.str j/\Q (.bl (!decide (j.cps.toList<i.cps.toList))) H) Ph:=λx y z H0 H v u Q e s rx ry k=>by
 unfold Ph at e;split at e
 ·rename_i a b;cases e;unfold Rep at rx ry;exact⟨a,b,rx,ry,k _ λ_ _=>uQ _⟩
 ·cases e
def Gh:D->D->Option D
 |.non,.non=>some (.bl true)
 |_,.non=>some (.bl false)
 |_,_=>none
def Dx:D->D->Option D
 |.non,.non=>some (.bl false)
 |_,.non=>some (.bl true)
 |_,_=>none
theorem Mb(h:Rep G H d v):decide (v=.non)=(match d with|.non=>true|_=>false):=by
 cases d<;>unfold Rep at h
 ·subst h;rfl
 ·subst h;rfl
 ·subst h;rfl
 ·subst h;rfl
 ·obtain⟨a,xs,rfl,_⟩:=h;rfl
 ·obtain⟨a,xs,rfl,_⟩:=h;rfl
 ·obtain⟨a,xs,rfl,_⟩:=h;rfl
 ·obtain⟨a,dx,xs,rfl,_⟩:=h;rfl
 ·obtain⟨a,ob,xs,rfl,_⟩:=h;rfl
theorem V5:OpD G (λx y H Q=>y=.non/\Q (.bl (decide (x=.non))) H) Gh:=λx y z H0 H v u Q e s rx ry k=>by
 have e0:=Mb rx;cases y<;>first|(cases x<;>cases e)|skip
 all_goals (unfold Rep at ry;refine⟨ry,?_⟩;rw[e0];exact k _ λ_ _=>uQ _)
theorem SI:OpD G (λx y H Q=>y=.non/\Q (.bl (!decide (x=.non))) H) Dx:=λx y z H0 H v u Q e s rx ry k=>by
 have e0:=Mb rx;cases y<;>first|(cases x<;>cases e)|skip
 all_goals (unfold Rep at ry;refine⟨ry,?_⟩;rw[e0];exact k _ λ_ _=>uQ _)
def aaF:D->D->Option D
 |.bl a,.bl b=>some (.bl (a != b))
 |_,_=>none
mutual
def toD:D->Option L3.Dq
 |.non=>some .non
 |.bl b=>some (.bl b)
 |.int i=>some (.int i)
 |.str x=>some (.str x)
 |.tup ds=>match CP ds with
  |some l=>some (.tup l)
  |none=>none
 |.lst ds=>match CP ds with
  |some l=>some (.lst l)
  |none=>none
 |.fzl _=>none
 |.obj _ _ _=>none
 |.dic _ _=>none
def CP:aS->Option (List L3.Dq)
 |[]=>some []
 |d::ds=>match toD d with
  |some x=>match CP ds with
   |some l=>some (x::l)
   |none=>none
  |none=>none
end
mutual
theorem Ii:∀(d:D) (v:V) (x:L3.Dq),Rep G H d v->toD d=some x->L3.Rep G.K H x v
 |.non,v,x,h,e=>by unfold toD at e;cases e;unfold Rep at h;unfold L3.Rep;exact h
 |.bl b,v,x,h,e=>by unfold toD at e;cases e;unfold Rep at h;unfold L3.Rep;exact h
 |.int b,v,x,h,e=>by unfold toD at e;cases e;unfold Rep at h;unfold L3.Rep;exact h
 |.str b,v,x,h,e=>by unfold toD at e;cases e;unfold Rep at h;unfold L3.Rep;exact h
 |.tup ds,v,x,h,e=>by
  unfold toD at e;cases e1:CP ds with
  |none=>simp only[e1]at e;cases e
  |some l=>simp only[e1]at e;cases e;unfold Rep at h;obtain⟨a,xs,rfl,h1,h2⟩:=h;unfold L3.Rep;exact⟨a,xs,rfl,h1,E5 ds xs l h2 e1⟩
 |.lst ds,v,x,h,e=>by
  unfold toD at e;cases e1:CP ds with
  |none=>simp only[e1]at e;cases e
  |some l=>simp only[e1]at e;cases e;unfold Rep at h;obtain⟨a,xs,rfl,h1,h2⟩:=h;unfold L3.Rep;exact⟨a,xs,rfl,SqL.of h1,E5 ds xs l h2 e1⟩
 |.fzl _,v,x,h,e=>by unfold toD at e;cases e
 |.obj _ _ _,v,x,h,e=>by unfold toD at e;cases e
 |.dic _ _,v,x,h,e=>by unfold toD at e;cases e
theorem E5:∀(ds:aS) (xs:bC) (l:List L3.Dq),r6 G H ds xs->CP ds=some l->L3.r6 G.K H l xs
 |[],xs,l,h,e=>by unfold CP at e;cases e;unfold r6 at h;unfold L3.r6;exact h
 |d::ds,xs,l,h,e=>by
  unfold CP at e;cases e1:toD d with
  |none=>simp only[e1]at e;cases e
  |some x=>
   simp only[e1]at e;cases e2:CP ds with
   |none=>simp only[e2]at e;cases e
   |some l'=>simp only[e2]at e;cases e;unfold r6 at h;obtain⟨v,r,rfl,h1,h2⟩:=h;unfold L3.r6;exact⟨v,r,rfl,Ii d v x h1 e1,E5 ds r l' h2 e2⟩
end
def CQ(neg:Bool):D->D->Option D:=λx y=>match uY x&&uY y&&Ox (vD x) (vD y)with
 |true=>some (.bl (if neg then !decide (vD x=vD y)else decide (vD x=vD y)))
 |false=>none
def CS(neg:Bool):D->D->Option D:=λx y=>match toD x,toD y with
 |some a,some b=>if GL a b&&decide (dpt a<=20)&&decide (dpt b<=20)then some (.bl (if neg then !eqD a b else eqD a b))else none
 |_,_=>none
def dEq(neg:Bool):D->D->Option D:=λx y=>match CQ neg x y with
 |some z=>some z
 |none=>CS neg x y
theorem V6:OpD G rEq (CQ false):=λx y z H0 H v u Q e s rx ry k=>by
 unfold CQ at e;cases e1:uY x&&uY y&&Ox (vD x) (vD y)with
 |false=>simp only[e1]at e;cases e
 |true=>simp only[e1]at e;cases e;simp only[bh]at e1;rw[wz rx e1.1.1,wz ry e1.1.2];exact⟨e1.2,k _ λ_ _=>uQ _⟩
theorem V7:OpD G rNe (CQ true):=λx y z H0 H v u Q e s rx ry k=>by
 unfold CQ at e;cases e1:uY x&&uY y&&Ox (vD x) (vD y)with
 |false=>simp only[e1]at e;cases e
 |true=>simp only[e1]at e;cases e;simp only[bh]at e1;rw[wz rx e1.1.1,wz ry e1.1.2];exact⟨e1.2,k _ λ_ _=>uQ _⟩
theorem Pi:OpD G (KR G.K neg) (CS neg):=λx y z H0 H v u Q e s rx ry k=>by
 unfold CS at e;cases e1:toD x with
 |none=>simp only[e1]at e;cases e
 |some a=>
  cases e2:toD y with
  |none=>simp only[e1,e2]at e;cases e
  |some b=>
   simp only[e1,e2]at e;split at e
   ·rename_i hc;cases e;simp only[bh,bA]at hc;exact⟨a,b,Ii x v a (Rep.mono s _ _ rx) e1,Ii y u b (Rep.mono s _ _ ry) e2,hc.1.1,hc.1.2,hc.2,k _ λ_ _=>uQ _⟩
   ·cases e
theorem V8(hu:X.A.units+64<cLine)(hK:X.K=G.K:=by rfl):OpR X (compareOp .Eq) (λx y H Q=>rEq x y H Q\/KR G.K false x y H Q):=by rw[<-hK];exact OpR.or Y2 (VC hu)
theorem V9(hu:X.A.units+64<cLine)(hK:X.K=G.K:=by rfl):OpR X (compareOp .NotEq) (λx y H Q=>rNe x y H Q\/KR G.K true x y H Q):=by rw[<-hK];exact OpR.or Y3 (VD hu)
theorem Zy:OpD G (λx y H Q=>rEq x y H Q\/KR G.K false x y H Q) (dEq false):=OpD.or V6 Pi
theorem Zz:OpD G (λx y H Q=>rNe x y H Q\/KR G.K true x y H Q) (dEq true):=OpD.or V7 Pi
def Pj:D->Option aS
 |.tup ds=>some ds
 |.lst ds=>some ds
 |.fzl ds=>some ds
 |_=>none
theorem Mc(h:Rep G H d v)(e:Pj d=some ds):∃p xs,v=.ref p/\(SqL G.K H p xs\/SqT G.K H p xs)/\r6 G H ds xs:=by
 cases d with
 |tup l=>cases e;unfold Rep at h;obtain⟨a,xs,rfl,h1,h2⟩:=h;exact⟨a,xs,rfl,.inr h1,h2⟩
 |lst l=>cases e;unfold Rep at h;obtain⟨a,xs,rfl,h1,h2⟩:=h;exact⟨a,xs,rfl,.inl (SqL.of h1),h2⟩
 |fzl l=>cases e;unfold Rep at h;obtain⟨a,xs,rfl,h1,h2⟩:=h;exact⟨a,xs,rfl,.inl h1,h2⟩
 |_=>cases e
def dIn(neg:Bool):D->D->Option D:=λx y=>match Pj y with
 |some ds=>if uY x&&ds.all uY then some (.bl (if neg then !inV (vD x) (ds.map vD)else inV (vD x) (ds.map vD)))else none
 |none=>none
theorem Md{K:ar}(s:sq H H')(h:SqL K H p xs\/SqT K H p xs):SqL K H' p xs\/SqT K H' p xs:=h.imp s.seq (SqT.mono s)
theorem Ux:OpD G (rIn G.K neg) (dIn neg):=λx y z H0 H v u Q e s rx ry k=>by
 unfold dIn at e;cases e1:Pj y with
 |none=>simp only[e1]at e;cases e
 |some ds=>
  simp only[e1]at e;split at e
  ·rename_i hc;cases e;simp only[bh]at hc;obtain⟨p,xs,rfl,h1,h2⟩:=Mc ry e1;refine⟨p,xs,rfl,Md s h1,?_,?_,?_⟩
   ·rw[wz rx hc.1];exact Jx hc.1
   ·rw[CN h2 hc.2];exact GT hc.2
   ·rw[wz rx hc.1,CN h2 hc.2];exact k _ λ_ _=>uQ _
  ·cases e
theorem Wa(hK:X.K=G.K:=by rfl):OpR X (compareOp .In) (rIn G.K false):=by rw[<-hK];exact Ng
theorem Ny(hK:X.K=G.K:=by rfl):OpR X (compareOp .NotIn) (rIn G.K true):=by rw[<-hK];exact HS
def dIx:D->D->Option D
 |.tup ds,.int i=>atI ds i
 |.lst ds,.int i=>atI ds i
 |.fzl ds,.int i=>atI ds i
 |.str x,.int i=>if x.length<=100000 then (atI x.cps.toList i).map λc=>.str ⟨#[c]⟩else none
 |_,_=>none
theorem ZC:OpD G (rIx G.K) dIx:=λx y z H0 H v u Q e s rx ry k=>by
 cases y with
 |int i=>
  unfold Rep at ry;subst ry;cases x with
  |tup ds=>unfold Rep at rx;obtain⟨a,xs,rfl,h1,h2⟩:=rx;obtain⟨w,w1,w2⟩:=BS h2 (show atI ds i=some z from e);exact .inr (.inl ⟨a,xs,i,w,rfl,rfl,SqT.mono s h1,w1,k _ λH0' s'=>Rep.mono s' _ _ w2⟩)
  |lst ds=>unfold Rep at rx;obtain⟨a,xs,rfl,h1,h2⟩:=rx;obtain⟨w,w1,w2⟩:=BS h2 (show atI ds i=some z from e);exact .inl ⟨a,xs,i,w,rfl,rfl,s.seq (SqL.of h1),w1,k _ λH0' s'=>Rep.mono s' _ _ w2⟩
  |fzl ds=>unfold Rep at rx;obtain⟨a,xs,rfl,h1,h2⟩:=rx;obtain⟨w,w1,w2⟩:=BS h2 (show atI ds i=some z from e);exact .inl ⟨a,xs,i,w,rfl,rfl,s.seq h1,w1,k _ λH0' s'=>Rep.mono s' _ _ w2⟩
  |str t=>
   unfold Rep at rx;subst rx;unfold dIx at e;simp only at e;split at e
   ·rename_i hl;cases e1:atI t.cps.toList i with
    |none=>rw[e1]at e;cases e
    |some c=>rw[e1]at e;cases e;exact .inr (.inr ⟨t,i,c,rfl,rfl,Jz hl,e1,k _ λ_ _=>y9 _⟩)
   ·cases e
  |_=>cases e
 |_=>cases x<;>cases e
theorem ix_X(hK:X.K=G.K:=by rfl):IxR X (rIx G.K):=by rw[<-hK];exact Vr
def GV(G:Bg)(r:bC->Hp->VK->Prop)(g:D->Option D):Prop:=∀x z H0 H v (Q:VK),g x=some z->sq H0 H->Rep G H0 x v->(∀w,(∀H0',sq H0 H0'->Rep G H0' z w)->Q w H)->r [v] H Q
theorem Uy(hr:GV G r g)(h:PE X e (tCB r (tFA G (rR f sS)))):PE X e (tF G (c1 g f)):=PE.weak h λσ H Q hh=>by obtain⟨F,ρ,H0,d,ρ',R,e,k⟩:=hh;obtain⟨x,e1,e2⟩:=Er e;refine⟨F,ρ,H0,[x],ρ',R,by unfold rR;rw[e1];rfl,λys H1 H1' s R' rs=>?_⟩;unfold r6 at rs;obtain⟨v,r0,rfl,rv,rn⟩:=rs;unfold r6 at rn;subst rn;exact hr x d H1 H1' v Q e2 R'.sub rv λw hw=>k _ _ _ s R' (hw _ (sq.refl _))
theorem uf.or(h:uf X f r)(h':uf X f r'):uf X f (λx H Q=>r x H Q\/r' x H Q):=λpins s σ H xs us Q I rv q=>q.elim (h pins s σ H xs us Q I rv) (h' pins s σ H xs us Q I rv)
def xW:D->Option D
 |.tup ds=>some (.int ds.length)
 |.lst ds=>some (.int ds.length)
 |.fzl ds=>some (.int ds.length)
 |.str x=>if x.length<=100000 then some (.int x.length)else none
 |.dic ks ds=>some (.int ks.length)
 |_=>none
theorem NA:uf X (.builtin "len") (λxs H Q=>∃a kvs,xs=[V.ref a]/\Rd H a (.dK kvs)/\Q (.int kvs.length) H):=by intro pins s σ H xs us Q I r h;obtain⟨a,kvs,rfl,ha,q⟩:=h;obtain⟨u,rfl,ru⟩:=vals1 r;cases ru;exact Zg I ha λt s' I'=>⟨.int kvs.length,H,I',⟨t,rfl⟩,q⟩
def Uz(K:ar):bC->Hp->VK->Prop:=λxs H Q=>(∃p ys,xs=[.ref p]/\(SqL K H p ys\/SqT K H p ys)/\Q (.int ys.length) H)\/((∃z,xs=[.str z]/\z.length<=sizeLine/\Q (.int z.length) H)\/(∃a kvs,xs=[V.ref a]/\Rd H a (.dK kvs)/\Q (.int kvs.length) H))
theorem NB(hK:X.K=G.K:=by rfl):uf X (.builtin "len") (Uz G.K):=by rw[<-hK];exact uf.or HU (uf.or HV NA)
theorem Wb:GV G (Uz G.K) xW:=λx z H0 H v Q e s rx k=>by
 cases x with
 |tup ds=>cases e;unfold Rep at rx;obtain⟨a,xs,rfl,h1,h2⟩:=rx;refine .inl ⟨a,xs,rfl,.inr (SqT.mono s h1),?_⟩;rw[<-r9 h2];exact k _ λ_ _=>uE _
 |lst ds=>cases e;unfold Rep at rx;obtain⟨a,xs,rfl,h1,h2⟩:=rx;refine .inl ⟨a,xs,rfl,.inl (s.seq (SqL.of h1)),?_⟩;rw[<-r9 h2];exact k _ λ_ _=>uE _
 |fzl ds=>cases e;unfold Rep at rx;obtain⟨a,xs,rfl,h1,h2⟩:=rx;refine .inl ⟨a,xs,rfl,.inl (s.seq h1),?_⟩;rw[<-r9 h2];exact k _ λ_ _=>uE _
 |str t=>
  unfold xW at e;simp only at e;split at e
  ·rename_i hl;cases e;unfold Rep at rx;exact .inr (.inl ⟨t,by rw[rx],Jz hl,k _ λ_ _=>uE _⟩)
  ·cases e
 |dic ks ds=>cases e;unfold Rep at rx;obtain⟨a,o,xs,rfl,h1,h2,h3⟩:=rx;refine .inr (.inr ⟨a,_,rfl,.inr ⟨o,s _ _ h1⟩,?_⟩);rw[eL,<- h2,dR];exact k _ λ_ _=>uE _
 |_=>cases e
def NC:D->Option D
 |.int i=>some (.int i)
 |.bl b=>some (.int (if b then 1 else 0))
 |_=>none
theorem Wc:GV G (λxs H Q=>(∃i,xs=[.int i]/\Q (.int i) H)\/∃k,xs=[.bl k]/\Q (.int (if k then 1 else 0)) H) NC:=λx z H0 H v Q e s rx k=>by
 cases x with
 |int i=>cases e;unfold Rep at rx;subst rx;exact .inl ⟨i,rfl,k _ λ_ _=>uE _⟩
 |bl b=>cases e;unfold Rep at rx;subst rx;exact .inr ⟨b,rfl,k _ λ_ _=>uE _⟩
 |_=>cases e
def Gi:aS->Option (List Bool)
 |[]=>some []
 |.bl b::r=>(Gi r).map (b::·)
 |_=>none
theorem E6:∀{ds:aS} {xs:bC} {bs:List Bool},r6 G H ds xs->Gi ds=some bs->xs=bs.map V.bl
 |[],xs,bs,h,e=>by cases e;unfold r6 at h;exact h
 |.bl b::r,xs,bs,h,e=>by
  unfold r6 at h;obtain⟨v,q,rfl,h1,h2⟩:=h;unfold Gi at e;cases e1:Gi r with
  |none=>rw[e1]at e;cases e
  |some l=>rw[e1]at e;cases e;unfold Rep at h1;subst h1;rw[E6 h2 e1];rfl
 |.non::r,xs,bs,h,e=>by cases e
 |.int _::r,xs,bs,h,e=>by cases e
 |.str _::r,xs,bs,h,e=>by cases e
 |.tup _::r,xs,bs,h,e=>by cases e
 |.lst _::r,xs,bs,h,e=>by cases e
 |.fzl _::r,xs,bs,h,e=>by cases e
 |.obj _ _ _::r,xs,bs,h,e=>by cases e
 |.dic _ _::r,xs,bs,h,e=>by cases e
def xX:D->Option D
 |.lst ds=>(Gi ds).map λbs=>.bl (bs.all id)
 |_=>none
theorem Wd:GV G (λxs H Q=>∃(p:Addr) (bs:List Bool),xs=[.ref p]/\SqL G.K H p (bs.map V.bl)/\Q (.bl (bs.all id)) H) xX:=λx z H0 H v Q e s rx k=>by
 cases x with
 |lst ds=>
  unfold xX at e;simp only at e;cases e1:Gi ds with
  |none=>rw[e1]at e;cases e
  |some bs=>rw[e1]at e;cases e;unfold Rep at rx;obtain⟨a,xs,rfl,h1,h2⟩:=rx;rw[E6 h2 e1]at h1;exact⟨a,bs,rfl,s.seq (SqL.of h1),k _ λ_ _=>uQ _⟩
 |_=>cases e
theorem ND(hc:X.calm=true)(hK:X.K=G.K:=by rfl):uf X (.builtin "all") (λxs H Q=>∃(p:Addr) (bs:List Bool),xs=[.ref p]/\SqL G.K H p (bs.map V.bl)/\Q (.bl (bs.all id)) H):=by rw[<-hK];exact OS hc
inductive Ty where
 |b (n:String)|c (k:Nat)
def Ty.val(G:Bg):Ty->aa
 |.b n=>.type n
 |.c k=>.ref (G.ca k)
def Ty.v(G:Bg):Ty->V
 |.b n=>.ty n
 |.c k=>.ref (G.ca k)
def tyD:D->Ty
 |.non=>.b "NoneType" |.bl _=>.b "bool" |.int _=>.b "int" |.str _=>.b "str" |.tup _=>.b "tuple" |.lst _=>.b "list" |.fzl _=>.b "list" |.dic _ _=>.b "dict" |.obj c _ _=>.c c
structure NF(K:ar)(C:Addr):Prop where
 cl:Cls K C
 ha:cF K (.ref C) "__class__" = some (some (.builtin "object.__class__"))
 hn:W.specialIn K (.builtin "object.__class__") "__get__" = some (some (.builtin "getset_descriptor.__get__"))
 htk:W.takesIn K (.builtin "object.__class__")=some true
 hm:W.mroIn K C (.type "object")=some true
theorem Pk(I:Inv X pins σ H s)(hK:X.K=G.K)(hd:Rep G H d v)(rv:RelV v u)(hc:∀k ns ds,d=.obj k ns ds->NF X.K (G.ca k))
  (e:cH X.K ((tyD d).val G) c=some b) (h:∀tk,Q (.bool b) { s with toks:=tk }):wpAny (model X.prog X.w) A (call (.builtin "isinstance") [u,c]) Q E s:=by
 cases d with
 |non=>unfold Rep at hd;subst hd;exact xq I rv .non e h
 |bl x=>unfold Rep at hd;subst hd;exact xq I rv (.bl x) e h
 |int x=>unfold Rep at hd;subst hd;exact xq I rv (.int x) e h
 |str x=>unfold Rep at hd;subst hd;exact xq I rv (.str x) e h
 |tup ds=>unfold Rep at hd;obtain⟨a,xs,rfl,h1,h2⟩:=hd;cases rv;rw[<-hK]at h1;obtain⟨its,_,p,_⟩:=I.tuple h1;obtain⟨o,q1,q2,_⟩:=p;exact cv W.kitx_tuple I.kIn ⟨o,q1,q2⟩ e (λz=>nomatch z) h
 |lst ds=>unfold Rep at hd;obtain⟨a,xs,rfl,h1,h2⟩:=hd;exact xq I rv (.lst h1) e h
 |fzl ds=>unfold Rep at hd;obtain⟨a,xs,rfl,h1,h2⟩:=hd;cases rv;rw[<-hK]at h1;obtain⟨its,_,p,_⟩:=I.list h1;obtain⟨o,n,q1,q2,_⟩:=p;exact cv lr I.kIn ⟨o,q1,q2⟩ e (λz=>nomatch z) h
 |dic ks ds=>unfold Rep at hd;obtain⟨a,o,xs,rfl,h1,h2,h3⟩:=hd;cases rv;obtain⟨q0,_,_,vs,_,ob,es,ep,q1,q2,_⟩:=(show tL X.prog X.w H s.heap a (.frz o (.dK (ks.zip xs))) from I.hok a _ h1);exact cv lu I.kIn ⟨ob,q1,q2.1⟩ e (λz=>nomatch z) h
 |obj k ns ds=>have ci:=hc k ns ds rfl;unfold Rep at hd;obtain⟨a,dx,xs,rfl,h1,h2,h3⟩:=hd;exact xq I rv (.ins h1 ci.cl ci.ha ci.hn ci.htk ci.hm) e h
def Aa(t:Ty->Option Bool):D->Option D:=λd=>(t (tyD d)).map .bl
theorem GW(c:Ty){t:Ty->Option Bool}(ht:∀y b,t y=some b->cH X.K (y.val G) (c.val G)=some b)(hc:∀k b,t (.c k)=some b->NF X.K (G.ca k))(hK:X.K=G.K:=by rfl):
  uf X (.builtin "isinstance") (λxs H Q=>∃d x b,xs=[x,c.v G]/\Rep G H d x/\t (tyD d)=some b/\Q (.bl b) H):=by
 intro pins s σ H xs us Q I r h;obtain⟨d,x,b,rfl,hd,e,q⟩:=h;obtain⟨u,w',rfl,ru,rw'⟩:=vals2 r;have ew:w'=c.val G:=by cases c<;>exact rw'
 subst ew;exact Pk I hK hd ru (λk ns ds z=>by subst z;exact hc k b e) (ht _ _ e) λtk=>⟨.bl b,H,I.tok _,rfl,q⟩
theorem Me{c:Ty}(h:PE X e (tCB (λxs H Q=>∃d x b,xs=[x,c.v G]/\Rep G H d x/\t (tyD d)=some b/\Q (.bl b) H) (EE (tF G f) (EE (tC (c.v G)) Jd)))):PE X e (tF G (c1 (Aa t) f)):=PE.weak h λσ H Q hh=>by
 obtain⟨F,ρ,H0,d,ρ',R,e,k⟩:=hh;obtain⟨x,e1,e2⟩:=Er e;unfold Aa at e2;cases e3:t (tyD x)with
 |none=>rw[e3]at e2;cases e2
 |some b=>rw[e3]at e2;cases e2;exact⟨F,ρ,H0,x,ρ',R,e1,λv H1 H1' s R' r=>⟨x,v,b,rfl,Rep.mono R'.sub _ _ r,e3,k _ _ _ s R' (uQ b)⟩⟩
def uR(f g:FE):FA:=λρ=>match f ρ with
 |some (.lst xs,ρ1)=>match g ρ1 with
  |some (.lst ys,ρ2)=>if xs.length+ys.length<=1000 then some (xs++ys,ρ2)else none
  |_=>none
 |_=>none
theorem SJ(ha:PE X a (tF G f))(hb:PE X b (tF G g)):PE X (.BinOp a .Add b pos) (tFN G (uR f g)):=PE.weak (Ow Vt ha hb) λσ H Q hh=>by
 obtain⟨F,ρ,H0,d,ρ',R,e,k⟩:=hh;unfold uR at e;split at e
 ·rename_i xs ρ1 e1;split at e
  ·rename_i ys ρ2 e2;split at e
   ·rename_i hl;cases e;refine⟨F,ρ,H0,_,ρ1,R,e1,λv H1 H1' s R' r=>⟨F,ρ1,H1,_,_,R',e2,λu H2 H2' s2 R2 r2=>?_⟩⟩;have r':=Rep.mono s2 _ _ r;unfold Rep at r' r2;obtain⟨a1,xs1,rfl,h1,h2⟩:=r';obtain⟨a2,xs2,rfl,h3,h4⟩:=r2;refine⟨a1,a2,xs1,xs2,rfl,rfl,R2.sub _ _ h1,R2.sub _ _ h3,by rw[<-r9 h2,<- r9 h4];exact xE hl,λp hp=>?_⟩;exact k p _ _ _ (s.trans s2) (R2.newOwn hp _) se (R2.h0none hp) (R2.bNone hp) (R2.apart hp) (uI h2 h4)
   ·cases e
  ·cases e
 ·cases e
def Ab(f:FE):FA:=λρ=>match f ρ with
 |some (d,ρ1)=>match Pj d with
  |some ds=>some (ds,ρ1)
  |none=>none
 |none=>none
theorem Pm(h:PE X e (tCB (λxs H Q=>∃p ys,xs=[.ref p]/\(SqL G.K H p ys\/SqT G.K H p ys)/\∀l,H l=none->Q (.ref l) (upd H l (.lst ys))) (tFA G (rR f sS)))):PE X e (tFN G (Ab f)):=PE.weak h λσ H Q hh=>by
 obtain⟨F,ρ,H0,ds,ρ',R,e,k⟩:=hh;unfold Ab at e;rcases sO (f:=f) (ρ:=ρ)with e1|⟨d,ρ1,e1⟩<;>simp only[e1]at e
 ·cases e
 ·cases e2:Pj d with
  |none=>simp only[e2]at e;cases e
  |some ds'=>simp only[e2]at e;cases e;refine⟨F,ρ,H0,[d],_,R,by unfold rR;rw[e1];rfl,λys H1 H1' s R' rs=>?_⟩;unfold r6 at rs;obtain⟨v,r0,rfl,rv,rn⟩:=rs;unfold r6 at rn;subst rn;obtain⟨p,xs,rfl,h1,h2⟩:=Mc rv e2;exact⟨p,xs,rfl,Md R'.sub h1,λl hl=>k l _ _ _ s (R'.newOwn hl _) se (R'.h0none hl) (R'.bNone hl) (R'.apart hl) h2⟩
theorem K0(hK:X.K=G.K:=by rfl):uf X (.type "list") (λxs H Q=>∃p ys,xs=[.ref p]/\(SqL G.K H p ys\/SqT G.K H p ys)/\∀l,H l=none->Q (.ref l) (upd H l (.lst ys))):=by rw[<-hK];exact HW
def GX(f:FE):FE:=λρ=>match f ρ with
 |some (.lst ds,ρ1)=>some (.tup ds,ρ1)
 |some (.tup ds,ρ1)=>some (.tup ds,ρ1)
 |_=>none
theorem Pn(h:PE X e (tCB (λxs H Q=>∃p ys,xs=[.ref p]/\((SqL G.K H p ys/\∀l,H l=none->Q (.ref l) (upd H l (.tup ys)))\/(SqT G.K H p ys/\Q (.ref p) H))) (tFA G (rR f sS)))):PE X e (tF G (GX f)):=PE.weak h λσ H Q hh=>by
 obtain⟨F,ρ,H0,ds,ρ',R,e,k⟩:=hh;unfold GX at e;split at e
 ·rename_i xs ρ1 e1;cases e;refine⟨F,ρ,H0,[_],_,R,by unfold rR;rw[e1];rfl,λys H1 H1' s R' rs=>?_⟩;unfold r6 at rs;obtain⟨v,r0,rfl,rv,rn⟩:=rs;unfold r6 at rn;subst rn;unfold Rep at rv;obtain⟨p,zs,rfl,h1,h2⟩:=rv;refine⟨p,zs,rfl,.inl ⟨SqL.of (R'.sub _ _ h1),λl hl=>?_⟩⟩;exact k _ _ _ (s.trans (sv (R'.h0none hl) _)) (R'.newIm hl _) (y8 (SqT.of se) (r6.mono (sv (R'.h0none hl) _) _ _ h2))
 ·rename_i xs ρ1 e1;cases e;refine⟨F,ρ,H0,[_],_,R,by unfold rR;rw[e1];rfl,λys H1 H1' s R' rs=>?_⟩;unfold r6 at rs;obtain⟨v,r0,rfl,rv,rn⟩:=rs;unfold r6 at rn;subst rn;have rv0:=rv;unfold Rep at rv;obtain⟨p,zs,rfl,h1,h2⟩:=rv;exact⟨p,zs,rfl,.inr ⟨SqT.mono R'.sub h1,k _ _ _ s R' rv0⟩⟩
 ·cases e
theorem NG(hK:X.K=G.K:=by rfl):uf X (.type "tuple") (λxs H Q=>∃p ys,xs=[.ref p]/\((SqL G.K H p ys/\∀l,H l=none->Q (.ref l) (upd H l (.tup ys)))\/(SqT G.K H p ys/\Q (.ref p) H))):=by rw[<-hK];exact Gc
def cutD(xs:aS)(lo hi:Option Int):aS:=(xs.drop (HT.sIx xs.length 0 lo)).take (HT.sIx xs.length xs.length hi - HT.sIx xs.length 0 lo)
theorem E7{lo:Option Int}(r:r6 G H0 ds xs):r6 G H0 (cutD ds lo hi) (Jg xs lo hi):=by unfold cutD Jg;rw[<-r9 r];exact GP _ (GO _ r)
def cSl(f:FE)(lo hi:Option Int):FA:=λρ=>match f ρ with
 |some (.lst ds,ρ1)=>some (cutD ds lo hi,ρ1)
 |some (.fzl ds,ρ1)=>some (cutD ds lo hi,ρ1)
 |_=>none
def tO(o:Option Int):TO:=λ_ H Q=>Q o H
theorem NH{lo:Option Int}(h:PE X e (tSl (Nf G.K) (tF G f) (tO lo) (tO hi))):PE X e (tFN G (cSl f lo hi)):=PE.weak h λσ H Q hh=>by
 obtain⟨F,ρ,H0,ds,ρ',R,e,k⟩:=hh;have gen:∀{a:Addr} {xs:bC} {ds':aS} {H1 H1':Hp},sq H0 H1->sC G F σ ρ' H1 H1'->SqL G.K H1 a xs->r6 G H1 ds' xs->ds=cutD ds' lo hi->Nf G.K (.ref a) lo hi H1' Q:=λ{a xs ds' H1 H1'} s R' h1 h2 e=>by subst e;exact⟨a,xs,rfl,R'.sub.seq h1,λp hp=>k p _ _ _ s (R'.newOwn hp _) se (R'.h0none hp) (R'.bNone hp) (R'.apart hp) (E7 h2)⟩
 unfold cSl at e;split at e
 ·rename_i xs ρ1 e1;cases e;refine⟨F,ρ,H0,_,_,R,e1,λv H1 H1' s R' r=>?_⟩;unfold Rep at r;obtain⟨a,ys,rfl,h1,h2⟩:=r;exact gen s R' (SqL.of h1) h2 rfl
 ·rename_i xs ρ1 e1;cases e;refine⟨F,ρ,H0,_,_,R,e1,λv H1 H1' s R' r=>?_⟩;unfold Rep at r;obtain⟨a,ys,rfl,h1,h2⟩:=r;exact gen s R' h1 h2 rfl
 ·cases e
theorem Po{j pos}:PO X (some (.Constant (.int n) j pos)) (tO (some n)):=λpins s σ H Q I h=>LV Kz pins s σ H Q I ⟨n,rfl,h⟩
theorem ZD:PO X none (tO none):=LU
theorem ZL(hK:X.K=G.K:=by rfl):SlR X (Nf G.K):=by rw[<-hK];exact RO
end
def Sl.bor:Sl->Sl
 |.un=>.un
 |.im d=>.im d
 |.ls ds=>.im (.lst ds)
 |.pm ds=>.im (.lst ds)
 |.dk _ _=>.un
 |.ob c ns ds=>.im (.obj c ns ds)
section
variable{X:Cx}{G:Bg}
theorem sC.bor(R:sC G F σ ρ H0 H):sC G ⟨H,H,[]⟩ σ (ρ.map Sl.bor) H H where
 sub:=sq.refl _
 g0:=sq.refl _
 keep:=λb o e _=>e
 fr:=λb o e=>.inl e
 am:=λa h=>by cases h
 len:=by rw[ag];exact R.len
 sl:=λi s e=>by
  rw[bt]at e;cases e1:ρ[i]? with
  |none=>rw[e1]at e;cases e
  |some t=>
   rw[e1]at e;cases e;have ok:=R.sl i t e1;cases t with
   |un=>trivial
   |im d=>obtain⟨v,h1,h2⟩:=ok;exact⟨v,h1,Rep.mono R.sub _ _ h2⟩
   |ls ds=>obtain⟨a,xs,h1,h2,h3,h4,h5⟩:=ok;exact⟨_,h1,yc h2 (r6.mono R.sub _ _ h5)⟩
   |pm ds=>obtain⟨a,xs,h1,h2,h3,h4,h5⟩:=ok;exact⟨_,h1,yc h2 (r6.mono R.sub _ _ h5)⟩
   |dk ks ds=>trivial
   |ob c ns ds=>obtain⟨a,dx,xs,h1,h2,h3,h4,h5,h6⟩:=ok;exact⟨_,h1,by unfold Rep;exact⟨a,dx,xs,rfl,h2,h5,r6.mono R.sub _ _ h6⟩⟩
 ap:=λi j s t a _ e _ so=>by
  rw[bt]at e;cases e1:ρ[i]? with
  |none=>rw[e1]at e;cases e
  |some t=>rw[e1]at e;cases e;cases t<;>cases so
theorem sC.unbor(R:sC G F σ ρ H0 H)(R':sC G ⟨H,H,[]⟩ σ' ρ' H1 H1'):sC G F σ ρ H0 H1':=
 R.grow (λb o e=>R'.keep b o e (by simp)) (sq.refl _) (λb o e=>R'.keep b o (R.sub _ _ e) (by simp)) λb o e=>.inl e
def BW(f:FE):FE:=λρ=>match f (ρ.map Sl.bor)with
 |some (d,_)=>if uY d=true then some (d,ρ)else none
 |none=>none
def Bb(f:FT):FT:=λρ=>match f (ρ.map Sl.bor)with
 |some (d,_)=>some (d,ρ)
 |none=>none
theorem We(h:PE X e (tF G f)):PE X e (tF G (BW f)):=PE.weak h λσ H Q hh=>by
 obtain⟨F,ρ,H0,d,ρ',R,e,k⟩:=hh;unfold BW at e;rcases sO (f:=f) (ρ:=ρ.map Sl.bor)with e1|⟨x,ρ1,e1⟩<;>simp only[e1]at e
 ·cases e
 ·split at e
  ·rename_i hf;cases e;refine⟨_,_,H,d,ρ1,R.bor,e1,λv H1 H1' s R' r=>?_⟩;rw[wz r hf];exact k _ _ _ (sq.refl _) (R.unbor R') (BV hf _)
  ·cases e
theorem SK(h:PT X e (tFT G f)):PT X e (tFT G (Bb f)):=PT.weak h λσ H Q hh=>by
 obtain⟨F,ρ,H0,d,ρ',R,e,k⟩:=hh;unfold Bb at e;rcases sO (f:=f) (ρ:=ρ.map Sl.bor)with e1|⟨x,ρ1,e1⟩<;>simp only[e1]at e
 ·cases e
 ·cases e;exact⟨_,_,H,d,ρ1,R.bor,e1,λH1 H1' s R'=>k _ _ (sq.refl _) (R.unbor R')⟩
def vF(g g':D->D->Option D)(fa fb fc:FE):FE:=λρ=>match fa ρ with
 |some (x,ρ1)=>match fb ρ1 with
  |some (y,ρ2)=>match g x y with
   |some (.bl true)=>match fc ρ2 with
    |some (z,ρ3)=>match g' y z with
     |some w=>some (w,ρ3)
     |none=>none
    |none=>none
   |some (.bl false)=>some (.bl false,ρ2)
   |_=>none
  |none=>none
 |none=>none
theorem JA(ho:OpD G r g)(ho':OpD G r' g'):∀σ H Q,tF G (vF g g' fa fb fc) σ H Q->KD r r' (tF G fa) (tF G fb) (tF G fc) σ H Q:=λσ H Q hh=>by
 obtain⟨F,ρ,H0,d,ρ',R,e,k⟩:=hh;unfold vF at e;rcases sO (f:=fa) (ρ:=ρ)with e1|⟨x,ρ1,e1⟩<;>simp only[e1]at e
 ·cases e
 rcases sO (f:=fb) (ρ:=ρ1)with e2|⟨y,ρ2,e2⟩<;>simp only[e2]at e
 ·cases e
 refine⟨F,ρ,H0,x,ρ1,R,e1,λv H1 H1' s1 R1 r1=>⟨F,ρ1,H1,y,ρ2,R1,e2,λu H2 H2' s2 R2 r2=>?_⟩⟩;split at e
 ·rename_i e3;refine ho x y _ H2 H2' v u _ e3 R2.sub (Rep.mono s2 _ _ r1) r2 λw hw=>?_;have hw':=hw H2 (sq.refl _);unfold Rep at hw';refine⟨true,hw',Ib ?_⟩;rcases sO (f:=fc) (ρ:=ρ2)with e4|⟨z,ρ3,e4⟩<;>simp only[e4]at e
  ·cases e
  cases e5:g' y z with
  |none=>simp only[e5]at e;cases e
  |some q=>simp only[e5]at e;cases e;refine⟨F,ρ2,H2,z,_,R2,e4,λt H3 H3' s3 R3 r3=>?_⟩;exact ho' y z _ H3 H3' u t Q e5 R3.sub (Rep.mono s3 _ _ r2) r3 λw hw=>k w H3 H3' (s1.trans (s2.trans s3)) R3 (hw _ (sq.refl _))
 ·rename_i e3;cases e;refine ho x y _ H2 H2' v u _ e3 R2.sub (Rep.mono s2 _ _ r1) r2 λw hw=>?_;have hw':=hw H2 (sq.refl _);unfold Rep at hw';exact⟨false,hw',Ia (k _ _ _ (s1.trans s2) R2 (uQ false))⟩
 ·cases e
theorem Pp(hr:OpR X (compareOp op) r)(hr':OpR X (compareOp op') r')(ho:OpD G r g)(ho':OpD G r' g')(ha:PE X a (tF G fa))(hb:PE X b (tF G fb))(hc:PE X c (tF G fc))
  (hm:lastMarks [op,op'] [b,c]=false:=by with_unfolding_all rfl):PE X (.Compare a [op,op'] [b,c] pos) (tF G (vF g g' fa fb fc)):=PE.weak (OA hr hr' ha hb hc hm) (JA ho ho')
theorem NI(hr:OpR X (compareOp op) r)(hr':OpR X (compareOp op') r')(ho:OpD G r g)(ho':OpD G r' g')(ha:PE X a (tF G fa))(hb:PE X b (tF G fb))(hc:PE X c (tF G fc))
  (hm:lastMarks [op,op'] [b,c]=false:=by with_unfolding_all rfl):PT X (.Compare a [op,op'] [b,c] pos) (tFT G (cT (vF g g' fa fb fc))):=PT.weak (OB hr hr' ha hb hc hm) λσ H Q hh=>by
 obtain⟨F,ρ,H0,d,ρ',R,e,k⟩:=Ig σ H Q hh;exact JA ho ho' σ H _ ⟨F,ρ,H0,d,ρ',R,e,k⟩
end
def yL(P:aU)(w:aI)(K:ar)(mg:Str->Option aa)(base:Heap)(k:Nat)(x:Str)(ps:aB)(sp:Sp):Prop:=
 ∃(f:Addr) (fd:bY),mg x=some (.ref f)/\eS K (.ref f)=true/\Binds K fd ps []/\vQ P w K mg base CX0 k f fd ps sp
def Ik(G:Bg)(P:aU)(w:aI)(mg:Str->Option aa)(base:Heap)(k:Nat)(x:Str)(c:Nat)(ps:aB)(dvs:bC)(g:aS->Option (aB×aS)):Prop:=
 ∃(f:Addr) (fd:bY) (ds:List aa),Mk G.K (G.ca c) f/\mg x=some (.ref (G.ca c))/\Binds G.K fd ps ds/\Vals dvs ds/\vQ P w G.K mg base CX0 k f fd ps (spI G c g)
def zc(G:Bg)(P:aU)(w:aI)(mg:Str->Option aa)(base:Heap)(k:Nat)(m:Str)(c:Nat)(h:aS->Option D):Prop:=
 ∃(f:Addr) (fd:bY) (ps:aB),Cls G.K (G.ca c)/\Meth G.K (G.ca c) m f/\Binds G.K fd ps []/\vQ P w G.K mg base CX0 k f fd ps (spF G h)
section
variable{X:Cx}{G:Bg}{k:Nat}{x m:Str}{p pos apos:Pos}{e o:Expr}{es:List Expr}{a:FA}{ps:aB}
theorem Dy{α:Type}(g:aS->α):(λds=>g (ds++[]))=g:=funext λds=>by rw[bq]
theorem Wf(D:yL X.prog X.w X.K X.mg X.base k x ps (spF G g))(hr:ug k X.A)(ha:PA X (e::es) (tFA G a))(hg:Gl X x:=by rfl)(hdb:(x==("__debug__" : Str))=false:=by decide)(he:starEach (e::es) X.env=(false,eval e X.env)::starEach es X.env:=by rfl)(hpl:(backTo pos (starEach es X.env)).any (·.1)=false:=by rfl):
  PE X (.Call (.Name x p) (e::es) [] pos) (tF G (rW g a)):=by
 obtain⟨f,fd,h1,h2,h3,h4⟩:=D;have q:=Sw (dvs:=[]) (dds:=[]) (λ_=>sR) (BK (p:=p) (pos:=pos) h4 hr hg h1 h2 h3 .nil Dv ha hdb he hpl);rw[Dy]at q;exact q
theorem SL(D:yL X.prog X.w X.K X.mg X.base k x ps (spN G g))(hr:ug k X.A)(ha:PA X (e::es) (tFA G a))(hg:Gl X x:=by rfl)(hdb:(x==("__debug__" : Str))=false:=by decide)(he:starEach (e::es) X.env=(false,eval e X.env)::starEach es X.env:=by rfl)(hpl:(backTo pos (starEach es X.env)).any (·.1)=false:=by rfl):
  PE X (.Call (.Name x p) (e::es) [] pos) (tFN G (sX g a)):=by
 obtain⟨f,fd,h1,h2,h3,h4⟩:=D;have q:=O7 (dvs:=[]) (dds:=[]) (λ_=>sR) (BK (p:=p) (pos:=pos) h4 hr hg h1 h2 h3 .nil Dv ha hdb he hpl);rw[Dy]at q;exact q
theorem Pq(D:yL X.prog X.w X.K X.mg X.base k x ps (spN G g))(hr:ug k X.A)(hg:Gl X x:=by rfl)(hdb:(x==("__debug__" : Str))=false:=by decide):PE X (.Call (.Name x p) [] [] pos) (tFN G (sX g sS)):=by obtain⟨f,fd,h1,h2,h3,h4⟩:=D;exact Nt (OF h4 hr hg h1 h2 h3 .nil Dv hdb)
theorem SM(D:yL X.prog X.w X.K X.mg X.base k x ps (spM G g))(hr:ug k X.A)(hv:PE X e (yp i))(ha:PA X es (tFA G a))(hg:Gl X x:=by rfl)(hdb:(x==("__debug__" : Str))=false:=by decide)(he:starEach (e::es) X.env=(false,eval e X.env)::starEach es X.env:=by rfl)(hpl:(backTo pos (starEach es X.env)).any (·.1)=false:=by rfl):
  PE X (.Call (.Name x p) (e::es) [] pos) (tF G (tI g i a)):=by
 obtain⟨f,fd,h1,h2,h3,h4⟩:=D;exact VS (BK (p:=p) (pos:=pos) h4 hr hg h1 h2 h3 .nil Dv (uj hv ha he) hdb he hpl)
theorem SN(M:Ik G X.prog X.w X.mg X.base k x c ps dvs g)(hd:∀H,r6 G H dds dvs)(hr:ug (k+1) X.A)(ha:PA X (e::es) (tFA G a))(hK:X.K=G.K:=by rfl)(hg:Gl X x:=by rfl)(hdb:(x==("__debug__" : Str))=false:=by decide)
  (he:starEach (e::es) X.env=(false,eval e X.env)::starEach es X.env:=by rfl) (hpl:(backTo pos (starEach es X.env)).any (·.1)=false:=by rfl):
  PE X (.Call (.Name x p) (e::es) [] pos) (tF G (sU c (λds=>g (ds++dds)) a)):=by
 obtain⟨f,fd,ds,h1,h2,h3,h4,h5⟩:=M;rw[<-hK]at h1 h3 h5;exact Sy hd (RH (p:=p) (pos:=pos) h1 h5 hr hg h2 h3 h4 Dv ha hdb he hpl)
theorem UA(M:∀c h,g c=some h->zc G X.prog X.w X.mg X.base k m c h)(hr:ug k X.A)(hK:X.K=G.K):∀C sp,MT G g C sp->MOk X C m sp [] E0:=λC sp h=>by obtain⟨c,h,e,rfl,rfl⟩:=h;obtain⟨f,fd,ps,q1,q2,q3,q4⟩:=M c h e;rw[<-hK]at q1 q2 q3 q4;exact⟨k,f,fd,ps,[],q1,q2,q4,hr,q3,.nil,Dv⟩
theorem NJ(M:∀c h,g c=some h->zc G X.prog X.w X.mg X.base k m c h)(hr:ug k X.A)(ho:PE X o (tF G f))(ha:PA X (e::es) (tFA G a))(hK:X.K=G.K:=by rfl)
  (hst:starEach (e::es) X.env=(false,eval e X.env)::starEach es X.env:=by rfl) (hpl:(backTo pos (starEach es X.env)).any (·.1)=false:=by rfl)
  (ht:eval (.Call (.Attribute o m apos) (e::es) [] pos) X.env=(do
   let ov<-eval o X.env
   standAt apos.atName
   let (f,first)<-holding [ov] (getMethod ov m pl)
   callWith pos f first (backTo pos (starEach (e::es) X.env)) (backToKw pos (keywordEach [] X.env))):=by rfl):
  PE X (.Call (.Attribute o m apos) (e::es) [] pos) (tF G (t8 g m f a)):=Sx (E:=E0) (O9 (dvs:=[]) (MT G g) (UA M hr hK) ho ha hst hpl ht)
theorem K1(M:∀c h,g c=some h->zc G X.prog X.w X.mg X.base k m c h)(hr:ug k X.A)(ho:PE X o (tF G f))(hK:X.K=G.K:=by rfl)
  (ht:eval (.Call (.Attribute o m apos) [] [] pos) X.env=(do
   let ov<-eval o X.env
   standAt apos.atName
   let (f,first)<-holding [ov] (getMethod ov m pl)
   callWith pos f first (backTo pos (starEach [] X.env)) (backToKw pos (keywordEach [] X.env))):=by rfl):
  PE X (.Call (.Attribute o m apos) [] [] pos) (tF G (t8 g m f sS)):=Pa (E:=E0) (Nv (dvs:=[]) (MT G g) (UA M hr hK) ho ht)
end
section
variable{P:aU}{w:aI}{K:ar}{mg:Str->Option aa}{base:Heap}{x qual:Str}{st:Stmt}{f T:Addr}{fd:bY}{N ps:aB}{k:Nat}{G:Bg}
abbrev Bc(P:aU)(w:aI)(K:ar)(mg:Str->Option aa)(base:Heap)(N:aB)(qual:Str)(st:Stmt)(f:Addr)(cdv:aa)(A:aQ)(outer:List Env)(s:ae)(H:Hp)(E:XK):Cx:=(Je CX0 P w K mg base N qual (sE st) f cdv A outer s H E).nox
theorem Pr(hg:g=fnD np n b)(hp:ps.length=np)(hN:N.length=n)(F:Fun K x qual st f fd)(S:ud N ps (sE st))(body:∀(cdv:aa) (A:aQ) (outer:List Env) (s:ae) (H:Hp) (E:XK),ug k (A.deeper (envOfC qual (sE st) s.heap.objs.size f cdv))->PSs (Bc P w K mg base N qual st f cdv A outer s H E) (tp st) (tFS G b)):
  vQ P w K mg base CX0 (k+1) f fd ps (spF G g):=by
 subst hg hp hN;exact F.ok S (Zr Sr) λcdv A outer s H vs Q E hr h=>⟨_,body cdv A outer s H E hr,So (by have:=aT bU S.pre;rw[bp]at this;omega) h⟩
theorem ZQ(hg:g=fnN np n b)(hp:ps.length=np)(hN:N.length=n)(F:Fun K x qual st f fd)(S:ud N ps (sE st))(body:∀(cdv:aa) (A:aQ) (outer:List Env) (s:ae) (H:Hp) (E:XK),ug k (A.deeper (envOfC qual (sE st) s.heap.objs.size f cdv))->PSs (Bc P w K mg base N qual st f cdv A outer s H E) (tp st) (tFS G b)):
  vQ P w K mg base CX0 (k+1) f fd ps (spN G g):=by
 subst hg hp hN;exact F.ok S (Zs Ss) λcdv A outer s H vs Q E hr h=>⟨_,body cdv A outer s H E hr,Sq (by have:=aT bU S.pre;rw[bp]at this;omega) h⟩
theorem ZR{ps:aB}(hg:g=fnM np n b)(hp:ps.length=np)(hN:N.length=n)(F:Fun K x qual st f fd)(S:ud N (p::ps) (sE st))(body:∀(cdv:aa) (A:aQ) (outer:List Env) (s:ae) (H:Hp) (E:XK),ug k (A.deeper (envOfC qual (sE st) s.heap.objs.size f cdv))->PSs (Bc P w K mg base N qual st f cdv A outer s H E) (tp st) (tFS G b)):
  vQ P w K mg base CX0 (k+1) f fd (p::ps) (spM G g):=by
 subst hg hp hN;exact F.ok S (Pb SF) λcdv A outer s H vs Q E hr h=>⟨_,body cdv A outer s H E hr,SE (by have:=aT bU S.pre;rw[bp,aE]at this;omega) h⟩
theorem UB(hg:∀ds q,g ds=some q->ds.length=np):∀vs H Q E,spI G c g vs H Q E->vs.length=np+1:=λvs H Q E h=>by obtain⟨p,dx,us,H0,ds,ns,es,rfl,_,_,_,r,e,_⟩:=h;rw[aE,<- r9 r,hg _ _ e]
theorem ZU{ps:aB}(hg:g=fnI c np n b)(hp:ps.length=np)(hN:N.length=n)(F:Fun K x qual st f fd)(S:ud N (p::ps) (sE st))(body:∀(cdv:aa) (A:aQ) (outer:List Env) (s:ae) (H:Hp) (E:XK),ug k (A.deeper (envOfC qual (sE st) s.heap.objs.size f cdv))->PSs (Bc P w K mg base N qual st f cdv A outer s H E) (tp st) (tFS G b)):
  vQ P w K mg base CX0 (k+1) f fd (p::ps) (spI G c g):=by
 subst hg hp hN;exact F.ok S (UB λds q h=>(EY h).1) λcdv A outer s H vs Q E hr h=>⟨_,body cdv A outer s H E hr,L7 (by have:=aT bU S.pre;rw[bp,aE]at this;omega) h⟩
theorem Wg{ps:aB}(hg:g=fnI c np n b)(hp:ps.length=np)(hN:N.length=n)(F:Np K x qual st f fd T)(S:ud N (p::ps) (sE st))(body:∀(cdv:aa) (A:aQ) (outer:List Env) (s:ae) (H:Hp) (E:XK),ug k (A.deeper (envOfC qual (sE st) s.heap.objs.size f cdv))->PSs (Bc P w K mg base N qual st f cdv A outer s H E) (tp st) (tFS G b)):
  vQ P w K mg base CX0 (k+1) f fd (p::ps) (spI G c g):=by
 subst hg hp hN;exact F.ok S (UB λds q h=>(EY h).1) λcdv A outer s H vs Q E hr h=>⟨_,body cdv A outer s H E hr,L7 (by have:=aT bU S.pre;rw[bp,aE]at this;omega) h⟩
end
section
variable{X:Cx}{G:Bg}
def AO(G:Bg)(mg:Str->Option aa)(x:Str)(d:D):Prop:=∃(v:V) (u:aa),mg x=some u/\RelV v u/\∀H,Rep G H d v
theorem Pt(h:AO G X.mg x d)(hg:Gl X x:=by rfl)(hd:(x==("__debug__" : Str))=false:=by decide):PE X (.Name x pos) (tF G (cC d)):=by obtain⟨v,u,h1,h2,h3⟩:=h;exact R8 (LL hg h1 h2 hd) h3
def NK:FS:=λ_=>none
def wa(T:String):Ty->Option Bool
 |.b n=>if n="NoneType" then some false else if n="bool" then some (T=="bool" ||T=="int")else if n="int" then some (T=="int")else if n="str" then some (T=="str")else if n="tuple" then some (T=="tuple")else if n="list" then some (T=="list")else if n="dict" then some (T=="dict")else none
 |.c _=>none
theorem Pu:∀k b,wa T (.c k)=some b->NF X.K (G.ca k):=λk b h=>by cases h
theorem Pw:∀y b,wa "list" y=some b->cH X.K (y.val G) (.type "list")=some b:=λy b h=>by
 cases y with
 |c k=>cases h
 |b n=>
  unfold wa at h;simp only at h
  iterate 7 (split at h;· rename_i e;subst e;cases h;first|rfl|kernel_rfl)
  cases h
theorem SO:∀y b,wa "str" y=some b->cH X.K (y.val G) (.type "str")=some b:=λy b h=>by
 cases y with
 |c k=>cases h
 |b n=>
  unfold wa at h;simp only at h
  iterate 7 (split at h;· rename_i e;subst e;cases h;first|rfl|kernel_rfl)
  cases h
end
end L4
namespace L3
open PySem PySem.Spec PyProof.Rows L2
theorem SQ{X:Cx}{spos:Pos}{cap:List Nat}
  (hc:X.calm=true) (hN:X.N.Nodup) (hy:X.N[i]?=some y) (hyl:Loc X.env.scope y) (hi:PI X tg iter wi)
  (body:∀(cl:List (Str×Addr)) (C:Addr) (fp:List Addr) (s:ae) (H:Hp),PG (uh X N' scope cl C fp s H) tg g/\PIf (uh X N' scope cl C fp s H) ifs tt/\PE (uh X N' scope cl C fp s H) elt te)
  (hkind:scope.kind=.function:=by rfl) (hcell:(scope.names.all λy=>y.2 != .cell)=true:=by rfl)
  (hloc:(scope.names.all λy=>y.2 != .local||scope.names.lookup y.1==some .local)=true:=by rfl)
  (hfree:(scope.names.all λy=>y.2 != .free||(X.env.kindOf y.1==some .cell||X.env.kindOf y.1==some .free))=true:=by rfl)
  (hlen:N'.length=k+cap.length:=by rfl) (hcap:(N'.drop k).map some=cap.map λj=>X.N[j]?:=by rfl)
  (hcf:((N'.drop k).all λx=>scope.names.lookup x==some .free)=true:=by rfl)
  (hs:∀x,foldedSetIterable iter X.env x=pure x:=by intro _;rfl)
  (hsw:swapsWith (.ListComp elt [⟨tg,iter,ifs,0⟩] scope pos) (some (.Name y py)) spos.line X.env=pure true:=by rfl)
  (hfy:X.fn y=true\/X.env.scope.names.lookup y=some .local:=by first|exact .inl rfl|exact .inr rfl|assumption):
  PS X (.Assign [.Name y py] (.ListComp elt [⟨tg,iter,ifs,0⟩] scope pos) spos) (CC (ES wi g tt te k cap) (yG i)):=by
 intro pins s σ H D I h;rw[exec_Assign_Name_used _ _ _ _ hsw];refine ao (wpAny_standAt (ao ?_));show wpAny _ X.A (do let _<-comprehension (.ListComp elt [⟨tg,iter,ifs,0⟩] scope pos) scope X.env _ (newList []) false (eval iter X.env) (some (assign (.Name y py) X.env))) _ _ s;refine ao (bV (GK (P:=λ_ s'=>SP X pins D .next s') hc hi body hkind hcell hloc hfree hlen hcap hcf hs I h λa C m u s4 H3 hn back fpC qn=>?_) (λ_ s' hq=>az (az hq)) λ_ _ e=>e);obtain⟨oC,esC,nC,gC,dC,rC⟩:=id hn;have I7:=back.pinned (fp:=[C]) (λb hb=>aP.mp hb▸fpC) (λb hb=>aP.mp hb▸⟨oC,gC,λv z=>by rw[dC]at z;cases z⟩);show wpAny _ X.A (assign (.Name y py) X.env (.ref a)) _ _ s4;refine thn (LN (pos:=py) hN hy hyl hfy _ s4 σ H3 (.ref a) (.ref a) (λσ' H'=>D.nx σ' H') I7 rfl qn) λ_ s6 ⟨σ6,H6,I8,q6⟩=>?_;obtain⟨p1,p2,_⟩:=I8.pin (C,oC) (bO _ (bO _ (xB (by simp) gC)));exact⟨m,⟨oC,esC,nC,p1,dC,rC⟩,λh' hs'=>⟨σ6,H6,I8.unpinned.turned (t':=s6.toks) (λb o hb e=>(hs'.2 b hb).trans e) p2 fpC.2.1 fpC.2.2.2.1 fpC.2.2.2.2.1 fpC.2.2.2.2.2,q6⟩⟩
end L3
namespace L4
open PySem PySem.Spec PyProof.Rows L2 L3
variable{st:Stmt}
section
variable{X:Cx}{G:Bg}
theorem JB(h:PS X st (CC te g))(w:∀σ H Q,te' σ H Q->te σ H Q):PS X st (CC te' g):=PS.weak h λE σ H hh=>w _ _ _ hh
theorem Px{cap:List Nat}(nd:cap.Nodup)(h:PS X st (CC (ES (tFI G s) (tFG G k g) (tFT G ft) (tF G fe) k cap) (yG i))):PS X st (tFS G (sM i (cL (sL k cap s g ft fe)))):=L6 (JB (JB h (L9 nd)) Zq)
end
variable{i:Nat}
section
variable{f g h:FS}{c:FT}{e e' e2:FE}{a a':FA}{ρ ρ' ρ1 ρ2 ρ3:aZ}{d x y z:D}{o:Out}{ds xs ys:aS}
theorem rT(h:f ρ=some (.nx ρ')):rV f g ρ=g ρ':=by unfold rV;rw[h]
theorem sA(h:f ρ=some (.rt d ρ')):rV f g ρ=some (.rt d ρ'):=by unfold rV;rw[h]
theorem sG(h:c ρ=some (true,ρ')):sIf c f g ρ=f ρ':=by unfold sIf;rw[h]
theorem rZ(h:c ρ=some (false,ρ')):sIf c f g ρ=g ρ':=by unfold sIf;rw[h]
theorem su(h:e ρ=some (d,ρ')):sM i e ρ=some (.nx (ρ'.set i (.im d))):=by unfold sM;rw[h]
theorem zd(h:a ρ=some (ds,ρ')):vz i a ρ=some (.nx (ρ'.set i (.ls ds))):=by unfold vz;rw[h]
theorem sy(h:e ρ=some (d,ρ')):sH e ρ=some (.rt d ρ'):=by unfold sH;rw[h]
theorem ze(h:a ρ=some (ds,ρ')):uC a ρ=some (.rn ds ρ'):=by unfold uC;rw[h]
theorem tJ(h:e ρ=some (d,ρ')):sT e ρ=some (.nx ρ'):=by unfold sT;rw[h]
theorem rY{g:D->D->Option D}(h1:e ρ=some (x,ρ1))(h2:e' ρ1=some (y,ρ2))(h3:g x y=some z):c2 g e e' ρ=some (z,ρ2):=by unfold c2;rw[h1];simp only[h2,h3]
theorem tE{g:D->Option D}(h1:e ρ=some (x,ρ1))(h3:g x=some z):c1 g e ρ=some (z,ρ1):=by unfold c1;rw[h1];simp only[h3]
theorem Py(h1:e (ρ.map Sl.bor)=some (d,ρ1))(hf:uY d=true):BW e ρ=some (d,ρ):=by unfold BW;rw[h1];simp only[hf,if_true]
theorem Il(h1:c (ρ.map Sl.bor)=some (b,ρ1)):Bb c ρ=some (b,ρ):=by unfold Bb;rw[h1]
theorem tu(h1:e ρ=some (.bl b,ρ1)):cT e ρ=some (b,ρ1):=by unfold cT;rw[h1]
theorem BX(h1:c ρ=some (b,ρ1)):wY c ρ=some (!b,ρ1):=by unfold wY;rw[h1]
theorem zf(h1:c ρ=some (false,ρ1))(h2:c' ρ1=some (b,ρ2)):wK c c' ρ=some (b,ρ2):=by unfold wK;rw[h1];exact h2
theorem rS(h1:e ρ=some (d,ρ1))(h2:a ρ1=some (ds,ρ2)):rR e a ρ=some (d::ds,ρ2):=by unfold rR;rw[h1];simp only[h2]
theorem rU{α:Type}{g:aS->Option α}{r:α}(h1:a ρ=some (ds,ρ1))(h2:g ds=some r):CM g a ρ=some (r,ρ1):=by unfold CM;rw[h1];simp only[h2]
theorem sZ(h1:a ρ=some (ds,ρ1)):cL a ρ=some (.lst ds,ρ1):=by unfold cL;rw[h1]
theorem Ac(h1:a ρ=some (ds,ρ1))(hl:ds.length<=1000):sV a ρ=some (ds,ρ1):=by unfold sV;rw[h1];simp only[hl,if_true]
theorem uF(h1:a ρ=some (ds,ρ1))(hl:ds.length<=1000):tH a ρ=some (.tup ds,ρ1):=by unfold tH;rw[h1];simp only[hl,if_true]
theorem wc(h1:e ρ=some (.lst xs,ρ1))(h2:e' ρ1=some (.lst ys,ρ2))(hl:xs.length+ys.length<=1000):uR e e' ρ=some (xs++ys,ρ2):=by unfold uR;rw[h1];simp only[h2,hl,if_true]
theorem uS{g:aS->aS->Option (D×aS)}{es es0 es':aS}(h0:uc ρ i=some es0)(h1:a ρ=some (ds,ρ1))(h2:uc ρ1 i=some es)(h3:g es ds=some (d,es')):tI g i a ρ=some (d,putAt ρ1 i es'):=by unfold tI;rw[h0];simp only[h1,h2,h3]
theorem xG(h0:uc ρ i=some es0)(h1:e ρ=some (d,ρ1))(h2:uc ρ1 i=some es)(hl:es.length<1000):yK i e ρ=some (.non,putAt ρ1 i (es++[d])):=by unfold yK;rw[h0];simp only[h1,h2,hl,if_true]
theorem tW{s:FA}{g:FG}(h1:s ρ=some (ds,ρ1)):vB s g f ρ=forL g f ds ρ1:=by unfold vB;rw[h1]
theorem zg{k:Nat}{cap:List Nat}{s:FA}{g:FG}{ft:FT}{fe:FE}(h1:s ρ=some (ds,ρ1))(hl:ds.length<=1000):sL k cap s g ft fe ρ=v9 k cap g ft fe ds ρ1:=by unfold sL;rw[h1];simp only[hl,if_true]
theorem Wh(hl:ds.length=np)(h:b (L4.stM n es ds)=some (.rt d ρ))(h0:Dw ρ=some es'):fnM np n b es ds=some (d,es'):=by unfold fnM;rw[ai hl,h];simp only[h0]
theorem Wi(hl:ds.length=np)(h:b (L4.stM n es ds)=some (.rn xs ρ))(h0:Dw ρ=some es'):fnM np n b es ds=some (.lst xs,es'):=by unfold fnM;rw[ai hl,h];simp only[h0]
theorem zh(hl:ds.length=np)(h:b (L4.stE n ds)=some (.rn xs ρ)):fnN np n b ds=some xs:=by unfold fnN;rw[ai hl,h]
theorem sj(hl:ds.length=np)(h:b (L4.stE n ds)=some (.rt d ρ)):fnD np n b ds=some d:=by unfold fnD;rw[ai hl,h]
end
theorem xt(h:Bt a=true\/Bt b=true):Ba (.int a) (.int b)=some (.int (a * b)):=by unfold Ba dI;simp only;rw[ai (by simpa using h)]
theorem w5(h:0<b):xF (.int a) (.int b)=some (.int (a % b)):=by unfold xF dI;simp only;rw[ai (by simpa using h)]
theorem div_pos(h:0<b)(h':b<1073741824):E4 (.int a) (.int b)=some (.int (a / b)):=by unfold E4 dI;simp only;rw[ai (by simp[h,h'])]
theorem JC(h:0<=a)(h':a<2147483647):Bt a=true:=by unfold Bt;simp only[bh,bA];omega
def Ad:D->Option Key
 |.int i=>some (.inl i)
 |.str x=>some (.inr x)
 |_=>none
def uo:List Key->aS->Key->Option D
 |k::ks,d::ds,j=>if k=j then some d else uo ks ds j
 |_,_,_=>none
def SR(ks:List Key)(ds:aS)(k:Key)(d:D):aS:=c4 (λk' d'=>if k'=k then d else d') ks ds
def E8(ks:List Key)(k:Key):Bool:=ks.any λk'=>decide (k'=k)
section
variable{X:Cx}{G:Bg}{H:Hp}
theorem zi(h:Rep G H d v)(e:Ad d=some k):v=kV k:=by
 cases d<;>first|cases e|skip
 all_goals (unfold Rep at h;exact h)
theorem Ae:∀{ks:List Key} {ds:aS} {xs:bC} (j:Key),r6 G H ds xs->ks.length=xs.length->match uo ks ds j with
  |some d=>∃v,vR (ks.zip xs) j=some v/\Rep G H d v
  |none=>vR (ks.zip xs) j=none
 |[],ds,xs,j,r,l=>by cases ds<;>rfl
 |k::ks,ds,[],j,r,l=>by cases l
 |k::ks,[],x::xs,j,r,l=>by unfold r6 at r;cases r
 |k::ks,d::ds,x::xs,j,r,l=>by
  unfold r6 at r;obtain⟨v,q,e,h1,h2⟩:=r;cases e;unfold uo;by_cases hk:k=j
  ·rw[ai hk];exact⟨x,BO (p:=(k,x)) hk,h1⟩
  ·rw[aj hk];have ih:=Ae (ks:=ks) (ds:=ds) (xs:=xs) j h2 (by simpa using l);have e1:vR ((k::ks).zip (x::xs)) j=vR (ks.zip xs) j:=BP (p:=(k,x)) hk;rw[e1];exact ih
theorem Im:∀{ks:List Key} {xs:bC},ks.length=xs.length->((ks.zip xs).any λkv=>decide (kv.1=k))=E8 ks k
 |[],xs,_=>by cases xs<;>rfl
 |k'::ks,[],l=>by cases l
 |k'::ks,x::xs,l=>by unfold E8;rw[df,dQ,dQ,Im (by simpa using l)];rfl
theorem Mg:∀{ks:List Key} {xs:bC},ks.length=xs.length->(ks.zip xs).map (λkv=>if kv.1=k then (kv.1,v)else kv)=ks.zip (c4 (λk' x=>if k'=k then v else x) ks xs)
 |[],xs,_=>by cases xs<;>rfl
 |k'::ks,[],l=>by cases l
 |k'::ks,x::xs,l=>by
  rw[df,au,Mg (by simpa using l),eB,df];congr 1;by_cases hk:k'=k
  ·rw[ai hk,ai hk]
  ·rw[aj hk,aj hk]
theorem JD(hd:Rep G H d v):∀{ks:List Key} {ds:aS} {xs:bC},r6 G H ds xs->ks.length=xs.length->r6 G H (SR ks ds k d) (c4 (λk' x=>if k'=k then v else x) ks xs)
 |[],ds,xs,r,l=>by unfold SR;cases ds<;>cases xs<;>exact sR
 |k'::ks,ds,[],r,l=>by cases l
 |k'::ks,[],x::xs,r,l=>by unfold r6 at r;cases r
 |k'::ks,d'::ds,x::xs,r,l=>by
  unfold r6 at r;obtain⟨w,q,e,h1,h2⟩:=r;cases e;unfold SR;rw[eB,eB];refine sP ?_ (JD hd h2 (by simpa using l));by_cases hk:k'=k
  ·rw[ai hk,ai hk];exact hd
  ·rw[aj hk,aj hk];exact h1
theorem _root_.L2.DGet.kf(e:H a=some (.frz o (.dK kvs))):DGet H a (kV k) (vR kvs k):=.inl ⟨kvs,k,.inr ⟨o,e⟩,rfl,rfl⟩
def uK:D->D->Option D:=λx y=>match x,Ad y with
 |.dic ks ds,some k=>uo ks ds k
 |_,_=>none
theorem SU(hu:X.A.units+1<cLine)(ha:PE X a (tF G f))(hb:PE X b (tF G f'))(hs:Vu b:=by exact λ_ _=>rfl):PE X (.Subscript a b pos) (tF G (c2 uK f f')):=PE.weak (RR hu ha hb hs) λσ H Q hh=>by
 obtain⟨F,ρ,H0,d,ρ',R,e,k⟩:=hh;obtain⟨x,y,ρ1,e1,e2,e3⟩:=BR e;refine⟨F,ρ,H0,x,ρ1,R,e1,λv H1 H1' s1 R1 r1=>⟨F,ρ1,H1,y,ρ',R1,e2,λu H2 H2' s2 R2 r2=>?_⟩⟩;have r1':=Rep.mono s2 _ _ r1;cases x with
 |dic ks ds=>
  unfold uK at e3;cases ek:Ad y with
  |none=>simp only[ek]at e3;cases e3
  |some j=>simp only[ek]at e3;unfold Rep at r1';obtain⟨p,ob,xs,rfl,h1,h2,h3⟩:=r1';have lv:=Ae (ks:=ks) j h3 h2;rw[e3]at lv;obtain⟨w,w1,w2⟩:=lv;refine⟨p,w,rfl,?_,k w H2 H2' (s1.trans s2) R2 w2⟩;rw[zi r2 ek,<- w1];exact DGet.kf (R2.sub _ _ h1)
 |_=>unfold uK at e3;cases e3
def GY:D->D->Option D:=λx y=>match x,Ad y with
 |.dic ks ds,some k=>some ((uo ks ds k).getD .non)
 |_,_=>none
theorem Pz(hu:X.A.units+1<cLine)(ha:PE X a (tF G f))(hb:PE X b (tF G f'))(m:M1 X a "get" apos b cpos):PE X (.Call (.Attribute a "get" apos) [b] [] cpos) (tF G (c2 GY f f')):=PE.weak (OP hu ha hb m) λσ H Q hh=>by
 obtain⟨F,ρ,H0,d,ρ',R,e,k⟩:=hh;obtain⟨x,y,ρ1,e1,e2,e3⟩:=BR e;cases x with
 |dic ks ds=>
  refine⟨F,ρ,H0,_,ρ1,R,e1,λv H1 H1' s1 R1 r1=>?_⟩;have r1':=r1;unfold Rep at r1';obtain⟨p,ob,xs,rfl,h1,h2,h3⟩:=r1';refine⟨p,rfl,.inl ⟨_,.inr ⟨_,R1.sub _ _ h1⟩⟩,F,ρ1,H1,y,ρ',R1,e2,λu H2 H2' s2 R2 r2=>?_⟩;unfold GY at e3;cases ek:Ad y with
  |none=>simp only[ek]at e3;cases e3
  |some j=>
   simp only[ek]at e3;cases e3;have lv:=Ae (ks:=ks) j (r6.mono s2 _ _ h3) h2;refine⟨vR (ks.zip xs) j,?_,?_⟩
   ·rw[zi r2 ek];exact DGet.kf (R2.sub _ _ (s2 _ _ h1))
   ·cases el:uo ks ds j with
    |none=>rw[el]at lv k;rw[lv];exact k _ H2 H2' (s1.trans s2) R2 BQ
    |some z=>rw[el]at lv k;obtain⟨w,w1,w2⟩:=lv;rw[w1];exact k _ H2 H2' (s1.trans s2) R2 w2
 |_=>unfold GY at e3;cases e3
def BY(i:Nat):FS:=λρ=>some (.nx (ρ.set i (.dk [] [])))
theorem PB(h:PS X st (CC KP (yG i))):PS X st (tFS G (BY i)):=PS.weak h λE σ H hh=>by obtain⟨F,ρ,H0,o,R,e,k,k2⟩:=hh;cases e;intro p hp;have R1:=R.newOwn hp (.dK []);refine k _ _ _ (sq.refl _) (R1.set (s:=.dk [] []) ⟨p,[],rfl,se,R.h0none hp,R.bNone hp,rfl,sR⟩ λ_ a ea j t _ ej to=>?_);cases ea;exact R.apart hp j t ej to
def tN(i:Nat)(fk fv:FE):FS:=λρ=>match fv ρ with
 |some (d,ρ1)=>match ρ1[i]? with
  |some (.dk _ _)=>match fk ρ1 with
   |some (y,ρ2)=>match Ad y with
    |some k=>match ρ2[i]? with
     |some (.dk ks ds)=>if ks.length<1000 then if ds.length=ks.length then some (.nx (ρ2.set i (if E8 ks k=true then .dk ks (SR ks ds k d)else .dk (ks++[k]) (ds++[d]))))else none else none
     |_=>none
    |none=>none
   |none=>none
  |_=>none
 |none=>none
theorem PD(h:PS X st (Uv (yp i) (tF G fk) (tF G fv))):PS X st (tFS G (tN i fk fv)):=PS.weak h λE σ H hh=>by
 obtain⟨F,ρ,H0,o,R,e,k,k2⟩:=hh;unfold tN at e;rcases sO (f:=fv) (ρ:=ρ)with e1|⟨d,ρ1,e1⟩<;>simp only[e1]at e
 ·cases e
 split at e
 ·rename_i ks0 ds0 ei;rcases sO (f:=fk) (ρ:=ρ1)with e2|⟨y,ρ2,e2⟩<;>simp only[e2]at e
  ·cases e
  cases ek:Ad y with
  |none=>simp only[ek]at e;cases e
  |some j=>
   simp only[ek]at e;split at e
   ·rename_i ks ds ei2;split at e
    ·rename_i hl;split at e
     ·rename_i hl2;cases e;refine⟨F,ρ,H0,d,ρ1,R,e1,λv H1 H1' s1 R1 r1=>?_⟩;obtain⟨a0,xs0,a1,_⟩:=R1.sl i _ ei;refine⟨_,uW a1,F,ρ1,H1,y,ρ2,R1,e2,λu H2 H2' s2 R2 r2=>?_⟩;obtain⟨a,xs,b1,b2,b3,b4,b5,b6⟩:=R2.sl i _ ei2;rw[a1]at b1;cases b1;refine⟨a0,upd H2' a0 (.dK (putK (ks.zip xs) j v)),rfl,?_,?_⟩
      ·rw[zi r2 ek];exact OL.k b2 (by rw[eL];exact kz (Nat.min_le_left _ _) (AN (by omega)))
      ·have rv:=Rep.mono s2 _ _ r1;refine k _ _ _ (s1.trans s2) (R2.mut ei2 rfl a1 (λH' hH=>?_) ?_)
       ·by_cases hk:E8 ks j=true
        ·rw[ai hk];refine⟨a0,c4 (λk' x=>if k'=j then v else x) ks xs,rfl,?_,b3,b4,by rw[km,b5,dR],JD rv b6 b5⟩;rw[hH];unfold putK;rw[Im b5,ai hk,Mg b5]
        ·rw[aj hk];refine⟨a0,xs++[v],rfl,?_,b3,b4,by rw[aA,aA,b5];rfl,uI b6 (sP rv sR)⟩;rw[hH];unfold putK;rw[Im b5,aj hk,pe b5];rfl
       ·split<;>rfl
     ·cases e
    ·cases e
   ·cases e
 ·cases e
def Ej:D->Option D
 |.lst ds=>(Gi ds).map λbs=>.bl (bs.any id)
 |_=>none
theorem NL(hc:X.calm=true)(hK:X.K=G.K:=by rfl):uf X (.builtin "any") (λxs H Q=>∃(p:Addr) (bs:List Bool),xs=[.ref p]/\SqL G.K H p (bs.map V.bl)/\Q (.bl (bs.any id)) H):=by
 rw[<-hK];intro pins s σ H xs us Q I r h;obtain⟨p,bs,rfl,hq,q⟩:=h;obtain⟨u,rfl,ru⟩:=vals1 r;cases ru;obtain⟨its,rv,pl,hz⟩:=I.list hq;have hlt:p<s.heap.objs.size:=by obtain⟨o,ho,_⟩:=pl.isList;exact aM ho
 have hl:bs.length=its.length:=by have:=rv.length;rw[ag]at this;exact this
 refine call_any_walk (gE pl.isList ⟨s.heap.objs.size,_,_,_,_,_,λi=>(bs[i]?).getD false,rfl,jm (show X.A.in1.handled=none from I.ok.hd hc) _ p (aY hlt) its.toArray,⟨⟨_,bz _ rfl,rfl,rfl⟩,?_⟩,?_,λh' tk hk=>?_⟩)
 ·exact pl.isList.at λo e=>aJ _ e
 ·intro i v s' Q' E' hv hQ';have hv':its[i]?=some v:=by simpa using hv
  have hi:i<its.length:=(bS.mp hv').1;have hb:(bs.map V.bl)[i]?=some (.bl (bs[i]'(by omega))):=by simp[show i<bs.length by omega]
  obtain⟨u,hu,ru⟩:=rv.get hb;rw[hv']at hu;cases hu;cases ru;refine cN ?_;have e:(bs[i]?).getD false=bs[i]'(by omega):=by simp[show i<bs.length by omega]
  rw[<-e];exact hQ'
 ·refine⟨.bl (bs.any id),H,?_,?_,q⟩
  ·exact I.kept (t':=tk) λb o e=>hk b o (by simp;exact aY (aM e)) (aJ _ e)
  ·show Value.bool _=Value.bool _;congr 1;rw[bg,<- hl];rw[cB];simp only[fD,cu,id];constructor
   ·rintro⟨i,hi,h⟩;exact⟨bs[i],dg hi,by simpa [hi]using h⟩
   ·rintro⟨b,hb,h⟩;obtain⟨i,hi,rfl⟩:=kg.mp hb;exact⟨i,hi,by simpa [hi]using h⟩
theorem Wj:GV G (λxs H Q=>∃(p:Addr) (bs:List Bool),xs=[.ref p]/\SqL G.K H p (bs.map V.bl)/\Q (.bl (bs.any id)) H) Ej:=λx z H0 H v Q e s rx k=>by
 cases x with
 |lst ds=>
  unfold Ej at e;simp only at e;cases e1:Gi ds with
  |none=>rw[e1]at e;cases e
  |some bs=>rw[e1]at e;cases e;unfold Rep at rx;obtain⟨a,xs,rfl,h1,h2⟩:=rx;rw[E6 h2 e1]at h1;exact⟨a,bs,rfl,s.seq (SqL.of h1),k _ λ_ _=>uQ _⟩
 |_=>cases e
def iS(f:FE):FA:=λρ=>match f ρ with
 |some (.str x,ρ')=>some (x.cps.toList.map λc=>D.str ⟨#[c]⟩,ρ')
 |_=>none
theorem SV(h:PI X tg e (Zj (tF G f))):PI X tg e (tFI G (iS f)):=PI.weak h λσ H R hh=>by
 obtain⟨F,ρ,H0,ds,ρ',R,e,k⟩:=hh;unfold iS at e;split at e
 ·rename_i x ρ1 e1;cases e;refine⟨F,ρ,H0,_,_,R,e1,λv H1 H1' s R' r=>?_⟩;unfold Rep at r;refine⟨x,r,k _ _ _ s R' λi H2 H2' t t'=>⟨λd ed=>?_,λhl=>?_⟩⟩
  ·rw[bt]at ed;cases ec:x.cps.toList[i]? with
   |none=>rw[ec]at ed;cases ed
   |some c=>
    rw[ec]at ed;cases ed;have ec':x.cps[i]?=some c:=by simpa using ec
    refine⟨(Array.getElem?_eq_some_iff.mp ec').1,λz H3 y=>?_⟩;obtain⟨e3,c',hc',rfl⟩:=y;rw[ec']at hc';cases hc';subst e3;exact⟨H2,sq.refl _,t',sq.refl _,λb o e=>.inl e,y9 _⟩
  ·show i=x.cps.size;rw[hl,ag];simp
 ·cases e
def DA(f g:FE):FE:=λρ=>match f ρ with
 |some (.tup (x::xs),ρ1)=>match g ρ1 with
  |some (.tup ys,ρ2)=>if xs.length+ys.length<=900 then some (.tup (x::xs++ys),ρ2)else none
  |_=>none
 |_=>none
theorem SW(ha:PE X a (tF G f))(hb:PE X b (tF G g))(hK:X.K=G.K:=by rfl):PE X (.BinOp a .Add b pos) (tF G (DA f g)):=PE.weak (Ow RK ha hb) λσ H Q hh=>by
 rw[hK];obtain⟨F,ρ,H0,d,ρ',R,e,k⟩:=hh;unfold DA at e;split at e
 ·rename_i x xs ρ1 e1;split at e
  ·rename_i ys ρ2 e2;split at e
   ·rename_i hl;cases e;refine⟨F,ρ,H0,_,ρ1,R,e1,λv H1 H1' s R' r=>⟨F,ρ1,H1,_,_,R',e2,λu H2 H2' s2 R2 r2=>?_⟩⟩;have r':=Rep.mono s2 _ _ r;have r0:=r';unfold Rep at r' r2;obtain⟨a1,xs1,rfl,h1,h2⟩:=r';obtain⟨a2,xs2,rfl,h3,h4⟩:=r2;have l1:=r9 h2;have l2:=r9 h4;rw[aE]at l1;refine⟨a1,a2,xs1,xs2,rfl,rfl,SqT.mono R2.sub h1,SqT.mono R2.sub h3,(λz=>by rw[z]at l1;cases l1),by rw[<-l1,<- l2];exact xE (by omega),λz=>?_,λ_ p hp=>?_⟩
    ·have ey:ys=[]:=by rw[z]at l2;exact nN.mp l2
     subst ey;rw[bq]at k;exact k _ _ _ (s.trans s2) R2 r0
    ·exact k _ _ _ ((s.trans s2).trans (sv (R2.h0none hp) _)) (R2.newIm hp _) (y8 (SqT.of se) (r6.mono (sv (R2.h0none hp) _) _ _ (uI h2 h4)))
   ·cases e
  ·cases e
 ·cases e
end
section
variable{X:Cx}{G:Bg}
abbrev FO:=aZ->Option (Option Int×aZ)
def tFO(G:Bg)(f:FO):TO:=λσ H Q=>∃F ρ H0 d ρ',sC G F σ ρ H0 H/\f ρ=some (d,ρ')/\∀H0' H',sq H0 H0'->sC G F σ ρ' H0' H'->Q d H'
def oNo:FO:=λρ=>some (none,ρ)
def oAt(f:FE):FO:=λρ=>match f ρ with
 |some (.int i,ρ')=>some (some i,ρ')
 |_=>none
theorem PO.weak(h:PO X e t)(w:∀σ H Q,t' σ H Q->t σ H Q):PO X e t':=λpins s σ H Q I hq=>h pins s σ H Q I (w _ _ _ hq)
theorem Wk:PO X none (tFO G oNo):=PO.weak LU λσ H Q hh=>by obtain⟨F,ρ,H0,d,ρ',R,e,k⟩:=hh;cases e;exact k _ _ (sq.refl _) R
theorem Wl(h:PE X e (tF G f)):PO X (some e) (tFO G (oAt f)):=PO.weak (LV h) λσ H Q hh=>by
 obtain⟨F,ρ,H0,d,ρ',R,e,k⟩:=hh;unfold oAt at e;split at e
 ·rename_i i ρ1 e1;cases e;refine⟨F,ρ,H0,_,_,R,e1,λv H1 H1' s R' r=>?_⟩;unfold Rep at r;exact⟨i,r,k _ _ s R'⟩
 ·cases e
def xY(f:FE)(lo hi:FO):FA:=λρ=>match f ρ with
 |some (d,ρ1)=>match d with
  |.lst ds=>match lo ρ1 with
   |some (l,ρ2)=>match hi ρ2 with
    |some (h,ρ3)=>some (cutD ds l h,ρ3)
    |none=>none
   |none=>none
  |.fzl ds=>match lo ρ1 with
   |some (l,ρ2)=>match hi ρ2 with
    |some (h,ρ3)=>some (cutD ds l h,ρ3)
    |none=>none
   |none=>none
  |_=>none
 |none=>none
theorem K2{lo:FO}(h:PE X e (tSl (Nf G.K) (tF G f) (tFO G lo) (tFO G hi))):PE X e (tFN G (xY f lo hi)):=PE.weak h λσ H Q hh=>by
 obtain⟨F,ρ,H0,ds,ρ',R,e,k⟩:=hh;unfold xY at e;rcases sO (f:=f) (ρ:=ρ)with e1|⟨d,ρ1,e1⟩<;>simp only[e1]at e
 ·cases e
 have gen:∀(xs:aS),(∀{H1:Hp} {v:V},Rep G H1 d v->∃a ys,v=.ref a/\SqL G.K H1 a ys/\r6 G H1 xs ys)->(match lo ρ1 with
   |some (l,ρ2)=>match hi ρ2 with
    |some (h,ρ3)=>some (cutD xs l h,ρ3)
    |none=>none
   |none=>none)=some (ds,ρ')->tSl (Nf G.K) (tF G f) (tFO G lo) (tFO G hi) σ H Q:=λxs rd e=>by
  rcases sO (f:=lo) (ρ:=ρ1)with e2|⟨l,ρ2,e2⟩<;>simp only[e2]at e
  ·cases e
  rcases sO (f:=hi) (ρ:=ρ2)with e3|⟨u,ρ3,e3⟩<;>simp only[e3]at e
  ·cases e
  cases e;refine⟨F,ρ,H0,d,ρ1,R,e1,λv H1 H1' s1 R1 r1=>⟨F,ρ1,H1,l,ρ2,R1,e2,λH2 H2' s2 R2=>⟨F,ρ2,H2,u,_,R2,e3,λH3 H3' s3 R3=>?_⟩⟩⟩;obtain⟨a,ys,rfl,q1,q2⟩:=rd (Rep.mono (s2.trans s3) _ _ r1);exact⟨a,ys,rfl,R3.sub.seq q1,λp hp=>k p _ _ _ (s1.trans (s2.trans s3)) (R3.newOwn hp _) se (R3.h0none hp) (R3.bNone hp) (R3.apart hp) (E7 q2)⟩
 cases d with
 |lst xs=>exact gen xs (λr=>by unfold Rep at r;obtain⟨a,ys,rfl,q1,q2⟩:=r;exact⟨a,ys,rfl,SqL.of q1,q2⟩) e
 |fzl xs=>exact gen xs (λr=>by unfold Rep at r;exact r) e
 |_=>cases e
def JE:D->D->Option D
 |.str x,.int n=>if 0<=n/\n<=1000/\x.length<=100 then some (.str (hG x n))else none
 |_,_=>none
def JF(neg:Bool):D->D->Option D:=λy x=>match x,Ad y with
 |.dic ks ds,some k=>some (.bl (if neg then !(uo ks ds k).isSome else (uo ks ds k).isSome))
 |_,_=>none
theorem PF:∀σ H Q,tF G (c2 (JF false) f f') σ H Q->Zi (tF G f) (tF G f') σ H Q:=λσ H Q hh=>by
 obtain⟨F,ρ,H0,d,ρ',R,e,k⟩:=hh;obtain⟨y,x,ρ1,e1,e2,e3⟩:=BR e;refine⟨F,ρ,H0,y,ρ1,R,e1,λu H1 H1' s1 R1 r1=>⟨F,ρ1,H1,x,ρ',R1,e2,λv H2 H2' s2 R2 r2=>?_⟩⟩;cases x with
 |dic ks ds=>
  unfold JF at e3;cases ek:Ad y with
  |none=>simp only[ek]at e3;cases e3
  |some j=>
   simp only[ek]at e3;cases e3;unfold Rep at r2;obtain⟨p,ob,xs,rfl,h1,h2,h3⟩:=r2;have lv:=Ae (ks:=ks) j h3 h2;refine⟨p,vR (ks.zip xs) j,rfl,?_,?_⟩
   ·rw[zi r1 ek];exact DGet.kf (R2.sub _ _ h1)
   ·cases el:uo ks ds j with
    |none=>rw[el]at lv k;rw[lv];exact k _ _ _ (s1.trans s2) R2 (uQ _)
    |some z=>rw[el]at lv k;obtain⟨w,w1,_⟩:=lv;rw[w1];exact k _ _ _ (s1.trans s2) R2 (uQ _)
 |_=>unfold JF at e3;cases e3
theorem Wm(hu:X.A.units+1<cLine)(ha:PE X a (tF G f))(hb:PE X b (tF G f'))(h1:behindInMarks .In b=false:=by rfl):PE X (.Compare a [.In] [b] pos) (tF G (c2 (JF false) f f')):=PE.weak (UV (OM hu ha hb) h1) PF
end
section
variable{X:Cx}{G:Bg}
def E9:FE:=λ_=>none
theorem PH:PE X e (tF G E9):=λpins s σ H Q I h=>by obtain⟨F,ρ,H0,d,ρ',R,e,_⟩:=h;cases e
def GZ(f f' f2:FE):FE:=λρ=>match f ρ with
 |some (.dic ks ds,ρ1)=>match f' ρ1 with
  |some (y,ρ2)=>match f2 ρ2 with
   |some (x,ρ3)=>match Ad y with
    |some k=>some ((uo ks ds k).getD x,ρ3)
    |none=>none
   |none=>none
  |none=>none
 |_=>none
theorem PJ(hu:X.A.units+1<cLine)(ha:PE X a (tF G f))(hb:PE X b (tF G f'))(hc:PE X c (tF G f2))(m:M2 X a "get" apos b c cpos):PE X (.Call (.Attribute a "get" apos) [b,c] [] cpos) (tF G (GZ f f' f2)):=PE.weak (OQ hu ha hb hc m) λσ H Q hh=>by
 obtain⟨F,ρ,H0,d,ρ',R,e,k⟩:=hh;unfold GZ at e;split at e
 ·rename_i ks ds ρ1 e1;rcases sO (f:=f') (ρ:=ρ1)with e2|⟨y,ρ2,e2⟩<;>simp only[e2]at e
  ·cases e
  rcases sO (f:=f2) (ρ:=ρ2)with e3|⟨x,ρ3,e3⟩<;>simp only[e3]at e
  ·cases e
  cases ek:Ad y with
  |none=>simp only[ek]at e;cases e
  |some j=>
   simp only[ek]at e;cases e;refine⟨F,ρ,H0,_,ρ1,R,e1,λv H1 H1' s1 R1 r1=>?_⟩;unfold Rep at r1;obtain⟨p,ob,xs,rfl,h1,h2,h3⟩:=r1;refine⟨p,rfl,.inl ⟨_,.inr ⟨_,R1.sub _ _ h1⟩⟩,F,ρ1,H1,y,ρ2,R1,e2,λu H2 H2' s2 R2 r2=>⟨F,ρ2,H2,x,_,R2,e3,λz H3 H3' s3 R3 r3=>?_⟩⟩;have lv:=Ae (ks:=ks) j (r6.mono (s2.trans s3) _ _ h3) h2;refine⟨vR (ks.zip xs) j,?_,?_⟩
   ·rw[zi r2 ek];exact DGet.kf (R3.sub _ _ (s3 _ _ (s2 _ _ h1)))
   ·cases el:uo ks ds j with
    |none=>rw[el]at lv k;rw[lv];exact k _ H3 H3' (s1.trans (s2.trans s3)) R3 r3
    |some w=>rw[el]at lv k;obtain⟨w',w1,w2⟩:=lv;rw[w1];exact k _ H3 H3' (s1.trans (s2.trans s3)) R3 w2
 ·cases e
def K4(G:Bg)(c:Nat)(t:Ty->Option Bool):Prop:=(∀y b,t y=some b->cH G.K (y.val G) (.ref (G.ca c))=some b)/\∀j b,t (.c j)=some b->NF G.K (G.ca j)
theorem K5(h:K4 G c t)(hK:X.K=G.K:=by rfl):uf X (.builtin "isinstance") (λxs H Q=>∃d x b,xs=[x,(Ty.c c).v G]/\Rep G H d x/\t (tyD d)=some b/\Q (.bl b) H):=
 GW (X:=X) (.c c) (by rw[hK];exact h.1) (by rw[hK];exact h.2) hK
end
def ddp(acc:List Key)(k:Key):List Key:=if acc.any (λz=>decide (z=k))then acc else acc++[k]
def xZ(ks:List Key):List Key:=ks.foldl ddp []
theorem SX(acc:List Key)(k j:Key):(ddp acc k).any (λz=>decide (z=j))=(acc.any (λz=>decide (z=j))||decide (j=k)):=by
 unfold ddp;by_cases h:acc.any (λz=>decide (z=k))=true
 ·rw[ai h];by_cases e:j=k
  ·subst e;rw[h];simp
  ·simp[e]
 ·rw[aj h,List.any_append];by_cases e:j=k
  ·subst e;simp
  ·have hb:¬k=j:=λz=>e z.symm;simp[hb,e]
theorem Mh(acc:List Key)(k:Key):(ddp acc k).length=if acc.any (λz=>decide (z=k))=true then acc.length else acc.length+1:=by unfold ddp;split<;>simp
theorem G0(ks:List Key)(i:Nat)(h:i<ks.length):xZ (ks.take (i+1))=ddp (xZ (ks.take i)) ks[i]:=by unfold xZ;rw[List.take_add_one,aN h,List.foldl_append];rfl
theorem PK(ks:List Key):(xZ ks).length<=ks.length:=by
 have gen:∀(l:List Key) (acc:List Key),(l.foldl ddp acc).length<=acc.length+l.length:=by
  intro l
  induction l with
  |nil=>intro acc;simp
  |cons k l ih=>
   intro acc;rw[pf,aE];have h1:=ih (ddp acc k);have h2:(ddp acc k).length<=acc.length+1:=by rw[Mh];split<;>omega
   omega
 have:=gen ks [];simpa [xZ]using this
theorem set_same{h:Heap}(hS:h.SetOf (sI prog w) a S n)(e:∀k,S k=S' k)(en:n=n'):h.SetOf (sI prog w) a S' n':=by obtain rfl:S=S':=funext e;subst en;exact hS
section
variable{prog:aU}{w:aI}{A:aQ}{R:fN->ae->Prop}{I:Addr}{fp wr:List Addr}{GG:Array gY->Array gY->Prop}{n:Nat}{PP:Nat->aa->Prop}{SS:Nat->ae->Prop}
theorem PL(W:WalksS prog w A.in1 I fp wr GG n PP SS)(S:Addr)(hSf:S∉fp)(ks:List Key)(hn:ks.length=n)
  (hval:∀i v (h:i<ks.length),PP i v->(sI prog w).is ks[i] v=true/\v.scannable=true) (hb:n+1<scanBound):∀(k i:Nat) (s:ae),n - i=k->i<=n->SS i s->
   s.heap.SetOf (sI prog w) S (λj=>(xZ (ks.take i)).any (λz=>decide (z=j))) (xZ (ks.take i)).length->
   (∀s',Moved (S::wr) GG s s'->s'.heap.SetOf (sI prog w) S (λj=>(xZ ks).any (λz=>decide (z=j))) (xZ ks).length->R (.ok (.ret .none)) s')->
   codeAny (model prog w) A (.builtin "set.update.loop" ⟨[.ref S,.ref I],[]⟩) R s:=by
 have hSw:S∉wr:=λz=>hSf (W.sub _ z);have up:∀b∈wr,b∈S::wr:=λb z=>bf _ z;intro k
 induction k with
 |zero=>
  intro i s hk hi hst hS hR;obtain rfl:i=n:=by omega
  refine di gq ?_;rw[dF dE _];show wpAny _ A.in1 (pyNext (.ref I)>>=_) _ _ s;refine ao (W.done s _ _ hst λs' hm=>?_);show wpAny _ A.in1 (ret Value.none) _ _ s';rw[nQ (by omega)]at hS;refine az (hR s' (hm.mono up) ?_);obtain⟨o,es,ep,t,ho,more⟩:=hS;exact⟨o,es,ep,t,hm.heap S _ hSw ho,more⟩
 |succ k ih=>
  intro i s hk hi hst hS hR;have hlt:i<n:=by omega
  have hlk:i<ks.length:=by omega
  refine di gq ?_;rw[dF dE _];show wpAny _ A.in1 (pyNext (.ref I)>>=_) _ _ s;refine ao (W.item i s _ _ hlt hst λv s' hP hst' hm=>?_);obtain⟨kv,sc⟩:=hval i v hlk hP;have hS':s'.heap.SetOf (sI prog w) S (λj=>(xZ (ks.take i)).any (λz=>decide (z=j))) (xZ (ks.take i)).length:=by obtain⟨o,es,ep,t,ho,more⟩:=hS;exact⟨o,es,ep,t,hm.heap S _ hSw ho,more⟩
  show wpAny _ A.in1 (holding [v] (setAdd S v)>>=_) _ _ s';refine ao (cD ?_);unfold setAdd;refine cD ?_;refine ao ((sI prog w).pyHash (k:=ks[i]) kv ?_);have room:(xZ (ks.take i)).length+1<scanBound:=by have:=PK (ks.take i);rw[bp]at this;omega
  refine wpAny_setAddHashed_of (knd:=sI prog w) (s:={ s' with toks:=s'.toks+1 }) kv sc hS' room λh' hsb hS2=>?_;have hSi:h'.SetOf (sI prog w) S (λj=>(xZ (ks.take (i+1))).any (λz=>decide (z=j))) (xZ (ks.take (i+1))).length:=
   set_same hS2 (λj=>by rw[G0 ks i hlk,SX]) (by rw[G0 ks i hlk,Mh])
  refine az ⟨fF dE _,ih (i+1) _ (by omega) hlt (W.frame _ s' _ _ hst' (eP _) λb z o e=>?_) hSi λs'' hm'' hS''=>?_⟩
  ·rw[hsb.2 b (λy:b=S=>hSf (by rw[<-y];exact z))];exact e
  ·refine hR s'' (lC W.gtrans ((hm.mono up).then_heap (eP _) λb o z e=>?_) hm'') hS'';rw[hsb.2 b (λy:b=S=>z (by rw[y];exact aV))];exact e
end
theorem SY(l:Addr)(us:Array aa)(m:Nat)(b:Addr)(o:Obj)(ws:Array aa)(m2:Nat)(hc:o.cls=.type "tuple")(hd:o.data=.seq ws m2)(z0:¬(!us.isEmpty&&gn (us.size+ws.size))=true)(z1:us.size<=sizeLine)(z2:us.size+ws.size<=sizeLine+1):
  Meets (dW.«list.extend» ⟨[.ref l,.ref b],[]⟩) (λ_ R s=>s.heap.get? l=some { cls:=.type "list", data:=.seq us m }/\s.heap.get? b=some o/\R (.ok (.ret Value.none)) { s with heap:=s.heap.update l (cQ λx=>x++ws),toks:=s.toks }):=by
 obtain⟨c,dd,data,sl⟩:=o;cases hc;cases hd;refine .of_wp λprog w A R s h=>?_;obtain⟨hp,g,d,tk,os⟩:=s;obtain⟨hl,hb,h⟩:=h;have f2:=nI;have f3:=AutoSeq1.sub_list_list;have f4:=AutoSeq1.sub_tuple_list;have f5:=AutoSeq1.sub_list_tuple;have z3:(us++ws).size<=sizeLine+1:=Array.size_append (xs:=us) (ys:=ws)▸z2
 wp_walk using (kH hl rfl (hz:=z1) (_hz':=z3)),nJ hl,nJ hb
 exact⟨_,rfl,h⟩
section
variable{X:Cx}{G:Bg}
def JG(K:ar):V->bC->Hp->VK->Prop:=λx vs H Q=>∃l b xs zs,x=.ref l/\vs=[.ref b]/\H l=some (.lst xs)/\SqT K H b zs/\xs.length+zs.length<=sizeLine/\Q .non (upd H l (.lst (xs++zs)))
theorem K6:MtM X "list.extend" (JG X.K):=by
 intro pins s σ H x vs v us Q I rx rv h;obtain⟨l,b,xs,zs,rfl,rfl,hH,hB,hz,q⟩:=h;cases rx;obtain⟨u,rfl,ru⟩:=rv.one;cases ru;obtain⟨z,its,n,r,hl,e⟩:=I.lstM hH;obtain⟨its2,r2,⟨o,e2,hc,n2,hd⟩,hz2⟩:=I.tuple hB;have hl2:=r2.length;have hsz:its.toArray.size+its2.toArray.size<=sizeLine:=by rw[bg,bg];omega
 have hlong:¬(!its.toArray.isEmpty&&gn (its.toArray.size+its2.toArray.size))=true:=by rw[Jh hsz,pC];exact br
 refine gX ky ⟨_,e,rfl⟩ oe (nZ _ _)
  (SY l its.toArray n b o its2.toArray n2 hc hd hlong (by rw[bg];omega) (by omega)) ⟨e,e2,?_⟩
 refine⟨.non,_,I.lset (its':=its++its2) hH e (by simp) (r.append r2) ?_,rfl,q⟩;rw[aA];omega
def G1(i:Nat)(f:FE):FE:=λρ=>match uc ρ i with
 |some _=>match f ρ with
  |some (.tup es,ρ1)=>match uc ρ1 i with
   |some ds=>if ds.length+es.length<=1000 then some (.non,putAt ρ1 i (ds++es))else none
   |none=>none
  |_=>none
 |none=>none
theorem K7(h:PE X e (tBM G.K "list" (JG G.K) (yp i) (EE (tF G f) Jd))):PE X e (tF G (G1 i f)):=PE.weak h λσ H Q hh=>by
 obtain⟨F,ρ,H0,d,ρ',R,e,k⟩:=hh;unfold G1 at e;cases e0:uc ρ i with
 |none=>simp only[e0]at e;cases e
 |some ds0=>
  simp only[e0]at e;rcases sO (f:=f) (ρ:=ρ)with e1|⟨x,ρ1,e1⟩<;>simp only[e1]at e
  ·cases e
  ·cases x with
   |tup es=>
    cases e2:uc ρ1 i with
    |none=>simp only[e2]at e;cases e
    |some ds=>
     simp only[e2]at e;split at e
     ·rename_i hl;cases e;obtain⟨a,xs,s1,s2,s3,_⟩:=uv R e0;refine⟨.ref a,s1,.inl ⟨rfl,xs,SqL.of s2⟩,F,ρ,H0,_,ρ1,R,e1,λv H1 H1' s R' rs=>?_⟩;unfold Rep at rs;obtain⟨p,ys,rfl,hp,rs⟩:=rs;obtain⟨a',xs',t1,t2,t3,t4⟩:=uv R' e2;rw[s1]at t1;cases t1;refine⟨a,p,xs',ys,rfl,rfl,t2,SqT.mono R'.sub hp,?_,k _ _ _ s (t4 _ _ (uI t3 rs)) BQ⟩;rw[<-r9 t3,<- r9 rs];exact xE hl
     ·cases e
   |_=>cases e
end
abbrev one(j:Nat)(led pl:Bool):SetTable:=⟨7,#[j],#[],0,led,0,pl⟩
abbrev prb(i q:Nat):jc:=⟨i,0,i,q,none⟩
section
variable{j i q:Nat}{led pl:Bool}{h h1:Int}
theorem yM(i:Nat):(one j led pl).slot i=if j=i then .live 0 else .empty:=by
 by_cases z:j<i
 ·have:j≠i:=by omega
  simp[pJ,gS,gH,gV,z,this]
 ·simp[pJ,gS,gH,gV,z]
theorem ZX(i:Nat):kI 7 i - i=0:=by unfold kI;split<;>omega
theorem Mi:(one j led pl).advance (prb i q)=prb ((i * 5+1+q / 32) % 8) (q / 32):=by unfold SetTable.advance SetTable.leap;simp[ZX]
theorem ZY(e:F 0=h1):∀(f:Nat) (p:jc),cZ (one j led pl) F h f p=cZ (one j led pl) (λ_=>h1) h f p
 |0,p=>rfl
 |f+1,p=>by
  unfold cZ;rw[yM];by_cases z:j=p.j
  ·rw[ai z];dsimp only;rw[e,ZY e f]
  ·rw[aj z]
theorem Mj(hh:h1≠h):∀(n f i q:Nat),q<32 ^ n->n+2<=f->∃j',j'≠j/\cZ (one j led pl) (λ_=>h1) h f (prb i q)=some (.empty j' none)
 |n,0,i,q,_,hf=>aq hf (by omega)
 |n,f+1,i,q,hq,hf=>by
  unfold cZ;rw[yM];by_cases z:j=i
  ·rw[ai z];dsimp only;rw[aj (by simpa using hh),Mi];cases n with
   |zero=>
    obtain⟨f,rfl⟩:∃g,f=g+1:=⟨f - 1,by omega⟩;unfold cZ;rw[yM];have q0:q=0:=by simpa using hq
    have:¬j=(i * 5+1+q / 32) % 8:=by subst z q0;omega
    rw[aj this];exact⟨_,λe=>this e.symm,rfl⟩
   |succ n=>exact Mj hh n f _ _ (by rw[Nat.pow_succ]at hq;omega) (by omega)
  ·rw[aj z];exact⟨_,λe=>z e.symm,rfl⟩
theorem NM(hn:n<=13)(hq:q<32 ^ n):(∃j',j'≠j/\(one j led pl).probe (λ_=>h1) h (prb i q)=some (.empty j' none))\/(h1=h/\j=i/\(one j led pl).probe (λ_=>h1) h (prb i q)=some (.candidate j 0 (prb ((i * 5+1+q / 32) % 8) (q / 32)))):=by
 by_cases hh:h1=h
 ·by_cases z:j=i
  ·right;refine⟨hh,z,?_⟩;subst z hh;show cZ _ _ _ (219+1) _=_;unfold cZ;rw[yM,ai rfl];dsimp only;rw[ai (by simp),Mi]
  ·left;refine⟨i,λe=>z e.symm,?_⟩;show cZ _ _ _ (219+1) _=_;unfold cZ;rw[yM,aj z]
 ·exact .inl (Mj hh n 220 i q hq (by omega))
end
variable{S:Addr}{ks:List Key}{o:Obj}{ep:Nat}{Q:Bool->ae->Prop}
section
variable{prog:aU}{w:aI}{A:aQ}{E:aa->ae->Prop}{s:ae}
abbrev TK(prog:aU)(w:aI):=IsTupleKey (sI prog w)
theorem cls_val(n:Nat)(h:carriedByValue v=true):ofAClassStatement n v=pure false:=by
 cases v with
 |ref a=>simp[carriedByValue]at h
 |_=>first|rfl|simp[ofAClassStatement]|(unfold ofAClassStatement;rfl)
theorem Ml(hk:TK prog w s.heap ks a)(h:Q false s):wpAny (model prog w) A (ofAClassStatement 8 (.ref a)) Q E s:=by
 have hT:=hk.typeIs;obtain⟨o,items,n,ho,_,hd,hi⟩:=hk;unfold ofAClassStatement;refine ao (jg hT ?_);show wpAny _ _ (pure true>>=_) _ _ s;refine ao (az ?_);simp only[Bool.not_true,eF,if_false];refine ao (wpAny_seqItems ho hd ?_);refine ao ?_;show wpAny _ _ (forIn items _ _) _ _ s;rw[<-oB];refine iW _ (λrest r s'=>r.1=none/\s'=s/\∀v∈rest,carriedByValue v=true) _ ?_ ?_ _ _ ⟨rfl,rfl,hi.byValue⟩
 ·rintro v rest r s' ⟨hr,rfl,hall⟩;rw[cls_val _ (hall v aV)];refine ao (az ?_);simp only[eF,if_false];exact az ⟨rfl,rfl,λu hu'=>hall u (bf _ hu')⟩
 ·rintro⟨r1,r2⟩ s' ⟨hr,rfl,_⟩;simp only at hr;subst hr;exact az h
theorem SZ(n:Nat)(h:carriedByValue v=true):∃b,hashByValue n v=pure b:=by
 cases v with
 |ref a=>simp[carriedByValue]at h
 |_=>cases n<;>first|exact⟨_,rfl⟩|(unfold hashByValue;exact⟨_,rfl⟩)
theorem S0(hk:TK prog w s.heap ks a)(h:∀b,Q b s):wpAny (model prog w) A (hashByValue 8 (.ref a)) Q E s:=by
 have hT:=hk.typeIs;obtain⟨o,items,n,ho,_,hd,hi⟩:=hk;unfold hashByValue;refine ao (kF hT F.slot_tuple_hash.lookup ?_);show wpAny _ _ (seqItems? (.ref a)>>=_) _ _ s;refine ao (wpAny_seqItems ho hd ?_);refine ao ?_;show wpAny _ _ (forIn items _ _) _ _ s;rw[<-oB];refine iW _ (λrest r s'=>s'=s/\∀v∈rest,carriedByValue v=true) _ ?_ ?_ _ _ ⟨rfl,hi.byValue⟩
 ·rintro v rest r s' ⟨rfl,hall⟩;obtain⟨b,hb⟩:=SZ 7 (hall v aV);rw[hb];refine ao (az ?_);cases b
  ·exact az (az (h _))
  ·exact az ⟨rfl,λu hu'=>hall u (bf _ hu')⟩
 ·rintro⟨r1,r2⟩ s' ⟨rfl,_⟩;cases r1 with
  |none=>exact az (h _)
  |some b=>exact az (h _)
theorem S4{a1:Addr}(h1:TK prog w s.heap k1 a1)(h2:TK prog w s.heap k2 a2)(h:Q false s):wpAny (model prog w) A (searchCouldBeSeen (.ref a2) [.ref a1]) Q E s:=by
 unfold searchCouldBeSeen;refine ao ?_;show wpAny _ _ (forIn [Value.ref a1] _ _) _ _ s;refine iW _ (λrest r s'=>r=(none,())/\s'=s/\∀v∈rest,v=.ref a1) _ ?_ ?_ _ _ ⟨rfl,rfl,λv hv=>by simpa using hv⟩
 ·rintro v rest r s' ⟨rfl,rfl,hall⟩;obtain rfl:=hall v aV;have go:∀v∈rest,v=Value.ref a1:=λu hu'=>hall u (bf _ hu');dsimp only;split
  ·exact az ⟨rfl,rfl,go⟩
  ·refine ao (nV h2 ?_);refine ao (nV h1 ?_);refine ao (Ml h2 ?_);refine ao (Ml h1 ?_);exact az ⟨rfl,rfl,go⟩
 ·rintro r s' ⟨rfl,rfl,_⟩;exact az h
theorem Bu{a1:Addr}(hu:A.units<cLine)(t1:TK prog w s.heap k1 a1)(t2:TK prog w s.heap k2 a2)(ne:k1≠k2)
  (ho:s.heap.get? S=some o) (hd:o.data=.set #[(h1,.ref a1)] ep (one j led pl)) (hQ:∀j',j'≠j->Q (.free j' false) s):∀(fuel n i q:Nat) (st:Option jc),n<=13->1<=fuel->(i=j->n+2<=fuel)->q<32 ^ n->st.getD ((one j led pl).probeStart h)=prb i q->wpAny (model prog w) A (setSearchFrom S (.ref a2) h true fuel st) Q E s
 |0,n,i,q,st,_,hf,_,_,_=>aq hf (by omega)
 |fuel+1,n,i,q,st,hn,_,hf,hq,hst=>by
  unfold setSearchFrom;refine ao (gK ho hd rfl ?_);dsimp only;rw[aj (by simp[o7])];have P:=NM (led:=led) (pl:=pl) (j:=j) (i:=i) (h:=h) (h1:=h1) hn hq;unfold SetTable.probe at P ⊢;rw[hst,ZY (h1:=h1) rfl];rcases P with ⟨j',hj,e⟩|⟨e1,e2,e⟩
  ·rw[e];exact az (hQ j' hj)
  ·rw[e];dsimp only;rw[show List.map (λx:Int×aa=>x.snd) (Array.filter (λx=>x.fst==h) #[(h1,Value.ref a1)]).toList=[.ref a1] by simp[e1]];have hf2:=hf e2.symm;have si:∀led,(one j led pl).sameMemory 0 7=some true:=λ_=>rfl;cases led;refine ao (S4 t1 t2 ?_)
   all_goals
    refine ao (cD (wpAny_eqBool_tuple hu t1 t2 ?_));refine ao (gK ho hd rfl ?_);rw[aL ne];dsimp only;rw[aj (by decide),si];dsimp only;rw[ai rfl,yM,ai rfl];refine ao (wpAny_isSame_ref_self ?_);refine ao (az ?_);cases n with
    |zero=>
     have q0:q=0:=by simpa using hq
     exact Bu hu t1 t2 ne ho hd hQ fuel 0 _ _ _ hn (by omega) (λe=>aq e (by subst e2 q0;omega)) (by rw[q0];decide) rfl
    |succ n=>exact Bu hu t1 t2 ne ho hd hQ fuel n _ _ _ (by omega) (by omega) (λ_=>by omega) (by rw[Nat.pow_succ]at hq;omega) rfl
theorem Mm{a2:Addr}{es:Array (Int×aa)}{t:SetTable}{h:Int}{P:Nat->Prop}(ho:s.heap.get? S=some o)(hd:o.data=.set es ep t)(hf:t.fits es.size=true)(t2:TK prog w s.heap ks a2)
  (hs:∀Q:SetFound->ae->Prop,(∀j',P j'->Q (.free j' false) s)->wpAny (model prog w) A (setSearch S (.ref a2) h true) Q E s) (hT:∀j',P j'->(t.put j').1.tooFull=false) (hz:∀j',P j'->(eG es (t.put j').2 (h,Value.ref a2)).size<=sizeLine)
  (hQ:∀j' pl,P j'->Q true { s with heap:=s.heap.update S (lJ (eG es (t.put j').2 (h,.ref a2)) { (t.put j').1 with plain:=pl }) }):wpAny (model prog w) A (setAddHashed S (.ref a2) h) Q E s:=by
 unfold setAddHashed setAddHashedIn;refine cD (ao (gK ho hd hf ?_));dsimp only;rw[aj (by simp[byScan,Value.scannable])];refine ao (hs _ λj' hj=>?_);dsimp only;refine ao (gK ho hd hf ?_);dsimp only;have fin:∀b:Bool,wpAny (model prog w) A (do
   storeSet S (eG es (t.put j').2 (h,.ref a2)) (if b=true then (t.put j').1 else { (t.put j').1 with plain:=false })
   if (!false&&(if b=true then (t.put j').1 else { (t.put j').1 with plain:=false }).tooFull)=true then do setRelay S (SetTable.grown (es.size+1));pure true else pure true) Q E s:=λb=>by
  refine ao (wpAny_storeSet_of ho hd ?_ (hz j' hj));have e:(if b=true then (t.put j').1 else { (t.put j').1 with plain:=false })={ (t.put j').1 with plain:=if b=true then (t.put j').1.plain else false }:=by cases b<;>rfl
  rw[e,aj (by have:=hT j' hj;unfold o8 kP at this ⊢;rw[this];decide)];exact az (hQ _ _ hj)
 split
 ·exact ao (S0 t2 λb=>fin b)
 ·exact ao (az (fin true))
end
section
variable{j i q:Nat}{led pl:Bool}{h h1:Int}
theorem Fb(i:Nat):(jd 0 0 led).put i=(one i led true,0):=by simp[lh,jd,gS,gH,gV,eG]
theorem Et{α:Type}(x y:α):((one j led pl).put i).1.place.size=2/\((one j led pl).put i).1.dummies=#[]/\((one j led pl).put i).1.mask=7/\(eG #[x] ((one j led pl).put i).2 y).size=2:=by
 by_cases z:j<i
 ·simp[lh,gS,gH,gV,eG,z]
 ·simp[lh,gS,gH,gV,eG,z]
end
section
variable{prog:aU}{w:aI}{A:aQ}{E:aa->ae->Prop}{s:ae}
theorem PM{hp:Heap}(ho:hp.get? S=some o)(hd:o.data=.set es ep t):(hp.update S (lJ es' t')).get? S=some { o with data:=.set es' (ep+1) t' }:=by have:=j9 (lJ es' t') ho (by rw[putSet_of es' t' hd];rfl);rw[putSet_of es' t' hd]at this;exact this
theorem NN{a:Addr}{led:Bool}{h:Int}(ho:s.heap.get? S=some o)(hd:o.data=.set #[] ep (.fresh 0 0 led))(t2:TK prog w s.heap ks a)
  (hQ:∀h' j pl,fH S s.heap h'->h'.get? S=some { o with data:=.set #[(h,.ref a)] (ep+1) (one j led pl) }->Q true { s with heap:=h' }):wpAny (model prog w) A (setAddHashed S (.ref a) h) Q E s:=by
 refine Mm (P:=λ_=>True) ho hd rfl t2 (λQ hq=>?_) (λj' _=>by rw[Fb];rfl) (λj' _=>by rw[Fb,bL];exact eO (by decide:1<_)) λj' pl _=>hQ _ j' pl (oh ..) ?_
 ·unfold setSearch setSearchFrom;refine ao (gK ho hd rfl ?_);dsimp only;rw[aj (by simp[o7,jd]),show ∀F p,(jd 0 0 led).probe F h p=some (.empty p.j p.dummy) from λ_ _=>rfl];exact az (hq _ trivial)
 ·rw[PM ho hd,Fb];rfl
theorem K8{a1:Addr}(hu:A.units<cLine)(t1:TK prog w s.heap k1 a1)(t2:TK prog w s.heap k2 a2)(ne:k1≠k2)
  (ho:s.heap.get? S=some o) (hd:o.data=.set #[(h1,.ref a1)] ep (one j led pl))
  (hQ:∀h' es t,fH S s.heap h'->h'.get? S=some { o with data:=.set es (ep+1) t }->es.size=2->t.fits 2=true->Q true { s with heap:=h' }):wpAny (model prog w) A (setAddHashed S (.ref a2) h) Q E s:=by
 refine Mm (P:=λj'=>j'≠j) ho hd rfl t2 (λQ hq=>?_) (λj' _=>?_) (λj' _=>by rw[(Et _ _).2.2.2,bL];decide) λj' pl' _=>hQ _ _ _ (oh ..) (PM ho hd) (Et _ _).2.2.2 ?_
 ·have hb:je h<32 ^ 13:=by unfold je;omega
  exact Bu hu t1 t2 ne ho hd hq 100000 13 (je h % 8) (je h) none (by omega) (by omega) (λ_=>by omega) hb (by show SetTable.Probe.mk _ _ _ _ _=_;rw[ZX])
 ·obtain⟨a,b,c,_⟩:=Et (j:=j) (i:=j') (led:=led) (pl:=pl) 0 0;unfold o8 kP;rw[a,b,c];rfl
 ·obtain⟨a,b,c,_⟩:=Et (j:=j) (i:=j') (led:=led) (pl:=pl) 0 0;unfold SetTable.fits kP;dsimp only;rw[a,b,c];rfl
end
variable{h':Heap}
section
variable{prog:aU}{w:aI}{A:aQ}{R:fN->ae->Prop}{I:Addr}{fp wr:List Addr}{GG:Array gY->Array gY->Prop}{PP:Nat->aa->Prop}{SS:Nat->ae->Prop}
theorem TK.kept(t:TK prog w h ks a)(e:∀o,h.get? a=some o->h'.get? a=some o):TK prog w h' ks a:=by obtain⟨o,its,n,ho,m⟩:=t;exact⟨o,its,n,e o ho,m⟩
def Wn(h:Heap)(S:Addr)(n:Nat):Prop:=∃o es ep t,h.get? S=some o/\o.ExactSet/\o.data=.set es ep t/\es.size<scanBound/\t.fits es.size=true/\es.size=n
theorem NO(W:WalksS prog w A.in1 I fp wr GG 2 PP SS){a1:Addr}(hSf:S∉fp)(ne:k1≠k2)(n1:a1∉S::wr)(n2:a2∉S::wr)(p1:∀v,PP 0 v->v=.ref a1)(p2:∀v,PP 1 v->v=.ref a2)(hu:A.in1.units<cLine)
  (hst:SS 0 s) (t1:TK prog w s.heap k1 a1) (t2:TK prog w s.heap k2 a2) (ho:s.heap.get? S=some o) (hx:o.ExactSet) (hd:o.data=.set #[] ep (.fresh 0 0 led)) (hR:∀s',Moved (S::wr) GG s s'->Wn s'.heap S 2->R (.ok (.ret .none)) s'):
   codeAny (model prog w) A (.builtin "set.update.loop" ⟨[.ref S,.ref I],[]⟩) R s:=by
 have hSw:S∉wr:=λz=>hSf (W.sub _ z);have up:∀b∈wr,b∈S::wr:=λb z=>bf _ z;have q1:a1∉wr:=λz=>n1 (up _ z);have q2:a2∉wr:=λz=>n2 (up _ z);have e1:a1≠S:=λz=>n1 (by rw[z];exact aV);have e2:a2≠S:=λz=>n2 (by rw[z];exact aV);refine di gq ?_;rw[dF dE _];show wpAny _ A.in1 (pyNext (.ref I)>>=_) _ _ s;refine ao (W.item 0 s _ _ (by decide) hst λv s1 hP st1 m1=>?_);obtain rfl:=p1 v hP;show wpAny _ A.in1 (holding _ (setAdd S _)>>=_) _ _ s1;refine ao (cD ?_);unfold setAdd;refine cD ?_;have u1:TK prog w s1.heap k1 a1:=t1.kept λo=>m1.heap a1 o q1;have u2:TK prog w s1.heap k2 a2:=t2.kept λo=>m1.heap a2 o q2;refine ao (oE hu u1 ?_);refine NN (m1.heap S _ hSw ho) hd u1 λh' j pl hb hg=>?_;refine az ⟨fF dE _,?_⟩;have st1':=W.frame (0+1) s1 h' _ st1 (gQ _ (k1.length+1)) λb z o e=>by rw[hb.2 b (λy:b=S=>hSf (by rw[<-y];exact z))];exact e
 have m1':Moved (S::wr) GG s { s1 with heap:=h',toks:=s1.toks+(k1.length+1) }:=(m1.mono up).then_heap (gQ _ _) λb o z e=>by rw[hb.2 b (λy:b=S=>z (by rw[y];exact aV))];exact e
 have v1:TK prog w h' k1 a1:=u1.kept λo e=>by rw[hb.2 a1 e1];exact e
 have v2:TK prog w h' k2 a2:=u2.kept λo e=>by rw[hb.2 a2 e2];exact e
 refine di gq ?_;rw[dF dE _];show wpAny _ A.in1 (pyNext (.ref I)>>=_) _ _ _;refine ao (W.item 1 _ _ _ (by decide) st1' λv s2 hP st2 m2=>?_);obtain rfl:=p2 v hP;show wpAny _ A.in1 (holding _ (setAdd S _)>>=_) _ _ s2;refine ao (cD ?_);unfold setAdd;refine cD ?_;have w1:TK prog w s2.heap k1 a1:=v1.kept λo=>m2.heap a1 o q1;have w2:TK prog w s2.heap k2 a2:=v2.kept λo=>m2.heap a2 o q2;refine ao (oE hu w2 ?_);refine K8 hu w1 w2 ne (m2.heap S _ hSw hg) rfl λh2 es t hb2 hg2 z2 f2=>?_;refine az ⟨fF dE _,?_⟩;have st2':=W.frame (1+1) s2 h2 _ st2 (gQ _ (k2.length+1)) λb z o e=>by rw[hb2.2 b (λy:b=S=>hSf (by rw[<-y];exact z))];exact e
 have m2':=lC W.gtrans m1' ((m2.mono up).then_heap (tk:=s2.toks+(k2.length+1)) (gQ _ _) λb o z e=>by rw[hb2.2 b (λy:b=S=>z (by rw[y];exact aV))];exact e);refine di gq ?_;rw[dF dE _];show wpAny _ A.in1 (pyNext (.ref I)>>=_) _ _ _;refine ao (W.done _ _ _ st2' λs3 m3=>?_);show wpAny _ A.in1 (ret Value.none) _ _ s3;refine az (hR s3 (lC W.gtrans m2' (m3.mono up)) ?_);exact⟨_,es,_,t,m3.heap S _ hSw hg2,hx,rfl,by rw[z2];decide,by rw[z2];exact f2,z2⟩
end
theorem sub_tuple_set:isSubtype (.type "tuple") (.type "set")=pure false:=by rw[kK];kernel_rfl
theorem sub_tuple_frozenset:isSubtype (.type "tuple") (.type "frozenset")=pure false:=by rw[kK];kernel_rfl
section
variable{prog:aU}{w:aI}{A:aQ}{E:aa->ae->Prop}{s:ae}{Q:aa->ae->Prop}
abbrev zW(led:Bool):Obj:={ cls:=.type "set", dict:=none,data:=.set #[] 0 (.fresh 0 0 led) }
abbrev inK(ks:List Key):Key->Bool:=λj=>(xZ ks).any (λz=>decide (z=j))
structure ZZ(prog:aU)(w:aI)(h:Heap)(a:Addr)(items:Array aa)(ks:List Key):Prop where
 len:ks.length=items.size
 key:∀i v (hi:i<ks.length),items[i]?=some v->(sI prog w).is ks[i] v=true/\v.scannable=true
 bnd:items.size+1<scanBound
def S5(s:ae)(PS:Heap->Prop)(E:aa->ae->Prop):fN->ae->Prop:=
 wants (λr s2=>r=.none/\∃h2 k2,s2={ s with heap:=h2,toks:=k2 }/\PS h2/\∀b o,b<s.heap.objs.size->s.heap.get? b=some o->h2.get? b=some o) E
theorem JH(K:ZZ prog w s.heap ax items ks)(hlt:ax<s.heap.objs.size)
  (W:Walks prog w A.in1 (s.heap.objs.size+1) [s.heap.objs.size+1,ax] [s.heap.objs.size+1] items.size (λi v=>items[i]?=some v) SS) (st:SS 0 ((s.heap.push (zW led)).push itO))
  (hR:∀h2 k2,h2.SetOf (sI prog w) s.heap.objs.size (inK ks) (xZ ks).length->(∀b o,b<s.heap.objs.size->s.heap.get? b=some o->h2.get? b=some o)->R (.ok (.ret .none)) { s with heap:=h2,toks:=k2 }) (tk:Nat):
  codeAny (model prog w) A (.builtin "set.update.loop" ⟨[.ref s.heap.objs.size,.ref (s.heap.objs.size+1)],[]⟩) R { s with heap:=(s.heap.push (zW led)).push itO,toks:=tk }:=by
 have notin:s.heap.objs.size∉[s.heap.objs.size+1,ax]:=by
  intro z;rcases aK.mp z with z|z
  ·exact aq z (aY (dH _))
  ·exact aq (aP.mp z) (fI hlt)
 have e0:((s.heap.push (zW led)).push itO).get? s.heap.objs.size=some (zW led):=aJ _ (bz _ rfl);refine PL W.toS s.heap.objs.size notin ks K.len (λi v hi hv=>K.key i v hi hv) K.bnd (items.size - 0) 0 _ (by omega) (cj _) st ?_ λs2 mv S2=>?_
 ·exact⟨_,#[],0,_,e0,⟨rfl,rfl,rfl⟩,rfl,λe he=>by simp at he,λk=>by simp[xZ],by unfold scanBound;decide,by rfl,rfl⟩
 ·obtain⟨h2,g2,d2,k2,o2⟩:=s2;have eg:g2=s.gens:=mv.gens;have ed:d2=s.drawn:=mv.drawn;have eo:o2=s.os:=mv.os;subst eg ed eo;refine hR h2 k2 S2 λb o hb e=>mv.heap b o (λz=>?_) (aJ _ (aJ _ e));rcases aK.mp z with z|z
  ·exact aq z (aY hb)
  ·exact aq (aP.mp z) (aY (cY hb))
theorem K9(a:aa)(h:Q₁ (.ref s.heap.objs.size) { s with heap:=s.heap.push (zW (!w.params.followText "set-order")) }):
  codeAny (model prog w) A (.call (.builtin "set.__new__") ⟨[.type "set", a],[]⟩) (wants Q₁ E) s:=by
 refine codeAny_of_tree ?_;show wpAny _ A.in1 (do checkBuiltinCall "set.__new__" ⟨[.type "set", a],[]⟩;again (.builtin "set.__new__" ⟨[.type "set", a],[]⟩)) _ _ s;refine ao (wpAny_of_eq (F.newCall_set_1 a) (az ⟨fF ph _,di F.entry_set_new ?_⟩));rw[dF ph _];unfold dW.«set.__new__» rB;have hsub:=sub_set_self;obtain⟨hp,g,d,tk,os⟩:=s;dsimp only
 wp_walk
 refine wpAny_askSetting (az ?_);dsimp only;simp only[newObj];refine ao (wpAny_alloc (az ?_));exact az h
theorem Fc{PS:Heap->Prop}(ho:s.heap.get? ax=some o)(hc:o.cls=.type T)
  (u1:isSubtype (.type T) (.type "set")=pure false) (u2:isSubtype (.type T) (.type "frozenset")=pure false) (u3:(Value.type T==Value.type "dict")=false)
  (itr:∀(A:aQ) (Q:aa->ae->Prop) (E:aa->ae->Prop) (s1:ae),s1.heap.get? ax=some o->Q (.ref s1.heap.objs.size) { s1 with heap:=s1.heap.push itO }->wpAny (model prog w) A (pyIter (.ref ax)) Q E s1)
  (fil:∀tk (R:fN->ae->Prop),(∀h2 k2,PS h2->(∀b o,b<s.heap.objs.size->s.heap.get? b=some o->h2.get? b=some o)->R (.ok (.ret .none)) { s with heap:=h2,toks:=k2 })->
   codeAny (model prog w) A.in1.in1 (.builtin "set.update.loop" ⟨[.ref s.heap.objs.size,.ref (s.heap.objs.size+1)],[]⟩) R { s with heap:=(s.heap.push (zW (!w.params.followText "set-order"))).push itO,toks:=tk })
  (h:∀h2 k2,PS h2->(∀b o,b<s.heap.objs.size->s.heap.get? b=some o->h2.get? b=some o)->Q (.ref s.heap.objs.size) { s with heap:=h2,toks:=k2 }):
  wpAny (model prog w) A (call (.type "set") [.ref ax]) Q E s:=by
 have hlt:ax<s.heap.objs.size:=aM ho;obtain⟨c,tl,hmro⟩:=dS.mro;have made:=dS.made;have subs:=dS.sub;refine jk (codeAny_of_tree ?_);show wpAny _ _ (callAny (.type "set") _) _ _ _;refine az ⟨Code.quiet_builtin _ (by decide +kernel),di F.entry_type_call ?_⟩;rw[Around.under_plain (weight_type_call_type "set" [.ref ax] []) rfl];have n1:=dS.notType;have n2:=dS.canCreate;have n3:=F.typeCall_set_1 (.ref ax)
 repeat (any_goals (first|assumption|wp_step))
 let led:Bool:=!w.params.followText "set-order";refine fJ (K9 (.ref ax) (E:=E) (Q₁:=λv s1=>v=.ref s.heap.objs.size/\s1={ s with heap:=s.heap.push (zW led) }) ⟨rfl,rfl⟩) λr s1 hr=>?_;cases r with
 |error e=>exact hr
 |ok fl=>
  cases fl with
  |ret v=>
   obtain⟨rfl,rfl⟩:=hr;have e0:(s.heap.push (zW led)).get? s.heap.objs.size=some (zW led):=bz _ rfl;have ty0:kQ { s with heap:=s.heap.push (zW led) } (.ref s.heap.objs.size) "set" := ⟨_,e0,rfl⟩;have l1:=dS.init.lookup;have l2:=dS.init.bind (.ref s.heap.objs.size)
   repeat (any_goals (first|assumption|wp_step))
   refine fJ (n4 (R:=S5 s PS E) dS.init.plain F.entry_set_init (check_set_init_1 ty0 ?_)) λr2 s2 hr2=>?_
   ·obtain⟨oc,od,oda,osl⟩:=o;cases hc;have e1:(s.heap.push (zW led)).get? ax=some { cls:=.type T,dict:=od,data:=oda,slots:=osl }:=aJ _ ho;unfold dW.«set.__init__» noKeywords rA;generalize gP:pyIter=PP
    wp_walk
    subst gP;refine itr _ _ _ _ e1 ?_;refine ao (wpAny_runValue ?_);have ez:(s.heap.push (zW led)).objs.size=s.heap.objs.size+1:=dj _ _;show codeAny _ _ (.builtin "set.update.loop" ⟨[.ref s.heap.objs.size,.ref (s.heap.push (zW led)).objs.size],[]⟩) _ _;rw[ez];refine fil _ _ λh2 k2 S2 kk=>?_;show wpAny _ _ _ _ _ _;refine az ?_;show wpAny _ _ (ret Value.none) _ _ _;exact az ⟨rfl,h2,k2,rfl,S2,kk⟩
   ·cases r2 with
    |error e=>exact hr2
    |ok fl2=>
     cases fl2 with
     |ret r=>
      obtain⟨rfl,h2,k2,rfl,S2,kk⟩:=hr2
      repeat (any_goals (first|assumption|wp_step))
      exact h _ _ S2 kk
     |_=>exact hr2.elim
  |_=>exact hr.elim
end
section
variable{X:Cx}{G:Bg}{H:Hp}{pins:cy}{σ:St}{s:ae}
theorem PN(h:(sI P w).is k v=true):v.scannable=true:=by rcases tQ h with ⟨i,t,_,rfl⟩|⟨x,t,_,rfl⟩<;>rfl
theorem PQ(r:Vals (ks.map kV) its)(hb:ks.length+1<scanBound):ZZ X.prog X.w s.heap a its.toArray ks:=by
 have hl:ks.length=its.length:=by have:=r.length;rw[ag]at this;exact this
 refine⟨by rw[bg];exact hl,λi v hi hv=>?_,by rw[bg];omega⟩;have e:(ks.map kV)[i]?=some (kV ks[i]):=by rw[bt,aN hi];rfl
 obtain⟨u,hu,ru⟩:=r.get e;have eu:v=u:=by rw[List.getElem?_toArray]at hv;rw[hv]at hu;exact cg hu
 subst eu;have:=A7 (P:=X.prog) (w:=X.w) ru;exact⟨this,PN this⟩
theorem UC(I:Inv X pins σ H s)(h:SqT X.K H a (ks.map kV)):TK X.prog X.w s.heap ks a:=by
 obtain⟨its,r,p,_⟩:=I.tuple h;obtain⟨o,ho,hc,n,hd⟩:=p;refine⟨o,_,n,ho,hc,hd,?_⟩;have gen:∀(ks:List Key) (its:List aa),Vals (ks.map kV) its->PySem.ItemsAre (sI X.prog X.w) ks its:=λks=>by
  induction ks with
  |nil=>intro its r;cases r;exact .nil
  |cons k ks ih=>intro its r;cases r with|cons h1 h2=>exact .cons (A7 h1) (ih _ h2)
 exact gen ks its r
def Wo(K:ar)(H:Hp)(a:Addr)(n:Nat):Prop:=∃ks,(SqL K H a (ks.map kV)\/SqT K H a (ks.map kV))/\ks.length+1<scanBound/\n=(xZ ks).length
def Wp(K:ar)(H:Hp)(a:Addr)(n:Nat):Prop:=Wo K H a n\/
 ∃(p q:Addr) (k1 k2:List Key),SqL K H a [.ref p,.ref q]/\SqT K H p (k1.map kV)/\SqT K H q (k2.map kV)/\k1≠k2/\n=2
def Wq(X:Cx)(S:ar->Hp->Addr->Nat->Prop):Prop:=∀{pins:cy} {σ:St} {H:Hp} {s:ae} {A:aQ} {E:aa->ae->Prop} {Q:aa->ae->Prop} {a:Addr} {n:Nat},Inv X pins σ H s->A.handled=none->A.units+8<cLine->S X.K H a n->
 (∀h2 k2,Wn h2 s.heap.objs.size n->(∀b o,b<s.heap.objs.size->s.heap.get? b=some o->h2.get? b=some o)->Q (.ref s.heap.objs.size) { s with heap:=h2,toks:=k2 })->wpAny (model X.prog X.w) A (call (.type "set") [.ref a]) Q E s
theorem Z0:Wq X (Wo):=by
 intro pins σ H s A E Q a n I hh hu hq h;have h3:A.in1.in1.in1.handled=none:=by simp[hh]
 have gt:∀{h2:Heap} {ks:List Key},h2.SetOf (sI X.prog X.w) s.heap.objs.size (inK ks) (xZ ks).length->Wn h2 s.heap.objs.size (xZ ks).length:=λS=>by obtain⟨o,es,ep,t,ho,hex,hd,_,_,hz,hf,hn⟩:=S;exact⟨o,es,ep,t,ho,hex,hd,hz,hf,hn⟩
 have it:∀{o:Obj} {led:Bool},o.isFreed=false->((s.heap.push (zW led)).push o).get? (s.heap.objs.size+1)=some o:=λ{o led} z=>by rw[show s.heap.objs.size+1=(s.heap.push (zW led)).objs.size from(dj _ _).symm];exact bz _ z
 obtain⟨ks,hq|hq,hb,rfl⟩:=hq
 ·obtain⟨its,r,p,_⟩:=I.list hq;obtain⟨o,ho,hc,n,hd⟩:=p.isList;have hne:a≠s.heap.objs.size+1:=aY (cY (aM ho));refine Fc ho hc F.sub_list_set n8 (by decide) (itO:={ cls:=.type "list_iterator", data:=.fields #[.ref a,.int 0 0] })
   (λA Q E s1 e k=>gE ⟨o,e,hc,n,hd⟩ k) (λtk R hR=>JH (PQ r hb) (aM ho) (jm h3 _ a hne its.toArray) ⟨⟨_,it rfl,rfl,rfl⟩,⟨o,aJ _ (aJ _ ho),hc,n,hd⟩⟩ (λh2 k2 S=>hR h2 k2 (gt S)) tk) h
 ·obtain⟨its,r,p,_⟩:=I.tuple hq;obtain⟨o,ho,hc,n,hd⟩:=p;have hne:a≠s.heap.objs.size+1:=aY (cY (aM ho));refine Fc ho hc sub_tuple_set sub_tuple_frozenset (by decide) (itO:={ cls:=.type "tuple_iterator", data:=.fields #[.ref a,.int 0 0] })
   (λA Q E s1 e k=>oq ⟨o,e,hc,n,hd⟩ k) (λtk R hR=>JH (PQ r hb) (aM ho) (Walks.tuple h3 _ a hne its.toArray) ⟨⟨_,it rfl,rfl,rfl⟩,⟨o,aJ _ (aJ _ ho),hc,n,hd⟩⟩ (λh2 k2 S=>hR h2 k2 (gt S)) tk) h
theorem Z1:Wq X (Wp):=by
 intro pins σ H s A E Q a n I hh hu hq h;rcases hq with hq|⟨p,q,k1,k2,hq,h1,h2,ne,rfl⟩
 ·exact Z0 I hh hu hq h
 have h3:A.in1.in1.in1.handled=none:=by simp[hh]
 have it:∀{o:Obj} {led:Bool},o.isFreed=false->((s.heap.push (zW led)).push o).get? (s.heap.objs.size+1)=some o:=λ{o led} z=>by rw[show s.heap.objs.size+1=(s.heap.push (zW led)).objs.size from(dj _ _).symm];exact bz _ z
 obtain⟨its,r,pp,_⟩:=I.list hq;obtain⟨o,ho,hc,n,hd⟩:=pp.isList;have hne:a≠s.heap.objs.size+1:=aY (cY (aM ho));obtain⟨u,v,rfl,ru,rv⟩:∃u v,its=[u,v]/\RelV (.ref p) u/\RelV (.ref q) v:=by cases r with|cons c1 r=>cases r with|cons c2 r=>cases r;exact⟨_,_,rfl,c1,c2⟩
 cases ru;cases rv;have t1:=UC I h1;have t2:=UC I h2;have far:∀{b:Addr} {ks:List Key},TK X.prog X.w s.heap ks b->b∉s.heap.objs.size::[s.heap.objs.size+1]:=λ{b ks} t z=>by
  obtain⟨o,_,_,e,_⟩:=t;have:=aM e;rcases aK.mp z with z|z
  ·exact aq z (aY this)
  ·exact aq (aP.mp z) (aY (cY this))
 have notin:s.heap.objs.size∉[s.heap.objs.size+1,a]:=by
  intro z;rcases aK.mp z with z|z
  ·exact aq z (aY (dH _))
  ·exact aq (aP.mp z) (fI (aM ho))
 refine Fc ho hc F.sub_list_set n8 (by decide) (itO:={ cls:=.type "list_iterator", data:=.fields #[.ref a,.int 0 0] })
  (λA Q E s1 e k=>gE ⟨o,e,hc,n,hd⟩ k) (λtk R hR=>?_) h
 have ke:∀{b:Addr} {o':Obj},s.heap.get? b=some o'->((s.heap.push (zW (!X.w.params.followText "set-order"))).push { cls:=.type "list_iterator", data:=.fields #[.ref a,.int 0 0] }).get? b=some o':=λe=>aJ _ (aJ _ e);refine NO (jm h3 _ a hne #[.ref p,.ref q]).toS notin ne (far t1) (far t2) (λv e=>(cg e).symm) (λv e=>(cg e).symm) (by show A.units+1+1+1<cLine;omega) ⟨⟨_,it rfl,rfl,rfl⟩,⟨o,ke ho,hc,n,hd⟩⟩ (t1.kept λo=>ke) (t2.kept λo=>ke)
  (aJ _ (bz _ rfl)) ⟨rfl,rfl,rfl⟩ rfl λs2 mv S2=>?_
 obtain⟨h2,g2,d2,k2,o2⟩:=s2;have eg:g2=s.gens:=mv.gens;have ed:d2=s.drawn:=mv.drawn;have eo:o2=s.os:=mv.os;subst eg ed eo;exact hR h2 k2 S2 λb o hb e=>mv.heap b o (λz=>by
  rcases aK.mp z with z|z
  ·exact aq z (aY hb)
  ·exact aq (aP.mp z) (aY (cY hb))) (ke e)
def Io(S:ar->Hp->Addr->Nat->Prop)(K:ar)(te:TE):TE:=λσ H Q=>te σ H λx H1=>∃a n,x=.ref a/\S K H1 a n/\Q (.int n) H1
theorem NP(hV:Wq X S)(hu:X.A.units+64<cLine)(hc:X.calm=true)(g1:Gl X "len")(m1:X.mg "len" = none)(g2:Gl X "set")(m2:X.mg "set" = none)(he:PE X e te)
  (z1:starEach [Expr.Call (.Name "set" p2) [e] [] p3] X.env=[(false,eval (.Call (.Name "set" p2) [e] [] p3) X.env)]:=by rfl) (z2:starEach [e] X.env=[(false,eval e X.env)]:=by rfl):PE X (.Call (.Name "len" p1) [.Call (.Name "set" p2) [e] [] p3] [] p4) (Io S X.K te):=by
 intro pins s σ H Q I h;refine dG (Bp I g1 m1 pD ?_ (by decide) (by decide));refine callWith_builtin1 ?_ z1 rfl;rw[z1];show wpAny _ _ (spliced [(false,eval (.Call (.Name "set" p2) [e] [] p3) X.env)]) _ _ s;refine eE ?_;refine dG (Bp I g2 m2 Pv.boot_set ?_ (by decide) (by decide));refine callWith_type1 (thn (uj he xD z2 p3 pins s σ H (λvs H1=>match vs with
  |[x]=>∃a n,x=.ref a/\S X.K H1 a n/\Q (.int n) H1
  |_=>False) I h) λus s1 ⟨vs,H1,I1,r1,q1⟩=>?_) z2 rfl
 match vs,r1,q1 with
 |[x],r1,q1=>
 obtain⟨a,n,e1,hq,q⟩:=q1;subst e1;obtain⟨u,rfl,ru⟩:=vals1 r1;cases ru;refine hV I1 (I1.ok.hd hc) (by omega) hq λh2 k2 S2 kk=>?_;refine gG ?_;obtain⟨o,es,ep,t,ho,hex,hd,hz,hf,hn⟩:=S2;have I2:Inv X pins σ H1 { s1 with heap:=h2,toks:=k2 }:=I1.kept λb o e=>kk b o (aM e) e;refine call_len_set ho hex hd hf (by unfold scanBound at hz;omega) ⟨.int n,H1,I2.tok _,⟨_,by rw[hn]⟩,q⟩
def Bd:aS->Option (List Key)
 |[]=>some []
 |d::ds=>match Ad d,Bd ds with
  |some k,some ks=>some (k::ks)
  |_,_=>none
theorem AQ:∀{ds:aS} {xs:bC} {ks:List Key},r6 G H ds xs->Bd ds=some ks->xs=ks.map kV
 |[],xs,ks,r,e=>by cases e;unfold r6 at r;exact r
 |d::ds,xs,ks,r,e=>by
  unfold Bd at e;cases e1:Ad d with
  |none=>rw[e1]at e;cases e
  |some k=>
   cases e2:Bd ds with
   |none=>rw[e1,e2]at e;cases e
   |some ks'=>rw[e1,e2]at e;cases e;unfold r6 at r;obtain⟨v,r',rfl,h1,h2⟩:=r;rw[zi h1 e1,AQ h2 e2];rfl
def vT(ds:aS):Option D:=match Bd ds with
 |some ks=>if ks.length<=1000 then some (.int (xZ ks).length)else none
 |none=>none
def Wr:aS->Option D
 |[.tup x,.tup y]=>match Bd x,Bd y with
  |some k1,some k2=>if k1=k2 then none else some (.int 2)
  |_,_=>none
 |_=>none
def Fd(g:aS->Option D):D->Option D
 |.lst ds=>match vT ds with
  |some r=>some r
  |none=>g ds
 |.tup ds=>vT ds
 |.fzl ds=>vT ds
 |_=>none
abbrev Ip:D->Option D:=Fd Wr
theorem S6(h:vT ds=some r):Fd g (.lst ds)=some r:=by show (match vT ds with|some r=>some r|none=>g ds)=some r;rw[h]
theorem La(hK:X.K=G.K)(hO:∀{H a n},Wo X.K H a n->S X.K H a n)
  (hg:∀{ds d H1 H1' a xs},g ds=some d->SqL X.K H1' a xs->r6 G H1 ds xs->sq H1 H1'->∃n:Nat,S X.K H1' a n/\d=.int n)
  (h:PE X e (Io S X.K (tF G f))):PE X e (tF G (c1 (Fd g) f)):=PE.weak h λσ H Q hh=>by
 obtain⟨F,ρ,H0,d,ρ',R,e,k⟩:=hh;obtain⟨x,e1,e2⟩:=Er e;have key:∀{ds:aS} {xs:bC} {a:Addr} {H1 H1':Hp},vT ds=some d->r6 G H1 ds xs->sq H0 H1->sC G F σ ρ' H1 H1'->(SqL X.K H1' a xs\/SqT X.K H1' a xs)->
   ∃a' n,V.ref a=.ref a'/\S X.K H1' a' n/\Q (.int n) H1':=λ{ds xs a H1 H1'} ed rs s R' hq=>by
  unfold vT at ed;cases ek:Bd ds with
  |none=>rw[ek]at ed;cases ed
  |some ks=>
   rw[ek]at ed;simp only at ed;split at ed
   ·rename_i hl;cases ed;rw[AQ rs ek]at hq;exact⟨a,_,rfl,hO ⟨ks,hq,by unfold scanBound;omega,rfl⟩,k _ _ _ s R' (uE _)⟩
   ·cases ed
 refine⟨F,ρ,H0,x,ρ',R,e1,λv H1 H1' s R' r=>?_⟩;cases x with
 |lst ds=>
  unfold Rep at r;obtain⟨a,xs,rfl,h1,h2⟩:=r;have hq:SqL X.K H1' a xs:=SqL.of (R'.sub _ _ h1);replace e2:(match vT ds with|some r=>some r|none=>g ds)=some d:=e2;cases e3:vT ds with
  |some r=>rw[e3]at e2;cases e2;exact key e3 h2 s R' (.inl hq)
  |none=>rw[e3]at e2;obtain⟨n,h3,rfl⟩:=hg e2 hq h2 R'.sub;exact⟨a,n,rfl,h3,k _ _ _ s R' (uE _)⟩
 |tup ds=>unfold Rep at r;obtain⟨a,xs,rfl,h1,h2⟩:=r;rw[<-hK]at h1;exact key e2 h2 s R' (.inr (SqT.mono R'.sub h1))
 |fzl ds=>unfold Rep at r;obtain⟨a,xs,rfl,h1,h2⟩:=r;rw[<-hK]at h1;exact key e2 h2 s R' (.inl (R'.sub.seq h1))
 |_=>cases e2
theorem S7(hK:X.K=G.K):∀{ds d H1 H1' a xs},Wr ds=some d->SqL X.K H1' a xs->r6 G H1 ds xs->sq H1 H1'->∃n:Nat,Wp X.K H1' a n/\d=.int n:=λ{ds d H1 H1' a xs} e2 hq h2 s=>by
 unfold Wr at e2;split at e2
 ·rename_i x y;split at e2
  ·rename_i k1 k2 f1 f2;split at e2
   ·cases e2
   ·rename_i ne;cases e2;unfold r6 r6 r6 at h2;obtain⟨v1,r1,rfl,c1,v2,r2,rfl,c2,rfl⟩:=h2;unfold Rep at c1 c2;obtain⟨p,ys,rfl,d1,d2⟩:=c1;obtain⟨q,zs,rfl,d3,d4⟩:=c2;rw[<-hK,AQ d2 f1]at d1;rw[<-hK,AQ d4 f2]at d3;exact⟨2,.inr ⟨p,q,k1,k2,hq,SqT.mono s d1,SqT.mono s d3,ne,rfl⟩,rfl⟩
  ·cases e2
 ·cases e2
theorem NQ(hK:X.K=G.K)(h:PE X e (Io Wp X.K (tF G f))):PE X e (tF G (c1 Ip f)):=La hK .inl (S7 hK) h
end
theorem Iq(h:(sI P w).is k v=true):RelV (kV k) v:=by
 rcases tQ h with ⟨i,t,rfl,rfl⟩|⟨x,t,rfl,rfl⟩
 ·exact⟨t,rfl⟩
 ·exact⟨t,rfl⟩
def Itd(a:Addr)(o:Obj)(kvs:List (Key×V)):It:=
 ⟨λi H=>i<kvs.length/\H a=some (.frz o (.dK kvs)),λi H x H'=>H'=H/\∃k z,kvs[i]?=some (k,z)/\x=kV k,λi H=>kvs.length<=i/\H a=some (.frz o (.dK kvs))⟩
variable{kvs:List (Key×V)}{vs:List (Key×aa)}
section
variable{X:Cx}{pins:cy}{σ:St}{H:Hp}{s:ae}
theorem yd(I:Inv X pins σ H s)(e:H a=some (.frz o (.dK kvs)))(hd:o.data=.dict es ep):
  (a==sysModules)=false/\s.heap.get? a=some o/\∃vs,KV kvs vs/\s.heap.DictAt (sI X.prog X.w) a vs ep:=by
 obtain⟨q0,_,y,vs,r,ob,es',ep',q1,q2,q3,q4⟩:=(show tL X.prog X.w H s.heap a (.frz o (.dK kvs)) from I.hok a _ e);rw[q0]at q1;cases q1;rw[hd]at q3;cases q3;exact⟨y,q0,vs,r,o,es,q0,q2,hd,q4⟩
theorem Ws(r:KV kvs vs){k:Key}{x:aa}(e:vs[i]?=some (k,x)):∃z,kvs[i]?=some (k,z):=by
 induction r generalizing i with
 |nil=>cases e
 |@cons p q l l' h _ ih=>
  cases i with
  |zero=>obtain⟨pk,pv⟩:=p;cases e;exact⟨pv,by rw[show pk=k from h.1];rfl⟩
  |succ i=>exact ih e
end
theorem NR{K:ar}(a it:Addr)(o:Obj)(kvs:List (Key×V)):Turn P w K tg (Itd a o kvs) [it] it (λi h=>∃es ep,o.data=.dict es ep/\h.IsKeyIter it a i kvs.length ep) where
 mem:=by simp
 obj:=λi h st b hb=>by
  have e:b=it:=by simpa using hb
  subst e;obtain⟨es,ep,hd,ob,e,c,d⟩:=st;exact⟨ob,e,λv z=>by rw[d]at z;cases z⟩
 keep:=λi h h' st k=>by obtain⟨es,ep,hd,x⟩:=st;exact⟨es,ep,hd,x.at λo e=>k it (by simp) o e⟩
 item:=by
  intro X hP hw hK hc i pins s σ H E I hf st hg;subst hP hw hK;obtain⟨hi,he⟩:=hg;obtain⟨es,ep,hd,ki⟩:=st;obtain⟨f0,f1,f2,f3,f4,f5⟩:=hf it (by simp);obtain⟨_,_,vs,r,da⟩:=yd I he hd;have hl:kvs.length=vs.length:=r.length;have hne:a≠it:=λz=>by subst z;rw[he]at f0;cases f0
  have W:=pE (knd:=sI X.prog X.w) (A:=X.A) (I.ok.hd hc) it a hne vs ep;refine W.item i s _ _ (by omega) ⟨by rw[<-hl];exact ki,da⟩ λv h' tk hv st' kk=>?_;obtain⟨k,x,hx,hk⟩:=hv;obtain⟨z,hz⟩:=Ws r hx;have I1:Inv X pins σ H { s with heap:=h',toks:=tk }:=I.turned (λb o hb e=>kk b o (by simpa using hb) e) f0 f1 f3 f4 f5;obtain⟨ki',_⟩:=st';rw[<-hl]at ki';obtain⟨ob,e,c,d⟩:=id ki';exact⟨v,rfl,LO (s:={ s with heap:=h',toks:=tk }) e c d (by decide) ⟨kV k,H,I1,Iq hk,⟨rfl,k,z,hz,rfl⟩,⟨es,ep,hd,ki'⟩,λb hb=>(hf b hb).1⟩⟩
 done:=by intro X hP hw hK hc i pins s σ H E I hf st hg;subst hP hw hK;obtain⟨hi,he⟩:=hg;obtain⟨es,ep,hd,ki⟩:=st;obtain⟨f0,f1,f2,f3,f4,f5⟩:=hf it (by simp);obtain⟨_,_,vs,r,da⟩:=yd I he hd;have hl:kvs.length=vs.length:=r.length;exact wpAny_pyNext_dict_end (I.ok.hd hc) (by rw[<-hl];exact ki) da (gz (by rw[<-hl];exact hi)) λh' eb=>⟨rfl,I.turned (t':=s.toks) (λb o hb e=>eb b o hb e) f0 f1 f3 f4 f5⟩
 self:=λ_ _ _ _ _ st h=>by obtain⟨es,ep,hd,ki⟩:=st;exact wpAny_pyIter_keyiter ki h
section
variable{X:Cx}{G:Bg}{tg:Expr}
def Z2(tl:TE):TI:=λσ H R=>tl σ H λx H1=>∃a o kvs,x=.ref a/\H1 a=some (.frz o (.dK kvs))/\R (Itd a o kvs) H1
theorem S8(hl:PE X l tl):PI X tg l (Z2 tl):=by
 intro pins s σ H R I h;refine thn (hl pins s σ H _ I h) λv s1 ⟨x,H1,I1,r1,q1⟩=>?_;obtain⟨a,o,kvs,e,he,q⟩:=q1;subst e;cases r1;obtain⟨q0,_,y,vs,r,ob,es,ep,e1,e2,e3,e4⟩:=(show tL X.prog X.w H1 s1.heap a (.frz o (.dK kvs)) from I1.hok a _ he);rw[q0]at e1;cases e1;have hl:kvs.length=vs.length:=r.length;refine oR (knd:=sI X.prog X.w) (kvs:=vs) (ep:=ep) y ⟨o,es,q0,e2,e3,e4⟩ ?_;refine⟨s1.heap.objs.size,[s1.heap.objs.size],_,_,H1,rfl,I1.kept (t':=s1.toks) λb o e=>aJ _ e,NR a _ o kvs,⟨es,ep,e3,⟨_,bz _ rfl,rfl,by rw[hl];rfl⟩⟩,λb hb=>?_,q⟩;have e:b=s1.heap.objs.size:=by simpa using hb
 subst e;exact I1.fpOk (aF _) (I1.hok.fresh (aF _))
def Lb:Key->D
 |.inl i=>.int i
 |.inr x=>.str x
theorem Mn(k:Key):Rep G H (Lb k) (kV k):=by
 cases k with
 |inl i=>exact uE i
 |inr x=>exact y9 x
def iD(f:FE):FA:=λρ=>match f ρ with
 |some (.dic ks ds,ρ1)=>if ks.length=ds.length then some (ks.map Lb,ρ1)else none
 |_=>none
theorem PR(h:PI X tg e (Z2 (tF G f))):PI X tg e (tFI G (iD f)):=PI.weak h λσ H R hh=>by
 obtain⟨F,ρ,H0,ds,ρ',R,e,k⟩:=hh;unfold iD at e;split at e
 ·rename_i ks ds' ρ1 e1;split at e
  ·rename_i hlen;cases e;refine⟨F,ρ,H0,_,_,R,e1,λv H1 H1' s R' r=>?_⟩;unfold Rep at r;obtain⟨a,o,xs,rfl,r1,r2,r3⟩:=r;have hz:(ks.zip xs).length=ks.length:=by rw[eL,<- r2,dR]
   refine⟨a,o,_,rfl,R'.sub _ _ r1,k _ _ _ s R' λi H2 H2' t t'=>⟨λd ed=>?_,λhl=>?_⟩⟩
   ·rw[bt]at ed;cases ek:ks[i]? with
    |none=>rw[ek]at ed;cases ed
    |some j=>
     rw[ek]at ed;cases ed;have hi:i<ks.length:=(bS.mp ek).1;refine⟨⟨by rw[hz];exact hi,t' _ _ (t _ _ r1)⟩,λz H3 y=>?_⟩;obtain⟨e3,k',z',hk',rfl⟩:=y;subst e3;have:k'=j:=by rw[nE]at hk';have:=hk'.1;rw[ek]at this;exact(cg this).symm
     subst this;exact⟨H2,sq.refl _,t',sq.refl _,λb o e=>.inl e,Mn _⟩
   ·refine⟨by rw[hz,hl,ag];exact aF _,t' _ _ (t _ _ r1)⟩
  ·cases e
 ·cases e
end
variable{xs:bC}
section
variable{X:Cx}{pins:cy}{σ:St}{H:Hp}{s:ae}
theorem Inv.turnedLaid{T:Addr}{t':Nat}{ch:List Addr}(I:Inv X pins σ H s)(hf:∀b∈ch,Ga X pins H b)(k:∀b o,b∉ch->s.heap.get? b=some o->h'.get? b=some o)
  (hT:s.heap.objs.size<=T) (new:tL X.prog X.w (upd H T (.tup xs)) h' T (.tup xs)):Inv X pins σ (upd H T (.tup xs)) { s with heap:=h',toks:=t' }:=by
 have nT:H T=none:=I.hok.fresh hT;have ne:∀{b:Addr} {u:HO},H b=some u->b≠T:=λe z=>by subst z;rw[nT]at e;cases e
 have nch:∀{b:Addr} {u:HO},H b=some u->b∉ch:=λe z=>by have:=(hf _ z).1;rw[e]at this;cases this
 have lt:∀{b:Addr} {o:Obj},s.heap.get? b=some o->b≠T:=λe z=>by subst z;exact aq (b0 (aM e) hT) (dm _)
 refine I.step (g':=s.gens) (d':=s.drawn) (ch:=ch) (λb hb=>?_) (λb o _ _ hc e _=>k b o hc e) (λb o _ _ hc e _=>⟨o.slots,k b o hc e⟩) (λb o _ e n=>by rw[sf (lt e)];exact n) (λb o hc e=>⟨o,k b o hc e⟩)
  (λb ys e=>by rw[sf (ne e)];exact e) (λb o u e=>by rw[sf (ne e)];exact e) (λb ps e=>⟨#[],by rw[sf (ne e),e];simp⟩) (λm hm=>?_) (λb u e=>?_) I.bare
 ·obtain⟨f0,f1,f2,f3,f4,f5⟩:=hf b hb;exact⟨f3,f1,f4,f5⟩
 ·exact hm.at' λo e=>k _ o (λz=>(hf _ z).2.1 rfl) e
 ·by_cases hb:b=T
  ·subst hb;rw[se]at e;cases e;exact new
  ·rw[sf hb]at e;refine(I.hok b u e).stay (λc v hc q=>k c v ?_ q) (λc q=>by rw[sf (ne q)];exact q) λc ys q=>by rw[sf (ne q)];exact q
   rcases hc with rfl|hc
   ·exact nch e
   ·exact nch hc
def Itz(l1 l2:Addr):It:=
 ⟨λi H=>∃xs ys x y,H l1=some (.lst xs)/\H l2=some (.lst ys)/\xs[i]?=some x/\ys[i]?=some y,
  λi H v H'=>∃p x y,H p=none/\v=.ref p/\H'=upd H p (.tup [x,y])/\(∀xs,H l1=some (.lst xs)->xs[i]?=some x)/\∀ys,H l2=some (.lst ys)->ys[i]?=some y,
  λi H=>∃xs ys,H l1=some (.lst xs)/\H l2=some (.lst ys)/\(xs.length<=i\/ys.length<=i)⟩
end
structure PU(z TI TO i1 i2:Addr):Prop where
 a:TI≠z
 b:TO≠z
 c:i1≠z
 d:i2≠z
 e:TI≠TO
 f:TI≠i1
 g:TI≠i2
 h:TO≠i1
 i:TO≠i2
 j:i1≠i2
theorem Wt(n:Nat):PU (n+4) (n+2) (n+3) n (n+1) where
 a:=(by omega:(n+2:Nat)≠n+4)
 b:=(by omega:(n+3:Nat)≠n+4)
 c:=(by omega:(n:Nat)≠n+4)
 d:=(by omega:(n+1:Nat)≠n+4)
 e:=(by omega:(n+2:Nat)≠n+3)
 f:=(by omega:(n+2:Nat)≠n)
 g:=(by omega:(n+2:Nat)≠n+1)
 h:=(by omega:(n+3:Nat)≠n)
 i:=(by omega:(n+3:Nat)≠n+1)
 j:=(by omega:(n:Nat)≠n+1)
def zTn(z TI TO i1 i2 l1 l2:Addr)(i:Nat)(h:Heap):Prop:=IsZip h z TI TO .none/\IsPair h TI (.ref i1) (.ref i2)/\(∃a b,IsPair h TO a b)/\h.IsListIter i1 l1 i/\h.IsListIter i2 l2 i
theorem PV{P:aU}{w:aI}{K:ar}{elts:List Expr}{x1}{pos:Pos}{z TI TO i1 i2 l1 l2:Addr}(D:PU z TI TO i1 i2):Turn P w K (.Tuple elts x1 pos) (Itz l1 l2) [z,TI,TO,i1,i2] z (zTn z TI TO i1 i2 l1 l2) where
 mem:=by simp
 obj:=λi h st b hb=>by
  obtain⟨hz,h1,⟨a,c,h2⟩,⟨o3,h3,_,d3⟩,⟨o4,h4,_,d4⟩⟩:=st;simp only[aK,bR,or_false]at hb;rcases hb with rfl|rfl|rfl|rfl|rfl
  ·exact⟨_,hz,λv y=>nomatch y⟩
  ·exact⟨_,h1,λv y=>nomatch y⟩
  ·exact⟨_,h2,λv y=>nomatch y⟩
  ·exact⟨o3,h3,λv y=>by rw[d3]at y;cases y⟩
  ·exact⟨o4,h4,λv y=>by rw[d4]at y;cases y⟩
 keep:=λi h h' st k=>by obtain⟨hz,h1,⟨a,c,h2⟩,h3,h4⟩:=st;exact⟨k z (by simp) _ hz,k TI (by simp) _ h1,⟨a,c,k TO (by simp) _ h2⟩,h3.at λo e=>k i1 (by simp) o e,h4.at λo e=>k i2 (by simp) o e⟩
 item:=by
  intro X hP hw hK hc i pins s σ H E I hf st hg;subst hP hw hK;obtain⟨xs,ys,x,y,q1,q2,qx,qy⟩:=hg;obtain⟨hz,hTI,⟨a,b,hTO⟩,h1,h2⟩:=st;obtain⟨its,r1,p1,_⟩:=I.list (SqL.of q1);obtain⟨jts,r2,p2,_⟩:=I.list (SqL.of q2);obtain⟨u1,hu1,ru1⟩:=r1.get qx;obtain⟨u2,hu2,ru2⟩:=r2.get qy;have nf:∀{l:Addr} {u:HO} {c:Addr},H l=some u->c∈[z,TI,TO,i1,i2]->l≠c:=λe hm w=>by subst w;have:=(hf _ hm).1;rw[e]at this;cases this
  have DD:ZipApart z TI TO i1 i2 l1 l2:=⟨D.a,D.b,D.c,D.d,D.e,D.f,D.g,D.h,D.i,D.j,nf q1 (by simp),nf q1 (by simp),nf q1 (by simp),nf q1 (by simp),nf q2 (by simp),nf q2 (by simp),nf q2 (by simp),nf q2 (by simp)⟩;refine wpAny_pyNext_zip_item DD hz hTI hTO h1 h2 p1.isList p2.isList (x:=u1) (y:=u2) (by simpa using hu1) (by simpa using hu2) λh' a1 a2 a3 a4 a5 a6 kk=>?_;refine⟨_,rfl,wpAny_letOwnedTupleGo_zip (s:={ s with heap:=h' }) a1 λh2' hz' sb=>?_⟩;have lt:∀{c:Addr} {o:Obj},s.heap.get? c=some o->s.heap.objs.size≠c:=λe w=>aq (aM e) (by rw[w];exact dm _);have Tz:s.heap.objs.size≠z:=lt hz;have hp:IsPair h2' s.heap.objs.size u1 u2:=sb.extBut _ _ Tz a5;have ch4:∀b∈[z,TO,i1,i2],b∈[z,TI,TO,i1,i2]:=λb hb=>by simp at hb ⊢;rcases hb with rfl|rfl|rfl|rfl<;>simp
  have ok:tL X.prog X.w (upd H s.heap.objs.size (.tup [x,y])) h2' s.heap.objs.size (.tup [x,y]):=⟨by rw[bL];show 2<=16777216;decide,[u1,u2],.cons ru1 (.cons ru2 .nil),_,hp,rfl,_,rfl⟩;have I1:=Inv.turnedLaid (h':=h2') (t':=s.toks) (T:=s.heap.objs.size) (xs:=[x,y]) (ch:=[z,TO,i1,i2]) I (λb hb=>hf b (ch4 b hb))
   (λb o hb e=>sb.extBut _ _ (λw=>hb (by simp[w])) (kk b o (λw=>hb (by simp[w])) (λw=>hb (by simp[w])) (λw=>hb (by simp[w])) (λw=>hb (by simp[w])) e)) (aF _) ok
  refine⟨.ref s.heap.objs.size,_,I1,rfl,⟨_,x,y,I.hok.fresh (aF _),rfl,rfl,λxs' e=>?_,λys' e=>?_⟩,⟨hz',sb.extBut _ _ D.a (kk _ _ D.a D.e D.f D.g hTI),⟨_,_,sb.extBut _ _ D.b a2⟩,a3.extBut sb.extBut D.c,a4.extBut sb.extBut D.d⟩,λb hb=>?_⟩
  ·rw[q1]at e;cases e;exact qx
  ·rw[q2]at e;cases e;exact qy
  ·rw[sf (λw=>?_)]
   ·exact(hf b hb).1
   ·simp only[aK,bR,or_false]at hb;rcases hb with hb|hb|hb|hb|hb
    ·exact lt hz (w.symm.trans hb)
    ·exact lt hTI (w.symm.trans hb)
    ·exact lt hTO (w.symm.trans hb)
    ·obtain⟨o,e,_⟩:=h1;exact lt e (w.symm.trans hb)
    ·obtain⟨o,e,_⟩:=h2;exact lt e (w.symm.trans hb)
 done:=by
  intro X hP hw hK hc i pins s σ H E I hf st hg;subst hP hw hK;obtain⟨xs,ys,q1,q2,hend⟩:=hg;obtain⟨hz,hTI,⟨a,b,hTO⟩,h1,h2⟩:=st;obtain⟨its,r1,p1,_⟩:=I.list (SqL.of q1);obtain⟨jts,r2,p2,_⟩:=I.list (SqL.of q2);have nf:∀{l:Addr} {u:HO} {c:Addr},H l=some u->c∈[z,TI,TO,i1,i2]->l≠c:=λe hm w=>by subst w;have:=(hf _ hm).1;rw[e]at this;cases this
  have DD:ZipApart z TI TO i1 i2 l1 l2:=⟨D.a,D.b,D.c,D.d,D.e,D.f,D.g,D.h,D.i,D.j,nf q1 (by simp),nf q1 (by simp),nf q1 (by simp),nf q1 (by simp),nf q2 (by simp),nf q2 (by simp),nf q2 (by simp),nf q2 (by simp)⟩;have e1:=r1.length;have e2:=r2.length;refine wpAny_pyNext_zip_end (I.ok.hd hc) DD hz hTI hTO h1 h2 p1.isList p2.isList ?_ λh' kk=>⟨rfl,?_⟩
  ·rcases hend with w|w
   ·exact .inl (by simp;omega)
   ·exact .inr (by simp;omega)
  ·have ch4:∀b∈[z,TO,i1,i2],b∈[z,TI,TO,i1,i2]:=λb hb=>by simp at hb ⊢;rcases hb with rfl|rfl|rfl|rfl<;>simp
   have nch:∀{b:Addr} {u:HO},H b=some u->b∉[z,TO,i1,i2]:=λe w=>by have:=(hf _ (ch4 _ w)).1;rw[e]at this;cases this
   have k:∀b o,b∉[z,TO,i1,i2]->s.heap.get? b=some o->h'.get? b=some o:=λb o hb e=>kk b o (λw=>hb (by simp[w])) (λw=>hb (by simp[w])) (λw=>hb (by simp[w])) (λw=>hb (by simp[w])) e;refine I.step (g':=s.gens) (d':=s.drawn) (t':=s.toks) (ch:=[z,TO,i1,i2]) (λb hb=>?_) (λb o _ _ hc e _=>k b o hc e) (λb o _ _ hc e _=>⟨o.slots,k b o hc e⟩) (λb o _ e n=>n) (λb o hc e=>⟨o,k b o hc e⟩)
    (λb ys e=>e) (λb o u e=>e) (λb ps e=>⟨#[],by rw[e];simp⟩) (λm hm=>?_) (λb u e=>?_) I.bare
   ·obtain⟨f0,f1,f2,f3,f4,f5⟩:=hf b (ch4 b hb);exact⟨f3,f1,f4,f5⟩
   ·exact hm.at' λo e=>k _ o (λw=>(hf _ (ch4 _ w)).2.1 rfl) e
   ·refine(I.hok b u e).stay (λc v hc q=>k c v ?_ q) (λc q=>q) λc ys q=>q;rcases hc with rfl|hc
    ·exact nch e
    ·exact nch hc
 self:=λ_ _ _ _ _ st h=>wpAny_pyIter_zip st.1 h
section
variable{X:Cx}{G:Bg}{elts:List Expr}{x1:Nat}{tpos:Pos}
def Z3(ta:TA):TI:=λσ H R=>ta σ H λvs H1=>∃a b xs ys,vs=[.ref a,.ref b]/\H1 a=some (.lst xs)/\H1 b=some (.lst ys)/\R (Itz a b) H1
theorem Wu(hg:Gl X "zip")(hm:X.mg "zip" = none)(ha:PA X [a,b] ta)(hs:starEach [a,b] X.env=[(false,eval a X.env),(false,eval b X.env)]:=by rfl)(hs2:starEach [b] X.env=[(false,eval b X.env)]:=by rfl):
  PI X (.Tuple elts x1 tpos) (.Call (.Name "zip" p) [a,b] [] pos) (Z3 ta):=by
 intro pins s σ H R I h;refine Call_ (Bp I hg hm boot_zip (callWith_type1 (thn (ha pos pins s σ H _ I h) λus s1 ⟨vs,H1,I1,r1,q1⟩=>?_) (by rw[hs,hs2]) (by rw[hs2];rfl)));obtain⟨a',b',xs,ys,rfl,e1,e2,q⟩:=q1;obtain⟨u,v,rfl,ru,rv⟩:=vals2 r1;cases ru;cases rv;obtain⟨its,_,p1,_⟩:=I1.list (SqL.of e1);obtain⟨jts,_,p2,_⟩:=I1.list (SqL.of e2);refine call_zip_2 p1.isList p2.isList λh' z1 z2 z3 z4 z5 z6 kk=>?_;refine wpAny_pyIter_zip z1 ?_;have I2:Inv X pins σ H1 { s1 with heap:=h' }:=I1.kept (t':=s1.toks) kk;have D:=Wt s1.heap.objs.size;refine⟨_,_,_,_,H1,rfl,I2,PV D,⟨z1,z2,⟨_,_,z3⟩,z4,z5⟩,λc hc=>?_,q⟩;have hc':s1.heap.objs.size<=c:=by simp only[aK,bR,or_false]at hc;rcases hc with rfl|rfl|rfl|rfl|rfl<;>first|exact gQ _ _|exact aF _
 exact I1.fpOk hc' (I1.hok.fresh hc')
def BZ(ds es:aS):aS:=c4 (λd e=>D.tup [d,e]) ds es
def iZ(f:FA):FA:=λρ=>match f ρ with
 |some ([.lst ds,.lst es],ρ1)=>some (BZ ds es,ρ1)
 |_=>none
theorem JI(ds es:aS):(BZ ds es).length=min ds.length es.length:=by unfold BZ;rw[km]
theorem S9(h:PI X tg e (Z3 (tFA G f))):PI X tg e (tFI G (iZ f)):=PI.weak h λσ H R hh=>by
 obtain⟨F,ρ,H0,ds,ρ',R,e,k⟩:=hh;unfold iZ at e;split at e
 ·rename_i ds' es' ρ1 e1;cases e;refine⟨F,ρ,H0,_,_,R,e1,λvs H1 H1' s R' rs=>?_⟩;unfold r6 at rs;obtain⟨v1,r1,rfl,h1,rs⟩:=rs;unfold r6 at rs;obtain⟨v2,r2,rfl,h2,rs⟩:=rs;unfold r6 at rs;subst rs;unfold Rep at h1 h2;obtain⟨a,xs,rfl,a1,a2⟩:=h1;obtain⟨b,ys,rfl,b1,b2⟩:=h2;refine⟨a,b,xs,ys,rfl,R'.sub _ _ a1,R'.sub _ _ b1,k _ _ _ s R' λi H2 H2' t t'=>?_⟩;have g1:H2' a=some (.lst xs):=t' _ _ (t _ _ a1);have g2:H2' b=some (.lst ys):=t' _ _ (t _ _ b1);refine⟨λd ed=>?_,λhl=>⟨xs,ys,g1,g2,?_⟩⟩
  ·unfold BZ at ed;rw[ka]at ed;cases ex:ds'[i]? with
   |none=>rw[ex]at ed;cases ed
   |some dx=>
    cases ey:es'[i]? with
    |none=>rw[ex,ey]at ed;cases ed
    |some dy=>
     rw[ex,ey]at ed;cases ed;obtain⟨vx,x1',x2⟩:=um a2 ex;obtain⟨vy,y1',y2⟩:=um b2 ey;refine⟨⟨xs,ys,vx,vy,g1,g2,x1',y1'⟩,λx H3 y=>?_⟩;obtain⟨p,x',y',hp,rfl,rfl,w1,w2⟩:=y;have e1':=w1 xs g1;have e2':=w2 ys g2;rw[x1']at e1';rw[y1']at e2';cases e1';cases e2';have p0:H2 p=none:=by
      cases q:H2 p with
      |none=>rfl
      |some o=>have:=t' _ _ q;rw[hp]at this;cases this
     refine⟨upd H2 p (.tup [vx,vy]),sv p0 _,λb o e=>?_,sv hp _,λb o e=>?_,y8 (SqT.of se) ?_⟩
     ·by_cases hb:b=p
      ·subst hb;rw[se]at e ⊢;exact e
      ·rw[sf hb]at e ⊢;exact t' _ _ e
     ·by_cases hb:b=p
      ·subst hb;exact .inr hp
      ·rw[sf hb]at e;exact .inl e
     ·have m:=t.trans (sv p0 (.tup [vx,vy]));exact sP (Rep.mono m _ _ x2) (sP (Rep.mono m _ _ y2) sR)
  ·rw[JI]at hl;rw[<-r9 a2,<- r9 b2];omega
 ·cases e
end
mutual
def noC(N c:Nat):D->Bool
 |.non=>true
 |.bl _=>true
 |.int _=>true
 |.str _=>true
 |.tup ds=>JJ N c ds
 |.lst ds=>JJ N c ds
 |.fzl ds=>JJ N c ds
 |.obj k _ ds=>decide (k<N)&&decide (k≠c)&&JJ N c ds
 |.dic _ ds=>JJ N c ds
def JJ(N c:Nat):aS->Bool
 |[]=>true
 |d::ds=>noC N c d&&JJ N c ds
end
def without(H:Hp)(a:Addr):Hp:=λb=>if b=a then none else H b
theorem Fe(h:b≠a):without H a b=H b:=by unfold without;rw[aj h]
theorem B2(h:without H a b=some o):b≠a/\H b=some o:=by
 unfold without at h;by_cases hb:b=a
 ·rw[ai hb]at h;cases h
 ·rw[aj hb]at h;exact⟨hb,h⟩
theorem vG(ha:H a=some u)(hb:H b=some v)(d:u≠v):without H a b=some v:=by rw[Fe (λz=>by subst z;rw[ha]at hb;exact d (cg hb))];exact hb
section
variable{G:Bg}{H:Hp}{a dx:Addr}{fs:List (Str×V)}{N c:Nat}
theorem JK(ha:H a=some (.ins (G.ca c) dx fs))(h:SqT G.K H p xs):SqT G.K (without H a) p xs:=by
 rcases h with (h|⟨o,h⟩)|h
 ·exact .inl (.inl (vG ha h (λz=>nomatch z)))
 ·exact .inl (.inr ⟨o,vG ha h (λz=>nomatch z)⟩)
 ·exact .inr h
theorem JL(ha:H a=some (.ins (G.ca c) dx fs))(h:SqL G.K H p xs):SqL G.K (without H a) p xs:=by
 rcases h with (h|⟨o,h⟩)|h
 ·exact .inl (.inl (vG ha h (λz=>nomatch z)))
 ·exact .inl (.inr ⟨o,vG ha h (λz=>nomatch z)⟩)
 ·exact .inr h
mutual
theorem DB(inj:∀j k,j<N->k<N->G.ca j=G.ca k->j=k)(hc:c<N)(ha:H a=some (.ins (G.ca c) dx fs)):∀(d:D) (v:V),noC N c d=true->Rep G H d v->Rep G (without H a) d v
 |.non,v,_,h=>by unfold Rep at h ⊢;exact h
 |.bl _,v,_,h=>by unfold Rep at h ⊢;exact h
 |.int _,v,_,h=>by unfold Rep at h ⊢;exact h
 |.str _,v,_,h=>by unfold Rep at h ⊢;exact h
 |.tup ds,v,n,h=>by unfold noC at n;unfold Rep at h ⊢;obtain⟨p,xs,e,h1,h2⟩:=h;exact⟨p,xs,e,JK ha h1,vg inj hc ha ds xs n h2⟩
 |.lst ds,v,n,h=>by unfold noC at n;unfold Rep at h ⊢;obtain⟨p,xs,e,h1,h2⟩:=h;exact⟨p,xs,e,vG ha h1 (λz=>nomatch z),vg inj hc ha ds xs n h2⟩
 |.fzl ds,v,n,h=>by unfold noC at n;unfold Rep at h ⊢;obtain⟨p,xs,e,h1,h2⟩:=h;exact⟨p,xs,e,JL ha h1,vg inj hc ha ds xs n h2⟩
 |.obj k ns ds,v,n,h=>by unfold noC at n;simp only[bh,bA]at n;unfold Rep at h ⊢;obtain⟨p,dx',xs,e,h1,h2,h3⟩:=h;refine⟨p,dx',xs,e,vG ha h1 (λz=>?_),h2,vg inj hc ha ds xs n.2 h3⟩;injection z with z1;exact n.1.2 (inj k c n.1.1 hc z1.symm)
 |.dic ks ds,v,n,h=>by unfold noC at n;unfold Rep at h ⊢;obtain⟨p,o,xs,e,h1,h2,h3⟩:=h;exact⟨p,o,xs,e,vG ha h1 (λz=>nomatch z),h2,vg inj hc ha ds xs n h3⟩
theorem vg(inj:∀j k,j<N->k<N->G.ca j=G.ca k->j=k)(hc:c<N)(ha:H a=some (.ins (G.ca c) dx fs)):∀(ds:aS) (xs:bC),JJ N c ds=true->r6 G H ds xs->r6 G (without H a) ds xs
 |[],xs,_,h=>by unfold r6 at h ⊢;exact h
 |d::ds,xs,n,h=>by unfold JJ at n;simp only[bh]at n;unfold r6 at h ⊢;obtain⟨v,r,e,h1,h2⟩:=h;exact⟨v,r,e,DB inj hc ha d v n.1 h1,vg inj hc ha ds r n.2 h2⟩
end
end
def Bv:Sl->Sl
 |.im d=>.im d
 |_=>.un
def ye(N:Nat)(f:FE):FE:=λρ=>match ρ with
 |.ob c ns ds::r=>match f (.im (.obj c ns ds)::r.map Bv)with
  |some (d,_)=>if (decide (c<N)&&noC N c d)=true then some (d,ρ)else none
  |none=>none
 |_=>none
section
variable{X:Cx}{G:Bg}
theorem Lc:(Bv s).own=false:=by cases s<;>rfl
theorem Ta(inj:∀j k,j<N->k<N->G.ca j=G.ca k->j=k)(h:PE X e (tF G f)):PE X e (tF G (ye N f)):=PE.weak h λσ H Q hh=>by
 obtain⟨F,ρ,H0,d,ρ',R,e,k⟩:=hh;unfold ye at e;split at e
 ·rename_i c ns ds r;rcases sO (f:=f) (ρ:=.im (.obj c ns ds)::r.map Bv)with e1|⟨x,ρ1,e1⟩<;>simp only[e1]at e
  ·cases e
  split at e
  ·rename_i hn;cases e;simp only[bh,bA]at hn;obtain⟨a,dx,xs,h1,h2,h3,h4,h5,h6⟩:=R.sl 0 _ rfl;have RL:sC G ⟨upd H0 a (.ins (G.ca c) dx (ns.zip xs)),H,[]⟩ σ (.im (.obj c ns ds)::r.map Bv) (upd H0 a (.ins (G.ca c) dx (ns.zip xs))) H:={
    sub:=λb o q=>by
     by_cases hb:b=a
     ·subst hb;rw[se]at q;cases q;exact h2
     ·rw[sf hb]at q;exact R.sub _ _ q
    g0:=sq.refl _
    keep:=λb o q _=>q
    fr:=λb o q=>.inl q
    am:=λb q=>by cases q
    len:=by have:=R.len;simpa using this
    sl:=λi s q=>by
     cases i with
     |zero=>cases q;exact⟨.ref a,h1,by unfold Rep;exact⟨a,dx,xs,rfl,se,h5,r6.mono (sv h3 _) _ _ h6⟩⟩
     |succ i=>
      have q':(r.map Bv)[i]?=some s:=q;rw[bt]at q';cases q1:r[i]? with
      |none=>rw[q1]at q';cases q'
      |some t=>
       rw[q1]at q';cases q';have ok:=R.sl (i+1) t q1;cases t with
       |im d=>obtain⟨v,g1,g2⟩:=ok;exact⟨v,g1,Rep.mono (sv h3 _) _ _ g2⟩
       |_=>trivial
    ap:=λi j s t b _ qi _ so=>by
     cases i with
     |zero=>cases qi;cases so
     |succ i=>
      have q':(r.map Bv)[i]?=some s:=qi;rw[bt]at q';cases q1:r[i]? with
      |none=>rw[q1]at q';cases q'
      |some t=>rw[q1]at q';cases q';rw[Lc]at so;cases so }
   refine⟨_,_,_,d,ρ1,RL,e1,λv H1 H1' s R' rd=>?_⟩;have ha:H1 a=some (.ins (G.ca c) dx (ns.zip xs)):=s _ _ se;have s0:sq H0 (without H1 a):=λb o q=>by
    have hb:b≠a:=λz=>by subst z;rw[h3]at q;cases q
    rw[Fe hb];exact s b o (by rw[sf hb];exact q)
   refine k v (without H1 a) H1' s0 ?_ (DB inj hn.1 ha d v hn.2 rd);refine R.grow (λb o q=>R'.keep b o q (by simp)) s0 (λb o q=>R'.sub _ _ (B2 q).2) λb o q=>?_;obtain⟨hb,q⟩:=B2 q;rcases R'.fr b o q with z|z
   ·have z':upd H0 a (.ins (G.ca c) dx (ns.zip xs)) b=some o:=z;rw[sf hb]at z';exact .inl z'
   ·exact .inr z
  ·cases e
 ·cases e
end
section
variable{X:Cx}{pins:cy}{σ:St}{H:Hp}{s:ae}{a:Addr}{A:aQ}{E:aa->ae->Prop}
theorem Wv(I:Inv X pins σ H s)(e:H a=some (.dK kvs))(ry:RelV (kV k) u)(rz:RelV z r)(hl:kvs.length<sizeLine)
  (h1:∀v w s',vR kvs k=some v->Inv X pins σ H s'->RelV v w->Q w s') (h2:∀s',vR kvs k=none->Inv X pins σ (upd H a (.dK (putK kvs k z))) s'->Q r s'):
  wpAny (model X.prog X.w) A (call (.builtin "dict.setdefault") [.ref a,u,r]) Q E s:=by
 obtain⟨y,hd,vs,rel,dd⟩:=OK I.hok e;have hz:vs.length<=sizeLine:=by rw[<-rel.length];exact y
 have hp:(putK kvs k z).length<=sizeLine:=by have:=ya kvs k z;omega
 have rv:=rel.val k;refine fK nR dd.typeIs F.entry_dict_setdefault (F.args_dict_setdefault_3 _ _ _) (kt_meets_setdefault (sI X.prog X.w) a (A7 ry) hd r) ⟨vs,dd,hz,λw hw=>?_,λhn h' dd' hs=>?_⟩
 ·rw[hw]at rv;cases ev:vR kvs k with
  |none=>rw[ev]at rv;exact rv.elim
  |some v=>rw[ev]at rv;exact h1 v w _ ev (I.tok _) rv
 ·rw[hn]at rv;cases ev:vR kvs k with
  |some v=>rw[ev]at rv;exact rv.elim
  |none=>have he:∃q,h'.get? a=some q:=let ⟨q,_,_,hq,_⟩:=dd';⟨q,hq⟩;exact h2 _ ev (Ep I (by rw[e];exact True.intro) hs he (KO hp hd (rel.put k rz) dd'))
def PX(td ty tx:TE):TE:=λσ H Q=>td σ H λx H1=>∃a,x=.ref a/\IsD H1 a/\ty σ H1 λy H2=>tx σ H2 λz H3=>∃kvs k,H3 a=some (.dK kvs)/\y=kV k/\kvs.length<sizeLine/\
 (∀v,vR kvs k=some v->Q v H3)/\(vR kvs k=none->Q z (upd H3 a (.dK (putK kvs k z))))
theorem PY(ho:PE X o td)(he:PE X e ty)(hf:PE X f tx)(m:M2 X o "setdefault" apos e f cpos):PE X (.Call (.Attribute o "setdefault" apos) [e,f] [] cpos) (PX td ty tx):=by
 intro pins s σ H Q I h;refine kC m.base m.few m.line iQ nR F.type_dict_setdefault (thn (ho pins s σ H _ I h) λu s1 ⟨x,H1,I1,rx,a,ex,d,q1⟩=>?_);subst ex;obtain rfl:u=Value.ref a:=rx;obtain⟨t1,t2,_⟩:=HZ I1 d;refine⟨t1,t2,?_⟩;rw[m.trees];refine gu rfl (iM (eE (thn (he pins s1 σ H1 _ I1 q1) λiv s2 ⟨y,H2,I2,ry,q2⟩=>
  eE (thn (hf pins s2 σ H2 _ I2 q2) λfv s3 ⟨z,H3,I3,rz,kvs,k,e3,ey,hl,g1,g2⟩=>gG ?_))))
 subst ey;exact Wv I3 e3 ry rz hl (λv w s' ev I' rw'=>⟨v,H3,I',rw',g1 v ev⟩) λs' ev I'=>⟨z,_,I',rz,g2 ev⟩
end
def Gj(ks:List Key)(dss:List aS)(k:Key)(d:D):List Key×List aS:=
 if E8 ks k=true then (ks,c4 (λk' ds=>if k'=k then ds++[d]else ds) ks dss)else (ks++[k],dss++[[d]])
theorem JM:E8 ks k=true ↔ k∈ks:=by unfold E8;rw[fD];exact⟨λ⟨x,h1,h2⟩=>bo h2▸h1,λh=>⟨k,h,aX rfl⟩⟩
theorem PZ{vs:bC}:ks.length=vs.length->vR (ks.zip vs) k=some v->∃j:Nat,ks[j]?=some k/\vs[j]?=some v:=by
 induction ks generalizing vs with
 |nil=>intro _ h;cases h
 |cons k0 ks ih=>
  intro hl h;cases vs with
  |nil=>cases hl
  |cons v0 vs=>
   unfold vR at h;rw[df,dM]at h;by_cases e:k0=k
   ·subst e;simp only[decide_true]at h;cases h;exact⟨0,rfl,rfl⟩
   ·simp only[e,decide_false]at h;obtain⟨j,h1,h2⟩:=ih (by simpa using hl) h;exact⟨j+1,h1,h2⟩
theorem P3{vs:bC}:ks.length=vs.length->vR (ks.zip vs) k=none->k∉ks:=by
 induction ks generalizing vs with
 |nil=>intro _ _ h;cases h
 |cons k0 ks ih=>
  intro hl h hm;cases vs with
  |nil=>cases hl
  |cons v0 vs=>
   unfold vR at h;rw[df,dM]at h;by_cases e:k0=k
   ·subst e;simp only[decide_true]at h;cases h
   ·simp only[e,decide_false]at h;rcases aK.mp hm with z|z
    ·exact e z.symm
    ·exact ih (by simpa using hl) h z
structure Grp(G:Bg)(F:Fr)(H0 H:Hp)(a:Addr)(ks:List Key)(dss:List aS)(bs:List Addr):Prop where
 at_:H a=some (.dK (ks.zip (bs.map V.ref)))
 n0:H0 a=none
 nB:F.B a=none
 len:ks.length=bs.length
 len':bs.length=dss.length
 nd:bs.Nodup
 kd:ks.Nodup
 each:∀(i:Nat) (b:Addr) (ds:aS),bs[i]?=some b->dss[i]?=some ds->∃xs,H b=some (.lst xs)/\H0 b=none/\F.B b=none/\r6 G H0 ds xs
variable{j:Nat}{b:Addr}
section
variable{G:Bg}{F:Fr}{σ:St}{ρ:aZ}{H0 H H0' H':Hp}{a:Addr}{ks:List Key}{dss:List aS}{bs:List Addr}
theorem Grp.grow(g:Grp G F H0 H a ks dss bs)(hs:sq H H')(h0:sq H0 H0')(hf:∀b o,H0' b=some o->H0 b=some o\/H b=none):Grp G F H0' H' a ks dss bs where
 at_:=hs _ _ g.at_
 n0:=by
  cases q:H0' a with
  |none=>rfl
  |some o=>
   rcases hf a o q with z|z
   ·rw[g.n0]at z;cases z
   ·rw[g.at_]at z;cases z
 nB:=g.nB
 len:=g.len
 len':=g.len'
 nd:=g.nd
 kd:=g.kd
 each:=λi b ds e1 e2=>by
  obtain⟨xs,q1,q2,q3,q4⟩:=g.each i b ds e1 e2;refine⟨xs,hs _ _ q1,?_,q3,r6.mono h0 _ _ q4⟩;cases q:H0' b with
  |none=>rfl
  |some o=>
   rcases hf b o q with z|z
   ·rw[q2]at z;cases z
   ·rw[q1]at z;cases z
theorem sC.still(R:sC G F σ ρ H0 H)(no:∀s∈ρ,s.own=false):sC G ⟨H0,H,[]⟩ σ ρ H0 H where
 sub:=R.sub
 g0:=sq.refl _
 keep:=λb o e _=>e
 fr:=λb o e=>.inl e
 am:=λa h=>by cases h
 len:=R.len
 sl:=λi s e=>by
  have ok:=R.sl i s e;have n:=no s (cA e);cases s with
  |un=>trivial
  |im d=>exact ok
  |_=>cases n
 ap:=λi j s t b _ e _ so=>by rw[no s (cA e)]at so;cases so
theorem sC.touch(R:sC G F σ ρ H0 H)(no:∀s∈ρ,s.own=false)(hk:∀b o,H b=some o->(H0 b≠none\/F.B b≠none)->H' b=some o)(ha:∀b o,H b=some o->∃o',H' b=some o'):sC G F σ ρ H0 H' where
 sub:=λb o e=>hk b o (R.sub _ _ e) (.inl (by rw[e];exact λz=>nomatch z))
 g0:=R.g0
 keep:=λb o e n=>hk b o (R.keep b o e n) (.inr (by rw[e];exact λz=>nomatch z))
 fr:=R.fr
 am:=λb hb=>by obtain⟨o,e⟩:=R.am b hb;exact ha b o e
 len:=R.len
 sl:=λi s e=>by
  have ok:=R.sl i s e;have n:=no s (cA e);cases s with
  |un=>trivial
  |im d=>exact ok
  |_=>cases n
 ap:=λi j s t b _ e _ so=>by rw[no s (cA e)]at so;cases so
theorem Ww{bs:List Addr}(h:bs.Nodup)(e1:bs[i]?=some b)(e2:bs[j]?=some b):i=j:=by obtain⟨h1,q1⟩:=bS.mp e1;obtain⟨h2,q2⟩:=bS.mp e2;exact(kD h).mp (q1.trans q2.symm)
theorem Wx{ks:List Key}(h:ks.Nodup){b:Key}(e1:ks[i]?=some b)(e2:ks[j]?=some b):i=j:=by obtain⟨h1,q1⟩:=bS.mp e1;obtain⟨h2,q2⟩:=bS.mp e2;exact(kD h).mp (q1.trans q2.symm)
theorem Grp.more(g:Grp G F H0 H a ks dss bs){k:Key}{d:D}{v:V}(ek:ks[j]?=some k)(eb:bs[j]?=some b)(hx:H b=some (.lst xs))(rd:Rep G H0 d v):
  Grp G F H0 (upd H b (.lst (xs++[v]))) a (Gj ks dss k d).1 (Gj ks dss k d).2 bs:=by
 have hm:E8 ks k=true:=JM.mpr (cA ek);unfold Gj;rw[ai hm];have ne:a≠b:=λz=>by subst z;rw[g.at_]at hx;cases hx
 refine⟨by rw[sf ne];exact g.at_,g.n0,g.nB,g.len,?_,g.nd,g.kd,λi c ds e1 e2=>?_⟩
 ·rw[km,<- g.len',<- g.len,dR,g.len]
 ·rw[ka]at e2;cases q1:ks[i]? with
  |none=>rw[q1]at e2;cases e2
  |some k'=>
   cases q2:dss[i]? with
   |none=>rw[q1,q2]at e2;cases e2
   |some ds'=>
    rw[q1,q2]at e2;cases e2;obtain⟨ys,w1,w2,w3,w4⟩:=g.each i c ds' e1 q2;by_cases hk:k'=k
    ·subst hk;have ij:=Wx g.kd q1 ek;subst ij;rw[e1]at eb;cases eb;rw[w1]at hx;cases hx;rw[ai rfl];exact⟨_,se,w2,w3,uI w4 (sP rd sR)⟩
    ·rw[aj hk];have nc:c≠b:=λz=>by subst z;have ij:=Ww g.nd e1 eb;subst ij;rw[q1]at ek;cases ek;exact hk rfl
     exact⟨ys,by rw[sf nc];exact w1,w2,w3,w4⟩
theorem Grp.fresh(g:Grp G F H0 H a ks dss bs)(hk:k∉ks)(hp:H p=none)(h0:H0 p=none)(hB:F.B p=none)(rd:Rep G H0 d v):
  Grp G F H0 (upd (upd (upd H p (.lst [])) a (.dK ((ks++[k]).zip ((bs++[p]).map V.ref)))) p (.lst [v])) a (Gj ks dss k d).1 (Gj ks dss k d).2 (bs++[p]):=by
 have hm:¬E8 ks k=true:=λz=>hk (JM.mp z);unfold Gj;rw[aj hm];have ne:a≠p:=λz=>by subst z;rw[g.at_]at hp;cases hp
 have np:p∉bs:=λz=>by
  obtain⟨i,hi,e⟩:=ko z;have e1:bs[i]?=some p:=by rw[aN hi,e]
  obtain⟨ds,e2⟩:∃ds,dss[i]?=some ds:=⟨dss[i]'(by rw[<-g.len'];exact hi),aN _⟩;obtain⟨ys,w1,_⟩:=g.each i p ds e1 e2;rw[hp]at w1;cases w1
 refine⟨by rw[sf ne,se],g.n0,g.nB,by simp[g.len],by simp[g.len'],?_,?_,λi c ds e1 e2=>?_⟩
 ·rw[bZ];refine⟨g.nd,by simp,λx hx y hy=>?_⟩;rw[aP]at hy;subst hy;exact λz=>np (z▸hx)
 ·rw[bZ];refine⟨g.kd,by simp,λx hx y hy=>?_⟩;rw[aP]at hy;subst hy;exact λz=>hk (z▸hx)
 ·by_cases hi:i<bs.length
  ·rw[cG hi]at e1;rw[cG (by rw[<-g.len'];exact hi)]at e2;obtain⟨ys,w1,w2,w3,w4⟩:=g.each i c ds e1 e2;have nc:c≠p:=λz=>np (z▸cA e1);have na:c≠a:=λz=>by subst z;rw[g.at_]at w1;cases w1
   exact⟨ys,by rw[sf nc,sf na,sf nc];exact w1,w2,w3,w4⟩
  ·have hi':i=bs.length:=by have:i<(bs++[p]).length:=(bS.mp e1).1;rw[aA,ba]at this;omega
   subst hi';rw[cz (aF _),jh]at e1;rw[g.len',cz (aF _),jh]at e2;cases e1;cases e2;exact⟨[v],se,h0,hB,sP rd sR⟩
def JN(G:Bg)(fk:FE):TS:=Uo (tBM G.K "list" HX (PX (yp 1) (tF G fk) (Y9 Jd)) (EE (yp 2) Jd))
theorem P4{D0:Ends}{vr:V}(R:sC G F σ ρ H0 H)(no:∀s∈ρ,s.own=false)(h1:σ[1]?=some (some (.ref a)))(h2:σ[2]?=some (some vr))(rd:Rep G H0 d vr)
  (g:Grp G F H0 H a ks dss bs) (hk:fk ρ=some (x,ρ)) (ek:Ad x=some k) (l1:ks.length<1000) (l2:∀ds∈dss,ds.length<1000)
  (kont:∀Hi Hj bs',sq H0 Hi->sC G F σ ρ Hi Hj->Grp G F Hi Hj a (Gj ks dss k d).1 (Gj ks dss k d).2 bs'->D0.nx σ Hj):JN G fk D0 σ H:=by
 refine⟨.ref a,h1,a,rfl,.inl ⟨_,.inl g.at_⟩,_,_,_,x,ρ,sC.still R no,hk,λv H1 H1' s R1 r=>?_⟩;have hs:sq H H1':=λb o e=>R1.keep b o e (by simp);have hf:∀b o,H1 b=some o->H0 b=some o\/H b=none:=R1.fr;have R2:sC G F σ ρ H1 H1':=R.grow hs s R1.sub hf;have g2:Grp G F H1 H1' a ks dss bs:=g.grow hs s hf;have rd2:=Rep.mono s _ _ rd;refine⟨cj _,λp hp=>?_⟩;have np:a≠p:=λz=>by subst z;rw[g2.at_]at hp;cases hp
 have R3:sC G F σ ρ H1 (upd H1' p (.lst [])):=R2.newOwn hp _;have g3:Grp G F H1 (upd H1' p (.lst [])) a ks dss bs:=g2.grow (sv hp _) (sq.refl _) λb o e=>.inl e;have lz:(ks.zip (bs.map V.ref)).length<sizeLine:=by rw[eL,ag,<- g.len,dR,bL];omega
 refine⟨_,k,g3.at_,zi r ek,lz,λw ev=>?_,λev=>?_⟩
 ·obtain⟨j,e1,e2⟩:=PZ (by rw[ag];exact g.len) ev;rw[bt]at e2;cases eb:bs[j]? with
  |none=>rw[eb]at e2;cases e2
  |some b=>
   rw[eb]at e2;cases e2;obtain⟨ds,ed⟩:∃ds,dss[j]?=some ds:=⟨dss[j]'(by rw[<-g.len'];exact(bS.mp eb).1),aN _⟩;obtain⟨xs,w1,w2,w3,w4⟩:=g3.each j b ds eb ed;have lx:xs.length<sizeLine:=by rw[<-r9 w4,bL];have:=l2 ds (cA ed);omega
   refine⟨.inl ⟨rfl,xs,SqL.of w1⟩,vr,h2,b,xs,vr,rfl,rfl,w1,lx,?_⟩;refine kont H1 _ bs s (sC.touch R3 no (λc o e z=>?_) λc o e=>?_) (g3.more e1 eb w1 rd2)
   ·have nc:c≠b:=λy=>by
     subst y;rcases z with z|z
     ·exact z w2
     ·exact z w3
    rw[sf nc];exact e
   ·by_cases y:c=b
    ·subst y;exact⟨_,se⟩
    ·rw[sf y];exact⟨o,e⟩
 ·have nk:=P3 (by rw[ag];exact g.len) ev;have h0p:H1 p=none:=R2.h0none hp;have hBp:F.B p=none:=R2.bNone hp;have ez:putK (ks.zip (bs.map V.ref)) k (.ref p)=(ks++[k]).zip ((bs++[p]).map V.ref):=by rw[OJ _ ev,bb,pe (by rw[ag];exact g.len)];rfl
  rw[ez];have q0:upd (upd H1' p (.lst [])) a (.dK ((ks++[k]).zip ((bs++[p]).map V.ref))) p=some (.lst []):=by rw[sf (λz=>np z.symm),se]
  refine⟨.inl ⟨rfl,[],SqL.of q0⟩,vr,h2,p,[],vr,rfl,rfl,q0,by rw[bL];decide,?_⟩;refine kont H1 _ (bs++[p]) s (sC.touch R3 no (λc o e z=>?_) λc o e=>?_) (g2.fresh nk hp h0p hBp rd2)
  ·have n1:c≠p:=λy=>by
    subst y;rcases z with z|z
    ·exact z h0p
    ·exact z hBp
   have n2:c≠a:=λy=>by
    subst y;rcases z with z|z
    ·exact z g2.n0
    ·exact z g2.nB
   rw[bJ,sf n1,sf n2];exact e
  ·by_cases y:c=p
   ·subst y;exact⟨_,se⟩
   ·rw[sf y];by_cases y2:c=a
    ·subst y2;exact⟨_,se⟩
    ·rw[sf y2];exact⟨o,e⟩
end
def CT(vk:D->Option D):aS->List Key->List aS->Option (List Key×List aS)
 |[],ks,dss=>some (ks,dss)
 |d::r,ks,dss=>match vk d with
  |some x=>match Ad x with
   |some k=>if (decide (ks.length<1000)&&dss.all λds=>decide (ds.length<1000))=true then CT vk r (Gj ks dss k d).1 (Gj ks dss k d).2 else none
   |none=>none
  |none=>none
def Ld(vk:D->Option D):FS:=λρ=>match ρ with
 |[.im (.lst L),.un,.un]=>match CT vk L [] []with
  |some (ks,dss)=>some (.rt (.dic ks (dss.map .lst)) [.im (.lst L),.un,.un])
  |none=>none
 |_=>none
section
variable{X:Cx}{G:Bg}
theorem DC:∀(bs:List Addr) (dss:List aS),bs.length=dss.length->(∀(i:Nat) (b:Addr) (ds:aS),bs[i]?=some b->dss[i]?=some ds->∃xs,Hq b=some (.lst xs)/\r6 G Hq ds xs)->
  r6 G Hq (dss.map .lst) (bs.map V.ref)
 |[],[],_,_=>sR
 |[],_::_,h,_=>by cases h
 |_::_,[],h,_=>by cases h
 |b::bs,ds::dss,h,k=>by obtain⟨xs,h1,h2⟩:=k 0 b ds rfl rfl;exact sP (yc h1 h2) (DC bs dss (by simpa using h) λi b ds e1 e2=>k (i+1) b ds e1 e2)
theorem Tb(R:sC G F σ [.im (.lst L),.un,s2] H0 H)(g:Grp G F H0 H a ks dss bs)(o:Obj):
  ∃Hq,sq H0 Hq/\sC G F σ [.im (.lst L),.un,.un] Hq (upd H a (.frz o (.dK (ks.zip (bs.map V.ref)))))/\Rep G Hq (.dic ks (dss.map .lst)) (.ref a):=by
 have mb:∀{b:Addr},b∈bs->∃xs,H b=some (.lst xs)/\H0 b=none/\F.B b=none:=λ{b} hb=>by obtain⟨i,hi,e⟩:=ko hb;obtain⟨xs,w1,w2,w3,_⟩:=g.each i b (dss[i]'(by rw[<-g.len'];exact hi)) (by rw[aN hi,e]) (aN _);exact⟨xs,w1,w2,w3⟩
 have na:a∉bs:=λz=>by obtain⟨xs,w1,_⟩:=mb z;rw[g.at_]at w1;cases w1
 have s0:sq H0 (λc=>if c=a then some (.frz o (.dK (ks.zip (bs.map V.ref))))else if c∈bs then H c else H0 c):=λc u e=>by
  have n1:c≠a:=λz=>by subst z;rw[g.n0]at e;cases e
  have n2:c∉bs:=λz=>by obtain⟨_,_,w2,_⟩:=mb z;rw[w2]at e;cases e
  show (if c=a then _ else if c∈bs then H c else H0 c)=_;rw[aj n1,aj n2];exact e
 refine⟨_,s0,?_,?_⟩
 ·exact {
   sub:=λc u e=>by
    have e':(if c=a then some (HO.frz o (.dK (ks.zip (bs.map V.ref))))else if c∈bs then H c else H0 c)=some u:=e;by_cases n1:c=a
    ·subst n1;rw[ai rfl]at e';rw[se];exact e'
    ·rw[aj n1]at e';rw[sf n1];by_cases n2:c∈bs
     ·rw[ai n2]at e';exact e'
     ·rw[aj n2]at e';exact R.sub _ _ e'
   g0:=R.g0.trans s0
   keep:=λc u e n=>by rw[sf (λz=>by subst z;rw[g.nB]at e;cases e)];exact R.keep c u e n
   fr:=λc u e=>by
    have e':(if c=a then some (HO.frz o (.dK (ks.zip (bs.map V.ref))))else if c∈bs then H c else H0 c)=some u:=e;by_cases n1:c=a
    ·subst n1;exact .inr g.nB
    ·rw[aj n1]at e';by_cases n2:c∈bs
     ·obtain⟨_,_,_,w3⟩:=mb n2;exact .inr w3
     ·rw[aj n2]at e';exact R.fr _ _ e'
   am:=λc hc=>by
    by_cases n1:c=a
    ·subst n1;exact⟨_,se⟩
    ·rw[sf n1];exact R.am c hc
   len:=R.len
   sl:=λi s e=>by
    match i,e with
    |0,e=>cases e;obtain⟨v,w1,w2⟩:=R.sl 0 _ rfl;exact⟨v,w1,Rep.mono s0 _ _ w2⟩
    |1,e=>cases e;trivial
    |2,e=>cases e;trivial
    |i+3,e=>cases e
   ap:=λi j s t b _ e _ so=>by
    match i,e with
    |0,e=>cases e;cases so
    |1,e=>cases e;cases so
    |2,e=>cases e;cases so
    |i+3,e=>cases e }
 ·unfold Rep;refine⟨a,o,bs.map V.ref,rfl,by show (if a=a then _ else _)=_;rw[ai rfl],by rw[ag];exact g.len,DC bs dss g.len' λi b ds e1 e2=>?_⟩;obtain⟨xs,w1,w2,w3,w4⟩:=g.each i b ds e1 e2;have hb:=cA e1;refine⟨xs,?_,r6.mono s0 _ _ w4⟩;show (if b=a then _ else if b∈bs then H b else H0 b)=_;have nb:b≠a:=λz=>na (by rw[<-z];exact hb);rw[aj nb,ai hb];exact w1
def P5{L:aS}{s2:Sl}(h:s2.own=false):∀s∈[Sl.im (.lst L),.un,s2],s.own=false:=λs hs=>by
 simp only[aK,bR,or_false]at hs;rcases hs with rfl|rfl|rfl
 ·rfl
 ·rfl
 ·exact h
theorem NS(h1:PS X st1 (CC KP (yG 1)))(h2:PS X st2 (Va (tFI G (iL (cV 0))) (yG 2) (JN G (c1 vk (cV 2)))))
  (h3:PS X st3 (YX (λσ H Q=>yp 1 σ H λx H1=>Q x H1\/∃a kvs,H1 a=some (.dK kvs)/\∀o,Q x (upd H1 a (.frz o (.dK kvs)))))):PSs X [st1,st2,st3] (tFS G (Ld vk)):=
 PSs.weak (EA h1 (EA h2 (HN h3))) λE σ H hh=>by
  obtain⟨F,ρ,H0,o,R,e,k,k2⟩:=hh;unfold Ld at e;split at e
  ·rename_i L;cases eg:CT vk L [] []with
   |none=>simp only[eg]at e;cases e
   |some p=>
    obtain⟨KS,DSS⟩:=p;simp only[eg]at e;cases e;intro p hp;have R1:sC G F (σ.set 1 (some (.ref p))) [.im (.lst L),.un,.un] H0 (upd H p (.dK [])):=(R.newOwn hp (.dK [])).set (i:=1) (v:=.ref p) (s:=.un) trivial (λz=>by cases z);have hlen:σ.length=3:=R.len;have g1:Grp G F H0 (upd H p (.dK [])) p [] [] []:=⟨se,R.h0none hp,R.bNone hp,rfl,rfl,gU,gU,λi b ds e1=>by cases e1⟩;have v1:(σ.set 1 (some (V.ref p)))[1]?=some (some (.ref p)):=by rw[iK (by rw[hlen];decide)]
    refine⟨_,_,_,L,_,sC.still R1 (P5 rfl),rfl,λJ Ha Hb s Ra wk=>?_⟩;have hs:sq (upd H p (.dK [])) Hb:=λb o e=>Ra.keep b o e (by simp);have R2:=R1.grow hs s Ra.sub Ra.fr;have g2:=g1.grow hs s Ra.fr;refine⟨λi m σ' H'=>m=L.length - i/\i<=L.length/\∃Hi ks dss bs s2,sq Ha Hi/\Sl.own s2=false/\sC G F σ' [.im (.lst L),.un,s2] Hi H'/\σ'[1]?=some (some (.ref p))/\Grp G F Hi H' p ks dss bs/\CT vk (L.drop i) ks dss=some (KS,DSS),
     ⟨_,rfl,cj _,Ha,[],[],[],.un,sq.refl _,rfl,R2,v1,g2,eg⟩,?_⟩
    rintro i m σi Hi' ⟨rfl,hi,Hi,ks,dss,bs,s2,si,n2,Ri,vi,gi,ei⟩;by_cases hlt:i<L.length
    ·have ed:L.drop i=L[i]::L.drop (i+1):=j6 hlt;rw[ed]at ei;unfold CT at ei;cases ev:vk L[i]with
     |none=>simp only[ev]at ei;cases ei
     |some x=>
      simp only[ev]at ei;cases ek:Ad x with
      |none=>simp only[ek]at ei;cases ei
      |some kk=>
       simp only[ek]at ei;split at ei
       ·rename_i hb;simp only[bh,bA,bD]at hb;obtain⟨go,yl⟩:=(wk i Hi Hi' si Ri.sub).1 L[i] (aN hlt);refine .inr ⟨go,λσ' H'=>∃Hi ks dss bs s2,sq Ha Hi/\Sl.own s2=false/\sC G F σ' [.im (.lst L),.un,s2] Hi H'/\σ'[1]?=some (some (.ref p))/\Grp G F Hi H' p ks dss bs/\CT vk (L.drop (i+1)) ks dss=some (KS,DSS),
         λσ' H' q=>⟨L.length - (i+1),by omega,rfl,hlt,q⟩,λxv H' y=>?_⟩
        obtain⟨H2,t1,t2,t3,t4,t5⟩:=yl xv H' y;have hl3:σi.length=3:=Ri.len;have R3:sC G F (σi.set 2 (some xv)) [.im (.lst L),.un,.im L[i]] H2 H':=(Ri.grow t3 t1 t2 t4).setIm 2 t5;have w1:(σi.set 2 (some xv))[1]?=some (some (.ref p)):=by rw[kc (by decide)];exact vi
        have w2:(σi.set 2 (some xv))[2]?=some (some xv):=by rw[iK (by rw[hl3];decide)]
        refine P4 R3 (P5 rfl) w1 w2 t5 (gi.grow t3 t1 t4) (by show c1 vk (cV 2) _=_;unfold c1 cV;simp only[iJ,List.getElem?_cons_zero,ev]) ek hb.1 (λds hd=>hb.2 ds hd) λHc Hd bs' sc Rc gc=>?_;exact⟨Hc,_,_,bs',_,si.trans (t1.trans sc),rfl,Rc,w1,gc,ei⟩
       ·cases ei
    ·have hi':i=L.length:=by omega
     refine .inl ⟨(wk i Hi Hi' si Ri.sub).2 hi',?_⟩;subst hi';rw[List.drop_length]at ei;cases ei;refine⟨.ref p,vi,.inr ⟨p,_,gi.at_,λo=>?_⟩⟩;obtain⟨Hq,q1,q2,q3⟩:=Tb Ri gi o;exact k _ _ Hq _ (s.trans (si.trans q1)) q2 q3
  ·cases e
end
section
variable{X:Cx}{G:Bg}
theorem Tc:∀y b,wa "int" y=some b->cH X.K (y.val G) (.type "int")=some b:=λy b h=>by
 cases y with
 |c k=>cases h
 |b n=>
  unfold wa at h;simp only at h
  iterate 7 (split at h;· rename_i e;subst e;cases h;first|rfl|kernel_rfl)
  cases h
theorem P6:∀y b,wa "bool" y=some b->cH X.K (y.val G) (.type "bool")=some b:=λy b h=>by
 cases y with
 |c k=>cases h
 |b n=>
  unfold wa at h;simp only at h
  iterate 7 (split at h;· rename_i e;subst e;cases h;first|rfl|kernel_rfl)
  cases h
theorem kit_tuple:∀y b,wa "tuple" y=some b->cH X.K (y.val G) (.type "tuple")=some b:=λy b h=>by
 cases y with
 |c k=>cases h
 |b n=>
  unfold wa at h;simp only at h
  iterate 7 (split at h;· rename_i e;subst e;cases h;first|rfl|kernel_rfl)
  cases h
end
theorem Fg:entryFor table "dict_itemiterator.__iter__" = some dW.«dict_keyiterator.__iter__»:=by
 refine entryFor_alias (id':="dict_keyiterator.__iter__") ?_ rfl ?_ ?_
 ·kernel_rfl
 ·decide +kernel
 ·kernel_rfl
theorem Td(r:KV kvs vs){k:Key}{x:aa}(e:vs[i]?=some (k,x)):∃z,kvs[i]?=some (k,z)/\RelV z x:=by
 induction r generalizing i with
 |nil=>cases e
 |@cons p q l l' h _ ih=>
  cases i with
  |zero=>obtain⟨pk,pv⟩:=p;cases e;exact⟨pv,by rw[show pk=k from h.1];rfl,h.2⟩
  |succ i=>exact ih e
def Iti(a:Addr)(o:Obj)(kvs:List (Key×V)):It:=
 ⟨λi H=>i<kvs.length/\H a=some (.frz o (.dK kvs)),λi H v H'=>∃p k z,H p=none/\v=.ref p/\H'=upd H p (.tup [kV k,z])/\kvs[i]?=some (k,z),λi H=>kvs.length<=i/\H a=some (.frz o (.dK kvs))⟩
def iTn(it a:Addr)(o:Obj)(n:Nat)(i:Nat)(h:Heap):Prop:=∃es ep ok ov,o.data=.dict es ep/\IsItemIter h it a i n ep ok ov
theorem Le{K:ar}{x1}(a it:Addr)(o:Obj)(kvs:List (Key×V)):Turn P w K (.Tuple elts x1 pos) (Iti a o kvs) [it] it (iTn it a o kvs.length) where
 mem:=by simp
 obj:=λi h st b hb=>by
  have e:b=it:=by simpa using hb
  subst e;obtain⟨es,ep,ok,ov,hd,q⟩:=st;exact⟨_,q,λv z=>nomatch z⟩
 keep:=λi h h' st k=>by obtain⟨es,ep,ok,ov,hd,q⟩:=st;exact⟨es,ep,ok,ov,hd,k it (by simp) _ q⟩
 item:=by
  intro X hP hw hK hc i pins s σ H E I hf st hg;subst hP hw hK;obtain⟨hi,he⟩:=hg;obtain⟨es,ep,ok,ov,hd,ki⟩:=st;obtain⟨_,_,vs,r,da⟩:=yd I he hd;have hl:kvs.length=vs.length:=r.length;obtain⟨⟨k,x⟩,hx⟩:∃q,vs[i]?=some q:=⟨vs[i]'(by rw[<-hl];exact hi),aN _⟩;obtain⟨z,hz,rz⟩:=Td r hx;rw[hl]at ki;refine wpAny_pyNext_items_item ki da hx λkey h' hk q1 q2 q3 kk=>?_;refine⟨_,rfl,wpAny_letOwnedTupleGo_items (s:={ s with heap:=h' }) q1 λh2 q4 sb=>?_⟩;have lt:s.heap.objs.size≠it:=λw=>aq (aM ki) (by rw[w];exact dm _);have hp:h2.get? s.heap.objs.size=some { cls:=.type "tuple", data:=.seq #[key,x] }:=sb.extBut _ _ lt q2;have ok':tL X.prog X.w (upd H s.heap.objs.size (.tup [kV k,z])) h2 s.heap.objs.size (.tup [kV k,z]):=⟨by rw[bL];show 2<=16777216;decide,[key,x],.cons (Iq hk) (.cons rz .nil),_,hp,rfl,_,rfl⟩;have I1:=Inv.turnedLaid (h':=h2) (t':=s.toks) (T:=s.heap.objs.size) (xs:=[kV k,z]) (ch:=[it]) I hf
   (λb o hb e=>sb.extBut _ _ (λw=>hb (by simp[w])) (kk b o (λw=>hb (by simp[w])) e)) (aF _) ok'
  refine⟨.ref s.heap.objs.size,_,I1,rfl,⟨_,k,z,I.hok.fresh (aF _),rfl,rfl,hz⟩,⟨es,ep,key,x,hd,by rw[hl];exact q4⟩,λb hb=>?_⟩;rw[sf (λw=>?_)]
  ·exact(hf b hb).1
  ·have e:b=it:=by simpa using hb
   exact lt (w.symm.trans e)
 done:=by intro X hP hw hK hc i pins s σ H E I hf st hg;subst hP hw hK;obtain⟨hi,he⟩:=hg;obtain⟨es,ep,ok,ov,hd,ki⟩:=st;obtain⟨f0,f1,f2,f3,f4,f5⟩:=hf it (by simp);obtain⟨_,_,vs,r,da⟩:=yd I he hd;have hl:kvs.length=vs.length:=r.length;rw[hl]at ki;exact wpAny_pyNext_items_end (I.ok.hd hc) ki da (gz (by rw[<-hl];exact hi)) λh' eb=>⟨rfl,I.turned (t':=s.toks) (λb o hb e=>eb b o hb e) f0 f1 f3 f4 f5⟩
 self:=λA i s Q E st h=>by obtain⟨es,ep,ok,ov,hd,ki⟩:=st;have hT:s.TypeIs (.ref it) "dict_itemiterator" := ⟨_,ki,rfl⟩;refine wpAny_pyIter_slot hT nh (iU nh hT Fg ?_ (F.args_dict_itemiterator_iter_1 _));show wpAny _ _ (ret (.ref it)) _ _ s;exact az ⟨_,rfl,"dict_itemiterator", _,hT,F.slot_dict_itemiterator_next.lookup,h⟩
section
variable{X:Cx}{G:Bg}{elts:List Expr}{x1:Nat}{tpos:Pos}
def P7(tl:TE):TI:=λσ H R=>tl σ H λx H1=>∃a o kvs,x=.ref a/\H1 a=some (.frz o (.dK kvs))/\R (Iti a o kvs) H1
theorem P8{apos cpos:Pos}(ho:PE X o tl)(hbase:attributeBase o "items" X.env (eval o X.env)=eval o X.env:=by rfl)(hline:(apos.endLine==cpos.line)=true:=by rfl):
  PI X (.Tuple elts x1 tpos) (.Call (.Attribute o "items" apos) [] [] cpos) (P7 tl):=by
 intro pins s σ H R I h;refine wpAny_Call_method0_late hbase hline (thn (ho pins s σ H _ I h) λv s1 ⟨x,H1,I1,r1,a,ob,kvs,e,he,q⟩=>?_);subst e;obtain rfl:v=Value.ref a:=r1;obtain⟨t1,t2,t3⟩:=HZ I1 (.inl ⟨kvs,.inr ⟨ob,he⟩⟩);refine⟨"dict", "dict.items", iQ,oT,F.type_dict_items,t1,t2,gu rfl (PySem.evalArgs_none ?_)⟩;obtain⟨q0,_,y,vs,r,ob',es,ep,e1,e2,e3,e4⟩:=(show tL X.prog X.w H1 s1.heap a (.frz ob (.dK kvs)) from I1.hok a _ he);rw[q0]at e1;cases e1;have hl:kvs.length=vs.length:=r.length;have da:s1.heap.DictAt (sI X.prog X.w) a vs ep:=⟨ob,es,q0,e2,e3,e4⟩;refine fK oT t1 F.entry_dict_items (F.args_dict_items_1 _) (meets_dict_items (sI X.prog X.w) a y) ⟨⟨vs,da.dictOf⟩,?_⟩;have I2:Inv X pins σ H1 { s1 with heap:=s1.heap.push { cls:=.type "dict_items", data:=.fields #[.ref a] } }:=I1.kept (t':=s1.toks) λb o e=>aJ _ e;refine wpAny_pyIter_items (knd:=sI X.prog X.w) (kvs:=vs) (ep:=ep) ⟨_,bz _ rfl,rfl,rfl⟩ (da.push _) ?_;refine⟨_,[_],_,_,H1,rfl,I2.kept (t':=s1.toks) λb o e=>aJ _ e,Le a _ ob kvs,⟨es,ep,.none,.none,e3,by rw[hl];exact bz _ rfl⟩,λb hb=>?_,q⟩;have e:=aP.mp hb;subst e;exact I2.fpOk (aF _) (I2.hok.fresh (aF _))
def iIt(f:FE):FA:=λρ=>match f ρ with
 |some (.dic ks ds,ρ1)=>some (BZ (ks.map Lb) ds,ρ1)
 |_=>none
theorem NT(h:PI X tg e (P7 (tF G f))):PI X tg e (tFI G (iIt f)):=PI.weak h λσ H R hh=>by
 obtain⟨F,ρ,H0,ds,ρ',R,e,k⟩:=hh;unfold iIt at e;split at e
 ·rename_i ks ds' ρ1 e1;cases e;refine⟨F,ρ,H0,_,_,R,e1,λv H1 H1' s R' r=>?_⟩;unfold Rep at r;obtain⟨a,o,xs,rfl,r1,r2,r3⟩:=r;have hz:(ks.zip xs).length=ks.length:=by rw[eL,<- r2,dR]
  have lx:xs.length=ds'.length:=(r9 r3).symm;refine⟨a,o,_,rfl,R'.sub _ _ r1,k _ _ _ s R' λi H2 H2' t t'=>⟨λd ed=>?_,λhl=>?_⟩⟩
  ·unfold BZ at ed;rw[ka,bt]at ed;cases ek:ks[i]? with
   |none=>rw[ek]at ed;cases ed
   |some j=>
    cases ey:ds'[i]? with
    |none=>rw[ek,ey]at ed;cases ed
    |some dy=>
     rw[ek,ey]at ed;cases ed;have hi:i<ks.length:=(bS.mp ek).1;obtain⟨vy,y1,y2⟩:=um r3 ey;refine⟨⟨by rw[hz];exact hi,t' _ _ (t _ _ r1)⟩,λx H3 y=>?_⟩;obtain⟨p,k',z,hp,rfl,rfl,hk'⟩:=y;rw[nE]at hk';have a1:=hk'.1;have a2:=hk'.2;rw[ek]at a1;rw[y1]at a2;cases a1;cases a2;have p0:H2 p=none:=by
      cases q:H2 p with
      |none=>rfl
      |some o=>have:=t' _ _ q;rw[hp]at this;cases this
     refine⟨upd H2 p (.tup [kV k',z]),sv p0 _,λb o e=>?_,sv hp _,λb o e=>?_,y8 (SqT.of se) ?_⟩
     ·by_cases hb:b=p
      ·subst hb;rw[se]at e ⊢;exact e
      ·rw[sf hb]at e ⊢;exact t' _ _ e
     ·by_cases hb:b=p
      ·subst hb;exact .inr hp
      ·rw[sf hb]at e;exact .inl e
     ·have m:=t.trans (sv p0 (.tup [kV k',z]));exact sP (Mn _) (sP (Rep.mono m _ _ y2) sR)
  ·refine⟨by rw[hz,hl,JI,ag,<- lx,<- r2,dR];exact aF _,t' _ _ (t _ _ r1)⟩
 ·cases e
end
def hold(F:Fr)(p:Addr)(o:HO):Fr:=⟨F.B0,λb=>if b=p then some o else F.B b,F.A⟩
theorem Eu:(hold F p o).B p=some o:=by show (if p=p then _ else _)=_;rw[ai rfl]
theorem AR(h:b≠p):(hold F p o).B b=F.B b:=by show (if b=p then _ else _)=_;rw[aj h]
theorem Bq.frame{F':Fr}(h:Bq G F H0 H o s)(hA:F'.A=F.A)(hB:∀a,o=some (.ref a)->s.own=true->F.B a=none->F'.B a=none):Bq G F' H0 H o s:=by
 cases s with
 |un=>trivial
 |im d=>exact h
 |ls ds=>obtain⟨a,xs,h1,h2,h3,h4,h5⟩:=h;exact⟨a,xs,h1,h2,h3,hB a h1 rfl h4,h5⟩
 |pm ds=>obtain⟨a,xs,h1,h2,h3,h4,h5⟩:=h;exact⟨a,xs,h1,h2,h3,by rw[hA];exact h4,h5⟩
 |dk ks ds=>obtain⟨a,xs,h1,h2,h3,h4,h5,h6⟩:=h;exact⟨a,xs,h1,h2,h3,hB a h1 rfl h4,h5,h6⟩
 |ob c ns ds=>obtain⟨a,dx,xs,h1,h2,h3,h4,h5,h6⟩:=h;exact⟨a,dx,xs,h1,h2,h3,by rw[hA];exact h4,h5,h6⟩
section
variable{X:Cx}{G:Bg}{F:Fr}{σ:St}{ρ:aZ}{H0 H:Hp}{p:Addr}{o:HO}
theorem sC.hold(R:sC G F σ ρ H0 H)(hp:H p=none)(o:HO):sC G (L4.hold F p o) σ ρ H0 (upd H p o) where
 sub:=(R.newOwn hp o).sub
 g0:=R.g0
 keep:=λb u e n=>by
  by_cases hb:b=p
  ·subst hb;rw[Eu]at e;rw[se];exact e
  ·rw[AR hb]at e;exact(R.newOwn hp o).keep b u e n
 fr:=λb u e=>by
  have hb:b≠p:=λz=>by subst z;rw[R.h0none hp]at e;cases e
  rw[AR hb];exact R.fr b u e
 am:=(R.newOwn hp o).am
 len:=R.len
 sl:=λi s e=>by refine Bq.frame ((R.newOwn hp o).sl i s e) rfl λa h1 so hB=>?_;obtain⟨a',u,q1,q2,_⟩:=(R.sl i s e).at so;rw[h1]at q1;cases q1;rw[AR (λz=>by subst z;rw[hp]at q2;cases q2)];exact hB
 ap:=R.ap
theorem sC.unhold(R:sC G (L4.hold F p o) σ ρ H0 H)(hB:F.B p=none):sC G F σ ρ H0 H where
 sub:=R.sub
 g0:=R.g0
 keep:=λb u e n=>R.keep b u (by rw[AR (λz=>by subst z;rw[hB]at e;cases e)];exact e) n
 fr:=λb u e=>by
  rcases R.fr b u e with z|z
  ·exact .inl z
  ·by_cases hb:b=p
   ·subst hb;exact .inr hB
   ·rw[AR hb]at z;exact .inr z
 am:=R.am
 len:=R.len
 sl:=λi s e=>Bq.frame (R.sl i s e) rfl λa h1 so q=>by
  by_cases hb:a=p
  ·subst hb;exact hB
  ·rw[AR hb]at q;exact q
 ap:=R.ap
theorem sC.layHeld(R:sC G (L4.hold F p o) σ ρ H0 H)(hB:F.B p=none)(h0:H0 p=none)(nA:p∉F.A)(u:HO):sC G F σ ρ (upd H0 p u) (upd H p u) where
 sub:=λb v e=>by
  by_cases hb:b=p
  ·subst hb;rw[se]at e ⊢;exact e
  ·rw[sf hb]at e ⊢;exact R.sub _ _ e
 g0:=(sC.unhold R hB).g0.trans (sv h0 u)
 keep:=λb v e n=>by rw[sf (λz=>by subst z;rw[hB]at e;cases e)];exact(sC.unhold R hB).keep b v e n
 fr:=λb v e=>by
  by_cases hb:b=p
  ·subst hb;exact .inr hB
  ·rw[sf hb]at e;exact(sC.unhold R hB).fr _ _ e
 am:=λb hb=>by
  have hb':b≠p:=λz=>by subst z;exact nA hb
  rw[sf hb'];exact R.am b hb
 len:=R.len
 sl:=λj t e=>by
  have ne:∀a,(σ[j]?).join=some (.ref a)->t.own=true->a≠p:=λa z to y=>by
   subst y;obtain⟨a',v,q1,_,_,q4⟩:=(R.sl j t e).at to;rw[z]at q1;cases q1;rcases q4 with q|q
   ·rw[Eu]at q;cases q
   ·exact nA q
  refine((sC.unhold R hB).sl j t e).grow (sv h0 u) (λa v z to q=>?_) λa v z to q q0=>?_
  ·rw[sf (ne a z to)];exact q
  ·rw[sf (ne a z to)];exact q0
 ap:=R.ap
def we:List (Str×FE)->aZ->Option (aS×aZ)
 |[],ρ=>some ([],ρ)
 |(_,f)::r,ρ=>match f ρ with
  |some (d,ρ1)=>match we r ρ1 with
   |some (ds,ρ2)=>some (d::ds,ρ2)
   |none=>none
  |none=>none
def P9(G:Bg)(kfs:List (Str×FE)):List (TE×TE):=kfs.map λq=>(tC (.str q.1),tF G q.2)
theorem JO:∀(kfs:List (Str×FE)) (ρ ρ':aZ) (ds:aS) (H0 H:Hp) (Q:List (V×V)->Hp->Prop),sC G F σ ρ H0 H->we kfs ρ=some (ds,ρ')->
  (∀vs H1 H1',sq H0 H1->sC G F σ ρ' H1 H1'->r6 G H1 ds vs->Q (c4 (λk v=>(V.str k,v)) (kfs.map (·.1)) vs) H1')->HY (P9 G kfs) σ H Q
 |[],ρ,ρ',ds,H0,H,Q,R,e,k=>by cases e;exact k [] H0 H (sq.refl _) R sR
 |(x,f)::r,ρ,ρ',ds,H0,H,Q,R,e,k=>by
  unfold we at e;cases e1:f ρ with
  |none=>simp only[e1]at e;cases e
  |some q=>
   obtain⟨d,ρ1⟩:=q;simp only[e1]at e;cases e2:we r ρ1 with
   |none=>simp only[e2]at e;cases e
   |some q=>obtain⟨ds',ρ2⟩:=q;simp only[e2]at e;cases e;refine⟨F,ρ,H0,d,ρ1,R,e1,λv H1 H1' s R1 rv=>?_⟩;exact JO r ρ1 _ ds' H1 H1' _ R1 e2 λvs H2 H2' s2 R2 rs=>k (v::vs) H2 H2' (s.trans s2) R2 (sP (Rep.mono s2 _ _ rv) rs)
theorem JP:∀(more acc:List (Key×V)),((acc++more).map (·.1)).Nodup->zZ acc more=acc++more
 |[],acc,_=>by rw[bq];rfl
 |q::r,acc,h=>by
  have nq:(acc.any λkv=>decide (kv.1=q.1))=false:=by rw[iR];intro z;obtain⟨y,hy,ey⟩:=fD.mp z;rw[bb,bZ]at h;exact h.2.2 y.1 (cq hy) q.1 (cq aV) (bo ey)
  have e:putK acc q.1 q.2=acc++[q]:=by unfold putK;rw[nq];rfl
  show zZ (putK acc q.1 q.2) r=_;rw[e,JP r (acc++[q]) (by simpa using h)];simp
theorem NU:upd (upd H p x) p y=upd H p y:=by
 funext b
 by_cases hb:b=p
 ·subst hb;rw[se,se]
 ·rw[sf hb,sf hb,sf hb]
def zK(kfs:List (Str×FE)):FE:=λρ=>match we kfs ρ with
 |some (ds,ρ')=>some (.dic (kfs.map λq=>Sum.inr q.1) ds,ρ')
 |none=>none
theorem Fh:∀{kfs:List (Str×FE)} {ρ ρ':aZ} {ds:aS},we kfs ρ=some (ds,ρ')->ds.length=kfs.length
 |[],ρ,ρ',ds,e=>by cases e;rfl
 |(x,f)::r,ρ,ρ',ds,e=>by
  unfold we at e;cases e1:f ρ with
  |none=>simp only[e1]at e;cases e
  |some q=>
   obtain⟨d,ρ1⟩:=q;simp only[e1]at e;cases e2:we r ρ1 with
   |none=>simp only[e2]at e;cases e
   |some q=>obtain⟨ds',ρ2⟩:=q;simp only[e2]at e;cases e;rw[aE,aE,Fh e2]
theorem JQ:∀(ks:aB) (vs:bC),c4 (λk v=>(V.str k,v)) ks vs=((ks.map λk=>(Sum.inr k:Key)).zip vs).map λkv=>(kV kv.1,kv.2)
 |[],vs=>rfl
 |k::ks,[]=>rfl
 |k::ks,v::vs=>by show (V.str k,v)::_=_;rw[JQ ks vs];rfl
theorem Mo(h:PE X e (OO (P9 G kfs)))(nd:(kfs.map λq=>(Sum.inr q.1:Key)).Nodup)(h15:kfs.length<=15):PE X e (tF G (zK kfs)):=PE.weak (PE.ghost h) λσ H Q hh=>by
 obtain⟨F,ρ,H0,d,ρ',R,e,k⟩:=hh;unfold zK at e;cases e1:we kfs ρ with
 |none=>simp only[e1]at e;cases e
 |some q=>
  obtain⟨ds,ρ1⟩:=q;simp only[e1]at e;cases e;intro p hp;have hB:F.B p=none:=R.bNone hp;have nA:p∉F.A:=λz=>by obtain⟨u,q⟩:=R.am p z;rw[hp]at q;cases q
  refine JO kfs ρ _ ds H0 _ _ (sC.hold R hp (.dK [])) e1 λvs H1 H1' s R1 rs=>?_;have q0:H1' p=some (.dK []):=R1.keep p _ Eu nA;have h0:H1 p=none:=by
   cases q:H1 p with
   |none=>rfl
   |some u=>
    rcases R1.fr p u q with z|z
    ·have:=R.g0 _ _ z;rw[R.h0none hp]at this;cases this
    ·rw[Eu]at z;cases z
  have lv:(kfs.map λq=>(Sum.inr q.1:Key)).length=vs.length:=by rw[ag,<- Fh e1,r9 rs]
  have kn:(((kfs.map λq=>(Sum.inr q.1:Key)).zip vs).map (·.1))=kfs.map λq=>(Sum.inr q.1:Key):=o9 (by rw[lv];exact aF _)
  refine⟨q0,(kfs.map λq=>(Sum.inr q.1:Key)).zip vs,?_,?_,.inr ⟨p,_,se,λob=>?_⟩⟩
  ·rw[JQ,aW];rfl
  ·rw[eL,<- lv,dR,ag];exact h15
  ·rw[NU,JP _ [] (by rw[bJ,kn];exact nd),bJ];refine k _ _ _ (s.trans (sv h0 _)) (sC.layHeld R1 hB h0 nA _) ?_;unfold Rep;exact⟨p,ob,vs,rfl,se,lv,r6.mono (sv h0 _) _ _ rs⟩
end
def spL(G:Bg)(g:aS->aS->Option (D×aS)):Sp:=λvs H Q E=>∃(a:Addr) (us:bC),vs=us++[.ref a]/\spM G g (.ref a::us) H Q E
def stL(n:Nat)(es ds:aS):aZ:=ds.map Sl.im++.pm es::dP (n - ds.length - 1) .un
def JR(i:Nat)(ρ:aZ):Option aS:=match ρ[i]? with
 |some (.pm es)=>some es
 |_=>none
def fnL(np n:Nat)(f:FS):aS->aS->Option (D×aS):=λes ds=>if ds.length=np then match f (stL n es ds)with
 |some (.rt d ρ)=>match JR np ρ with
  |some es'=>some (d,es')
  |none=>none
 |some (.rn xs ρ)=>match JR np ρ with
  |some es'=>some (.lst xs,es')
  |none=>none
 |_=>none
 else none
theorem CU(h:JR i ρ=some es):ρ[i]?=some (.pm es):=by
 unfold JR at h;split at h
 ·rename_i e;cases h;exact e
 ·cases h
theorem JS(h:fnL np n f es ds=some (d,es')):ds.length=np/\((∃ρ,f (stL n es ds)=some (.rt d ρ)/\ρ[np]?=some (.pm es'))\/∃xs ρ,f (stL n es ds)=some (.rn xs ρ)/\ρ[np]?=some (.pm es')/\d=.lst xs):=by
 unfold fnL at h;split at h
 ·rename_i hl;refine⟨hl,?_⟩;split at h
  ·rename_i x ρ e;cases e2:JR np ρ with
   |none=>simp only[e2]at h;cases h
   |some q=>simp only[e2]at h;cases h;exact .inl ⟨ρ,e,CU e2⟩
  ·rename_i x ρ e;cases e2:JR np ρ with
   |none=>simp only[e2]at h;cases h
   |some q=>simp only[e2]at h;cases h;exact .inr ⟨x,ρ,e,CU e2,rfl⟩
  ·cases h
 ·cases h
theorem Ir(h:(stL n es ds)[i]?=some t):(i=ds.length/\t=.pm es)\/t=.un\/∃d,ds[i]?=some d/\t=.im d:=by
 unfold stL at h;by_cases hi:i<ds.length
 ·rw[cG (by simpa using hi),bt,aN hi]at h;cases h;exact .inr (.inr ⟨_,aN hi,rfl⟩)
 ·rw[cz (by simpa using hi),ag]at h;cases q:i - ds.length with
  |zero=>rw[q]at h;cases h;exact .inl ⟨by omega,rfl⟩
  |succ m=>
   rw[q,iJ,fq]at h;split at h
   ·cases h;exact .inr (.inl rfl)
   ·cases h
variable{N:aB}
section
variable{X:Cx}{G:Bg}
theorem Te(ha:H a=some (.lst xs))(h0:H0 a=none)(s:sq H0 H)(r1:r6 G H0 es xs)(r:r6 G H0 ds us)(hN:us.length+1<=N.length):sC G ⟨H0,H,[a]⟩ (L2.start N (us++[.ref a])) (stL N.length es ds) H0 H:={
  sub:=s
  g0:=sq.refl _
  keep:=λb o e _=>e
  fr:=λb o e=>.inl e
  am:=λb hb=>by rw[aP]at hb;subst hb;exact⟨_,ha⟩
  len:=by unfold L2.start stL;simp only[aA,ag,cf,aE,cO];have:=r9 r;omega
  sl:=λi t e=>by
   rcases Ir e with ⟨rfl,rfl⟩|rfl|⟨d,e1,rfl⟩
   ·exact⟨a,xs,vd (by rw[r9 r,cz (aF _),jh];rfl),ha,h0,aP.mpr rfl,r1⟩
   ·trivial
   ·obtain⟨v,e2,e3⟩:=um r e1;exact⟨v,vd (by rw[cG (bS.mp e2).1];exact e2),e3⟩
  ap:=λi j t u b hij ei ej ht hu=>by
   rcases Ir ei with ⟨rfl,rfl⟩|rfl|⟨_,_,rfl⟩
   ·rcases Ir ej with ⟨rfl,rfl⟩|rfl|⟨_,_,rfl⟩
    ·exact aq rfl hij
    ·cases hu
    ·cases hu
   ·cases ht
   ·cases ht }
theorem Tf(hN:np+1<=N.length)(h:spL G (fnL np N.length f) vs H Q E):tFS G f { nx:=λ_ H'=>Q .non H',rt:=Q } (L2.start N vs) H:=by
 obtain⟨a,us,rfl,b,us',xs,H0,es,ds,d,es',e0,ha,h0,s,r1,r,e,k⟩:=h;cases e0;obtain⟨hl,e1⟩:=JS e;have R:=Te (N:=N) ha h0 s r1 r (by rw[<-r9 r,hl];exact hN);have fin:∀{v:V} {σ':St} {ρ':aZ} {H0' H':Hp},sq H0 H0'->sC G ⟨H0,H,[a]⟩ σ' ρ' H0' H'->ρ'[np]?=some (.pm es')->Rep G H0' d v->Q v H':=λs' R' e2 rv=>by obtain⟨a',ys,q1,q2,q3,q4,q5⟩:=R'.sl np _ e2;have ea:a'=a:=aP.mp q4;subst ea;exact k _ ys _ _ s' R'.sub (λb o e n=>R'.keep b o e (λz=>n (aP.mp z))) R'.fr q3 q2 q5 rv
 rcases e1 with ⟨ρ,e1,e2⟩|⟨zs,ρ,e1,e2,rfl⟩
 ·exact⟨_,_,H0,_,R,e1,λv σ' H0' H' s' R' rv=>fin s' R' e2 rv,λ_=>rfl⟩
 ·refine⟨_,_,H0,_,R,e1,λp ys σ' H0' H' s' R' hp hp0 hb ap rs=>?_,λ_=>rfl⟩;exact fin (s'.trans (sv hp0 _)) (R'.freeze hp hp0 hb ap) e2 (yc se (r6.mono (sv hp0 _) _ _ rs))
theorem Z4(hg:∀es ds d,g es ds=some d->ds.length=np):∀vs H Q E,spL G g vs H Q E->vs.length=np+1:=λvs H Q E h=>by obtain⟨a,us,rfl,h⟩:=h;have:=Pb hg _ _ _ _ h;rw[aA];exact this
theorem Tg:∀es ds d,fnL np n f es ds=some d->ds.length=np:=λ_ _ d h=>(JS (d:=d.1) (es':=d.2) h).1
def Lf(G:Bg)(i:Nat)(a:FA):TA:=λσ H Q=>∃F ρ H0 ds ρ' es,sC G F σ ρ H0 H/\a ρ=some (ds,ρ')/\uc ρ' i=some es/\∀xs b H0' H',sq H0 H0'->sC G F σ ρ' H0' H'->r6 G H0' ds xs->σ[i]?=some (some (.ref b))->Q (xs++[.ref b]) H'
theorem Qa(hv:PE X e (yp i))(hs:starEach [e] X.env=[(false,eval e X.env)]:=by rfl):PA X [e] (Lf G i sS):=PA.weak (uj hv xD hs) λσ H Q hh=>by obtain⟨F,ρ,H0,ds,ρ',es,R,e,el,k⟩:=hh;cases e;obtain⟨b,xs,s1,_⟩:=uv R el;exact⟨.ref b,s1,k [] b _ _ (sq.refl _) R sR s1⟩
theorem NV(ha:PE X e (tF G f))(hr:PA X es (Lf G i g))(hs:starEach (e::es) X.env=(false,eval e X.env)::starEach es X.env:=by rfl):PA X (e::es) (Lf G i (rR f g)):=PA.weak (uj ha hr hs) λσ H Q hh=>by obtain⟨F,ρ,H0,d,ρ',es,R,e,el,k⟩:=hh;obtain⟨x,r,ρ1,e1,e2,rfl⟩:=za e;exact⟨F,ρ,H0,x,ρ1,R,e1,λv H1 H1' s R' rv=>⟨F,ρ1,H1,r,ρ',es,R',e2,el,λxs b H2 H2' s2 R2 rs sb=>k _ _ _ _ (s.trans s2) R2 (sP (Rep.mono s2 _ _ rv) rs) sb⟩⟩
def uq(g:aS->aS->Option (D×aS))(i:Nat)(a:FA):FE:=λρ=>match a ρ with
 |some (ds,ρ1)=>match uc ρ1 i with
  |some es=>match g es ds with
   |some (d,es')=>some (d,putAt ρ1 i es')
   |none=>none
  |none=>none
 |none=>none
theorem Ti(h:PE X e (zX (spL G g) [] E (Lf G i a))):PE X e (tF G (uq g i a)):=PE.weak h λσ H Q hh=>by
 obtain⟨F,ρ,H0,d,ρ',R,e,k⟩:=hh;unfold uq at e;rcases sO (f:=a) (ρ:=ρ)with e1|⟨ds,ρ1,e1⟩<;>simp only[e1]at e
 ·cases e
 ·cases e2:uc ρ1 i with
  |none=>simp only[e2]at e;cases e
  |some es=>
   simp only[e2]at e;cases e3:g es ds with
   |none=>simp only[e3]at e;cases e
   |some q=>obtain⟨d1,es'⟩:=q;simp only[e3]at e;cases e;refine⟨F,ρ,H0,ds,ρ1,es,R,e1,e2,λys b H1 H1' s R' rs sb=>?_⟩;obtain⟨s,es0,es1⟩:=ve e2;obtain⟨b',xs',t1,t2,t3,t4⟩:=(R'.sl i s es0).lst es1;rw[uW t1]at sb;cases sb;refine⟨b,ys,bq _,b,ys,xs',H1,es,ds,d,es',rfl,t2,t3,R'.sub,t4,rs,e3,λv zs H2 H2' u1 u2 u3 fr w0 w1 w2 w3=>?_⟩;refine k _ _ _ (sq.trans ‹sq H0 H1› u1) ?_ w3;unfold putAt;rw[es0];exact R'.call1 es0 es1 t1 u1 u2 u3 fr w0 w1 w2
theorem Tj(D:yL X.prog X.w X.K X.mg X.base k x ps (spL G g))(hr:ug k X.A)(ha:PA X (e::es) (Lf G i a))(hg:Gl X x:=by rfl)(hdb:(x==("__debug__" : Str))=false:=by decide)(he:starEach (e::es) X.env=(false,eval e X.env)::starEach es X.env:=by rfl)(hpl:(backTo pos (starEach es X.env)).any (·.1)=false:=by rfl):
  PE X (.Call (.Name x p) (e::es) [] pos) (tF G (uq g i a)):=by
 obtain⟨f,fd,h1,h2,h3,h4⟩:=D;exact Ti (BK (p:=p) (pos:=pos) h4 hr hg h1 h2 h3 .nil Dv ha hdb he hpl)
def Bw(i:Nat)(f:FE):FE:=λρ=>match uc ρ i with
 |some _=>match f ρ with
  |some (.int k,ρ1)=>match uc ρ1 i with
   |some ds=>if 0<=k then match ds[k.toNat]? with
    |some d=>if k<1000000 then some (d,putAt ρ1 i (ds.eraseIdx k.toNat))else none
    |none=>none
    else none
   |none=>none
  |_=>none
 |none=>none
theorem Fi:∀{H:Hp} {ds:aS} {xs:bC} (n:Nat),r6 G H ds xs->r6 G H (ds.eraseIdx n) (xs.eraseIdx n)
 |H,[],xs,n,h=>by unfold r6 at h;subst h;exact sR
 |H,d::ds,xs,0,h=>by unfold r6 at h;obtain⟨v,r,rfl,h1,h2⟩:=h;exact h2
 |H,d::ds,xs,n+1,h=>by unfold r6 at h;obtain⟨v,r,rfl,h1,h2⟩:=h;exact sP h1 (Fi n h2)
theorem Qb(h:PE X e (tBM G.K "list" KN (yp i) (tFA G (rR f sS)))):PE X e (tF G (Bw i f)):=PE.weak h λσ H Q hh=>by
 obtain⟨F,ρ,H0,d,ρ',R,e,k⟩:=hh;unfold Bw at e;cases e0:uc ρ i with
 |none=>simp only[e0]at e;cases e
 |some ds0=>
  simp only[e0]at e;split at e
  ·rename_i n ρ1 e1;cases e2:uc ρ1 i with
   |none=>simp only[e2]at e;cases e
   |some ds=>
    simp only[e2]at e;split at e
    ·rename_i hn;cases e3:ds[n.toNat]? with
     |none=>simp only[e3]at e;cases e
     |some d'=>
      simp only[e3]at e;split at e
      ·rename_i hb;cases e;obtain⟨a,xs,s1,s2,s3,_⟩:=uv R e0;refine⟨.ref a,s1,.inl ⟨rfl,xs,SqL.of s2⟩,F,ρ,H0,[.int n],ρ1,R,by unfold rR;rw[e1];rfl,λys H1 H1' s R' rs=>?_⟩;unfold r6 at rs;obtain⟨v,r0,rfl,rv,rn⟩:=rs;unfold r6 at rn;unfold Rep at rv;subst rn rv;obtain⟨a',xs',t1,t2,t3,t4⟩:=uv R' e2;rw[s1]at t1;cases t1;obtain⟨y,y1,y2⟩:=um t3 e3;have hlt:=(bS.mp y1).1;exact⟨a,xs',n,n.toNat,y,rfl,rfl,t2,by omega,by omega,lA hn (by omega),y1,k _ _ _ s (t4 _ _ (Fi _ t3)) y2⟩
      ·cases e
    ·cases e
  ·cases e
end
section
variable{P:aU}{w:aI}{K:ar}{mg:Str->Option aa}{base:Heap}{x qual:Str}{st:Stmt}{f T:Addr}{fd:bY}{N ps:aB}{k:Nat}{G:Bg}
theorem Z5(hg:g=fnL np n b)(hp:ps.length=np+1)(hN:N.length=n)(F:Fun K x qual st f fd)(S:ud N ps (sE st))(body:∀(cdv:aa) (A:aQ) (outer:List Env) (s:ae) (H:Hp) (E:XK),ug k (A.deeper (envOfC qual (sE st) s.heap.objs.size f cdv))->PSs (Bc P w K mg base N qual st f cdv A outer s H E) (tp st) (tFS G b)):
  vQ P w K mg base CX0 (k+1) f fd ps (spL G g):=by
 subst hg hN;refine F.ok S (λvs H Q E h=>?_) λcdv A outer s H vs Q E hr h=>⟨_,body cdv A outer s H E hr,Tf (by have:=aT bU S.pre;rw[bp]at this;omega) h⟩;rw[hp];exact Z4 Tg vs H Q E h
end
end L4
namespace L4
open PySem PySem.Spec PySem.Calls PyProof.Rows PySem.W L2 L3
def NW{α:Type}(c:Nat->Nat->Bool):KasT α->α
 |.ret a=>a
 |.ask i j k=>NW c (k (c i j))
def wg{α:Type}(P:Nat->Nat->Prop)(R:α->Prop):KasT α->Prop
 |.ret a=>R a
 |.ask i j k=>P i j/\∀b,wg P R (k b)
theorem wg.run{α:Type}{P:Nat->Nat->Prop}{R:α->Prop}(c:Nat->Nat->Bool):∀(t:KasT α),wg P R t->R (NW c t)
 |.ret a,h=>h
 |.ask i j k,h=>wg.run c (k (c i j)) (h.2 (c i j))
theorem wg.bind{α β:Type}{P:Nat->Nat->Prop}{R:α->Prop}{S:β->Prop}{f:α->KasT β}(hf:∀a,R a->wg P S (f a)):∀{t:KasT α},wg P R t->wg P S (t.bind f)
 |.ret a,h=>hf a h
 |.ask i j k,h=>⟨h.1,λb=>wg.bind hf (h.2 b)⟩
theorem Mp{α:Type}{cmp:Nat->Nat->(Bool->ae->Prop)->ae->Prop}{c:Nat->Nat->Bool}{P:Nat->Nat->Prop}{s:ae}{Q:α->ae->Prop}(hc:∀i j C,P i j->C (c i j) s->cmp i j C s):
  ∀{R:α->Prop} {t:KasT α},wg P R t->Q (NW c t) s->t.kasWp cmp Q s
 |R,.ret a,_,q=>q
 |R,.ask i j k,h,q=>hc i j _ h.1 (Mp hc (h.2 (c i j)) q)
def uT(n:Nat)(p:Array Nat):Prop:=p.toList.Perm (bB n)
theorem uT.getD(h:uT n p)(hn:0<n)(i:Nat):p.getD i 0<n:=by
 unfold Array.getD;split
 ·rename_i hi;have:p[i]∈p.toList:=by simp
  exact cu.mp (h.mem_iff.mp this)
 ·exact hn
theorem uT.rev(h:uT n p)(i j:Nat):uT n (kas_rev p i j):=by unfold uT kas_rev mirror;exact(nD.mp (foldl_swaps_perm _ _ _ _)).trans h
theorem uT.bub(h:uT n p)(i j:Nat):uT n (bubble p i j):=(nD.mp (bubble_perm _ _ _)).trans h
abbrev In2(n:Nat):Nat->Nat->Prop:=λi j=>i<n/\j<n
theorem Iu(hn:0<n)(h:uT n p):∀f k,wg (In2 n) (λ_=>True) (kas_asc p f k)
 |0,k=>trivial
 |f+1,k=>⟨⟨h.getD hn _,h.getD hn _⟩,λb=>by cases b<;>first|exact trivial|exact Iu hn h f (k+1)⟩
theorem B3(hn:0<n):∀f (p:Array Nat) k q,uT n p->wg (In2 n) (λr=>uT n r.1) (kas_desc f p k q)
 |0,p,k,q,h=>h
 |f+1,p,k,q,h=>⟨⟨h.getD hn _,h.getD hn _⟩,λb=>by
   cases b with
   |true=>
    show wg _ _ (if q > 0 then _ else _);split
    ·exact B3 hn f _ _ _ (h.rev _ _)
    ·exact B3 hn f _ _ _ h
   |false=>
    refine⟨⟨h.getD hn _,h.getD hn _⟩,λd=>?_⟩;cases d with
    |true=>exact h
    |false=>exact B3 hn f _ _ _ h⟩
theorem JT(hn:0<n)(h:uT n p)(k m:Nat):wg (In2 n) (λr=>uT n r.2) (kas_tail3 k m p):=
 wg.bind (P:=In2 n) (R:=λ_=>True) (S:=λ(r:Nat×Array Nat)=>uT n r.2) (f:=λm=>.ret (m,kas_rev p 0 k)) (λa _=>h.rev 0 k) (Iu hn (h.rev 0 k) _ _)
theorem B4(hn:0<n)(h:uT n p)(k m:Nat):wg (In2 n) (λr=>uT n r.2) (kas_descPart k m p):=
 wg.bind (λr hr=>by
  show wg _ _ (if r.2.2 > 0 then _ else _);split
  ·exact JT hn (hr.rev _ _) _ _
  ·exact JT hn hr _ _) (B3 hn _ p _ _ h)
theorem NX(hn:0<n)(h:uT n p)(m:Nat):wg (In2 n) (λr=>uT n r.2) (kas_count m p):=
 wg.bind (λk _=>by
  show wg _ _ (if (k==m)=true then _ else _);split
  ·exact h
  ·split
   ·refine⟨⟨h.getD hn _,h.getD hn _⟩,λb=>?_⟩;cases b with
    |true=>exact h
    |false=>exact B4 hn (h.rev _ _) _ _
   ·exact B4 hn h _ _) (Iu hn h _ _)
theorem CV(hn:0<n)(h:uT n p)(k:Nat):∀f l r,wg (In2 n) (λ_=>True) (kas_place p k f l r)
 |0,l,r=>trivial
 |f+1,l,r=>by
  unfold kas_place;split
  ·trivial
  ·refine⟨⟨h.getD hn _,h.getD hn _⟩,λb=>?_⟩;cases b with
   |true=>exact CV hn h k f _ _
   |false=>exact CV hn h k f _ _
theorem Mq(hn:0<n):∀f (p:Array Nat) k,uT n p->wg (In2 n) (uT n) (kas_bin f p k)
 |0,p,k,h=>h
 |f+1,p,k,h=>wg.bind (λl _=>Mq hn f _ _ (h.bub _ _)) (CV hn h k _ _ _)
theorem Fj(hn:0<n):wg (In2 n) (uT n) (jq n):=
 wg.bind (λr hr=>by
  show wg _ _ (if r.1<n then _ else _);split
  ·exact Mq hn _ _ _ hr
  ·exact hr) (NX hn (p:=List.toArray (bB n)) (by unfold uT;exact kL _) n)
def B5(a:Addr)(h h':Heap):Prop:=∀b o,b≠a->h.get? b=some o->h'.get? b=some o
section
variable{prog:aU}{w:aI}{A:aQ}{E:aa->ae->Prop}{s:ae}
def CW(c:Nat->Nat->Bool)(vs:List aa):List aa:=(NW c (jq vs.length)).toList.map λi=>vs.getD i Value.none
theorem Qc(c:Nat->Nat->Bool)(vs:List aa)(h:0<vs.length):(CW c vs).length=vs.length:=by unfold CW;rw[ag];have:=(Fj h).run c _;rw[this.length_eq,gO]
theorem Qd(c:Nat->Nat->Bool)(v:aa):CW c [v]=[v]:=rfl
theorem Qe{vs:List aa}(ho:s.heap.get? a=some (seqObj "list" vs.toArray n))(h1:0<vs.length)(h64:vs.length<64)
  (hk:∀(h':Heap) (C:SortKind->ae->Prop),B5 a s.heap h'->C κ { s with heap:=h' }->wpAny (model prog w) A (keyKind' vs.toArray) C (λ_ _=>False) { s with heap:=h' })
  (hc:∀(h':Heap) (i j:Nat) (C:Bool->ae->Prop),B5 a s.heap h'->i<vs.length/\j<vs.length->C (c i j) { s with heap:=h' }->kas_ask prog w A κ vs i j C { s with heap:=h' })
  (h:∀h' e,B5 a s.heap h'->h'.get? a=some (seqObj "list" (CW c vs).toArray e)->P (.done (.ret .none)) { s with heap:=h' }):
  wpAny (model prog w) A (dW.«list.sort» ⟨[.ref a],[]⟩) P E s:=by
 have ha:a<s.heap.objs.size:=aM ho;obtain⟨e1,o1⟩:∃e1,(s.heap.update a (cQ λ_=>(#[]:Array aa))).get? a=some (seqObj "list" #[] e1):=⟨_,get?_update_seq ho λ_=>#[]⟩;generalize hw:((s.heap.update a (cQ λ_=>(#[]:Array aa))).push (seqObj "tuple" vs.toArray 0)).push (seqObj "list" #[] 0)=h3;have kb:B5 a s.heap h3:=λb o hb q=>by rw[<-hw];exact aJ _ (aJ _ ((gv s.heap _ (cR hb)).trans q))
 have o3:h3.get? a=some (seqObj "list" #[] e1):=by rw[<-hw];exact aJ _ (aJ _ o1)
 rw[list_sort_plain];refine ao (listItems_at ho rfl (ao (kR ho rfl ?_ (by rw[bg,bL];omega) (cj _))));refine ao (lD o1 rfl (ao (wpAny_newTuple ?_ (by show vs.length<=_;rw[bL];omega))));refine ao (kU (cD ?_) (cj _));show wpAny (model prog w) A _ P E { s with heap:=((s.heap.update a (cQ λ_=>(#[]:Array aa))).push (seqObj "tuple" vs.toArray 0)).push (seqObj "list" #[] 0) };rw[hw];dsimp only;obtain⟨c2,hc2⟩:∃c2,(h3.update a (cQ λ_=>(CW c vs).toArray)).get? a=some (seqObj "list" (CW c vs).toArray c2):=⟨_,get?_update_seq o3 λ_=>(CW c vs).toArray⟩;have fin:=h _ c2 (λb o hb q=>(gv h3 _ (cR hb)).trans (kb b o hb q)) hc2;have szo:(CW c vs).toArray.size<=sizeLine+1:=by rw[bg,Qc c vs h1,bL];omega
 by_cases h2:2<=vs.length
 ·have hn2:¬vs.toArray.size<2:=by rw[bg];omega
  rw[aj hn2,aj hn2];refine ao (bV (hk h3 (λk s'=>k=κ/\s'={ s with heap:=h3 }) kb ⟨rfl,rfl⟩) ?_ λ_ _ x=>x.elim);rintro k s' ⟨rfl,rfl⟩;refine ao (bV (kat_run (Q:=λst' s'=>s'={ s with heap:=h3 }/\(arrOf st').map (·.2)=(CW c vs).toArray/\failedOf st'=none) (G:=λp s'=>p=NW c (jq vs.length)/\s'={ s with heap:=h3 }) rfl h2 h64 ?_ ?_) ?_ λ_ _ e=>e)
  ·rintro p st' s' _ har hf ⟨rfl,rfl⟩;exact⟨rfl,kat_snds rfl har,hf⟩
  ·exact Mp (P:=In2 vs.length) (λi j C q r=>hc h3 i j C kb q r) (Fj h1) ⟨rfl,rfl⟩
  ·rintro⟨⟨⟩,st'⟩ s' ⟨rfl,ha2,hf⟩;dsimp only;refine ao (lD o3 rfl ?_);rw[ha2,hf];refine ao (kR o3 rfl ?_ (cj _) szo);simp only[bne_self_eq_false,eF,if_false];exact az fin
 ·obtain⟨v,rfl⟩:∃v,vs=[v]:=by
   cases vs with
   |nil=>cases h1
   |cons v r=>
    cases r with
    |nil=>exact⟨v,rfl⟩
    |cons x y=>exact aq (by simp) h2
  refine ao (az ?_);refine ao (az ?_);refine ao (lD o3 rfl ?_);have eo:Array.map (λx=>x.snd) (arrOf ((),SortSt.mk' general' (#[v].zip #[v]) #[] 7 none).snd)=(CW c [v]).toArray:=by rw[Qd];show Array.map (λx=>x.snd) (#[v].zip #[v])=#[v];simp
  rw[eo];refine ao (kR o3 rfl ?_ (cj _) szo);simp only[bne_self_eq_false,eF,if_false];exact az fin
theorem Lg{vs:List aa}(hT:T="list" \/ T="tuple")(ho:s.heap.get? l=some o)(hcl:o.cls=.type T)(hd:o.data=.seq vs.toArray n)(h1:0<vs.length)(h64:vs.length<64)
  (hk:∀(h':Heap) (C:SortKind->ae->Prop),(∀b o,s.heap.get? b=some o->h'.get? b=some o)->C κ { s with heap:=h' }->wpAny (model prog w) A.in1.in1 (keyKind' vs.toArray) C (λ_ _=>False) { s with heap:=h' })
  (hc:∀(h':Heap) (i j:Nat) (C:Bool->ae->Prop),(∀b o,s.heap.get? b=some o->h'.get? b=some o)->i<vs.length/\j<vs.length->C (c i j) { s with heap:=h' }->kas_ask prog w A.in1.in1 κ vs i j C { s with heap:=h' })
  (h:∀(g h':Heap) e,(∀b o,s.heap.get? b=some o->g.get? b=some o)->(∀b o,g.get? b=some o->h'.get? b=some o)->h'.get? g.objs.size=some (seqObj "list" (CW c vs).toArray e)->Q (.ref g.objs.size) { s with heap:=h' }):
  wpAny (model prog w) A (call (.builtin "sorted") [.ref l]) Q E s:=by
 refine nF kind_sorted plain_sorted entry_sorted (args_sorted1 _) ?_;unfold dW.«sorted»;refine ao (m:=checkCount "sorted" 1 1 _) (az (ao (wpAny_collect_seq l hT ho hcl hd (λg gk=>?_) (by rw[bL];simp;omega))));refine ao (kU ?_ (by rw[bL];simp;omega));show wpAny _ _ _ _ _ { s with heap:=g.push (seqObj "list" vs.toArray 0) };have on:(g.push (seqObj "list" vs.toArray 0)).get? g.objs.size=some (seqObj "list" vs.toArray 0):=bz _ rfl;have all:∀h',B5 g.objs.size (g.push (seqObj "list" vs.toArray 0)) h'->∀b o,g.get? b=some o->h'.get? b=some o:=λh' kb b o q=>kb b o (aY (aM q)) (aJ _ q)
 show wpAny _ _ (do let _<-holding [Value.ref g.objs.size] _;_) _ _ _;refine ao (cD (iU slot_list_sort ⟨_,on,rfl⟩ entry_list_sort ?_ (args_list_sort _)));refine Qe (s:={ s with heap:=g.push (seqObj "list" vs.toArray 0) }) on h1 h64 (λh' C kb q=>hk h' C (λb o z=>all h' kb b o (gk b o z)) q) (λh' i j C kb q r=>hc h' i j C (λb o z=>all h' kb b o (gk b o z)) q r) λh' e kb q=>?_;exact⟨_,rfl,az ⟨_,rfl,h g h' e gk (all h' kb) q⟩⟩
end
def ltS(a b:Str):Bool:=decide (a.cps.toList<b.cps.toList)
def Ag:aB->aB->Bool
 |[],[]=>false
 |[],_::_=>true
 |_::_,[]=>false
 |x::xs,y::ys=>if x=y then Ag xs ys else ltS x y
inductive uk:List aa->aB->Prop
 |nil:uk [] []
 |cons (x:Str) (t:Tok) {vs:List aa} {xs:aB} (h:uk vs xs):uk (.str x t::vs) (x::xs)
theorem uk.len(h:uk vs xs):vs.length=xs.length:=by
 induction h with
 |nil=>rfl
 |cons x t h ih=>rw[aE,aE,ih]
theorem Bx:∀{xs:aB} {vs:List aa},Vals (xs.map V.str) vs->uk vs xs
 |[],vs,h=>by cases h;exact .nil
 |x::xs,vs,h=>by
  cases h with
  |cons r h'=>obtain⟨t,rfl⟩:=r;exact .cons x t (Bx h')
section
open PySem.SeqAt
open PySem.AutoSeq1 (wpAny_loadPart')
open PySem.MeetsSeq PySem.MeetsSeq2 PySem.MeetsSeq3
theorem Gk(l b:Addr)(is js:Array aa)(n m:Nat)(d1 d2:Option Addr)(q1 q2:Array (Option aa))(xs ys:aB)(hi:uk is.toList xs)(hj:uk js.toList ys):
  Meets (dW.«tuple.__lt__» ⟨[.ref l,.ref b],[]⟩)
   (λ_ R s=>s.heap.get? l=some { cls:=.type "tuple", dict:=d1,data:=.seq is n,slots:=q1 }/\s.heap.get? b=some { cls:=.type "tuple", dict:=d2,data:=.seq js m,slots:=q2 }/\R (.ok (.ret (.bool (Ag xs ys)))) s):=
 .of_wp λprog w A R s h=>by
  obtain⟨hp,g,d,tk,os⟩:=s;obtain⟨hl,hb,h⟩:=h;have f2:=nI;have z1:is.size=xs.length:=by rw[<-hi.len,eD]
  have z2:js.size=ys.length:=by rw[<-hj.len,eD]
  wp_walk using nS hl,nS hb,iW _ (λrest b s'=>b.1=none/\s'=⟨hp,g,d,tk,os⟩/\∃(vs ws:List aa) (xs' ys':aB),rest=vs.zip ws/\uk vs xs'/\uk ws ys'/\xs'.length+js.size=ys'.length+is.size/\R (.ok (.ret (.bool (Ag xs' ys')))) ⟨hp,g,d,tk,os⟩) _
  case turn=>
   rintro⟨y,x⟩ rest b s' ⟨hb',rfl,vs,ws,xs',ys',hz,hv,hw,hlen,hR⟩;cases hv with
   |nil=>cases hz
   |cons a t hv'=>
    cases hw with
    |nil=>cases hz
    |cons c u hw'=>
     rw[df]at hz;obtain⟨hyx,hrest⟩:=kW hz;obtain⟨rfl,rfl⟩:=lj hyx;simp only[aE]at hlen;unfold Ag at hR;refine ao (ox a t c u prog w _ _ ?_);by_cases hac:a=c
     ·subst hac;rw[ai rfl]at hR;simp only[beq_self_eq_true]
      wp_walk
      exact⟨rfl,rfl,_,_,_,_,hrest,hv',hw',by omega,hR⟩
     ·rw[aj hac]at hR;rw[beq_false_of_ne hac];have hri:∀(E Q),Q (.bool (decide (a.cps.toList<c.cps.toList))) (⟨hp,g,d,tk,os⟩:ae)->wpAny (model prog w) A.in1 (richCompare .Lt (.str a t) (.str c u)) Q E ⟨hp,g,d,tk,os⟩:=λE Q hq=>(PyProof.Rows.lt_str hq:wpAny (model prog w) A.in1 (compareOp .Lt (.str a t) (.str c u)) Q E _)
      wp_walk using hri
      exact⟨_,rfl,by simpa [ltS]using hR⟩
  case fin=>
   rintro⟨b1,b2⟩ s' ⟨hb',rfl,vs,ws,xs',ys',hz,hv,hw,hlen,hR⟩;simp only at hb';subst hb';have hq:Ag xs' ys'=decide (is.size<js.size):=by
    cases hv with
    |nil=>
     cases hw with
     |nil=>exact(aL (by simp only[cO]at hlen;omega)).symm
     |cons c u hw=>exact(aX (by simp only[cO,aE]at hlen;omega)).symm
    |cons a t hv=>
     cases hw with
     |nil=>exact(aL (by simp only[cO,aE]at hlen;omega)).symm
     |cons c u hw=>cases hz
   rw[hq]at hR
   wp_walk
   exact⟨_,rfl,by simpa [Builtin.Tuple.tupleCompareSizes]using hR⟩
  case h=>exact⟨rfl,rfl,is.toList,js.toList,xs,ys,rfl,hi,hj,by omega,h⟩
end
section
variable{prog:aU}{w:aI}{A:aQ}{E:aa->ae->Prop}{s:ae}
theorem Lh(hl:du s.heap l is)(hb:du s.heap b js)(hi:uk is.toList xs)(hj:uk js.toList ys)(hu:A.units<cLine)(h:Q (.bool (Ag xs ys)) s):
  wpAny (model prog w) A (compareOp .Lt (.ref l) (.ref b)) Q E s:=by
 obtain⟨⟨c1,d1,p1,s1⟩,o1,rfl,n,rfl⟩:=id hl;obtain⟨⟨c2,d2,p2,s2⟩,o2,rfl,m,rfl⟩:=id hb;exact richCompare_meets_room (op:=.Lt) ⟨_,o1,rfl⟩ ⟨_,o2,rfl⟩ F.slot_tuple_lt F.entry_tuple_lt (F.args_tuple_lt_2 _ _) (Gk l b is js n m d1 d2 s1 s2 xs ys hi hj) ⟨o1,o2,show Value.bool (Ag xs ys)≠Value.notImplemented/\Q (.bool (Ag xs ys)) s from⟨(λx=>nomatch x),h⟩⟩ hu
end
def JU(c:Nat->Nat->Bool)(n:Nat):List Nat:=(NW c (jq n)).toList
theorem CY(c:Nat->Nat->Bool)(h:0<n):(JU c n).Perm (bB n):=(Fj h).run c _
theorem Iv(c:Nat->Nat->Bool)(h:0<n):∀i∈JU c n,i<n:=λi hi=>cu.mp ((CY c h).mem_iff.mp hi)
theorem G2:∀l:aB,Ag l l=false
 |[]=>rfl
 |x::l=>by unfold Ag;rw[ai rfl];exact G2 l
theorem G3:∀(l m:aB),wJ (l.map L3.Dq.str) (m.map L3.Dq.str)=decide (l=m)
 |[],[]=>by rw[bG,wJ];simp
 |[],y::m=>by rw[bG,au,wJ]<;>simp
 |x::l,[]=>by rw[bG,au,wJ]<;>simp
 |x::l,y::m=>by
  rw[au,au,wJ,G3 l m,eqD];by_cases h1:x=y
  ·subst h1;by_cases h2:l=m
   ·subst h2;simp
   ·simp[h2]
  ·have:(x==y)=false:=beq_false_of_ne h1;rw[this];simp[h1]
theorem G4(r:Vals xs us):∀(is:List Nat),(∀i∈is,i<xs.length)->Vals (is.map λi=>xs.getD i V.non) (is.map λi=>us.getD i Value.none)
 |[],_=>.nil
 |i::is,h=>by have hi:=h i (.head _);obtain⟨u,e,ru⟩:=r.get (aN hi);refine .cons ?_ (G4 r is λj hj=>h j (.tail _ hj));show RelV (xs.getD i V.non) (us.getD i Value.none);rw[cn,cn,e,aN hi];exact ru
section
variable{X:Cx}{G:Bg}{pins:cy}{σ:St}{H:Hp}{s:ae}
def zj(K:ar)(H:Hp)(y:V)(k:aB):Prop:=∃a b v,y=.ref a/\SqT K H a [.ref b,v]/\SqT K H b (k.map V.str)
theorem Li(I:Inv X pins σ H s)(p:zj X.K H y k)(r:RelV y u):
  ∃a b v,u=.ref a/\du s.heap a #[.ref b,v]/\SqT X.K H b (k.map V.str):=by
 obtain⟨a,b,v,rfl,h1,h2⟩:=p;cases r;obtain⟨its,ri,ti,_⟩:=I.tuple h1;cases ri with
 |cons q1 q2=>
  cases q1;cases q2 with
  |cons q3 q4=>cases q4;exact⟨a,b,_,rfl,ti,h2⟩
theorem seq_val(I:Inv X pins σ H s)(hq:SqL X.K H a ys\/SqT X.K H a ys):∃its,Vals ys its/\∃T o n,(T="list" \/ T="tuple")/\s.heap.get? a=some o/\o.cls=.type T/\o.data=.seq its.toArray n:=by
 rcases hq with hq|hq
 ·obtain⟨its,ri,pl,_⟩:=I.list hq;obtain⟨o,a1,a2,n,a3⟩:=pl.isList;exact⟨its,ri,_,o,n,.inl rfl,a1,a2,a3⟩
 ·obtain⟨its,ri,⟨o,a1,a2,n,a3⟩,_⟩:=I.tuple hq;exact⟨its,ri,_,o,n,.inr rfl,a1,a2,a3⟩
theorem Iw(hu:X.A.units+64<cLine):uf X (.builtin "sorted") (λxs H Q=>∃(a:Addr) (ys:bC) (ks:List aB),xs=[.ref a]/\(SqL X.K H a ys\/SqT X.K H a ys)/\0<ys.length/\ys.length<64/\ks.length=ys.length/\ks.Nodup/\(∀(i:Nat) (y:V) (k:aB),ys[i]?=some y->ks[i]?=some k->zj X.K H y k)/\
  ∀p,H p=none->Q (.ref p) (upd H p (.lst ((JU (λi j=>Ag (ks.getD i []) (ks.getD j [])) ys.length).map λi=>ys.getD i V.non)))):=by
 intro pins s σ H xs us Q I r h;obtain⟨a,ys,ks,rfl,hq,h1,h64,hkl,nd,hp,q⟩:=h;obtain⟨u,rfl,ru⟩:=vals1 r;cases ru;obtain⟨its,ri,T,ob,nn,hT,b1,b2,b3⟩:=seq_val I hq;have hl:ys.length=its.length:=ri.length;have item:∀{h':Heap},(∀b o,s.heap.get? b=some o->h'.get? b=some o)->∀i,i<its.length->∃a b v,its.getD i Value.none=.ref a/\du h' a #[.ref b,v]/\SqT X.K H b ((ks.getD i []).map V.str)/\its[i]?=some (.ref a):=λ{h'} kk i hi=>by
  have I':Inv X pins σ H { s with heap:=h',toks:=s.toks }:=I.kept kk;have hy:i<ys.length:=by omega
  have hk:i<ks.length:=by omega
  obtain⟨u,e,ru⟩:=ri.get (aN hy);obtain⟨a,b,v,rfl,t,t2⟩:=Li I' (hp i _ _ (aN hy) (aN hk)) ru;refine⟨a,b,v,?_,t,?_,e⟩
  ·rw[cn,e];rfl
  ·rw[cn,aN hk];exact t2
 refine Lg (κ:=tuples' false) (c:=λi j=>Ag (ks.getD i []) (ks.getD j [])) hT b1 b2 b3 (by omega) (by omega) (λh' C kk hC=>?_) (λh' i j C kk hij hC=>?_) λg h' e k1 k2 ho=>?_
 ·
  have I':Inv X pins σ H { s with heap:=h',toks:=s.toks }:=I.kept kk;have tups:∀(l:List aa),(∀v∈l,∃i,i<its.length/\its[i]?=some v)->∃fs,KatTups h' l fs/\fs.length=l.length/\∀f∈fs,∃(b:Addr) (k:aB),f=.ref b/\SqT X.K H b (k.map V.str):=λl=>by
   induction l with
   |nil=>exact λ_=>⟨[],KatTups.nil,rfl,λf hf=>by cases hf⟩
   |cons v l ih=>
    intro hv;obtain⟨fs,f1,f2,f3⟩:=ih λw hw=>hv w (.tail _ hw);obtain⟨i,hi,ei⟩:=hv v (.head _);obtain⟨a,b,w,_,⟨o,t1,t2,n,t3⟩,t4,t5⟩:=item kk i hi;rw[ei]at t5;cases t5;refine⟨.ref b::fs,KatTups.cons t1 t2 t3 (by simp) f1,by rw[aE,aE,f2],λf hf=>?_⟩;rcases aK.mp hf with rfl|hf
    ·exact⟨b,_,rfl,t4⟩
    ·exact f3 f hf
  obtain⟨fs,f1,f2,f3⟩:=tups its λv hv=>by obtain⟨i,hi,e⟩:=kg.mp hv;exact⟨i,hi,by rw[aN hi,e]⟩
  refine kat_kind (T:=.type "tuple") f1 (by omega) (λv hv=>?_) (by decide) hC;obtain⟨b,k,rfl,hb⟩:=f3 v hv;obtain⟨_,_,⟨o,t1,t2,_⟩,_⟩:=I'.tuple hb;rw[<-t2];exact(Looks.ld t1).andThen .now
 ·
  have I':Inv X pins σ H { s with heap:=h',toks:=s.toks }:=I.kept kk;obtain⟨a1,b1,v1,e1,⟨o1,g1,c1,n1,d1⟩,k1,_⟩:=item kk i hij.1;obtain⟨a2,b2,v2,e2,⟨o2,g2,c2,n2,d2⟩,k2,_⟩:=item kk j hij.2;unfold kas_ask;by_cases hne:i=j
  ·subst hne;rw[e1]at e2;cases e2;rw[e1];refine kat_lt g1 d1 g1 d1 ?_;show KatLex _ _ _ _ _ _ [(Value.ref b1,Value.ref b1),(v1,v1)] 0 _;refine kat_cons (gR _ _ _ _ _ (kat_yes (kat_cons (gR _ _ _ _ _ (kat_yes (kat_nil ?_))))));rw[G2]at hC;exact hC
  ·rw[e1,e2];have kne:ks.getD i []≠ks.getD j []:=λz=>hne (by
    have hi:i<ks.length:=by omega
    have hj:j<ks.length:=by omega
    rw[cn,cn,aN hi,aN hj]at z;have pw:=nG.mp nd;rcases oU i j with y|y|y
    ·exact aq z (pw i j hi hj y)
    ·exact y
    ·exact aq z.symm (pw j i hj hi y))
   refine kat_lt g1 d1 g2 d2 ?_;show KatLex _ _ _ _ _ _ [(Value.ref b1,Value.ref b2),(v1,v2)] 0 _;have rp:∀{b:Addr} {k:aB},SqT X.K H b (k.map V.str)->L3.Rep X.K H (L3.Dq.tup (k.map L3.Dq.str)) (.ref b):=λh=>by unfold L3.Rep;exact⟨_,_,rfl,h,GN _⟩
   have dp:∀l:aB,dpt (L3.Dq.tup (l.map L3.Dq.str))=1:=λl=>by unfold dpt;rw[yI]
   have eq:=OT I' _ _ _ _ (.ref b1) (.ref b2) X.A.in1.in1 (rp k1) (rp k2) rfl rfl (by rw[dp,dp,iX,iX];omega);rw[show eqD (L3.Dq.tup ((ks.getD i []).map L3.Dq.str)) (L3.Dq.tup ((ks.getD j []).map L3.Dq.str))=false from by rw[eqD,G3];exact aL kne]at eq;refine kat_cons (eq _ _ _ _ (kat_no ?_));obtain⟨i1,r1,t1,_⟩:=I'.tuple k1;obtain⟨i2,r2,t2,_⟩:=I'.tuple k2;exact kat_one _ _ (Lh t1 t2 (Bx r1) (Bx r2) (by rw[iX,iX];omega) hC)
 ·have I1:Inv X pins σ H { s with heap:=g,toks:=s.toks }:=I.kept k1;refine⟨.ref g.objs.size,_,I1.laid (t':=s.toks) k2 (aF _) ?_,rfl,q _ (I1.hok.fresh (aF _))⟩;have hn:0<ys.length:=h1;refine⟨?_,CW _ its,e,?_,ho⟩
  ·rw[ag,(CY _ hn).length_eq,gO,bL];omega
  ·unfold CW;rw[<-hl];exact G4 ri _ λi hi=>Iv _ hn i hi
def Ah:aS->Option aB
 |[]=>some []
 |.str x::ds=>match Ah ds with
  |some xs=>some (x::xs)
  |none=>none
 |_=>none
def Qf:D->Option aB
 |.tup [.tup ks,_]=>Ah ks
 |_=>none
def Ai:aS->Option (List aB)
 |[]=>some []
 |d::ds=>match Qf d,Ai ds with
  |some k,some ks=>some (k::ks)
  |_,_=>none
def G5(ds:aS):Option aS:=match Ai ds with
 |some ks=>if ks.Nodup/\0<ds.length/\ds.length<64 then some ((JU (λi j=>Ag (ks.getD i []) (ks.getD j [])) ds.length).map λi=>ds.getD i .non)else none
 |none=>none
def Fk(f:FE):FA:=λρ=>match f ρ with
 |some (.lst ds,ρ')=>match G5 ds with
  |some es=>some (es,ρ')
  |none=>none
 |_=>none
theorem zk:∀{ds:aS} {xs:bC} {l:aB},r6 G H ds xs->Ah ds=some l->xs=l.map V.str
 |[],xs,l,r,e=>by cases e;unfold r6 at r;exact r
 |d::ds,xs,l,r,e=>by
  cases d with
  |str x=>
   unfold Ah at e;cases e1:Ah ds with
   |none=>rw[e1]at e;cases e
   |some l'=>rw[e1]at e;cases e;unfold r6 at r;obtain⟨v,r',rfl,h1,h2⟩:=r;unfold Rep at h1;subst h1;rw[zk h2 e1,au]
  |_=>cases e
theorem Qg(r:Rep G H d v)(e:Qf d=some k):zj G.K H v k:=by
 unfold Qf at e;split at e
 ·rename_i ks w;unfold Rep at r;obtain⟨a,xs,rfl,h1,h2⟩:=r;unfold r6 at h2;obtain⟨v1,r1,rfl,q1,q2⟩:=h2;unfold r6 at q2;obtain⟨v2,r2,rfl,_,q3⟩:=q2;unfold r6 at q3;subst q3;unfold Rep at q1;obtain⟨b,ys,rfl,p1,p2⟩:=q1;rw[zk p2 e]at p1;exact⟨a,b,v2,rfl,h1,p1⟩
 ·cases e
theorem G6:∀{ds:aS} {ks:List aB},Ai ds=some ks->ks.length=ds.length
 |[],ks,e=>by cases e;rfl
 |d::ds,ks,e=>by
  unfold Ai at e;cases e1:Qf d with
  |none=>rw[e1]at e;cases e
  |some k=>
   cases e2:Ai ds with
   |none=>rw[e1,e2]at e;cases e
   |some ks'=>rw[e1,e2]at e;cases e;rw[aE,aE,G6 e2]
theorem G7:∀{ds:aS} {ks:List aB} {xs:bC},r6 G H ds xs->Ai ds=some ks->∀(i:Nat) (y:V) (k:aB),xs[i]?=some y->ks[i]?=some k->zj G.K H y k
 |[],ks,xs,r,e,i,y,k,h1,h2=>by cases e;cases h2
 |d::ds,ks,xs,r,e,i,y,k,h1,h2=>by
  unfold Ai at e;cases e1:Qf d with
  |none=>rw[e1]at e;cases e
  |some k'=>
   cases e2:Ai ds with
   |none=>rw[e1,e2]at e;cases e
   |some ks'=>
    rw[e1,e2]at e;cases e;unfold r6 at r;obtain⟨v,r',rfl,q1,q2⟩:=r;cases i with
    |zero=>cases h1;cases h2;exact Qg q1 e1
    |succ i=>exact G7 q2 e2 i y k h1 h2
theorem G8(r:r6 G H ds xs):∀(is:List Nat),(∀i∈is,i<ds.length)->r6 G H (is.map λi=>ds.getD i .non) (is.map λi=>xs.getD i V.non)
 |[],_=>sR
 |i::is,h=>by have hi:=h i (.head _);obtain⟨v,e,rv⟩:=um r (aN hi);refine sP ?_ (G8 r is λj hj=>h j (.tail _ hj));show Rep G H (ds.getD i .non) (xs.getD i V.non);rw[cn,cn,e,aN hi];exact rv
theorem SqT.same{K:ar}(s:sq H0 H1)(p:zj K H0 y k):zj K H1 y k:=by obtain⟨a,b,v,e,h1,h2⟩:=p;exact⟨a,b,v,e,SqT.mono s h1,SqT.mono s h2⟩
theorem JV(hg:∀ρ ds ρ1,g ρ=some (.lst ds,ρ1)->f ρ=some (.lst ds,ρ1)\/f ρ=some (.tup ds,ρ1))(h:PE X e (tCB (λxs H Q=>∃(a:Addr) (ys:bC) (ks:List aB),xs=[.ref a]/\(SqL G.K H a ys\/SqT G.K H a ys)/\0<ys.length/\ys.length<64/\ks.length=ys.length/\ks.Nodup/\(∀(i:Nat) (y:V) (k:aB),ys[i]?=some y->ks[i]?=some k->zj G.K H y k)/\
  ∀p,H p=none->Q (.ref p) (upd H p (.lst ((JU (λi j=>Ag (ks.getD i []) (ks.getD j [])) ys.length).map λi=>ys.getD i V.non)))) (tFA G (rR f sS)))):PE X e (tFN G (Fk g)):=PE.weak h λσ H Q hh=>by
 obtain⟨F,ρ,H0,es,ρ',R,e,k⟩:=hh;unfold Fk at e;split at e
 ·rename_i ds ρ1 e1;cases e2:G5 ds with
  |none=>simp only[e2]at e;cases e
  |some es'=>
   simp only[e2]at e;cases e;unfold G5 at e2;cases e3:Ai ds with
   |none=>simp only[e3]at e2;cases e2
   |some ks=>
    simp only[e3]at e2;split at e2
    ·rename_i hh;obtain⟨nd,hn,h64⟩:=hh;cases e2;have xx:∃x,f ρ=some (x,ρ')/\∀H v,Rep G H x v->∃a xs,v=V.ref a/\(H a=some (.lst xs)\/SqT G.K H a xs)/\r6 G H ds xs:=by
      rcases hg _ _ _ e1 with q|q
      ·exact⟨_,q,λH v r=>by unfold Rep at r;obtain⟨a,xs,e,h1,h2⟩:=r;exact⟨a,xs,e,.inl h1,h2⟩⟩
      ·exact⟨_,q,λH v r=>by unfold Rep at r;obtain⟨a,xs,e,h1,h2⟩:=r;exact⟨a,xs,e,.inr h1,h2⟩⟩
     obtain⟨x,ex,hx⟩:=xx;refine⟨F,ρ,H0,[x],_,R,by unfold rR;rw[ex];rfl,λys H1 H1' s R' rs=>?_⟩;unfold r6 at rs;obtain⟨v,r0,rfl,rv,rn⟩:=rs;unfold r6 at rn;subst rn;obtain⟨a,xs,rfl,h1,h2⟩:=hx _ _ rv;have hl:=r9 h2;refine⟨a,xs,ks,rfl,h1.imp (λh=>SqL.of (R'.sub _ _ h)) (SqT.mono R'.sub),by omega,by omega,by rw[G6 e3,hl],nd,λi y kk q1 q2=>SqT.same R'.sub (G7 h2 e3 i y kk q1 q2),λp hp=>?_⟩;refine k p _ _ _ s (R'.newOwn hp _) se (R'.h0none hp) (R'.bNone hp) (R'.apart hp) ?_;rw[<-hl];exact G8 h2 _ λi hi=>Iv _ hn i hi
    ·cases e2
 ·cases e
theorem Lj(h:PE X e (tCB (λxs H Q=>∃(a:Addr) (ys:bC) (ks:List aB),xs=[.ref a]/\(SqL G.K H a ys\/SqT G.K H a ys)/\0<ys.length/\ys.length<64/\ks.length=ys.length/\ks.Nodup/\(∀(i:Nat) (y:V) (k:aB),ys[i]?=some y->ks[i]?=some k->zj G.K H y k)/\
  ∀p,H p=none->Q (.ref p) (upd H p (.lst ((JU (λi j=>Ag (ks.getD i []) (ks.getD j [])) ys.length).map λi=>ys.getD i V.non)))) (tFA G (rR f sS)))):PE X e (tFN G (Fk f)):=JV (λ_ _ _ h=>.inl h) h
theorem Iy(hu:X.A.units+64<cLine)(hK:X.K=G.K:=by rfl):uf X (.builtin "sorted") (λxs H Q=>∃(a:Addr) (ys:bC) (ks:List aB),xs=[.ref a]/\(SqL G.K H a ys\/SqT G.K H a ys)/\0<ys.length/\ys.length<64/\ks.length=ys.length/\ks.Nodup/\(∀(i:Nat) (y:V) (k:aB),ys[i]?=some y->ks[i]?=some k->zj G.K H y k)/\
  ∀p,H p=none->Q (.ref p) (upd H p (.lst ((JU (λi j=>Ag (ks.getD i []) (ks.getD j [])) ys.length).map λi=>ys.getD i V.non)))):=by rw[<-hK];exact Iw hu
end
end L4
namespace L4
open PySem PySem.Spec PyProof.Rows L2 L3
section
variable{X:Cx}{G:Bg}
theorem To:OpD G (λx y H Q=>∃z n,x=.str z/\y=.int n/\MulOk z n/\Q (.str (hG z n)) H) JE:=λx y z H0 H v u Q e s rx ry k=>by
 unfold JE at e;split at e
 ·rename_i a n;split at e
  ·rename_i hl;obtain⟨h0,h1,h2⟩:=hl;cases e;unfold Rep at rx ry;refine⟨a,n,rx,ry,⟨?_,λh3 h4 h5=>?_,λh3 h4=>?_⟩,k _ λ_ _=>y9 _⟩
   ·rw[kh];exact⟨aL (by omega),aL (by omega)⟩
   ·have hn:(0:Int)<n:=by omega
    have q:(9223372036854775807:Int) / n >= 9223372036854775:=by have:=Int.le_ediv_of_mul_le (a:=9223372036854775) (b:=9223372036854775807) hn (by omega);exact this
    have:((2:Int) ^ 63 - 1)=9223372036854775807:=by decide
    rw[this]at h5;omega
   ·have hn:n.toNat<=1000:=by omega
    have:a.length * n.toNat<=100 * 1000:=Nat.mul_le_mul h2 hn;refine aL ?_;rw[bL];omega
  ·cases e
 ·cases e
theorem Tp(hu:X.A.units+1<cLine)(ha:PE X a (tF G f))(hb:PE X b (tF G f'))(h1:behindInMarks .In b=false:=by rfl):PT X (.Compare a [.In] [b] pos) (tFT G (cT (c2 (JF false) f f'))):=PT.weak (UW (OM hu ha hb) h1) λσ H Q hh=>PF σ H _ (Ig σ H Q hh)
end
def Mr:List String:=["NoneType", "bool", "int", "str", "tuple", "list", "dict"]
def G9(n c:Nat):Ty->Option Bool:=λy=>match y with
 |.b x=>if Mr.contains x=true then some false else none
 |.c k=>if k<n then some (k==c)else none
def Ew(K:ar)(cs:List Addr)(C:Addr)(c:Nat):Bool:=
 Mr.all (λx=>cH K (.type x) (.ref C)==some false)&&(bB cs.length).all λk=>cH K (.ref (cs.getD k 0)) (.ref C)==some (k==c)
theorem He{B:Bg}(h:Ew B.K cs (B.ca c) c=true)(hn:cs.length=n)(hc:∀k,k<n->cs.getD k 0=B.ca k)(hI:∀k,k<n->NF B.K (B.ca k)):K4 B c (G9 n c):=by
 unfold Ew at h;rw[bh,bD,bD]at h;refine⟨λy b e=>?_,λj b e=>?_⟩
 ·cases y with
  |b x=>
   unfold G9 at e;simp only at e;split at e
   ·rename_i hx;cases e;exact eQ (h.1 x (nW.mp hx))
   ·cases e
  |c k=>
   unfold G9 at e;simp only at e;split at e
   ·rename_i hk;cases e;have:=eQ (h.2 k (cu.mpr (by omega)));rw[hc k hk]at this;exact this
   ·cases e
 ·unfold G9 at e;simp only at e;split at e
  ·rename_i hk;exact hI j hk
  ·cases e
theorem Wy{l:List Addr}(h:l.Nodup)(hj:j<l.length)(hk:k<l.length)(e:l.getD j 0=l.getD k 0):j=k:=by
 rw[cn,cn,aN hj,aN hk]at e;have pw:=nG.mp h;rcases oU j k with y|y|y
 ·exact aq e (pw j k hj hk y)
 ·exact y
 ·exact aq e.symm (pw k j hk hj y)
section
variable{B:Bg}{K:ar}{mg:Str->Option aa}{h:Heap}
theorem const_int(X:K.In h)(Gn:h.Ns mainGlobals mg)(e:W.nsIn K mainGlobals x=some (some (.int i t))):AO B mg x (.int i):=
 ⟨.int i,_,jt X Gn e,⟨_,rfl⟩,λ_=>uE _⟩
inductive zl:List aa->aB->Prop
 |nil:zl [] []
 |cons {v:aa} {x:Str} {t:Tok} {vs:List aa} {xs:aB} (e:v=.str x t) (h:zl vs xs):zl (v::vs) (x::xs)
theorem zl.vals(h:zl vs xs):Vals (xs.map V.str) vs:=by
 induction h with
 |nil=>exact .nil
 |cons e h ih=>exact .cons ⟨_,e⟩ ih
theorem Fl:∀xs:aB,r6 B H (xs.map D.str) (xs.map V.str)
 |[]=>sR
 |x::xs=>sP (y9 x) (Fl xs)
theorem Lk(xs:aB)(X:B.K.In h)(Gn:h.Ns mainGlobals mg)(e:W.nsIn B.K mainGlobals x=some (some (.ref a)))(l:B.K.lookup a=some o)(hc:o.cls=.type "tuple")(hd:o.data=.seq its n)(hz:its.size<=1000)
  (r:zl its.toList xs):AO B mg x (.tup (xs.map D.str)):=
 ⟨.ref a,_,jt X Gn e,rfl,λH=>y8 (.inr ⟨o,its,n,l,hc,hd,by rw[bL];omega,r.vals⟩) (Fl xs)⟩
end
variable{ns:aB}
section
variable{f g' h:FS}{c:FT}{e e' e2:FE}{a a':FA}{ρ ρ' ρ1 ρ2 ρ3:aZ}{d x y z:D}{ds xs ys:aS}{k:Nat}{cap:List Nat}{g:FG}{ft:FT}{fe:FE}
theorem Fm{α:Type}(dd:α->D)(p:α->Bool)(h:α->D):∀l:List α,
  (∀a∈l,∃ρ1 ρ2,g (dd a) (A5 k cap ρ)=some ρ1/\ft ρ1=some (p a,ρ2)/\(p a=true->∃ρ3,fe ρ2=some (h a,ρ3)/\vA cap (ρ3.drop k) ρ=some ρ)/\(p a=false->vA cap (ρ2.drop k) ρ=some ρ))->
  v9 k cap g ft fe (l.map dd) ρ=some ((l.filter p).map h,ρ)
 |[],_=>rfl
 |a::l,st=>by
  obtain⟨ρ1,ρ2,h1,h2,h3,h4⟩:=st a aV;have ih:=Fm dd p h l λa' ha=>st a' (bf _ ha);rw[au];unfold v9;rw[h1];simp only[h2];cases hp:p a with
  |true=>obtain⟨ρ3,h5,h6⟩:=h3 hp;simp only[h5,h6,ih,dh,hp,if_true,au]
  |false=>simp only[h4 hp,ih,dh,hp];rfl
theorem IA{α:Type}(dd:α->D)(h:α->D)(l:List α)(st:∀a∈l,∃ρ1 ρ3,g (dd a) (A5 k cap ρ)=some ρ1/\fe ρ1=some (h a,ρ3)/\vA cap (ρ3.drop k) ρ=some ρ):v9 k cap g tR fe (l.map dd) ρ=some (l.map h,ρ):=by have:=Fm (ft:=tR) dd (λ_=>true) h l λa ha=>let ⟨ρ1,ρ3,h1,h2,h3⟩:=st a ha;⟨ρ1,ρ1,h1,rfl,λ_=>⟨ρ3,h2,h3⟩,λz=>by cases z⟩;rw[this,kr.mpr λ_ _=>rfl]
theorem vm(neg:Bool)(a b:Str):dEq neg (.str a) (.str b)=some (.bl (if neg then !decide (a=b)else decide (a=b))):=by
 have e:CQ neg (.str a) (.str b)=some (.bl (if neg then !decide (V.str a=V.str b)else decide (V.str a=V.str b))):=rfl;have e2:decide (V.str a=V.str b)=decide (a=b):=by
  by_cases h:a=b
  ·subst h;simp
  ·rw[aL h,aL (λz=>h (by injection z))]
 unfold dEq;rw[e,e2]
theorem Qh(a:Str)(l:aB):inV (V.str a) (l.map V.str)=decide (a∈l):=by
 unfold inV;rw[cB,fD,bA];constructor
 ·rintro⟨v,hv,he⟩;obtain⟨b,hb,rfl⟩:=aG.mp hv;have:b=a:=by unfold eqV at he;simpa using he
  rw[<-this];exact hb
 ·intro ha;refine⟨.str a,cq ha,?_⟩;unfold eqV;simp
theorem NY(l:aB):(l.map D.str).all uY=true:=by rw[pM,bD];intro x _;rfl
theorem Tq(l:aB):(l.map D.str).map vD=l.map V.str:=by rw[aW];rfl
theorem uw(neg:Bool)(a:Str)(l:aB):dIn neg (.str a) (.lst (l.map D.str))=some (.bl (if neg then !decide (a∈l)else decide (a∈l))):=by unfold dIn;show (if uY (.str a)&&(l.map D.str).all uY then some (D.bl (if neg then !inV (vD (.str a)) ((l.map D.str).map vD)else inV (vD (.str a)) ((l.map D.str).map vD)))else none)=_;rw[NY,Tq];show some (D.bl (if neg then !inV (V.str a) (l.map V.str)else inV (V.str a) (l.map V.str)))=_;rw[Qh]
theorem JW(neg:Bool)(a:Str)(l:aB):dIn neg (.str a) (.tup (l.map D.str))=some (.bl (if neg then !decide (a∈l)else decide (a∈l))):=uw neg a l
theorem IB:∀bs:List Bool,Gi (bs.map D.bl)=some bs
 |[]=>rfl
 |b::bs=>by rw[au];unfold Gi;rw[IB bs];rfl
theorem Qi(bs:List Bool):xX (.lst (bs.map D.bl))=some (.bl (bs.all id)):=by unfold xX;simp only[IB];rfl
theorem Qj(bs:List Bool):Ej (.lst (bs.map D.bl))=some (.bl (bs.any id)):=by unfold Ej;simp only[IB];rfl
theorem Ms{α:Type}(l:List α)(p:α->Bool):xX (.lst (l.map λa=>D.bl (p a)))=some (.bl (l.all p)):=by rw[show (l.map λa=>D.bl (p a))=(l.map p).map D.bl by rw[aW];rfl,Qi,pM];rfl
theorem Mt{α:Type}(l:List α)(p:α->Bool):Ej (.lst (l.map λa=>D.bl (p a)))=some (.bl (l.any p)):=by rw[show (l.map λa=>D.bl (p a))=(l.map p).map D.bl by rw[aW];rfl,Qj,List.any_map];rfl
theorem Fn:∀l:aB,Bd (l.map D.str)=some (l.map Sum.inr)
 |[]=>rfl
 |x::l=>by rw[au];unfold Bd;rw[Fn l];rfl
theorem Qk:∀(l acc:List Key),(acc++l).Nodup->l.foldl ddp acc=acc++l
 |[],acc,_=>by rw[bq];rfl
 |k::l,acc,h=>by
  have hn:acc.any (λz=>decide (z=k))=false:=by rw[iR];intro z;obtain⟨y,hy,ey⟩:=fD.mp z;rw[bZ]at h;exact h.2.2 y hy k aV (bo ey)
  rw[pf,show ddp acc k=acc++[k] by unfold ddp;rw[hn];rfl,Qk l (acc++[k]) (by simpa using h)];simp
theorem wj{l:aB}(h:l.Nodup):(l.map (Sum.inr:Str->Key)).Nodup:=by unfold List.Nodup at h ⊢;rw[List.pairwise_map];exact h.imp λhne z=>hne (ji z)
theorem DE{l:aB}(h:l.Nodup)(hl:l.length<=1000):vT (l.map D.str)=some (.int l.length):=by unfold vT;rw[Fn];simp only[ag,hl,if_true];unfold xZ;rw[Qk _ [] (by simpa using wj h)];simp
theorem vo(neg:Bool)(a b:Int):dEq neg (.int a) (.int b)=some (.bl (if neg then !decide (a=b)else decide (a=b))):=by
 have e:CQ neg (.int a) (.int b)=some (.bl (if neg then !decide (V.int a=V.int b)else decide (V.int a=V.int b))):=rfl;have e2:decide (V.int a=V.int b)=decide (a=b):=by
  by_cases h:a=b
  ·subst h;simp
  ·rw[aL h,aL (λz=>h (by injection z))]
 unfold dEq;rw[e,e2]
theorem tq(h1:e ρ=some (.bl true,ρ1)):tV e e' ρ=e' ρ1:=by unfold tV;rw[h1]
theorem tX{g:Nat->Option (aS->Option D)}{m:Str}{c:Nat}{hh:aS->Option D}(h1:e ρ=some (.obj c ns xs,ρ1))(h2:g c=some hh)(h3:ns.contains m=false)(h4:a ρ1=some (ys,ρ2))(h5:hh (.obj c ns xs::ys)=some d):t8 g m e a ρ=some (d,ρ2):=by unfold t8;rw[h1];simp only[h2,h3,h4,h5];rfl
theorem IC{c:Nat}{g:aS->Option (aB×aS)}(h1:a ρ=some (ds,ρ1))(h2:g ds=some (ns,xs)):sU c g a ρ=some (.obj c ns xs,ρ1):=by unfold sU;rw[h1];simp only[h2]
theorem zm(hl:ds.length=np)(h:b (L4.stE n ds)=some (.nx ρ)):fnD np n b ds=some .non:=by unfold fnD;rw[ai hl,h]
theorem WA(hl:ds.length=np)(h:b (L4.stE n ds)=some (.rn xs ρ)):fnD np n b ds=some (.lst xs):=by unfold fnD;rw[ai hl,h]
theorem Aj:∀{ks:List Key} {ds:aS} {k:Key} {d:D},ks.Nodup->(k,d)∈ks.zip ds->uo ks ds k=some d
 |[],_,k,d,_,h=>by simp at h
 |k'::ks,[],k,d,_,h=>by simp at h
 |k'::ks,d'::ds,k,d,nd,h=>by
  unfold uo;rw[df]at h;rcases aK.mp h with e|h
  ·cases e;rw[ai rfl]
  ·rw[cc]at nd;rw[aj (λz=>nd.1 (by subst z;exact(ja h).1))];exact Aj nd.2 h
theorem AS:∀{ks:List Key} {ds:aS} {k:Key},k∉ks->uo ks ds k=none
 |[],ds,k,_=>by unfold uo;rfl
 |k'::ks,[],k,_=>by unfold uo;rfl
 |k'::ks,d'::ds,k,h=>by unfold uo;rw[aj (λz=>h (by subst z;exact aV))];exact AS λz=>h (bf _ z)
end
end L4
namespace L4
open PySem PySem.Spec PyProof.Rows L2 L3
open PySem.W (nsIn findIn keepIn isFn makesIn fnOf)
def Ll{α:Type}:Nat->(List α->Prop)->Prop
 |0,P=>P []
 |n+1,P=>∀a,Ll n λl=>P (a::l)
theorem Ex{α:Type}:∀{n:Nat} {P:List α->Prop},Ll n P->∀l,l.length=n->P l
 |0,P,h,[],_=>h
 |n+1,P,h,a::l,e=>Ex (P:=λl=>P (a::l)) (h a) l (gW e)
structure CF(K:ar)(C:Addr)(xs:aB):Prop where
 ci:NF K C
 mks:makesIn K C=true
 kp:keepIn K (.ref C)=true
 na:(xs.all λx=>match findIn K (.ref C) x with|some none=>true|_=>false)=true
theorem CF.at{K:ar}(c:CF K C xs)(i:Nat)(h:xs[i]?=some x):Cls K C/\xC K C x:=⟨c.ci.cl,by
 have e:=bD.mp c.na x (cA h);unfold xC;split at e
 ·rename_i e1;exact e1
 ·cases e⟩
variable{i:Nat}
theorem wA{Q:Nat->Prop}(h:Q i):∀c,(c==i)=true->Q c:=λc e=>by rw[beq_iff_eq]at e;subst e;exact h
theorem orQ{Q:Nat->Prop}{p:Nat->Bool}(h:∀c,p c=true->Q c)(h':Q i):∀c,(p c||c==i)=true->Q c:=λc e=>by
 rw[kG]at e;rcases e with e|e
 ·exact h c e
 ·exact wA h' c e
structure Yw(P:aU)(w:aI)(mg:Str->Option aa)(base:Heap)(G:Bg):Prop where
 m:∃h:Heap,G.K.In h/\h.Ns mainGlobals mg
section
variable{P:aU}{w:aI}{mg:Str->Option aa}{base:Heap}{G:Bg}{x m qual:Str}{st:Stmt}{N ps:aB}{k c:Nat}{K:ar}
theorem Yw.g(y:Yw P w mg base G)(e:nsIn G.K mainGlobals x=some (some v)):mg x=some v:=by obtain⟨h,X,Gn⟩:=y.m;exact jt X Gn e
theorem Yw.n(y:Yw P w mg base G){xs:aB}(h:(xs.all λx=>match nsIn G.K mainGlobals x with|some none=>true|_=>false)=true)(i:Nat)(hi:xs[i]?=some x):mg x=none:=by
 obtain⟨hh,X,Gn⟩:=y.m;have e:=bD.mp h x (cA hi);split at e
 ·rename_i e1;exact W.mg_none_of X Gn e1
 ·cases e
def GC(K:ar)(x:Str)(i:Int):Prop:=∃t:Tok,nsIn K mainGlobals x=some (some (.int i t))
theorem Yw.ci(y:Yw P w mg base G)(q:GC G.K x i):AO G mg x (.int i):=by obtain⟨h,X,Gn⟩:=y.m;obtain⟨t,e⟩:=q;exact const_int X Gn e
def GS(K:ar)(x:Str)(xs:aB):Prop:=∃(a:Addr) (o:Obj) (its:Array aa) (n:Nat),nsIn K mainGlobals x=some (some (.ref a))/\K.lookup a=some o/\o.cls=.type "tuple" /\ o.data=.seq its n/\its.size<=1000/\zl its.toList xs
theorem Yw.cs(y:Yw P w mg base G)(q:GS G.K x xs):AO G mg x (.tup (xs.map D.str)):=by obtain⟨h,X,Gn⟩:=y.m;obtain⟨a,o,its,n,e,l,h1,h2,h3,h4⟩:=q;exact Lk xs X Gn e l h1 h2 h3 h4
def GD(K:ar)(x:Str)(st:Stmt):Prop:=∃(f:Addr) (fd:bY),nsIn K mainGlobals x=some (some (.ref f))/\Fun K x x st f fd
def GM(K:ar)(C:Addr)(m qual:Str)(st:Stmt):Prop:=∃(f:Addr) (fd:bY),findIn K (.ref C) m=some (some (.ref f))/\isFn K (.ref f)=true/\Fun K m qual st f fd
def GJ(K:ar)(C:Addr)(qual:Str)(st:Stmt)(vs:bC):Prop:=∃(f:Addr) (fd:bY) (T:Addr) (o:Obj) (dl:List aa) (n:Nat),findIn K (.ref C) "__init__" = some (some (.ref f))/\isFn K (.ref f)=true/\Np K "__init__" qual st f fd T/\K.lookup T=some o/\o.data=.seq dl.toArray n/\Vals vs dl
abbrev Bdy(P:aU)(w:aI)(K:ar)(mg:Str->Option aa)(base:Heap)(N:aB)(qual:Str)(st:Stmt)(k:Nat)(t:TS):Prop:=∀(f:Addr) (cdv:aa) (A:aQ) (outer:List Env) (s:ae) (H:Hp) (E:XK),ug k (A.deeper (envOfC qual (sE st) s.heap.objs.size f cdv))->PSs (Bc P w K mg base N qual st f cdv A outer s H E) (tp st) t
abbrev Bds(x qual:Str)(st:Stmt)(ps:aB):Prop:=Ll ps.length λus=>∀(kV doc pm:aa) (an:Option Addr) (cdv ct:aa),bindArgs (fnOf x qual (yb st) (tp st) (sE st) .none kV doc pm an cdv ct) ⟨us,[]⟩=pure (ps.zip us)
theorem Bds.ok(b:Bds x qual st ps)(F:Fun K x qual st f fd):Binds K fd ps []:=F.binds λkV doc pm an cdv ct us hl=>Ex b us hl kV doc pm an cdv ct
theorem gD(y:Yw P w mg base G)(q:GD G.K x st)(bd:Bds x x st ps)(ok:∀f fd,Fun G.K x x st f fd->vQ P w G.K mg base CX0 k f fd ps sp):yL P w G.K mg base k x ps sp:=by obtain⟨f,fd,a,F⟩:=q;exact⟨f,fd,y.g a,F.kp,bd.ok F,ok f fd F⟩
theorem gF(hg:g=fnD np n b)(y:Yw P w mg base G)(q:GD G.K x st)(S:ud N ps (sE st))(body:Bdy P w G.K mg base N x st k (tFS G b))(hp:ps.length=np:=by rfl)(hN:N.length=n:=by rfl)(bd:Bds x x st ps:=by (repeat intro _);rfl):yL P w G.K mg base (k+1) x ps (spF G g):=
 gD y q bd λf fd F=>Pr hg hp hN F S (body f)
theorem gN'(hg:g=fnN np n b)(y:Yw P w mg base G)(q:GD G.K x st)(S:ud N ps (sE st))(body:Bdy P w G.K mg base N x st k (tFS G b))(hp:ps.length=np:=by rfl)(hN:N.length=n:=by rfl)(bd:Bds x x st ps:=by (repeat intro _);rfl):yL P w G.K mg base (k+1) x ps (spN G g):=
 gD y q bd λf fd F=>ZQ hg hp hN F S (body f)
theorem gM(hg:g=fnM np n b)(y:Yw P w mg base G)(q:GD G.K x st)(S:ud N (p::ps) (sE st))(body:Bdy P w G.K mg base N x st k (tFS G b))(hp:ps.length=np:=by rfl)(hN:N.length=n:=by rfl)(bd:Bds x x st (p::ps):=by (repeat intro _);rfl):yL P w G.K mg base (k+1) x (p::ps) (spM G g):=
 gD y q bd λf fd F=>ZR hg hp hN F S (body f)
theorem gL(hg:g=fnL np n b)(y:Yw P w mg base G)(q:GD G.K x st)(S:ud N ps (sE st))(body:Bdy P w G.K mg base N x st k (tFS G b))(hp:ps.length=np+1:=by rfl)(hN:N.length=n:=by rfl)(bd:Bds x x st ps:=by (repeat intro _);rfl):yL P w G.K mg base (k+1) x ps (spL G g):=
 gD y q bd λf fd F=>Z5 hg hp hN F S (body f)
theorem gI(hg:g=fnI c np n b)(y:Yw P w mg base G)(C:CF G.K (G.ca c) xs)(a:nsIn G.K mainGlobals x=some (some (.ref (G.ca c))))(q:GM G.K (G.ca c) "__init__" qual st)(S:ud N (p::ps) (sE st))(body:Bdy P w G.K mg base N qual st k (tFS G b))(hp:ps.length=np:=by rfl)(hN:N.length=n:=by rfl)(bd:Bds "__init__" qual st (p::ps):=by (repeat intro _);rfl):Ik G P w mg base (k+1) x c (p::ps) [] g:=by obtain⟨f,fd,i,i',F⟩:=q;exact⟨f,fd,[],⟨C.mks,i,i',C.kp⟩,y.g a,bd.ok F,.nil,ZU hg hp hN F S (body f)⟩
theorem JX(h:Vals vs us):us.length=vs.length:=by
 induction h with
 |nil=>rfl
 |cons _ _ ih=>rw[aE,aE,ih]
theorem NZ(h:Vals vs us):∀j,Vals (vs.drop j) (us.drop j):=by
 induction h with
 |nil=>intro j;rw[pK,pK];exact .nil
 |cons a b ih=>
  intro j;cases j with
  |zero=>exact .cons a b
  |succ j=>exact ih j
theorem gJ(hg:g=fnI c np n b)(y:Yw P w mg base G)(C:CF G.K (G.ca c) xs)(a:nsIn G.K mainGlobals x=some (some (.ref (G.ca c))))(q:GJ G.K (G.ca c) qual st vs)(S:ud N (p::ps) (sE st))(body:Bdy P w G.K mg base N qual st k (tFS G b))(j:Nat)(hp:ps.length=np:=by rfl)(hN:N.length=n:=by rfl)
  (bd:Ll vs.length λdl=>Ll ((p::ps).length - (vs.drop j).length) λus=>∀(T:Addr) (kV doc pm:aa) (an:Option Addr) (cdv ct:aa),∃k,bindArgs (fnOf "__init__" qual (yb st) (tp st) (sE st) (.ref T) kV doc pm an cdv ct) ⟨us,[]⟩=seqItems? (.ref T)>>=k/\k (some dl.toArray)=pure ((p::ps).zip (us++dl.drop j)):=by (repeat intro _);exact⟨_,rfl,rfl⟩):Ik G P w mg base (k+1) x c (p::ps) (vs.drop j) g:=by
 obtain⟨f,fd,T,o,dl,n,i,i',F,l,e,r⟩:=q;refine⟨f,fd,dl.drop j,⟨C.mks,i,i',C.kp⟩,y.g a,F.binds l e λkV doc pm an cdv ct us hl=>?_,NZ r j,Wg hg hp hN F S (body f)⟩;exact Ex (Ex bd dl (JX r)) us (by rw[hl,cb,cb,JX r]) T kV doc pm an cdv ct
end
end L4
namespace L4
open PySem PySem.Spec PyProof.Rows L2 L3
def leS(a b:Str):Bool:=decide (a.cps.toList<=b.cps.toList)
def wZ(ss:aB):aB:=ss.mergeSort leS
theorem Ql(a b c:Str)(h:leS a b=true)(h':leS b c=true):leS a c=true:=aX (List.le_trans (bo h) (bo h'))
theorem Tr(a b:Str):(leS a b||leS b a)=true:=by
 rw[kG];rcases List.le_total a.cps.toList b.cps.toList with h|h
 ·exact .inl (aX h)
 ·exact .inr (aX h)
theorem Qm(a b:Str)(h:leS a b=true)(h':leS b a=true):a=b:=by have e:=List.le_antisymm (bo h) (bo h');cases a with|mk a=>cases b with|mk b=>cases a;cases b;simp only at e;rw[e]
theorem CZ:∀(r:aB) (x:Str),risingS x r=true->(∀y∈r,leS x y=true)/\r.Pairwise λa b=>leS a b=true
 |[],x,_=>⟨λy h=>(bR h).elim,.nil⟩
 |z::r,x,h=>by
  unfold risingS at h;rw[bh,fA,ltCps_eq]at h;obtain⟨h1,h2⟩:=h;obtain⟨g1,g2⟩:=CZ r z h2;have h3:leS x z=true:=aX (of_decide_eq_false h1);refine⟨λy hy=>?_,.cons g1 g2⟩;rcases aK.mp hy with e|hy
  ·rw[e];exact h3
  ·exact Ql _ _ _ h3 (g1 y hy)
theorem Lm:∀l:aB,sortedS l=true->l.Pairwise λa b=>leS a b=true
 |[],_=>.nil
 |x::r,h=>.cons (CZ r x h).1 (CZ r x h).2
theorem Fo{l:aB}(p:l.Perm ss)(h:sortedS l=true):l=wZ ss:=
 List.Perm.eq_of_pairwise (λa b _ _=>Qm a b) (Lm l h) (List.pairwise_mergeSort Ql Tr ss) (p.trans (iN ss leS).symm)
theorem Fp:∀{xs:aB} {vs:List aa},Vals (xs.map V.str) vs->fw vs xs
 |[],vs,h=>by cases h;exact .nil
 |x::xs,vs,h=>by
  cases h with
  |cons r h'=>obtain⟨t,rfl⟩:=r;exact .cons x t (Fp h')
theorem Qn:∀{vs:List aa} {xs:aB},fw vs xs->Vals (xs.map V.str) vs
 |_,_,.nil=>.nil
 |_,_,.cons x t h=>.cons ⟨t,rfl⟩ (Qn h)
section
variable{X:Cx}{G:Bg}{pins:cy}{σ:St}{H:Hp}{s:ae}
theorem ID:uf X (.builtin "sorted") (λxs H Q=>∃(a:Addr) (ss:aB),xs=[.ref a]/\SqL X.K H a (ss.map V.str)/\ss.length<64/\∀p,H p=none->Q (.ref p) (upd H p (.lst ((wZ ss).map V.str)))):=by
 intro pins s σ H xs us Q I r h;obtain⟨a,ss,rfl,hq,h64,q⟩:=h;obtain⟨u,rfl,ru⟩:=vals1 r;cases ru;obtain⟨its,ri,pl,_⟩:=I.list hq;have hl:(ss.map V.str).length=its.length:=ri.length;rw[ag]at hl;refine sorted_strs pl.isList (Fp ri) (by omega) λout ss' a1 a2 a3=>?_;obtain⟨e,he⟩:=sortedAll_at s.heap its out;have e1:=Fo a2 a3;refine⟨.ref (s.heap.objs.size+1),_,I.laid (t':=s.toks) (λ_ _=>sortedAll_old) (eP _) ?_,rfl,q _ (I.hok.fresh (eP _))⟩;refine⟨?_,out.toList,e,?_,he⟩
 ·rw[ag,<- e1,a2.length_eq,bL];omega
 ·rw[<-e1];exact Qn a1
def Da(f:FE):FA:=λρ=>match f ρ with
 |some (.lst ds,ρ')=>match Ah ds with
  |some ss=>if ss.length<64 then some ((wZ ss).map D.str,ρ')else none
  |none=>none
 |_=>none
theorem By:∀xs:aB,r6 G H (xs.map D.str) (xs.map V.str)
 |[]=>sR
 |x::xs=>sP (y9 x) (By xs)
theorem JY(h:PE X e (tCB (λxs H Q=>∃(a:Addr) (ss:aB),xs=[.ref a]/\SqL G.K H a (ss.map V.str)/\ss.length<64/\∀p,H p=none->Q (.ref p) (upd H p (.lst ((wZ ss).map V.str)))) (tFA G (rR f sS)))):PE X e (tFN G (Da f)):=PE.weak h λσ H Q hh=>by
 obtain⟨F,ρ,H0,es,ρ',R,e,k⟩:=hh;unfold Da at e;split at e
 ·rename_i ds ρ1 e1;cases e2:Ah ds with
  |none=>simp only[e2]at e;cases e
  |some ss=>
   simp only[e2]at e;split at e
   ·rename_i h64;cases e;refine⟨F,ρ,H0,[.lst ds],_,R,by unfold rR;rw[e1];rfl,λys H1 H1' s R' rs=>?_⟩;unfold r6 at rs;obtain⟨v,r0,rfl,rv,rn⟩:=rs;unfold r6 at rn;subst rn;unfold Rep at rv;obtain⟨a,xs,rfl,h1,h2⟩:=rv;have hx:=zk h2 e2;subst hx;refine⟨a,ss,rfl,SqL.of (R'.sub _ _ h1),h64,λp hp=>?_⟩;exact k p _ _ _ s (R'.newOwn hp _) se (R'.h0none hp) (R'.bNone hp) (R'.apart hp) (By _)
   ·cases e
 ·cases e
theorem Gm(hK:X.K=G.K:=by rfl):uf X (.builtin "sorted") (λxs H Q=>∃(a:Addr) (ss:aB),xs=[.ref a]/\SqL G.K H a (ss.map V.str)/\ss.length<64/\∀p,H p=none->Q (.ref p) (upd H p (.lst ((wZ ss).map V.str)))):=by rw[<-hK];exact ID
theorem BA(k:Str):∀{vs:List aa} {ss:aB},fw vs ss->∀(j:Nat) (h1:j<vs.length) (h2:j<ss.length),isStrOf k vs[j]=(ss[j]==k)
 |_,_,.cons n t _,0,_,_=>rfl
 |_,_,.cons n t r,j+1,h1,h2=>BA k r j (gx h1) (gx h2)
theorem JZ:∀{ns:aB} {j:Nat},j<ns.idxOf k->∀(h2:j<ns.length),(ns[j]==k)=false
 |n::r,0,h,_=>by
  by_cases e:n=k
  ·subst e;simp at h
  ·simpa using e
 |n::r,j+1,h,h2=>by
  by_cases e:n=k
  ·subst e;simp at h
  ·have hb:(n==k)=false:=by simpa using e
   have h':j<r.idxOf k:=by rw[pj,hb]at h;exact gx h
   exact JZ h' (gx h2)
def IE(K:ar):V->bC->Hp->VK->Prop:=λx vs H Q=>∃(l:Addr) (ss:aB) (k:Str),x=.ref l/\vs=[.str k]/\SqL K H l (ss.map V.str)/\ss.length<=1000/\k∈ss/\Q (.int (ss.idxOf k:Nat)) H
theorem N0:MtM X "list.index" (IE X.K):=by
 intro pins s σ H x vs v us Q I rx rv h;obtain⟨l,ss,k,rfl,rfl,hq,hz,hk,q⟩:=h;cases rx;obtain⟨u,rfl,ru⟩:=rv.one;obtain⟨t,rfl⟩:=ru;obtain⟨its,ri,pl,_⟩:=I.list hq;have hi:=Fp ri;have hlen:ss.length=its.length:=by have:=ri.length;rw[ag]at this;exact this
 obtain⟨⟨cls,dd,data,sl⟩,ho,hc,n,hd⟩:=id pl.isList;simp only at hc hd;subst hc hd;have hj:ss.idxOf k<ss.length:=nL.mpr hk;refine gX oV ⟨_,ho,rfl⟩ F.entry_list_index (F.args_list_index_2 _ _)
  (PySem.SeqAt.list_indexAt l its.toArray n dd sl (.str k t) (isStrOf k) (ss.idxOf k) (by simpa [hlen]using hj) (by omega) ?_ ?_) ⟨ho,λy hy=>(eq_isStrOf k t hi y (by simpa using hy)).at _ _,?_⟩
 ·show isStrOf k its[ss.idxOf k]=true;rw[BA k hi _ (by omega) hj];simpa using List.getElem_idxOf hj
 ·intro j hjs hlt;show isStrOf k its[j]=false;rw[BA k hi j (by simpa using hjs) (by omega)];exact JZ hlt _
 ·exact⟨.int (ss.idxOf k:Nat),_,I.tok _,⟨_,rfl⟩,q⟩
def AU:D->D->Option D:=λx y=>match x,y with
 |.lst ds,.str k=>match Ah ds with
  |some ss=>if k∈ss/\ss.length<=1000 then some (.int (ss.idxOf k:Nat))else none
  |none=>none
 |_,_=>none
theorem N1(h:PE X e (tBM G.K "list" (IE G.K) (tF G f) (tFA G (rR f' sS)))):PE X e (tF G (c2 AU f f')):=PE.weak h λσ H Q hh=>by
 obtain⟨F,ρ,H0,d,ρ',R,e,k⟩:=hh;obtain⟨x,y,ρ1,e1,e2,e3⟩:=BR e;unfold AU at e3;split at e3
 ·rename_i ds kk;cases eq:Ah ds with
  |none=>simp only[eq]at e3;cases e3
  |some ss=>
   simp only[eq]at e3;split at e3
   ·rename_i hk;cases e3;refine⟨F,ρ,H0,_,ρ1,R,e1,λv H1 H1' s1 R1 r1=>?_⟩;unfold Rep at r1;obtain⟨a,xs,rfl,h1,h2⟩:=r1;have hx:=zk h2 eq;subst hx;refine⟨.inl ⟨rfl,_,SqL.of (R1.sub _ _ h1)⟩,F,ρ1,H1,[.str kk],ρ',R1,by unfold rR;rw[e2];rfl,λys H2 H2' s2 R2 rs=>?_⟩;unfold r6 at rs;obtain⟨v,r0,rfl,rv,rn⟩:=rs;unfold r6 at rn;unfold Rep at rv;subst rn rv;exact⟨a,ss,kk,rfl,rfl,SqL.of (R2.sub _ _ (s2 _ _ h1)),hk.2,hk.1,k _ H2 H2' (s1.trans s2) R2 (uE _)⟩
   ·cases e3
 ·cases e3
theorem N2(hK:X.K=G.K:=by rfl):MtM X "list.index" (IE G.K):=by rw[<-hK];exact N0
end
end L4
namespace L4
open PySem PySem.Spec PySem.Calls PyProof.Rows PySem.W L2 L3
structure Sto(c:Nat->Nat->Bool)(n:Nat):Prop where
 tr:∀i j k,i<n->j<n->k<n->c i j=true->c j k=true->c i k=true
 tot:∀i j,i<n->j<n->i≠j->c i j=false->c j i=true
end L4
namespace L4
open PySem PySem.Spec PyProof.Rows L2 L3
structure Bz where
 P:aU
 w:aI
 mg:Str->Option aa
 base:Heap
 G:Bg
structure ZE(X:Cx)(B:Bz)(e:Expr)(f:FE):Prop where p:PE X e (tF B.G f)
structure ZN(X:Cx)(B:Bz)(e:Expr)(f:FA):Prop where p:PE X e (tFN B.G f)
structure ZT(X:Cx)(B:Bz)(e:Expr)(f:FT):Prop where p:PT X e (tFT B.G f)
structure ZW(X:Cx)(B:Bz)(e:Expr)(f:FT):Prop where p:PW X e (tFT B.G f)
structure ZF(X:Cx)(B:Bz)(e:List Expr)(f:FT):Prop where p:PIf X e (tFT B.G f)
structure ZA(X:Cx)(B:Bz)(e:List Expr)(f:FA):Prop where p:PA X e (tFA B.G f)
structure ZM(X:Cx)(B:Bz)(e:List Expr)(i:Nat)(f:FA):Prop where p:PA X e (Lf B.G i f)
structure ZS(X:Cx)(B:Bz)(e:Stmt)(f:FS):Prop where p:PS X e (tFS B.G f)
structure ZB(X:Cx)(B:Bz)(e:List Stmt)(f:FS):Prop where p:PSs X e (tFS B.G f)
structure ZI(X:Cx)(B:Bz)(tg e:Expr)(f:FA):Prop where p:PI X tg e (tFI B.G f)
structure ZO(X:Cx)(B:Bz)(e:Option Expr)(f:FO):Prop where p:PO X e (tFO B.G f)
structure ZG(X:Cx)(B:Bz)(e:Expr)(n:Nat)(f:FG):Prop where p:PG X e (tFG B.G n f)
structure ZH(X:Cx)(B:Bz)(e:List Expr)(n:Nat)(f:aS->aZ->Option aZ):Prop where p:PGs X e (O3 B.G n f)
structure ZK(X:Cx)(e:Option Expr)(i:Option Int):Prop where p:PO X e (tO i)
structure ZP(X:Cx)(B:Bz)(pos:Pos)(ks:List (Option Expr))(vs:List Expr)(l:List (Str×FE)):Prop where p:PPs X pos ks vs (P9 B.G l)
structure ZV(X:Cx)(e:Expr)(i:Nat):Prop where p:PE X e (yp i)
abbrev Gz(X:Cx)(x:Str):Prop:=X.env.kindOf x=some .globalImplicit
abbrev Dz(x:Str):Prop:=(x==("__debug__" : Str))=false
abbrev Nz(x:Str):Prop:=(decide (x≠"__name__")&&!(x==("__debug__" : Str)))=true
abbrev Sz(X:Cx)(e:Expr)(es:List Expr):Prop:=starEach (e::es) X.env=(false,eval e X.env)::starEach es X.env
abbrev S1(X:Cx)(e:Expr):Prop:=starEach [e] X.env=[(false,eval e X.env)]
abbrev Lz(X:Cx)(pos:Pos)(es:List Expr):Prop:=(backTo pos (starEach es X.env)).any (·.1)=false
abbrev Wz(X:Cx)(e o:Expr)(pos:Pos):Prop:=swapsWith e (some o) pos.line X.env=pure false
abbrev Az(X:Cx)(o:Expr)(m:Str):Prop:=attributeBase o m X.env (eval o X.env)=eval o X.env
abbrev Ez(p pos:Pos):Prop:=(p.endLine==pos.line)=true
abbrev Iz(e:Expr):Prop:=(λo i=>subscripted e false o i)=λo i=>operate [o,i] (getItem o i)
abbrev Fz(X:Cx)(e:Expr):Prop:=(λx=>foldedSetIterable e X.env x)=λx=>pure x
class Cz(X:Cx)(B:outParam Bz)(k:outParam Nat):Prop where
 P:X.prog=B.P
 w:X.w=B.w
 K:X.K=B.G.K
 mg:X.mg=B.mg
 b:X.base=B.base
 c:X.calm=true
 r:ug k X.A
class Yb(B:Bz):Prop where y:Yw B.P B.w B.mg B.base B.G
class Df(B:Bz)(j:outParam Nat)(x:Str)(sp:Sp):Prop where p:∃ps,yL B.P B.w B.G.K B.mg B.base j x ps sp
class Kf(B:Bz)(j:outParam Nat)(x:Str)(c:Nat)(g:aS->Option (aB×aS))(dds:aS):Prop where
 p:∃ps,Ik B.G B.P B.w B.mg B.base j x c ps (dds.map vD) g
 f:dds.all uY=true
class Mf(B:Bz)(j:outParam Nat)(m:Str)(g:Nat->Option (aS->Option D)):Prop where p:∀c h,g c=some h->zc B.G B.P B.w B.mg B.base j m c h
class Ff(B:Bz)(ok:Nat->Bool)(f:Str):Prop where p:∀c,ok c=true->Cls B.G.K (B.G.ca c)/\xC B.G.K (B.G.ca c) f
class Af(B:Bz)(c:Nat)(xs:outParam aB):Prop where p:CF B.G.K (B.G.ca c) xs
class Nb(B:Bz)(x:Str):Prop where p:B.mg x=none
class Co(B:Bz)(x:Str)(d:D):Prop where p:AO B.G B.mg x d
class Ic(B:Bz)(x:Str)(t:Ty->Option Bool):Prop where p:∃c,K4 B.G c t/\B.mg x=some (.ref (B.G.ca c))
class Ij(B:Bz)(n:Nat):Prop where p:∀j k,j<n->k<n->B.G.ca j=B.G.ca k->j=k
class OpC(op:Operator)(g:D->D->Option D):Prop where p:∀(X:Cx) (G:Bg),∃r,OpR X (binaryOp op) r/\OpD G r g
instance in1:OpC .Mod xF:=⟨λ_ _=>⟨_,Vg,VY⟩⟩
instance in2:OpC .FloorDiv E4:=⟨λ_ _=>⟨_,RA,VZ⟩⟩
instance in3:OpC .Mult Ba:=⟨λ_ _=>⟨_,Vf,VX⟩⟩
instance in4:OpC .Sub Jy:=⟨λ_ _=>⟨_,Ve,VW⟩⟩
instance in5:OpC .Pow GU:=⟨λ_ _=>⟨_,Vh,V3⟩⟩
instance in6:OpC .Add uu:=⟨λ_ _=>⟨_,Vd,VU⟩⟩
instance in8:OpC .Mult JE:=⟨λ_ _=>⟨_,KU,To⟩⟩
class CmC(op:CmpOp)(g:D->D->Option D):Prop where p:∀(X:Cx) (G:Bg),X.K=G.K->X.A.units+64<cLine->∃r,OpR X (compareOp op) r/\OpD G r g
instance in9:CmC .Eq (dEq false):=⟨λ_ _ h u=>⟨_,V8 u h,Zy⟩⟩
instance in10:CmC .NotEq (dEq true):=⟨λ_ _ h u=>⟨_,V9 u h,Zz⟩⟩
instance in11:CmC .In (dIn false):=⟨λ_ _ h _=>⟨_,Wa h,Ux⟩⟩
instance Q6:CmC .NotIn (dIn true):=⟨λ_ _ h _=>⟨_,Ny h,Ux⟩⟩
instance in13:CmC .Is Gh:=⟨λ_ _ _ _=>⟨_,Vi,V5⟩⟩
instance in14:CmC .IsNot Dx:=⟨λ_ _ _ _=>⟨_,RB,SI⟩⟩
instance in16:CmC .Lt Gg:=⟨λ_ _ _ _=>⟨_,Y4,Zu⟩⟩
instance in17:CmC .LtE yq:=⟨λ_ _ _ _=>⟨_,Y5,Zv⟩⟩
instance in18:CmC .Gt Pg:=⟨λ_ _ _ _=>⟨_,Y6,Zw⟩⟩
instance in19:CmC .GtE VT:=⟨λ_ _ _ _=>⟨_,Y7,Zx⟩⟩
instance in20:CmC .LtE Ph:=⟨λ_ _ _ _=>⟨_,Nn,V4⟩⟩
class B1(x:Str)(g:D->Option D):Prop where p:∀(X:Cx) (G:Bg),X.K=G.K->X.calm=true->∃(id:String) (r:bC->Hp->VK->Prop),uf X (.builtin id) r/\GV G r g/\bootBuiltins x=some (.builtin id)
instance in21:B1 "len" xW:=⟨λ_ _ h _=>⟨_,_,NB h,Wb,pD⟩⟩
instance in22:B1 "all" xX:=⟨λ_ _ h c=>⟨_,_,ND c h,Wd,boot_all⟩⟩
instance in23:B1 "any" Ej:=⟨λ_ _ h c=>⟨_,_,NL c h,Wj,boot_any⟩⟩
class KtC(x:Str)(T:outParam String):Prop where p:(∀(X:Cx) (G:Bg) y b,wa T y=some b->cH X.K (y.val G) (.type T)=some b)/\bootBuiltins x=some (.type T)
instance in24:KtC "str" "str" := ⟨λ_ _=>SO,Pv.boot_str⟩
instance in25:KtC "int" "int" := ⟨λ_ _=>Tc,Pv.boot_int⟩
instance in26:KtC "bool" "bool" := ⟨λ_ _=>P6,Pv.boot_bool⟩
instance in27:KtC "list" "list" := ⟨λ_ _=>Pw,Pv.boot_list⟩
instance in28:KtC "tuple" "tuple" := ⟨λ_ _=>kit_tuple,Pv.boot_tuple⟩
theorem UD:∀{dds:aS},dds.all uY=true->r6 G H dds (dds.map vD)
 |[],_=>sR
 |d::ds,h=>by rw[dq,bh]at h;exact sP (BV h.1 H) (UD h.2)
theorem eqI{α:Sort u}{a b:α}(h:a=b):a=b:=h
def sees(X:Cx)(i:Nat)(x:Str):Bool:=decide (X.N[i]?=some x)&&(match X.env.scope.names.lookup x with|some .local=>true|some .cell=>true|some .free=>true|_=>false)&&!(x==("__debug__" : Str))&&!(x==("__classdict__" : Str))
def sets(X:Cx)(i:Nat)(x:Str):Bool:=decide X.N.Nodup&&decide (X.N[i]?=some x)&&(match X.env.scope.names.lookup x with|some .local=>true|some .cell=>X.fn x|_=>false)
variable{id:String}{lo:Option Expr}
section
variable{X:Cx}{B:Bz}{k j i n c0:Nat}{x m:Str}{e e' o tg it:Expr}{es:List Expr}{p p2 p3 pos apos:Pos}{f f' f2:FE}{a:FA}{g:D->D->Option D}
theorem pvI(h:sees X i x=true):PE X (.Name x p) (yp i):=by
 unfold sees at h;simp only[bh,bA,fA]at h;obtain⟨⟨⟨h1,h2⟩,h3⟩,h4⟩:=h;refine pv i h1 ?_ h3 h4;unfold Vis;split at h2
 ·rename_i e;exact .inl e
 ·rename_i e;exact .inr (.inl e)
 ·rename_i e;exact .inr (.inr e)
 ·cases h2
theorem Z6(h:sees X i x=true):ZE X B (.Name x p) (cV i):=⟨KW (pvI h)⟩
theorem WB(h:sees X i x=true):ZE X B (.Name x p) (cFz i):=⟨Zt (pvI h)⟩
theorem Ts(h:sees X i x=true):ZN X B (.Name x p) (KY i):=⟨SD (pvI h)⟩
theorem IF(h:sets X i x=true):X.N.Nodup/\X.N[i]?=some x/\L2.Loc X.env.scope x/\(X.fn x=true\/X.env.scope.names.lookup x=some .local):=by
 unfold sets at h;simp only[bh,bA]at h;obtain⟨⟨h1,h2⟩,h3⟩:=h;unfold L2.Loc;split at h3
 ·rename_i e;exact⟨h1,h2,.inl e,.inr e⟩
 ·rename_i e;exact⟨h1,h2,.inr e,.inl h3⟩
 ·cases h3
theorem pgI(h:sets X i x=true):PG X (.Name x p) (yG i):=by obtain⟨h1,h2,h3,h4⟩:=IF h;exact LN h1 h2 h3 h4
theorem WC(h:sets X i x=true)(hi:Nat.blt i n=true):ZG X B (.Name x p) n (gN i):=⟨O4 n (pgI h) (Nat.blt_eq.mp hi)⟩
theorem stW(h:sets X i x=true)(he:PE X e te)(hs:Wz X e (.Name x p) pos):PS X (.Assign [.Name x p] e pos) (CC te (yG i)):=by obtain⟨h1,h2,h3,h4⟩:=IF h;exact U7 h1 h2 h3 he hs h4
theorem WD(h:sets X i x=true)(he:ZE X B e f)(hs:Wz X e (.Name x p) pos):ZS X B (.Assign [.Name x p] e pos) (sM i f):=⟨L6 (stW h he.p hs)⟩
theorem WE(h:sets X i x=true)(he:ZN X B e a)(hs:Wz X e (.Name x p) pos):ZS X B (.Assign [.Name x p] e pos) (vz i a):=⟨O6 (stW h he.p hs)⟩
theorem WG(h:sets X i x=true)(hs:Wz X (.Dict [] [] p2) (.Name x p) pos):ZS X B (.Assign [.Name x p] (.Dict [] [] p2) pos) (BY i):=⟨PB (stW h EM hs)⟩
theorem WH [O:OpC op g](ha:ZE X B e f)(hb:ZE X B e' f'):ZE X B (.BinOp e op e' pos) (c2 g f f'):=by obtain⟨r,h1,h2⟩:=O.p X B.G;exact⟨Zl h1 h2 ha.p hb.p⟩
theorem WI [C:Cz X B k](ha:ZE X B e f)(hb:ZE X B e' f')(hs:Iz e'):ZE X B (.Subscript e e' pos) (c2 dIx f f'):=⟨Zm (ix_X C.K) ZC ha.p hb.p λo i=>congrFun (congrFun hs o) i⟩
theorem Tt [C:Cz X B k](h:sees X i x=true)(hb:ZE X B e' f')(hs:Iz e'):ZE X B (.Subscript (.Name x p) e' pos) (Ih i f'):=⟨VR (Ut (OU B.G.K C.K) (pvI h) hb.p λo i=>congrFun (congrFun hs o) i)⟩
theorem WJ [C:Cz X B k](ha:ZE X B e f)(hb:ZE X B e' f')(hs:Iz e'):ZE X B (.Subscript e e' pos) (c2 uK f f'):=⟨SU (GF C.r) ha.p hb.p λo i=>congrFun (congrFun hs o) i⟩
section
variable{op op':CmpOp}{g':D->D->Option D}
theorem WK [O:CmC op g][C:Cz X B k](ha:ZE X B e f)(hb:ZE X B e' f')(hm:behindInMarks op e'=false):ZE X B (.Compare e [op] [e'] pos) (c2 g f f'):=by obtain⟨r,h1,h2⟩:=O.p X B.G C.K C.r.units;exact⟨VH h1 h2 ha.p hb.p hm⟩
theorem WL [O:CmC op g][C:Cz X B k](ha:ZE X B e f)(hb:ZE X B e' f')(hm:behindInMarks op e'=false):ZT X B (.Compare e [op] [e'] pos) (cT (c2 g f f')):=by obtain⟨r,h1,h2⟩:=O.p X B.G C.K C.r.units;exact⟨R9 h1 h2 ha.p hb.p hm⟩
theorem WM [O:CmC op g][O':CmC op' g'][C:Cz X B k](ha:ZE X B e f)(hb:ZE X B e' f')(hc:ZE X B o f2)(hm:lastMarks [op,op'] [e',o]=false):ZE X B (.Compare e [op,op'] [e',o] pos) (vF g g' f f' f2):=by obtain⟨r,h1,h2⟩:=O.p X B.G C.K C.r.units;obtain⟨r',h3,h4⟩:=O'.p X B.G C.K C.r.units;exact⟨Pp h1 h3 h2 h4 ha.p hb.p hc.p hm⟩
theorem WN [O:CmC op g][O':CmC op' g'][C:Cz X B k](ha:ZE X B e f)(hb:ZE X B e' f')(hc:ZE X B o f2)(hm:lastMarks [op,op'] [e',o]=false):ZT X B (.Compare e [op,op'] [e',o] pos) (cT (vF g g' f f' f2)):=by obtain⟨r,h1,h2⟩:=O.p X B.G C.K C.r.units;obtain⟨r',h3,h4⟩:=O'.p X B.G C.K C.r.units;exact⟨NI h1 h3 h2 h4 ha.p hb.p hc.p hm⟩
end
theorem WO(h:ZE X B e f)(he:(λwhole=>isTrue e X.env whole)=λwhole=>(do let v<-whole;standAt e.pos;holding [v] (truthy v))):ZT X B e (cT f):=⟨Sa h.p λw=>congrFun he w⟩
theorem WQ(ha:ZT X B e ft)(hb:ZW X B (.BoolOp .Or (e'::es) pos) fu):ZT X B (.BoolOp .Or (e::e'::es) pos) (wK ft fu):=⟨PW.pt (OY ha.p hb.p)⟩
theorem WR(ha:ZT X B e ft)(hb:ZW X B (.BoolOp .And (e'::es) pos) fu):ZT X B (.BoolOp .And (e::e'::es) pos) (vw ft fu):=⟨PW.pt (L0 ha.p hb.p)⟩
theorem WS [C:Cz X B k][Q:Co B x d](hg:Gz X x)(hd:Dz x):ZE X B (.Name x pos) (cC d):=⟨Pt (C.mg▸Q.p) hg hd⟩
theorem WT [C:Cz X B k][Q:Ff B ok m](he:ZE X B e f)(hb:Az X e m):ZE X B (.Attribute e m pos) (c1 (uX ok m) f):=⟨O8 he.p (C.K▸Q.p) hb⟩
section
variable(hg:Gz X x)(hd:Dz x)(hs:Sz X e es)(hl:Lz X pos es)
include hg hd
theorem dz [C:Cz X B k][Q:Df B j x sp]:∃ps,yL X.prog X.w X.K X.mg X.base j x ps sp:=by rw[C.P,C.w,C.K,C.mg,C.b];exact Q.p
theorem WU{g:aS->Option aS}[C:Cz X B k][Q:Df B j x (spN B.G g)](hj:c8 j k=true):ZN X B (.Call (.Name x p) [] [] pos) (sX g sS):=by obtain⟨ps,q⟩:=dz hg hd (X:=X) (Q:=Q);exact⟨Pq q (C.r.mono (c6.mp hj)) hg hd⟩
include hs hl
theorem WV{g:aS->Option D}[C:Cz X B k][Q:Df B j x (spF B.G g)](ha:ZA X B (e::es) a)(hj:c8 j k=true):ZE X B (.Call (.Name x p) (e::es) [] pos) (rW g a):=by obtain⟨ps,q⟩:=dz hg hd (X:=X) (Q:=Q);exact⟨Wf q (C.r.mono (c6.mp hj)) ha.p hg hd hs hl⟩
theorem WW{g:aS->Option aS}[C:Cz X B k][Q:Df B j x (spN B.G g)](ha:ZA X B (e::es) a)(hj:c8 j k=true):ZN X B (.Call (.Name x p) (e::es) [] pos) (sX g a):=by obtain⟨ps,q⟩:=dz hg hd (X:=X) (Q:=Q);exact⟨SL q (C.r.mono (c6.mp hj)) ha.p hg hd hs hl⟩
theorem WX{g:aS->aS->Option (D×aS)}[C:Cz X B k][Q:Df B j x (spM B.G g)](hv:ZV X e i)(ha:ZA X B es a)(hj:c8 j k=true):ZE X B (.Call (.Name x p) (e::es) [] pos) (tI g i a):=by obtain⟨ps,q⟩:=dz hg hd (X:=X) (Q:=Q);exact⟨SM q (C.r.mono (c6.mp hj)) hv.p ha.p hg hd hs hl⟩
theorem WY{g:aS->aS->Option (D×aS)}[C:Cz X B k][Q:Df B j x (spL B.G g)](ha:ZM X B (e::es) i a)(hj:c8 j k=true):ZE X B (.Call (.Name x p) (e::es) [] pos) (uq g i a):=by obtain⟨ps,q⟩:=dz hg hd (X:=X) (Q:=Q);exact⟨Tj q (C.r.mono (c6.mp hj)) ha.p hg hd hs hl⟩
theorem WZ{g:aS->Option (aB×aS)}{dds:aS}[C:Cz X B k][Q:Kf B j x c0 g dds](ha:ZA X B (e::es) a)(hj:c8 (j+1) k=true):ZE X B (.Call (.Name x p) (e::es) [] pos) (sU c0 (λds=>g (ds++dds)) a):=by obtain⟨ps,q⟩:=Q.p;exact⟨SN (by rw[C.P,C.w,C.mg,C.b];exact q) (λH=>UD Q.f) (C.r.mono (c6.mp hj)) ha.p C.K hg hd hs hl⟩
end
theorem mz{g:Nat->Option (aS->Option D)}[C:Cz X B k][Q:Mf B j m g]:∀c h,g c=some h->zc B.G X.prog X.w X.mg X.base j m c h:=by rw[C.P,C.w,C.mg,C.b];exact Q.p
theorem W0{g:Nat->Option (aS->Option D)}{pl:Sem Bool}[C:Cz X B k][Q:Mf B j m g](ho:ZE X B o f)(hj:c8 j k=true)
  (ht:eval (.Call (.Attribute o m apos) [] [] pos) X.env=(do
   let ov<-eval o X.env
   standAt apos.atName
   let (f,first)<-holding [ov] (getMethod ov m pl)
   callWith pos f first (backTo pos (starEach [] X.env)) (backToKw pos (keywordEach [] X.env)))):ZE X B (.Call (.Attribute o m apos) [] [] pos) (t8 g m f sS):=⟨K1 mz (C.r.mono (c6.mp hj)) ho.p C.K ht⟩
theorem W1{g:Nat->Option (aS->Option D)}{pl:Sem Bool}[C:Cz X B k][Q:Mf B j m g](ho:ZE X B o f)(ha:ZA X B (e::es) a)(hj:c8 j k=true)(hs:Sz X e es)(hl:Lz X pos es)
  (ht:eval (.Call (.Attribute o m apos) (e::es) [] pos) X.env=(do
   let ov<-eval o X.env
   standAt apos.atName
   let (f,first)<-holding [ov] (getMethod ov m pl)
   callWith pos f first (backTo pos (starEach (e::es) X.env)) (backToKw pos (keywordEach [] X.env)))):ZE X B (.Call (.Attribute o m apos) (e::es) [] pos) (t8 g m f a):=⟨NJ mz (C.r.mono (c6.mp hj)) ho.p ha.p C.K hs hl ht⟩
section
variable(hg:Gz X x)(hd:Nz x)(hs:S1 X e)
include hg hd hs
theorem cbI [C:Cz X B k][N:Nb B x](hc:uf X (.builtin id) r)(hv:bootBuiltins x=some (.builtin id))(ha:PA X [e] t):PE X (.Call (.Name x p) [e] [] pos) (tCB r t):=by simp only[bh,bA,fA]at hd;exact EF hc hg (C.mg▸N.p) hv ha hd.1 hd.2 hs rfl
theorem ctI [C:Cz X B k][N:Nb B x](hc:uf X (.type T) r)(hv:bootBuiltins x=some (.type T))(ha:PA X [e] t):PE X (.Call (.Name x p) [e] [] pos) (tCB r t):=by simp only[bh,bA,fA]at hd;exact Nd hc hg (C.mg▸N.p) hv ha hd.1 hd.2 hs rfl
theorem W2{g:D->Option D}[Q:B1 x g][C:Cz X B k][N:Nb B x](ha:ZE X B e f):ZE X B (.Call (.Name x p) [e] [] pos) (c1 g f):=by obtain⟨id,r,h1,h2,h3⟩:=Q.p X B.G C.K C.c;exact⟨Uy h2 (cbI hg hd hs h1 h3 (uJ ha.p vC hs))⟩
end
section
variable(hs:S1 X e)
include hs
theorem W3 [C:Cz X B k][N:Nb B "list"](hg:Gz X "list")(ha:ZE X B e f):ZN X B (.Call (.Name "list" p) [e] [] pos) (Ab f):=⟨Pm (ctI hg (by decide) hs (K0 C.K) Pv.boot_list (uJ ha.p vC hs))⟩
theorem W4 [C:Cz X B k][N:Nb B "tuple"](hg:Gz X "tuple")(ha:ZE X B e f):ZE X B (.Call (.Name "tuple" p) [e] [] pos) (GX f):=⟨Pn (ctI hg (by decide) hs (NG C.K) Pv.boot_tuple (uJ ha.p vC hs))⟩
theorem W5 [C:Cz X B k][N:Nb B "sorted"](hg:Gz X "sorted")(ha:ZE X B e f):ZN X B (.Call (.Name "sorted" p) [e] [] pos) (Fk f):=⟨Lj (cbI hg (by decide) hs (Iy C.r.units C.K) lE (uJ ha.p vC hs))⟩
theorem W6 [C:Cz X B k][N:Nb B "sorted"](hg:Gz X "sorted")(ha:ZE X B e f):ZN X B (.Call (.Name "sorted" p) [e] [] pos) (Da f):=⟨JY (cbI hg (by decide) hs (Gm C.K) lE (uJ ha.p vC hs))⟩
theorem W7 [C:Cz X B k][N:Nb B "len"][N':Nb B "set"](hg:Gz X "len")(hg':Gz X "set")(ha:ZE X B e f)(z:starEach [Expr.Call (.Name "set" p2) [e] [] p3] X.env=[(false,eval (.Call (.Name "set" p2) [e] [] p3) X.env)]):ZE X B (.Call (.Name "len" p) [.Call (.Name "set" p2) [e] [] p3] [] pos) (c1 Ip f):=⟨NQ C.K (NP Z1 C.r.units C.c hg (C.mg▸N.p) hg' (C.mg▸N'.p) ha.p z hs)⟩
theorem W8 [C:Cz X B k][N:Nb B "range"](hg:Gz X "range")(ha:ZE X B e f):ZI X B tg (.Call (.Name "range" p) [e] [] pos) (iR1 f):=⟨KZ (M5 hg (C.mg▸N.p) (uJ ha.p vC hs) hs)⟩
end
section
variable(hi:Gz X "isinstance")(hg:Gz X x)(hs:starEach [e,.Name x p2] X.env=[(false,eval e X.env),(false,eval (.Name x p2) X.env)])(hs':S1 X (.Name x p2))
include hi hg hs hs'
theorem W9 [Q:KtC x T][C:Cz X B k][N:Nb B "isinstance"][N':Nb B x](ha:ZE X B e f)(hd:Nz x):ZE X B (.Call (.Name "isinstance" p) [e,.Name x p2] [] pos) (c1 (Aa (wa T)) f):=by
 simp only[bh,bA,fA]at hd;refine⟨Me (c:=.b T) (EF (GW (.b T) (Q.p.1 X B.G) Pu C.K) hi (C.mg▸N.p) boot_isinstance (uj ha.p (uj (Rp (v:=.ty T) hg (C.mg▸N'.p) Q.p.2 rfl hd.1 hd.2) xD ?_) ?_) (by decide) (by decide) ?_ ?_)⟩
 ·exact hs'
 ·rw[hs,hs']
 ·rw[hs,hs']
 ·rw[hs'];rfl
theorem Xa [Q:Ic B x t][C:Cz X B k][N:Nb B "isinstance"](ha:ZE X B e f)(hd:Dz x):ZE X B (.Call (.Name "isinstance" p) [e,.Name x p2] [] pos) (c1 (Aa t) f):=by
 obtain⟨c,q1,q2⟩:=Q.p;refine⟨Me (c:=.c c) (EF (K5 q1 C.K) hi (C.mg▸N.p) boot_isinstance (uj ha.p (uj (LL (v:=.ref (B.G.ca c)) hg (C.mg▸q2) rfl hd) xD ?_) ?_) (by decide) (by decide) ?_ ?_)⟩
 ·exact hs'
 ·rw[hs,hs']
 ·rw[hs,hs']
 ·rw[hs'];rfl
end
section
variable(hb:Az X o m)(hl:Ez apos pos)(hs:S1 X e)
include hb hl hs
theorem bmI [C:Cz X B k](pa:lH T)(slot:Slot T m id)(hty:typeOf (.builtin id)=pure (.type "method_descriptor"))(hm:MtR X id r)(ho:PE X o to)(ha:PA X [e] t):PE X (.Call (.Attribute o m apos) [e] [] pos) (tBM B.G.K T r to t):=
 OV B.G.K pa slot hty hm ho ha hb (by rw[hs];rfl) hl hs rfl C.K
end
section
variable(h:sees X i x=true)(hb:Az X (.Name x p) m)(hl:Ez apos pos)(hs:S1 X e)
include h hb hl hs
theorem Xb [C:Cz X B k](hm:m="append")(ha:ZE X B e f):ZE X B (.Call (.Attribute (.Name x p) m apos) [e] [] pos) (yK i f):=by subst hm;exact⟨Nw (bmI hb hl hs fC kx oF CH (pvI h) (uJ ha.p vC hs))⟩
theorem Xc [C:Cz X B k](hm:m="extend")(ha:ZE X B e f):ZE X B (.Call (.Attribute (.Name x p) m apos) [e] [] pos) (G1 i f):=by subst hm;exact⟨K7 (bmI hb hl hs fC ky F.type_list_extend (C.K▸K6) (pvI h) (uj ha.p xD hs))⟩
theorem Xd [C:Cz X B k](hm:m="pop")(ha:ZE X B e f):ZE X B (.Call (.Attribute (.Name x p) m apos) [e] [] pos) (Bw i f):=by subst hm;exact⟨Qb (bmI hb hl hs fC kE px Ji (pvI h) (uJ ha.p vC hs))⟩
end
theorem Xe [C:Cz X B k](h:sees X i x=true)(hb:Az X (.Name x p) "pop")(hl:Ez apos pos)(hs:S1 X (.Constant (.int 0) j p2)):ZE X B (.Call (.Attribute (.Name x p) "pop" apos) [.Constant (.int 0) j p2] [] pos) (L8 i):=⟨SC (bmI hb hl hs fC kE px Ji (pvI h) (uj Kz xD hs))⟩
theorem Xf [C:Cz X B k](ha:ZE X B e f)(hb:ZE X B e' f')(h1:Az X e "get")(h2:Ez apos pos)(h3:S1 X e'):ZE X B (.Call (.Attribute e "get" apos) [e'] [] pos) (c2 GY f f'):=⟨Pz (GF C.r) ha.p hb.p ⟨h1,by rw[h3];rfl,h2,by rw[h3];rfl⟩⟩
theorem Xg [C:Cz X B k][Q:Af B c0 xs](hx:xs.contains m=true)(h:sees X i x=true)(hv:ZE X B e f)(hs:Wz X e (.Attribute (.Name x p) m apos) pos):ZS X B (.Assign [.Attribute (.Name x p) m apos] e pos) (sY c0 i m f):=⟨SA (Vk (pvI h) hv.p hs) (by obtain⟨i,_,e⟩:=ko (nW.mp hx);exact C.K▸Q.p.at i (bS.mpr ⟨_,e⟩))⟩
theorem Xh [C:Cz X B k](h:sees X i x=true)(hk:ZE X B e' f')(hv:ZE X B e f)(hs:Wz X e (.Subscript (.Name x p) e' apos) pos):ZS X B (.Assign [.Subscript (.Name x p) e' apos] e pos) (tN i f' f):=⟨PD (RS (GF C.r) (pvI h) hk.p hv.p hs)⟩
theorem Xi [Q:Ij B n](h:ZE X B e f):ZE X B e (ye n f):=⟨Ta Q.p h.p⟩
section
variable{ks:List (Option Expr)}{kfs:List (Str×FE)}
theorem Xj:ZP X B pos [] [] []:=⟨RT⟩
theorem Xk(hv:ZE X B e f)(hr:ZP X B pos ks es kfs):ZP X B pos (some (.Constant (.str y) j p)::ks) (e::es) ((y,f)::kfs):=⟨ON Om hv.p hr.p⟩
theorem Xl(h:ZP X B pos ks es kfs)(h1:(ks.all (·.isSome)&&decide (ks.length=es.length)&&!ks.isEmpty&&decide (ks.length<=15)&&decide (kfs.map λq=>(Sum.inr q.1:Key)).Nodup&&decide (kfs.length<=15))=true):ZE X B (.Dict ks es pos) (zK kfs):=by simp only[bh,bA,fA]at h1;obtain⟨⟨⟨⟨⟨a1,a2⟩,a3⟩,a4⟩,a5⟩,a6⟩:=h1;exact⟨Mo (RU h.p a1 a2 (λz=>by rw[z]at a3;cases a3) a4) a5 a6⟩
end
theorem Xm{fl:FO}[C:Cz X B k](he:ZE X B e f)(hl:ZO X B lo fl)(hh:ZO X B hi fh):ZN X B (.Subscript e (.Slice lo hi none p) pos) (xY f fl fh):=⟨K2 (EI (ZL C.K) he.p hl.p hh.p)⟩
theorem Xn [C:Cz X B k](he:ZE X B e f)(hl:ZK X lo l)(hh:ZK X hi h):ZN X B (.Subscript e (.Slice lo hi none p) pos) (cSl f l h):=⟨NH (EI (ZL C.K) he.p hl.p hh.p)⟩
theorem Xo:ZK X (some (.Constant (.int y) j pos)) (some y):=⟨Po⟩
theorem Xp:ZK X none none:=⟨ZD⟩
theorem Xq [C:Cz X B k](h:ZE X B e f):ZI X B tg e (iL f):=⟨Jw (Jo B.G.K h.p C.K)⟩
theorem Xr [C:Cz X B k](h:ZE X B e f):ZI X B tg e (iT f):=⟨SG (RZ B.G.K h.p C.K)⟩
theorem Xs(h:ZE X B e f):ZI X B tg e (iD f):=⟨PR (S8 h.p)⟩
theorem Xt(h:ZE X B e f):ZI X B tg e (iS f):=⟨SV (VB h.p)⟩
theorem Xu(h:ZE X B o f)(hb:Az X o "items")(hl:Ez apos pos):ZI X B (.Tuple elts x1 p) (.Call (.Attribute o "items" apos) [] [] pos) (iIt f):=⟨NT (P8 h.p hb hl)⟩
section
variable(hg:Gz X "zip")(hs:starEach [e,e'] X.env=[(false,eval e X.env),(false,eval e' X.env)])(hs2:S1 X e')
include hg hs hs2
theorem Xv [C:Cz X B k][N:Nb B "zip"](ha:ZA X B [e,e'] a):ZI X B (.Tuple es i p2) (.Call (.Name "zip" p) [e,e'] [] pos) (iZ a):=⟨S9 (Wu hg (C.mg▸N.p) ha.p hs hs2)⟩
end
section
variable{gg:FG}{gs:aS->aZ->Option aZ}
theorem Tu:ZH X B [] n EW:=⟨Sk Rt⟩
theorem Tv(h1:ZG X B e n gg)(h2:ZH X B es n gs)(hs:(assignEach (e::es) X.env).map (·.2)=assign e X.env::(assignEach es X.env).map (·.2)):ZH X B (e::es) n (vE gg gs):=⟨O5 (Oo h1.p h2.p hs)⟩
theorem Tw [C:Cz X B k](h:ZH X B es n gs)(hn:(assignEach es X.env).length=n')(ht:(assignEach es X.env).findIdx? (·.1)=none):ZG X B (.Tuple es k' pos) n (gT gs n'):=⟨Sm (R0 B.G.K C.c h.p hn ht C.K)⟩
end
def tgN:Expr->aB
 |.Name x _=>[x]
 |.Tuple es _ _=>es.filterMap λe=>match e with|.Name x _=>some x|_=>none
 |_=>[]
def cpN(X:Cx)(tg:Expr)(cap:List Nat):aB:=tgN tg++cap.map λj=>X.N.getD j ""
instance inCz [C:Cz X B k]{N':aB}{sc:cU}{cl:List (Str×Addr)}{A:Addr}{fp:List Addr}{s:ae}{H:Hp}:Cz (uh X N' sc cl A fp s H) B k:=⟨C.P,C.w,C.K,C.mg,C.b,C.c,C.r⟩
def Xw(X:Cx)(N':aB)(sc:cU)(n:Nat)(cap:List Nat):Bool:=decide cap.Nodup&&decide (sc.kind=.function)&&(sc.names.all λy=>y.2 != .cell)&&(sc.names.all λy=>y.2 != .local||sc.names.lookup y.1==some .local)&&(sc.names.all λy=>y.2 != .free||(X.env.kindOf y.1==some .cell||X.env.kindOf y.1==some .free))&&decide (N'.length=n+cap.length)&&decide ((N'.drop n).map some=cap.map λj=>X.N[j]?)&&((N'.drop n).all λx=>sc.names.lookup x==some .free)
section
variable{sc:cU}{cap:List Nat}{ifs:List Expr}{gg:FG}{ft:FT}{s:FA}
 (h0:Xw X (cpN X tg cap) sc n cap=true) (hs:Fz X it) (hi:ZI X B tg it s)
 (h1:∀(cl:List (Str×Addr)) (A:Addr) (fp:List Addr) (s:ae) (H:Hp),ZG (uh X (cpN X tg cap) sc cl A fp s H) B tg n gg)
 (h2:∀(cl:List (Str×Addr)) (A:Addr) (fp:List Addr) (s:ae) (H:Hp),ZF (uh X (cpN X tg cap) sc cl A fp s H) B ifs ft)
 (h3:∀(cl:List (Str×Addr)) (A:Addr) (fp:List Addr) (s:ae) (H:Hp),ZE (uh X (cpN X tg cap) sc cl A fp s H) B e f)
include h0 hs hi h1 h2 h3
theorem Xx [C:Cz X B k]:ZN X B (.ListComp e [⟨tg,it,ifs,0⟩] sc pos) (sL n cap s gg ft f):=by unfold Xw at h0;simp only[bh,bA]at h0;obtain⟨⟨⟨⟨⟨⟨⟨a1,a2⟩,a3⟩,a4⟩,a5⟩,a6⟩,a7⟩,a8⟩:=h0;exact⟨Pe a1 (RY (N':=cpN X tg cap) C.c hi.p (λcl A fp s H=>⟨(h1 cl A fp s H).p,(h2 cl A fp s H).p,(h3 cl A fp s H).p⟩) a2 a3 a4 a5 a6 a7 a8 λx=>congrFun hs x)⟩
theorem cpW [C:Cz X B k](h:sets X i x=true)(hw:swapsWith (.ListComp e [⟨tg,it,ifs,0⟩] sc pos) (some (.Name x p)) apos.line X.env=pure true):PS X (.Assign [.Name x p] (.ListComp e [⟨tg,it,ifs,0⟩] sc pos) apos) (CC (ES (tFI B.G s) (tFG B.G n gg) (tFT B.G ft) (tF B.G f) n cap) (yG i))/\cap.Nodup:=by unfold Xw at h0;simp only[bh,bA]at h0;obtain⟨⟨⟨⟨⟨⟨⟨a1,a2⟩,a3⟩,a4⟩,a5⟩,a6⟩,a7⟩,a8⟩:=h0;obtain⟨b1,b2,b3,b4⟩:=IF h;exact⟨SQ (N':=cpN X tg cap) C.c b1 b2 b3 hi.p (λcl A fp s H=>⟨(h1 cl A fp s H).p,(h2 cl A fp s H).p,(h3 cl A fp s H).p⟩) a2 a3 a4 a5 a6 a7 a8 (λx=>congrFun hs x) hw b4,a1⟩
theorem Xy [C:Cz X B k](h:sets X i x=true)(hw:swapsWith (.ListComp e [⟨tg,it,ifs,0⟩] sc pos) (some (.Name x p)) apos.line X.env=pure true):ZS X B (.Assign [.Name x p] (.ListComp e [⟨tg,it,ifs,0⟩] sc pos) apos) (sM i (cL (sL n cap s gg ft f))):=by have z:=cpW (k:=k) h0 hs hi h1 h2 h3 h hw;exact⟨Px z.2 z.1⟩
end
section
variable{st:Stmt}{sts:List Stmt}{fs fs':FS}{ft:FT}{a':FA}{z1:Nat}
theorem Z7(ha:ZE X B e f)(hr:ZA X B es a)(hs:Sz X e es):ZA X B (e::es) (rR f a):=⟨uJ ha.p hr.p hs⟩
theorem Z8:ZA X B [] sS:=⟨vC⟩
theorem Xz(ha:ZE X B e f)(hr:ZM X B es i a)(hs:Sz X e es):ZM X B (e::es) i (rR f a):=⟨NV ha.p hr.p hs⟩
theorem XA(h:sees X i x=true)(hs:S1 X (.Name x p)):ZM X B [.Name x p] i sS:=⟨Qa (pvI h) hs⟩
theorem XB(h:sees X i x=true):ZV X (.Name x p) i:=⟨pvI h⟩
theorem XC(h:ZN X B e a):ZE X B e (cL a):=⟨VO h.p⟩
theorem Z9:ZE X B (.Constant (.str y) j pos) (cC (.str y)):=⟨VF⟩
theorem aaa:ZE X B (.Constant (.int y) j pos) (cC (.int y)):=⟨VE⟩
theorem aab:ZE X B (.Constant (.bool y) j pos) (cC (.bl y)):=⟨Zk⟩
theorem aac:ZE X B (.Constant .none j pos) (cC .non):=⟨VG⟩
theorem Qo(h1:ZS X B st fs)(h2:ZB X B sts fs'):ZB X B (st::sts) (rV fs fs'):=⟨O0 h1.p h2.p⟩
theorem aad(h1:ZS X B st fs):ZB X B [st] fs:=⟨Si h1.p⟩
theorem aae:ZB X B [] sF:=⟨Sh⟩
theorem XD(h:ZE X B e f):ZS X B (.Return (some e) pos) (sH f):=⟨Sj h.p⟩
theorem XE(h:ZN X B e a):ZS X B (.Return (some e) pos) (uC a):=⟨O1 h.p⟩
theorem XF(h:ZE X B e f)(hs:swapsWith e none pos.line X.env=pure false):ZS X B (.Expr e pos) (sT f):=⟨O2 h.p hs⟩
theorem XG(h:ZT X B e ft)(h1:ZB X B sts fs)(h2:ZB X B sts' fs'):ZS X B (.If e sts sts' pos) (sIf ft fs fs'):=⟨VQ h.p h1.p h2.p⟩
theorem XH:ZE X B e E9:=⟨PH⟩
theorem XI(h:ZA X B es a):ZN X B (.List es pos) (sV a):=⟨Sf h.p⟩
theorem XJ(h:ZA X B es a):ZE X B (.Tuple es z1 pos) (tH a):=⟨VN h.p⟩
theorem XM(ha:ZE X B e f)(hb:ZE X B e' f'):ZN X B (.BinOp e .Add e' pos) (uR f f'):=⟨SJ ha.p hb.p⟩
theorem XN [C:Cz X B k](ha:ZE X B e f)(hb:ZE X B e' f'):ZE X B (.BinOp e .Add e' pos) (DA f f'):=⟨SW ha.p hb.p C.K⟩
theorem XO(ha:ZE X B e f)(hb:ZE X B (.BoolOp .And (e'::es) pos) f'):ZE X B (.BoolOp .And (e::e'::es) pos) (tV f f'):=⟨VL ha.p hb.p⟩
theorem XQ(ha:ZE X B e f)(hb:ZE X B (.BoolOp .Or (e'::es) pos) f'):ZE X B (.BoolOp .Or (e::e'::es) pos) (cOr f f'):=⟨Zo ha.p hb.p⟩
theorem XR{op}(ha:ZE X B e f):ZE X B (.BoolOp op [e] pos) f:=⟨VJ ha.p⟩
theorem XS(ha:ZE X B e f):ZE X B (.UnaryOp .Not e pos) (CL f):=⟨VM ha.p⟩
theorem XT(ha:ZT X B e ft):ZT X B (.UnaryOp .Not e pos) (wY ft):=⟨Sb ha.p⟩
theorem XU(h:ZT X B o ft)(ha:ZE X B e f)(hb:ZE X B e' f'):ZE X B (.IfExp o e e' pos) (cIf ft f f'):=⟨Zp h.p ha.p hb.p⟩
theorem aaf(h:ZT X B e ft):ZF X B [e] ft:=⟨RX h.p⟩
theorem aag:ZF X B [] tR:=⟨Pf⟩
theorem XW(h:ZE X B e f):ZE X B e (BW f):=⟨We h.p⟩
theorem XX(h:ZT X B e ft):ZT X B e (Bb ft):=⟨SK h.p⟩
theorem XY(h:ZE X B e f):ZO X B (some e) (oAt f):=⟨Wl h.p⟩
theorem XZ:ZO X B none oNo:=⟨Wk⟩
theorem X0(ha:ZT X B e ft)(hb:ZW X B (.BoolOp .Or (e'::es) pos) fu):ZW X B (.BoolOp .Or (e::e'::es) pos) (wK ft fu):=⟨OY ha.p hb.p⟩
theorem X1(ha:ZT X B e ft)(hb:ZW X B (.BoolOp .And (e'::es) pos) fu):ZW X B (.BoolOp .And (e::e'::es) pos) (vw ft fu):=⟨L0 ha.p hb.p⟩
theorem X2(h:ZT X B e ft):ZW X B (.BoolOp .Or [e] pos) ft:=⟨Se h.p⟩
theorem X3(h:ZT X B e ft):ZW X B (.BoolOp .And [e] pos) ft:=⟨OX h.p⟩
end
theorem X4 [C:Cz X B k](hp:jn (model X.prog X.w) X.A X.env X.xe)(hn:X.N.length=n)(hi:ZI X B tg it s)(hg:ZG X B tg n gg)(hb:ZB X B body b)(hs:Fz X it):ZS X B (.For tg it body [] pos) (vB s gg b):=⟨SH (Ov hp C.c hi.p hg.p hb.p λx=>congrFun hs x)⟩
theorem X5(hp:jn (model X.prog X.w) X.A X.env X.xe)(hc:ZT X B e ft)(hb:ZB X B body b):ZS X B (.While e body [] pos) (whL ft b n):=⟨Nx n (Os hp hc.p hb.p)⟩
end
end L4
namespace L4
open PySem PySem.Spec PyProof.Rows L2 L3
open PySem.W (fnOf)
def nmO(st:Stmt):aB:=(sE st).names.filterMap λy=>match y.2 with|.local=>some y.1|.cell=>some y.1|_=>none
def psO(st:Stmt):aB:=(yb st).args.map (·.arg)
def okO(N ps:aB)(st:Stmt)(np n:Nat):Bool:=decide ((sE st).kind=.function)&&(sE st).isCoroutine==false&&(sE st).isGenerator==false&&decide N.Nodup&&decide (N.take ps.length=ps)&&(ps.all λx=>match (sE st).names.lookup x with|some .local=>true|some .cell=>true|_=>false)&&((sE st).names.all λy=>y.2 != .free)&&decide (ps.length=np)&&decide (N.length=n)
theorem okk{st:Stmt}(h:okO N ps st np n=true):ud N ps (sE st)/\ps.length=np/\N.length=n:=by
 unfold okO at h;simp only[bh,bA,beq_iff_eq]at h;obtain⟨⟨⟨⟨⟨⟨⟨⟨h1,h2⟩,h3⟩,h4⟩,h5⟩,h6⟩,h7⟩,h8⟩,h9⟩:=h;refine⟨⟨h1,h2,h3,h4,h5,λx hx=>?_,λy hy e=>?_⟩,h8,h9⟩
 ·have z:=bD.mp h6 x hx;split at z
  ·rename_i e;exact .inl e
  ·rename_i e;exact .inr e
  ·cases z
 ·have z:=bD.mp h7 y hy;rw[e]at z;exact aq z (by decide)
section
variable{B:Bz}[Y:Yb B]{x m qual:Str}{st s0:Stmt}{l:List Stmt}{k c np n:Nat}{b:FS}{p:Str}{ps xs:aB}{N:aB}
abbrev Bdz(B:Bz)(N:aB)(qual:Str)(st:Stmt)(l:List Stmt)(k:Nat)(b:FS):Prop:=∀{f:Addr} {cdv:aa} {A:aQ} {outer:List Env} {s:ae} {H:Hp} {E:XK} [Cz (Bc B.P B.w B.G.K B.mg B.base N qual st f cdv A outer s H E) B k],ZB (Bc B.P B.w B.G.K B.mg B.base N qual st f cdv A outer s H E) B l b
omit Y in
theorem Bdz.ok(h:Bdz B N qual st l k b)(hl:tp st=l):Bdy B.P B.w B.G.K B.mg B.base N qual st k (tFS B.G b):=λf cdv A outer s H E hr=>by subst hl;exact(@h f cdv A outer s H E ⟨rfl,rfl,rfl,rfl,rfl,rfl,hr⟩).p
theorem gF4(hg:g=fnD np n b)(q:GD B.G.K x st)(hl:tp st=s0::l)(body:Bdz B (nmO st) x st (s0::l) k b)(S:okO (nmO st) (psO st) st np n=true:=by kernel_rfl)(bd:Bds x x st (psO st):=by (repeat intro _);rfl):Df B (k+1) x (spF B.G g):=
 ⟨_,gF hg Y.y q (okk S).1 (body.ok hl) (okk S).2.1 (okk S).2.2 bd⟩
theorem gF5(N:aB)(hg:g=fnD np n b)(q:GD B.G.K x st)(hl:tp st=s0::l)(body:Bdz B N x st (s0::l) k b)(S:okO N (psO st) st np n=true:=by kernel_rfl)(bd:Bds x x st (psO st):=by (repeat intro _);rfl):Df B (k+1) x (spF B.G g):=
 ⟨_,gF hg Y.y q (okk S).1 (body.ok hl) (okk S).2.1 (okk S).2.2 bd⟩
theorem gN4(hg:g=fnN np n b)(q:GD B.G.K x st)(hl:tp st=s0::l)(body:Bdz B (nmO st) x st (s0::l) k b)(S:okO (nmO st) (psO st) st np n=true:=by kernel_rfl)(bd:Bds x x st (psO st):=by (repeat intro _);rfl):Df B (k+1) x (spN B.G g):=
 ⟨_,gN' hg Y.y q (okk S).1 (body.ok hl) (okk S).2.1 (okk S).2.2 bd⟩
theorem gL4(hg:g=fnL np n b)(q:GD B.G.K x st)(hl:tp st=s0::l)(body:Bdz B (nmO st) x st (s0::l) k b)(S:okO (nmO st) (psO st) st (np+1) n=true:=by kernel_rfl)(bd:Bds x x st (psO st):=by (repeat intro _);rfl):Df B (k+1) x (spL B.G g):=
 ⟨_,gL hg Y.y q (okk S).1 (body.ok hl) (okk S).2.1 (okk S).2.2 bd⟩
theorem gM4(hg:g=fnM np n b)(q:GD B.G.K x st)(hl:tp st=s0::l)(hp:psO st=p::ps)(body:Bdz B (nmO st) x st (s0::l) k b)(S:okO (nmO st) (p::ps) st (np+1) n=true:=by kernel_rfl)(bd:Bds x x st (p::ps):=by (repeat intro _);rfl):Df B (k+1) x (spM B.G g):=
 ⟨_,gM hg Y.y q (okk S).1 (body.ok hl) (gW (okk S).2.1) (okk S).2.2 bd⟩
theorem hF4(C:CF B.G.K (B.G.ca c) xs)(hg:g=fnD np n b)(q:GM B.G.K (B.G.ca c) m qual st)(hl:tp st=s0::l)(body:Bdz B (nmO st) qual st (s0::l) k b)(S:okO (nmO st) (psO st) st np n=true:=by kernel_rfl)(bd:Bds m qual st (psO st):=by (repeat intro _);rfl):zc B.G B.P B.w B.mg B.base (k+1) m c g:=by obtain⟨f,fd,a,i,F⟩:=q;exact⟨f,fd,_,C.ci.cl,⟨a,i,F.kp⟩,bd.ok F,Pr hg (okk S).2.1 (okk S).2.2 F (okk S).1 (body.ok hl f)⟩
theorem gI4(C:CF B.G.K (B.G.ca c) xs)(a:W.nsIn B.G.K mainGlobals x=some (some (.ref (B.G.ca c))))(hg:g=fnI c np n b)(q:GM B.G.K (B.G.ca c) "__init__" qual st)(hl:tp st=s0::l)(hp:psO st=p::ps)(body:Bdz B (nmO st) qual st (s0::l) k b)(S:okO (nmO st) (p::ps) st (np+1) n=true:=by kernel_rfl)(bd:Bds "__init__" qual st (p::ps):=by (repeat intro _);rfl):Kf B (k+1) x c g []:=
 ⟨⟨_,gI hg Y.y C a q (okk S).1 (body.ok hl) (gW (okk S).2.1) (okk S).2.2 bd⟩,rfl⟩
theorem gJ4{dds:aS}(C:CF B.G.K (B.G.ca c) xs)(a:W.nsIn B.G.K mainGlobals x=some (some (.ref (B.G.ca c))))(hg:g=fnI c np n b)(q:GJ B.G.K (B.G.ca c) qual st (dds.map vD))(hl:tp st=s0::l)(hp:psO st=p::ps)(body:Bdz B (nmO st) qual st (s0::l) k b)(j:Nat)(S:okO (nmO st) (p::ps) st (np+1) n=true:=by kernel_rfl)(hf:dds.all uY=true:=by rfl)
  (bd:Ll (dds.map vD).length λdl=>Ll ((p::ps).length - ((dds.map vD).drop j).length) λus=>∀(T:Addr) (kV doc pm:aa) (an:Option Addr) (cdv ct:aa),∃k,bindArgs (fnOf "__init__" qual (yb st) (tp st) (sE st) (.ref T) kV doc pm an cdv ct) ⟨us,[]⟩=seqItems? (.ref T)>>=k/\k (some dl.toArray)=pure ((p::ps).zip (us++dl.drop j)):=by (repeat intro _);exact⟨_,rfl,rfl⟩):Kf B (k+1) x c g (dds.drop j):=
 ⟨⟨_,by rw[fG];exact gJ hg Y.y C a q (okk S).1 (body.ok hl) j (gW (okk S).2.1) (okk S).2.2 bd⟩,by
  rw[bD]at hf ⊢;exact λd h=>hf d (kj h)⟩
theorem Tx(n:Nat)(ca:Nat->Addr):∀k,k<n->((bB n).map ca).getD k 0=ca k:=λk h=>by rw[cn,bt,og h];rfl
theorem injR{n:Nat}{ca:Nat->Addr}(h:decide ((bB n).map ca).Nodup=true):∀j k,j<n->k<n->ca j=ca k->j=k:=λj k hj hk e=>by rw[<-Tx n ca j hj,<- Tx n ca k hk]at e;exact Wy (bo h) (by simpa using hj) (by simpa using hk) e
def N3:Nat->(Nat->Prop)->Prop
 |0,_=>True
 |n+1,Q=>Q 0/\N3 n λk=>Q (k+1)
theorem N3.at:∀{n:Nat} {Q:Nat->Prop},N3 n Q->∀k,k<n->Q k
 |_+1,_,h,0,_=>h.1
 |_+1,_,h,k+1,hk=>N3.at (Q:=λk=>_) h.2 k (gx hk)
end
section
variable{X:Cx}{B:Bz}{k j i n:Nat}{x y:Str}{e e' tg:Expr}{es:List Expr}{p p2 p3 pos apos:Pos}{f f':FE}{a:FA}{st:Stmt}{sts:List Stmt}{fs fs':FS}{ft:FT}
theorem X6 [C:Cz X B k](ha:ZE X B e f)(hb:ZE X B e' f')(hm:behindInMarks .In e'=false):ZT X B (.Compare e [.In] [e'] pos) (cT (c2 (JF false) f f')):=⟨Tp (GF C.r) ha.p hb.p hm⟩
theorem X7 [C:Cz X B k](ha:ZE X B e f)(hb:ZE X B e' f')(hm:behindInMarks .In e'=false):ZE X B (.Compare e [.In] [e'] pos) (c2 (JF false) f f'):=⟨Wm (GF C.r) ha.p hb.p hm⟩
theorem X8 [C:Cz X B k](ha:ZE X B e f)(hb:ZE X B e' f')(hc:ZE X B e2 f2)(h1:Az X e "get")(h2:Ez apos pos)(h3:starEach [e',e2] X.env=[(false,eval e' X.env),(false,eval e2 X.env)]):ZE X B (.Call (.Attribute e "get" apos) [e',e2] [] pos) (GZ f f' f2):=⟨PJ (GF C.r) ha.p hb.p hc.p ⟨h1,by rw[h3];rfl,h2,by rw[h3];rfl⟩⟩
theorem X9(hn:X.N.length=n)(he:ZE X B e f)(hg:ZG X B tg n gg)(hs:swapsWithSole [tg] e pos.line X.env=pure false)(hw:swappedStores [tg] e X.env=pure none)(h1:(assignEach [tg] X.env).map (·.2)=[assign tg X.env]):ZS X B (.Assign [tg] e pos) (Nr f gg):=⟨Sn (U6 he.p hg.p hs hw h1)⟩
theorem Ya [C:Cz X B k][N:Nb B "int"](hg:Gz X "int")(hs:S1 X e)(ha:ZE X B e f):ZE X B (.Call (.Name "int" p) [e] [] pos) (c1 NC f):=⟨Uy Wc (ctI hg (by decide) hs M7 Pv.boot_int (uJ ha.p vC hs))⟩
theorem Yc [C:Cz X B k](hm:m="index")(ha:ZE X B e f)(hb:ZE X B e' f')(h1:Az X e m)(h2:Ez apos pos)(h3:S1 X e'):ZE X B (.Call (.Attribute e m apos) [e'] [] pos) (c2 AU f f'):=by subst hm;exact⟨N1 (bmI h1 h2 h3 fC oV F.type_list_index (N2 C.K) ha.p (uJ hb.p vC h3))⟩
end
end L4
namespace L4
open PySem PySem.Spec PyProof.Rows L2 L3
section
variable{X:Cx}{G:Bg}
def Yd:D->D->Option D
 |.dic ks _,.dic [] _=>some (.bl (!ks.isEmpty))
 |_,_=>none
def rNeE:R2:=λx y H Q=>∃a b kvs,x=.ref a/\y=.ref b/\Rd H a (.dK kvs)/\Rd H b (.dK [])/\Q (.bl (!kvs.isEmpty)) H
theorem Ye(hu:X.A.units<cLine):OpR X (compareOp .NotEq) rNeE:=by
 intro pins s σ H x y v u Q I rx ry h;obtain⟨a,b,kvs,ex,ey,ea,eb,q⟩:=h;subst ex ey;cases (show v=Value.ref a from rx);cases (show u=Value.ref b from ry);obtain⟨z,hd,vs,rel,dd⟩:=A8 I.hok ea;obtain⟨z',hd',vs',rel',dd'⟩:=A8 I.hok eb;cases rel';refine W.keq_ne hd hd' dd dd' hu (r:=true) (λe=>?_) ?_
 ·cases vs with
  |nil=>exact .nil
  |cons _ _=>cases e
 ·refine⟨.bl (!kvs.isEmpty),H,I,?_,q⟩;show Value.bool _=Value.bool _;cases rel<;>rfl
theorem Yf:OpD G rNeE Yd:=λx y z H0 H v u Q e s rx ry k=>by
 cases x with
 |dic ks ds=>
  cases y with
  |dic ks' ds'=>
   cases ks' with
   |nil=>
    cases e;unfold Rep at rx ry;obtain⟨p,ob,xs,rfl,h1,h2,h3⟩:=rx;obtain⟨p',ob',xs',rfl,h1',h2',h3'⟩:=ry;refine⟨p,p',ks.zip xs,rfl,rfl,.inr ⟨ob,s _ _ h1⟩,.inr ⟨ob',?_⟩,?_⟩
    ·exact s _ _ h1'
    ·have:(ks.zip xs).isEmpty=ks.isEmpty:=by
      cases ks with
      |nil=>rfl
      |cons a r=>cases xs with
       |nil=>cases h2
       |cons _ _=>rfl
     rw[this];exact k _ λ_ _=>uQ _
   |cons _ _=>cases e
  |_=>cases e
 |_=>cases e
theorem Qp:PE X (.Dict [] [] pos) (OO []):=PE.weak EM λσ H Q hh p e=>by
 obtain⟨_,kvs,e1,_,q⟩:=hh p e;cases kvs with
 |nil=>
  have:upd (upd H p (.dK [])) p (.dK (zZ [] []))=upd H p (.dK []):=by
   funext a
   unfold upd;split<;>rfl
  rw[this]at q;exact q
 |cons _ _=>cases e1
theorem Qq:PE X (.Dict [] [] pos) (tF G (zK [])):=Mo Qp gU (cj _)
end
instance inNeE:CmC .NotEq Yd:=⟨λ_ _ _ u=>⟨_,Ye (by omega),Yf⟩⟩
theorem Yg:ZE X B (.Dict [] [] pos) (zK []):=⟨Qq⟩
theorem sub_dict_dict:isSubtype (.type "dict") (.type "dict")=pure true:=by rw[kK];kernel_rfl
section
variable{prog:aU}{w:aI}{A:aQ}{E:aa->ae->Prop}{s:ae}
theorem IG(hh:A.handled=none)(hd:(d==sysModules)=false)(ho:s.heap.get? d=some o)(hc:o.cls=.type "dict")(hm:s.heap.DictAt (sI prog w) d kvs ep)(hn:kvs.length<=1000)
  (hQ:∀h2 k2 acc,s.heap.objs.size<=h2.objs.size->(∀b o,s.heap.get? b=some o->h2.get? b=some o)->ItemsOf (λi v=>∃k x,kvs[i]?=some (k,x)/\(sI prog w).is k v=true) acc kvs.length->Q acc.toList { s with heap:=h2,toks:=k2 }):wpAny (model prog w) A (collect (.ref d)) Q E s:=by
 have hlt:=aM ho;let lO:Obj:={ cls:=.type "list", data:=.seq ([]:List aa).toArray };unfold collect;refine ao (wpAny_runValue (di F.entry_proto_collect ?_));rw[dF F.plain_proto_collect _];show wpAny _ A.in1 (newList []>>=λl=>again (.builtin "list.__iadd__" ⟨[l,.ref d],[]⟩)) _ _ s;refine ao (fz ?_);refine az ⟨fF oW _,di F.entry_list_iadd ?_⟩;rw[dF oW _];show wpAny _ A.in1 (nt (.ref s.heap.objs.size) (.ref d) (.ref s.heap.objs.size)) _ _ _;have o1:(s.heap.push lO).get? d=some o:=aJ _ ho;have T1:kQ { s with heap:=s.heap.push lO } (.ref d) "dict" := ⟨o,o1,hc⟩;unfold nt;refine ao (jg T1 ?_);rw[aj (by
  have:nM (.ref s.heap.objs.size) (.ref d)=false:=by simp[nM];exact λe=>aq e (fI hlt)
  rw[this];decide)]
 have m1:(s.heap.push lO).DictAt (sI prog w) d kvs ep:=hm.at' λo e=>aJ _ e;refine ao (oR (knd:=sI prog w) (kvs:=kvs) (ep:=ep) hd m1 ?_);let h3:=(s.heap.push lO).push { cls:=.type "dict_keyiterator", data:=.fields #[.ref d,.int 0 0,.int kvs.length 0,.int ep 0] };have T3:kQ { s with heap:=h3 } (.ref d) "dict" := ⟨o,aJ _ o1,hc⟩;have ez:(s.heap.push lO).objs.size=s.heap.objs.size+1:=dj _ _;have L3:h3.get? s.heap.objs.size=some lO:=aJ _ (bz _ rfl);have I3:h3.IsKeyIter (s.heap.objs.size+1) d 0 kvs.length ep:=⟨_,by rw[<-ez];exact bz _ rfl,rfl,rfl⟩;have M3:h3.DictAt (sI prog w) d kvs ep:=m1.at' λo e=>aJ _ e;have K3:∀b o,s.heap.get? b=some o->h3.get? b=some o:=λb o e=>aJ _ (aJ _ e);show wpAny _ A.in1 (holding [.ref (s.heap.push lO).objs.size] (nu (.ref d))>>=_) _ _ { s with heap:=h3 };rw[ez];refine ao (cD ?_);unfold nu;refine ao (kF T3 F.slot_dict_len.lookup ?_);generalize hid:("dict.__len__" : String)=id0;wp_delta;rw[show splitId id0=some ("dict", "__len__") from by subst hid;decide +kernel];subst hid;refine ao (wpAny_isInstance T3 sub_dict_dict ?_);dsimp only;rw[aj (by decide),ai (by decide +kernel)];refine ao (jg T3 ?_);refine az ?_;rw[ai (by decide +kernel)];refine ao (wpAny_rule ?_);refine ao ?_;show wpAny _ A.in1 (updateSeq s.heap.objs.size (·.push .none)>>=λ_=>updateSeq s.heap.objs.size (·.pop)) _ _ _
 refine ao (kH L3 rfl ?_);have S2:=j9 (cQ (·.push Value.none)) L3 rfl
 refine kH S2 rfl ?_;have S3:=j9 (cQ (·.pop)) S2 rfl
 have oth:∀b o,b≠s.heap.objs.size->h3.get? b=some o->((h3.update s.heap.objs.size (cQ (·.push Value.none))).update s.heap.objs.size (cQ (·.pop))).get? b=some o:=
  λb o hb e=>(gv _ _ (cR hb)).trans ((gv _ _ (cR hb)).trans e)
 have hne:d≠s.heap.objs.size+1:=aY (cY hlt);have hSf:s.heap.objs.size∉[s.heap.objs.size+1,d]:=by
  intro z;rcases aK.mp z with z|z
  ·exact aq z (aY (dH _))
  ·exact aq (aP.mp z) (fI hlt)
 have W:=(pE (prog:=prog) (w:=w) (knd:=sI prog w) (A:=A.in1) (by simp[hh]) (s.heap.objs.size+1) d hne kvs ep).toS;refine az ⟨fF F.plain_extend_loop _,codeAny_extend_loopS W (by rw[bL];omega) _ hSf _ kvs.length 0 _ _ _ rfl (cj _)
  ⟨I3.at λo e=>oth _ o (fI (dH _)) e,M3.at' λo e=>oth _ o (aY hlt) e⟩ S3 (ItemsOf.nil _) λs' acc' c' hm hS' hacc=>?_⟩
 show wpAny _ A (load s.heap.objs.size>>=_) _ _ s';refine ao (wpAny_load hS' ?_);obtain⟨h2,g2,d2,k2,o2⟩:=s';have eg:g2=s.gens:=hm.gens;have ed:d2=s.drawn:=hm.drawn;have eo:o2=s.os:=hm.os;subst eg ed eo;refine az (hQ h2 k2 acc' (eO (aM hS')) (λb o e=>?_) hacc);have hb:=aM e;exact hm.heap b o (λz=>by
  rcases aK.mp z with z|z
  ·exact aq z (aY hb)
  ·exact aq (aP.mp z) (aY (cY hb))) (oth b o (aY hb) (K3 b o e))
theorem Mu:∀(vs:List aa) (ss:aB),vs.length=ss.length->(∀(j:Nat) (v:aa) (z:Str),vs[j]?=some v->ss[j]?=some z->∃t,v=.str z t)->fw vs ss
 |[],[],_,_=>.nil
 |v::vs,z::ss,h,k=>by obtain⟨t,rfl⟩:=k 0 v z rfl rfl;exact .cons z t (Mu vs ss (gW h) λj=>k (j+1))
 |[],_::_,h,_=>by cases h
 |_::_,[],h,_=>by cases h
theorem J0{ss:aB}(hh:A.handled=none)(hd:(d==sysModules)=false)(ho:s.heap.get? d=some o)(hc:o.cls=.type "dict")(hm:s.heap.DictAt (sI prog w) d kvs ep)(hn:kvs.length<64)(hk:kvs.map aC=ss.map Sum.inr)
  (hQ:∀p h2 k2 out e,s.heap.objs.size<=p->(∀b o,s.heap.get? b=some o->h2.get? b=some o)->fw out (wZ ss)->h2.get? p=some (seqObj "list" out.toArray e)->Q (.ref p) { s with heap:=h2,toks:=k2 }):wpAny (model prog w) A (call (.builtin "sorted") [.ref d]) Q E s:=by
 refine nF kind_sorted plain_sorted entry_sorted (args_sorted1 _) ?_;unfold dW.«sorted»;refine ao (m:=checkCount "sorted" 1 1 _) (az ?_);refine ao (IG (by simp[hh]) hd ho hc hm (by omega) λh2 k2 acc hz kk ia=>?_);have hl:acc.toList.length=ss.length:=by have:=aT bU hk;rw[ag,ag]at this;rw[eD,ia.1,this]
 have hS:fw acc.toList ss:=Mu _ _ hl λj v z e1 e2=>by
  rw[j8]at e1;obtain⟨k,x,e3,e4⟩:=ia.2 j v e1;have e5:(kvs.map aC)[j]?=some k:=by rw[bt,e3];rfl
  rw[hk,bt,e2]at e5;cases e5;exact Iq e4
 have h64:acc.toList.length<64:=by rw[eD,ia.1];exact hn
 refine ao (kU ?_);have hoL:(h2.push (seqObj "list" acc.toList.toArray 0)).get? h2.objs.size=some (seqObj "list" acc.toList.toArray 0):=bz _ rfl;show wpAny _ _ _ _ _ { s with heap:=h2.push (seqObj "list" acc.toList.toArray 0),toks:=k2 };refine ao (cD (iU slot_list_sort ⟨_,hoL,rfl⟩ entry_list_sort (list_sort_treeK strKind_oneLt hoL hS.keysOf (λv₁ v₂ rest e=>keyKind_strs (by rw[<-e];exact hS)) h64 λst' a1 a2=>⟨_,rfl,?_⟩) (args_list_sort _)));obtain⟨ss',b1,b2,b3⟩:=sorted_out_str hS a1 a2;rw[Fo b2 b3]at b1;obtain⟨e,he⟩:=sortedHeap_at (vs:=acc.toList) (out:=(arrOf st').map (·.2)) hoL
 refine az ⟨_,rfl,hQ h2.objs.size _ k2 _ e hz (λb o z=>?_) b1 he⟩;have:=kk b o z;rw[sortedHeap_old (aY (aM this)) (by rw[dj];exact cY (aM this))];exact aJ _ this
end
section
variable{X:Cx}{G:Bg}{B:Bz}{k:Bool}{pins:cy}{σ:St}{H:Hp}{s:ae}
theorem IH(hc:X.calm=true):uf X (.builtin "sorted") (λxs H Q=>∃(a:Addr) (o:Obj) (kvs:List (Key×V)) (ss:aB),xs=[.ref a]/\H a=some (.frz o (.dK kvs))/\kvs.map aC=ss.map Sum.inr/\ss.length<64/\∀p,H p=none->Q (.ref p) (upd H p (.lst ((wZ ss).map V.str)))):=by
 intro pins s σ H xs us Q I r h;obtain⟨a,o,kvs,ss,rfl,he,hk,h64,q⟩:=h;obtain⟨u,rfl,ru⟩:=vals1 r;cases ru;obtain⟨q0,_,y,vs,r,ob,es,ep,e1,e2,e3,e4⟩:=(show tL X.prog X.w H s.heap a (.frz o (.dK kvs)) from I.hok a _ he);rw[q0]at e1;cases e1;have hl:kvs.length=vs.length:=r.length;have hl2:=aT bU hk;rw[ag,ag]at hl2;have kv:∀{kvs:List (Key×V)} {vs:List (Key×aa)},KV kvs vs->vs.map aC=kvs.map aC:=λ{kvs vs} r=>by
  induction r with
  |nil=>rfl
  |cons h _ ih=>rw[au,au,ih,show _=_ from h.1]
 refine J0 (I.ok.hd hc) y q0 e2.1 ⟨o,es,q0,e2,e3,e4⟩ (by omega) ((kv r).trans hk) λp h2 k2 out e hp kk hs hg=>?_;refine⟨.ref p,_,I.laid (t':=k2) kk hp ?_,rfl,q _ (I.hok.fresh hp)⟩;refine⟨?_,out,e,Qn hs,hg⟩;rw[ag,show (wZ ss).length=ss.length from(iN ss leS).length_eq,bL];omega
def DF:List Key->Option aB
 |[]=>some []
 |.inr x::ks=>(DF ks).map (x::·)
 |_=>none
theorem J1:∀{ks:List Key} {ss:aB},DF ks=some ss->ks=ss.map Sum.inr
 |[],ss,e=>by cases e;rfl
 |.inl _::_,ss,e=>by cases e
 |.inr x::ks,ss,e=>by
  unfold DF at e;cases e1:DF ks with
  |none=>rw[e1]at e;cases e
  |some l=>rw[e1]at e;cases e;rw[J1 e1];rfl
def Dc(f:FE):FA:=λρ=>match f ρ with
 |some (.dic ks ds,ρ')=>match DF ks with
  |some ss=>if ss.length<64 then some ((wZ ss).map D.str,ρ')else none
  |none=>none
 |_=>none
theorem J2(h:PE X e (tCB (λxs H Q=>∃(a:Addr) (o:Obj) (kvs:List (Key×V)) (ss:aB),xs=[.ref a]/\H a=some (.frz o (.dK kvs))/\kvs.map aC=ss.map Sum.inr/\ss.length<64/\∀p,H p=none->Q (.ref p) (upd H p (.lst ((wZ ss).map V.str)))) (tFA G (rR f sS)))):PE X e (tFN G (Dc f)):=PE.weak h λσ H Q hh=>by
 obtain⟨F,ρ,H0,es,ρ',R,e,k⟩:=hh;unfold Dc at e;split at e
 ·rename_i ks ds ρ1 e1;cases e2:DF ks with
  |none=>simp only[e2]at e;cases e
  |some ss=>
   simp only[e2]at e;split at e
   ·rename_i h64;cases e;refine⟨F,ρ,H0,[.dic ks ds],_,R,by unfold rR;rw[e1];rfl,λys H1 H1' s R' rs=>?_⟩;unfold r6 at rs;obtain⟨v,r0,rfl,rv,rn⟩:=rs;unfold r6 at rn;subst rn;unfold Rep at rv;obtain⟨a,o,xs,rfl,r1,r2,r3⟩:=rv;refine⟨a,o,_,ss,rfl,R'.sub _ _ r1,?_,h64,λp hp=>?_⟩
    ·rw[o9 (kZ r2)];exact J1 e2
    ·exact k p _ _ _ s (R'.newOwn hp _) se (R'.h0none hp) (R'.bNone hp) (R'.apart hp) (By _)
   ·cases e
 ·cases e
end
section
variable{X:Cx}{B:Bz}{k:Nat}{e:Expr}{f:FE}{p pos:Pos}
theorem Yh [C:Cz X B k][N:Nb B "sorted"](hs:S1 X e)(hg:Gz X "sorted")(ha:ZE X B e f):ZN X B (.Call (.Name "sorted" p) [e] [] pos) (Dc f):=⟨J2 (cbI hg (by decide) hs (IH C.c) lE (uJ ha.p vC hs))⟩
end
def Qr(f:FE)(lo hi:Option Int):FE:=λρ=>match f ρ with
 |some (.tup ds,ρ1)=>if HT.sIx ds.length 0 lo=0/\HT.sIx ds.length ds.length hi=ds.length then none else some (.tup (cutD ds lo hi),ρ1)
 |_=>none
section
variable{X:Cx}{G:Bg}
theorem N4{lo:Option Int}(h:PE X e (tSl (Vn G.K) (tF G f) (tO lo) (tO hi))):PE X e (tF G (Qr f lo hi)):=PE.weak h λσ H Q hh=>by
 obtain⟨F,ρ,H0,ds,ρ',R,e,k⟩:=hh;unfold Qr at e;split at e
 ·rename_i xs ρ1 e1;split at e
  ·cases e
  ·rename_i hn;cases e;refine⟨F,ρ,H0,_,_,R,e1,λv H1 H1' s R' r=>?_⟩;unfold Rep at r;obtain⟨a,ys,rfl,h1,h2⟩:=r;rw[r9 h2]at hn;exact⟨a,ys,rfl,SqT.mono R'.sub h1,hn,λp hp=>k _ _ _ (s.trans (sv (R'.h0none hp) _)) (R'.newIm hp _) (y8 (SqT.of se) (r6.mono (sv (R'.h0none hp) _) _ _ (E7 h2)))⟩
 ·cases e
theorem sl_T(hK:X.K=G.K:=by rfl):SlR X (Vn G.K):=by rw[<-hK];exact Vo
end
section
variable{X:Cx}{B:Bz}{k:Nat}{e:Expr}{f:FE}{p pos:Pos}
theorem Yi{lo:Option Expr}[C:Cz X B k](he:ZE X B e f)(hl:ZK X lo l)(hh:ZK X hi h):ZE X B (.Subscript e (.Slice lo hi none p) pos) (Qr f l h):=⟨N4 (EI (sl_T C.K) he.p hl.p hh.p)⟩
end
section
variable{t:SetTable}{m n:Nat}
def rs(m i q:Nat):jc:=⟨i,kI m i - i,i,q,none⟩
end
section
variable{ow:Array (Option Nat)}
def lv(ow:Array (Option Nat)):List (Nat×Nat):=(bB 32).filterMap λj=>(ow.getD j none).map (j,·)
end
section
variable{X:Cx}{G:Bg}
theorem Qs(hh:tF G (uq g i a) σ H Q):zX (spL G g) [] E (Lf G i a) σ H Q:=by
 obtain⟨F,ρ,H0,d,ρ',R,e,k⟩:=hh;unfold uq at e;rcases sO (f:=a) (ρ:=ρ)with e1|⟨ds,ρ1,e1⟩<;>simp only[e1]at e
 ·cases e
 ·cases e2:uc ρ1 i with
  |none=>simp only[e2]at e;cases e
  |some es=>
   simp only[e2]at e;cases e3:g es ds with
   |none=>simp only[e3]at e;cases e
   |some q=>obtain⟨d1,es'⟩:=q;simp only[e3]at e;cases e;refine⟨F,ρ,H0,ds,ρ1,es,R,e1,e2,λys b H1 H1' s R' rs sb=>?_⟩;obtain⟨s,es0,es1⟩:=ve e2;obtain⟨b',xs',t1,t2,t3,t4⟩:=(R'.sl i s es0).lst es1;rw[uW t1]at sb;cases sb;refine⟨b,ys,bq _,b,ys,xs',H1,es,ds,d,es',rfl,t2,t3,R'.sub,t4,rs,e3,λv zs H2 H2' u1 u2 u3 fr w0 w1 w2 w3=>?_⟩;refine k _ _ _ (sq.trans ‹sq H0 H1› u1) ?_ w3;unfold putAt;rw[es0];exact R'.call1 es0 es1 t1 u1 u2 u3 fr w0 w1 w2
end
end L4
namespace L4
open PySem PySem.Spec PySem.Calls PyProof.Rows PySem.W L2 L3
noncomputable abbrev cS(s:Str):FE:=cC (.str s)
noncomputable abbrev a1(e:FE):FA:=rR e sS
section
variable{X:Cx}{G:Bg}{C:Addr}{x:Str}{p pos:Pos}{e:Expr}{c:Nat}
structure Mk0(K:ar)(C:Addr):Prop where
 makes:makesIn K C=true
 init:findIn K (.ref C) "__init__" = some (some (.builtin "object.__init__"))
 kp:keepIn K (.ref C)=true
theorem N5(M:Mk0 X.K C)(hg:Gl X x)(hm:X.mg x=some (.ref C))(hdb:(x==("__debug__" : Str))=false):PE X (.Call (.Name x p) [] [] pos) (λσ H Q=>∀y dx,H y=none->H dx=none->dx≠y->Q (.ref y) (upd (upd H dx (.own y)) y (.ins C dx []))):=by
 intro pins s σ H Q I h;refine dG (BJ I hg hm ?_ hdb);refine kO I.kIn M.kp ?_;have hq:=h (s.heap.objs.size+1) s.heap.objs.size (I.hok.fresh (eP _)) (I.hok.fresh (aF _)) (aY (dH _));have I2:=Inv.made (C:=C) I;have Y:=lK (M:=model X.prog X.w) I.kIn M.makes;refine jk (M9 I.kIn M.makes M.init (λself=>Looks.of_pure (oi_bind self)) ?_);have e2:((s.heap.push emptyDict).push (instObj C s.heap.objs.size)).get? (s.heap.objs.size+1)=some (instObj C s.heap.objs.size):=by rw[<-dj s.heap emptyDict];exact bz _ rfl
 have t2:Looks (model X.prog X.w) ((s.heap.push emptyDict).push (instObj C s.heap.objs.size)) (isInstance (.ref (s.heap.objs.size+1)) (.type "object")) true:=
  ((Looks.ld e2).andThen .now:Looks (model X.prog X.w) _ (typeOf (.ref (s.heap.objs.size+1))) (.ref C)).andThen (Y.top.keeps λb o e=>aJ _ (aJ _ e))
 refine n4 oi_plain entry_oi (check_slot oi_kind oi_split t2 (oi_args _) ?_);rw[oi_run];exact az (And.intro rfl ⟨V.ref (s.heap.objs.size+1),_,I2,rfl,hq⟩)
def Yj(c:Nat):FE:=λρ=>some (.obj c [] [],ρ)
theorem N6(h:PE X e (λσ H Q=>∀y dx,H y=none->H dx=none->dx≠y->Q (.ref y) (upd (upd H dx (.own y)) y (.ins (G.ca c) dx [])))):PE X e (tF G (Yj c)):=PE.weak h λσ H Q hh=>by
 obtain⟨F,ρ,H0,d,ρ',R,e,k⟩:=hh;cases e;intro x dx hx hdx ne;have hx2:(upd H dx (.own x)) x=none:=by rw[sf (λz=>ne z.symm)];exact hx
 have sx:sq H (upd (upd H dx (.own x)) x (.ins (G.ca c) dx [])):=(sv hdx _).trans (sv hx2 _);have R2:=R.grow sx (λ_ _ e=>e) (R.sub.trans sx) (λb o e=>.inl e);have h0:=R.h0none hx;have R3:=R2.freeze se h0 (R.bNone hx) (λi t ei to z=>R.apart hx i t ei to z);refine k _ _ _ (sv h0 _) R3 ?_;unfold Rep;exact⟨x,dx,[],rfl,se,rfl,sR⟩
end
section
variable{X:Cx}{B:Bz}{k:Nat}{p pos:Pos}{x:Str}{c:Nat}
class K0f(B:Bz)(x:Str)(c:Nat):Prop where p:Mk0 B.G.K (B.G.ca c)/\B.mg x=some (.ref (B.G.ca c))
theorem Yk [C:Cz X B k][Q:K0f B x c](hg:Gz X x)(hd:(x==("__debug__" : Str))=false):ZE X B (.Call (.Name x p) [] [] pos) (Yj c):=⟨N6 (N5 (by rw[C.K];exact Q.p.1) hg (by rw[C.mg];exact Q.p.2) hd)⟩
end
end L4
namespace L4
open PySem PySem.Spec PyProof.Rows L2 L3
def spJ(G:Bg)(j:Nat)(g:aS->aS->Option (D×aS)):Sp:=λvs H Q E=>∃(a:Addr) (us:bC),vs=us.take j++.ref a::us.drop j/\spM G g (.ref a::us) H Q E
def stJ(j n:Nat)(es ds:aS):aZ:=(ds.take j).map Sl.im++.pm es::((ds.drop j).map Sl.im++dP (n - ds.length - 1) .un)
def fnJ(j np n:Nat)(f:FS):aS->aS->Option (D×aS):=λes ds=>if ds.length=np then match f (stJ j n es ds)with
 |some (.rt d ρ)=>match JR j ρ with
  |some es'=>some (d,es')
  |none=>none
 |_=>none
 else none
theorem J3(h:fnJ j np n f es ds=some (d,es')):ds.length=np/\∃ρ,f (stJ j n es ds)=some (.rt d ρ)/\ρ[j]?=some (.pm es'):=by
 unfold fnJ at h;split at h
 ·rename_i hl;refine⟨hl,?_⟩;split at h
  ·rename_i x ρ e;cases e2:JR j ρ with
   |none=>simp only[e2]at h;cases h
   |some q=>simp only[e2]at h;cases h;exact⟨ρ,e,CU e2⟩
  ·cases h
 ·cases h
variable{ds:aS}
theorem II(hj:j<=ds.length)(h:(stJ j n es ds)[i]?=some t):(i=j/\t=.pm es)\/t=.un\/∃(m:Nat) (d:D),ds[m]?=some d/\t=.im d/\∀(us:bC) (v w:V),us.length=ds.length->us[m]?=some v->(us.take j++w::us.drop j)[i]?=some v:=by
 unfold stJ at h;have lt:(ds.take j).length=j:=by rw[bp];omega
 by_cases hi:i<j
 ·rw[cG (by rw[ag,lt];exact hi),bt,oG,ai hi,aN (by omega)]at h;cases h;refine .inr (.inr ⟨i,_,aN (by omega),rfl,λus v w hl hv=>?_⟩);rw[cG (by rw[bp];omega),oG,ai hi];exact hv
 ·rw[cz (by rw[ag,lt];omega),ag,lt]at h;cases q:i - j with
  |zero=>rw[q]at h;cases h;exact .inl ⟨by omega,rfl⟩
  |succ m=>
   rw[q,iJ]at h;by_cases hm:m<(ds.drop j).length
   ·have hm':j+m<ds.length:=by rw[cb]at hm;omega
    rw[cG (by rw[ag];exact hm),bt,cX,aN hm']at h;cases h;refine .inr (.inr ⟨j+m,_,aN hm',rfl,λus v w hl hv=>?_⟩);rw[cz (by rw[bp];omega),bp,dO (by omega),q,iJ,cX];exact hv
   ·rw[cz (by rw[ag];omega),fq]at h;split at h
    ·cases h;exact .inr (.inl rfl)
    ·cases h
variable{N:aB}
section
variable{X:Cx}{G:Bg}
theorem TB(hj:j<=ds.length)(ha:H a=some (.lst xs))(h0:H0 a=none)(s:sq H0 H)(r1:r6 G H0 es xs)(r:r6 G H0 ds us)(hN:us.length+1<=N.length):sC G ⟨H0,H,[a]⟩ (L2.start N (us.take j++.ref a::us.drop j)) (stJ j N.length es ds) H0 H:={
  sub:=s
  g0:=sq.refl _
  keep:=λb o e _=>e
  fr:=λb o e=>.inl e
  am:=λb hb=>by rw[aP]at hb;subst hb;exact⟨_,ha⟩
  len:=by unfold L2.start stJ;simp only[aA,ag,cf,aE,cO,bp,cb];have:=r9 r;omega
  sl:=λi t e=>by
   have hl:=r9 r;rcases II hj e with ⟨rfl,rfl⟩|rfl|⟨m,d,e1,rfl,e4⟩
   ·exact⟨a,xs,vd (by rw[cz (by rw[bp];omega),bp,dO (by omega),jh];rfl),ha,h0,aP.mpr rfl,r1⟩
   ·trivial
   ·obtain⟨v,e2,e3⟩:=um r e1;exact⟨v,vd (e4 us v _ hl.symm e2),e3⟩
  ap:=λi k t u b hij ei ej ht hu=>by
   rcases II hj ei with ⟨rfl,rfl⟩|rfl|⟨_,_,_,rfl,_⟩
   ·rcases II hj ej with ⟨rfl,rfl⟩|rfl|⟨_,_,_,rfl,_⟩
    ·exact aq rfl hij
    ·cases hu
    ·cases hu
   ·cases ht
   ·cases ht }
theorem TC(hj:j<=np)(hN:np+1<=N.length)(h:spJ G j (fnJ j np N.length f) vs H Q E):tFS G f { nx:=λ_ H'=>Q .non H',rt:=Q } (L2.start N vs) H:=by obtain⟨a,us,rfl,b,us',xs,H0,es,ds,d,es',e0,ha,h0,s,r1,r,e,k⟩:=h;cases e0;obtain⟨hl,ρ,e1,e2⟩:=J3 e;have R:=TB (N:=N) (j:=j) (by omega) ha h0 s r1 r (by rw[<-r9 r,hl];exact hN);refine⟨_,_,H0,_,R,e1,λv σ' H0' H' s' R' rv=>?_,λ_=>rfl⟩;obtain⟨a',ys,q1,q2,q3,q4,q5⟩:=R'.sl j _ e2;have ea:a'=a:=aP.mp q4;subst ea;exact k _ ys _ _ s' R'.sub (λb o e n=>R'.keep b o e (λz=>n (aP.mp z))) R'.fr q3 q2 q5 rv
def N7(G:Bg)(j i:Nat)(a:FA):TA:=λσ H Q=>∃F ρ H0 ds ρ' es,sC G F σ ρ H0 H/\a ρ=some (ds,ρ')/\uc ρ' i=some es/\∀xs b H0' H',sq H0 H0'->sC G F σ ρ' H0' H'->r6 G H0' ds xs->σ[i]?=some (some (.ref b))->Q (xs.take j++.ref b::xs.drop j) H'
theorem Qt(hv:PE X e (yp i))(hc:PE X e' (tF G (cC d)))(hs:starEach [e,e'] X.env=(false,eval e X.env)::starEach [e'] X.env)(hs':starEach [e'] X.env=[(false,eval e' X.env)]):PA X [e,e'] (N7 G 0 i (rR (cC d) sS)):=PA.weak (uj hv (uj hc xD hs') hs) λσ H Q hh=>by obtain⟨F,ρ,H0,ds,ρ',es,R,e,el,k⟩:=hh;cases e;obtain⟨b,xs,s1,_⟩:=uv R el;exact⟨.ref b,s1,F,ρ,H0,d,ρ,R,rfl,λv H1 H1' s R' rv=>k [v] b _ _ s R' (sP rv sR) s1⟩
theorem N8(ha:PE X e (tF G f))(hr:PA X es (N7 G j i g))(hs:starEach (e::es) X.env=(false,eval e X.env)::starEach es X.env:=by rfl):PA X (e::es) (N7 G (j+1) i (rR f g)):=PA.weak (uj ha hr hs) λσ H Q hh=>by obtain⟨F,ρ,H0,d,ρ',es,R,e,el,k⟩:=hh;obtain⟨x,r,ρ1,e1,e2,rfl⟩:=za e;exact⟨F,ρ,H0,x,ρ1,R,e1,λv H1 H1' s R' rv=>⟨F,ρ1,H1,r,ρ',es,R',e2,el,λxs b H2 H2' s2 R2 rs sb=>k (v::xs) _ _ _ (s.trans s2) R2 (sP (Rep.mono s2 _ _ rv) rs) sb⟩⟩
theorem Qu(hh:tF G (uq g i a) σ H Q):zX (spJ G j g) [] E (N7 G j i a) σ H Q:=by obtain⟨F,ρ,H0,ds,ρ',es,R,e,el,k⟩:=Qs (E:=E) hh;refine⟨F,ρ,H0,ds,ρ',es,R,e,el,λxs b H1 H1' s R' rs sb=>?_⟩;obtain⟨a',us,e1,q⟩:=k xs b H1 H1' s R' rs sb;rw[bq]at e1;obtain⟨rfl,e2⟩:=List.append_inj' e1 rfl;cases e2;exact⟨b,xs,bq _,q⟩
theorem TF(D:yL X.prog X.w X.K X.mg X.base k x ps (spJ G j g))(hr:ug k X.A)(ha:PA X (e::es) (N7 G j i a))(hg:Gl X x)(hdb:(x==("__debug__" : Str))=false)(he:starEach (e::es) X.env=(false,eval e X.env)::starEach es X.env)(hpl:(backTo pos (starEach es X.env)).any (·.1)=false):
  PE X (.Call (.Name x p) (e::es) [] pos) (tF G (uq g i a)):=by
 obtain⟨f,fd,h1,h2,h3,h4⟩:=D;exact PE.weak (BK (p:=p) (pos:=pos) h4 hr hg h1 h2 h3 .nil Dv ha hdb he hpl) λσ H Q hh=>Qu hh
end
section
variable{P:aU}{w:aI}{K:ar}{mg:Str->Option aa}{base:Heap}{x qual:Str}{st:Stmt}{f T:Addr}{fd:bY}{N ps:aB}{k:Nat}{G:Bg}
theorem aai(hg:g=fnJ j np n b)(hj:j<=np)(hp:ps.length=np+1)(hN:N.length=n)(F:Fun K x qual st f fd)(S:ud N ps (sE st))(body:∀(cdv:aa) (A:aQ) (outer:List Env) (s:ae) (H:Hp) (E:XK),ug k (A.deeper (envOfC qual (sE st) s.heap.objs.size f cdv))->PSs (Bc P w K mg base N qual st f cdv A outer s H E) (tp st) (tFS G b)):
  vQ P w K mg base CX0 (k+1) f fd ps (spJ G j g):=by
 subst hg hN;refine F.ok S (λvs H Q E h=>?_) λcdv A outer s H vs Q E hr h=>⟨_,body cdv A outer s H E hr,TC hj (by have:=aT bU S.pre;rw[bp]at this;omega) h⟩;obtain⟨a,us,rfl,h⟩:=h;have:=Pb (λ_ _ d h=>(J3 (d:=d.1) (es':=d.2) h).1) _ _ _ _ h;simp only[aA,aE,bp,cb]at this ⊢;omega
end
section
variable{X:Cx}{B:Bz}{k j i j' np n:Nat}{x y:Str}{e e':Expr}{es:List Expr}{a:FA}{f:FE}{d:D}{p pos:Pos}{g:aS->aS->Option (D×aS)}
structure ZJ(X:Cx)(B:Bz)(e:List Expr)(j i:Nat)(f:FA):Prop where p:PA X e (N7 B.G j i f)
theorem Yl(h:sees X i x=true)(hc:ZE X B e' (cC d))(hs:Sz X (.Name x p) [e'])(hs':S1 X e'):ZJ X B [.Name x p,e'] 0 i (rR (cC d) sS):=⟨Qt (pvI h) hc.p hs hs'⟩
theorem Ym(ha:ZE X B e f)(hr:ZJ X B es j i a)(hs:Sz X e es):ZJ X B (e::es) (j+1) i (rR f a):=⟨N8 ha.p hr.p hs⟩
class Dj(B:Bz)(j':outParam Nat)(x:Str)(j:outParam Nat)(g:aS->aS->Option (D×aS)):Prop where p:Df B j' x (spJ B.G j g)
theorem Yn [C:Cz X B k][Q:Dj B j' x j g](hg:Gz X x)(hd:Dz x)(hs:Sz X e es)(hl:Lz X pos es)(ha:ZJ X B (e::es) j i a)(hj:c8 j' k=true):ZE X B (.Call (.Name x p) (e::es) [] pos) (uq g i a):=by obtain⟨ps,q⟩:=dz hg hd (X:=X) (Q:=Q.p);exact⟨TF q (C.r.mono (c6.mp hj)) ha.p hg hd hs hl⟩
end
section
variable{B:Bz}[Y:Yb B]{x:Str}{st s0:Stmt}{l:List Stmt}{j np n k:Nat}{b:FS}
theorem gJ5(hg:g=fnJ j np n b)(hj:j<=np)(q:GD B.G.K x st)(hl:tp st=s0::l)(body:Bdz B (nmO st) x st (s0::l) k b)(S:okO (nmO st) (psO st) st (np+1) n=true:=by kernel_rfl)(bd:Bds x x st (psO st):=by (repeat intro _);rfl):Df B (k+1) x (spJ B.G j g):=
 ⟨_,gD Y.y q bd λf fd F=>aai hg hj (okk S).2.1 (okk S).2.2 F (okk S).1 (body.ok hl f)⟩
end
section
variable{X:Cx}{B:Bz}{k j i m:Nat}{x:Str}{e e':Expr}{es:List Expr}{d:D}{p pos:Pos}{g:D->D->Option D}
theorem aaj:ZB X B l NK:=⟨λpins s σ H D I h=>by
 obtain⟨F,ρ,H0,o,R,e,_⟩:=h;cases e⟩
theorem aak(h:c2 g (cV m) (cC d) ρ=some (z,ρ')):ρ'=ρ:=by
 unfold c2 cV at h;split at h
 ·rename_i e;split at e
  ·cases e;unfold cC at h;simp only at h;split at h
   ·cases h;rfl
   ·cases h
  ·cases e
 ·cases h
theorem Yo(h:sees X i x=true)(hc:ZE X B e' (c2 g (cV m) (cC d)))(hs:Sz X (.Name x p) [e'])(hs':S1 X e'):ZJ X B [.Name x p,e'] 0 i (rR (c2 g (cV m) (cC d)) sS):=⟨PA.weak (uj (pvI h) (uj hc.p xD hs') hs) λσ H Q hh=>by
 obtain⟨F,ρ,H0,ds,ρ',es,R,e,el,k⟩:=hh;obtain⟨z,r,ρ1,e1,e2,rfl⟩:=za e;cases e2;have q:=aak e1;subst q;obtain⟨b,xs,s1,_⟩:=uv R el;exact⟨.ref b,s1,F,_,H0,z,_,R,e1,λv H1 H1' s R' rv=>k [v] b _ _ s R' (sP rv sR) s1⟩⟩
end
theorem zc.mono(M:zc G P w mg base j m c h)(hk:c8 j k=true):zc G P w mg base k m c h:=by obtain⟨f,fd,ps,a,b,c,F⟩:=M;exact⟨f,fd,ps,a,b,c,F.mono (c6.mp hk)⟩
end L4
namespace K22x
open PySem L2 L3 L4
abbrev D:=L4.D
def top(i:Nat):Stmt:=PySem.Challenge.pw_tellworld_k22_tests_in_tests.main.body.getD i (.Pass ⟨0,0,0,0⟩)
def yN:Nat->Bool:=λc=>c==14
def J4:Nat->Bool:=λc=>c==2
def Hf:Nat->Bool:=λc=>c==9
def DG:Nat->Bool:=λc=>c==2
def Be:Nat->Bool:=λc=>c==14
def zL:Nat->Bool:=λc=>c==14
def Al:Nat->Bool:=λc=>c==14
def Fq:Nat->Bool:=λc=>c==0||c==7
def Fs:Nat->Bool:=λc=>c==1
def B6:Nat->Bool:=λc=>c==0||c==1||c==2
def Mv:Nat->Bool:=λc=>c==10
def Hg:Nat->Bool:=λc=>c==10
def BB:Nat->Bool:=λc=>c==2
def Hh:Nat->Bool:=λc=>c==3||c==11
def yO:Nat->Bool:=λc=>c==14
def yP:Nat->Bool:=λc=>c==14
def Dd:Nat->Bool:=λc=>c==0||c==1
def J5:Nat->Bool:=λc=>c==3||c==4||c==5||c==6||c==7||c==11||c==12
def xH:Nat->Bool:=λc=>c==14
def Hk:Nat->Bool:=λc=>c==6||c==12
def J6:Nat->Bool:=λc=>c==13
def yf:Nat->Bool:=λc=>c==14
def J7:Nat->Bool:=λc=>c==8
def De:Nat->Bool:=λc=>c==0
def Bf:Nat->Bool:=λc=>c==14
abbrev Qv:Ty->Option Bool:=G9 16 1
abbrev Mw:Ty->Option Bool:=G9 16 0
def Am:L4.D:=(D.int 8)
def An:L4.D:=(D.int 12)
def Ft:L4.D:=(D.tup [(D.str "it"),(D.str "other"),(D.str "here"),(D.str "the"),(D.str "a"),(D.str "undo"),(D.str "restart")])
def Fu:L4.D:=(D.tup [(D.str "the"),(D.str "a")])
def IJ:L4.D:=(D.tup [(D.str "room"),(D.str "plain"),(D.str "fixed"),(D.str "box"),(D.str "lamp"),(D.str "you")])
def yg:L4.D:=(D.tup [(D.str "room"),(D.str "box"),(D.str "you")])
def yh:L4.D:=(D.tup [(D.str "box"),(D.str "lamp")])
def Bh:L4.D:=(D.tup [(D.str "room"),(D.str "you")])
def B7:L4.D:=(D.int 5)
def Bi:L4.D:=(D.int 7)
def w6:L4.D:=(D.int 4)
def Ao:L4.D:=(D.int 3)
def DH:L4.D:=(D.int 10)
def B8:L4.D:=(D.int 6)
def zp:L4.D:=(D.int 4)
def xI:L4.D:=(D.tup [(D.str "the"),(D.str "a"),(D.str "undo"),(D.str "restart")])
def B9:L4.D:=(D.int 20)
abbrev af:=(cV 0)
abbrev ah:=(cV 1)
abbrev aR:=(cC (.int 1))
abbrev aH:=(gN 0)
abbrev de:=(c1 xW af)
abbrev qL:=(c1 (Aa (wa "str")) af)
def xJ:FS:=(sH (tV qL (tV (vF yq yq aR de ah) (c1 xX (cL (sL 1 [] (iS af) aH tR (vF Ph Ph (cS "a") af (cS "z"))))))))
def vH:=fnD 2 2 xJ
abbrev eZ:=(dIn true)
def Hl:FS:=(sH (tV (rW vH (rR af (a1 (cC Am)))) (c2 eZ af (cC Ft))))
def AV:=fnD 1 1 Hl
def Hm:FS:=(sH (tV (rW vH (rR af (a1 (cC An)))) (c2 eZ af (cC Fu))))
def vK:=fnD 1 1 Hm
abbrev ck:=(dIn false)
abbrev iw:=(c2 ck af ah)
def DI:FS:=(sH (tV qL iw))
def tM:=fnD 2 2 DI
abbrev qK:=(c1 (Aa (wa "bool")) af)
def Fv:FS:=(sH (tV (c1 (Aa (wa "int")) af) (CL qK)))
def BC:=fnD 1 1 Fv
abbrev rK:=(Aa (wa "list"))
abbrev jT:=(c1 rK af)
def zM:FS:=(sH (tV jT (c2 yq de ah)))
def ui:=fnD 2 2 zM
def Fw:FS:=(sH (cIf (cT jT) (cL (Ab af)) af))
def BD:=fnD 1 1 Fw
abbrev aw:=(cV 2)
abbrev ay:=(cV 3)
abbrev aD:=(cV 4)
def Ca:FS:=(rV (sY 0 0 "name" ah)
 (rV (sY 0 0 "words" aw)
 (rV (sY 0 0 "kind" ay)
 (sY 0 0 "start" aD))))
def Cb:=fnI 0 4 5 Ca
def DJ:FS:=(rV (sY 1 0 "name" ah)
 (rV (sY 1 0 "start" aw)
 (sY 1 0 "most" ay)))
def DK:=fnI 1 3 4 DJ
abbrev bE:=(cC D.non)
abbrev ik:=(tH sS)
abbrev mZ:=(c2 Gh aw bE)
def Ap:FS:=(rV (sY 2 0 "name" ah)
 (rV (sY 2 0 "others" (cIf (cT mZ) ik aw))
 (rV (sY 2 0 "form" ay)
 (sY 2 0 "joining" aD))))
def uZ:=fnI 2 4 5 Ap
def Hn:FS:=(rV (sY 3 0 "term" ah)
 (sY 3 0 "place" aw))
def AW:=fnI 3 2 3 Hn
def Fy:FS:=(sY 4 0 "term" ah)
def zq:=fnI 4 1 2 Fy
def DL:FS:=(sY 5 0 "term" ah)
def DM:=fnI 5 1 2 DL
def Bj:FS:=(rV (sY 6 0 "term" ah)
 (sY 6 0 "value" aw))
def ua:=fnI 6 2 3 Bj
def DN:FS:=(rV (sY 7 0 "term" ah)
 (sY 7 0 "kind" aw))
def uD:=fnI 7 2 3 DN
def DO:FS:=(sY 8 0 "word" ah)
def Aq:=fnI 8 1 2 DO
def FB:FS:=(sY 9 0 "inner" ah)
def uG:=fnI 9 1 2 FB
def DP:FS:=(rV (sY 10 0 "one" ah)
 (sY 10 0 "other" aw))
def DQ:=fnI 10 2 3 DP
def DR:FS:=(rV (sY 11 0 "term" ah)
 (sY 11 0 "place" aw))
def wC:=fnI 11 2 3 DR
def FC:FS:=(rV (sY 12 0 "term" ah)
 (sY 12 0 "value" aw))
def xK:=fnI 12 2 3 FC
abbrev aO:=(cV 5)
abbrev fi:=(a1 aw)
abbrev iz:=(a1 ay)
def DS:FS:=(rV (sY 13 0 "verb" ah)
 (rV (sY 13 0 "tests" (rW BD fi))
 (rV (sY 13 0 "deeds" (rW BD iz))
 (rV (sY 13 0 "text" aD)
 (sY 13 0 "refuses" aO)))))
def Ar:=fnI 13 5 6 DS
abbrev hJ:=(uX Fq "kind")
abbrev dB:=(c1 hJ af)
def yQ:FS:=(sH (c2 ck dB (cC yg)))
def yR:=fnD 1 1 yQ
def xM:Nat->Option (List D->Option D):=λc=>match c with
 |0=>some yR
 |_=>none
def yS:FS:=(sH (c2 ck dB (cC yh)))
def yT:=fnD 1 1 yS
def vU:Nat->Option (List D->Option D):=λc=>match c with
 |0=>some yT
 |_=>none
def xN:FS:=(sH (c2 eZ dB (cC Bh)))
def xO:=fnD 1 1 xN
def vp:Nat->Option (List D->Option D):=λc=>match c with
 |0=>some xO
 |_=>none
def zN:FS:=(sIf (wY (cT af)) NK sF)
def sr:=fnD 2 2 zN
abbrev av:=(dEq false)
abbrev bN:=(iL af)
def FD:FS:=(sH (c1 xW (cL (sL 1 [1] bN aH (cT (c2 av dB ah)) af))))
def zr:=fnD 2 2 FD
def Cc:FS:=(uC (sL 1 [] bN aH (cT (t8 vp "is_plainly" af sS)) af))
def w9:=fnN 1 1 Cc
abbrev bH:=(cC (.int 0))
abbrev c9:=(sH (cC (.bl false)))
abbrev hX:=(uX Dd "start")
abbrev lV:=(uX Fs "most")
abbrev mM:=(c1 lV af)
def Dg:FS:=(rV (sIf (wK (wY (cT (c1 (Aa Qv) af))) (wK (wY (cT (rW BC (a1 (c1 hX af))))) (wY (cT (rW BC (a1 mM)))))) c9 sF)
 (sH (tV (vF yq yq aR mM (cC Ao)) (vF yq yq bH (c1 hX af) mM))))
def Dh:=fnD 1 1 Dg
abbrev dv:=(cS "you")
abbrev dc:=(cS "room")
abbrev bX:=(a1 af)
abbrev mS:=(cL (sX w9 bX))
def xP:FS:=(rV (sM 1 (tV jT (c1 xX (cL (sL 1 [] bN aH tR (c1 (Aa Mw) af))))))
 (rV (sT (rW sr (rR ah (a1 (cS "things are a list of things")))))
 (rV (sT (rW sr (rR (c1 xX (cL (sL 1 [] bN aH tR (rW tM (rR dB (a1 (cC IJ))))))) (a1 (cS "a thing is of no kind")))))
 (rV (sT (rW sr (rR (vF yq yq aR (rW zr (rR af (a1 dc))) (cC B7)) (a1 (cS "a world has 1 to 5 rooms")))))
 (rV (sT (rW sr (rR (c2 av (rW zr (rR af (a1 dv))) aR) (a1 (cS "a world has just one you")))))
 (sT (rW sr (rR (c2 yq (c1 xW mS) (cC Bi)) (a1 (cS "a world has at most 7 things beside rooms and you"))))))))))
def xQ:=fnD 1 2 xP
def yt:FS:=(rV (sM 1 (tV (rW ui (rR af (a1 (cC w6)))) (c1 xX (cL (sL 1 [] bN aH tR (rW Dh bX))))))
 (sT (rW sr (rR ah (a1 (cS "marks are a list of at most 4 marks, each from 0 to at most 3"))))))
def yu:=fnD 1 2 yt
def Cd:FS:=(sH (c2 av (c1 Ip af) de))
def tY:=fnD 1 1 Cd
abbrev cI:=(uX B6 "name")
abbrev cM:=(c1 cI af)
abbrev gd:=(iL ah)
abbrev iA:=(iL aw)
abbrev q9:=(cL (sL 1 [] gd aH tR cM))
def yw:FS:=(rV (sM 2 (cL (uR (cL (sL 1 [] bN aH tR cM)) q9)))
 (rV (sT (rW sr (rR (c1 xX (cL (sL 1 [] iA aH tR (rW AV bX)))) (a1 (cS "a name is no name")))))
 (sT (rW sr (rR (rW tY fi) (a1 (cS "two things or marks have one name")))))))
def yx:=fnD 2 3 yw
def Ce:FS:=(uC (uR (cL (sL 1 [] bN aH (cT (t8 vU "has_mark" af sS)) cM)) q9))
def xf:=fnN 2 2 Ce
abbrev l7:=(t8 xM "can_hold" af sS)
abbrev gb:=(c1 hX ah)
abbrev jU:=(c1 hJ ah)
abbrev qP:=(cL (sL 1 [] bN aH (cT (c2 av dB dc)) cM))
abbrev qQ:=(cL (sL 1 [] bN aH (cT l7) cM))
def BE:FS:=(rV (sIf (cT (c2 av jU dc)) (sH (c2 Gh gb bE)) sF)
 (rV (sIf (cT (c2 av jU dv)) (sH (rW tM (rR gb (a1 qP)))) sF)
 (sH (rW tM (rR gb (a1 qQ))))))
def BF:=fnD 2 2 BE
abbrev fQ:=(sH (cC (.bl true)))
abbrev jE:=(sIf (cT mZ) fQ sF)
abbrev jI:=(sM 2 (c2 uK af aw))
abbrev iy:=(c2 uK af ah)
abbrev dD:=(gN 3)
def zO:FS:=(rV (sM 2 iy)
 (rV (vB (iR1 de) dD (rV jE
 jI))
 (sH mZ)))
def wN:=fnD 2 4 zO
abbrev eh:=(gN 2)
abbrev mN:=(c1 cI aw)
abbrev j2:=(rR ah bX)
def xR:FS:=(rV (sT (rW sr (rR (c1 xX (cL (sL 1 [0] bN aH tR (rW BF j2)))) (a1 (cS "a start is none")))))
 (rV (BY 1)
 (rV (vB bN eh (tN 1 mN (c1 hX aw)))
 (sT (rW sr (rR (c1 xX (cL (sL 1 [1] (iD (cFz 1)) aH tR (rW wN j2)))) (a1 (cS "a thing starts within itself"))))))))
def xS:=fnD 1 3 xR
abbrev qB:=(wY (cT (c1 (Aa (wa "tuple")) af)))
def As:FS:=(rV (sIf (wK qB (wY (cT (vF yq yq aR de (cC zp))))) c9 sF)
 (sH (tV (c1 xX (cL (sL 1 [] (iT af) aH tR (rW vK bX)))) (rW tY bX))))
def Au:=fnD 1 1 As
def Ho:FS:=(sH (c1 xX (cL (sL 1 [0] (iT ah) aH tR iw))))
def AX:=fnD 2 2 Ho
abbrev jw:=(uX De "words")
abbrev eA:=(dEq true)
abbrev mO:=(c1 jw af)
def wQ:FS:=(rV (sM 2 (cL (sL 1 [1] bN aH (cT (c2 eA cM (c1 cI ah))) af)))
 (sH (CL (c1 Ej (cL (sL 1 [1] iA aH tR (rW AX (rR mO (a1 (c1 jw ah))))))))))
def wU:=fnD 2 3 wQ
def ux:FS:=(rV (sT (rW sr (rR (c1 xX (cL (sL 1 [] bN aH tR (rW Au (a1 mO))))) (a1 (cS "a thing has 1 to 4 unlike words, as a tuple")))))
 (rV (sM 1 mS)
 (sT (rW sr (rR (c1 xX (cL (sL 1 [1] gd aH tR (rW wU j2)))) (a1 (cS "one thing has all words of another")))))))
def uy:=fnD 1 2 ux
abbrev cW:=(rR af (a1 ah))
def zt:FS:=(rV (sM 2 (tV jT (tV (c1 xX (cL (sL 1 [1] bN aH tR (rW tM cW)))) (rW tY bX))))
 (sT (rW sr (rR aw (a1 (cS "dark is a list of rooms' names, each once"))))))
def zu:=fnD 2 3 zt
abbrev bM:=(cC (.int 2))
abbrev eV:=(cC (.int 4))
abbrev dw:=(cC (.int 3))
abbrev cK:=(a1 ah)
abbrev l4:=(c2 dIx af aR)
abbrev f7:=(c2 dIx af bH)
abbrev fo:=(a1 l4)
def FH:FS:=(rV (sIf (wK qB (cT (c2 eA de eV))) c9 sF)
 (rV (sM 3 (cOr (c2 Gh (c2 dIx af dw) bE) (rW tM (rR (c2 dIx af dw) fi))))
 (sH (tV (rW tM (rR f7 cK)) (tV (rW vK fo) (tV (rW tM (rR (c2 dIx af bM) cK)) ay))))))
def FI:=fnD 3 4 FH
abbrev fW:=(rR ah (a1 aw))
abbrev gj:=(rR af fW)
def zv:FS:=(rV (sM 3 (tV (rW ui (rR af (a1 (cC DH)))) (c1 xX (cL (sL 1 [1,2] bN aH tR (rW FI gj))))))
 (rV (sT (rW sr (rR ay (a1 (cS "ways are a list of at most 10 tuples (room, word, room, mark)")))))
 (sT (rW sr (rR (rW tY (a1 (cL (sL 1 [] bN aH tR (tH (rR f7 fo)))))) (a1 (cS "two ways lead from one room by one word")))))))
def xg:=fnD 3 4 zv
def Bk:FS:=(rV (sM 1 (tV (rW ui (rR af (a1 (cC B8)))) (c1 xX (cL (sL 1 [] bN aH tR E9)))))
 (sT (rW sr (rR ah (a1 (cS "verbs are a list of at most 6 verbs"))))))
def yy:=fnD 1 2 Bk
abbrev qY:=(cL (sL 1 [1] bN aH tR iw))
def DT:FS:=(sH (CL (c1 Ej qY)))
def wF:=fnD 2 2 DT
abbrev eU:=(sV sS)
abbrev bj:=(cV 6)
abbrev cx:=(cV 7)
abbrev mw:=(G1 3 (c1 jw aD))
abbrev jV:=(vz 3 eU)
abbrev qF:=(c1 (uX DG "joining") af)
def vJ:FS:=(rV jV
 (rV (vB (iL mS) (gN 4) (sT mw))
 (rV (vz 5 eU)
 (rV (vB iA (gN 6) (sT (G1 5 (DA (tH (a1 (c1 cI bj))) (c1 (uX BB "others") bj)))))
 (rV (sM 7 (cL (uR (cL (sL 1 [] iA aH (cT (c2 Dx qF bE)) qF)) (cL (sL 1 [] gd aH tR l4)))))
 (rV (sT (rW sr (rR (rW tY (a1 (cFz 5))) (a1 (cS "two verbs' names are alike")))))
 (rV (sT (rW sr (rR (rW wF (rR (cL (uR (cFz 5) cx)) (a1 (cFz 3)))) (a1 (cS "a verb's, way's or joining word is a word of a thing")))))
 (rV (sT (rW sr (rR (rW wF (rR (cL (uR (cFz 5) cx)) (a1 (cC xI)))) (a1 (cS "the, a, undo or restart is a word of the world")))))
 (sT (rW sr (rR (rW wF (rR cx (a1 (cFz 5)))) (a1 (cS "a way's or joining word is a verb's name")))))))))))))
def uH:=fnD 3 8 vJ
abbrev gh:=(a1 aD)
def yz:FS:=(rV (sT (rW xQ bX))
 (rV (sT (rW yu cK))
 (rV (sT (rW yx cW))
 (rV (sT (rW xS bX))
 (rV (sT (rW uy bX))
 (rV (sM 6 qP)
 (rV (sT (rW zu (rR aw (a1 bj))))
 (rV (sT (rW xg (rR ay (rR bj (a1 (cL (sX xf cW)))))))
 (rV (sT (rW yy gh))
 (sT (rW uH (rR af (rR ay (a1 (cL (uR aD aO))))))))))))))))
def yA:=fnD 6 7 yz
def Qw:FS:=(sH (sU 13 (λds=>Ar (ds++[])) (rR af (rR ah (rR aw (rR ay (a1 (cC (.bl false)))))))))
def yB:=fnD 4 4 Qw
abbrev bQ:=(cL (sV sS))
def Hr:FS:=(sH (sU 13 (λds=>Ar (ds++[])) (rR af (rR ah (rR bQ (rR aw (a1 (cC (.bl true)))))))))
def tK:=fnD 3 3 Hr
abbrev bW:=(cS "it")
abbrev fU:=(cS "here")
abbrev ie:=(cS "fixed")
abbrev il:=(cS "take")
def Cf:FS:=(uC (sV (rR (rW tK (rR il (rR (cL (sV (a1 (sU 7 (λds=>uD (ds++[])) (rR bW (a1 ie)))))) (a1 (cS "That stays."))))) (rR (rW tK (rR il (rR (cL (sV (a1 (sU 3 (λds=>AW (ds++[])) (rR bW bX))))) (a1 (cS "You have that."))))) (rR (rW yB (rR il (rR bQ (rR (cL (sV (a1 (sU 11 (λds=>wC (ds++[])) (rR bW bX))))) (a1 (cS "Taken.")))))) (rR (rW yB (rR (cS "drop") (rR (cL (sV (a1 (sU 4 (λds=>zq (ds++[])) (a1 bW))))) (rR (cL (sV (a1 (sU 11 (λds=>wC (ds++[])) (rR bW (a1 fU)))))) (a1 (cS "Dropped.")))))) (a1 (rW tK (rR (cS "drop") (rR bQ (a1 (cS "You lack that."))))))))))))
def Cg:=fnN 1 1 Cf
abbrev fR:=(cS "other")
abbrev cJ:=(cS "box")
abbrev fV:=(cS "put")
def DU:FS:=(uC (sV (rR (rW tK (rR fV (rR (cL (sV (a1 (sU 9 (λds=>uG (ds++[])) (a1 (sU 4 (λds=>zq (ds++[])) (a1 bW))))))) (a1 (cS "You lack that."))))) (rR (rW tK (rR fV (rR (cL (sV (a1 (sU 9 (λds=>uG (ds++[])) (a1 (sU 7 (λds=>uD (ds++[])) (rR fR (a1 cJ)))))))) (a1 (cS "It holds nothing."))))) (rR (rW tK (rR fV (rR (cL (sV (a1 (sU 6 (λds=>ua (ds++[])) (rR fR (a1 bH)))))) (a1 (cS "It is shut."))))) (a1 (rW yB (rR fV (rR bQ (rR (cL (sV (a1 (sU 11 (λds=>wC (ds++[])) (rR bW (a1 fR)))))) (a1 (cS "Done."))))))))))))
def DV:=fnN 0 0 DU
abbrev jL:=(rR bW (a1 aR))
abbrev jM:=(rR bW (a1 bH))
def DW:FS:=(uC (sV (rR (rW tK (rR (cS "open") (rR (cL (sV (a1 (sU 9 (λds=>uG (ds++[])) (a1 (sU 7 (λds=>uD (ds++[])) (rR bW (a1 cJ)))))))) (a1 (cS "It has no lid."))))) (rR (rW tK (rR (cS "open") (rR (cL (sV (a1 (sU 6 (λds=>ua (ds++[])) jL)))) (a1 (cS "It is open."))))) (rR (rW yB (rR (cS "open") (rR bQ (rR (cL (sV (a1 (sU 12 (λds=>xK (ds++[])) jL)))) (a1 (cS "Opened.")))))) (rR (rW tK (rR (cS "shut") (rR (cL (sV (a1 (sU 9 (λds=>uG (ds++[])) (a1 (sU 7 (λds=>uD (ds++[])) (rR bW (a1 cJ)))))))) (a1 (cS "It has no lid."))))) (rR (rW tK (rR (cS "shut") (rR (cL (sV (a1 (sU 6 (λds=>ua (ds++[])) jM)))) (a1 (cS "It is shut."))))) (a1 (rW yB (rR (cS "shut") (rR bQ (rR (cL (sV (a1 (sU 12 (λds=>xK (ds++[])) jM)))) (a1 (cS "Shut."))))))))))))))
def DX:=fnN 0 0 DW
abbrev fS:=(a1 (cS "lamp"))
def Bl:FS:=(uC (sV (rR (rW tK (rR (cS "light") (rR (cL (sV (a1 (sU 9 (λds=>uG (ds++[])) (a1 (sU 7 (λds=>uD (ds++[])) (rR bW fS))))))) (a1 (cS "It burns not."))))) (rR (rW tK (rR (cS "light") (rR (cL (sV (a1 (sU 6 (λds=>ua (ds++[])) jL)))) (a1 (cS "It is lit."))))) (rR (rW yB (rR (cS "light") (rR bQ (rR (cL (sV (a1 (sU 12 (λds=>xK (ds++[])) jL)))) (a1 (cS "Lit.")))))) (rR (rW tK (rR (cS "douse") (rR (cL (sV (a1 (sU 9 (λds=>uG (ds++[])) (a1 (sU 7 (λds=>uD (ds++[])) (rR bW fS))))))) (a1 (cS "It burns not."))))) (rR (rW tK (rR (cS "douse") (rR (cL (sV (a1 (sU 6 (λds=>ua (ds++[])) jM)))) (a1 (cS "It is out."))))) (a1 (rW yB (rR (cS "douse") (rR bQ (rR (cL (sV (a1 (sU 12 (λds=>xK (ds++[])) jM)))) (a1 (cS "Doused."))))))))))))))
def Bm:=fnN 0 0 Bl
abbrev iu:=(c2 dIx ah aR)
abbrev f9:=(c2 dIx ah bH)
def DY:FS:=(rV (vz 2 (sV (rR (sU 3 (λds=>AW (ds++[])) (rR af (a1 f9))) (a1 (sU 8 (λds=>Aq (ds++[])) (a1 iu))))))
 (rV (sIf (cT (c2 Dx (c2 dIx ah dw) bE)) (sT (yK 2 (sU 9 (λds=>uG (ds++[])) (a1 (sU 6 (λds=>ua (ds++[])) (rR (c2 dIx ah dw) (a1 bH))))))) sF)
 (uC (KY 2))))
def DZ:=fnN 2 3 DY
abbrev l8:=(a1 (c2 dIx af bM))
def FJ:FS:=(rV (sM 2 (cL (sL 1 [0] gd aH tR (rW yB (rR (cS "go") (rR (cL (sX DZ j2)) (rR (cL (sV (a1 (sU 11 (λds=>wC (ds++[])) (rR ah l8))))) (a1 (cS "You go.")))))))))
 (uC (uR aw (cL (sV (a1 (rW tK (rR (cS "go") (rR bQ (a1 (cS "No way there.")))))))))))
def FK:=fnN 2 3 FJ
abbrev jB:=(cS "wait")
def Ci:FS:=(uC (sV (a1 (rW yB (rR jB (rR bQ (rR bQ (a1 (cS "Time goes by.")))))))))
def Cj:=fnN 0 0 Ci
def Av:FS:=(uC (uR (cL (uR (cL (uR (cL (uR (cL (uR (cL (sX Cg bX)) (cL (sX DV sS)))) (cL (sX DX sS)))) (cL (sX Bm sS)))) (cL (sX FK cW)))) (cL (sX Cj sS))))
def u0:=fnN 2 2 Av
abbrev lU:=(cS "two")
abbrev ip:=(cS "way")
def Aw:FS:=(uC (uR (cL (sL 1 [] (iT (tH (rR il (rR (cS "drop") (rR (cS "open") (rR (cS "shut") (rR (cS "light") (a1 (cS "douse"))))))))) aH tR (sU 2 (λds=>uZ (ds++[D.non,(D.str "one"),D.non])) bX))) (cL (sV (rR (sU 2 (λds=>uZ (ds++[])) (rR fV (rR ik (rR lU (a1 (cS "in")))))) (rR (sU 2 (λds=>uZ (ds++[D.non])) (rR (cS "go") (rR ik (a1 ip)))) (a1 (sU 2 (λds=>uZ (ds++[D.non])) (rR jB (rR ik (a1 (cS "alone"))))))))))))
def u6:=fnN 0 0 Aw
def Di:FS:=(rV (BY 1)
 (rV (vB bN eh (tN 1 mN aw))
 (sH (cFz 1))))
def Dk:=fnD 1 3 Di
abbrev qW:=(t8 vU "has_mark" ay sS)
abbrev m9:=(c1 cI ay)
abbrev qk:=(sIf (cT qW) (tN 2 m9 aR) sF)
def wV:FS:=(rV (BY 2)
 (rV (vB bN dD qk)
 (rV (vB gd (gN 4) (tN 2 (c1 cI aD) (c1 lV aD)))
 (sH (cFz 2)))))
def uL:=fnD 2 5 wV
def zP:FS:=(rV (BY 1)
 (rV (vB bN eh (vB (iT (DA (tH (a1 mN)) (c1 (uX BB "others") aw))) dD (tN 1 ay aw)))
 (sH (cFz 1))))
def uM:=fnD 1 4 zP
def Ht:FS:=(Ld (uX J6 "verb"))
def yU:=fnD 1 3 Ht
def zQ:FS:=(uC (sL 1 [1] (iL (c1 (uX zL "kept_things") af)) aH (cT (c2 av dB ah)) cM))
def wW:=fnD 2 2 zQ
def uN:Nat->Option (List D->Option D):=λc=>match c with
 |14=>some wW
 |_=>none
def yi:FS:=(uC (uR (c1 (uX Al "kept_verbs") af) (c1 (uX yP "shared_verbs") af)))
def vV:=fnD 1 1 yi
def wX:Nat->Option (List D->Option D):=λc=>match c with
 |14=>some vV
 |_=>none
abbrev rL:=(uX Bf "your_name")
abbrev rN:=(uX yN "copied_rules")
abbrev rO:=(uX yO "shared_rules")
abbrev pZ:=(cL (sX u6 sS))
abbrev qA:=(cL (uR (c1 rN af) (c1 rO af)))
abbrev qC:=(t8 wX "all_verbs" af sS)
abbrev mP:=(c1 rL af)
def vW:FS:=(rV (sT (rW yA (rR ah (rR aw (rR ay (rR aD (rR aO (a1 pZ))))))))
 (rV (sY 14 0 "kept_things" (cL (Ab ah)))
 (rV (sY 14 0 "kept_marks" (cL (Ab aw)))
 (rV (sY 14 0 "kept_dark" (cL (Ab ay)))
 (rV (sY 14 0 "kept_ways" (cL (Ab aD)))
 (rV (sY 14 0 "kept_verbs" (cL (Ab aO)))
 (rV (sY 14 0 "shared_verbs" pZ)
 (rV (sY 14 0 "your_name" (ye 16 (c2 dIx (t8 uN "of_kind" af (a1 dv)) bH)))
 (rV (sY 14 0 "things_by_name" (rW Dk cK))
 (rV (sY 14 0 "mosts_by_name" (rW uL fW))
 (rV (sY 14 0 "verbs_by_word" (ye 16 (rW uM (a1 qC))))
 (rV (sM 7 (ye 16 (tV (rW ui (rR bj (a1 (cC B9)))) (c1 xX (cL (sL 1 [0] (iL bj) aH tR E9))))))
 (rV (sT (rW sr (rR cx (a1 (cS "rules are a list of at most 20 rules, each as it may be")))))
 (rV (sY 14 0 "kept_rules" (cL (Ab bj)))
 (rV (sY 14 0 "shared_rules" (ye 16 (cL (sX u0 (rR mP gh)))))
 (rV (sY 14 0 "copied_rules" (cL (sL 1 [] (iL bj) aH tR E9)))
 (sY 14 0 "rules_by_verb" (ye 16 (rW yU (a1 qA))))))))))))))))))))
def vX:=fnI 14 6 8 vW
def D1:FS:=(sH mP)
def D2:=fnD 1 1 D1
def Dl:Nat->Option (List D->Option D):=λc=>match c with
 |14=>some D2
 |_=>none
def yV:FS:=(sH (c2 GY (c1 (uX xH "things_by_name") af) ah))
def yW:=fnD 2 2 yV
def u7:Nat->Option (List D->Option D):=λc=>match c with
 |14=>some yW
 |_=>none
def zR:FS:=(sH (c2 ck ah (c1 (uX Be "kept_dark") af)))
def zS:=fnD 2 2 zR
def wm:Nat->Option (List D->Option D):=λc=>match c with
 |14=>some zS
 |_=>none
abbrev m5:=(c2 dIx aw aR)
abbrev rf:=(c2 av (c2 dIx aw bH) ah)
abbrev l6:=(sIf (cT rf) (sH m5) sF)
def FL:FS:=(rV (vB (iT af) eh l6)
 (sH bE))
def xT:=fnD 2 3 FL
def Mx:FS:=(sH (rW xT (rR af (a1 (tH (rR (cS "at") cK))))))
def vq:=fnD 2 2 Mx
def Hu:FS:=(sH (rW xT (rR af (a1 (tH (rR (cS "mark") cK))))))
def vL:=fnD 2 2 Hu
abbrev f6:=(c2 Dx aD bE)
abbrev mG:=(sT (yK 3 aD))
def Ck:FS:=(rV jV
 (rV (sM 4 (rW vq fW))
 (rV (whL (cT f6) (rV mG
 (sM 4 (rW vq (rR ah gh)))) 50)
 (uC (KY 3)))))
def zw:=fnN 3 5 Ck
abbrev jG:=(t8 Dl "you" af sS)
def Hv:FS:=(sH (rW vq (rR ah (a1 jG))))
def yX:=fnD 2 2 Hv
abbrev qU:=(t8 u7 "thing_of" af fi)
def Hw:FS:=(sH (tV (c2 av (c1 hJ qU) cJ) (c2 av (rW vL fW) bH)))
def xu:=fnD 3 3 Hw
abbrev jC:=(sIf (cT (c2 av aD ay)) fQ sF)
abbrev rq:=(cL (sX zw gj))
def Hy:FS:=(rV (vB (iL rq) (gN 4) (rV jC
 (sIf (cT (rW xu (rR af (rR ah gh)))) c9 sF)))
 c9)
def vM:=fnD 4 5 Hy
def UE:FS:=(sH (c2 ck jG rq))
def UF:=fnD 3 3 UE
abbrev jF:=(rR ah (rR aw (a1 ay)))
def FM:FS:=(sH (tV (c2 av (rW vL fW) aR) (rW vM (rR af jF))))
def zx:=fnD 4 4 FM
abbrev mX:=(rW yX cW)
def J8:FS:=(rV (sM 2 mX)
 (rV (sIf (wY (cT (t8 wm "is_dark" af fi))) fQ sF)
 (sH (c1 Ej (cL (sL 1 [0,1,2] (iL (t8 uN "of_kind" af fS)) aH tR (rW zx (rR ah (rR aw (rR af iz))))))))))
def Cn:=fnD 2 3 J8
abbrev qr:=(wY (cT (t8 vp "is_plainly" ay sS)))
def Hz:FS:=(rV (sM 3 qU)
 (rV (sIf (wK (cT (c2 Gh ay bE)) qr) c9 sF)
 (rV (sIf (cT (rW vM (rR af (rR ah (rR aw (a1 jG)))))) fQ sF)
 (sH (tV (rW vM (rR af (rR ah (rR aw (a1 mX))))) (rW Cn cW))))))
def Dm:=fnD 3 4 Hz
def zT:FS:=(sH (c2 GY (c1 (uX yf "verbs_by_word") af) ah))
def Ek:=fnD 2 2 zT
def yC:Nat->Option (List D->Option D):=λc=>match c with
 |14=>some Ek
 |_=>none
def D3:FS:=(rV (sM 2 (cIf (cT (c2 Gh ah bE)) bE (t8 yC "verb_of" af (a1 f9))))
 (sH (tV (c2 Dx aw bE) (c2 av (c1 (uX J4 "form") aw) ip))))
def Ax:=fnD 2 3 D3
abbrev fj:=(a1 bE)
def D4:FS:=(rV (sIf (wK (cT (c2 Gh ah bE)) (cT (rW Ax cW))) (sH (tH (rR bE fj))) sF)
 (sH (tH (rR iu (a1 (c2 dIx ah bM))))))
def vO:=fnD 2 2 D4
abbrev rg:=(rW vO (rR af fi))
def AY:FS:=(rV (sIf (cT (c2 av ay fU)) (sH mX) sF)
 (rV (sIf (cT (c2 av ay bW)) (sH (c2 dIx rg bH)) sF)
 (rV (sIf (cT (c2 av ay fR)) (sH (c2 dIx rg aR)) sF)
 (sH ay))))
def yj:=fnD 4 4 AY
abbrev rH:=(uX J5 "term")
abbrev lY:=(rW yj (rR ah (rR aw (rR ay (a1 (c1 rH af))))))
abbrev qe:=(c2 av aO (rW yj (rR ah (rR aw (rR ay (a1 (c1 (uX Hh "place") af)))))))
def BG:FS:=(rV (sM 4 lY)
 (rV (sM 5 (rW vq (rR aw gh)))
 (sH (tV (c2 Dx aO bE) qe))))
def zy:=fnD 4 6 BG
abbrev mT:=(rR aw (a1 lY))
def D5:FS:=(sH (rW UF (rR ah mT)))
def D6:=fnD 4 4 D5
def Cp:FS:=(sH (rW Dm (rR ah mT)))
def Cq:=fnD 4 4 Cp
abbrev qw:=(c2 av aD (c1 (uX Hk "value") af))
def xU:FS:=(rV (sM 4 (rW vL mT))
 (sH (tV f6 qw)))
def vY:=fnD 4 5 xU
def zz:FS:=(rV (sM 4 (t8 u7 "thing_of" ah (a1 lY)))
 (sH (tV f6 (c2 av (c1 hJ aD) dB))))
def Cr:=fnD 4 5 zz
def Cs:FS:=(sH (tV (rW Ax (rR ah iz)) (c2 av (c2 dIx ay aR) (c1 (uX J7 "word") af))))
def Ct:=fnD 4 4 Cs
def D7:FS:=(sH (rW Cn fW))
def D8:=fnD 4 4 D7
def yk(g:Nat->Option (List D->Option D)):FS:=(sH (CL (t8 g "holds" (c1 (uX Hf "inner") af) jF)))
def xh(g:Nat->Option (List D->Option D)):FS:=(sH (tV (t8 g "holds" (c1 (uX Mv "one") af) jF) (t8 g "holds" (c1 (uX Hg "other") af) jF)))
def zA:Nat->Option (List D->Option D):=λc=>match c with
 |3=>some zy
 |4=>some D6
 |5=>some Cq
 |6=>some vY
 |7=>some Cr
 |8=>some Ct
 |15=>some D8
 |_=>none
def tf:Nat->Nat->Option (List D->Option D)
 |0=>zA
 |n+1=>λc=>match c with
  |9=>some (fnD 4 4 (yk (tf n)))
  |10=>some (fnD 4 4 (xh (tf n)))
  |c=>zA c
def Ay:FS:=(rV (sIf (cT (c2 Gg ah de)) (sH (c2 dIx af ah)) sF)
 (sH bH))
def vZ:=fnD 2 2 Ay
abbrev jx:=(cC (.int 2147483647))
abbrev dY:=(cC (.int 6))
abbrev hZ:=(cC (.int 10))
abbrev pW:=(cC (.int 48271))
abbrev dA:=(gN 5)
abbrev p6:=(rV (sM 4 (c2 xF (c2 Ba (c2 uu (c2 uu aD (c2 Ba (cC (.int 7919)) aO)) aR) pW) jx)) (rV (sM 6 (c2 xF (c2 Ba aD (c2 uu (c2 E4 aD (cC (.int 1009))) (cC (.int 69621)))) jx)) (sT (yK 2 (c2 xF (c2 Ba bj (c2 uu (c2 E4 bj (cC (.int 2003))) (cC (.int 40692)))) (cC (.int 2147483399)))))))
abbrev qf:=(rV (sT (yK 2 (c2 xF ay (c2 GU hZ dY)))) (sM 3 (c2 E4 ay (c2 GU hZ dY))))
abbrev jJ:=(c2 Gg (c1 xW aw) ah)
abbrev qm:=(sM 4 (c2 xF (c2 Ba (c2 uu (c2 xF af jx) aR) pW) jx))
abbrev mH:=(c2 Pg ay bH)
abbrev qH:=(uC (xY (cFz 2) oNo (oAt ah)))
def Cu:FS:=(rV (vz 2 eU)
 (rV (sM 3 bH)
 (rV (sIf (cT (c2 VT af (c2 GU hZ (cC (.int 18))))) (sM 3 (c2 Jy af (c2 GU hZ (cC (.int 18))))) sF)
 (rV (whL (Bb (vw (cT mH) (cT jJ))) qf 200)
 (rV qm
 (rV (vB (iR1 ah) dA p6)
 qH))))))
def xi:=fnN 2 7 Cu
def D9:FS:=(rV (sIf (Bb (cT (c2 av af bQ))) (sH bH) sF)
 (sH (c2 xF (L8 0) ah)))
def rX:=fnM 1 2 D9
abbrev jy:=(cC (.int 7))
abbrev pS:=(cC (.int 8))
abbrev pY:=(cC (.int 25))
abbrev l9:=(c2 xF (c2 uu ay (c2 Ba jy af)) pY)
abbrev jK:=(tI rX 2 (a1 pS))
def zB:FS:=(rV (sM 1 (tI rX 0 (a1 pY)))
 (rV (sM 2 (cS "bcdefghijklmnopqrstuvwxyz"))
 (uC (sL 1 [2,0,1] (iR1 (cC (.int 17))) aH tR (c2 JE (c2 dIx ah l9) (c2 uu aR jK))))))
def zC:=fnM 0 3 zB
abbrev eX:=(cC (.int 5))
abbrev ig:=(cS "plain")
abbrev fX:=(c1 xW aD)
abbrev mh:=(sT (yK 4 aO))
abbrev qR:=(Ih 4 (tI rX 2 (a1 (BW fX))))
def wo:FS:=(rV jV
 (rV (vz 4 (uR ah (cL (sV (a1 (c2 dIx af eX))))))
 (rV (vB (iL (cL (xY af (oAt dY) (oAt (c2 uu dY jK))))) dA (rV (sM 6 (c2 dIx (cL (sV (rR ig (rR cJ (rR (cS "lamp") (rR ie (rR cJ (rR (cS "lamp") (rR cJ (a1 ig)))))))))) jK))
 (rV (sT (yK 3 (tH (rR aO (rR bj (a1 qR))))))
 (sIf (cT (c2 av bj cJ)) mh sF))))
 (uC (KY 3)))))
def uO:=fnL 2 7 wo
abbrev fP:=(vE (gN 0) (vE (gN 1) (vE (gN 2) EW)))
abbrev fT:=(cV 9)
abbrev ir:=(c1 xW ay)
abbrev fm:=(gT fP 3)
abbrev mq:=(c2 uu (c1 xW aO) aR)
abbrev gf:=(oAt cx)
def AA:FS:=(rV (vz 1 (sX xi (rR af (a1 (cC (.int 110))))))
 (rV (sM 2 (tI zC 1 sS))
 (rV (sM 3 (cL (xY aw oNo (oAt (c2 uu aR (tI rX 1 (a1 eX)))))))
 (rV (sM 4 (cL (uR (cL (sL 1 [] (iL ay) aH tR (tH (rR af (rR dc fj))))) (cL (sV (a1 (tH (rR (c2 dIx aw eX) (rR dv (a1 (c2 dIx ay (tI rX 1 (a1 ir)))))))))))))
 (rV (sM 5 bQ)
 (rV (vB (iL (cL (uR aD (uq uO 1 (rR aw iz))))) (gN 6) (rV (sM 7 (tI rX 1 (a1 mq)))
 (sM 5 (cL (uR (cL (uR (cL (xY aO oNo gf)) (cL (sV (a1 bj))))) (cL (xY aO gf oNo)))))))
 (rV (vz 8 eU)
 (rV (vB (iL (cL (xY aw (oAt (cC (.int 13))) (oAt (c2 uu (cC (.int 13)) (tI rX 1 (a1 eX))))))) (gN 9) (rV (sM 10 (c2 uu aR (tI rX 1 (a1 dw))))
 (sT (yK 8 (tH (rR fT (rR (tI rX 1 (a1 (c2 uu (cV 10) aR))) (a1 (cV 10)))))))))
 (rV (sM 11 (cL (sL 1 [1] (iL ay) aH (cT (c2 av (tI rX 1 (a1 bM)) aR)) af)))
 (rV (sM 12 (cL (sV (rR ik (rR (tH (a1 (cS "red"))) (a1 (tH (rR (cS "old") (a1 (cS "red"))))))))))
 (rV (sM 13 (cL (sL 3 [12,1] (iL aO) fm tR (DA (tH bX) (c2 dIx ay (tI rX 4 (a1 dw)))))))
 (sH (zK [("rows", aO),("marks", (cFz 8)),("dark", (cV 11)),("words", (cV 13)),("you", (c2 dIx aw eX))])))))))))))))
def AB:=fnD 1 14 AA
abbrev rJ:=(cS "rows")
abbrev iq:=(c2 uK af rJ)
abbrev iC:=(iL iq)
def AC:FS:=(rV (sM 1 (cL (sL 3 [] iC fm (cT (c2 av ah dc)) af)))
 (uC (sV (rR (tH (rR f9 (rR (cS "north") (rR (c2 dIx ah (c2 Jy (c1 xW ah) aR)) fj)))) (a1 (tH (rR f9 (rR (cS "up") (rR f9 fj)))))))))
def AD:=fnN 1 2 AC
abbrev rG:=(vE (gN 1) EW)
abbrev fZ:=(gT (vE aH rG) 2)
abbrev qJ:=(iL (c2 uK af (cS "marks")))
abbrev j3:=(rR l4 l8)
def zD:FS:=(rV (sM 1 (cL (sL 2 [] (iZ (rR iq (a1 (c2 uK af (cS "words"))))) fZ tR (sU 0 (λds=>Cb (ds++[])) (rR f7 (rR ah j3))))))
 (rV (sM 2 (cL (sL 3 [] qJ fm tR (sU 1 (λds=>DK (ds++[])) gj))))
 (sH (sU 14 (λds=>vX (ds++[])) (rR ah (rR aw (rR (cL (Ab (c2 uK af (cS "dark")))) (rR (cL (sX AD bX)) (rR bQ (a1 bQ))))))))))
def zE:=fnD 1 3 zD
def HA:FS:=(uC (sL 3 [1] iC fm (cT (c2 ck ah ay)) af))
def tS:=fnN 2 2 HA
abbrev jv:=(vE dD (vE (gN 4) EW))
abbrev mJ:=(vE eh jv)
abbrev m8:=(rR cJ fS)
def zF:FS:=(rV (BY 1)
 (rV (vB (iL (cL (sX tS (rR af (a1 (cL (sV m8))))))) eh (tN 1 aw aR))
 (rV (vB qJ (gT mJ 3) (tN 1 aw aD))
 (sH (cFz 1)))))
def xj:=fnD 1 5 zF
abbrev jD:=(c2 uK af dv)
abbrev jS:=(sT (yK 3 aO))
abbrev qt:=(sX tS (rR af (a1 (cL (sV (a1 cJ))))))
abbrev qS:=(Ih 3 (tI rX 1 (a1 (BW ir))))
def wu:FS:=(rV (BY 2)
 (rV (vz 3 (sX tS (rR af (a1 (cL (sV (rR dc (a1 dv))))))))
 (rV (vz 4 qt)
 (rV (whL (Bb (cT (c2 eA aD bQ))) (rV (sM 5 (Bw 4 (tI rX 1 (a1 (BW fX)))))
 (rV (tN 2 aO qS)
 jS)) 50)
 (rV (vB (iL (cL (sX tS (rR af (a1 (cL (sV (rR ig (rR ie fS))))))))) (gN 6) (tN 2 bj qS))
 (rV (sM 7 (cL (sX tS (rR af (a1 (cL (sV (a1 dc))))))))
 (rV (tN 2 jD (c2 dIx cx (tI rX 1 (a1 (c1 xW cx)))))
 (sH (cFz 2)))))))))
def uP:=fnL 1 8 wu
abbrev ng:=(rW xj bX)
def xk:FS:=(rV (BY 2)
 (rV (vB (iIt ng) (gT jv 2) (tN 2 ay (tI rX 1 (a1 (c2 uu aD aR)))))
 (sH (cFz 2))))
def vt:=fnL 1 5 xk
def Cv:FS:=(rV (sM 2 (cL (sL 2 [] (iIt af) fZ tR (tH (rR (tH (rR (cS "at") bX)) cK)))))
 (sH (GX (cL (Fk (cL (uR aw (cL (sL 2 [] (iIt ah) fZ tR (tH (rR (tH (rR (cS "mark") bX)) cK)))))))))))
def zG:=fnD 2 3 Cv
abbrev ib:=(JF false)
abbrev jN:=(c2 ib ah af)
abbrev mI:=(sT (yK 2 ah))
def AE:FS:=(rV (vz 2 eU)
 (rV (whL (cT jN) (rV (sM 1 iy)
 mI) 50)
 (uC (KY 2))))
def u9:=fnN 2 3 AE
abbrev jH:=(c2 AU aO aD)
abbrev jR:=(c2 uK ah af)
abbrev rh:=(iL (cL (xY aO oNo (oAt jH))))
def AF:FS:=(rV (sM 5 (cL (sX u9 (rR ah iz))))
 (rV (sIf (cT (c2 eZ aD aO)) c9 sF)
 (rV (sM 6 (cL (sL 1 [2] (iL (cL qt)) aH (cT (c2 av jR bH)) af)))
 (sH (c2 av (cL (sL 1 [6] rh aH (cT iw) af)) bQ)))))
def tD:=fnD 5 7 AF
abbrev mY:=(c2 uK ah jD)
def FN:FS:=(rV (sM 3 mY)
 (rV (sM 4 (cL (sL 1 [2] (iL (cL (sX tS (rR af (a1 (cL (sV fS))))))) aH (cT (c2 av jR aR)) af)))
 (rV (sIf (cT (c2 eZ ay (c2 uK af (cS "dark")))) fQ sF)
 (sH (c2 eA (cL (sL 1 [0,1,2,3] (iL aD) aH (cT (rW tD (rR ah (rR aw (rR ay (rR af gh)))))) af)) bQ)))))
def zH:=fnD 3 5 FN
abbrev qg:=(cL (sX tS (rR af (a1 (cL (sV (rR ig (rR ie m8))))))))
def Ea:FS:=(rV jV
 (rV (sM 4 (rW zH gj))
 (rV (vB (iL qg) dA (rV (sM 6 (tV aD (rW tD (rR af (rR ah (rR aw (rR aO (a1 mY))))))))
 (sIf (wK (cT bj) (cT (rW tD (rR af (rR ah (rR aw (rR aO (a1 jD)))))))) jS sF)))
 (uC (Da (cFz 3))))))
def AG:=fnN 3 7 Ea
abbrev jO:=(c2 av aw bQ)
abbrev qv:=(c2 dIx aw (tI rX 1 (a1 (c1 xW aw))))
abbrev mx:=(cT (c2 Pg ay eX))
def v3:FS:=(rV (sM 2 qg)
 (rV (sM 3 (tI rX 1 (a1 pS)))
 (rV (sIf (wK (cT jO) mx) (sH (c2 dIx (cL (sV (rR (tH (rR (cS "go") (rR (c2 dIx (cL (sV (rR (cS "north") (a1 (cS "up"))))) (tI rX 1 (a1 bM))) fj))) (a1 (tH (rR jB (rR bE fj))))))) (c2 xF ay bM))) sF)
 (rV (sM 4 qv)
 (rV (sIf (cT (c2 Gg ay bM)) (sH (tH (rR il (rR aD fj)))) sF)
 (sH (tH (rR fV (rR aD (a1 qv))))))))))
def v5:=fnL 1 5 v3
def Eb:FS:=(sH (c2 uK (zK [("go", ip),("wait", (cS "alone")),("take", (cS "one")),("put", lU)]) f7))
def AH:=fnD 1 1 Eb
abbrev rE:=(cL (sV (rR (cS "one") (a1 (cS "two")))))
abbrev fY:=(c2 ck ah rE)
abbrev my:=(rR fR (a1 fR))
abbrev mB:=(c2 av ah lU)
abbrev qE:=(rR bW (rR bW (a1 bW)))
abbrev jW:=(tI rX 2 (a1 ir))
abbrev qT:=(c2 dIx aD (tI rX 2 (a1 fX)))
def wG:FS:=(rV (sM 3 (cL (sL 3 [] iC fm tR af)))
 (rV (sM 4 (cL (uR (cL (cSl (cL (xY ay (oAt jW) oNo)) none (some 3))) (cL (sV (a1 fU))))))
 (rV (sIf (cT fY) (sM 4 (cL (uR aD (cL (sV qE))))) sF)
 (rV (sIf (cT mB) (sM 4 (cL (uR aD (cL (sV my))))) sF)
 (sH qT)))))
def wH:=fnL 2 5 wG
def xl:FS:=(rV (sM 3 (cL (sX tS (rR af (a1 (cL (sV (rR dc (rR cJ (a1 dv))))))))))
 (rV (vz 4 (sV (rR (c2 dIx ay jW) (rR (c2 dIx ay jW) (a1 fU)))))
 (rV (sIf (cT fY) (sT (yK 4 bW)) sF)
 (rV (sIf (cT mB) (vz 4 (uR (cFz 4) (cL (sV my)))) sF)
 (sH qR)))))
def xm:=fnL 2 5 xl
abbrev ju:=(cL (sV (rR (cS "it") (a1 (cS "other")))))
abbrev mE:=(c2 uK ay aO)
def wx:FS:=(rV (sM 3 ng)
 (rV (sM 4 (cL (Dc ay)))
 (rV (sIf (vw (cT fY) (wK (cT (c2 av aD bQ)) (cT (c2 av (tI rX 2 (a1 bM)) bH)))) (sH (tH (rR (c2 dIx (cL (sV (rR bW (a1 (c2 dIx ju (c1 NC mB)))))) (tI rX 2 (a1 bM))) (a1 (tI rX 2 (a1 eV)))))) sF)
 (rV (sM 5 qT)
 (sH (tH (rR aO (a1 (tI rX 2 (a1 (c2 uu mE aR)))))))))))
def wy:=fnL 2 6 wx
abbrev eW:=(cS "both")
abbrev pU:=(sH (tH (a1 (cS "lit"))))
abbrev eY:=(cS "not")
abbrev ic:=(cS "marked")
abbrev rM:=(gT (vE (gN 6) (vE (gN 7) EW)) 2)
abbrev fg:=(rR af (rR ah (a1 (c2 Jy ay aR))))
abbrev mf:=(sIf (cT (c2 Gg aD jy)) pU sF)
abbrev mj:=(cL (sV (rR jy (a1 hZ))))
abbrev mr:=(c1 NC (c2 Pg ay aR))
abbrev qz:=(sH (tH (rR ic (rR bj (a1 cx)))))
abbrev mC:=(c2 av aD eV)
abbrev mD:=(c2 av aD jy)
abbrev qN:=(vw (cT (c2 Gg aD dY)) (wK (cT fY) (cT (c2 Yd ng (zK [])))))
abbrev jX:=(uq wH 2 cW)
abbrev qZ:=(Nr (uq wy 2 cW) rM)
def tZ(g:List D->List D->Option (D×List D)):FS:=(rV (sM 4 (tI rX 2 (a1 (c2 dIx mj mr))))
 (rV (sIf (cT (c2 av aD bH)) (sH (tH (rR (cS "at") (rR jX (a1 (uq xm 2 cW)))))) sF)
 (rV (sIf (cT (c2 av aD aR)) (sH (tH (rR (cS "has") (a1 jX)))) sF)
 (rV (sIf (cT (c2 av aD bM)) (sH (tH (rR (cS "seen") (a1 jX)))) sF)
 (rV (sIf (cT (c2 av aD dw)) (rV (sM 5 (cL (sV (rR dc (rR ig (rR ie (rR cJ (rR (cS "lamp") (rR dv m8)))))))))
 (sH (tH (rR (cS "kind") (rR jX (a1 (c2 dIx aO jK))))))) sF)
 (rV (sIf (vw (cT mC) (cT (c2 av ah ip))) (sH (tH (rR (cS "word") (a1 (c2 dIx (cL (sV (rR (cS "north") (rR (cS "up") (rR (cS "down") (a1 (cS "upp"))))))) (tI rX 2 (a1 eV))))))) sF)
 (rV (sIf qN (rV qZ
 qz) sF)
 (rV mf
 (rV (sIf (cT mD) (sH (tH (rR eY (a1 (uq g 2 fg))))) sF)
 (sH (tH (rR eW (rR (uq g 2 fg) (a1 (uq g 2 fg)))))))))))))))
def sQ:Nat->List D->List D->Option (D×List D)
 |0=>fnJ 2 3 8 NK
 |n+1=>fnJ 2 3 8 (tZ (sQ n))
def va(g:List D->Option D):FS:=(rV (sM 1 f7)
 (rV (sIf (cT (c2 av ah (cS "at"))) (sH (sU 3 (λds=>AW (ds++[])) j3)) sF)
 (rV (sIf (cT (c2 av ah (cS "has"))) (sH (sU 4 (λds=>zq (ds++[])) fo)) sF)
 (rV (sIf (cT (c2 av ah (cS "seen"))) (sH (sU 5 (λds=>DM (ds++[])) fo)) sF)
 (rV (sIf (cT (c2 av ah ic)) (sH (sU 6 (λds=>ua (ds++[])) j3)) sF)
 (rV (sIf (cT (c2 av ah (cS "kind"))) (sH (sU 7 (λds=>uD (ds++[])) j3)) sF)
 (rV (sIf (cT (c2 av ah (cS "word"))) (sH (sU 8 (λds=>Aq (ds++[])) fo)) sF)
 (rV (sIf (cT (c2 av ah eY)) (sH (sU 9 (λds=>uG (ds++[])) (a1 (rW g fo)))) sF)
 (rV (sIf (cT (c2 av ah eW)) (sH (sU 10 (λds=>DQ (ds++[])) (rR (rW g fo) (a1 (rW g l8))))) sF)
 (sH (Yj 15)))))))))))
def tG:Nat->List D->Option D
 |0=>fnD 1 2 NK
 |n+1=>fnD 1 2 (va (tG n))
def Cw:FS:=(sH (GZ (zK [("it", m5),("other", (c2 dIx aw bM)),("here", mY)]) ay ay))
def xn:=fnD 4 4 Cw
abbrev qc:=(c2 av (c2 uK ah bj) (rW xn (rR af (rR ah (rR ay (a1 (c2 dIx aD bM)))))))
abbrev ma:=(c2 dIx aD bM)
abbrev m6:=(c2 dIx aD aR)
abbrev qo:=(rR af (rR ah (rR aw (rR ay (a1 m6)))))
abbrev rb:=(c2 av (c2 uK aw bj) ma)
def tT(g:List D->Option D):FS:=(rV (sM 5 (c2 dIx aD bH))
 (rV (sIf (cT (c2 av aO eY)) (sH (CL (rW g qo))) sF)
 (rV (sIf (cT (c2 av aO eW)) (sH (tV (rW g qo) (rW g (rR af (rR ah (rR aw (rR ay (a1 ma)))))))) sF)
 (rV (sIf (cT (c2 av aO (cS "lit"))) (sH (rW zH gj)) sF)
 (rV (sIf (cT (c2 av aO (cS "word"))) (sH (tV (c2 av (c2 dIx ay bH) (cS "go")) (c2 av (c2 dIx ay aR) m6))) sF)
 (rV (sM 6 (rW xn (rR af (rR ah (rR ay (a1 m6))))))
 (rV (sIf (cT (c2 av aO (cS "at"))) (sH (tV (c2 ib bj ah) qc)) sF)
 (rV (sIf (cT (c2 av aO (cS "has"))) (sH (c2 ck jD (cL (sX u9 (rR ah (a1 bj)))))) sF)
 (rV (sIf (cT (c2 av aO (cS "seen"))) (sH (c2 ck bj (cL (sX AG gj)))) sF)
 (rV (sIf (cT (c2 av aO ic)) (sH (tV (c2 ib bj aw) rb)) sF)
 (sH (c2 av (cL (sL 3 [6] iC fm (cT (c2 av af ay)) ah)) (cL (sV (a1 ma)))))))))))))))
def uz:Nat->List D->Option D
 |0=>fnD 5 7 NK
 |n+1=>fnD 5 7 (tT (uz n))
def Cy:FS:=(sH (tV qK (c2 av af ah)))
def xp:=fnD 2 2 Cy
abbrev qO:=(c2 ck af (cL (sX tS (rR ah (a1 (cL (sV (a1 dc))))))))
abbrev p8:=(rV (sIf (cT (c2 ck aO ju)) (sM 5 (c2 uK af dv)) (sIf (cT (c2 av aO fU)) (sM 5 (c2 dIx (cL (sL 1 [0] (iL ay) aH (cT qO) af)) bH)) sF)) (sT (yK 4 aO)))
abbrev mU:=(c2 ck iu ju)
def ub(g:List D->Option D):FS:=(rV (sM 2 f9)
 (rV (sIf (cT (c2 av aw eY)) (sH (tH (rR eY (a1 (rW g (rR af (a1 iu))))))) sF)
 (rV (sIf (cT (c2 av aw eW)) (sH (tH (rR eW (rR (rW g (rR af (a1 iu))) (a1 (rW g (rR af (a1 (c2 dIx ah bM))))))))) sF)
 (rV (sIf (wK (cT (c2 av aw (cS "word"))) (vw (cT (c2 av aw ic)) (cT mU))) pU sF)
 (rV (sM 3 (cL (sL 1 [] iC aH tR f7)))
 (rV (vz 4 (sV fi))
 (rV (vB (iT (Qr ah (some 1) none)) dA p8)
 (sH (GX (cFz 4))))))))))
def ur:Nat->List D->Option D
 |0=>fnD 2 6 NK
 |n+1=>fnD 2 6 (ub (ur n))
abbrev lT:=(sM 9 (tH (rR (cS "both") (rR (cV 9) (a1 (cV 9))))))
abbrev jz:=(vE (gN 7) (vE (gN 13) EW))
abbrev pV:=(iL (cL (uR (cFz 5) (cL (cSl (cFz 5) none (some 1))))))
abbrev pX:=(sM 12 (rW (tG 4) (a1 (cV 10))))
abbrev p5:=(rV (sM 14 (rW zG (rR cx (a1 (cV 13))))) (rV (sIf (wY (cT (rW xp (rR (t8 (tf 3) "holds" (cV 11) (rR aw (rR (cV 14) (a1 (cV 8))))) (a1 (rW (uz 4) (rR ah (rR cx (rR (cV 13) (rR (cV 8) (a1 fT))))))))))) c9 sF) (rV (sM 15 (rW (uz 4) (rR ah (rR cx (rR (cV 13) (rR (tH (rR jB (rR bE (a1 bE)))) (a1 (cV 10)))))))) (sIf (wY (cT (rW xp (rR (t8 (tf 3) "holds" (cV 12) (rR aw (rR (cV 14) (a1 bE)))) (a1 (cV 15)))))) c9 sF))))
abbrev qh:=(sM 9 (uq (sQ 4) 4 (rR ah (rR (rW AH (a1 (cV 8))) (a1 eV)))))
abbrev m7:=(c2 dIx fT bH)
abbrev qj:=(vw (cT (c2 eA m7 eY)) (cT (c2 eA m7 eW)))
abbrev md:=(c2 av (tI rX 4 (a1 eV)) aR)
abbrev qq:=(vz 4 (sX xi (rR ay (a1 (cC (.int 130))))))
abbrev qu:=(sM 10 (rW (ur 4) (rR ah (a1 fT))))
abbrev qD:=(sM 11 (rW (tG 4) (a1 fT)))
abbrev qM:=(rV (sM 7 (uq uP 4 cK)) (sT (yK 5 (tH (rR cx (a1 (uq vt 4 cK)))))))
abbrev rj:=(sM 8 (uq v5 4 cK))
def Qx:FS:=(rV (sM 1 (rW AB (a1 (rW vZ (rR af (a1 bH))))))
 (rV (sM 2 (rW zE cK))
 (rV (vB (iL (cL (uR (cL (sV (a1 (rW vZ (rR af (a1 aR)))))) (cL (cSl af (some 2) (some 7)))))) dD (rV qq
 (rV (vz 5 eU)
 (rV (vB (iR1 bM) (gN 6) qM)
 (rV rj
 (rV qh
 (rV qu
 (rV (sIf (vw (cT md) qj) lT sF)
 (rV qD
 (rV pX
 (vB pV (gT jz 2) p5)))))))))))
 fQ)))
def UG:=fnD 1 16 Qx
section
variable{k:Nat}{cap:List Nat}{g:FG}{ft:FT}{fe e:FE}{s:FA}{ρ ρ1 ρ2:aZ}{α:Type}
theorem uA(h:e ρ=some (.bl true,ρ1)):sT (rW sr (rR e (rR (cC m) sS))) ρ=some (.nx ρ1):=tJ (rU (rS h (rS rfl rfl)) rfl)
theorem zU(dd h:α->L4.D)(l:List α)(hs:s ρ=some (l.map dd,ρ1))(hl:l.length<=1000)(st:∀a∈l,∃ρ2 ρ3,g (dd a) (A5 k cap ρ1)=some ρ2/\fe ρ2=some (h a,ρ3)/\vA cap (ρ3.drop k) ρ1=some ρ1):
  sL k cap s g tR fe ρ=some (l.map h,ρ1):=(zg hs (by rw[ag];exact hl)).trans (IA dd h l st)
theorem v7(dd h:α->L4.D)(p:α->Bool)(l:List α)(hs:s ρ=some (l.map dd,ρ1))(hl:l.length<=1000)
  (st:∀a∈l,∃ρ2 ρ3,g (dd a) (A5 k cap ρ1)=some ρ2/\ft ρ2=some (p a,ρ3)/\(p a=true->∃ρ4,fe ρ3=some (h a,ρ4)/\vA cap (ρ4.drop k) ρ1=some ρ1)/\(p a=false->vA cap (ρ3.drop k) ρ1=some ρ1)):
  sL k cap s g ft fe ρ=some ((l.filter p).map h,ρ1):=(zg hs (by rw[ag];exact hl)).trans (Fm dd p h l st)
theorem xV(dd:α->L4.D)(l:List α)(hs:s ρ=some (l.map dd,ρ1))(hl:l.length<=1000)(st:∀a∈l,∃ρ2 ρ3,g (dd a) (A5 k cap ρ1)=some ρ2/\fe ρ2=some (.bl true,ρ3)/\vA cap (ρ3.drop k) ρ1=some ρ1):
  c1 xX (cL (sL k cap s g tR fe)) ρ=some (.bl true,ρ1):=
 tE (sZ (zU dd (λ_=>.bl true) l hs hl st)) ((Ms l λ_=>true).trans (by rw[bD.mpr λ_ _=>rfl]))
theorem Qy(dd:α->L4.D)(l:List α)(hs:s ρ=some (l.map dd,ρ1))(hl:l.length<=1000)(st:∀a∈l,∃ρ2 ρ3,g (dd a) (A5 k cap ρ1)=some ρ2/\fe ρ2=some (.bl false,ρ3)/\vA cap (ρ3.drop k) ρ1=some ρ1):
  c1 Ej (cL (sL k cap s g tR fe)) ρ=some (.bl false,ρ1):=
 tE (sZ (zU dd (λ_=>.bl false) l hs hl st)) ((Mt l λ_=>false).trans (by rw[oK.mpr λ_ _=>br]))
end
inductive Kd where
 |room|you|plain|fixed|box|lamp
deriving DecidableEq
def Kd.s:Kd->Str
 |.room=>"room" |.you=>"you" |.plain=>"plain" |.fixed=>"fixed" |.box=>"box" |.lamp=>"lamp"
def Kd.pl:Kd->Bool
 |.room=>false|.you=>false|_=>true
def Kd.hd:Kd->Bool
 |.room=>true|.you=>true|.box=>true|_=>false
def Kd.mk:Kd->Bool
 |.box=>true|.lamp=>true|_=>false
structure Th where
 n:Str
 w:aB
 k:Kd
 s:Option Str
def oS:Option Str->L4.D
 |none=>.non
 |some x=>.str x
def thD(t:Th):L4.D:=.obj 0 ["name", "words", "kind", "start"] [.str t.n,.tup (t.w.map D.str),.str t.k.s,oS t.s]
theorem yD(t:Th):uX B6 "name" (thD t)=some (.str t.n):=rfl
theorem IK(t:Th):uX De "words" (thD t)=some (.tup (t.w.map D.str)):=rfl
theorem BH(t:Th):uX Fq "kind" (thD t)=some (.str t.k.s):=rfl
theorem IM(t:Th):uX Dd "start" (thD t)=some (oS t.s):=rfl
theorem FP(a b:Kd):dEq false (.str a.s) (.str b.s)=some (.bl (decide (a=b))):=by cases a<;>cases b<;>kernel_rfl
theorem TH(t:Th):yR [thD t]=some (.bl t.k.hd):=by obtain⟨n,w,k,s⟩:=t;cases k<;>kernel_rfl
theorem My(t:Th):yT [thD t]=some (.bl t.k.mk):=by obtain⟨n,w,k,s⟩:=t;cases k<;>kernel_rfl
theorem J9(t:Th):xO [thD t]=some (.bl t.k.pl):=by obtain⟨n,w,k,s⟩:=t;cases k<;>kernel_rfl
theorem TJ(t:Th):tM [.str t.k.s,IJ]=some (.bl true):=by obtain⟨n,w,k,s⟩:=t;cases k<;>kernel_rfl
abbrev TD(T:List Th):L4.D:=.lst (T.map thD)
theorem count_eq(T:List Th)(hl:T.length<=1000)(k:Kd):zr [TD T,.str k.s]=some (.int (T.filter λt=>decide (t.k=k)).length):=by refine sj (ρ:=[.im (TD T),.im (.str k.s)]) rfl ?_;refine sy (tE (sZ (v7 thD thD (λt=>decide (t.k=k)) T (ρ1:=[.im (TD T),.im (.str k.s)]) rfl hl λt _=>⟨[.im (thD t),.im (.str k.s)],[.im (thD t),.im (.str k.s)],rfl,tu (rY (tE rfl (BH t)) rfl (FP t.k k)),λ_=>⟨_,rfl,rfl⟩,λ_=>rfl⟩)) ?_);show some (D.int _)=_;rw[ag]
theorem yE(T:List Th)(hl:T.length<=1000):w9 [TD T]=some ((T.filter λt=>t.k.pl).map thD):=by refine zh (ρ:=[.im (TD T)]) rfl ?_;exact ze (v7 thD thD (λt=>t.k.pl) T (ρ1:=[.im (TD T)]) rfl hl λt _=>⟨[.im (thD t)],[.im (thD t)],rfl,tu (tX (xs:=[.str t.n,.tup (t.w.map D.str),.str t.k.s,oS t.s]) (ys:=[]) rfl rfl rfl rfl (J9 t)),λ_=>⟨_,rfl,rfl⟩,λ_=>rfl⟩)
theorem CA(h1:a ρ=some (.int x,ρ))(h2:b ρ=some (.int y,ρ))(h3:c ρ=some (.int z,ρ))(hx:x<=y)(hy:y<=z):vF yq yq a b c ρ=some (.bl true,ρ):=by
 unfold vF;rw[h1];simp only[h2];have e1:yq (.int x) (.int y)=some (.bl true):=by show some (D.bl (decide (x<=y)))=_;rw[aX hx]
 have e2:yq (.int y) (.int z)=some (.bl true):=by show some (D.bl (decide (y<=z)))=_;rw[aX hy]
 simp only[e1,h3,e2]
theorem UH(h1:a ρ=some (.int x,ρ))(h2:b ρ=some (.int y,ρ))(hx:x<=y):c2 yq a b ρ=some (.bl true,ρ):=rY h1 h2 (by
 show some (D.bl (decide (x<=y)))=_;rw[aX hx])
theorem El(T:List Th)(hl:T.length<=1000)(h1:1<=(T.filter λt=>decide (t.k=.room)).length)(h5:(T.filter λt=>decide (t.k=.room)).length<=5)(hy:(T.filter λt=>decide (t.k=.you)).length=1)(h7:(T.filter λt=>t.k.pl).length<=7):
  xQ [TD T]=some .non:=by
 let ρ:aZ:=[.im (TD T),.im (.bl true)];refine zm (ρ:=ρ) rfl ?_;unfold xP;rw[rT (show _=some (Out.nx ρ) from(su ((tq rfl).trans (xV thD T (ρ1:=[.im (TD T),.un]) rfl hl λt _=>⟨_,_,rfl,rfl,rfl⟩))).trans rfl)];rw[rT (uA (ρ1:=ρ) rfl)];rw[rT (uA (ρ1:=ρ) (xV thD T rfl hl λt _=>⟨[.im (thD t)],[.im (thD t)],rfl,rU (rS (tE rfl (BH t)) (rS rfl rfl)) (TJ t),rfl⟩))];rw[rT (uA (ρ1:=ρ) (CA (x:=1) (y:=(T.filter λt=>decide (t.k=.room)).length) (z:=5) rfl (rU (ds:=[TD T,.str Kd.room.s]) rfl (count_eq T hl .room)) rfl (by omega) (by omega)))];rw[rT (uA (ρ1:=ρ) (rY (ρ1:=ρ) (x:=.int (T.filter λt=>decide (t.k=.you)).length) (y:=.int 1) (rU (ds:=[TD T,.str Kd.you.s]) rfl (count_eq T hl .you)) rfl (by rw[hy];rfl)))];refine uA (ρ1:=ρ) (UH (x:=(T.filter λt=>t.k.pl).length) (y:=7) (tE (sZ (rU rfl (yE T hl))) ?_) rfl (by omega));show some (D.int _)=_;rw[ag]
structure Mk where
 n:Str
 st:Int
 mo:Int
def mkD(m:Mk):L4.D:=.obj 1 ["name", "start", "most"] [.str m.n,.int m.st,.int m.mo]
def Mk.ok(m:Mk):Prop:=1<=m.mo/\m.mo<=3/\0<=m.st/\m.st<=m.mo
abbrev MD(M:List Mk):L4.D:=.lst (M.map mkD)
theorem IP(m:Mk):uX B6 "name" (mkD m)=some (.str m.n):=rfl
theorem Ln(m:Mk)(h:m.ok):Dh [mkD m]=some (.bl true):=by obtain⟨h1,h2,h3,h4⟩:=h;refine sj (ρ:=[.im (mkD m)]) rfl ?_;unfold Dg;rw[rT (show _=some (Out.nx [.im (mkD m)]) from rfl)];exact sy ((tq (CA (x:=1) (y:=m.mo) (z:=3) rfl rfl rfl h1 h2)).trans (CA (x:=0) (y:=m.st) (z:=m.mo) rfl rfl rfl h3 h4))
theorem FQ(M:List Mk)(hl:M.length<=4)(h:∀m∈M,m.ok):yu [MD M]=some .non:=by
 let ρ:aZ:=[.im (MD M),.im (.bl true)];refine zm (ρ:=ρ) rfl ?_;unfold yt;have e0:ui [MD M,w6]=some (.bl true):=by refine sj (ρ:=[.im (MD M),.im (.int 4)]) rfl ?_;refine sy ((tq rfl).trans (UH (x:=M.length) (y:=4) ?_ rfl (by omega)));refine tE rfl ?_;show some (D.int _)=_;rw[ag]
 rw[rT (show _=some (Out.nx ρ) from(su ((tq (rU (ds:=[MD M,w6]) rfl e0)).trans (xV mkD M (ρ1:=[.im (MD M),.un]) rfl (by omega) λm hm=>⟨[.im (mkD m)],[.im (mkD m)],rfl,rU rfl (Ln m (h m hm)),rfl⟩))).trans rfl)];exact uA (ρ1:=ρ) rfl
def nmS(l c:Nat):Str:=hG ⟨#[98+l]⟩ (1+(c:Int))
def Nm(x:Str):Prop:=∃l c,l<25/\c<8/\x=nmS l c
def isT:Option L4.D->Bool
 |some (.bl b)=>b
 |_=>false
theorem Qz(h:isT o=true):o=some (.bl true):=by
 unfold isT at h;split at h
 ·rw[h]
 ·cases h
theorem IQ{p:Str->Bool}(h:((bB 25).all λl=>(bB 8).all λc=>p (nmS l c))=true){x:Str}(hx:Nm x):p x=true:=by obtain⟨l,c,hl,hc,rfl⟩:=hx;exact bD.mp (bD.mp h l (cu.mpr hl)) c (cu.mpr hc)
theorem Lo(h:Nm x):AV [.str x]=some (.bl true):=Qz (IQ (p:=λx=>isT (AV [.str x])) (by kernel_rfl) h)
theorem Lp(h:Nm x):vK [.str x]=some (.bl true):=Qz (IQ (p:=λx=>isT (vK [.str x])) (by kernel_rfl) h)
theorem Ka:vK [.str "red"]=some (.bl true):=by kernel_rfl
theorem Kb:vK [.str "old"]=some (.bl true):=by kernel_rfl
def noW(x:Str):Bool:=decide (x∉(["red", "old", "take", "drop", "open", "shut", "light", "douse", "put", "go", "wait", "in", "north", "up", "the", "a", "undo", "restart"]:aB))
theorem QA(h:Nm x):x∉(["red", "old", "take", "drop", "open", "shut", "light", "douse", "put", "go", "wait", "in", "north", "up", "the", "a", "undo", "restart"]:aB):=bo (IQ (p:=noW) (by kernel_rfl) h)
def sg(x:Str):Nat:=x.cps.getD 0 0
theorem aal(hl:l<25)(hc:c<8):sg (nmS l c)=98+l:=by
 have h:((bB 25).all λl=>(bB 8).all λc=>sg (nmS l c)==98+l)=true:=by kernel_rfl
 exact eQ (bD.mp (bD.mp h l (cu.mpr hl)) c (cu.mpr hc))
theorem FR{l:aB}(h:l.Nodup)(hl:l.length<=1000):tY [.lst (l.map D.str)]=some (.bl true):=by
 refine sj (ρ:=[.im (.lst (l.map D.str))]) rfl ?_;refine sy (rY (x:=.int l.length) (y:=.int l.length) (tE rfl (S6 (DE h hl))) (tE rfl ?_) ?_)
 ·show some (D.int _)=_;rw[ag]
 ·rw[vo];simp
theorem Lq{l:aB}(h:l.Nodup)(hl:l.length<=1000):tY [.tup (l.map D.str)]=some (.bl true):=by
 refine sj (ρ:=[.im (.tup (l.map D.str))]) rfl ?_;refine sy (rY (x:=.int l.length) (y:=.int l.length) (tE rfl (DE h hl)) (tE rfl ?_) ?_)
 ·show some (D.int _)=_;rw[ag]
 ·rw[vo];simp
theorem FU(T:List Th)(M:List Mk)(hT:T.length<=400)(hM:M.length<=400)(hn:∀x∈T.map Th.n++M.map Mk.n,Nm x)(nd:(T.map Th.n++M.map Mk.n).Nodup):yx [TD T,MD M]=some .non:=by
 have hl:(T.map Th.n++M.map Mk.n).length<=1000:=by rw[aA,ag,ag];omega
 let ρ0:aZ:=[.im (TD T),.im (MD M),.un];let ρ:aZ:=[.im (TD T),.im (MD M),.im (.lst ((T.map Th.n++M.map Mk.n).map D.str))];refine zm (ρ:=ρ) rfl ?_;unfold yw;have e1:sL 1 [] bN aH tR cM ρ0=some (T.map λt=>D.str t.n,ρ0):=zU thD (λt=>D.str t.n) T rfl (by omega) λt _=>⟨_,_,rfl,tE rfl (yD t),rfl⟩;have e2:sL 1 [] gd aH tR cM ρ0=some (M.map λt=>D.str t.n,ρ0):=zU mkD (λt=>D.str t.n) M rfl (by omega) λt _=>⟨_,_,rfl,tE rfl (IP t),rfl⟩;have e3:=su (i:=2) (sZ (wc (sZ e1) (sZ e2) (by rw[ag,ag];omega)));refine(rT (ρ':=ρ) (e3.trans (by
  have:(T.map λt=>D.str t.n)++(M.map λt=>D.str t.n)=(T.map Th.n++M.map Mk.n).map D.str:=by rw[bb,aW,aW];rfl
  rw[this];rfl))).trans ?_
 rw[rT (uA (ρ1:=ρ) (xV D.str (T.map Th.n++M.map Mk.n) rfl hl λx hx=>⟨_,_,rfl,rU rfl (Lo (hn x hx)),rfl⟩))];exact uA (ρ1:=ρ) (rU rfl (FR nd hl))
def rmN(T:List Th):aB:=(T.filter λt=>decide (t.k=.room)).map Th.n
def hdN(T:List Th):aB:=(T.filter λt=>t.k.hd).map Th.n
abbrev lW:=(cC (.str "room"))
abbrev mV:=(c2 av dB lW)
theorem Kc(T:List Th)(hl:T.length<=1000)(hi:cV i ρ=some (TD T,ρ)):sL 1 [] (iL (cV i)) aH (cT mV) cM ρ=some ((rmN T).map D.str,ρ):=by
 have hs:iL (cV i) ρ=some (T.map thD,ρ):=by unfold iL;rw[hi]
 have:=v7 (k:=1) (cap:=[]) (g:=gN 0) (ft:=cT mV) (fe:=c1 cI af) thD (λt=>D.str t.n) (λt=>decide (t.k=.room)) T hs hl λt _=>⟨[.im (thD t)],[.im (thD t)],rfl,tu (rY (tE rfl (BH t)) rfl (FP t.k .room)),λ_=>⟨_,tE rfl (yD t),rfl⟩,λ_=>rfl⟩
 rw[this];unfold rmN;rw[aW];rfl
theorem Lr(T:List Th)(hl:T.length<=1000)(hi:cV i ρ=some (TD T,ρ)):sL 1 [] (iL (cV i)) aH (cT l7) cM ρ=some ((hdN T).map D.str,ρ):=by
 have hs:iL (cV i) ρ=some (T.map thD,ρ):=by unfold iL;rw[hi]
 have:=v7 (k:=1) (cap:=[]) (g:=gN 0) (ft:=cT l7) (fe:=c1 cI af) thD (λt=>D.str t.n) (λt=>t.k.hd) T hs hl λt _=>⟨[.im (thD t)],[.im (thD t)],rfl,tu (tX (xs:=[.str t.n,.tup (t.w.map D.str),.str t.k.s,oS t.s]) (ys:=[]) rfl rfl rfl rfl (TH t)),λ_=>⟨_,tE rfl (yD t),rfl⟩,λ_=>rfl⟩
 rw[this];unfold hdN;rw[aW];rfl
theorem yY{x:Str}{l:aB}(h:x∈l):tM [.str x,.lst (l.map D.str)]=some (.bl true):=by refine sj (ρ:=[.im (.str x),.im (.lst (l.map D.str))]) rfl ?_;refine sy ((tq rfl).trans (rY rfl rfl ?_));rw[uw];simp[h]
theorem Gp(dk rm:aB)(hl:dk.length<=1000)(nd:dk.Nodup)(h:∀x∈dk,x∈rm):zu [.lst (dk.map D.str),.lst (rm.map D.str)]=some .non:=by let ρ0:aZ:=[.im (.lst (dk.map D.str)),.im (.lst (rm.map D.str)),.un];let ρ:aZ:=[.im (.lst (dk.map D.str)),.im (.lst (rm.map D.str)),.im (.bl true)];refine zm (ρ:=ρ) rfl ?_;unfold zt;rw[rT (show _=some (Out.nx ρ) from(su ((tq (ρ1:=ρ0) rfl).trans ((tq (xV D.str dk (ρ1:=ρ0) rfl hl λx hx=>⟨[.im (.str x),.im (.lst (rm.map D.str))],[.im (.str x),.im (.lst (rm.map D.str))],rfl,rU rfl (yY (h x hx)),rfl⟩)).trans (rU (ρ1:=ρ0) rfl (FR nd hl))))).trans rfl)];exact uA (ρ1:=ρ) rfl
def IR(T:List Th)(t:Th):Prop:=match t.k,t.s with
 |.room,none=>True
 |.room,some _=>False
 |_,none=>False
 |.you,some x=>x∈rmN T
 |_,some x=>x∈hdN T
abbrev lS:=(cC (.str "you"))
theorem Ke(T:List Th)(hl:T.length<=1000)(t:Th)(h:IR T t):BF [TD T,thD t]=some (.bl true):=by
 refine sj (ρ:=[.im (TD T),.im (thD t)]) rfl ?_;unfold BE;obtain⟨n,w,k,s⟩:=t;have els:∀k:Kd,k≠.room->k≠.you->∀x,x∈hdN T->(rV (sIf (cT (c2 av jU lW)) (sH (c2 Gh gb bE)) sF)
   (rV (sIf (cT (c2 av jU lS)) (sH (rW tM (rR gb (rR (cL (sL 1 [] bN aH (cT mV) cM)) sS)))) sF)
   (sH (rW tM (rR gb (rR qQ sS)))))) [.im (TD T),.im (thD ⟨n,w,k,some x⟩)]=some (.rt (.bl true) [.im (TD T),.im (thD ⟨n,w,k,some x⟩)]):=λk h1 h2 x hx=>by
  let ρ:aZ:=[.im (TD T),.im (thD ⟨n,w,k,some x⟩)];rw[rT (show _=some (Out.nx ρ) from(rZ (ρ':=ρ) (tu (rY (ρ1:=ρ) (ρ2:=ρ) (tE rfl (BH _)) rfl ((FP k .room).trans (by rw[aL h1]))))).trans rfl)];rw[rT (show _=some (Out.nx ρ) from(rZ (ρ':=ρ) (tu (rY (ρ1:=ρ) (ρ2:=ρ) (tE rfl (BH _)) rfl ((FP k .you).trans (by rw[aL h2]))))).trans rfl)];exact sy (rU (rS (tE rfl (IM _)) (rS (sZ (Lr T hl rfl)) rfl)) (yY hx))
 cases k with
 |room=>
  cases s with
  |none=>rfl
  |some x=>exact h.elim
 |you=>
  cases s with
  |none=>exact h.elim
  |some x=>let ρ:aZ:=[.im (TD T),.im (thD ⟨n,w,.you,some x⟩)];rw[rT (show _=some (Out.nx ρ) from rfl)];refine sA ((sG (ρ':=ρ) rfl).trans ?_);exact sy (rU (rS (tE rfl (IM _)) (rS (sZ (Kc T hl rfl)) rfl)) (yY h))
 |plain=>cases s with
  |none=>exact h.elim
  |some x=>exact els .plain (by decide) (by decide) x h
 |fixed=>cases s with
  |none=>exact h.elim
  |some x=>exact els .fixed (by decide) (by decide) x h
 |box=>cases s with
  |none=>exact h.elim
  |some x=>exact els .box (by decide) (by decide) x h
 |lamp=>cases s with
  |none=>exact h.elim
  |some x=>exact els .lamp (by decide) (by decide) x h
def kS(x:Str):Key:=Sum.inr x
theorem AI(h1:fv ρ=some (d,ρ))(h2:ρ[i]?=some (.dk ks ds))(h3:fk ρ=some (.str x,ρ))(hn:kS x∉ks)(hl:ks.length<1000)(he:ds.length=ks.length):
  tN i fk fv ρ=some (.nx (ρ.set i (.dk (ks++[kS x]) (ds++[d])))):=by
 have hk:E8 ks (kS x)=false:=by unfold E8;rw[iR];intro z;obtain⟨y,hy,ey⟩:=fD.mp z;exact hn (by rw[<-bo ey];exact hy)
 unfold tN;rw[h1];simp only[h2,h3];rw[show Ad (.str x)=some (kS x) from rfl];simp only;rw[ai hl,ai he,hk];rfl
section
variable{α:Type}{g:FG}{i:Nat}{fk fv:FE}
theorem yZ(dd:α->L4.D)(kf:α->Str)(vf:α->L4.D)(st:List Key->List L4.D->Sl->aZ)
  (hs:∀(a:α) (ks:List Key) (ds:List L4.D) (s:Sl),∃ρ1,g (dd a) (st ks ds s)=some ρ1/\fv ρ1=some (vf a,ρ1)/\ρ1[i]?=some (.dk ks ds)/\fk ρ1=some (.str (kf a),ρ1)/\∀ks' ds',∃s',ρ1.set i (.dk ks' ds')=st ks' ds' s'):
  ∀(l:List α) (ks:List Key) (ds:List L4.D) (s:Sl),(ks++l.map λa=>kS (kf a)).Nodup->ks.length+l.length<=1000->ds.length=ks.length->
   ∃s',forL g (tN i fk fv) (l.map dd) (st ks ds s)=some (.nx (st (ks++l.map λa=>kS (kf a)) (ds++l.map vf) s'))
 |[],ks,ds,s,_,_,_=>⟨s,by rw[bG,bG,bG,bq,bq];rfl⟩
 |a::l,ks,ds,s,nd,hl,he=>by
  obtain⟨ρ1,h1,h2,h3,h4,h5⟩:=hs a ks ds s;obtain⟨s1,h6⟩:=h5 (ks++[kS (kf a)]) (ds++[vf a]);rw[aE]at hl;have nd':((ks++[kS (kf a)])++l.map λa=>kS (kf a)).Nodup:=by rw[bw];exact nd
  have hn:kS (kf a)∉ks:=λz=>by rw[bZ]at nd;exact nd.2.2 _ z _ (by rw[au];exact aV) rfl
  obtain⟨s',h7⟩:=yZ dd kf vf st hs l (ks++[kS (kf a)]) (ds++[vf a]) s1 nd' (by rw[aA,ba];omega) (by rw[aA,aA,he,ba,ba]);refine⟨s',?_⟩;rw[au];unfold forL;rw[h1];simp only[AI h2 h3 h4 hn (by omega) he,h6];rw[h7,au,au,bw,bw];rfl
end
def nK(T:List Th):List Key:=T.map λt=>kS t.n
theorem FV(h:kS a=kS b):a=b:=ji h
variable{T:List Th}
theorem Mz(h:(T.map Th.n).Nodup):(nK T).Nodup:=by have:=wj h;rw[aW]at this;exact this
theorem MA(h:(T.map Th.n).Nodup)(vf:Th->L4.D)(ht:t∈T):uo (nK T) (T.map vf) (kS t.n)=some (vf t):=by refine Aj (Mz h) ?_;unfold nK;rw[jf];exact cq (f:=λt=>(kS t.n,vf t)) ht
def Ls(T:List Th)(r:Str->Nat):Prop:=∀t∈T,r t.n<T.length/\∀p,t.s=some p->r p<r t.n/\∃u∈T,u.n=p
def stD(T:List Th):L4.D:=.dic (nK T) (T.map λt=>oS t.s)
theorem QB(T:List Th)(hl:T.length<=1000)(nd:(T.map Th.n).Nodup)(r:Str->Nat)(hr:Ls T r)(t:Th)(ht:t∈T):wN [stD T,.str t.n]=some (.bl true):=by
 have loop:∀(m:Nat) (l:List L4.D),l.length=m->∀(a:Option Str) (s:Sl),(∀x,a=some x->(∃u∈T,u.n=x)/\r x<m)->
   (∃ρ,forL dD (rV jE jI) l [.im (stD T),.im (.str t.n),.im (oS a),s]=some (.rt (.bl true) ρ))\/
   (∃s',forL dD (rV jE jI) l [.im (stD T),.im (.str t.n),.im (oS a),s]=some (.nx [.im (stD T),.im (.str t.n),.im .non,s'])):=by
  intro m
  induction m with
  |zero=>
   intro l h a s ha;cases l with
   |cons d l=>cases h
   |nil=>
    cases a with
    |none=>exact .inr ⟨s,rfl⟩
    |some x=>exact aq (ha x rfl).2 (pz _)
  |succ m ih=>
   intro l h a s ha;cases l with
   |nil=>cases h
   |cons d l=>
    cases a with
    |none=>refine .inl ⟨[.im (stD T),.im (.str t.n),.im .non,.im d],?_⟩;unfold forL;rw[show gN 3 d [.im (stD T),.im (.str t.n),.im (oS none),s]=some [.im (stD T),.im (.str t.n),.im .non,.im d] from rfl];rfl
    |some x=>
     obtain⟨⟨u,hu,rfl⟩,hx⟩:=ha x rfl;have e:rV jE jI [.im (stD T),.im (.str t.n),.im (.str u.n),.im d]=some (.nx [.im (stD T),.im (.str t.n),.im (oS u.s),.im d]):=by refine(rT (ρ':=[.im (stD T),.im (.str t.n),.im (.str u.n),.im d]) rfl).trans ?_;exact(su (rY rfl rfl (MA nd (λt=>oS t.s) hu))).trans rfl
     have key:=ih l (by simpa using h) u.s (.im d) λy hy=>by obtain⟨h1,h2⟩:=hr u hu;obtain⟨h3,h4⟩:=h2 y hy;exact⟨h4,by omega⟩
     unfold forL;rw[show gN 3 d [.im (stD T),.im (.str t.n),.im (oS (some u.n)),s]=some [.im (stD T),.im (.str t.n),.im (.str u.n),.im d] from rfl];simp only[e];exact key
 obtain⟨h1,h2⟩:=hr t ht;have l0:=loop T.length (E2 0 T.length) (by unfold E2;simp) t.s .un λx hx=>⟨(h2 x hx).2,by have:=(h2 x hx).1;omega⟩;have e0:sM 2 iy [.im (stD T),.im (.str t.n),.un,.un]=some (.nx [.im (stD T),.im (.str t.n),.im (oS t.s),.un]):=(su (rY rfl rfl (MA nd (λt=>oS t.s) ht))).trans rfl;have e1:iR1 de [.im (stD T),.im (.str t.n),.im (oS t.s),.un]=some (E2 0 T.length,[.im (stD T),.im (.str t.n),.im (oS t.s),.un]):=by unfold iR1;rw[show c1 xW af [.im (stD T),.im (.str t.n),.im (oS t.s),.un]=some (.int T.length,[.im (stD T),.im (.str t.n),.im (oS t.s),.un]) from tE rfl (by show some (D.int _)=_;unfold nK;rw[ag])];simp only;rw[ai (by omega),iP]
 rcases l0 with ⟨ρ,q⟩|⟨s',q⟩
 ·refine sj (ρ:=ρ) rfl ?_;refine(rT e0).trans (sA ((tW e1).trans q))
 ·refine sj (ρ:=[.im (stD T),.im (.str t.n),.im .non,s']) rfl ?_;refine(rT e0).trans ((rT ((tW e1).trans q)).trans rfl)
theorem Em(T:List Th)(hl:T.length<=900)(nd:(T.map Th.n).Nodup)(r:Str->Nat)(hr:Ls T r)(hs:∀t∈T,IR T t):xS [TD T]=some .non:=by
 obtain⟨s',e1⟩:=yZ (g:=gN 2) (i:=1) (fk:=c1 cI aw) (fv:=c1 hX aw) thD Th.n (λt=>oS t.s) (λks ds s=>[.im (TD T),.dk ks ds,s])
  (λt ks ds s=>⟨[.im (TD T),.dk ks ds,.im (thD t)],rfl,tE rfl (IM t),rfl,tE rfl (yD t),λks' ds'=>⟨_,rfl⟩⟩) T [] [] .un (by rw[bJ];exact Mz nd) (by simp;omega) rfl
 refine zm (ρ:=[.im (TD T),.im (stD T),s']) rfl ?_;unfold xR;refine(rT (uA (ρ1:=[.im (TD T),.un,.un]) (xV thD T rfl (by omega) λt ht=>⟨[.im (thD t),.im (TD T)],[.im (thD t),.im (TD T)],rfl,rU rfl (Ke T (by omega) t (hs t ht)),rfl⟩))).trans ?_;refine(rT (ρ':=[.im (TD T),.dk [] [],.un]) rfl).trans ?_;refine(rT ((tW rfl).trans e1)).trans ?_;have src:iD (cFz 1) [.im (TD T),.dk ([]++T.map λa=>kS a.n) ([]++T.map λt=>oS t.s),s']=some ((T.map λt=>D.str t.n),[.im (TD T),.im (stD T),s']):=by rw[bJ,bJ];unfold iD;rw[show cFz 1 [.im (TD T),.dk (T.map λa=>kS a.n) (T.map λt=>oS t.s),s']=some (stD T,[.im (TD T),.im (stD T),s']) from rfl];show (if (nK T).length=(T.map λt=>oS t.s).length then some ((nK T).map Lb,_)else none)=_;unfold nK;rw[ai (by rw[ag,ag]),aW];rfl
 exact uA (ρ1:=[.im (TD T),.im (stD T),s']) (xV (λt:Th=>D.str t.n) T src (by omega) λt ht=>⟨[.im (.str t.n),.im (stD T)],[.im (.str t.n),.im (stD T)],rfl,rU rfl (QB T (by omega) nd r hr t ht),rfl⟩)
def HB:List aB:=[[],["red"],["old", "red"]]
def uU(t:Th):Prop:=Nm t.n/\∃m∈HB,t.w=t.n::m
theorem vP(h:uU t):t.w=[t.n]\/t.w=[t.n,"red"]\/t.w=[t.n,"old", "red"]:=by
 obtain⟨_,m,hm,e⟩:=h;unfold HB at hm;simp only[aK,bR,or_false]at hm;rcases hm with rfl|rfl|rfl
 ·exact .inl e
 ·exact .inr (.inl e)
 ·exact .inr (.inr e)
theorem Dn(h:uU t)(hx:x∈t.w):x=t.n\/x="red" \/ x="old" := by
 rcases vP h with e|e|e<;>rw[e]at hx<;>simp only[aK,bR,or_false]at hx
 ·exact .inl hx
 ·rcases hx with h|h
  ·exact .inl h
  ·exact .inr (.inl h)
 ·rcases hx with h|h|h
  ·exact .inl h
  ·exact .inr (.inr h)
  ·exact .inr (.inl h)
theorem UI(h:Nm x):x≠"red" /\ x≠"old" := by have:=QA h;exact⟨λz=>this (by rw[z];decide),λz=>this (by rw[z];decide)⟩
theorem IS(h:uU t):Au [.tup (t.w.map D.str)]=some (.bl true):=by
 have hn:=h.1;obtain⟨n1,n2⟩:=UI hn;have len:1<=t.w.length/\t.w.length<=4:=by rcases vP h with e|e|e<;>rw[e]<;>simp
 have nd:t.w.Nodup:=by
  rcases vP h with e|e|e<;>rw[e]
  ·simp
  ·simp[n1]
  ·simp[n1,n2];decide
 let ρ:aZ:=[.im (.tup (t.w.map D.str))];refine sj (ρ:=ρ) rfl ?_;unfold As;have e1:vF yq yq aR de (cC zp) ρ=some (.bl true,ρ):=CA (x:=1) (y:=t.w.length) (z:=4) rfl (tE rfl (by show some (D.int _)=_;rw[ag])) rfl (by omega) (by omega);refine(rT (ρ':=ρ) ((rZ (ρ':=ρ) (zf (ρ1:=ρ) rfl (BX (tu e1)))).trans rfl)).trans ?_;refine sy ((tq (xV D.str t.w (ρ1:=ρ) rfl (by omega) λx hx=>⟨_,_,rfl,rU rfl ?_,rfl⟩)).trans (rU rfl (Lq nd (by omega))));rcases Dn h hx with rfl|rfl|rfl
 ·exact Lp hn
 ·exact Ka
 ·exact Kb
theorem Lu(t u:Th)(ht:uU t)(hu:uU u)(hne:u.n≠t.n):AX [.tup (u.w.map D.str),.tup (t.w.map D.str)]=some (.bl false):=by
 obtain⟨n1,n2⟩:=UI ht.1;have hl:t.w.length<=1000:=by rcases vP ht with e|e|e<;>rw[e]<;>simp
 let ρ:aZ:=[.im (.tup (u.w.map D.str)),.im (.tup (t.w.map D.str))];refine sj (ρ:=ρ) rfl ?_;refine sy (tE (sZ (zU D.str (λx=>.bl (decide (x∈u.w))) t.w (ρ1:=ρ) rfl hl λx _=>⟨_,_,rfl,rY rfl rfl (JW false x u.w),rfl⟩)) ?_);rw[Ms];have:t.w.all (λx=>decide (x∈u.w))=false:=by
  rw[iR];intro z;have:=bo (bD.mp z t.n (by rcases vP ht with e|e|e<;>rw[e]<;>simp));rcases Dn hu this with h|h|h
  ·exact hne h.symm
  ·exact n1 h
  ·exact n2 h
 rw[this]
theorem Gq(P:List Th)(hl:P.length<=900)(hw:∀t∈P,uU t)(t:Th)(ht:uU t):wU [TD P,thD t]=some (.bl true):=by
 let O:=P.filter λu=>!decide (u.n=t.n);let ρ:aZ:=[.im (TD P),.im (thD t),.im (TD O)];have hO:O.length<=900:=bK (eC _ _) hl;refine sj (ρ:=ρ) rfl ?_;unfold wQ;refine(rT (ρ':=ρ) ((su (sZ (v7 thD thD (λu=>!decide (u.n=t.n)) P (ρ1:=[.im (TD P),.im (thD t),.un]) rfl (by omega) λu _=>⟨[.im (thD u),.im (thD t)],[.im (thD u),.im (thD t)],rfl,tu (rY (tE rfl (yD u)) (tE rfl (yD t)) (vm true u.n t.n)),λ_=>⟨_,rfl,rfl⟩,λ_=>rfl⟩))).trans rfl)).trans ?_;have e:c1 Ej (cL (sL 1 [1] iA aH tR (rW AX (rR mO (rR (c1 jw ah) sS))))) ρ=some (.bl false,ρ):=
  Qy thD O rfl (by omega) λu hu=>⟨[.im (thD u),.im (thD t)],[.im (thD u),.im (thD t)],rfl,rU (rS (tE rfl (IK u)) (rS (tE rfl (IK t)) rfl)) (Lu t u ht (hw u (bI.mp hu).1) (by simpa using (bI.mp hu).2)),rfl⟩
 refine sy ?_;unfold CL;rw[e];rfl
theorem FW(T:List Th)(hl:T.length<=900)(hw:∀t∈T,uU t):uy [TD T]=some .non:=by let P:=T.filter λt=>t.k.pl;have hP:P.length<=900:=bK (eC _ _) hl;have hwP:∀t∈P,uU t:=λt ht=>hw t (bI.mp ht).1;let ρ:aZ:=[.im (TD T),.im (TD P)];refine zm (ρ:=ρ) rfl ?_;unfold ux;refine(rT (uA (ρ1:=[.im (TD T),.un]) (xV thD T rfl (by omega) λt ht=>⟨[.im (thD t)],[.im (thD t)],rfl,rU (rS (tE rfl (IK t)) rfl) (IS (hw t ht)),rfl⟩))).trans ?_;refine(rT (ρ':=ρ) ((su (sZ (rU rfl (yE T (by omega))))).trans rfl)).trans ?_;exact uA (ρ1:=ρ) (xV thD P rfl (by omega) λt ht=>⟨[.im (thD t),.im (TD P)],[.im (thD t),.im (TD P)],rfl,rU rfl (Gq P hP hwP t (hwP t ht)),rfl⟩)
def Bn(n f:Str)(j:L4.D):L4.D:=.obj 2 ["name", "others", "form", "joining"] [.str n,.tup [],.str f,j]
def tP:List L4.D:=[Bn "take" "one" .non,Bn "drop" "one" .non,Bn "open" "one" .non,Bn "shut" "one" .non,Bn "light" "one" .non,Bn "douse" "one" .non,Bn "put" "two" (.str "in"),Bn "go" "way" .non,Bn "wait" "alone" .non]
theorem Kg:u6 []=some tP:=by kernel_rfl
def vN:aB:=["take", "drop", "open", "shut", "light", "douse", "put", "go", "wait"]
def vI:aB:=["take", "drop", "open", "shut", "light", "douse", "put", "go", "wait", "in", "north", "up"]
theorem TL(h:e ρ=some (.bl b,ρ1)):CL e ρ=some (.bl !b,ρ1):=by unfold CL;rw[h]
theorem QC{l m:aB}(hd:d=.lst (m.map D.str)\/d=.tup (m.map D.str))(hl:l.length<=900)(h:∀x∈l,x∉m):wF [.lst (l.map D.str),d]=some (.bl true):=by
 let ρ:aZ:=[.im (.lst (l.map D.str)),.im d];refine sj (ρ:=ρ) rfl ?_;have e:c1 Ej qY ρ=some (.bl false,ρ):=Qy D.str l rfl (by omega) λx hx=>⟨[.im (.str x),.im d],[.im (.str x),.im d],rfl,rY rfl rfl (by
  rcases hd with rfl|rfl
  ·rw[uw];simp[h x hx]
  ·rw[JW];simp[h x hx]),rfl⟩
 exact sy (TL e)
theorem N9(h:uU t):t.w.length<=3:=by rcases vP h with e|e|e<;>rw[e]<;>simp
theorem FX:∀(P:List Th) (acc:aB) (s:Sl),acc.length+3 * P.length<=900->(∀t∈P,uU t)->
  ∃s',forL (gN 4) (sT mw) (P.map thD) [a,b,c,.ls (acc.map D.str),s,s5,s6,s7]=some (.nx [a,b,c,.ls ((acc++P.flatMap Th.w).map D.str),s',s5,s6,s7])
 |[],acc,s,_,_=>⟨s,by simp;rfl⟩
 |t::P,acc,s,hl,hw=>by
  have h3:=N9 (hw t aV);rw[aE]at hl;obtain⟨s',e⟩:=FX P (acc++t.w) (.im (thD t)) (by rw[aA];omega) λu hu=>hw u (bf _ hu);refine⟨s',?_⟩;rw[au];unfold forL;have e1:sT mw [a,b,c,.ls (acc.map D.str),.im (thD t),s5,s6,s7]=some (.nx [a,b,c,.ls ((acc++t.w).map D.str),.im (thD t),s5,s6,s7]):=by refine(tJ (d:=.non) (ρ':=[a,b,c,.ls ((acc++t.w).map D.str),.im (thD t),s5,s6,s7]) ?_);unfold G1;show (if (acc.map D.str).length+(t.w.map D.str).length<=1000 then some (D.non,[a,b,c,.ls (acc.map D.str++t.w.map D.str),.im (thD t),s5,s6,s7])else none)=_;rw[ai (by rw[ag,ag];omega),bb]
  rw[show gN 4 (thD t) [a,b,c,.ls (acc.map D.str),s,s5,s6,s7]=some [a,b,c,.ls (acc.map D.str),.im (thD t),s5,s6,s7] from rfl];simp only[e1];rw[e,List.flatMap_cons,bw]
def wyD(r0 r1:Str):List L4.D:=[.tup [.str r0,.str "north", .str r1,.non],.tup [.str r0,.str "up", .str r0,.non]]
def wyT(T:List Th):List L4.D:=wyD ((rmN T).headD "") ((rmN T).getLastD "")
theorem Yp(h:1<=(T.filter λt=>decide (t.k=.room)).length):(rmN T).headD "" ∈ rmN T:=by
 have:1<=(rmN T).length:=by unfold rmN;rw[ag];exact h
 cases e:rmN T with
 |nil=>rw[e]at this;cases this
 |cons a r=>exact aV ..
theorem Yq(h:1<=(T.filter λt=>decide (t.k=.room)).length):(rmN T).getLastD "" ∈ rmN T:=by
 have:1<=(rmN T).length:=by unfold rmN;rw[ag];exact h
 have hn:rmN T≠[]:=λe=>by rw[e]at this;cases this
 rw[nH,List.getLast?_eq_some_getLast hn];exact List.getLast_mem hn
theorem Lv(r0:Str):tY [.lst [.tup [.str r0,.str "north"],.tup [.str r0,.str "up"]]]=some (.bl true):=by refine sj (ρ:=[.im (.lst [.tup [.str r0,.str "north"],.tup [.str r0,.str "up"]])]) rfl (sy (rY (x:=.int 2) (y:=.int 2) (tE rfl ?_) rfl rfl));show (if ([Sum.inr r0,Sum.inr "north"]:List Key)=[Sum.inr r0,Sum.inr "up"]then none else some (D.int 2))=_;rw[aj λe=>aq (ji (kW (kW e).2).1) (by decide:¬(("north" : Str)="up"))]
theorem Oa{a b x:Str}{R:aB}{mn:List L4.D}(h0:a∈R)(h1:b∈R)(hx:vK [.str x]=some (.bl true)):FI [.tup [.str a,.str x,.str b,.non],.lst (R.map D.str),.lst mn]=some (.bl true):=by let ρ:aZ:=[.im (.tup [.str a,.str x,.str b,.non]),.im (.lst (R.map D.str)),.im (.lst mn),.im (.bl true)];refine sj (ρ:=ρ) rfl ?_;unfold FH;refine(rT (ρ':=[.im (.tup [.str a,.str x,.str b,.non]),.im (.lst (R.map D.str)),.im (.lst mn),.un]) rfl).trans ?_;refine(rT (ρ':=ρ) rfl).trans ?_;exact sy ((tq (rU (ρ1:=ρ) rfl (yY h0))).trans ((tq (rU (ρ1:=ρ) rfl hx)).trans ((tq (rU (ρ1:=ρ) rfl (yY h1))).trans rfl)))
theorem Gr(R:aB)(mn:List L4.D)(h0:r0∈R)(h1:r1∈R):xg [.lst (wyD r0 r1),.lst (R.map D.str),.lst mn]=some .non:=by
 let ρ0:aZ:=[.im (.lst (wyD r0 r1)),.im (.lst (R.map D.str)),.im (.lst mn),.un];let ρ:aZ:=[.im (.lst (wyD r0 r1)),.im (.lst (R.map D.str)),.im (.lst mn),.im (.bl true)];refine zm (ρ:=ρ) rfl ?_;unfold zv;rw[rT (show _=some (Out.nx ρ) from(su ((tq (ρ1:=ρ0) rfl).trans (xV (λz:Str×Str=>D.tup [.str r0,.str z.1,.str z.2,.non]) [("north", r1),("up", r0)] (ρ1:=ρ0) rfl (bP rfl) λz hz=>
  ⟨[.im (.tup [.str r0,.str z.1,.str z.2,.non]),.im (.lst (R.map D.str)),.im (.lst mn)],[.im (.tup [.str r0,.str z.1,.str z.2,.non]),.im (.lst (R.map D.str)),.im (.lst mn)],rfl,rU rfl (Oa h0 (by
   rcases aK.mp hz with rfl|hz
   ·exact h1
   ·rw[aP.mp hz];exact h0) (by
   rcases aK.mp hz with rfl|hz
   ·kernel_rfl
   ·rw[aP.mp hz];kernel_rfl)),rfl⟩))).trans rfl)]
 refine(rT (uA (ρ1:=ρ) rfl)).trans ?_;exact uA (ρ1:=ρ) (rU (ds:=[.lst [.tup [.str r0,.str "north"],.tup [.str r0,.str "up"]]]) (rS (by kernel_rfl) rfl) (Lv r0))
theorem FY(T:List Th)(hl:T.length<=200)(hw:∀t∈T,uU t):uH [TD T,.lst (wyT T),.lst tP]=some .non:=by
 let P:=T.filter λt=>t.k.pl;have hP:P.length<=200:=bK (eC _ _) hl;have hwP:∀t∈P,uU t:=λt ht=>hw t (bI.mp ht).1;obtain⟨s',e1⟩:=FX (a:=.im (TD T)) (b:=.im (.lst (wyT T))) (c:=.im (.lst tP)) (s5:=.un) (s6:=.un) (s7:=.un) P [] .un (by simp;omega) hwP;let O:=P.flatMap Th.w;let m1:Sl:=.ls (O.map D.str);let z:Sl:=.im (Bn "wait" "alone" .non);refine zm (ρ:=[.im (TD T),.im (.lst (wyT T)),.im (.lst tP),.im (.lst (O.map D.str)),s',.im (.lst (vN.map D.str)),z,.im (.lst [.str "in", .str "north", .str "up"])]) rfl ?_;unfold vJ;refine(rT (ρ':=[.im (TD T),.im (.lst (wyT T)),.im (.lst tP),.ls [],.un,.un,.un,.un]) rfl).trans ?_;refine(rT (ρ':=[.im (TD T),.im (.lst (wyT T)),.im (.lst tP),m1,s',.un,.un,.un]) ((tW (ds:=P.map thD) (ρ1:=[.im (TD T),.im (.lst (wyT T)),.im (.lst tP),.ls [],.un,.un,.un,.un]) ?_).trans e1)).trans ?_
 ·unfold iL;rw[sZ (rU (g:=w9) (ds:=[TD T]) (ρ1:=[.im (TD T),.im (.lst (wyT T)),.im (.lst tP),.ls [],.un,.un,.un,.un]) rfl (yE T (by omega)))]
 refine(rT (ρ':=[.im (TD T),.im (.lst (wyT T)),.im (.lst tP),m1,s',.ls [],.un,.un]) rfl).trans ?_;refine(rT (ρ':=[.im (TD T),.im (.lst (wyT T)),.im (.lst tP),m1,s',.ls (vN.map D.str),z,.un]) (by kernel_rfl)).trans ?_;refine(rT (ρ':=[.im (TD T),.im (.lst (wyT T)),.im (.lst tP),m1,s',.ls (vN.map D.str),z,.im (.lst [.str "in", .str "north", .str "up"])]) (by kernel_rfl)).trans ?_;refine(rT (uA (ρ1:=[.im (TD T),.im (.lst (wyT T)),.im (.lst tP),m1,s',.im (.lst (vN.map D.str)),z,.im (.lst [.str "in", .str "north", .str "up"])]) (by kernel_rfl))).trans ?_;have no:∀x∈vI,x∉O:=λx hx ho=>by
  obtain⟨t,ht,hxt⟩:=List.mem_flatMap.mp ho;have hn:=(hwP t ht).1;rcases Dn (hwP t ht) hxt with rfl|rfl|rfl
  ·have sub:∀x∈vI,x∈(["red", "old", "take", "drop", "open", "shut", "light", "douse", "put", "go", "wait", "in", "north", "up", "the", "a", "undo", "restart"]:aB):=by decide
   exact QA hn (sub _ hx)
  ·exact aq hx (by decide)
  ·exact aq hx (by decide)
 have a1:=QC (l:=vI) (m:=O) (.inl rfl) (by decide) no;refine(rT (uA (ρ1:=[.im (TD T),.im (.lst (wyT T)),.im (.lst tP),.im (.lst (O.map D.str)),s',.im (.lst (vN.map D.str)),z,.im (.lst [.str "in", .str "north", .str "up"])]) (rU (rS (d:=.lst (vI.map D.str)) (ρ1:=[.im (TD T),.im (.lst (wyT T)),.im (.lst tP),m1,s',.im (.lst (vN.map D.str)),z,.im (.lst [.str "in", .str "north", .str "up"])]) (by kernel_rfl) (rS rfl rfl)) a1))).trans ?_;refine(rT (uA (ρ1:=[.im (TD T),.im (.lst (wyT T)),.im (.lst tP),.im (.lst (O.map D.str)),s',.im (.lst (vN.map D.str)),z,.im (.lst [.str "in", .str "north", .str "up"])]) (by kernel_rfl))).trans ?_;exact uA (by kernel_rfl)
structure Good(T:List Th)(M:List Mk)(dk:aB):Prop where
 len:T.length<=200
 r1:1<=(T.filter λt=>decide (t.k=.room)).length
 r5:(T.filter λt=>decide (t.k=.room)).length<=5
 y1:(T.filter λt=>decide (t.k=.you)).length=1
 p7:(T.filter λt=>t.k.pl).length<=7
 m4:M.length<=4
 mo:∀m∈M,m.ok
 nm:∀x∈T.map Th.n++M.map Mk.n,Nm x
 nd:(T.map Th.n++M.map Mk.n).Nodup
 st:∀t∈T,IR T t
 rk:∃r,Ls T r
 wd:∀t∈T,uU t
 d0:dk.length<=5
 d1:dk.Nodup
 d2:∀x∈dk,x∈rmN T
theorem Good.ndT(g:Good T M dk):(T.map Th.n).Nodup:=(bZ.mp g.nd).1
theorem Gs(T:List Th)(M:List Mk)(hl:T.length<=200)(hM:M.length<=4):∃l,xf [TD T,MD M]=some l:=by
 let ρ:aZ:=[.im (TD T),.im (MD M)];refine⟨_,zh (ρ:=ρ) rfl (ze (wc (sZ (v7 thD (λt=>D.str t.n) (λt=>t.k.mk) T (ρ1:=ρ) rfl (by omega) λt _=>⟨[.im (thD t)],[.im (thD t)],rfl,tu (tX (xs:=[.str t.n,.tup (t.w.map D.str),.str t.k.s,oS t.s]) (ys:=[]) rfl rfl rfl rfl (My t)),λ_=>⟨_,tE rfl (yD t),rfl⟩,λ_=>rfl⟩))
  (sZ (zU mkD (λt=>D.str t.n) M rfl (by omega) λt _=>⟨_,_,rfl,tE rfl (IP t),rfl⟩)) ?_))⟩
 have:=eC (λt:Th=>t.k.mk) T;rw[ag,ag];omega
theorem FZ(g:Good T M dk):yA [TD T,MD M,.lst (dk.map D.str),.lst (wyT T),.lst [],.lst tP]=some .non:=by
 have hl:=g.len;have hdk:dk.length<=1000:=by have:=g.d0;omega
 obtain⟨r,hr⟩:=g.rk;obtain⟨mn,emn⟩:=Gs T M hl g.m4;let ρ0:aZ:=[.im (TD T),.im (MD M),.im (.lst (dk.map D.str)),.im (.lst (wyT T)),.im (.lst []),.im (.lst tP),.un];let ρ:aZ:=[.im (TD T),.im (MD M),.im (.lst (dk.map D.str)),.im (.lst (wyT T)),.im (.lst []),.im (.lst tP),.im (.lst ((rmN T).map D.str))];refine zm (ρ:=ρ) rfl ?_;unfold yz;refine(rT (tJ (ρ':=ρ0) (rU rfl (El T (by omega) g.r1 g.r5 g.y1 g.p7)))).trans ?_;refine(rT (tJ (ρ':=ρ0) (rU rfl (FQ M g.m4 g.mo)))).trans ?_;refine(rT (tJ (ρ':=ρ0) (rU rfl (FU T M (by omega) (by have:=g.m4;omega) g.nm g.nd)))).trans ?_;refine(rT (tJ (ρ':=ρ0) (rU rfl (Em T (by omega) g.ndT r hr g.st)))).trans ?_;refine(rT (tJ (ρ':=ρ0) (rU rfl (FW T (by omega) g.wd)))).trans ?_;refine(rT (ρ':=ρ) ((su (sZ (Kc T (by omega) rfl))).trans rfl)).trans ?_;refine(rT (tJ (ρ':=ρ) (rU rfl (Gp dk (rmN T) hdk g.d1 g.d2)))).trans ?_;have cw:xg [.lst (wyT T),.lst ((rmN T).map D.str),.lst mn]=some .non:=Gr (rmN T) mn (Yp g.r1) (Yq g.r1);refine(rT (tJ (ρ':=ρ) (rU (rS rfl (rS rfl (rS (sZ (rU (g:=xf) (ds:=[TD T,MD M]) rfl emn)) rfl))) cw))).trans ?_;refine(rT (tJ (ρ':=ρ) (rU (g:=yy) (ds:=[.lst []]) (r:=.non) rfl (by kernel_rfl)))).trans ?_;exact tJ (ρ':=ρ) (rU (g:=uH) (ds:=[TD T,.lst (wyT T),.lst tP]) rfl (FY T hl g.wd))
theorem Lw(T:List Th)(hl:T.length<=900)(nd:(T.map Th.n).Nodup):Dk [TD T]=some (.dic (nK T) (T.map thD)):=by
 obtain⟨s',e1⟩:=yZ (g:=gN 2) (i:=1) (fk:=c1 cI aw) (fv:=cV 2) thD Th.n thD (λks ds s=>[.im (TD T),.dk ks ds,s])
  (λt ks ds s=>⟨[.im (TD T),.dk ks ds,.im (thD t)],rfl,rfl,rfl,tE rfl (yD t),λks' ds'=>⟨_,rfl⟩⟩) T [] [] .un (by rw[bJ];exact Mz nd) (by simp;omega) rfl
 refine sj (ρ:=[.im (TD T),.im (.dic (nK T) (T.map thD)),s']) rfl ?_;unfold Di;refine(rT (ρ':=[.im (TD T),.dk [] [],.un]) rfl).trans ?_;refine(rT ((tW rfl).trans e1)).trans ?_;rw[bJ,bJ];rfl
theorem TM(m:Mk):uX Fs "most" (mkD m)=some (.int m.mo):=rfl
theorem F0(T:List Th)(hl:T.length<=1000)(ns:aB)(rest:List L4.D)(k:Kd):wW [.obj 14 ("kept_things" ::ns) (TD T::rest),.str k.s]=some (.lst ((T.filter λt=>decide (t.k=k)).map λt=>D.str t.n)):=by let ρ:aZ:=[.im (.obj 14 ("kept_things" ::ns) (TD T::rest)),.im (.str k.s)];refine WA (ρ:=ρ) rfl ?_;exact ze (v7 thD (λt=>D.str t.n) (λt=>decide (t.k=k)) T (ρ1:=ρ) rfl hl λt _=>⟨[.im (thD t),.im (.str k.s)],[.im (thD t),.im (.str k.s)],rfl,tu (rY (tE rfl (BH t)) rfl (FP t.k k)),λ_=>⟨_,tE rfl (yD t),rfl⟩,λ_=>rfl⟩)
def shD(T:List Th)(y:Str):List L4.D:=(u0 [.str y,.lst (wyT T)]).getD []
theorem aam(T:List Th)(y:Str):u0 [.str y,.lst (wyT T)]=some (shD T y):=by kernel_rfl
def vwD:L4.D:=(uM [.lst tP]).getD .non
def rbD(T:List Th)(y:Str):L4.D:=(yU [.lst (shD T y)]).getD .non
def wNs:aB:=["kept_things", "kept_marks", "kept_dark", "kept_ways", "kept_verbs", "shared_verbs", "your_name", "things_by_name", "mosts_by_name", "verbs_by_word", "kept_rules", "shared_rules", "copied_rules", "rules_by_verb"]
def wDs(T:List Th)(M:List Mk)(dk:aB)(y:Str)(mo:L4.D):List L4.D:=[TD T,MD M,.lst (dk.map D.str),.lst (wyT T),.lst [],.lst tP,.str y,.dic (nK T) (T.map thD),mo,vwD,.lst [],.lst (shD T y),.lst [],rbD T y]
abbrev wR(T:List Th)(M:List Mk)(dk:aB)(ns:aB)(ds:List L4.D)(q:Sl):aZ:=[.ob 14 ns ds,.im (TD T),.im (MD M),.im (.lst (dk.map D.str)),.im (.lst (wyT T)),.im (.lst []),.im (.lst []),q]
abbrev wL(T:List Th)(M:List Mk)(dk:aB)(ns:aB)(ds:List L4.D)(q:Sl):aZ:=[.im (.obj 14 ns ds),.im (TD T),.im (MD M),.im (.lst (dk.map D.str)),.im (.lst (wyT T)),.im (.lst []),.im (.lst []),Bv q]
section
variable{T:List Th}{M:List Mk}{dk:aB}
theorem w_fl(h1:e (wR T M dk ns ds q)=some (d,wR T M dk ns ds q))(h2:ns.contains nm=false)(h3:ds.length=ns.length)(h4:ns.length<900):sY 14 0 nm e (wR T M dk ns ds q)=some (.nx (wR T M dk (ns++[nm]) (ds++[d]) q)):=by unfold sY;rw[h1];show (if 14=14 then if ns.contains nm=true then none else if ds.length=ns.length then if ns.length<900 then some (Out.nx (wR T M dk (ns++[nm]) (ds++[d]) q))else none else none else none)=_;rw[ai rfl,h2,aj br,ai h3,ai h4]
theorem QD(h1:e (wL T M dk ns ds q)=some (d,r))(h2:noC 16 14 d=true):ye 16 e (wR T M dk ns ds q)=some (d,wR T M dk ns ds q):=by
 unfold ye;show (match e (wL T M dk ns ds q)with
  |some (d,_)=>if (decide (14<16)&&noC 16 14 d)=true then some (d,wR T M dk ns ds q)else none
  |none=>none)=_
 rw[h1];simp only[h2];rfl
abbrev d6(T:List Th)(M:List Mk)(dk:aB):List L4.D:=[TD T,MD M,.lst (dk.map D.str),.lst (wyT T),.lst [],.lst tP]
abbrev n6:aB:=["kept_things", "kept_marks", "kept_dark", "kept_ways", "kept_verbs", "shared_verbs"]
theorem aao(y:Str)(hl:T.length<=1000)(hy:(T.filter λt=>decide (t.k=.you)).map Th.n=[y]):ye 16 (c2 dIx (t8 uN "of_kind" af (rR lS sS)) bH) (wR T M dk n6 (d6 T M dk) .un)=some (.str y,wR T M dk n6 (d6 T M dk) .un):=by
 refine QD (r:=wL T M dk n6 (d6 T M dk) .un) (rY (tX (xs:=d6 T M dk) (ys:=[.str Kd.you.s]) (hh:=wW) rfl rfl rfl rfl (F0 T hl _ _ .you)) rfl ?_) rfl;have:((T.filter λt=>decide (t.k=.you)).map λt=>D.str t.n)=[.str y]:=by rw[show (λt:Th=>D.str t.n)=D.str∘Th.n from rfl,<- aW,hy];rfl
 rw[this];rfl
end
section
variable{T:List Th}{M:List Mk}{dk:aB}
theorem aap:uM [.lst tP]=some vwD:=by kernel_rfl
theorem aaq(y:Str):yU [.lst (shD T y)]=some (rbD T y):=by kernel_rfl
theorem Yr:noC 16 14 vwD=true:=by kernel_rfl
theorem Ys(y:Str):noC 16 14 (rbD T y)=true:=by kernel_rfl
theorem Yt(y:Str):noC 16 14 (.lst (shD T y))=true:=by kernel_rfl
theorem Yu(y:Str):(shD T y).length<=900:=bP (by kernel_rfl)
abbrev n7:aB:=["kept_things", "kept_marks", "kept_dark", "kept_ways", "kept_verbs", "shared_verbs", "your_name"]
abbrev d7(T:List Th)(M:List Mk)(dk:aB)(y:Str):List L4.D:=[TD T,MD M,.lst (dk.map D.str),.lst (wyT T),.lst [],.lst tP,.str y]
theorem aar(ns:aB)(ds:List L4.D):vV [.obj 14 (n6++ns) (d6 T M dk++ds)]=some (.lst tP):=by kernel_rfl
theorem TN(ns:aB)(ds:List L4.D)(q:Sl)(hc:(n6++ns).contains "all_verbs" = false):ye 16 (rW uM (rR qC sS)) (wR T M dk (n6++ns) (d6 T M dk++ds) q)=some (vwD,wR T M dk (n6++ns) (d6 T M dk++ds) q):=
 QD (r:=wL T M dk (n6++ns) (d6 T M dk++ds) q) (rU (rS (tX (xs:=d6 T M dk++ds) (ys:=[]) (hh:=vV) rfl rfl hc rfl (aar ns ds)) rfl) aap) Yr
abbrev j4:=(rR aD sS)
theorem QE(y:Str)(ns:aB)(ds:List L4.D)(q:Sl):ye 16 (cL (sX u0 (rR mP j4))) (wR T M dk (n7++ns) (d7 T M dk y++ds) q)=some (.lst (shD T y),wR T M dk (n7++ns) (d7 T M dk y++ds) q):=
 QD (r:=wL T M dk (n7++ns) (d7 T M dk y++ds) q) (sZ (rU (ds:=[.str y,.lst (wyT T)]) rfl (aam T y))) (Yt (T:=T) y)
abbrev n13:aB:=["kept_things", "kept_marks", "kept_dark", "kept_ways", "kept_verbs", "shared_verbs", "your_name", "things_by_name", "mosts_by_name", "verbs_by_word", "kept_rules", "shared_rules", "copied_rules"]
theorem w_rb(y:Str)(a b c d:L4.D)(q:Sl):ye 16 (rW yU (rR qA sS)) (wR T M dk n13 [TD T,MD M,.lst (dk.map D.str),.lst (wyT T),.lst [],.lst tP,.str y,a,b,c,d,.lst (shD T y),.lst []] q)=some (rbD T y,wR T M dk n13 [TD T,MD M,.lst (dk.map D.str),.lst (wyT T),.lst [],.lst tP,.str y,a,b,c,d,.lst (shD T y),.lst []] q):=
 QD (r:=wL T M dk n13 [TD T,MD M,.lst (dk.map D.str),.lst (wyT T),.lst [],.lst tP,.str y,a,b,c,d,.lst (shD T y),.lst []] q) (rU (rS (sZ (wc (xs:=[]) (ys:=shD T y) rfl rfl (by have:=Yu (T:=T) y;simp;omega))) rfl) (aaq (T:=T) y)) (Ys (T:=T) y)
theorem IT(h1:e (wR T M dk ns ds q)=some (d,wR T M dk ns ds q))(h2:ns.contains nm=false)(h3:ds.length=ns.length)(h4:ns.length<900)(h:g (wR T M dk (ns++[nm]) (ds++[d]) q)=r):rV (sY 14 0 nm e) g (wR T M dk ns ds q)=r:=(rT (w_fl h1 h2 h3 h4)).trans h
theorem QF(g:Good T M dk)(y:Str)(hy:(T.filter λt=>decide (t.k=.you)).map Th.n=[y])(emo:uL [TD T,MD M]=some mo):vX [TD T,MD M,.lst (dk.map D.str),.lst (wyT T),.lst [],.lst []]=some (wNs,wDs T M dk y mo):=by
 have hl:=g.len;have e:vW (wR T M dk [] [] .un)=some (.nx (wR T M dk wNs (wDs T M dk y mo) (.im (.bl true)))):=by
  unfold vW;refine(rT (tJ (ρ':=wR T M dk [] [] .un) (rU (rS rfl (rS rfl (rS rfl (rS rfl (rS rfl (rS (sZ (rU (g:=u6) (ds:=[]) rfl Kg)) rfl)))))) (FZ g)))).trans ?_
  iterate 5 refine IT rfl rfl rfl (by decide) ?_
  refine IT (sZ (rU (g:=u6) (ds:=[]) rfl Kg)) rfl rfl (by decide) (IT (aao y (by omega) hy) rfl rfl (by decide) (IT (rU (ds:=[TD T]) rfl (Lw T (by omega) g.ndT)) rfl rfl (by decide) (IT (rU (ds:=[TD T,MD M]) rfl emo) rfl rfl (by decide)
   (IT (TN ["your_name", "things_by_name", "mosts_by_name"] [.str y,.dic (nK T) (T.map thD),mo] .un rfl) rfl rfl (by decide) ?_))))
  refine(rT ((su (i:=7) (QD (d:=.bl true) (T:=T) (M:=M) (dk:=dk) rfl rfl)).trans rfl)).trans ((rT (uA (ρ1:=_) rfl)).trans ?_);refine IT rfl rfl rfl (by decide) (IT (QE y ["things_by_name", "mosts_by_name", "verbs_by_word", "kept_rules"] [.dic (nK T) (T.map thD),mo,vwD,.lst []] (.im (.bl true))) rfl rfl (by decide) (IT rfl rfl rfl (by decide) ?_));exact w_fl (w_rb y _ _ _ _ (.im (.bl true))) rfl rfl (by decide)
 unfold vX fnI;rw[ai (show [TD T,MD M,D.lst (dk.map D.str),D.lst (wyT T),D.lst [],D.lst []].length=6 from rfl)];rw[show vW (stI 14 8 [TD T,MD M,.lst (dk.map D.str),.lst (wyT T),.lst [],.lst []])=some (.nx (wR T M dk wNs (wDs T M dk y mo) (.im (.bl true)))) from e];rfl
end
def IL(ds:List L4.D):Prop:=∃xs:List Int,ds=xs.map D.int
theorem IL.nil:IL []:=⟨[],rfl⟩
theorem IL.snoc{ds:List L4.D}(h:IL ds)(i:Int):IL (ds++[.int i]):=by obtain⟨xs,rfl⟩:=h;exact⟨xs++[i],by rw[bb];rfl⟩
theorem IL.sub(h:IL ds)(hs:∀d∈es,d∈ds):IL es:=by
 induction es with
 |nil=>exact IL.nil
 |cons d es ih=>obtain⟨ys,rfl⟩:=ih λd hd=>hs d (bf _ hd);obtain⟨xs,rfl⟩:=h;obtain⟨i,_,rfl⟩:=aG.mp (hs d aV);exact⟨i::ys,rfl⟩
theorem TQ{lo:Option Int}:∀d∈cutD ds lo hi,d∈ds:=λd hd=>by unfold cutD at hd;exact kj (n9 hd)
def MB:FS:=qf
def QG:FT:=Bb (vw (cT mH) (cT jJ))
theorem Ec(c:Int)(m:Nat)(hm:m<=130):∀(n:Nat) (ds:List L4.D) (r:Int),IL ds->ds.length<=m->m - ds.length<n->∃ds' r',IL ds'/\ds'.length<=m/\
  whL QG MB n [.im (.int c),.im (.int m),.ls ds,.im (.int r),.un,.un,.un]=some (.nx [.im (.int c),.im (.int m),.ls ds',.im (.int r'),.un,.un,.un])
 |0,ds,r,_,_,h=>aq h (pz _)
 |n+1,ds,r,hi,hl,hn=>by
  have ht:QG [.im (.int c),.im (.int m),.ls ds,.im (.int r),.un,.un,.un]=some (decide (0<r)&&decide (ds.length<m),[.im (.int c),.im (.int m),.ls ds,.im (.int r),.un,.un,.un]):=by
   refine Il (ρ1:=[.im (.int c),.im (.int m),.im (.lst ds),.im (.int r),.un,.un,.un]) ?_;show vw _ _ [.im (.int c),.im (.int m),.im (.lst ds),.im (.int r),.un,.un,.un]=_;unfold vw;rw[show cT mH [.im (.int c),.im (.int m),.im (.lst ds),.im (.int r),.un,.un,.un]=some (decide (0<r),[.im (.int c),.im (.int m),.im (.lst ds),.im (.int r),.un,.un,.un]) from rfl];cases decide (0<r)with
   |false=>rfl
   |true=>show cT jJ _=some (decide (ds.length<m),_);rw[show cT jJ [.im (.int c),.im (.int m),.im (.lst ds),.im (.int r),.un,.un,.un]=some (decide ((ds.length:Int)<m),[.im (.int c),.im (.int m),.im (.lst ds),.im (.int r),.un,.un,.un]) from rfl];simp only[Int.ofNat_lt]
  unfold whL;rw[ht];cases hq:(decide (0<r)&&decide (ds.length<m))with
  |false=>exact⟨ds,r,hi,hl,rfl⟩
  |true=>
   rw[bh,bA,bA]at hq;have e1:MB [.im (.int c),.im (.int m),.ls ds,.im (.int r),.un,.un,.un]=some (.nx [.im (.int c),.im (.int m),.ls (ds++[.int (r % 1000000)]),.im (.int (r / 1000000)),.un,.un,.un]):=by unfold MB;refine(rT (ρ':=[.im (.int c),.im (.int m),.ls (ds++[.int (r % 1000000)]),.im (.int r),.un,.un,.un]) ((tJ (xG (es0:=ds) (es:=ds) (ρ1:=[.im (.int c),.im (.int m),.ls ds,.im (.int r),.un,.un,.un]) rfl (rY rfl rfl (w5 (by decide))) rfl (by omega))).trans rfl)).trans ?_;exact(su (rY rfl rfl (div_pos (by decide) (by decide)))).trans rfl
   simp only[e1];exact Ec c m hm n _ _ (hi.snoc _) (by rw[aA,ba];omega) (by rw[aA,ba];omega)
def fBody:FS:=p6
theorem modS(a:Int):0<=a % 2147483647/\a % 2147483647<2147483647:=⟨kJ _ (by decide),kB _ (by decide)⟩
theorem HC(a b r:Sl):∀(l:List Int) (ds:List L4.D) (x:Int) (s5 s6:Sl),IL ds->ds.length+l.length<=900->∃ds' x' t5 t6,IL ds'/\
  forL dA fBody (l.map D.int) [a,b,.ls ds,r,.im (.int x),s5,s6]=some (.nx [a,b,.ls ds',r,.im (.int x'),t5,t6])
 |[],ds,x,s5,s6,hi,_=>⟨ds,x,s5,s6,hi,rfl⟩
 |k::l,ds,x,s5,s6,hi,hl=>by
  rw[aE]at hl;let y:=(x+7919 * k+1) * 48271 % 2147483647;let z:=y * (y / 1009+69621) % 2147483647;let v:=z * (z / 2003+40692) % 2147483399;have hy:=modS ((x+7919 * k+1) * 48271);have hz:=modS (y * (y / 1009+69621));have e1:fBody [a,b,.ls ds,r,.im (.int x),.im (.int k),s6]=some (.nx [a,b,.ls (ds++[.int v]),r,.im (.int y),.im (.int k),.im (.int z)]):=by unfold fBody;refine(rT (ρ':=[a,b,.ls ds,r,.im (.int y),.im (.int k),s6]) ((su (rY (rY (rY (rY rfl (rY rfl rfl (xt (.inl (by decide)))) rfl) rfl rfl) rfl (xt (.inr (by decide)))) rfl (w5 (by decide)))).trans rfl)).trans ?_;refine(rT (ρ':=[a,b,.ls ds,r,.im (.int y),.im (.int k),.im (.int z)]) ((su (rY (rY rfl (rY (rY rfl rfl (div_pos (by decide) (by decide))) rfl rfl) (xt (.inl (JC hy.1 hy.2)))) rfl (w5 (by decide)))).trans rfl)).trans ?_;exact(tJ (xG (es0:=ds) (es:=ds) (ρ1:=[a,b,.ls ds,r,.im (.int y),.im (.int k),.im (.int z)]) rfl (rY (rY rfl (rY (rY rfl rfl (div_pos (by decide) (by decide))) rfl rfl) (xt (.inl (JC hz.1 hz.2)))) rfl (w5 (by decide))) rfl (by omega))).trans rfl
  obtain⟨ds',x',t5,t6,h1,h2⟩:=HC a b r l (ds++[.int v]) y (.im (.int k)) (.im (.int z)) (hi.snoc _) (by rw[aA,ba];omega);refine⟨ds',x',t5,t6,h1,?_⟩;rw[au];unfold forL;rw[show gN 5 (.int k) [a,b,.ls ds,r,.im (.int x),s5,s6]=some [a,b,.ls ds,r,.im (.int x),.im (.int k),s6] from rfl];simp only[e1];exact h2
theorem Kh(c:Int)(m:Nat)(hm:m<=130):∃ds,IL ds/\xi [.int c,.int m]=some ds:=by
 have fin:∀r0:Int,∃ds,IL ds/\∃ρ,rV (whL QG MB 200) (rV qm (rV (vB (iR1 ah) dA fBody) qH)) [.im (.int c),.im (.int m),.ls [],.im (.int r0),.un,.un,.un]=some (.rn ds ρ):=λr0=>by obtain⟨ds,r,h1,h2,h3⟩:=Ec c m hm 200 [] r0 IL.nil (cj _) (by simp;omega);let x:=(c % 2147483647+1) * 48271 % 2147483647;obtain⟨ds',x',t5,t6,h4,h5⟩:=HC (.im (.int c)) (.im (.int m)) (.im (.int r)) ((bB m).map λ(i:Nat)=>(0:Int)+(i:Int)) ds x .un .un h1 (by rw[ag,gO];omega);refine⟨cutD ds' none (some m),h4.sub TQ,[.im (.int c),.im (.int m),.im (.lst ds'),.im (.int r),.im (.int x'),t5,t6],?_⟩;refine(rT h3).trans ?_;refine(rT (ρ':=[.im (.int c),.im (.int m),.ls ds,.im (.int r),.im (.int x),.un,.un]) ((su (rY (rY (rY (rY rfl rfl (w5 (by decide))) rfl rfl) rfl (xt (.inr (by decide)))) rfl (w5 (by decide)))).trans rfl)).trans ?_;refine(rT ((tW (ds:=((bB m).map λ(i:Nat)=>(0:Int)+(i:Int)).map D.int) (ρ1:=[.im (.int c),.im (.int m),.ls ds,.im (.int r),.im (.int x),.un,.un]) ?_).trans h5)).trans rfl;unfold iR1;show (if -1000000<=(m:Int)/\(m:Int)<=1000000 then some (E2 0 (m:Int).toNat,_)else none)=_;rw[ai (by omega),iP];unfold E2;rw[aW];rfl
 by_cases hc:(1000000000000000000:Int)<=c
 ·obtain⟨ds,h1,ρ,h2⟩:=fin (c - 1000000000000000000);refine⟨ds,h1,zh (ρ:=ρ) rfl ?_⟩;refine(rT (ρ':=[.im (.int c),.im (.int m),.ls [],.un,.un,.un,.un]) rfl).trans ((rT (ρ':=[.im (.int c),.im (.int m),.ls [],.im (.int 0),.un,.un,.un]) rfl).trans ((rT (ρ':=[.im (.int c),.im (.int m),.ls [],.im (.int (c - 1000000000000000000)),.un,.un,.un]) ((sG (ρ':=[.im (.int c),.im (.int m),.ls [],.im (.int 0),.un,.un,.un]) ?_).trans rfl)).trans h2));refine tu (rY (y:=.int 1000000000000000000) rfl rfl ?_);show some (D.bl (decide _))=_;rw[aX hc]
 ·obtain⟨ds,h1,ρ,h2⟩:=fin 0;refine⟨ds,h1,zh (ρ:=ρ) rfl ?_⟩;refine(rT (ρ':=[.im (.int c),.im (.int m),.ls [],.un,.un,.un,.un]) rfl).trans ((rT (ρ':=[.im (.int c),.im (.int m),.ls [],.im (.int 0),.un,.un,.un]) rfl).trans ((rT (ρ':=[.im (.int c),.im (.int m),.ls [],.im (.int 0),.un,.un,.un]) ((rZ (ρ':=[.im (.int c),.im (.int m),.ls [],.im (.int 0),.un,.un,.un]) ?_).trans rfl)).trans h2));refine tu (rY (y:=.int 1000000000000000000) rfl rfl ?_);show some (D.bl (decide _))=_;rw[aL hc]
theorem HD:∀xs:List Int,CP (xs.map D.int)=some (xs.map L3.Dq.int)
 |[]=>rfl
 |x::xs=>by rw[au];unfold CP;rw[HD xs];rfl
theorem Ki(x:Int)(xs:List Int):dEq false (.lst ((x::xs).map D.int)) (.lst [])=some (.bl false):=by
 have e0:CQ false (.lst ((x::xs).map D.int)) (.lst [])=none:=rfl;have e1:toD (.lst ((x::xs).map D.int))=some (.lst ((x::xs).map L3.Dq.int)):=by unfold toD;rw[HD]
 have e2:∀ys:List Int,uB (ys.map L3.Dq.int)=0:=λys=>by
  induction ys with
  |nil=>rfl
  |cons y ys ih=>rw[au];unfold uB;rw[ih];unfold dpt;rfl
 have e3:dpt (.lst ((x::xs).map L3.Dq.int))=1:=by rw[dpt,e2]
 unfold dEq;rw[e0];show CS false _ _=_;unfold CS;rw[e1,show toD (.lst [])=some (.lst []) from rfl];show (if GL (.lst ((x::xs).map L3.Dq.int)) (.lst [])&&decide (dpt (.lst ((x::xs).map L3.Dq.int))<=20)&&decide (dpt (.lst [])<=20)then some (D.bl (eqD (.lst ((x::xs).map L3.Dq.int)) (.lst [])))else none)=_;rw[e3];rfl
theorem ue(h:IL es)(n:Int)(hn:0<n):∃r es',IL es'/\0<=r/\r<n/\rX es [.int n]=some (.int r,es'):=by
 obtain⟨xs,rfl⟩:=h;cases xs with
 |nil=>exact⟨0,[],IL.nil,Int.le_refl _,hn,rfl⟩
 |cons x xs=>refine⟨x % n,xs.map D.int,⟨xs,rfl⟩,kJ _ (by omega),kB _ hn,?_⟩;refine Wh (ρ:=[.pm (xs.map D.int),.im (.int n)]) rfl ?_ rfl;refine(rT (ρ':=[.pm ((x::xs).map D.int),.im (.int n)]) ((rZ (ρ':=[.pm ((x::xs).map D.int),.im (.int n)]) (Il (ρ1:=[.im (.lst ((x::xs).map D.int)),.im (.int n)]) (tu (rY (x:=.lst ((x::xs).map D.int)) (y:=.lst []) rfl rfl (Ki x xs))))).trans rfl)).trans ?_;exact sy (rY (x:=.int x) (ρ1:=[.pm (xs.map D.int),.im (.int n)]) rfl rfl (w5 hn))
def lets:Str:="bcdefghijklmnopqrstuvwxyz"
theorem Yv(i:Nat)(h:i<25):dIx (.str lets) (.int i)=some (.str ⟨#[98+i]⟩):=by
 have q:((bB 25).all λi=>match dIx (.str lets) (.int i)with|some (.str x)=>decide (x=⟨#[98+i]⟩)|_=>false)=true:=by kernel_rfl
 have:=bD.mp q i (cu.mpr h);revert this;split
 ·rename_i x e;intro z;rw[e,bo z]
 ·intro z;cases z
abbrev hU:=(tI rX 2 (rR (cC (.int 8)) sS))
def nElt:FE:=(c2 JE (c2 dIx ah l9) (c2 uu aR hU))
theorem TR(h:IL es)(s k:Nat):∃c es',c<8/\IL es'/\nElt [.im (.int k),.im (.str lets),.pm es,.im (.int s)]=some (.str (nmS ((s+7 * k) % 25) c),[.im (.int k),.im (.str lets),.pm es',.im (.int s)]):=by
 obtain⟨r,es',h1,h2,h3,h4⟩:=ue h 8 (by decide);obtain⟨c,rfl⟩:=cp h2;refine⟨c,es',by omega,h1,?_⟩;have hm:(s+7 * k) % 25<25:=Nat.mod_lt _ (by decide);let ρ:aZ:=[.im (.int k),.im (.str lets),.pm es,.im (.int s)];let ρ':aZ:=[.im (.int k),.im (.str lets),.pm es',.im (.int s)];have e1:c2 dIx ah l9 ρ=some (.str ⟨#[98+(s+7 * k) % 25]⟩,ρ):=by
  refine rY (y:=.int (((s+7 * k) % 25:Nat):Int)) rfl (rY (rY rfl (rY rfl rfl (xt (.inl (by decide)))) rfl) rfl ((w5 (by decide)).trans ?_)) (Yv _ hm);have:((s:Int)+7 * k) % 25=(((s+7 * k) % 25:Nat):Int):=by omega
  rw[this]
 have e2:c2 uu aR hU ρ=some (.int (1+(c:Int)),ρ'):=rY rfl ((uS (es0:=es) (es:=es) (ρ1:=ρ) rfl rfl rfl h4).trans rfl) rfl;refine rY e1 e2 ?_;show (if 0<=1+(c:Int)/\1+(c:Int)<=1000/\Str.length ⟨#[98+(s+7 * k) % 25]⟩<=100 then some (D.str (hG ⟨#[98+(s+7 * k) % 25]⟩ (1+(c:Int))))else none)=_;rw[ai ⟨by omega,by omega,by show 1<=100;decide⟩];rfl
theorem Kj(s:Nat):∀(l:List Nat) (es:List L4.D),IL es->∃cs es',cs.length=l.length/\(∀c∈cs,c<8)/\IL es'/\
  v9 1 [2,0,1] aH tR nElt (l.map λ(k:Nat)=>D.int k) [.pm es,.im (.int s),.im (.str lets)]=some (c4 (λ(k c:Nat)=>D.str (nmS ((s+7 * k) % 25) c)) l cs,[.pm es',.im (.int s),.im (.str lets)])
 |[],es,h=>⟨[],es,rfl,λc hc=>(bR hc).elim,h,rfl⟩
 |k::l,es,h=>by
  obtain⟨c,es1,h1,h2,h3⟩:=TR h s k;obtain⟨cs,es',h4,h5,h6,h7⟩:=Kj s l es1 h2;refine⟨c::cs,es',by rw[aE,aE,h4],λx hx=>?_,h6,?_⟩
  ·rcases aK.mp hx with rfl|hx
   ·exact h1
   ·exact h5 x hx
  ·rw[au];unfold v9;rw[show gN 0 (.int k) (A5 1 [2,0,1] [.pm es,.im (.int s),.im (.str lets)])=some [.im (.int k),.im (.str lets),.pm es,.im (.int s)] from rfl];simp only[tR,h3];rw[show vA [2,0,1] (([.im (.int k),.im (.str lets),.pm es1,.im (.int s)]:aZ).drop 1) [.pm es,.im (.int s),.im (.str lets)]=some [.pm es1,.im (.int s),.im (.str lets)] from rfl];simp only[h7];rfl
theorem QH(s:Nat)(hs:s<25):∀(l cs:List Nat),cs.length=l.length->(∀c∈cs,c<8)->(l.map λk=>(s+7 * k) % 25).Nodup->∃N:aB,N.length=l.length/\(∀x∈N,Nm x)/\N.Nodup/\(∀x∈N,∃k∈l,sg x=98+(s+7 * k) % 25)/\c4 (λ(k c:Nat)=>D.str (nmS ((s+7 * k) % 25) c)) l cs=N.map D.str
 |[],[],_,_,_=>⟨[],rfl,λx h=>(bR h).elim,gU,λx h=>(bR h).elim,rfl⟩
 |[],c::cs,h,_,_=>by cases h
 |k::l,[],h,_,_=>by cases h
 |k::l,c::cs,h,hc,nd=>by
  rw[au,cc]at nd;obtain⟨N,h1,h2,h3,h4,h5⟩:=QH s hs l cs (by simpa using h) (λx hx=>hc x (bf _ hx)) nd.2;have hm:(s+7 * k) % 25<25:=Nat.mod_lt _ (by decide);have hsg:=aal hm (hc c aV);refine⟨nmS ((s+7 * k) % 25) c::N,by rw[aE,aE,h1],λx hx=>?_,?_,λx hx=>?_,?_⟩
  ·rcases aK.mp hx with rfl|hx
   ·exact⟨_,_,hm,hc c aV,rfl⟩
   ·exact h2 x hx
  ·rw[cc];refine⟨λz=>?_,h3⟩;obtain⟨j,hj,e⟩:=h4 _ z;rw[hsg]at e;exact nd.1 (aG.mpr ⟨j,hj,by omega⟩)
  ·rcases aK.mp hx with rfl|hx
   ·exact⟨k,aV,hsg⟩
   ·obtain⟨j,hj,e⟩:=h4 x hx;exact⟨j,bf _ hj,e⟩
  ·rw[eB,h5];rfl
structure Nms(N:aB):Prop where
 len:N.length=17
 nm:∀x∈N,Nm x
 nd:N.Nodup
theorem QI(h:IL es):∃N es',Nms N/\IL es'/\zC es []=some (.lst (N.map D.str),es'):=by
 obtain⟨r,es1,h1,h2,h3,h4⟩:=ue h 25 (by decide);obtain⟨s,rfl⟩:=cp h2;have hs:s<25:=by omega
 obtain⟨cs,es2,h5,h6,h7,h8⟩:=Kj s (bB 17) es1 h1;have nd:((bB 17).map λk=>(s+7 * k) % 25).Nodup:=by
  have q:((bB 25).all λs=>decide ((bB 17).map λk=>(s+7 * k) % 25).Nodup)=true:=by decide +kernel
  exact bo (bD.mp q s (cu.mpr hs))
 obtain⟨N,n1,n2,n3,_,n5⟩:=QH s hs (bB 17) cs h5 h6 nd;refine⟨N,es2,⟨by rw[n1,gO],n2,n3⟩,h7,Wi (ρ:=[.pm es2,.im (.int s),.im (.str lets)]) rfl ?_ rfl⟩;unfold zB;refine(rT (ρ':=[.pm es1,.im (.int s),.un]) ((su (uS (es0:=es) (es:=es) (ρ1:=[.pm es,.un,.un]) rfl rfl rfl h4)).trans rfl)).trans ?_;refine(rT (ρ':=[.pm es1,.im (.int s),.im (.str lets)]) rfl).trans ?_;refine ze ((zg (ds:=(bB 17).map λ(k:Nat)=>D.int k) (ρ1:=[.pm es1,.im (.int s),.im (.str lets)]) ?_ (by simp)).trans (by rw[<-n5];exact h8));unfold iR1;show (if _ then some (E2 0 17,_)else none)=_;rw[ai (by decide)];unfold E2;simp only[Int.zero_add]
structure Rw where
 n:Str
 k:Kd
 s:Option Str
def sN(r:Rw):L4.D:=.tup [.str r.n,.str r.k.s,oS r.s]
def IU(l:List Rw)(r:Rw):Prop:=(r.k=.room/\r.s=none)\/(r.k=.you/\∃u∈l,r.s=some u.n/\u.k=.room)\/(r.k.pl=true/\∃u∈l,r.s=some u.n/\u.k.hd=true)
inductive Ord:List Rw->Prop
 |nil:Ord []
 |snoc {l:List Rw} {r:Rw} (h:Ord l) (h':IU l r):Ord (l++[r])
theorem IU.mono(h:IU l r)(hs:∀u∈l,u∈l'):IU l' r:=by
 rcases h with h|⟨h1,u,h2,h3⟩|⟨h1,u,h2,h3⟩
 ·exact .inl h
 ·exact .inr (.inl ⟨h1,u,hs u h2,h3⟩)
 ·exact .inr (.inr ⟨h1,u,hs u h2,h3⟩)
theorem Ord.all(h:Ord l):∀r∈l,IU l r:=by
 induction h with
 |nil=>exact λr hr=>(bR hr).elim
 |snoc h h' ih=>
  intro r hr;rcases bu.mp hr with hr|hr
  ·exact(ih r hr).mono λu hu=>bF _ hu
  ·rw[aP]at hr;subst hr;exact h'.mono λu hu=>bF _ hu
theorem IU.start(h:IU l r)(hp:r.s=some p):∃u∈l,u.n=p:=by
 rcases h with ⟨_,h⟩|⟨_,u,h2,h3,_⟩|⟨_,u,h2,h3,_⟩
 ·rw[h]at hp;cases hp
 ·rw[h3]at hp;cases hp;exact⟨u,h2,rfl⟩
 ·rw[h3]at hp;cases hp;exact⟨u,h2,rfl⟩
theorem Ord.rank(h:Ord l):(l.map Rw.n).Nodup->∃rk:Str->Nat,∀t∈l,rk t.n<l.length/\∀p,t.s=some p->rk p<rk t.n/\∃u∈l,u.n=p:=by
 induction h with
 |nil=>exact λ_=>⟨λ_=>0,λt ht=>(bR ht).elim⟩
 |@snoc l r h h' ih=>
  intro nd;rw[bb,bZ]at nd;obtain⟨rk,hk⟩:=ih nd.1;have ne:∀u∈l,u.n≠r.n:=λu hu z=>nd.2.2 _ (cq hu) _ (by simp) z;refine⟨λx=>if x=r.n then l.length else rk x,λt ht=>?_⟩;rw[aA,ba];dsimp only;rcases bu.mp ht with ht|ht
  ·obtain⟨h1,h2⟩:=hk t ht;rw[aj (ne t ht)];refine⟨by omega,λp hp=>?_⟩;obtain⟨h3,u,hu,rfl⟩:=h2 p hp;rw[aj (ne u hu)];exact⟨h3,u,bF _ hu,rfl⟩
  ·rw[aP]at ht;subst ht;rw[ai rfl];refine⟨by omega,λp hp=>?_⟩;obtain⟨u,hu,rfl⟩:=h'.start hp;rw[aj (ne u hu)];exact⟨(hk u hu).1,u,bF _ hu,rfl⟩
theorem vc{l:aB}{j:Nat}{x:Str}(h:l[j]?=some x):atI (l.map D.str) (j:Int)=some (.str x):=Eo (by rw[bt,h];rfl)
def kT:List Kd:=[.plain,.box,.lamp,.fixed,.box,.lamp,.box,.plain]
theorem aat(j:Nat)(h:j<8):∃k,k∈kT/\dIx (.lst [.str "plain", .str "box", .str "lamp", .str "fixed", .str "box", .str "lamp", .str "box", .str "plain"]) (.int j)=some (.str (Kd.s k)):=by
 match j,h with
 |0,_=>exact⟨.plain,by decide,rfl⟩
 |1,_=>exact⟨.box,by decide,rfl⟩
 |2,_=>exact⟨.lamp,by decide,rfl⟩
 |3,_=>exact⟨.fixed,by decide,rfl⟩
 |4,_=>exact⟨.box,by decide,rfl⟩
 |5,_=>exact⟨.lamp,by decide,rfl⟩
 |6,_=>exact⟨.box,by decide,rfl⟩
 |7,_=>exact⟨.plain,by decide,rfl⟩
abbrev dZ:=(cC (.str "box"))
abbrev lX:=(cC (.str "plain"))
abbrev mQ:=(cC (.str "lamp"))
abbrev jY:=(rR (BW fX) sS)
def QJ:FS:=(rV (sM 6 (c2 dIx (cL (sV (rR lX (rR dZ (rR mQ (rR (cC (.str "fixed")) (rR dZ (rR mQ (rR dZ (rR lX sS)))))))))) hU))
 (rV (sT (yK 3 (tH (rR aO (rR bj (rR (Ih 4 (tI rX 2 jY)) sS))))))
 (sIf (cT (c2 av bj dZ)) mh sF)))
theorem IV(h:IL es)(h0:Hs≠[])(hi:uc ρ i=some es)(hj:uc ρ j=some (Hs.map D.str))(hb:cV j (ρ.map Sl.bor)=some (.lst (Hs.map D.str),ρ.map Sl.bor))(hne:∀es',uc (putAt ρ i es') j=some (Hs.map D.str)):
  ∃x es',x∈Hs/\IL es'/\Ih j (tI rX i (rR (BW (c1 xW (cV j))) sS)) ρ=some (.str x,putAt ρ i es'):=by
 have hp:0<Hs.length:=oi.mpr h0;obtain⟨r,es',h1,h2,h3,h4⟩:=ue h Hs.length (by omega);obtain⟨m,rfl⟩:=cp h2;have hm:m<Hs.length:=by omega
 refine⟨Hs[m],es',dg hm,h1,?_⟩;have e1:BW (c1 xW (cV j)) ρ=some (.int Hs.length,ρ):=Py (tE hb (by show some (D.int _)=_;rw[ag])) rfl;have e2:tI rX i (rR (BW (c1 xW (cV j))) sS) ρ=some (.int m,putAt ρ i es'):=uS hi (rS e1 rfl) hi h4;unfold Ih;rw[hj];simp only[e2,hne es'];rw[show atI (Hs.map D.str) (m:Int)=some (.str Hs[m]) from vc (aN hm)]
theorem Ed(a b:Sl)(B:List Rw):∀(l:aB) (es:List L4.D) (O:List Rw) (Hs:aB) (s5 s6:Sl),IL es->Hs≠[]->(∀x∈Hs,∃u∈B++O,u.n=x/\u.k.hd=true)->Ord (B++O)->O.length+l.length<=900->Hs.length+l.length<=900->
  ∃(es':List L4.D) (O':List Rw) (Hs':aB) (t5 t6:Sl),IL es'/\Ord (B++(O++O'))/\O'.map Rw.n=l/\(∀r∈O',r.k.pl=true)/\
   forL dA QJ (l.map D.str) [a,b,.pm es,.ls (O.map sN),.ls (Hs.map D.str),s5,s6]=some (.nx [a,b,.pm es',.ls ((O++O').map sN),.ls (Hs'.map D.str),t5,t6])
 |[],es,O,Hs,s5,s6,hi,_,_,ho,_,_=>⟨es,[],Hs,s5,s6,hi,by rw[bq];exact ho,rfl,λr hr=>(bR hr).elim,by rw[bq];rfl⟩
 |x::l,es,O,Hs,s5,s6,hi,h0,hH,ho,hl,hl'=>by
  rw[aE]at hl hl';obtain⟨r,es1,h1,h2,h3,h4⟩:=ue hi 8 (by decide);obtain⟨j,rfl⟩:=cp h2;obtain⟨k,hk,ek⟩:=aat j (by omega);let ρ1:aZ:=[a,b,.pm es1,.ls (O.map sN),.ls (Hs.map D.str),.im (.str x),.im (.str k.s)];obtain⟨p,es2,hp,h5,e2⟩:=IV (ρ:=ρ1) (i:=2) (j:=4) h1 h0 rfl rfl rfl (λ_=>rfl);have hpl:k.pl=true:=by
   have:∀k∈kT,Kd.pl k=true:=by decide
   exact this k hk
  let rw0:Rw:=⟨x,k,some p⟩;obtain⟨u,hu,hun,huk⟩:=hH p hp;have ok:IU (B++O) rw0:=.inr (.inr ⟨hpl,u,hu,by rw[hun],huk⟩);let Hs1:aB:=if k=.box then Hs++[x]else Hs
  have e3:QJ [a,b,.pm es,.ls (O.map sN),.ls (Hs.map D.str),.im (.str x),s6]=some (.nx [a,b,.pm es2,.ls ((O++[rw0]).map sN),.ls (Hs1.map D.str),.im (.str x),.im (.str k.s)]):=by
   unfold QJ;refine(rT (ρ':=ρ1) ((su (rY (x:=.lst [.str "plain", .str "box", .str "lamp", .str "fixed", .str "box", .str "lamp", .str "box", .str "plain"]) (ρ1:=[a,b,.pm es,.ls (O.map sN),.ls (Hs.map D.str),.im (.str x),s6]) rfl (uS (es0:=es) (es:=es) (ρ1:=[a,b,.pm es,.ls (O.map sN),.ls (Hs.map D.str),.im (.str x),s6]) rfl rfl rfl h4) ek)).trans rfl)).trans ?_;let ρ2:aZ:=[a,b,.pm es2,.ls (O.map sN),.ls (Hs.map D.str),.im (.str x),.im (.str k.s)];let ρ3:aZ:=[a,b,.pm es2,.ls ((O++[rw0]).map sN),.ls (Hs.map D.str),.im (.str x),.im (.str k.s)];refine(rT (ρ':=ρ3) ((tJ (xG (es0:=O.map sN) (es:=O.map sN) (ρ1:=ρ2) (d:=sN rw0) rfl (uF (rS rfl (rS rfl (rS e2 rfl))) (by show 3<=1000;decide)) rfl (by rw[ag];omega))).trans ?_)).trans ?_
   ·show some (Out.nx [a,b,.pm es2,.ls (O.map sN++[sN rw0]),.ls (Hs.map D.str),.im (.str x),.im (.str k.s)])=_;rw[show O.map sN++[sN rw0]=(O++[rw0]).map sN by rw[bb];rfl]
   ·have et:cT (c2 av bj dZ) ρ3=some (decide (k=.box),ρ3):=tu (rY rfl rfl (FP k .box));by_cases hb:k=.box
    ·rw[aX hb]at et;refine(sG et).trans ((tJ (xG (es0:=Hs.map D.str) (es:=Hs.map D.str) (ρ1:=ρ3) (d:=.str x) rfl rfl rfl (by rw[ag];omega))).trans ?_);show some (Out.nx [a,b,.pm es2,.ls ((O++[rw0]).map sN),.ls (Hs.map D.str++[.str x]),.im (.str x),.im (.str k.s)])=_;rw[show Hs1.map D.str=Hs.map D.str++[.str x] by rw[show Hs1=Hs++[x] from ai hb,bb];rfl]
    ·rw[aL hb]at et;refine(rZ et).trans ?_;rw[show Hs1=Hs from aj hb];rfl
  have ho1:Ord (B++(O++[rw0])):=by rw[<-bw];exact ho.snoc ok
  have hH1:∀y∈Hs1,∃u∈B++(O++[rw0]),u.n=y/\u.k.hd=true:=λy hy=>by
   have old:y∈Hs->∃u∈B++(O++[rw0]),u.n=y/\u.k.hd=true:=λhy=>by obtain⟨v,hv,h⟩:=hH y hy;exact⟨v,by rw[<-bw];exact bF _ hv,h⟩
   by_cases hb:k=.box
   ·rw[show Hs1=Hs++[x] from ai hb]at hy;rcases bu.mp hy with hy|hy
    ·exact old hy
    ·rw[aP]at hy;refine⟨rw0,by simp,hy.symm,?_⟩;show k.hd=true;rw[hb];rfl
   ·rw[show Hs1=Hs from aj hb]at hy;exact old hy
  have h01:Hs1≠[]:=by
   by_cases hb:k=.box
   ·rw[show Hs1=Hs++[x] from ai hb];simp
   ·rw[show Hs1=Hs from aj hb];exact h0
  have hl1:Hs1.length<=Hs.length+1:=by
   by_cases hb:k=.box
   ·rw[show Hs1=Hs++[x] from ai hb];simp
   ·rw[show Hs1=Hs from aj hb];omega
  obtain⟨es',O',Hs',t5,t6,g1,g2,g3,g4,g5⟩:=Ed a b B l es2 (O++[rw0]) Hs1 (.im (.str x)) (.im (.str k.s)) h5 h01 hH1 ho1 (by rw[aA,ba];omega) (by omega);refine⟨es',rw0::O',Hs',t5,t6,g1,by rw[bw]at g2;exact g2,by rw[au,g3],λr hr=>?_,?_⟩
  ·rcases aK.mp hr with rfl|hr
   ·exact hpl
   ·exact g4 r hr
  ·rw[au];unfold forL;rw[show gN 5 (.str x) [a,b,.pm es,.ls (O.map sN),.ls (Hs.map D.str),s5,s6]=some [a,b,.pm es,.ls (O.map sN),.ls (Hs.map D.str),.im (.str x),s6] from rfl];simp only[e3];rw[g5,bw];rfl
variable{ds:List L4.D}
theorem QK(k:Nat)(h:k<=ds.length):cutD ds none (some (k:Int))=ds.take k:=by unfold cutD;rw[HT.EG,HT.BL,dO h,pF,Nat.sub_zero]
theorem Yy(k:Nat)(h:k<=ds.length):cutD ds (some (k:Int)) none=ds.drop k:=by unfold cutD;rw[HT.EG,HT.BL,dO h,nQ (by rw[cb];omega)]
theorem MC(k m:Nat)(h:k+m<=ds.length):cutD ds (some (k:Int)) (some ((k+m:Nat):Int))=(ds.drop k).take m:=by unfold cutD;rw[HT.BL,HT.BL,dO h,dO (show k<=ds.length by omega)];congr 1;omega
abbrev mF:=(c2 uu dY hU)
theorem Ob{rooms:aB}(hN:Nms N)(B:List Rw)(h:IL es)(hB:Ord B)(hr:rooms.length<=100)(hH:∀x∈rooms++[N[5]'(by rw[hN.len];decide)],∃u∈B,u.n=x/\u.k.hd=true):
  ∃(q:Nat) (es':List L4.D) (O:List Rw),q<8/\IL es'/\Ord (B++O)/\O.map Rw.n=(N.drop 6).take q/\(∀r∈O,r.k.pl=true)/\uO es [.lst (N.map D.str),.lst (rooms.map D.str)]=some (.lst (O.map sN),es'):=by
 have h5:5<N.length:=by rw[hN.len];decide
 obtain⟨r,es1,h1,h2,h3,h4⟩:=ue h 8 (by decide);obtain⟨q,rfl⟩:=cp h2;let Hs:=rooms++[N[5]];obtain⟨es',O,Hs',t5,t6,g1,g2,g3,g4,g5⟩:=Ed (.im (.lst (N.map D.str))) (.im (.lst (rooms.map D.str))) B ((N.drop 6).take q) es1 [] Hs .un .un h1 (by simp[Hs]) (λx hx=>by rw[bq];exact hH x hx) (by rw[bq];exact hB) (by rw[bp,cb,hN.len];simp;omega) (by rw[bp,cb,hN.len];simp[Hs];omega);rw[bJ]at g2 g5;refine⟨q,es',O,by omega,g1,g2,g3,g4,?_⟩;have run:wo (stL 7 es [.lst (N.map D.str),.lst (rooms.map D.str)])=some (.rn (O.map sN) [.im (.lst (N.map D.str)),.im (.lst (rooms.map D.str)),.pm es',.un,.ls (Hs'.map D.str),t5,t6]):=by
  unfold wo;refine(rT (ρ':=[.im (.lst (N.map D.str)),.im (.lst (rooms.map D.str)),.pm es,.ls [],.un,.un,.un]) rfl).trans ?_;refine(rT (ρ':=[.im (.lst (N.map D.str)),.im (.lst (rooms.map D.str)),.pm es,.ls [],.ls (Hs.map D.str),.un,.un]) ((zd (wc (xs:=rooms.map D.str) (ys:=[.str N[5]]) rfl (sZ (Ac (rS (rY rfl rfl (vc (j:=5) (aN h5))) rfl) (by show 1<=1000;decide))) (by rw[ag];simp;omega))).trans ?_)).trans ?_
  ·show some (Out.nx [_,_,_,_,.ls (rooms.map D.str++[.str N[5]]),_,_])=_;rw[show rooms.map D.str++[.str N[5]]=Hs.map D.str by simp[Hs]]
  ·refine(rT ((tW (ds:=((N.drop 6).take q).map D.str) (ρ1:=[.im (.lst (N.map D.str)),.im (.lst (rooms.map D.str)),.pm es1,.ls [],.ls (Hs.map D.str),.un,.un]) ?_).trans g5)).trans rfl;have e:xY af (oAt dY) (oAt mF) [.im (.lst (N.map D.str)),.im (.lst (rooms.map D.str)),.pm es,.ls [],.ls (Hs.map D.str),.un,.un]=some (((N.drop 6).take q).map D.str,[.im (.lst (N.map D.str)),.im (.lst (rooms.map D.str)),.pm es1,.ls [],.ls (Hs.map D.str),.un,.un]):=by
    have e1:c2 uu dY hU [.im (.lst (N.map D.str)),.im (.lst (rooms.map D.str)),.pm es,.ls [],.ls (Hs.map D.str),.un,.un]=some (.int ((6+q:Nat):Int),[.im (.lst (N.map D.str)),.im (.lst (rooms.map D.str)),.pm es1,.ls [],.ls (Hs.map D.str),.un,.un]):=rY rfl ((uS (es0:=es) (es:=es) (ρ1:=[.im (.lst (N.map D.str)),.im (.lst (rooms.map D.str)),.pm es,.ls [],.ls (Hs.map D.str),.un,.un]) rfl rfl rfl h4).trans rfl) (by show some (D.int (6+(q:Int)))=_;congr 2);have e2:oAt mF [.im (.lst (N.map D.str)),.im (.lst (rooms.map D.str)),.pm es,.ls [],.ls (Hs.map D.str),.un,.un]=some (some ((6+q:Nat):Int),[.im (.lst (N.map D.str)),.im (.lst (rooms.map D.str)),.pm es1,.ls [],.ls (Hs.map D.str),.un,.un]):=by unfold oAt;rw[e1]
    unfold xY;show (match oAt mF [.im (.lst (N.map D.str)),.im (.lst (rooms.map D.str)),.pm es,.ls [],.ls (Hs.map D.str),.un,.un]with
     |some (h,ρ3)=>some (cutD (N.map D.str) (some 6) h,ρ3)
     |none=>none)=_
    rw[e2];show some (cutD (N.map D.str) (some ((6:Nat):Int)) (some ((6+q:Nat):Int)),_)=_;rw[MC 6 q (by rw[ag,hN.len];omega),eM,fG]
   unfold iL;rw[sZ e]
 unfold uO fnL;rw[ai (show [D.lst (N.map D.str),D.lst (rooms.map D.str)].length=2 from rfl),run];rfl
def Yz:FS:=(rV (sM 7 (tI rX 1 (rR mq sS)))
 (sM 5 (cL (uR (cL (uR (cL (xY aO oNo gf)) (cL (sV (rR bj sS))))) (cL (xY aO gf oNo))))))
theorem Kk:∀(l:List Rw) (es:List L4.D) (R:List Rw) (s6 s7:Sl),IL es->R.length+l.length<=900->∃(es':List L4.D) (R':List Rw) (t6 t7:Sl),IL es'/\R'.Perm (R++l)/\
  forL (gN 6) Yz (l.map sN) [a,.ls es,b,c,d,.im (.lst (R.map sN)),s6,s7,x8,x9,x10,x11,x12,x13]=some (.nx [a,.ls es',b,c,d,.im (.lst (R'.map sN)),t6,t7,x8,x9,x10,x11,x12,x13])
 |[],es,R,s6,s7,hi,_=>⟨es,R,s6,s7,hi,by rw[bq],rfl⟩
 |r::l,es,R,s6,s7,hi,hl=>by
  rw[aE]at hl;obtain⟨v,es1,h1,h2,h3,h4⟩:=ue hi ((R.map sN).length+1:Int) (by omega);obtain⟨k,rfl⟩:=cp h2;have hk:k<=(R.map sN).length:=by omega
  let R1:=R.take k++r::R.drop k;have p1:R1.Perm (R++[r]):=by have:=(List.perm_middle (a:=r) (l₁:=R.take k) (l₂:=R.drop k));rw[List.take_append_drop]at this;exact this.trans (List.perm_append_singleton r R).symm
  have hR1:R1.length=R.length+1:=p1.length_eq.trans (by simp);let ρ1:aZ:=[a,.ls es1,b,c,d,.im (.lst (R.map sN)),.im (sN r),.im (.int k),x8,x9,x10,x11,x12,x13];have e1:Yz [a,.ls es,b,c,d,.im (.lst (R.map sN)),.im (sN r),s7,x8,x9,x10,x11,x12,x13]=some (.nx [a,.ls es1,b,c,d,.im (.lst (R1.map sN)),.im (sN r),.im (.int k),x8,x9,x10,x11,x12,x13]):=by
   unfold Yz;refine(rT (ρ':=ρ1) ((su (i:=7) (uS (i:=1) (es0:=es) (es:=es) (ρ1:=[a,.ls es,b,c,d,.im (.lst (R.map sN)),.im (sN r),s7,x8,x9,x10,x11,x12,x13]) rfl (show rR mq sS _=some ([.int ((R.map sN).length+1)],_) from rfl) rfl h4)).trans rfl)).trans ?_;have c1:xY aO oNo gf ρ1=some ((R.map sN).take k,ρ1):=by show some (cutD (R.map sN) none (some (k:Int)),ρ1)=_;rw[QK k hk]
   have c2:xY aO gf oNo ρ1=some ((R.map sN).drop k,ρ1):=by show some (cutD (R.map sN) (some (k:Int)) none,ρ1)=_;rw[Yy k hk]
   refine(su (sZ (wc (sZ (wc (sZ c1) (sZ (Ac (ds:=[sN r]) rfl (by show 1<=1000;decide))) ?_)) (sZ c2) ?_))).trans ?_
   ·rw[bp,ag];simp;omega
   ·rw[aA,bp,cb,ag];simp;omega
   ·show some (Out.nx [a,.ls es1,b,c,d,.im (.lst ((R.map sN).take k++[sN r]++(R.map sN).drop k)),.im (sN r),.im (.int k),x8,x9,x10,x11,x12,x13])=_;rw[show (R.map sN).take k++[sN r]++(R.map sN).drop k=R1.map sN by simp[R1,eM,fG]]
  obtain⟨es',R',t6,t7,g1,g2,g3⟩:=Kk (a:=a) (b:=b) (c:=c) (d:=d) (x8:=x8) (x9:=x9) (x10:=x10) (x11:=x11) (x12:=x12) (x13:=x13) l es1 R1 (.im (sN r)) (.im (.int k)) h1 (by omega);refine⟨es',R',t6,t7,g1,g2.trans ((p1.append_right l).trans (by rw[bw];exact kL _)),?_⟩;rw[au];unfold forL;rw[show gN 6 (sN r) [a,.ls es,b,c,d,.im (.lst (R.map sN)),s6,s7,x8,x9,x10,x11,x12,x13]=some [a,.ls es,b,c,d,.im (.lst (R.map sN)),.im (sN r),s7,x8,x9,x10,x11,x12,x13] from rfl];simp only[e1];exact g3
def mkT(m:Mk):L4.D:=.tup [.str m.n,.int m.st,.int m.mo]
def mkB:FS:=(rV (sM 10 (c2 uu aR (tI rX 1 (rR dw sS))))
 (sT (yK 8 (tH (rR fT (rR (tI rX 1 (rR (c2 uu (cV 10) aR) sS)) (rR (cV 10) sS)))))))
theorem ME:∀(l:aB) (es:List L4.D) (M:List Mk) (s9 s10:Sl),IL es->M.length+l.length<=900->∃(es':List L4.D) (M':List Mk) (t9 t10:Sl),IL es'/\M'.map Mk.n=l/\(∀m∈M',m.ok)/\
  forL (gN 9) mkB (l.map D.str) [a,.ls es,b,c,d,x5,x6,x7,.ls (M.map mkT),s9,s10,x11,x12,x13]=some (.nx [a,.ls es',b,c,d,x5,x6,x7,.ls ((M++M').map mkT),t9,t10,x11,x12,x13])
 |[],es,M,s9,s10,hi,_=>⟨es,[],s9,s10,hi,rfl,λm hm=>(bR hm).elim,by rw[bq];rfl⟩
 |x::l,es,M,s9,s10,hi,hl=>by
  rw[aE]at hl;obtain⟨v,es1,h1,h2,h3,h4⟩:=ue hi 3 (by decide);obtain⟨w,es2,h5,h6,h7,h8⟩:=ue h1 (1+v+1) (by omega);let m:Mk:=⟨x,w,1+v⟩;let ρ1:aZ:=[a,.ls es1,b,c,d,x5,x6,x7,.ls (M.map mkT),.im (.str x),.im (.int (1+v)),x11,x12,x13];let ρ2:aZ:=[a,.ls es2,b,c,d,x5,x6,x7,.ls (M.map mkT),.im (.str x),.im (.int (1+v)),x11,x12,x13];have e1:mkB [a,.ls es,b,c,d,x5,x6,x7,.ls (M.map mkT),.im (.str x),s10,x11,x12,x13]=some (.nx [a,.ls es2,b,c,d,x5,x6,x7,.ls ((M++[m]).map mkT),.im (.str x),.im (.int (1+v)),x11,x12,x13]):=by unfold mkB;refine(rT (ρ':=ρ1) ((su (rY rfl (uS (es0:=es) (es:=es) (ρ1:=[a,.ls es,b,c,d,x5,x6,x7,.ls (M.map mkT),.im (.str x),s10,x11,x12,x13]) rfl rfl rfl h4) rfl)).trans rfl)).trans ?_;refine(tJ (xG (es0:=M.map mkT) (es:=M.map mkT) (ρ1:=ρ2) (d:=mkT m) rfl (uF (rS rfl (rS ((uS (es0:=es1) (es:=es1) (ρ1:=ρ1) rfl (rS (rY rfl rfl rfl) rfl) rfl h8).trans rfl) rfl)) (by show 3<=1000;decide)) rfl (by rw[ag];omega))).trans ?_;show some (Out.nx [a,.ls es2,b,c,d,x5,x6,x7,.ls (M.map mkT++[mkT m]),.im (.str x),.im (.int (1+v)),x11,x12,x13])=_;rw[show M.map mkT++[mkT m]=(M++[m]).map mkT by rw[bb];rfl]
  obtain⟨es',M',t9,t10,g1,g2,g3,g4⟩:=ME (a:=a) (b:=b) (c:=c) (d:=d) (x5:=x5) (x6:=x6) (x7:=x7) (x11:=x11) (x12:=x12) (x13:=x13) l es2 (M++[m]) (.im (.str x)) (.im (.int (1+v))) h5 (by rw[aA,ba];omega);refine⟨es',m::M',t9,t10,g1,by rw[au,g2],λy hy=>?_,?_⟩
  ·rcases aK.mp hy with rfl|hy
   ·exact⟨by show 1<=1+v;omega,by show 1+v<=3;omega,h6,by show w<=1+v;omega⟩
   ·exact g3 y hy
  ·rw[au];unfold forL;rw[show gN 9 (.str x) [a,.ls es,b,c,d,x5,x6,x7,.ls (M.map mkT),s9,s10,x11,x12,x13]=some [a,.ls es,b,c,d,x5,x6,x7,.ls (M.map mkT),.im (.str x),s10,x11,x12,x13] from rfl];simp only[e1];rw[g4,bw];rfl
abbrev rl:=(tI rX 1 (rR bM sS))
abbrev rP:=rl
abbrev mW:=(c2 av rP aR)
theorem HE:∀(l:aB) (es:List L4.D),IL es->∃(dk:aB) (es':List L4.D),dk.Sublist l/\IL es'/\
  v9 1 [1] aH (cT mW) af (l.map D.str) [a,.ls es,b,c,d,x5,x6,x7,x8,x9,x10,x11,x12,x13]=some (dk.map D.str,[a,.ls es',b,c,d,x5,x6,x7,x8,x9,x10,x11,x12,x13])
 |[],es,h=>⟨[],es,eI _,h,rfl⟩
 |x::l,es,h=>by
  obtain⟨v,es1,h1,h2,h3,h4⟩:=ue h 2 (by decide);obtain⟨dk,es',g1,g2,g3⟩:=HE (a:=a) (b:=b) (c:=c) (d:=d) (x5:=x5) (x6:=x6) (x7:=x7) (x8:=x8) (x9:=x9) (x10:=x10) (x11:=x11) (x12:=x12) (x13:=x13) l es1 h1;have et:cT mW [.im (.str x),.pm es]=some (decide (v=1),[.im (.str x),.pm es1]):=tu (rY ((uS (es0:=es) (es:=es) (ρ1:=[.im (.str x),.pm es]) rfl rfl rfl h4).trans rfl) rfl (vo false v 1));have st:v9 1 [1] aH (cT mW) af ((x::l).map D.str) [a,.ls es,b,c,d,x5,x6,x7,x8,x9,x10,x11,x12,x13]=some ((if v=1 then x::dk else dk).map D.str,[a,.ls es',b,c,d,x5,x6,x7,x8,x9,x10,x11,x12,x13]):=by
   rw[au];unfold v9;rw[show gN 0 (.str x) (A5 1 [1] [a,.ls es,b,c,d,x5,x6,x7,x8,x9,x10,x11,x12,x13])=some [.im (.str x),.pm es] from rfl];simp only[et];have un:vA [1] (([.im (.str x),.pm es1]:aZ).drop 1) [a,.ls es,b,c,d,x5,x6,x7,x8,x9,x10,x11,x12,x13]=some [a,.ls es1,b,c,d,x5,x6,x7,x8,x9,x10,x11,x12,x13]:=rfl;by_cases hv:v=1
   ·rw[ai hv,aX hv];simp only;rw[show cV 0 [.im (.str x),.pm es1]=some (.str x,[.im (.str x),.pm es1]) from rfl];simp only[un,g3];rfl
   ·rw[aj hv,aL hv];simp only[un,g3]
  by_cases hv:v=1
  ·rw[ai hv]at st;exact⟨x::dk,es',g1.cons_cons x,g2,st⟩
  ·rw[aj hv]at st;exact⟨dk,es',g1.cons x,g2,st⟩
def moD:L4.D:=.lst [.tup [],.tup [.str "red"],.tup [.str "old", .str "red"]]
theorem TU(j:Nat)(h:j<3):∃m∈HB,dIx moD (.int j)=some (.tup (m.map D.str)):=by
 match j,h with
 |0,_=>exact⟨[],by decide,rfl⟩
 |1,_=>exact⟨["red"],by decide,rfl⟩
 |2,_=>exact⟨["old", "red"],by decide,rfl⟩
def Th.rw(t:Th):Rw:=⟨t.n,t.k,t.s⟩
def wdD(t:Th):L4.D:=.tup (t.w.map D.str)
abbrev mm:=(rR af sS)
abbrev qG:=(tI rX 4 (rR dw sS))
def YA:FE:=(DA (tH mm) (c2 dIx ay qG))
theorem F1:∀(R:List Rw) (es:List L4.D),IL es->∃(T:List Th) (es':List L4.D),T.map Th.rw=R/\(∀t∈T,∃m∈HB,t.w=t.n::m)/\IL es'/\
  v9 3 [12,1] fm tR YA (R.map sN) [a,.ls es,b,c,d,x5,x6,x7,x8,x9,x10,x11,.im moD,x13]=some (T.map wdD,[a,.ls es',b,c,d,x5,x6,x7,x8,x9,x10,x11,.im moD,x13])
 |[],es,h=>⟨[],es,rfl,λt ht=>(bR ht).elim,h,rfl⟩
 |r::R,es,h=>by
  obtain⟨v,es1,h1,h2,h3,h4⟩:=ue h 3 (by decide);obtain⟨j,rfl⟩:=cp h2;obtain⟨m,hm,em⟩:=TU j (by omega);obtain⟨T,es',g1,g2,g3,g4⟩:=F1 (a:=a) (b:=b) (c:=c) (d:=d) (x5:=x5) (x6:=x6) (x7:=x7) (x8:=x8) (x9:=x9) (x10:=x10) (x11:=x11) (x13:=x13) R es1 h1;let t:Th:=⟨r.n,r.n::m,r.k,r.s⟩;have hml:m.length<=2:=by
   have:∀m∈HB,bU m<=2:=by decide
   exact this m hm
  refine⟨t::T,es',by rw[au,g1];rfl,λu hu=>?_,g3,?_⟩
  ·rcases aK.mp hu with rfl|hu
   ·exact⟨m,hm,rfl⟩
   ·exact g2 u hu
  ·let ρ2:aZ:=[.im (.str r.n),.im (.str r.k.s),.im (oS r.s),.im moD,.pm es];have e1:YA ρ2=some (wdD t,[.im (.str r.n),.im (.str r.k.s),.im (oS r.s),.im moD,.pm es1]):=by have e2:c2 dIx ay qG ρ2=some (.tup (m.map D.str),[.im (.str r.n),.im (.str r.k.s),.im (oS r.s),.im moD,.pm es1]):=rY rfl ((uS (es0:=es) (es:=es) (ρ1:=ρ2) rfl rfl rfl h4).trans rfl) em;unfold YA DA;rw[show tH mm ρ2=some (.tup [.str r.n],ρ2) from rfl];simp only[e2];rw[ai (by rw[ag];simp;omega)];rfl
   rw[au];unfold v9;rw[show gT fP 3 (sN r) (A5 3 [12,1] [a,.ls es,b,c,d,x5,x6,x7,x8,x9,x10,x11,.im moD,x13])=some ρ2 from rfl];simp only[tR,e1];rw[show vA [12,1] (([.im (.str r.n),.im (.str r.k.s),.im (oS r.s),.im moD,.pm es1]:aZ).drop 3) [a,.ls es,b,c,d,x5,x6,x7,x8,x9,x10,x11,.im moD,x13]=some [a,.ls es1,b,c,d,x5,x6,x7,x8,x9,x10,x11,.im moD,x13] from rfl];simp only[g4];rfl
def wb(x:Str):Rw:=⟨x,.room,none⟩
theorem TV:∀N:aB,N.length=17->∃x,N[5]?=some x/\N.take 5++([x]++((N.drop 6).take 7++N.drop 13))=N
 |[a0,a1,a2,a3,a4,a5,a6,a7,a8,a9,a10,a11,a12,a13,a14,a15,a16],_=>⟨a5,rfl,rfl⟩
theorem Kl{α:Type}(l:List α){a b:Nat}(h:a<=b):(l.take a).Sublist (l.take b):=by
 have:l.take a=(l.take b).take a:=by rw[List.take_take,dO h]
 rw[this];exact iO _ _
theorem Oc{N:aB}(h:N.length=17)(hy:N[5]?=some y)(hr:r<5)(hq:q<8):((N.take (1+r)++([y]++(N.drop 6).take q))++(N.drop 13).take p).Sublist N:=by obtain⟨x,h1,h2⟩:=TV N h;rw[hy]at h1;cases h1;rw[bw,bw];have:=(Kl N (show 1+r<=5 by omega)).append ((eI [y]).append ((Kl (N.drop 6) (show q<=7 by omega)).append (iO p (N.drop 13))));rw[h2]at this;exact this
theorem YB(h:T.map Th.rw=R)(hu:u∈R):∃t∈T,t.rw=u:=by rw[<-h]at hu;exact aG.mp hu
theorem TX(T:List Th)(p:Kd->Bool):(T.filter λt=>p t.k).map Th.rw=(T.map Th.rw).filter λr=>p r.k:=by rw[pA];rfl
variable{M:List Mk}{dk:aB}
theorem TY(hN:Nms N)(hy:N[5]?=some y)(hr:r<5)(hq:q<8)(hp:p<5)(hz:z∈N.take (1+r))
  (ho:Ord (((N.take (1+r)).map wb++[⟨y,.you,some z⟩])++O)) (hO:O.map Rw.n=(N.drop 6).take q) (hOp:∀u∈O,u.k.pl=true) (hT:(T.map Th.rw).Perm (((N.take (1+r)).map wb++[⟨y,.you,some z⟩])++O)) (hw:∀t∈T,∃m∈HB,t.w=t.n::m)
  (hM:M.map Mk.n=(N.drop 13).take p) (hMo:∀m∈M,m.ok) (hd:dk.Sublist (N.take (1+r))):Good T M dk/\(T.filter λt=>decide (t.k=.you)).map Th.n=[y]:=by
 let B:List Rw:=((N.take (1+r)).map wb++[⟨y,.you,some z⟩])++O;have hl:(N.take (1+r)).length=1+r:=by rw[bp,hN.len];omega
 have hOl:O.length=q:=by have:=aT bU hO;rw[ag,bp,cb,hN.len]at this;omega
 have hMl:M.length=min p 4:=by have:=aT bU hM;rw[ag,bp,cb,hN.len]at this;exact this
 have hBl:B.length=1+r+1+q:=by simp only[B,aA,ag,hl,hOl,ba]
 have hTl:T.length=B.length:=by have:=hT.length_eq;rw[ag]at this;exact this
 have hBn:B.map Rw.n=N.take (1+r)++([y]++(N.drop 6).take q):=by simp only[B,bb,hO,aW,bw];rw[show (Rw.n∘wb)=id from rfl,List.map_id];rfl
 have hTn:T.map Th.n=(T.map Th.rw).map Rw.n:=by rw[aW];rfl
 have perm:(T.map Th.n++M.map Mk.n).Perm ((N.take (1+r)++([y]++(N.drop 6).take q))++(N.drop 13).take p):=by rw[hTn,hM,<- hBn];exact(hT.map Rw.n).append_right _
 have sub:=Oc hN.len hy hr hq (p:=p);have nd:(T.map Th.n++M.map Mk.n).Nodup:=perm.nodup_iff.mpr (hN.nd.sublist sub);have nm:∀x∈T.map Th.n++M.map Mk.n,Nm x:=λx hx=>hN.nm x (sub.subset (perm.subset hx));have back:∀u∈B,∃t∈T,t.rw=u:=λu hu=>YB rfl (hT.mem_iff.mpr hu);have fwd:∀t∈T,IU B t.rw:=λt ht=>ho.all _ (hT.mem_iff.mp (cq ht));have filt:∀pp:Kd->Bool,((T.filter λt=>pp t.k).map Th.rw).Perm (B.filter λu=>pp u.k):=λpp=>by rw[TX];exact hT.filter _
 have fl:∀pp:Kd->Bool,(T.filter λt=>pp t.k).length=(B.filter λu=>pp u.k).length:=λpp=>by have:=(filt pp).length_eq;rw[ag]at this;exact this
 have allF:∀(pp:Kd->Bool) (l:List Rw),(∀u∈l,pp u.k=false)->(l.filter λu=>pp u.k)=[]:=λpp l h=>j7.mpr λu hu=>by rw[h u hu];exact br
 have rooms:∀(pp:Kd->Bool),∀u∈(N.take (1+r)).map wb,pp u.k=pp .room:=λpp u hu=>by obtain⟨x,_,rfl⟩:=aG.mp hu;rfl
 have oth:∀u∈O,decide (u.k=.room)=false/\decide (u.k=.you)=false:=λu hu=>by have:=hOp u hu;refine⟨aL λh=>?_,aL λh=>?_⟩<;>rw[h]at this<;>cases this
 have fB:∀pp:Kd->Bool,(B.filter λu=>pp u.k)=((N.take (1+r)).map wb).filter (λu=>pp u.k)++([⟨y,.you,some z⟩]:List Rw).filter (λu=>pp u.k)++O.filter (λu=>pp u.k):=λpp=>by simp only[B,oH]
 have one:∀(pp:Kd->Bool) (b:Bool),pp .you=b->([⟨y,.you,some z⟩]:List Rw).filter (λu=>pp u.k)=if b then [⟨y,.you,some z⟩]else []:=λpp b h=>by rw[dh,jb];show (if pp .you=true then _ else _)=_;rw[h]
 have gr:∀pp:Kd->Bool,pp .room=true->pp .you=false->(∀u∈O,pp u.k=false)->(B.filter λu=>pp u.k)=(N.take (1+r)).map wb:=λpp h1 h2 h3=>by rw[fB pp,allF pp O h3,kr.mpr λu hu=>(rooms pp u hu).trans h1,one pp false h2];simp
 have gy:∀pp:Kd->Bool,pp .room=false->pp .you=true->(∀u∈O,pp u.k=false)->(B.filter λu=>pp u.k)=[⟨y,.you,some z⟩]:=λpp h1 h2 h3=>by rw[fB pp,allF pp O h3,allF pp _ λu hu=>(rooms pp u hu).trans h1,one pp true h2];rfl
 have gp:∀pp:Kd->Bool,pp .room=false->pp .you=false->(∀u∈O,pp u.k=true)->(B.filter λu=>pp u.k)=O:=λpp h1 h2 h3=>by rw[fB pp,kr.mpr h3,allF pp _ λu hu=>(rooms pp u hu).trans h1,one pp false h2];rfl
 have fr:=gr (λk=>decide (k=.room)) rfl rfl λu hu=>(oth u hu).1;have fy:=gy (λk=>decide (k=.you)) rfl rfl λu hu=>(oth u hu).2;have fp:=gp Kd.pl rfl rfl hOp;have ndT:(T.map Th.n).Nodup:=(bZ.mp nd).1;obtain⟨rk,hk⟩:=ho.rank ((hT.map Rw.n).nodup_iff.mp (by rw[<-hTn];exact ndT));have inR:∀x∈N.take (1+r),x∈rmN T:=λx hx=>by obtain⟨t,ht,e⟩:=back (wb x) (bF _ (bF _ (cq hx)));have h1:t.n=x:=aT Rw.n e;have h2:t.k=.room:=aT Rw.k e;exact aG.mpr ⟨t,bI.mpr ⟨ht,aX h2⟩,h1⟩
 refine⟨{
  len:=by omega
  r1:=by have:=fl λk=>decide (k=.room);rw[fr,ag,hl]at this;omega
  r5:=by have:=fl λk=>decide (k=.room);rw[fr,ag,hl]at this;omega
  y1:=by have:=fl λk=>decide (k=.you);rw[fy]at this;exact this
  p7:=by have:=fl Kd.pl;rw[fp,hOl]at this;omega
  m4:=by omega
  mo:=hMo
  nm:=nm
  nd:=nd
  st:=λt ht=>?_
  rk:=⟨rk,λt ht=>?_⟩
  wd:=λt ht=>⟨nm _ (bF _ (cq ht)),hw t ht⟩
  d0:=by have:=hd.length_le;omega
  d1:=(hN.nd.sublist (iO _ _)).sublist hd
  d2:=λx hx=>inR x (hd.subset hx) },?_⟩
 ·obtain⟨n,w,k,s⟩:=t;rcases fwd _ ht with ⟨h1,h2⟩|⟨h1,u,hu,h2,h3⟩|⟨h1,u,hu,h2,h3⟩
  ·cases h1;cases h2;trivial
  ·cases h1;cases h2;obtain⟨t',ht',e⟩:=back u hu;refine aG.mpr ⟨t',bI.mpr ⟨ht',aX ?_⟩,aT Rw.n e⟩;rw[<-h3];exact aT Rw.k e
  ·obtain⟨t',ht',e⟩:=back u hu;have mem:u.n∈hdN T:=aG.mpr ⟨t',bI.mpr ⟨ht',by rw[<-h3];exact aT Kd.hd (aT Rw.k e)⟩,aT Rw.n e⟩;have h2':s=some u.n:=h2;subst h2';have h1':k.pl=true:=h1;cases k with
   |room=>cases h1'
   |you=>cases h1'
   |plain=>exact mem
   |fixed=>exact mem
   |box=>exact mem
   |lamp=>exact mem
 ·obtain⟨h1,h2⟩:=hk t.rw (hT.mem_iff.mp (cq ht));refine⟨by rw[hTl];exact h1,λpq hpq=>?_⟩;obtain⟨h3,u,hu,h4⟩:=h2 pq hpq;obtain⟨t',ht',e⟩:=back u hu;exact⟨h3,t',ht',by rw[<-h4,<- e];rfl⟩
 ·have h:=filt λk=>decide (k=.you);rw[fy]at h;have e:=List.perm_singleton.mp h;have:=aT (List.map Rw.n) e;rw[aW]at this;exact this
def sJ(T:List Th)(M:List Mk)(dk:aB)(y:Str):L4.D:=.dic [kS "rows", kS "marks", kS "dark", kS "words", kS "you"] [.lst (T.map λt=>sN t.rw),.lst (M.map mkT),.lst (dk.map D.str),.lst (T.map wdD),.str y]
theorem Od:∀l:aB,Ord (l.map wb):=λl=>by
 suffices h:∀(l k:aB),Ord (k.map wb)->Ord ((k++l).map wb) from h l [] .nil
 intro l
 induction l with
 |nil=>intro k h;rw[bq];exact h
 |cons x l ih=>
  intro k h;have:=ih (k++[x]) (by rw[bb];exact h.snoc (.inl ⟨rfl,rfl⟩))
  rwa [bw]at this
theorem AJ(h:e ρ=some (.lst ds,ρ1)):iL e ρ=some (ds,ρ1):=by unfold iL;rw[h]
theorem Ee(h1:f ρ=some (d,ρ1))(h2:we r ρ1=some (ds,ρ2)):we ((x,f)::r) ρ=some (d::ds,ρ2):=by unfold we;rw[h1];simp only[h2]
theorem MF(h:we kfs ρ=some (ds,ρ1)):zK kfs ρ=some (.dic (kfs.map λq=>kS q.1) ds,ρ1):=by unfold zK;rw[h];rfl
theorem mut1(h:rX es [.int n]=some (.int v,es')):tI rX 1 (rR (cC (.int n)) sS) [a,.ls es,b2,b3,b4,b5,b6,b7,b8,b9,b10,b11,b12,b13]=some (.int v,[a,.ls es',b2,b3,b4,b5,b6,b7,b8,b9,b10,b11,b12,b13]):=
 (uS (es0:=es) (es:=es) (ρ1:=[a,.ls es,b2,b3,b4,b5,b6,b7,b8,b9,b10,b11,b12,b13]) rfl rfl rfl h).trans rfl
abbrev mK:=(rR ay sS)
theorem TZ(c:Int):∃T M dk y,AB [.int c]=some (sJ T M dk y)/\Good T M dk/\(T.filter λt=>decide (t.k=.you)).map Th.n=[y]:=by
 obtain⟨es0,i0,d0⟩:=Kh c 110 (by decide);obtain⟨N,es1,hN,i1,d1⟩:=QI i0;obtain⟨r,es2,i2,r0,r1,d2⟩:=ue i1 5 (by decide);obtain⟨r,rfl⟩:=cp r0;have hr:r<5:=by omega
 let rooms:=N.take (1+r);have hl:rooms.length=1+r:=by simp only[rooms];rw[bp,hN.len];omega
 obtain⟨i,es3,i3,j0,j1,d3⟩:=ue i2 rooms.length (by omega);obtain⟨i,rfl⟩:=cp j0;have hi:i<rooms.length:=by omega
 have h5:5<N.length:=by rw[hN.len];decide
 let y:=N[5];let z:=rooms[i];have hz:z∈rooms:=dg hi;let B:List Rw:=rooms.map wb++[⟨y,.you,some z⟩];have hB:Ord B:=(Od rooms).snoc (.inr (.inl ⟨rfl,wb z,cq hz,rfl,rfl⟩));obtain⟨q,es4,O,hq,i4,hO,hOn,hOp,d4⟩:=Ob hN B i3 hB (rooms:=rooms) (by omega) λx hx=>by
  rcases bu.mp hx with hx|hx
  ·exact⟨wb x,bF _ (cq hx),rfl,rfl⟩
  ·rw[aP]at hx;exact⟨⟨y,.you,some z⟩,bO _ (aP.mpr rfl),hx.symm,rfl⟩
 have hOl:O.length<=7:=by have:=aT bU hOn;rw[ag,bp]at this;omega
 have hBl:B.length<=6:=by simp only[B,aA,ag,ba];omega
 obtain⟨es5,R,t6,t7,i5,hR,d5⟩:=Kk (a:=.im (.int c)) (b:=.im (.lst (N.map D.str))) (c:=.im (.lst (rooms.map D.str))) (d:=.im (.lst (B.map sN))) (x8:=.un) (x9:=.un) (x10:=.un) (x11:=.un) (x12:=.un) (x13:=.un) (B++O) es4 [] .un .un i4 (by rw[aA];simp;omega);rw[bJ]at hR;obtain⟨p,es6,i6,p0,p1,d6⟩:=ue i5 5 (by decide);obtain⟨p,rfl⟩:=cp p0;obtain⟨es7,M,t9,t10,i7,hMn,hMo,d7⟩:=ME (a:=.im (.int c)) (b:=.im (.lst (N.map D.str))) (c:=.im (.lst (rooms.map D.str))) (d:=.im (.lst (B.map sN))) (x5:=.im (.lst (R.map sN))) (x6:=t6) (x7:=t7) (x11:=.un) (x12:=.un) (x13:=.un) ((N.drop 13).take p) es6 [] .un .un i6 (by rw[bp,cb,hN.len];simp;omega);rw[bJ]at d7;obtain⟨dk,es8,hdk,i8,d8⟩:=HE (a:=.im (.int c)) (b:=.im (.lst (N.map D.str))) (c:=.im (.lst (rooms.map D.str))) (d:=.im (.lst (B.map sN))) (x5:=.im (.lst (R.map sN))) (x6:=t6) (x7:=t7) (x8:=.ls (M.map mkT)) (x9:=t9) (x10:=t10) (x11:=.un) (x12:=.un) (x13:=.un) rooms es7 i7;obtain⟨T,es9,hT,hw,i9,d9⟩:=F1 (a:=.im (.int c)) (b:=.im (.lst (N.map D.str))) (c:=.im (.lst (rooms.map D.str))) (d:=.im (.lst (B.map sN))) (x5:=.im (.lst (R.map sN))) (x6:=t6) (x7:=t7) (x8:=.ls (M.map mkT)) (x9:=t9) (x10:=t10) (x11:=.im (.lst (dk.map D.str))) (x13:=.un) R es8 i8;obtain⟨g1,g2⟩:=TY hN (aN h5) hr hq (by omega) hz hO hOn hOp (hT▸hR) hw hMn hMo hdk;refine⟨T,M,dk,y,sj (ρ:=[.im (.int c),.ls es9,.im (.lst (N.map D.str)),.im (.lst (rooms.map D.str)),.im (.lst (B.map sN)),.im (.lst (R.map sN)),t6,t7,.im (.lst (M.map mkT)),t9,t10,.im (.lst (dk.map D.str)),.im moD,.im (.lst (T.map wdD))]) rfl ?_,g1,g2⟩;unfold AA;refine(rT (ρ':=[.im (.int c),.ls es0,.un,.un,.un,.un,.un,.un,.un,.un,.un,.un,.un,.un]) ((zd (rU (ds:=[.int c,.int 110]) rfl d0)).trans rfl)).trans ?_;refine(rT (ρ':=[.im (.int c),.ls es1,.im (.lst (N.map D.str)),.un,.un,.un,.un,.un,.un,.un,.un,.un,.un,.un]) ((su (uS (es0:=es0) (es:=es0) (ds:=[]) (ρ1:=[.im (.int c),.ls es0,.un,.un,.un,.un,.un,.un,.un,.un,.un,.un,.un,.un]) rfl rfl rfl d1)).trans rfl)).trans ?_;have cutE:∀{lo hi:FO} {ρ ρ1 ρ2:aZ} {l h:Option Int},cV 2 ρ=some (.lst (N.map D.str),ρ)->lo ρ=some (l,ρ1)->hi ρ1=some (h,ρ2)->xY aw lo hi ρ=some (cutD (N.map D.str) l h,ρ2):=λ{lo hi ρ ρ1 ρ2 l h} h1 h2 h3=>by unfold xY;rw[h1];simp only[h2,h3]
 have addE:∀{k:Nat} {v:Nat} {n:Int} {ρ ρ1:aZ},tI rX 1 (rR (cC (.int n)) sS) ρ=some (.int v,ρ1)->oAt (c2 uu (cC (.int k)) (tI rX 1 (rR (cC (.int n)) sS))) ρ=some (some ((k+v:Nat):Int),ρ1):=λ{k v n ρ ρ1} h=>by unfold oAt;rw[rY (g:=uu) (x:=.int k) (z:=.int ((k+v:Nat):Int)) rfl h (by show some (D.int ((k:Int)+(v:Int)))=_;congr 2)]
 refine(rT (ρ':=[.im (.int c),.ls es2,.im (.lst (N.map D.str)),.im (.lst (rooms.map D.str)),.un,.un,.un,.un,.un,.un,.un,.un,.un,.un]) ((su (sZ (cutE rfl rfl (addE (k:=1) (v:=r) (mut1 d2))))).trans ?_)).trans ?_
 ·rw[QK (1+r) (by rw[ag,hN.len];omega),<- eM];rfl
 let ρ3:List L4.D->aZ:=λes=>[.im (.int c),.ls es,.im (.lst (N.map D.str)),.im (.lst (rooms.map D.str)),.un,.un,.un,.un,.un,.un,.un,.un,.un,.un];refine(rT (ρ':=[.im (.int c),.ls es3,.im (.lst (N.map D.str)),.im (.lst (rooms.map D.str)),.im (.lst (B.map sN)),.un,.un,.un,.un,.un,.un,.un,.un,.un]) ((su (sZ (wc (xs:=rooms.map λx=>sN (wb x)) (ys:=[sN ⟨y,.you,some z⟩]) (ρ1:=ρ3 es2) (ρ2:=ρ3 es3)
  (sZ (zU D.str (λx=>sN (wb x)) rooms rfl (by omega) λx _=>⟨_,_,rfl,rfl,rfl⟩))
  (sZ (Ac (rS (uF (ds:=[.str y,.str "you", .str z]) (rS (rY rfl rfl (vc (j:=5) (aN h5))) (rS rfl (rS (rY (ρ1:=ρ3 es2) (x:=.lst (rooms.map D.str)) (y:=.int i) rfl ((uS (i:=1) (es0:=es2) (es:=es2) (ρ1:=ρ3 es2) (ds:=[.int rooms.length]) rfl (by show some ([D.int ((rooms.map D.str).length:Nat)],_)=_;rw[ag]) rfl d3).trans rfl) (vc (aN hi))) rfl))) (by show 3<=1000;decide)) rfl) (by show 1<=1000;decide))) (by rw[ag];simp;omega)))).trans ?_)).trans ?_
 ·show some (Out.nx [.im (.int c),.ls es3,.im (.lst (N.map D.str)),.im (.lst (rooms.map D.str)),.im (.lst ((rooms.map λx=>sN (wb x))++[sN ⟨y,.you,some z⟩])),.un,.un,.un,.un,.un,.un,.un,.un,.un])=_;rw[show (rooms.map λx=>sN (wb x))++[sN ⟨y,.you,some z⟩]=B.map sN by simp only[B,bb,aW];rfl]
 refine(rT (ρ':=[.im (.int c),.ls es3,.im (.lst (N.map D.str)),.im (.lst (rooms.map D.str)),.im (.lst (B.map sN)),.im (.lst []),.un,.un,.un,.un,.un,.un,.un,.un]) rfl).trans ?_;let ρ5:List L4.D->aZ:=λes=>[.im (.int c),.ls es,.im (.lst (N.map D.str)),.im (.lst (rooms.map D.str)),.im (.lst (B.map sN)),.im (.lst []),.un,.un,.un,.un,.un,.un,.un,.un];refine(rT ((tW (ds:=(B++O).map sN) (ρ1:=ρ5 es4) ?_).trans d5)).trans ?_
 ·have em:uq uO 1 (rR aw mK) (ρ5 es3)=some (.lst (O.map sN),ρ5 es4):=by
   unfold uq;show (match uO es3 [.lst (N.map D.str),.lst (rooms.map D.str)]with
    |some (d,es')=>some (d,putAt (ρ5 es3) 1 es')
    |none=>none)=_
   rw[d4];rfl
  exact(AJ (sZ (wc (xs:=B.map sN) (ys:=O.map sN) rfl em (by rw[ag,ag];omega)))).trans (by rw[<-bb])
 refine(rT (ρ':=[.im (.int c),.ls es5,.im (.lst (N.map D.str)),.im (.lst (rooms.map D.str)),.im (.lst (B.map sN)),.im (.lst (R.map sN)),t6,t7,.ls [],.un,.un,.un,.un,.un]) rfl).trans ?_;refine(rT ((tW (ds:=((N.drop 13).take p).map D.str) (ρ1:=[.im (.int c),.ls es6,.im (.lst (N.map D.str)),.im (.lst (rooms.map D.str)),.im (.lst (B.map sN)),.im (.lst (R.map sN)),t6,t7,.ls [],.un,.un,.un,.un,.un]) ?_).trans d7)).trans ?_
 ·refine(AJ (sZ (cutE (l:=some ((13:Nat):Int)) rfl rfl (addE (k:=13) (v:=p) (mut1 d6))))).trans ?_;have ec:cutD (N.map D.str) (some ((13:Nat):Int)) (some ((13+p:Nat):Int))=((N.drop 13).take p).map D.str:=by rw[MC 13 p (by rw[ag,hN.len];omega),eM,fG]
  rw[ec]
 refine(rT (ρ':=[.im (.int c),.ls es8,.im (.lst (N.map D.str)),.im (.lst (rooms.map D.str)),.im (.lst (B.map sN)),.im (.lst (R.map sN)),t6,t7,.ls (M.map mkT),t9,t10,.im (.lst (dk.map D.str)),.un,.un]) ((su (sZ ((zg (ds:=rooms.map D.str) (ρ1:=[.im (.int c),.ls es7,.im (.lst (N.map D.str)),.im (.lst (rooms.map D.str)),.im (.lst (B.map sN)),.im (.lst (R.map sN)),t6,t7,.ls (M.map mkT),t9,t10,.un,.un,.un]) rfl (by rw[ag];omega)).trans d8))).trans rfl)).trans ?_;refine(rT (ρ':=[.im (.int c),.ls es8,.im (.lst (N.map D.str)),.im (.lst (rooms.map D.str)),.im (.lst (B.map sN)),.im (.lst (R.map sN)),t6,t7,.ls (M.map mkT),t9,t10,.im (.lst (dk.map D.str)),.im moD,.un]) rfl).trans ?_;have hRl:R.length<=900:=by have:=hR.length_eq;rw[aA]at this;omega
 refine(rT (ρ':=[.im (.int c),.ls es9,.im (.lst (N.map D.str)),.im (.lst (rooms.map D.str)),.im (.lst (B.map sN)),.im (.lst (R.map sN)),t6,t7,.ls (M.map mkT),t9,t10,.im (.lst (dk.map D.str)),.im moD,.im (.lst (T.map wdD))]) ((su (sZ ((zg (ds:=R.map sN) (ρ1:=[.im (.int c),.ls es8,.im (.lst (N.map D.str)),.im (.lst (rooms.map D.str)),.im (.lst (B.map sN)),.im (.lst (R.map sN)),t6,t7,.ls (M.map mkT),t9,t10,.im (.lst (dk.map D.str)),.im moD,.un]) rfl (by rw[ag];omega)).trans d9))).trans rfl)).trans ?_;refine sy ?_;have eN:c2 dIx aw eX [.im (.int c),.ls es9,.im (.lst (N.map D.str)),.im (.lst (rooms.map D.str)),.im (.lst (B.map sN)),.im (.lst (R.map sN)),t6,t7,.im (.lst (M.map mkT)),t9,t10,.im (.lst (dk.map D.str)),.im moD,.im (.lst (T.map wdD))]=some (.str y,[.im (.int c),.ls es9,.im (.lst (N.map D.str)),.im (.lst (rooms.map D.str)),.im (.lst (B.map sN)),.im (.lst (R.map sN)),t6,t7,.im (.lst (M.map mkT)),t9,t10,.im (.lst (dk.map D.str)),.im moD,.im (.lst (T.map wdD))]):=rY rfl rfl (vc (j:=5) (aN h5));have eT:R.map sN=T.map λt=>sN t.rw:=by rw[<-hT,aW];rfl
 unfold sJ;rw[<-eT];exact MF (Ee rfl (Ee rfl (Ee rfl (Ee rfl (Ee eN rfl)))))
theorem QL:∀T:List Th,BZ (T.map λt=>sN t.rw) (T.map wdD)=T.map λt=>D.tup [sN t.rw,wdD t]
 |[]=>rfl
 |t::T=>by have:=QL T;unfold BZ at this ⊢;rw[au,au,eB,this];rfl
abbrev qI:=(c2 uK af (cC (.str "rows")))
theorem T2(g:Good T M dk):AD [sJ T M dk y]=some (wyT T):=by
 have hl:=g.len;let sp:=sJ T M dk y;let ρ:aZ:=[.im sp,.im (.lst ((rmN T).map D.str))];have hn:1<=(rmN T).length:=by have:=g.r1;unfold rmN;rw[ag];exact this
 have h5:(rmN T).length<=5:=by have:=g.r5;unfold rmN;rw[ag];exact this
 have h0:dIx (.lst ((rmN T).map D.str)) (.int 0)=some (.str ((rmN T).headD "")):=by
  refine vc (j:=0) ?_;cases e:rmN T with
  |nil=>rw[e]at hn;cases hn
  |cons a r=>rfl
 have h1:dIx (.lst ((rmN T).map D.str)) (.int (((rmN T).length:Int) - 1))=some (.str ((rmN T).getLastD "")):=by
  rw[show ((rmN T).length:Int) - 1=(((rmN T).length - 1:Nat):Int) by omega];refine vc ?_;have hz:rmN T≠[]:=λe=>by rw[e]at hn;cases hn
  rw[nH,List.getLast?_eq_getElem?,aN (by omega)];rfl
 refine zh (ρ:=ρ) rfl ?_;unfold AC;have c:=v7 (k:=3) (cap:=[]) (g:=gT fP 3) (ft:=cT (c2 av ah lW)) (fe:=cV 0) (s:=iL qI) (λt:Th=>sN t.rw) (λt=>D.str t.n) (λt=>decide (t.k=.room)) T (ρ:=[.im sp,.un]) (ρ1:=[.im sp,.un]) rfl (by omega) λt _=>⟨[.im (.str t.n),.im (.str t.k.s),.im (oS t.s)],[.im (.str t.n),.im (.str t.k.s),.im (oS t.s)],rfl,tu (rY rfl rfl (FP t.k .room)),λ_=>⟨_,rfl,rfl⟩,λ_=>rfl⟩
 refine(rT (ρ':=ρ) ((su (sZ c)).trans ?_)).trans ?_
 ·have:((T.filter λt=>decide (t.k=.room)).map λt=>D.str t.n)=(rmN T).map D.str:=by unfold rmN;rw[aW];rfl
  rw[this];rfl
 have el:c1 xW ah ρ=some (.int ((rmN T).length:Int),ρ):=tE rfl (by show some (D.int _)=_;rw[ag]);refine ze (Ac (rS (uF (rS (rY rfl rfl h0) (rS rfl (rS (rY (ρ1:=ρ) rfl (rY el rfl rfl) h1) (rS rfl rfl)))) (bP rfl)) (rS (uF (rS (rY (ρ1:=ρ) rfl rfl h0) (rS rfl (rS (rY rfl rfl h0) (rS rfl rfl)))) (bP rfl)) rfl)) (bP rfl))
theorem QM(g:Good T M dk)(hy:(T.filter λt=>decide (t.k=.you)).map Th.n=[y])(emo:uL [TD T,MD M]=some mo):zE [sJ T M dk y]=some (.obj 14 wNs (wDs T M dk y mo)):=by
 have e:=QF g y hy emo;have hl:=g.len;have hm:=g.m4;let sp:=sJ T M dk y;refine sj (ρ:=[.im sp,.im (TD T),.im (MD M)]) rfl ?_;unfold zD;refine(rT (ρ':=[.im sp,.im (TD T),.un]) ((su (sZ (zU (λt=>D.tup [sN t.rw,wdD t]) thD T (ρ1:=[.im sp,.un,.un]) ?_ (by omega) λt _=>⟨[.im (sN t.rw),.im (wdD t)],[.im (sN t.rw),.im (wdD t)],rfl,rfl,rfl⟩))).trans rfl)).trans ?_
 ·show some (BZ (T.map λt=>sN t.rw) (T.map wdD),[Sl.im sp,.un,.un])=_;rw[QL]
 refine(rT (ρ':=[.im sp,.im (TD T),.im (MD M)]) ((su (sZ (zU mkT mkD M (ρ1:=[.im sp,.im (TD T),.un]) rfl (by omega) λm _=>⟨[.im (.str m.n),.im (.int m.st),.im (.int m.mo)],[.im (.str m.n),.im (.int m.st),.im (.int m.mo)],rfl,rfl,rfl⟩))).trans rfl)).trans ?_;exact sy (IC (g:=λds=>vX (ds++[])) (ds:=[TD T,MD M,.lst (dk.map D.str),.lst (wyT T),.lst [],.lst []]) (rS rfl (rS rfl (rS rfl (rS (sZ (rU (ds:=[sp]) rfl (T2 g))) rfl)))) e)
def nmK(T:List Th)(p:Kd->Bool):aB:=(T.filter λt=>p t.k).map Th.n
theorem of_ok(hl:T.length<=900){K:L4.D}(p:Kd->Bool)(hp:∀k:Kd,dIn false (.str k.s) K=some (.bl (p k))):tS [sJ T M dk y,K]=some ((nmK T p).map D.str):=by
 let sp:=sJ T M dk y;refine zh (ρ:=[.im sp,.im K]) rfl ?_;have:=v7 (k:=3) (cap:=[1]) (g:=gT fP 3) (ft:=cT (c2 ck ah ay)) (fe:=cV 0) (s:=iL qI) (λt:Th=>sN t.rw) (λt=>D.str t.n) (λt=>p t.k) T (ρ:=[.im sp,.im K]) (ρ1:=[.im sp,.im K]) rfl (by omega) λt _=>⟨[.im (.str t.n),.im (.str t.k.s),.im (oS t.s),.im K],[.im (.str t.n),.im (.str t.k.s),.im (oS t.s),.im K],rfl,tu (rY rfl rfl (hp t.k)),λ_=>⟨_,rfl,rfl⟩,λ_=>rfl⟩
 refine ze (this.trans ?_);unfold nmK;rw[aW];rfl
theorem QN(k:Kd):dIn false (.str k.s) (.lst [.str "box"])=some (.bl (decide (k=.box))):=by cases k<;>kernel_rfl
theorem aav(k:Kd):dIn false (.str k.s) (.lst [.str "box", .str "lamp"])=some (.bl k.mk):=by cases k<;>kernel_rfl
theorem aaw(k:Kd):dIn false (.str k.s) (.lst [.str "room", .str "you"])=some (.bl !k.pl):=by cases k<;>kernel_rfl
theorem T4(k:Kd):dIn false (.str k.s) (.lst [.str "room"])=some (.bl (decide (k=.room))):=by cases k<;>kernel_rfl
def Kd.ot:Kd->Bool
 |.plain=>true|.fixed=>true|.lamp=>true|_=>false
theorem aax(k:Kd):dIn false (.str k.s) (.lst [.str "plain", .str "fixed", .str "lamp"])=some (.bl k.ot):=by cases k<;>kernel_rfl
theorem tU(T:List Th)(p:Kd->Bool):(nmK T p).Sublist (T.map Th.n):=List.Sublist.map _ List.filter_sublist
abbrev dcI(V:List (Str×Int)):L4.D:=.dic (V.map λq=>kS q.1) (V.map λq=>D.int q.2)
def moL(T:List Th)(M:List Mk):List (Str×Int):=((nmK T Kd.mk).map λx=>(x,(1:Int)))++M.map λm=>(m.n,m.mo)
theorem F2(g:Good T M dk):∃V:List (Str×Int),xj [sJ T M dk y]=some (dcI V)/\V.map aC=nmK T Kd.mk++M.map Mk.n/\(∀q∈V,1<=q.2)/\V=moL T M:=by
 have hl:=g.len;have hm:=g.m4;let sp:=sJ T M dk y;have nd:(nmK T Kd.mk++M.map Mk.n).Nodup:=g.nd.sublist ((tU T _).append (eI _));have ndk:(((nmK T Kd.mk).map kS)++M.map λm=>kS m.n).Nodup:=by have:=wj nd;rw[bb,aW]at this;exact this
 have hln:(nmK T Kd.mk).length<=200:=by have:=(tU T Kd.mk).length_le;rw[ag]at this;omega
 obtain⟨s2,e1⟩:=yZ (g:=gN 2) (i:=1) (fk:=cV 2) (fv:=cC (.int 1)) D.str id (λ_=>D.int 1) (λks ds s=>[.im sp,.dk ks ds,s,.un,.un])
  (λx ks ds s=>⟨[.im sp,.dk ks ds,.im (.str x),.un,.un],rfl,rfl,rfl,rfl,λks' ds'=>⟨_,rfl⟩⟩) (nmK T Kd.mk) [] [] .un (by rw[bJ];exact(bZ.mp ndk).1) (by simp;omega) rfl
 rw[bJ,bJ]at e1;have gen:∀(l:List Mk) (ks:List Key) (ds:List L4.D) (a b c:Sl),(ks++l.map λm=>kS m.n).Nodup->ks.length+l.length<=1000->ds.length=ks.length->∃a' b' c',forL (gT mJ 3) (tN 1 aw aD) (l.map mkT) [.im sp,.dk ks ds,a,b,c]=some (.nx [.im sp,.dk (ks++l.map λm=>kS m.n) (ds++l.map λm=>D.int m.mo),a',b',c']):=by
  intro l
  induction l with
  |nil=>intro ks ds a b c _ _ _;exact⟨a,b,c,by rw[bG,bG,bG,bq,bq];rfl⟩
  |cons m l ih=>
   intro ks ds a b c nd hl he;rw[aE]at hl;have hn:kS m.n∉ks:=λz=>by rw[bZ]at nd;exact nd.2.2 _ z _ (by rw[au];exact aV) rfl
   obtain⟨a',b',c',h⟩:=ih (ks++[kS m.n]) (ds++[.int m.mo]) (.im (.str m.n)) (.im (.int m.st)) (.im (.int m.mo)) (by rw[bw];exact nd) (by rw[aA,ba];omega) (by rw[aA,aA,he,ba,ba]);refine⟨a',b',c',?_⟩;rw[au];unfold forL;rw[show gT mJ 3 (mkT m) [.im sp,.dk ks ds,a,b,c]=some [.im sp,.dk ks ds,.im (.str m.n),.im (.int m.st),.im (.int m.mo)] from rfl];simp only[AI (i:=1) (fk:=cV 2) (fv:=cV 4) (ρ:=[.im sp,.dk ks ds,.im (.str m.n),.im (.int m.st),.im (.int m.mo)]) (x:=m.n) (d:=.int m.mo) rfl rfl rfl hn (by omega) he];refine h.trans ?_;rw[au,au,bw,bw];rfl
 obtain⟨a',b',c',e2⟩:=gen M ((nmK T Kd.mk).map kS) ((nmK T Kd.mk).map λ_=>D.int 1) s2 .un .un ndk (by rw[ag];omega) (by rw[ag,ag]);let V:List (Str×Int):=((nmK T Kd.mk).map λx=>(x,(1:Int)))++M.map λm=>(m.n,m.mo);refine⟨V,sj (ρ:=[.im sp,.im (dcI V),a',b',c']) rfl ?_,?_,λq hq=>?_,rfl⟩
 ·unfold zF;refine(rT (ρ':=[.im sp,.dk [] [],.un,.un,.un]) rfl).trans ?_;refine(rT ((tW (AJ (sZ (rU (rS rfl (rS rfl rfl)) (of_ok (by omega) Kd.mk aav))))).trans e1)).trans ?_;refine(rT ((tW rfl).trans e2)).trans ?_;have q1:V.map (λq=>kS q.1)=(nmK T Kd.mk).map kS++M.map λm=>kS m.n:=by simp only[V,bb,aW];rfl
  have q2:V.map (λq=>D.int q.2)=((nmK T Kd.mk).map λ_=>D.int 1)++M.map λm=>D.int m.mo:=by simp only[V,bb,aW];rfl
  unfold dcI;rw[q1,q2];rfl
 ·simp only[V,bb,aW];rw[show (aC∘λx:Str=>(x,(1:Int)))=id from rfl,List.map_id];rfl
 ·rcases bu.mp hq with h|h
  ·obtain⟨x,_,rfl⟩:=aG.mp h;exact Int.le_refl _
  ·obtain⟨m,h1,rfl⟩:=aG.mp h;exact(g.mo m h1).1
theorem Lx(h:e ρ=some (.dic ks ds,ρ1)):iIt e ρ=some (BZ (ks.map Lb) ds,ρ1):=by unfold iIt;rw[h]
theorem Do:∀V:List (Str×Int),BZ ((V.map λq=>kS q.1).map Lb) (V.map λq=>D.int q.2)=V.map λq=>D.tup [.str q.1,.int q.2]
 |[]=>rfl
 |q::V=>by have:=Do V;unfold BZ at this ⊢;rw[au,au,au,eB,this];rfl
abbrev ml:=(rR (c2 uu aD aR) sS)
theorem QO(g:Good T M dk)(hi:IL es):∃(V:List (Str×Int)) (es':List L4.D),IL es'/\vt es [sJ T M dk y]=some (dcI V,es')/\V.map aC=nmK T Kd.mk++M.map Mk.n/\∀p∈V,∃q∈moL T M,p.1=q.1/\0<=p.2/\p.2<=q.2:=by
 obtain⟨V0,e0,n0,p0,w0⟩:=F2 (y:=y) g;let sp:=sJ T M dk y;have nd:(nmK T Kd.mk++M.map Mk.n).Nodup:=g.nd.sublist ((tU T _).append (eI _));have hln:V0.length<=204:=by have h1:=aT bU n0;have h2:=(tU T Kd.mk).length_le;have h3:=g.len;have h4:=g.m4;rw[ag,aA,ag]at h1;rw[ag]at h2;omega
 have gen:∀(l:List (Str×Int)) (es:List L4.D) (ks:List Key) (ds:List L4.D) (a b:Sl),IL es->(∀q∈l,1<=q.2)->(ks++l.map λq=>kS q.1).Nodup->ks.length+l.length<=1000->ds.length=ks.length->∃(V:List (Str×Int)) (es':List L4.D) (a' b':Sl),IL es'/\V.map aC=l.map aC/\(∀p∈V,∃q∈l,p.1=q.1/\0<=p.2/\p.2<=q.2)/\
   forL (gT jv 2) (tN 2 ay (tI rX 1 ml)) (l.map λq=>D.tup [.str q.1,.int q.2]) [.im sp,.pm es,.dk ks ds,a,b]=some (.nx [.im sp,.pm es',.dk (ks++V.map λq=>kS q.1) (ds++V.map λq=>D.int q.2),a',b']):=by
  intro l
  induction l with
  |nil=>intro es ks ds a b hi _ _ _ _;exact⟨[],es,a,b,hi,rfl,λp hp=>(bR hp).elim,by rw[bG,bG,bG,bq,bq];rfl⟩
  |cons q l ih=>
   intro es ks ds a b hi hp nd hl he;rw[aE]at hl;have hq:=hp q aV;obtain⟨v,es1,h1,hv0,hv1,h4⟩:=ue hi (q.2+1) (by omega);have hn:kS q.1∉ks:=λz=>by rw[bZ]at nd;exact nd.2.2 _ z _ (by rw[au];exact aV) rfl
   obtain⟨V,es',a',b',g1,g2,gw,g3⟩:=ih es1 (ks++[kS q.1]) (ds++[.int v]) (.im (.str q.1)) (.im (.int q.2)) h1 (λq hq=>hp q (bf _ hq)) (by rw[bw];exact nd) (by rw[aA,ba];omega) (by rw[aA,aA,he,ba,ba]);refine⟨(q.1,v)::V,es',a',b',g1,by rw[au,au,g2],λp hp=>?_,?_⟩
   ·rcases aK.mp hp with rfl|hp
    ·exact⟨q,aV,rfl,hv0,by show v<=q.2;omega⟩
    ·obtain⟨q',c1,c2⟩:=gw p hp;exact⟨q',bf _ c1,c2⟩
   rw[au];unfold forL;rw[show gT jv 2 (.tup [.str q.1,.int q.2]) [.im sp,.pm es,.dk ks ds,a,b]=some [.im sp,.pm es,.dk ks ds,.im (.str q.1),.im (.int q.2)] from rfl];have ev:tI rX 1 ml [.im sp,.pm es,.dk ks ds,.im (.str q.1),.im (.int q.2)]=some (.int v,[.im sp,.pm es1,.dk ks ds,.im (.str q.1),.im (.int q.2)]):=(uS (es0:=es) (es:=es) (ρ1:=[.im sp,.pm es,.dk ks ds,.im (.str q.1),.im (.int q.2)]) rfl (rS (rY rfl rfl rfl) rfl) rfl h4).trans rfl;have st:tN 2 ay (tI rX 1 ml) [.im sp,.pm es,.dk ks ds,.im (.str q.1),.im (.int q.2)]=some (.nx [.im sp,.pm es1,.dk (ks++[kS q.1]) (ds++[.int v]),.im (.str q.1),.im (.int q.2)]):=by have:=AI (i:=2) (fk:=cV 3) (fv:=cC (.int v)) (ρ:=[.im sp,.pm es1,.dk ks ds,.im (.str q.1),.im (.int q.2)]) (x:=q.1) (d:=.int v) rfl rfl rfl hn (by omega) he;unfold tN at this ⊢;rw[ev];exact this
   simp only[st];refine g3.trans ?_;rw[au,au,bw,bw];rfl
 have ndV:(([]:List Key)++V0.map λq=>kS q.1).Nodup:=by have:=wj (l:=V0.map aC) (by rw[n0];exact nd);rw[aW]at this;rw[bJ];exact this
 obtain⟨V,es',a',b',g1,g2,gw,g3⟩:=gen V0 es [] [] .un .un hi p0 ndV (by simp;omega) rfl;rw[bJ,bJ]at g3;refine⟨V,es',g1,?_,by rw[g2,n0],λp hp=>w0▸gw p hp⟩;have run:xk (stL 5 es [sp])=some (.rt (dcI V) [.im sp,.pm es',.im (dcI V),a',b']):=by unfold xk;refine(rT (ρ':=[.im sp,.pm es,.dk [] [],.un,.un]) rfl).trans ?_;refine(rT ((tW (ds:=V0.map λq=>D.tup [.str q.1,.int q.2]) (ρ1:=[.im sp,.pm es,.dk [] [],.un,.un]) ?_).trans g3)).trans rfl;exact(Lx (rU (g:=xj) (ds:=[sp]) (ρ1:=[.im sp,.pm es,.dk [] [],.un,.un]) rfl e0)).trans (by rw[Do])
 unfold vt fnL;rw[ai (show [sp].length=1 from rfl),run];rfl
abbrev atD(A:List (Str×Str)):L4.D:=.dic (A.map λq=>kS q.1) (A.map λq=>D.str q.2)
structure Pl(y:Str)(rm:aB)(A:List (Str×Str))(Hs:aB)(rk:Str->Nat)(m:Nat):Prop where
 nd:(A.map aC).Nodup
 lt:∀q∈A,rk q.2<rk q.1/\rk q.1<m
 vh:∀q∈A,q.2∈Hs
 hs:∀h∈Hs,rk h<m
 ry:rk y=1
 rr:∀x∈rm,rk x=0
theorem Pl.add{rm:aB}(P:Pl y rm A Hs rk m)(hh:h∈Hs)(h1:x∉A.map aC)(h2:x∉Hs)(h3:x≠y)(h4:x∉rm)(Hs':aB)(hH:∀z∈Hs',z∈Hs\/z=x)(hS:∀z∈Hs,z∈Hs'):
  ∃rk',Pl y rm (A++[(x,h)]) Hs' rk' (m+1):=by
 have ne:∀z∈Hs,z≠x:=λz hz e=>h2 (e▸hz);refine⟨λz=>if z=x then m else rk z,?_,λq hq=>?_,λq hq=>?_,λz hz=>?_,?_,λz hz=>?_⟩
 ·rw[bb,bZ];refine⟨P.nd,by simp,λa ha b hb=>?_⟩;simp only[au,bG,aP]at hb;subst hb;exact λe=>h1 (e▸ha)
 ·rcases bu.mp hq with hq|hq
  ·obtain⟨a,b⟩:=P.lt q hq;rw[aj (ne _ (P.vh q hq)),aj (show ¬q.1=x from λe=>h1 (e▸cq hq))];exact⟨a,by omega⟩
  ·rw[aP]at hq;subst hq;rw[aj (ne h hh),ai rfl];exact⟨P.hs h hh,by omega⟩
 ·rcases bu.mp hq with hq|hq
  ·exact hS _ (P.vh q hq)
  ·rw[aP]at hq;subst hq;exact hS _ hh
 ·by_cases e:z=x
  ·rw[ai e];omega
  ·rw[aj e];rcases hH z hz with hz|hz
   ·have:=P.hs z hz;omega
   ·exact aq hz e
 ·rw[aj (λe=>h3 e.symm)];exact P.ry
 ·rw[aj (show ¬z=x from λe=>h4 (e▸hz))];exact P.rr z hz
theorem F3{α:Type}:∀(l:List α) (j:Nat) (h:j<l.length),(l[j]::l.eraseIdx j).Perm l
 |a::l,0,_=>kL _
 |a::l,j+1,h=>(List.Perm.swap a _ _).trans ((F3 l j (by simpa using h)).cons a)
theorem HF{α β:Type}(f:α->β):∀(l:List α) (j:Nat),(l.map f).eraseIdx j=(l.eraseIdx j).map f
 |[],j=>rfl
 |a::l,0=>rfl
 |a::l,j+1=>by show f a::(l.map f).eraseIdx j=_;rw[HF f l j];rfl
theorem IW(h1:fv ρ=some (d,ρ1))(h2:ρ1[i]?=some (.dk ks ds))(h3:fk ρ1=some (.str x,ρ1))(hn:kS x∉ks)(hl:ks.length<1000)(he:ds.length=ks.length):
  tN i fk fv ρ=some (.nx (ρ1.set i (.dk (ks++[kS x]) (ds++[d])))):=by
 have:=AI (i:=i) (fk:=fk) (fv:=cC d) (ρ:=ρ1) rfl h2 h3 hn hl he;unfold tN at this ⊢;rw[h1];exact this
theorem Ly{A:List (Str×Str)}(h:x∉A.map aC):kS x∉A.map λq=>kS q.1:=λz=>by obtain⟨q,hq,e⟩:=aG.mp z;exact h (aG.mpr ⟨q,hq,FV e⟩)
abbrev dkA(A:List (Str×Str)):Sl:=.dk (A.map λq=>kS q.1) (A.map λq=>D.str q.2)
theorem F4(A:List (Str×Str))(x h:Str):Sl.dk ((A.map λq=>kS q.1)++[kS x]) ((A.map λq=>D.str q.2)++[.str h])=dkA (A++[(x,h)]):=by unfold dkA;rw[bb,bb];rfl
theorem AZ:∀xs:aB,CP (xs.map D.str)=some (xs.map L3.Dq.str)
 |[]=>rfl
 |x::xs=>by rw[au];unfold CP;rw[AZ xs];rfl
theorem Km(x:Str)(xs:aB):dEq true (.lst ((x::xs).map D.str)) (.lst [])=some (.bl true):=by
 have e0:CQ true (.lst ((x::xs).map D.str)) (.lst [])=none:=rfl;have e1:toD (.lst ((x::xs).map D.str))=some (.lst ((x::xs).map L3.Dq.str)):=by unfold toD;rw[AZ]
 have e3:dpt (.lst ((x::xs).map L3.Dq.str))=1:=by rw[dpt,yI]
 unfold dEq;rw[e0];show CS true _ _=_;unfold CS;rw[e1,show toD (.lst [])=some (.lst []) from rfl];show (if GL (.lst ((x::xs).map L3.Dq.str)) (.lst [])&&decide (dpt (.lst ((x::xs).map L3.Dq.str))<=20)&&decide (dpt (.lst [])<=20)then some (D.bl !(eqD (.lst ((x::xs).map L3.Dq.str)) (.lst [])))else none)=_;rw[e3];rfl
def UJ:FT:=Bb (cT (c2 eA aD bQ))
abbrev mR:=(Ih 3 (tI rX 1 (rR (BW ir) sS)))
def QP:FS:=(rV (sM 5 (Bw 4 (tI rX 1 jY)))
 (rV (tN 2 aO mR)
 jS))
theorem Kn(sp:L4.D)(y:Str)(rm:aB):∀(n:Nat) (bx:aB) (es:List L4.D) (A:List (Str×Str)) (Hs:aB) (rk:Str->Nat) (m f:Nat) (s5:Sl),bx.length=n->n<f->IL es->Pl y rm A Hs rk m->Hs≠[]->bx.Nodup->(∀b∈bx,b∉A.map aC/\b∉Hs/\b≠y/\b∉rm)->A.length+n<=900->Hs.length+n<=900->
  ∃(es':List L4.D) (A':List (Str×Str)) (Hs':aB) (rk':Str->Nat) (t5:Sl),IL es'/\Pl y rm A' Hs' rk' (m+n)/\(∀z∈Hs',z∈Hs\/z∈bx)/\(∀z∈Hs,z∈Hs')/\(∀z∈A'.map aC,z∈A.map aC\/z∈bx)/\A'.length=A.length+n/\Hs'.length<=Hs.length+n/\
   whL UJ QP f [.im sp,.pm es,dkA A,.ls (Hs.map D.str),.ls (bx.map D.str),s5,.un,.un]=some (.nx [.im sp,.pm es',dkA A',.ls (Hs'.map D.str),.ls [],t5,.un,.un])
 |0,bx,es,A,Hs,rk,m,f+1,s5,hb,_,hi,P,_,_,_,_,_=>by
  cases bx with
  |cons b bx=>cases hb
  |nil=>exact⟨es,A,Hs,rk,s5,hi,P,λz hz=>.inl hz,λz hz=>hz,λz hz=>.inl hz,rfl,aF _,rfl⟩
 |n+1,bx,es,A,Hs,rk,m,f+1,s5,hb,hf,hi,P,h0,nd,fr,hA,hHl=>by
  obtain⟨v,es1,i1,v0,v1,d1⟩:=ue hi bx.length (by omega);obtain⟨j,rfl⟩:=cp v0;have hj:j<bx.length:=by omega
  let b:=bx[j];let bx':=bx.eraseIdx j;have perm:(b::bx').Perm bx:=F3 bx j hj;have ndb:(b::bx').Nodup:=perm.nodup_iff.mpr nd;have hbm:b∈bx:=dg hj;obtain⟨f1,f2,f3,f4⟩:=fr b hbm;have hbl:bx'.length=n:=by have:=perm.length_eq;rw[aE]at this;omega
  let ρ1:aZ:=[.im sp,.pm es1,dkA A,.ls (Hs.map D.str),.ls (bx'.map D.str),.im (.str b),.un,.un];obtain⟨h,es2,hh,i2,d2⟩:=IV (ρ:=ρ1) (i:=1) (j:=3) i1 h0 rfl rfl rfl (λ_=>rfl);obtain⟨rk1,P1⟩:=P.add hh f1 f2 f3 f4 (Hs++[b]) (λz hz=>by
   rcases bu.mp hz with hz|hz
   ·exact .inl hz
   ·exact .inr (aP.mp hz)) λz hz=>bF _ hz
  obtain⟨es',A',Hs',rk',t5,g1,g2,g3,g4,g5,g6,g7,g8⟩:=Kn sp y rm n bx' es2 (A++[(b,h)]) (Hs++[b]) rk1 (m+1) f (.im (.str b)) hbl (by omega) i2 P1 (by simp) (cc.mp ndb).2 (λc hc=>by
   obtain⟨q1,q2,q3,q4⟩:=fr c (perm.subset (bf _ hc));have ne:c≠b:=λe=>(cc.mp ndb).1 (e▸hc);refine⟨λz=>?_,λz=>?_,q3,q4⟩
   ·rw[bb]at z;rcases bu.mp z with z|z
    ·exact q1 z
    ·exact ne (by simpa using z)
   ·rcases bu.mp z with z|z
    ·exact q2 z
    ·exact ne (aP.mp z)) (by rw[aA,ba];omega) (by rw[aA,ba];omega)
  refine⟨es',A',Hs',rk',t5,g1,by rw[show m+(n+1)=m+1+n by omega];exact g2,λz hz=>?_,λz hz=>g4 z (bF _ hz),λz hz=>?_,by rw[g6,aA,ba];omega,by rw[aA,ba]at g7;omega,?_⟩
  ·rcases g3 z hz with h|h
   ·rcases bu.mp h with h|h
    ·exact .inl h
    ·exact .inr (by rw[aP.mp h];exact hbm)
   ·exact .inr (perm.subset (bf _ h))
  ·rcases g5 z hz with h|h
   ·rw[bb]at h;rcases bu.mp h with h|h
    ·exact .inl h
    ·exact .inr (by rw[show z=b by simpa using h];exact hbm)
   ·exact .inr (perm.subset (bf _ h))
  ·have et:UJ [.im sp,.pm es,dkA A,.ls (Hs.map D.str),.ls (bx.map D.str),s5,.un,.un]=some (true,[.im sp,.pm es,dkA A,.ls (Hs.map D.str),.ls (bx.map D.str),s5,.un,.un]):=by
    cases hx:bx with
    |nil=>rw[hx]at hb;cases hb
    |cons c bc=>exact Il (ρ1:=[.im sp,.im (.lst es),.un,.im (.lst (Hs.map D.str)),.im (.lst ((c::bc).map D.str)),s5.bor,.un,.un]) (tu (rY rfl rfl (Km c bc)))
   have ep:Bw 4 (tI rX 1 jY) [.im sp,.pm es,dkA A,.ls (Hs.map D.str),.ls (bx.map D.str),s5,.un,.un]=some (.str b,[.im sp,.pm es1,dkA A,.ls (Hs.map D.str),.ls (bx'.map D.str),s5,.un,.un]):=by have e1:BW fX [.im sp,.pm es,dkA A,.ls (Hs.map D.str),.ls (bx.map D.str),s5,.un,.un]=some (.int bx.length,[.im sp,.pm es,dkA A,.ls (Hs.map D.str),.ls (bx.map D.str),s5,.un,.un]):=Py (ρ1:=[.im sp,.im (.lst es),.un,.im (.lst (Hs.map D.str)),.im (.lst (bx.map D.str)),s5.bor,.un,.un]) (tE (x:=.lst (bx.map D.str)) rfl (by show some (D.int _)=_;rw[ag])) rfl;have e2:tI rX 1 jY [.im sp,.pm es,dkA A,.ls (Hs.map D.str),.ls (bx.map D.str),s5,.un,.un]=some (.int j,[.im sp,.pm es1,dkA A,.ls (Hs.map D.str),.ls (bx.map D.str),s5,.un,.un]):=(uS (es0:=es) (es:=es) (ρ1:=[.im sp,.pm es,dkA A,.ls (Hs.map D.str),.ls (bx.map D.str),s5,.un,.un]) rfl (rS e1 rfl) rfl d1).trans rfl;unfold Bw;rw[show uc [.im sp,.pm es,dkA A,.ls (Hs.map D.str),.ls (bx.map D.str),s5,.un,.un] 4=some (bx.map D.str) from rfl];simp only[e2];rw[show uc [.im sp,.pm es1,dkA A,.ls (Hs.map D.str),.ls (bx.map D.str),s5,.un,.un] 4=some (bx.map D.str) from rfl];simp only;rw[ai (by omega),iP,bt,aN hj];show (if (j:Int)<1000000 then some (D.str b,[Sl.im sp,.pm es1,dkA A,.ls (Hs.map D.str),.ls ((bx.map D.str).eraseIdx j),s5,.un,.un])else none)=_;rw[ai (by omega),HF]
   have e3:QP [.im sp,.pm es,dkA A,.ls (Hs.map D.str),.ls (bx.map D.str),s5,.un,.un]=some (.nx [.im sp,.pm es2,dkA (A++[(b,h)]),.ls ((Hs++[b]).map D.str),.ls (bx'.map D.str),.im (.str b),.un,.un]):=by
    unfold QP;refine(rT (ρ':=ρ1) ((su ep).trans rfl)).trans ?_;refine(rT (ρ':=[.im sp,.pm es2,dkA (A++[(b,h)]),.ls (Hs.map D.str),.ls (bx'.map D.str),.im (.str b),.un,.un]) ((IW (x:=b) d2 rfl rfl (Ly f1) (by rw[ag];omega) (by rw[ag,ag])).trans ?_)).trans ?_
    ·show some (Out.nx [.im sp,.pm es2,Sl.dk ((A.map λq=>kS q.1)++[kS b]) ((A.map λq=>D.str q.2)++[.str h]),.ls (Hs.map D.str),.ls (bx'.map D.str),.im (.str b),.un,.un])=_;rw[F4]
    ·refine(tJ (xG (es0:=Hs.map D.str) (es:=Hs.map D.str) (ρ1:=[.im sp,.pm es2,dkA (A++[(b,h)]),.ls (Hs.map D.str),.ls (bx'.map D.str),.im (.str b),.un,.un]) (d:=.str b) rfl rfl rfl (by rw[ag];omega))).trans ?_;show some (Out.nx [.im sp,.pm es2,dkA (A++[(b,h)]),.ls (Hs.map D.str++[.str b]),.ls (bx'.map D.str),.im (.str b),.un,.un])=_;rw[show Hs.map D.str++[D.str b]=(Hs++[b]).map D.str by rw[bb];rfl]
   unfold whL;rw[et];simp only[e3];exact g8
theorem Ko(sp:L4.D)(y:Str)(rm:aB)(s4 s5:Sl):∀(l:aB) (es:List L4.D) (A:List (Str×Str)) (Hs:aB) (rk:Str->Nat) (m:Nat) (s6:Sl),IL es->Pl y rm A Hs rk m->Hs≠[]->l.Nodup->(∀b∈l,b∉A.map aC/\b∉Hs/\b≠y/\b∉rm)->A.length+l.length<=900->
  ∃(es':List L4.D) (A':List (Str×Str)) (rk':Str->Nat) (t6:Sl),IL es'/\Pl y rm A' Hs rk' (m+l.length)/\(∀z∈A'.map aC,z∈A.map aC\/z∈l)/\A'.length=A.length+l.length/\
   forL (gN 6) (tN 2 bj mR) (l.map D.str) [.im sp,.pm es,dkA A,.ls (Hs.map D.str),s4,s5,s6,.un]=some (.nx [.im sp,.pm es',dkA A',.ls (Hs.map D.str),s4,s5,t6,.un])
 |[],es,A,Hs,rk,m,s6,hi,P,_,_,_,_=>⟨es,A,rk,s6,hi,P,λz hz=>.inl hz,rfl,rfl⟩
 |b::l,es,A,Hs,rk,m,s6,hi,P,h0,nd,fr,hA=>by
  rw[aE]at hA;obtain⟨f1,f2,f3,f4⟩:=fr b aV;let ρ1:aZ:=[.im sp,.pm es,dkA A,.ls (Hs.map D.str),s4,s5,.im (.str b),.un];obtain⟨h,es2,hh,i2,d2⟩:=IV (ρ:=ρ1) (i:=1) (j:=3) hi h0 rfl rfl rfl (λ_=>rfl);obtain⟨rk1,P1⟩:=P.add hh f1 f2 f3 f4 Hs (λz hz=>.inl hz) λz hz=>hz;obtain⟨es',A',rk',t6,g1,g2,g5,g6,g8⟩:=Ko sp y rm s4 s5 l es2 (A++[(b,h)]) Hs rk1 (m+1) (.im (.str b)) i2 P1 h0 (cc.mp nd).2 (λc hc=>by
   obtain⟨q1,q2,q3,q4⟩:=fr c (bf _ hc);have ne:c≠b:=λe=>(cc.mp nd).1 (e▸hc);refine⟨λz=>?_,q2,q3,q4⟩;rw[bb]at z;rcases bu.mp z with z|z
   ·exact q1 z
   ·exact ne (by simpa using z)) (by rw[aA,ba];omega)
  refine⟨es',A',rk',t6,g1,by rw[aE,show m+(l.length+1)=m+1+l.length by omega];exact g2,λz hz=>?_,by rw[g6,aA,ba,aE];omega,?_⟩
  ·rcases g5 z hz with h|h
   ·rw[bb]at h;rcases bu.mp h with h|h
    ·exact .inl h
    ·exact .inr (by rw[show z=b by simpa using h];exact aV)
   ·exact .inr (bf _ h)
  ·rw[au];unfold forL;rw[show gN 6 (.str b) [.im sp,.pm es,dkA A,.ls (Hs.map D.str),s4,s5,s6,.un]=some ρ1 from rfl];have st:tN 2 bj mR ρ1=some (.nx [.im sp,.pm es2,dkA (A++[(b,h)]),.ls (Hs.map D.str),s4,s5,.im (.str b),.un]):=by refine(IW (x:=b) d2 rfl rfl (Ly f1) (by rw[ag];omega) (by rw[ag,ag])).trans ?_;show some (Out.nx [.im sp,.pm es2,Sl.dk ((A.map λq=>kS q.1)++[kS b]) ((A.map λq=>D.str q.2)++[.str h]),.ls (Hs.map D.str),s4,s5,.im (.str b),.un])=_;rw[F4]
   simp only[st];exact g8
theorem LA(nd:(T.map Th.n).Nodup)(ht:t∈T)(hu:u∈T)(e:t.n=u.n):t=u:=by
 induction T with
 |nil=>cases ht
 |cons a T ih=>
  rw[au,cc]at nd;rcases aK.mp ht with h1|h1<;>rcases aK.mp hu with h2|h2
  ·exact h1.trans h2.symm
  ·exact aq (show a.n∈T.map Th.n from h1▸e▸cq h2) nd.1
  ·exact aq (show a.n∈T.map Th.n from h2▸e▸cq h1) nd.1
  ·exact ih nd.2 h1 h2
theorem ym(h:x∈nmK T p):∃t∈T,t.n=x/\p t.k=true:=by obtain⟨t,h1,h2⟩:=aG.mp h;obtain⟨h3,h4⟩:=bI.mp h1;exact⟨t,h3,h2,h4⟩
theorem AK(nd:(T.map Th.n).Nodup)(h:∀k,p k=true->q k=true->False)(h1:x∈nmK T p)(h2:x∈nmK T q):False:=by obtain⟨t,a1,a2,a3⟩:=ym h1;obtain⟨u,b1,b2,b3⟩:=ym h2;have:=LA nd a1 b1 (a2.trans b2.symm);subst this;exact h _ a3 b3
theorem LB{p q:Kd->Bool}(h:∀k,p k=true->q k=true):(nmK T p).length<=(T.filter λt=>q t.k).length:=by unfold nmK;rw[ag,<- iE,<- iE];exact nX λt _ ht=>h _ ht
theorem MG:∀{l L:aB},l.Nodup->(∀x∈l,x∈L)->L.length<=l.length->∀x∈L,x∈l
 |[],L,_,_,hl,x,hx=>by rw[cO,Nat.le_zero,nN]at hl;subst hl;cases hx
 |a::l,L,nd,hs,hl,x,hx=>by
  rw[cc]at nd;have ha:=hs a aV;by_cases e:x=a
  ·rw[e];exact aV
  ·refine bf _ (MG (L:=L.erase a) nd.2 (λz hz=>(oa (show z≠a from λw=>nd.1 (w▸hz))).mpr (hs z (bf _ hz))) ?_ x ((oa e).mpr hx));rw[List.length_erase_of_mem ha];rw[aE]at hl;omega
structure yF(A:List (Str×Str))(y:Str):Prop where
 nd:(A.map aC).Nodup
 rk:∃rk:Str->Nat,∀q∈A,rk q.2<rk q.1/\rk q.1<40
 yo:∃r,(y,r)∈A
 ln:A.length<=20
variable{es:List L4.D}
theorem Oe{y:Str}(g:Good T M dk)(hy:(T.filter λt=>decide (t.k=.you)).map Th.n=[y])(hi:IL es):∃(A:List (Str×Str)) (es':List L4.D),IL es'/\yF A y/\(∀q∈A,q.2∈T.map Th.n)/\((∀x,x∈A.map aC ↔ x∈nmK T λk=>!decide (k=.room))/\(∀q∈A,q.2∈nmK T Kd.hd)/\∀r,(y,r)∈A->r∈nmK T λk=>decide (k=.room))/\uP es [sJ T M dk y]=some (atD A,es'):=by
 have hl:=g.len;have nd:=g.ndT;let sp:=sJ T M dk y;let rm:=nmK T λk=>decide (k=.room);let bx:=nmK T λk=>decide (k=.box);let ot:=nmK T Kd.ot;let Hs:=nmK T λk=>!k.pl;have hyy:y∈nmK T λk=>decide (k=.you):=by unfold nmK;rw[hy];exact aP.mpr rfl
 have hyH:y∈Hs:=by obtain⟨t,h1,h2,h3⟩:=ym hyy;refine aG.mpr ⟨t,bI.mpr ⟨h1,?_⟩,h2⟩;rw[bo h3];rfl
 have yrm:∀x∈rm,x≠y:=λx hx e=>AK nd (λk h1 h2=>by rw[bo h1]at h2;cases h2) (e▸hx) hyy;have P0:Pl y rm [] Hs (λz=>if z=y then 1 else 0) 2:=⟨gU,λq hq=>(bR hq).elim,λq hq=>(bR hq).elim,λh _=>by split<;>omega,ai rfl,λx hx=>aj (yrm x hx)⟩;have fresh:∀(p:Kd->Bool),(∀k,p k=true->k.pl=true)->∀b∈nmK T p,b∉Hs/\b≠y/\b∉rm:=λp hp b hb=>⟨λz=>AK nd (λk h1 h2=>by rw[hp k h1]at h2;cases h2) hb z,λe=>AK nd (λk h1 h2=>by have:=hp k h1;rw[bo h2]at this;cases this) hb (e▸hyy),λz=>AK nd (λk h1 h2=>by have:=hp k h1;rw[bo h2]at this;cases this) hb z⟩
 have hpb:∀k:Kd,decide (k=.box)=true->k.pl=true:=λk h=>by rw[bo h];rfl
 have hpo:∀k:Kd,k.ot=true->k.pl=true:=λk h=>by cases k<;>first|rfl|cases h
 have hbl:bx.length<=7:=bK (LB hpb) g.p7;have hol:ot.length<=7:=bK (LB hpo) g.p7;have hHl:Hs.length<=200:=by have:=(tU T λk=>!k.pl).length_le;rw[ag]at this;exact bK this hl
 obtain⟨es1,A1,Hs1,rk1,t5,i1,P1,h3,h4,h5,h6,h7,h8⟩:=Kn sp y rm bx.length bx es [] Hs _ 2 50 .un rfl (by omega) hi P0 (λe=>by rw[e]at hyH;cases hyH) (nd.sublist (tU T _)) (λb hb=>⟨λz=>(bR z).elim,fresh _ hpb b hb⟩) (by simp;omega) (by omega);have frO:∀b∈ot,b∉bx:=λb hb z=>AK nd (λk h1 h2=>by rw[bo h2]at h1;cases h1) hb z;obtain⟨es2,A2,rk2,t6,i2,P2,q5,q6,q8⟩:=Ko sp y rm (.ls []) t5 ot es1 A1 Hs1 rk1 (2+bx.length) .un i1 P1 (λe=>by have:=h4 y hyH;rw[e]at this;cases this) (nd.sublist (tU T _)) (λb hb=>by
  obtain⟨f1,f2,f3⟩:=fresh _ hpo b hb;refine⟨λz=>?_,λz=>?_,f2,f3⟩
  ·rcases h5 b z with z|z
   ·cases z
   ·exact frO b hb z
  ·rcases h3 b z with z|z
   ·exact f1 z
   ·exact frO b hb z) (by rw[h6];simp;omega)
 have hrl:0<rm.length:=by have:=g.r1;simp only[rm,nmK,ag];omega
 obtain⟨v,es3,i3,v0,v1,d3⟩:=ue i2 rm.length (by omega);obtain⟨j,rfl⟩:=cp v0;have hj:j<rm.length:=by omega
 let z:=rm[j];have hz:z∈rm:=dg hj;have hyk:y∉A2.map aC:=λw=>by
  rcases q5 y w with w|w
  ·rcases h5 y w with w|w
   ·cases w
   ·exact(fresh _ hpb y w).2.1 rfl
  ·exact(fresh _ hpo y w).2.1 rfl
 have hA2:A2.length<=14:=by rw[q6,h6];simp;omega
 refine⟨A2++[(y,z)],es3,i3,⟨?_,⟨rk2,λq hq=>?_⟩,⟨z,by simp⟩,by rw[aA,ba];omega⟩,λq hq=>?_,⟨?K,?Hd,?Ry⟩,?_⟩
 ·rw[bb,bZ];refine⟨P2.nd,by simp,λa ha b hb=>?_⟩;simp only[au,bG,aP]at hb;subst hb;exact λe=>hyk (e▸ha)
 ·rcases bu.mp hq with hq|hq
  ·obtain⟨a,b⟩:=P2.lt q hq;exact⟨a,by omega⟩
  ·rw[aP]at hq;subst hq;show rk2 z<rk2 y/\rk2 y<40;rw[P2.rr z hz,P2.ry];omega
 ·rcases bu.mp hq with hq|hq
  ·rcases h3 _ (P2.vh q hq)with w|w<;>exact(tU T _).subset w
  ·rw[aP]at hq;subst hq;exact(tU T _).subset hz
 case K=>
  have sub:∀x∈(A2++[(y,z)]).map aC,x∈bx++(ot++[y]):=λx hx=>by
   rw[bb]at hx;rcases bu.mp hx with hx|hx
   ·rcases q5 x hx with w|w
    ·rcases h5 x w with w|w
     ·cases w
     ·exact bF _ w
    ·exact bO _ (bF _ w)
   ·exact bO _ (bO _ hx)
  have nd2:((A2++[(y,z)]).map aC).Nodup:=by rw[bb,bZ];refine⟨P2.nd,by simp,λa ha b hb=>?_⟩;simp only[au,bG,aP]at hb;subst hb;exact λe=>hyk (e▸ha)
  have ln:(bx++(ot++[y])).length<=((A2++[(y,z)]).map aC).length:=by rw[ag,aA,aA,aA,q6,h6,cO,ba,ba];omega
  have all:=MG nd2 sub ln;have tok:∀(p:Kd->Bool),(∀k,p k=true->(!decide (k=.room))=true)->∀x∈nmK T p,x∈nmK T λk=>!decide (k=.room):=λp hp x hx=>by obtain⟨t,h1,h2,h3⟩:=ym hx;exact aG.mpr ⟨t,bI.mpr ⟨h1,hp _ h3⟩,h2⟩
  intro x;constructor
  ·intro hx;rcases bu.mp (sub x hx)with w|w
   ·exact tok _ (λk h=>by rw[bo h];rfl) x w
   ·rcases bu.mp w with w|w
    ·exact tok _ (λk h=>by cases k<;>first|rfl|cases h) x w
    ·rw[aP]at w;rw[w];exact tok _ (λk h=>by rw[bo h];rfl) y hyy
  ·intro hx;obtain⟨t,t1,t2,t3⟩:=ym hx;apply all;have mk:∀p:Kd->Bool,p t.k=true->x∈nmK T p:=λp h=>aG.mpr ⟨t,bI.mpr ⟨t1,h⟩,t2⟩;cases hk:t.k with
   |room=>rw[hk]at t3;cases t3
   |you=>have:=mk (λk=>decide (k=.you)) (by rw[hk];rfl);unfold nmK at this;rw[hy]at this;exact bO _ (bO _ this)
   |box=>exact bF _ (mk (λk=>decide (k=.box)) (by rw[hk];rfl))
   |plain=>exact bO _ (bF _ (mk Kd.ot (by rw[hk];rfl)))
   |fixed=>exact bO _ (bF _ (mk Kd.ot (by rw[hk];rfl)))
   |lamp=>exact bO _ (bF _ (mk Kd.ot (by rw[hk];rfl)))
 case Hd=>
  have toh:∀(p:Kd->Bool),(∀k,p k=true->k.hd=true)->∀x∈nmK T p,x∈nmK T Kd.hd:=λp hp x hx=>by obtain⟨t,h1,h2,h3⟩:=ym hx;exact aG.mpr ⟨t,bI.mpr ⟨h1,hp _ h3⟩,h2⟩
  intro q hq;rcases bu.mp hq with hq|hq
  ·rcases h3 _ (P2.vh q hq)with w|w
   ·exact toh _ (λk h=>by cases k<;>first|rfl|cases h) _ w
   ·exact toh _ (λk h=>by rw[bo h];rfl) _ w
  ·rw[aP]at hq;subst hq;exact toh _ (λk h=>by rw[bo h];rfl) _ hz
 case Ry=>
  intro r hr;rcases bu.mp hr with hr|hr
  ·exact aq (aG.mpr ⟨_,hr,rfl⟩) hyk
  ·rw[aP]at hr;cases hr;exact hz
 have run:wu (stL 8 es [sp])=some (.rt (atD (A2++[(y,z)])) [.im sp,.pm es3,.im (atD (A2++[(y,z)])),.ls (Hs1.map D.str),.ls [],t5,t6,.im (.lst (rm.map D.str))]):=by
  unfold wu;refine(rT (ρ':=[.im sp,.pm es,.dk [] [],.un,.un,.un,.un,.un]) rfl).trans ?_;refine(rT (ρ':=[.im sp,.pm es,.dk [] [],.ls (Hs.map D.str),.un,.un,.un,.un]) ((zd (rU (rS rfl (rS rfl rfl)) (of_ok (by omega) (λk=>!k.pl) aaw))).trans rfl)).trans ?_;refine(rT (ρ':=[.im sp,.pm es,.dk [] [],.ls (Hs.map D.str),.ls (bx.map D.str),.un,.un,.un]) ((zd (rU (rS rfl (rS rfl rfl)) (of_ok (by omega) (λk=>decide (k=.box)) QN))).trans rfl)).trans ?_;refine(rT h8).trans ?_;refine(rT ((tW (AJ (sZ (rU (rS rfl (rS rfl rfl)) (of_ok (by omega) Kd.ot aax))))).trans q8)).trans ?_;refine(rT (ρ':=[.im sp,.pm es2,dkA A2,.ls (Hs1.map D.str),.ls [],t5,t6,.im (.lst (rm.map D.str))]) ((su (sZ (rU (rS rfl (rS rfl rfl)) (of_ok (by omega) (λk=>decide (k=.room)) T4)))).trans rfl)).trans ?_;have ev:c2 dIx cx (tI rX 1 (rR (c1 xW cx) sS)) [.im sp,.pm es2,dkA A2,.ls (Hs1.map D.str),.ls [],t5,t6,.im (.lst (rm.map D.str))]=some (.str z,[.im sp,.pm es3,dkA A2,.ls (Hs1.map D.str),.ls [],t5,t6,.im (.lst (rm.map D.str))]):=
   rY (x:=.lst (rm.map D.str)) (y:=.int j) (ρ1:=[.im sp,.pm es2,dkA A2,.ls (Hs1.map D.str),.ls [],t5,t6,.im (.lst (rm.map D.str))]) rfl ((uS (i:=1) (es0:=es2) (es:=es2) (ρ1:=[.im sp,.pm es2,dkA A2,.ls (Hs1.map D.str),.ls [],t5,t6,.im (.lst (rm.map D.str))]) (ds:=[.int rm.length]) rfl (by show some ([D.int ((rm.map D.str).length:Nat)],_)=_;rw[ag]) rfl d3).trans rfl) (vc (aN hj))
  refine(rT (ρ':=[.im sp,.pm es3,dkA (A2++[(y,z)]),.ls (Hs1.map D.str),.ls [],t5,t6,.im (.lst (rm.map D.str))]) ((IW (x:=y) ev rfl rfl (Ly hyk) (by rw[ag];omega) (by rw[ag,ag])).trans ?_)).trans rfl;show some (Out.nx [.im sp,.pm es3,Sl.dk ((A2.map λq=>kS q.1)++[kS y]) ((A2.map λq=>D.str q.2)++[.str z]),.ls (Hs1.map D.str),.ls [],t5,t6,.im (.lst (rm.map D.str))])=_;rw[F4]
 unfold uP fnL;rw[ai (show [sp].length=1 from rfl),run];rfl
theorem LC{α β:Type}{f:α->β}(hf:∀a b,f a=f b->a=b){l:List α}(h:l.Nodup):(l.map f).Nodup:=List.Pairwise.map f (λa b h e=>h (hf a b e)) h
abbrev Ky:=Str×Str
def prD(q:Ky×L4.D):L4.D:=.tup [.tup [.str q.1.1,.str q.1.2],q.2]
theorem T5(a b c d:Str):dEq false (.tup [.str a,.str b]) (.tup [.str c,.str d])=some (.bl (decide ((a,b)=(c,d)))):=by have e0:CQ false (.tup [.str a,.str b]) (.tup [.str c,.str d])=none:=rfl;have e1:CS false (.tup [.str a,.str b]) (.tup [.str c,.str d])=some (.bl (L3.eqD (.tup [.str a,.str b]) (.tup [.str c,.str d]))):=rfl;unfold dEq;rw[e0];simp only;rw[e1];congr 2;rw[cB];simp[L3.eqD,L3.wJ]
theorem F5(p:Sl)(k:Ky):∀(S:List (Ky×L4.D)) (s:Sl),∃s',(∃d,(k,d)∈S/\forL eh l6 (S.map prD) [p,.im (.tup [.str k.1,.str k.2]),s]=some (.rt d [p,.im (.tup [.str k.1,.str k.2]),s']))\/
  (k∉S.map aC/\forL eh l6 (S.map prD) [p,.im (.tup [.str k.1,.str k.2]),s]=some (.nx [p,.im (.tup [.str k.1,.str k.2]),s']))
 |[],s=>⟨s,.inr ⟨bR,rfl⟩⟩
 |q::S,s=>by
  have ev:cT rf [p,.im (.tup [.str k.1,.str k.2]),.im (prD q)]=some (decide (q.1=k),[p,.im (.tup [.str k.1,.str k.2]),.im (prD q)]):=tu (rY (x:=.tup [.str q.1.1,.str q.1.2]) (y:=.tup [.str k.1,.str k.2]) rfl rfl (T5 _ _ _ _));rw[au];unfold forL;rw[show gN 2 (prD q) [p,.im (.tup [.str k.1,.str k.2]),s]=some [p,.im (.tup [.str k.1,.str k.2]),.im (prD q)] from rfl];by_cases h:q.1=k
  ·rw[aX h]at ev;refine⟨.im (prD q),.inl ⟨q.2,by rw[<-h];exact aV,?_⟩⟩;simp only[sG ev];rfl
  ·rw[aL h]at ev;obtain⟨s',h1⟩:=F5 p k S (.im (prD q));simp only[rZ ev];refine⟨s',?_⟩;rcases h1 with ⟨d,h1,h2⟩|⟨h1,h2⟩
   ·exact .inl ⟨d,bf _ h1,h2⟩
   ·exact .inr ⟨λz=>by
     rw[au]at z;rcases aK.mp z with z|z
     ·exact h z.symm
     ·exact h1 z,h2⟩
theorem CB(S:List (Ky×L4.D))(k:Ky):(∃d,(k,d)∈S/\xT [.tup (S.map prD),.tup [.str k.1,.str k.2]]=some d)\/(k∉S.map aC/\xT [.tup (S.map prD),.tup [.str k.1,.str k.2]]=some .non):=by
 obtain⟨s',h⟩:=F5 (.im (.tup (S.map prD))) k S .un;rcases h with ⟨d,h1,h2⟩|⟨h1,h2⟩
 ·refine .inl ⟨d,h1,sj rfl (sA ((tW rfl).trans h2))⟩
 ·refine .inr ⟨h1,sj rfl ((rT ((tW rfl).trans h2)).trans rfl)⟩
def bas(A:List (Str×Str))(V:List (Str×Int)):List (Ky×L4.D):=(A.map λq=>((("at", q.1):Ky),D.str q.2))++V.map λq=>((("mark", q.1):Ky),D.int q.2)
theorem Kp:∀B:List (Ky×L4.D),Ai (B.map prD)=some (B.map λq=>[q.1.1,q.1.2])
 |[]=>rfl
 |q::B=>by rw[au];unfold Ai;rw[Kp B];rfl
theorem LD{α:Type}(d:α):∀l:List α,(bB l.length).map (λi=>l.getD i d)=l:=λl=>by
 apply List.ext_getElem
 ·rw[ag,gO]
 ·intro i h1 h2;rw[List.getElem_map,List.getElem_range,cn,aN h2];rfl
theorem T6(B:List (Ky×L4.D))(nd:(B.map aC).Nodup)(h0:0<B.length)(h1:B.length<64):∃S:List (Ky×L4.D),S.Perm B/\G5 (B.map prD)=some (S.map prD):=by
 let ks:=B.map λq=>[q.1.1,q.1.2];have hn:ks.Nodup:=by
  have:ks=(B.map aC).map λk=>[k.1,k.2]:=by rw[aW];rfl
  rw[this];exact LC (λa b h=>by injection h with a1 a2;injection a2 with a2 _;exact Prod.ext a1 a2) nd
 let c:Nat->Nat->Bool:=λi j=>Ag (ks.getD i []) (ks.getD j []);refine⟨(JU c B.length).map λi=>B.getD i (("", ""),.non),?_,?_⟩
 ·have:=(CY c h0).map λi=>B.getD i (("", ""),.non);rw[LD]at this;exact this
 ·unfold G5;rw[Kp];simp only[ag];rw[ai ⟨hn,h0,h1⟩,aW];congr 1;refine List.map_congr_left λi hi=>?_;have hl:=Iv c h0 i hi;show (B.map prD).getD i .non=prD (B.getD i (("", ""),.non));rw[cn,cn,bt,aN hl];rfl
theorem F6:∀V:List (Str×Str),BZ ((V.map λq=>kS q.1).map Lb) (V.map λq=>D.str q.2)=V.map λq=>D.tup [.str q.1,.str q.2]
 |[]=>rfl
 |q::V=>by have:=F6 V;unfold BZ at this ⊢;rw[au,au,au,eB,this];rfl
theorem T7(h:e ρ=some (.lst ds,ρ1))(h1:G5 ds=some es):Fk e ρ=some (es,ρ1):=by unfold Fk;rw[h];simp only[h1]
structure Dp(A:List (Str×Str))(V:List (Str×Int))(S:List (Ky×L4.D)):Prop where
 i:∀q∈A,((("at", q.1):Ky),D.str q.2)∈S
 o:∀x d,((("at", x):Ky),d)∈S->∃z,d=.str z/\(x,z)∈A
 mi:∀q∈V,((("mark", q.1):Ky),D.int q.2)∈S
 mo:∀x d,((("mark", x):Ky),d)∈S->∃z,d=.int z/\(x,z)∈V
abbrev ql:=(tH (rR (tH (rR (cC (.str "mark")) (rR af sS))) (rR ah sS)))
abbrev qp:=(rR ah sS)
theorem Kq{V:List (Str×Int)}(a:yF A y)(nv:(V.map aC).Nodup)(lv:V.length<=40):∃S,Dp A V S/\zG [atD A,dcI V]=some (.tup (S.map prD)):=by
 have hl:=a.ln;have h0:0<A.length:=by obtain⟨r,h⟩:=a.yo;exact List.length_pos_of_mem h
 have nd:((bas A V).map aC).Nodup:=by
  unfold bas;rw[bb,aW,aW,bZ];have e1:A.map (aC∘λq=>((("at", q.1):Ky),D.str q.2))=(A.map aC).map λx=>(("at", x):Ky):=by rw[aW];rfl
  have e2:V.map (aC∘λq=>((("mark", q.1):Ky),D.int q.2))=(V.map aC).map λx=>(("mark", x):Ky):=by rw[aW];rfl
  rw[e1,e2];refine⟨LC (λa b h=>aT jr h) a.nd,LC (λa b h=>aT jr h) nv,λx hx z hz e=>?_⟩;obtain⟨_,_,rfl⟩:=aG.mp hx;obtain⟨_,_,rfl⟩:=aG.mp hz;have:=aT aC e;exact aq this (by decide:¬(("at" : Str)="mark"))
 obtain⟨S,p,e⟩:=T6 (bas A V) nd (by unfold bas;rw[aA,ag];omega) (by unfold bas;rw[aA,ag,ag];omega);refine⟨S,⟨λq hq=>p.mem_iff.mpr (bF _ (aG.mpr ⟨q,hq,rfl⟩)),λx d h=>?_,λq hq=>p.mem_iff.mpr (bO _ (aG.mpr ⟨q,hq,rfl⟩)),λx d h=>?_⟩,?_⟩
 ·rcases bu.mp (p.mem_iff.mp h)with h|h
  ·obtain⟨q,hq,e⟩:=aG.mp h;cases e;exact⟨_,rfl,hq⟩
  ·obtain⟨q,hq,e⟩:=aG.mp h;have:=aT (λz=>z.1.1) e;exact aq this (by decide:¬(("mark" : Str)="at"))
 ·rcases bu.mp (p.mem_iff.mp h)with h|h
  ·obtain⟨q,hq,e⟩:=aG.mp h;have:=aT (λz=>z.1.1) e;exact aq this (by decide:¬(("at" : Str)="mark"))
  ·obtain⟨q,hq,e⟩:=aG.mp h;cases e;exact⟨_,rfl,hq⟩
 ·let ρ0:aZ:=[.im (atD A),.im (dcI V),.un];let pa:Str×Str->L4.D:=λq=>.tup [.tup [.str "at", .str q.1],.str q.2];let pm:Str×Int->L4.D:=λq=>.tup [.tup [.str "mark", .str q.1],.int q.2];let ρ1:aZ:=[.im (atD A),.im (dcI V),.im (.lst (A.map pa))];have c1:sL 2 [] (iIt af) fZ tR (tH (rR (tH (rR (cC (.str "at")) mm)) qp)) ρ0=some (A.map pa,ρ0):=by refine(zg (ds:=A.map λq=>D.tup [.str q.1,.str q.2]) (ρ1:=ρ0) ((Lx rfl).trans (by rw[F6])) (by rw[ag];omega)).trans ?_;exact IA (λq:Str×Str=>D.tup [.str q.1,.str q.2]) pa A λq _=>⟨[.im (.str q.1),.im (.str q.2)],_,rfl,rfl,rfl⟩
  have c2:sL 2 [] (iIt ah) fZ tR ql ρ1=some (V.map pm,ρ1):=by refine(zg (ds:=V.map λq=>D.tup [.str q.1,.int q.2]) (ρ1:=ρ1) ((Lx rfl).trans (by rw[Do])) (by rw[ag];omega)).trans ?_;exact IA (λq:Str×Int=>D.tup [.str q.1,.int q.2]) pm V λq _=>⟨[.im (.str q.1),.im (.int q.2)],_,rfl,rfl,rfl⟩
  have eb:(bas A V).map prD=A.map pa++V.map pm:=by unfold bas;rw[bb,aW,aW];rfl
  have c3:=T7 (e:=cL (uR aw (cL (sL 2 [] (iIt ah) fZ tR ql)))) (ρ:=ρ1) (sZ (wc (xs:=A.map pa) rfl (sZ c2) (by rw[ag,ag];omega))) (eb▸e);refine sj (ρ:=ρ1) rfl ((rT (ρ':=ρ1) ((su (sZ c1)).trans rfl)).trans (sy ?_));unfold GX;rw[sZ c3]
inductive Ch(A:List (Str×Str)):Str->aB->Prop
 |nil {x}:x∉A.map aC->Ch A x []
 |cons {x z l}:(x,z)∈A->Ch A z l->Ch A x (z::l)
theorem F7(a:yF A y)(x:Str):∃l,Ch A x l/\l.length<=40:=by
 obtain⟨rk,hr⟩:=a.rk;have gen:∀(n:Nat) (x:Str),(x∈A.map aC->rk x<n)->∃l,Ch A x l/\l.length<=n:=by
  intro n
  induction n with
  |zero=>intro x h;exact⟨[],.nil (λz=>aq (h z) (by omega)),by simp⟩
  |succ n ih=>
   intro x h;by_cases hx:x∈A.map aC
   ·obtain⟨q,hq,rfl⟩:=aG.mp hx;have:=h hx;obtain⟨l,h1,h2⟩:=ih q.2 λ_=>by have:=(hr q hq).1;omega
    exact⟨q.2::l,.cons hq h1,by rw[aE];omega⟩
   ·exact⟨[],.nil hx,by simp⟩
 exact gen 40 x λh=>by obtain⟨q,hq,rfl⟩:=aG.mp h;exact(hr q hq).2
theorem YC(c:Ch A x l):∀a∈l,∃q∈A,q.2=a:=by
 induction c with
 |nil _=>intro a h;cases h
 |cons h _ ih=>
  intro a ha;rcases aK.mp ha with e|ha
  ·exact⟨_,h,e.symm⟩
  ·exact ih a ha
theorem MH{A:List (Str×Str)}(nd:(A.map aC).Nodup)(h:(x,z)∈A)(h':(x,z')∈A):z=z':=by
 induction A with
 |nil=>cases h
 |cons a A ih=>
  rw[au,cc]at nd;rcases aK.mp h with h1|h1<;>rcases aK.mp h' with h2|h2
  ·rw[<-h1]at h2;exact(aT jr h2).symm
  ·exact aq (show a.1∈A.map aC from h1▸aG.mpr ⟨_,h2,rfl⟩) nd.1
  ·exact aq (show a.1∈A.map aC from h2▸aG.mpr ⟨_,h1,rfl⟩) nd.1
  ·exact ih nd.2 h1 h2
abbrev sD(S:List (Ky×L4.D)):L4.D:=.tup (S.map prD)
abbrev wO(T:List Th)(M:List Mk)(dk:aB)(y:Str)(mo:L4.D):L4.D:=.obj 14 wNs (wDs T M dk y mo)
section
variable{A:List (Str×Str)}{V:List (Str×Int)}{S:List (Ky×L4.D)}{y:Str}{T:List Th}{M:List Mk}{dk:aB}{mo:L4.D}
theorem QQ(g:Good T M dk):uL [TD T,MD M]=some (dcI (moL T M)):=by
 have hl:=g.len;have hm:=g.m4;have nd:(nmK T Kd.mk++M.map Mk.n).Nodup:=g.nd.sublist ((tU T _).append (eI _));have ndk:(((nmK T Kd.mk).map kS)++M.map λm=>kS m.n).Nodup:=by have:=wj nd;rw[bb,aW]at this;exact this
 have hln:(nmK T Kd.mk).length<=200:=by have:=(tU T Kd.mk).length_le;rw[ag]at this;omega
 have g1:∀(l:List Th) (ks:List Key) (ds:List L4.D) (s:Sl),(ks++(nmK l Kd.mk).map kS).Nodup->ks.length+l.length<=900->ds.length=ks.length->∃s',forL dD qk (l.map thD) [.im (TD T),.im (MD M),.dk ks ds,s,.un]=some (.nx [.im (TD T),.im (MD M),.dk (ks++(nmK l Kd.mk).map kS) (ds++(nmK l Kd.mk).map λ_=>D.int 1),s',.un]):=by
  intro l
  induction l with
  |nil=>exact λks ds s _ _ _=>⟨s,by unfold nmK;simp;rfl⟩
  |cons t l ih=>
   intro ks ds s nd hk he;rw[aE]at hk;have em:cT qW [.im (TD T),.im (MD M),.dk ks ds,.im (thD t),.un]=some (t.k.mk,[.im (TD T),.im (MD M),.dk ks ds,.im (thD t),.un]):=tu (tX (xs:=[.str t.n,.tup (t.w.map D.str),.str t.k.s,oS t.s]) (ys:=[]) rfl rfl rfl rfl (My t));cases q:t.k.mk with
   |true=>
    rw[q]at em;have e0:nmK (t::l) Kd.mk=t.n::nmK l Kd.mk:=by unfold nmK;rw[dh,q,ai rfl,au]
    rw[e0,au]at nd;rw[e0,au,au];have hn:kS t.n∉ks:=λz=>by rw[bZ]at nd;exact nd.2.2 _ z _ aV rfl
    obtain⟨s',h⟩:=ih (ks++[kS t.n]) (ds++[.int 1]) (.im (thD t)) (by rw[bw];exact nd) (by rw[aA,ba];omega) (by rw[aA,aA,he,ba,ba]);refine⟨s',?_⟩;rw[au];unfold forL;rw[show gN 3 (thD t) [.im (TD T),.im (MD M),.dk ks ds,s,.un]=some [.im (TD T),.im (MD M),.dk ks ds,.im (thD t),.un] from rfl];have ev:=(sG (f:=tN 2 m9 aR) (g:=sF) em).trans (AI (i:=2) (fk:=c1 cI ay) (fv:=cC (.int 1)) (ρ:=[.im (TD T),.im (MD M),.dk ks ds,.im (thD t),.un]) (x:=t.n) (d:=.int 1) rfl rfl (tE rfl (yD t)) hn (by omega) he);simp only[ev];refine h.trans ?_;rw[bw,bw];rfl
   |false=>
    rw[q]at em;have e0:nmK (t::l) Kd.mk=nmK l Kd.mk:=by unfold nmK;rw[dh,q,aj (by decide)]
    rw[e0]at nd ⊢;obtain⟨s',h⟩:=ih ks ds (.im (thD t)) nd (by omega) he;refine⟨s',?_⟩;rw[au];unfold forL;rw[show gN 3 (thD t) [.im (TD T),.im (MD M),.dk ks ds,s,.un]=some [.im (TD T),.im (MD M),.dk ks ds,.im (thD t),.un] from rfl];have ev:=(rZ (f:=tN 2 m9 aR) (g:=sF) em);simp only[ev];exact h
 obtain⟨s1,e1⟩:=g1 T [] [] .un (by rw[bJ];exact(bZ.mp ndk).1) (by simp;omega) rfl;rw[bJ,bJ]at e1;obtain⟨s2,e2⟩:=yZ (g:=gN 4) (i:=2) (fk:=c1 cI aD) (fv:=c1 lV aD) mkD Mk.n (λm=>D.int m.mo) (λks ds s=>[.im (TD T),.im (MD M),.dk ks ds,s1,s])
  (λm ks ds s=>⟨[.im (TD T),.im (MD M),.dk ks ds,s1,.im (mkD m)],rfl,tE rfl (TM m),rfl,tE rfl (IP m),λks' ds'=>⟨_,rfl⟩⟩) M ((nmK T Kd.mk).map kS) ((nmK T Kd.mk).map λ_=>D.int 1) .un ndk (by rw[ag];omega) (by rw[ag,ag])
 refine sj (ρ:=[.im (TD T),.im (MD M),.im (dcI (moL T M)),s1,s2]) rfl ?_;unfold wV;refine(rT (ρ':=[.im (TD T),.im (MD M),.dk [] [],.un,.un]) rfl).trans ?_;refine(rT ((tW rfl).trans e1)).trans ((rT ((tW rfl).trans e2)).trans ?_);have q1:(moL T M).map (λq=>kS q.1)=(nmK T Kd.mk).map kS++M.map λm=>kS m.n:=by simp only[moL,bb,aW];rfl
 have q2:(moL T M).map (λq=>D.int q.2)=((nmK T Kd.mk).map λ_=>D.int 1)++M.map λm=>D.int m.mo:=by simp only[moL,bb,aW];rfl
 unfold dcI;rw[q1,q2];rfl
abbrev wM(T:List Th)(M:List Mk)(dk:aB)(y:Str):L4.D:=wO T M dk y (dcI (moL T M))
theorem LF{V:List (Str×Int)}(nv:(V.map aC).Nodup)(h:(x,z)∈V):uo (V.map λq=>kS q.1) (V.map λq=>D.int q.2) (kS x)=some (.int z):=
 Aj (by have:=wj nv;rw[aW]at this;exact this) (by rw[jf];exact aG.mpr ⟨_,h,rfl⟩)
theorem A0(a:yF A y)(o:Dp A V S)(h:(x,z)∈A):vq [sD S,.str x]=some (.str z):=by
 refine sj (ρ:=[.im (sD S),.im (.str x)]) rfl (sy (rU (ds:=[sD S,.tup [.str "at", .str x]]) (rS rfl (rS rfl rfl)) ?_));rcases CB S ("at", x)with ⟨d,h1,h2⟩|⟨h1,h2⟩
 ·obtain⟨z',rfl,h3⟩:=o.o x d h1;rw[h2,MH a.nd h3 h]
 ·exact aq (aG.mpr ⟨_,o.i _ h,rfl⟩) h1
theorem Ey(o:Dp A V S)(h:x∉A.map aC):vq [sD S,.str x]=some .non:=by
 refine sj (ρ:=[.im (sD S),.im (.str x)]) rfl (sy (rU (ds:=[sD S,.tup [.str "at", .str x]]) (rS rfl (rS rfl rfl)) ?_));rcases CB S ("at", x)with ⟨d,h1,h2⟩|⟨h1,h2⟩
 ·obtain⟨z',rfl,h3⟩:=o.o x d h1;exact aq (aG.mpr ⟨_,h3,rfl⟩) h
 ·exact h2
abbrev qd:=(rR ah j4)
theorem Of(a:yF A y)(o:Dp A V S)(w nm:Sl)(c:Ch A x l):∀(n:Nat) (hs:List L4.D) (ab:L4.D),vq [sD S,.str x]=some ab->l.length<n->hs.length+l.length<=1000->
  whL (cT f6) (rV mG (sM 4 (rW vq qd))) n [w,.im (sD S),nm,.ls hs,.im ab]=some (.nx [w,.im (sD S),nm,.ls (hs++l.map D.str),.im .non]):=by
 induction c with
 |@nil x h=>
  intro n hs ab e hn _;rw[Ey o h]at e;cases e;cases n with
  |zero=>cases hn
  |succ n=>rw[bG,bq];rfl
 |@cons x z l h c ih=>
  intro n hs ab e hn hl;rw[A0 a o h]at e;cases e;rw[aE]at hn hl;cases n with
  |zero=>cases hn
  |succ n=>
   obtain⟨ab',e'⟩:∃ab',vq [sD S,.str z]=some ab':=by
    cases c with
    |nil h=>exact⟨_,Ey o h⟩
    |cons h _=>exact⟨_,A0 a o h⟩
   have ev:rV mG (sM 4 (rW vq qd)) [w,.im (sD S),nm,.ls hs,.im (.str z)]=some (.nx [w,.im (sD S),nm,.ls (hs++[.str z]),.im ab']):=by refine(rT (ρ':=[w,.im (sD S),nm,.ls (hs++[.str z]),.im (.str z)]) (tJ ((xG (es:=hs) rfl rfl rfl (by omega)).trans rfl))).trans ?_;exact(su (rU (rS rfl (rS rfl rfl)) e')).trans rfl
   rw[au];unfold whL;rw[show cT f6 [w,.im (sD S),nm,.ls hs,.im (.str z)]=some (true,[w,.im (sD S),nm,.ls hs,.im (.str z)]) from rfl];simp only[ev];refine(ih n (hs++[.str z]) ab' e' (by omega) (by rw[aA,ba];omega)).trans ?_;rw[bw];rfl
theorem MI(a:yF A y)(o:Dp A V S)(w:L4.D)(c:Ch A x l)(hl:l.length<=40):zw [w,sD S,.str x]=some (l.map D.str):=by
 obtain⟨ab,e⟩:∃ab,vq [sD S,.str x]=some ab:=by
  cases c with
  |nil h=>exact⟨_,Ey o h⟩
  |cons h _=>exact⟨_,A0 a o h⟩
 refine zh (ρ:=[.im w,.im (sD S),.im (.str x),.un,.im .non]) rfl ?_;refine(rT (ρ':=[.im w,.im (sD S),.im (.str x),.ls [],.un]) rfl).trans ?_;refine(rT (ρ':=[.im w,.im (sD S),.im (.str x),.ls [],.im ab]) ((su (rU (rS rfl (rS rfl rfl)) e)).trans rfl)).trans ?_;exact(rT (Of a o (.im w) (.im (.str x)) c 50 [] ab e (by omega) (by simp;omega))).trans rfl
theorem ndk(a:yF A y):(A.map λq=>kS q.1).Nodup:=by have:=wj a.nd;rw[aW]at this;exact this
theorem A3(a:yF A y)(h:(x,z)∈A):uo (A.map λq=>kS q.1) (A.map λq=>D.str q.2) (kS x)=some (.str z):=
 Aj (ndk a) (by rw[jf];exact aG.mpr ⟨_,h,rfl⟩)
theorem MJ(h:x∉A.map aC):uo (A.map λq=>kS q.1) (A.map λq=>D.str q.2) (kS x)=none:=
 AS λz=>by obtain⟨q,h1,h2⟩:=aG.mp z;exact h (aG.mpr ⟨q,h1,by injection h2⟩)
theorem QR(a:yF A y)(c:Ch A x l):∀(n:Nat) (hs:List L4.D),l.length<n->hs.length+l.length<=1000->∃x',
  whL (cT jN) (rV (sM 1 iy) mI) n [.im (atD A),.im (.str x),.ls hs]=some (.nx [.im (atD A),x',.ls (hs++l.map D.str)]):=by
 induction c with
 |@nil x h=>
  intro n hs hn _;cases n with
  |zero=>cases hn
  |succ n=>have ev:cT jN [.im (atD A),.im (.str x),.ls hs]=some (false,[.im (atD A),.im (.str x),.ls hs]):=tu (rY (x:=.str x) (y:=atD A) rfl rfl (by show some (D.bl (uo _ _ (kS x)).isSome)=_;rw[MJ h];rfl));unfold whL;rw[ev];exact⟨_,by rw[bG,bq]⟩
 |@cons x z l h c ih=>
  intro n hs hn hl;rw[aE]at hn hl;cases n with
  |zero=>cases hn
  |succ n=>
   have ev:cT jN [.im (atD A),.im (.str x),.ls hs]=some (true,[.im (atD A),.im (.str x),.ls hs]):=tu (rY (x:=.str x) (y:=atD A) rfl rfl (by show some (D.bl (uo _ _ (kS x)).isSome)=_;rw[A3 a h];rfl));have eb:rV (sM 1 iy) mI [.im (atD A),.im (.str x),.ls hs]=some (.nx [.im (atD A),.im (.str z),.ls (hs++[.str z])]):=by refine(rT (ρ':=[.im (atD A),.im (.str z),.ls hs]) ((su (rY (x:=atD A) (y:=.str x) rfl rfl (A3 a h))).trans rfl)).trans ?_;exact tJ ((xG (es:=hs) rfl rfl rfl (by omega)).trans rfl)
   obtain⟨x',e⟩:=ih n (hs++[.str z]) (by omega) (by rw[aA,ba];omega);refine⟨x',?_⟩;unfold whL;rw[ev];simp only[eb];rw[e,bw];rfl
theorem Kr(a:yF A y)(c:Ch A x l)(hl:l.length<=40):u9 [atD A,.str x]=some (l.map D.str):=by obtain⟨x',e⟩:=QR a c 50 [] (by omega) (by simp;omega);refine zh (ρ:=[.im (atD A),x',.un]) rfl ?_;refine(rT (ρ':=[.im (atD A),.im (.str x),.ls []]) rfl).trans ?_;exact(rT e).trans rfl
theorem IY{V:List (Str×Int)}(nd:(V.map aC).Nodup)(h:(x,z)∈V)(h':(x,z')∈V):z=z':=by
 induction V with
 |nil=>cases h
 |cons a V ih=>
  rw[au,cc]at nd;rcases aK.mp h with h1|h1<;>rcases aK.mp h' with h2|h2
  ·rw[<-h1]at h2;exact(aT jr h2).symm
  ·exact aq (show a.1∈V.map aC from h1▸aG.mpr ⟨_,h2,rfl⟩) nd.1
  ·exact aq (show a.1∈V.map aC from h2▸aG.mpr ⟨_,h1,rfl⟩) nd.1
  ·exact ih nd.2 h1 h2
theorem IZ(nv:(V.map aC).Nodup)(o:Dp A V S)(h:(x,z)∈V):vL [sD S,.str x]=some (.int z):=by
 refine sj (ρ:=[.im (sD S),.im (.str x)]) rfl (sy (rU (ds:=[sD S,.tup [.str "mark", .str x]]) (rS rfl (rS rfl rfl)) ?_));rcases CB S ("mark", x)with ⟨d,h1,h2⟩|⟨h1,h2⟩
 ·obtain⟨z',rfl,h3⟩:=o.mo x d h1;rw[h2,IY nv h3 h]
 ·exact aq (aG.mpr ⟨_,o.mi _ h,rfl⟩) h1
theorem F8(nd:(T.map Th.n).Nodup)(ht:t∈T):yW [wO T M dk y mo,.str t.n]=some (thD t):=by refine sj (ρ:=[.im (wO T M dk y mo),.im (.str t.n)]) rfl (sy (rY (x:=.dic (nK T) (T.map thD)) (y:=.str t.n) rfl rfl ?_));show some ((uo (nK T) (T.map thD) (kS t.n)).getD .non)=_;rw[Aj (Mz nd) (d:=thD t) (by unfold nK;rw[jf];exact aG.mpr ⟨t,ht,rfl⟩)];rfl
def shB(T:List Th)(V:List (Str×Int))(x:Str):Bool:=decide (x∈nmK T λk=>decide (k=.box))&&decide ((x,0)∈V)
theorem MK(nd:(T.map Th.n).Nodup)(ht:t∈T):t.n∈(nmK T λk=>decide (k=.box)) ↔ t.k=.box:=by
 constructor
 ·intro h;obtain⟨u,h1,h2,h3⟩:=ym h;have:=LA nd h1 ht h2;subst this;exact bo h3
 ·intro h;exact aG.mpr ⟨t,bI.mpr ⟨ht,aX h⟩,rfl⟩
theorem QS(t:Th):dEq false (.str t.k.s) (.str "box")=some (.bl (decide (t.k=.box))):=by cases t.k<;>kernel_rfl
theorem aay(nv:(V.map aC).Nodup)(h:(x,z)∈V):decide ((x,0)∈V)=decide (z=0):=by
 rw[cB,bA,bA];constructor
 ·intro h';exact IY nv h h'
 ·intro e;rw[<-e];exact h
theorem v8(h1:e ρ=some (.bl false,ρ1)):tV e e' ρ=some (.bl false,ρ1):=by unfold tV;rw[h1]
abbrev jQ:=(rR aw sS)
abbrev qV:=(t8 u7 "thing_of" af jQ)
theorem T8(nd:(T.map Th.n).Nodup)(nv:(V.map aC).Nodup)(hv:∀x∈(nmK T λk=>decide (k=.box)),∃z,(x,z)∈V)(o:Dp A V S)(ht:t∈T):xu [wO T M dk y mo,sD S,.str t.n]=some (.bl (shB T V t.n)):=by
 let ρ:aZ:=[.im (wO T M dk y mo),.im (sD S),.im (.str t.n)];have e1:c2 av (c1 hJ qV) dZ ρ=some (.bl (decide (t.k=.box)),ρ):=
  rY (tE (tX (m:="thing_of") (ns:=wNs) (xs:=wDs T M dk y mo) (ys:=[.str t.n]) rfl rfl rfl rfl (F8 nd ht)) (BH t)) rfl (QS t)
 refine sj (ρ:=ρ) rfl (sy ?_);unfold shB;by_cases h:t.k=.box
 ·have hb:=(MK nd ht).mpr h;obtain⟨z,hz⟩:=hv _ hb;rw[aX h]at e1;rw[aX hb,aay nv hz];refine(tq e1).trans (rY (rU (rS rfl (rS rfl rfl)) (IZ nv o hz)) rfl ?_);rw[vo];rfl
 ·rw[aL h]at e1;rw[aL λz=>h ((MK nd ht).mp z)];exact v8 e1
def opn(sh:Str->Bool)(h:Str):aB->Bool
 |[]=>false
 |a::l=>if a=h then true else if sh a then false else opn sh h l
theorem AL:opn sh h (a::l)=if a=h then true else if sh a then false else opn sh h l:=rfl
theorem YD:∀{p:aB},h∉p->opn sh h (p++h::r)=p.all λa=>!sh a
 |[],_=>by rw[bJ,AL,ai rfl];rfl
 |a::p,hh=>by rw[List.cons_append,AL,aj (show ¬a=h from λe=>hh (e▸aV)),YD λz=>hh (bf _ z),dq];cases sh a<;>rfl
theorem QT:∀{p:aB},h∉p->opn sh h p=false
 |[],_=>rfl
 |a::p,hh=>by rw[AL,aj (show ¬a=h from λe=>hh (e▸aV)),QT λz=>hh (bf _ z)];cases sh a<;>rfl
abbrev qb:=(rW xu (rR af (rR ah j4)))
abbrev qX:=(rV jC (sIf (cT qb) c9 sF))
theorem HG{st:L4.D}(h:Str):∀(l:aB) (s:Sl),(∀a∈l,xu [w,st,.str a]=some (.bl (sh a)))->∃s',forL (gN 4) qX (l.map D.str) [.im w,.im st,.im x,.im (.str h),s]=some (.rt (.bl (opn sh h l)) [.im w,.im st,.im x,.im (.str h),s'])\/(opn sh h l=false/\forL (gN 4) qX (l.map D.str) [.im w,.im st,.im x,.im (.str h),s]=some (.nx [.im w,.im st,.im x,.im (.str h),s']))
 |[],s,_=>⟨s,.inr ⟨rfl,rfl⟩⟩
 |a::l,s,hh=>by
  let ρ:aZ:=[.im w,.im st,.im x,.im (.str h),.im (.str a)];have e1:cT (c2 av aD ay) ρ=some (decide (a=h),ρ):=tu (rY (x:=.str a) (y:=.str h) rfl rfl (vm false a h));have e2:cT qb ρ=some (sh a,ρ):=tu (rU (rS rfl (rS rfl (rS rfl rfl))) (hh a aV));rw[au];unfold forL;rw[show gN 4 (.str a) [.im w,.im st,.im x,.im (.str h),s]=some ρ from rfl];rw[AL];by_cases h1:a=h
  ·rw[aX h1]at e1;rw[ai h1];refine⟨.im (.str a),.inl ?_⟩;have e3:∀f:FS,rV jC f ρ=some (.rt (.bl true) ρ):=λf=>sA ((sG e1).trans rfl);simp only[e3];rfl
  ·rw[aL h1]at e1;rw[aj h1];have e3:∀f:FS,rV jC f ρ=f ρ:=λf=>rT ((rZ e1).trans rfl);simp only[e3];cases q:sh a with
   |true=>rw[q]at e2;refine⟨.im (.str a),.inl ?_⟩;simp only[(sG e2).trans (rfl:sH (cC (.bl false)) ρ=some (.rt (.bl false) ρ)),if_true];rfl
   |false=>rw[q]at e2;obtain⟨s',g⟩:=HG (w:=w) (st:=st) (x:=x) (sh:=sh) h l (.im (.str a)) λb hb=>hh b (bf _ hb);refine⟨s',?_⟩;simp only[(rZ e2).trans (rfl:sF ρ=some (.nx ρ)),eF,if_false];exact g
theorem T9(a:yF A y)(o:Dp A V S)(c:Ch A x l)(hl:l.length<=40)(hh:∀a∈l,xu [w,sD S,.str a]=some (.bl (sh a))):vM [w,sD S,.str x,.str h]=some (.bl (opn sh h l)):=by
 obtain⟨s',g⟩:=HG (w:=w) (st:=sD S) (x:=.str x) (sh:=sh) h l .un hh;have e0:=sZ (rU (a:=rR af (rR ah jQ)) (ρ:=[.im w,.im (sD S),.im (.str x),.im (.str h),.un]) (rS rfl (rS rfl (rS rfl rfl))) (MI a o w c hl));rcases g with g|⟨g0,g⟩
 ·exact sj rfl (sA ((tW (AJ e0)).trans g))
 ·rw[g0];exact sj rfl ((rT ((tW (AJ e0)).trans g)).trans rfl)
end
theorem eq_nil(neg:Bool)(l:aB):dEq neg (.lst (l.map D.str)) (.lst [])=some (.bl (if neg then !l.isEmpty else l.isEmpty)):=by
 cases l with
 |nil=>cases neg<;>kernel_rfl
 |cons x xs=>
  have e0:CQ neg (.lst ((x::xs).map D.str)) (.lst [])=none:=rfl;have e1:toD (.lst ((x::xs).map D.str))=some (.lst ((x::xs).map L3.Dq.str)):=by unfold toD;rw[AZ]
  have e3:dpt (.lst ((x::xs).map L3.Dq.str))=1:=by rw[dpt,yI]
  unfold dEq;rw[e0];show CS neg _ _=_;unfold CS;rw[e1,show toD (.lst [])=some (.lst []) from rfl];show (if GL (.lst ((x::xs).map L3.Dq.str)) (.lst [])&&decide (dpt (.lst ((x::xs).map L3.Dq.str))<=20)&&decide (dpt (.lst [])<=20)then some (D.bl (if neg then !(eqD (.lst ((x::xs).map L3.Dq.str)) (.lst []))else eqD (.lst ((x::xs).map L3.Dq.str)) (.lst [])))else none)=_;rw[e3];cases neg<;>rfl
theorem Dr:∀l:aB,Ah (l.map D.str)=some l
 |[]=>rfl
 |x::l=>by rw[au];unfold Ah;rw[Dr l]
theorem Ks:∀{l:aB},h∈l->opn sh h l=(l.take (l.idxOf h)).all λa=>!sh a
 |[],hh=>(bR hh).elim
 |a::l,hh=>by
  rw[AL];by_cases e:a=h
  ·subst e;rw[ai rfl,List.idxOf_cons_self];rfl
  ·have hl:h∈l:=by
    rcases aK.mp hh with z|z
    ·exact aq z.symm e
    ·exact z
   have hb:(a==h)=false:=by simpa using e
   rw[aj e,pj,hb,cond_false,List.take_succ_cons,dq,Ks hl];cases sh a<;>rfl
section
variable{A:List (Str×Str)}{V:List (Str×Int)}{S:List (Ky×L4.D)}{y:Str}{T:List Th}{M:List Mk}{dk:aB}{mo:L4.D}
abbrev bxs(T:List Th):aB:=nmK T λk=>decide (k=.box)
abbrev lms(T:List Th):aB:=nmK T λk=>decide (k=.lamp)
theorem Ua(k:Kd):dIn false (.str k.s) (.lst [.str "lamp"])=some (.bl (decide (k=.lamp))):=by cases k<;>kernel_rfl
theorem QU(nv:(V.map aC).Nodup)(k:Int)(h:(x,z)∈V):decide ((x,k)∈V)=decide (z=k):=by
 rw[cB,bA,bA];constructor
 ·intro h';exact IY nv h h'
 ·intro e;rw[<-e];exact h
theorem Kt(nv:(V.map aC).Nodup)(hT:T.length<=200)(p:Kd->Bool){K:L4.D}(hp:∀k:Kd,dIn false (.str k.s) K=some (.bl (p k)))(hk:fk ρ=some (K,ρ))(h0:ρ[0]?=some (.im (sJ T M dk y)))(h2:ρ[2]?=some (.im (dcI V)))(hv:∀x∈nmK T p,∃z,(x,z)∈V)(k:Int)
  (hc:A5 1 [2] ρ=[.un,.im (dcI V)]) (hu:vA [2] [.im (dcI V)] ρ=some ρ) (hq:cV 0 ρ=some (sJ T M dk y,ρ)):
  sL 1 [2] (iL (cL (sX tS (rR af (rR fk sS))))) aH (cT (c2 av jR (cC (.int k)))) af ρ=some (((nmK T p).filter λb=>decide ((b,k)∈V)).map D.str,ρ):=by
 have hl:(nmK T p).length<=1000:=by have:=(tU T p).length_le;rw[ag]at this;omega
 refine v7 D.str D.str (λb=>decide ((b,k)∈V)) (nmK T p) (ρ1:=ρ) (AJ (sZ (rU (rS hq (rS hk rfl)) (of_ok (by omega) p hp)))) hl λb hb=>?_;obtain⟨z,hz⟩:=hv b hb;refine⟨[.im (.str b),.im (dcI V)],[.im (.str b),.im (dcI V)],by rw[hc];rfl,tu (rY (x:=.int z) (rY (x:=dcI V) (y:=.str b) rfl rfl (LF nv hz)) rfl ?_),λ_=>⟨_,rfl,hu⟩,λ_=>hu⟩;rw[vo,QU nv k hz];rfl
theorem YE(b:Str):decide (b∈(bxs T).filter λb=>decide ((b,0)∈V))=shB T V b:=by unfold shB;rw[cB,bA,bI,bh,bA,bA]
theorem QV(hT:T.length<=200)(a:yF A y)(nv:(V.map aC).Nodup)(hv:∀x∈bxs T,∃z,(x,z)∈V)(c:Ch A x l)(hl:l.length<=40):tD [sJ T M dk y,atD A,dcI V,.str x,.str h]=some (.bl (opn (shB T V) h l)):=by
 let sp:=sJ T M dk y;let ρ:Sl->Sl->aZ:=λp q=>[.im sp,.im (atD A),.im (dcI V),.im (.str x),.im (.str h),p,q];let al:Sl:=.im (.lst (l.map D.str));have e1:sM 5 (cL (sX u9 (rR ah mK))) (ρ .un .un)=some (.nx (ρ al .un)):=(su (sZ (rU (rS rfl (rS rfl rfl)) (Kr a c hl)))).trans rfl;have e2:cT (c2 eZ aD aO) (ρ al .un)=some (!decide (h∈l),ρ al .un):=tu (rY (x:=.str h) (y:=.lst (l.map D.str)) rfl rfl (uw true h l));by_cases hh:h∈l
 ·rw[aX hh]at e2;let sl:Sl:=.im (.lst (((bxs T).filter λb=>decide ((b,0)∈V)).map D.str));have e3:=Kt (T:=T) (M:=M) (dk:=dk) (y:=y) (V:=V) nv hT (λk=>decide (k=.box)) QN (fk:=cL (sV (rR dZ sS))) (ρ:=ρ al .un) rfl rfl rfl hv 0 rfl rfl rfl;have e4:xY aO oNo (oAt jH) (ρ al sl)=some ((l.take (l.idxOf h)).map D.str,ρ al sl):=by
   have i1:c2 AU aO aD (ρ al sl)=some (.int (l.idxOf h:Nat),ρ al sl):=rY (x:=.lst (l.map D.str)) (y:=.str h) rfl rfl (by
    unfold AU;simp only[Dr];rw[ai ⟨hh,by omega⟩])
   have i2:oAt jH (ρ al sl)=some (some ((l.idxOf h:Nat):Int),ρ al sl):=by unfold oAt;rw[i1]
   have i3:cutD (l.map D.str) none (some ((l.idxOf h:Nat):Int))=(l.take (l.idxOf h)).map D.str:=by unfold cutD;rw[HT.EG,HT.BL,pF,Nat.sub_zero,ag,dO (eO (nL.mpr hh)),eM]
   show (match oAt jH (ρ al sl)with
    |some (h,ρ3)=>some (cutD (l.map D.str) none h,ρ3)
    |none=>none)=_
   rw[i2];show some (cutD (l.map D.str) none (some ((l.idxOf h:Nat):Int)),ρ al sl)=_;rw[i3]
  have e5:sL 1 [6] rh aH (cT iw) af (ρ al sl)=some (((l.take (l.idxOf h)).filter λb=>shB T V b).map D.str,ρ al sl):=by refine v7 D.str D.str (λb=>shB T V b) (l.take (l.idxOf h)) (ρ1:=ρ al sl) (AJ (sZ e4)) (by rw[bp];omega) λb _=>⟨[.im (.str b),sl],[.im (.str b),sl],rfl,tu (rY (x:=.str b) (y:=.lst (((bxs T).filter λb=>decide ((b,0)∈V)).map D.str)) rfl rfl ?_),λ_=>⟨_,rfl,rfl⟩,λ_=>rfl⟩;rw[uw,<- YE];rfl
  refine sj (ρ:=ρ al sl) rfl ((rT e1).trans ((rT ((rZ e2).trans rfl)).trans ((rT (ρ':=ρ al sl) ((su (sZ e3)).trans rfl)).trans (sy (rY (sZ e5) (y:=.lst []) rfl ?_)))));rw[eq_nil,Ks hh];congr 2
  induction l.take (l.idxOf h)with
  |nil=>rfl
  |cons b r ih=>
   rw[dh,dq];cases shB T V b
   ·exact ih
   ·rfl
 ·rw[aL hh]at e2;rw[QT hh];exact sj rfl ((rT e1).trans (sA ((sG e2).trans rfl)))
end
structure Sit(T:List Th)(A:List (Str×Str))(V:List (Str×Int))(S:List (Ky×L4.D))(y r:Str):Prop where
 nd:(T.map Th.n).Nodup
 hT:T.length<=200
 p7:(T.filter λt=>t.k.pl).length<=7
 a:yF A y
 pn:∀q∈A,q.2∈T.map Th.n
 nv:(V.map aC).Nodup
 hv:∀x∈nmK T Kd.mk,∃z,(x,z)∈V
 o:Dp A V S
 hr:(y,r)∈A
section
variable{A:List (Str×Str)}{V:List (Str×Int)}{S:List (Ky×L4.D)}{y r:Str}{T:List Th}{M:List Mk}{dk:aB}{mo:L4.D}
def lf(a:yF A y)(x:Str):aB:=Classical.choose (F7 a x)
theorem QW(a:yF A y)(x:Str):Ch A x (lf a x):=(nY (F7 a x)).1
theorem Ub(a:yF A y)(x:Str):(lf a x).length<=40:=(nY (F7 a x)).2
theorem QX(h:∀k,p k=true->q k=true)(hx:x∈nmK T p):x∈nmK T q:=by obtain⟨t,h1,h2,h3⟩:=ym hx;exact aG.mpr ⟨t,bI.mpr ⟨h1,h _ h3⟩,h2⟩
theorem Sit.vb(s:Sit T A V S y r):∀x∈bxs T,∃z,(x,z)∈V:=λx hx=>s.hv x (QX (λk h=>by rw[bo h];rfl) hx)
theorem Sit.vl(s:Sit T A V S y r):∀x∈lms T,∃z,(x,z)∈V:=λx hx=>s.hv x (QX (λk h=>by rw[bo h];rfl) hx)
theorem Sit.op(s:Sit T A V S y r)(x h:Str):vM [wO T M dk y mo,sD S,.str x,.str h]=some (.bl (opn (shB T V) h (lf s.a x))):=
 T9 s.a s.o (QW s.a x) (Ub s.a x) λb hb=>by obtain⟨q,hq,rfl⟩:=YC (QW s.a x) b hb;obtain⟨t,ht,e⟩:=aG.mp (s.pn q hq);rw[<-e];exact T8 s.nd s.nv s.vb s.o ht
theorem Sit.lop(s:Sit T A V S y r)(x h:Str):tD [sJ T M dk y,atD A,dcI V,.str x,.str h]=some (.bl (opn (shB T V) h (lf s.a x))):=QV s.hT s.a s.nv s.vb (QW s.a x) (Ub s.a x)
theorem QY:D2 [wO T M dk y mo]=some (.str y):=rfl
theorem Ku(s:Sit T A V S y r):yX [wO T M dk y mo,sD S]=some (.str r):=
 sj (ρ:=[.im (wO T M dk y mo),.im (sD S)]) rfl (sy (rU (rS rfl (rS (tX (m:="you") (ns:=wNs) (xs:=wDs T M dk y mo) (ys:=[]) rfl rfl rfl rfl QY) rfl)) (A0 s.a s.o s.hr)))
def BI(dk:aB)(s:Sit T A V S y r):Bool:=!decide (r∈dk)||(lms T).any λb=>decide ((b,1)∈V)&&opn (shB T V) r (lf s.a b)
theorem Uc:zS [wO T M dk y mo,.str r]=some (.bl (decide (r∈dk))):=
 sj (ρ:=[.im (wO T M dk y mo),.im (.str r)]) rfl (sy (rY (x:=.str r) (y:=.lst (dk.map D.str)) rfl rfl (uw false r dk)))
theorem QZ(s:Sit T A V S y r)(hb:b∈lms T):zx [wO T M dk y mo,sD S,.str b,.str r]=some (.bl (decide ((b,1)∈V)&&opn (shB T V) r (lf s.a b))):=by
 let ρ:aZ:=[.im (wO T M dk y mo),.im (sD S),.im (.str b),.im (.str r)];obtain⟨z,hz⟩:=s.vl b hb;have e1:c2 av (rW vL (rR ah jQ)) aR ρ=some (.bl (decide ((b,1)∈V)),ρ):=rY (rU (rS rfl (rS rfl rfl)) (IZ s.nv s.o hz)) rfl (by rw[vo,QU s.nv 1 hz];rfl);refine sj (ρ:=ρ) rfl (sy ?_);cases q:decide ((b,1)∈V)with
 |true=>rw[q]at e1;exact(tq e1).trans (rU (rS rfl (rS rfl (rS rfl (rS rfl rfl)))) (s.op b r))
 |false=>rw[q]at e1;exact v8 e1
abbrev jA:=(rR mQ sS)
abbrev ro:=(rW yX (rR af qp))
theorem Q0(s:Sit T A V S y r):Cn [wO T M dk y mo,sD S]=some (.bl (BI dk s)):=by
 let W:=wO T M dk y mo;let ρ:aZ:=[.im W,.im (sD S),.im (.str r)];have e1:sM 2 ro [.im W,.im (sD S),.un]=some (.nx ρ):=(su (rU (rS rfl (rS rfl rfl)) (Ku s))).trans rfl;have e2:wY (cT (t8 wm "is_dark" af jQ)) ρ=some (!decide (r∈dk),ρ):=BX (tu (tX (m:="is_dark") (ns:=wNs) (xs:=wDs T M dk y mo) (ys:=[.str r]) rfl rfl rfl rfl Uc));unfold BI;cases q:decide (r∈dk)with
 |false=>rw[q]at e2;exact sj rfl ((rT e1).trans (sA ((sG e2).trans rfl)))
 |true=>
  rw[q]at e2;have hl:=s.hT;have e3:sL 1 [0,1,2] (iL (t8 uN "of_kind" af jA)) aH tR (rW zx (rR ah (rR aw (rR af mK)))) ρ=some ((lms T).map λb=>D.bl (decide ((b,1)∈V)&&opn (shB T V) r (lf s.a b)),ρ):=by
   have hlen:(lms T).length<=1000:=by have:=(tU T λk=>decide (k=.lamp)).length_le;rw[ag]at this;exact bK this (by omega)
   refine zU D.str (λb=>D.bl (decide ((b,1)∈V)&&opn (shB T V) r (lf s.a b))) (lms T) (ρ1:=ρ) ((AJ (tX (m:="of_kind") (ns:=wNs) (xs:=wDs T M dk y mo) (ys:=[.str Kd.lamp.s]) rfl rfl rfl rfl (F0 T (by omega) _ _ .lamp))).trans (by unfold lms nmK;rw[aW];rfl)) hlen λb hb=>⟨[.im (.str b),.im W,.im (sD S),.im (.str r)],[.im (.str b),.im W,.im (sD S),.im (.str r)],rfl,rU (rS rfl (rS rfl (rS rfl (rS rfl rfl)))) (QZ s hb),rfl⟩
  exact sj rfl ((rT e1).trans ((rT ((rZ e2).trans rfl)).trans (sy (tE (sZ e3) (Mt _ _)))))
abbrev jZ:=(c2 uK af lS)
abbrev l5:=(c2 uK ah jZ)
theorem ML(s:Sit T A V S y r):zH [sJ T M dk y,atD A,dcI V]=some (.bl (BI dk s)):=by
 let sp:=sJ T M dk y;let ρ:Sl->Sl->aZ:=λp q=>[.im sp,.im (atD A),.im (dcI V),p,q];let rr:Sl:=.im (.str r);let ll:aB:=(lms T).filter λb=>decide ((b,1)∈V);let q4:Sl:=.im (.lst (ll.map D.str));have hl:=s.hT;have e1:sM 3 l5 (ρ .un .un)=some (.nx (ρ rr .un)):=(su (rY (x:=atD A) (y:=.str y) rfl (rY rfl rfl rfl) (A3 s.a s.hr))).trans rfl;have e2:=Kt (T:=T) (M:=M) (dk:=dk) (y:=y) (V:=V) s.nv s.hT (λk=>decide (k=.lamp)) Ua (fk:=cL (sV jA)) (ρ:=ρ rr .un) rfl rfl rfl s.vl 1 rfl rfl rfl;have e3:cT (c2 eZ ay (c2 uK af (cC (.str "dark")))) (ρ rr q4)=some (!decide (r∈dk),ρ rr q4):=tu (rY (x:=.str r) (y:=.lst (dk.map D.str)) rfl (rY rfl rfl rfl) (uw true r dk));have head:∀f:FS,rV (sM 3 l5) (rV (sM 4 (cL (sL 1 [2] (iL (cL (sX tS (rR af (rR (cL (sV jA)) sS))))) aH (cT (c2 av jR aR)) af))) f) (ρ .un .un)=f (ρ rr q4):=λf=>(rT e1).trans (rT ((su (sZ e2)).trans rfl));unfold BI;cases q:decide (r∈dk)with
 |false=>rw[q]at e3;exact sj rfl ((head _).trans (sA ((sG e3).trans rfl)))
 |true=>
  rw[q]at e3;have hlen:ll.length<=1000:=by have:=(tU T λk=>decide (k=.lamp)).length_le;rw[ag]at this;exact bK (eC _ _) (bK this (by omega))
  have e4:sL 1 [0,1,2,3] (iL aD) aH (cT (rW tD (rR ah (rR aw (rR ay (rR af j4)))))) af (ρ rr q4)=some ((ll.filter λb=>opn (shB T V) r (lf s.a b)).map D.str,ρ rr q4):=
   v7 D.str D.str (λb=>opn (shB T V) r (lf s.a b)) ll (ρ1:=ρ rr q4) rfl hlen λb _=>⟨[.im (.str b),.im sp,.im (atD A),.im (dcI V),rr],[.im (.str b),.im sp,.im (atD A),.im (dcI V),rr],rfl,tu (rU (rS rfl (rS rfl (rS rfl (rS rfl (rS rfl rfl))))) (s.lop b r)),λ_=>⟨_,rfl,rfl⟩,λ_=>rfl⟩
  refine sj rfl ((head _).trans ((rT ((rZ e3).trans rfl)).trans (sy (rY (sZ e4) (y:=.lst []) rfl ?_))));rw[eq_nil,oI];congr 2;show (!((lms T).filter _).isEmpty)=(false||(lms T).any _);rw[pI]
  induction lms T with
  |nil=>rfl
  |cons b l ih=>
   rw[dh,dQ,kX (opn _ _ _)];cases decide ((b,1)∈V)&&opn (shB T V) r (lf s.a b)
   ·exact ih
   ·rfl
def y3(dk:aB)(s:Sit T A V S y r)(x:Str):Bool:=(BI dk s&&opn (shB T V) r (lf s.a x))||opn (shB T V) y (lf s.a x)
theorem Q1(s:Sit T A V S y r)(ht:t∈T):Dm [wO T M dk y mo,sD S,.str t.n]=some (.bl (t.k.pl&&y3 dk s t.n)):=by
 let W:=wO T M dk y mo;let ρ:aZ:=[.im W,.im (sD S),.im (.str t.n),.im (thD t)];have e1:sM 3 qV [.im W,.im (sD S),.im (.str t.n),.un]=some (.nx ρ):=(su (tX (m:="thing_of") (ns:=wNs) (xs:=wDs T M dk y mo) (ys:=[.str t.n]) rfl rfl rfl rfl (F8 s.nd ht))).trans rfl;have e2:wK (cT (c2 Gh ay bE)) qr ρ=some (!t.k.pl,ρ):=zf rfl (BX (tu (tX (m:="is_plainly") (ns:=["name", "words", "kind", "start"]) (xs:=[.str t.n,.tup (t.w.map D.str),.str t.k.s,oS t.s]) (ys:=[]) rfl rfl rfl rfl (J9 t))));have e3:cT (rW vM (rR af (rR ah (rR aw (rR jG sS))))) ρ=some (opn (shB T V) y (lf s.a t.n),ρ):=tu (rU (rS rfl (rS rfl (rS rfl (rS (tX (m:="you") (ns:=wNs) (xs:=wDs T M dk y mo) (ys:=[]) rfl rfl rfl rfl QY) rfl)))) (s.op t.n y));have e4:rW vM (rR af (rR ah (rR aw (rR ro sS)))) ρ=some (.bl (opn (shB T V) r (lf s.a t.n)),ρ):=rU (rS rfl (rS rfl (rS rfl (rS (rU (rS rfl (rS rfl rfl)) (Ku s)) rfl)))) (s.op t.n r);unfold y3;cases q1:t.k.pl with
 |false=>rw[q1]at e2;exact sj rfl ((rT e1).trans (sA ((sG e2).trans rfl)))
 |true=>
  rw[q1]at e2;cases q2:opn (shB T V) y (lf s.a t.n)with
  |true=>rw[q2]at e3;rw[Bool.or_true];exact sj rfl ((rT e1).trans ((rT ((rZ e2).trans rfl)).trans (sA ((sG e3).trans rfl))))
  |false=>
   rw[q2]at e3;rw[pH,Bool.true_and,kX];refine sj (ρ:=ρ) rfl ((rT e1).trans ((rT ((rZ e2).trans rfl)).trans ((rT ((rZ e3).trans rfl)).trans (sy ?_))));cases q3:opn (shB T V) r (lf s.a t.n)with
   |true=>rw[q3]at e4;exact(tq e4).trans (rU (rS rfl (rS rfl rfl)) (Q0 s))
   |false=>rw[q3]at e4;exact v8 e4
end
section
variable{A:List (Str×Str)}{V:List (Str×Int)}{S:List (Ky×L4.D)}{y r:Str}{T:List Th}{M:List Mk}{dk:aB}{mo:L4.D}
def Bo(dk:aB)(s:Sit T A V S y r):aB:=(T.filter λt=>t.k.pl&&y3 dk s t.n).map Th.n
theorem Og(s:Sit T A V S y r):(Bo dk s).length<64:=by
 unfold Bo;rw[ag,<- iE];have h1:T.countP (λt=>t.k.pl&&y3 dk s t.n)<=T.countP λt=>t.k.pl:=nX λt _ h=>by rw[bh]at h;exact h.1
 rw[iE (p:=λt:Th=>t.k.pl)]at h1;have:=s.p7;omega
theorem Q2{l:aB}(h:e ρ=some (.lst (l.map D.str),ρ1))(hl:l.length<64):Da e ρ=some ((wZ l).map D.str,ρ1):=by unfold Da;rw[h];simp only[Dr];rw[ai hl]
theorem UK(k:Kd):dIn false (.str k.s) (.lst [.str "plain", .str "fixed", .str "box", .str "lamp"])=some (.bl k.pl):=by cases k<;>kernel_rfl
abbrev lZ:=(rW tD (rR af (rR ah (rR aw (rR aO (rR jZ sS))))))
abbrev l3:=(rR af (rR ah (rR aw (rR aO (rR (c2 uK ah jZ) sS)))))
def Q3:FS:=(rV (sM 6 (tV aD (rW tD l3)))
 (sIf (wK (cT bj) (cT lZ)) jS sF))
theorem AM(h:c ρ=some (true,ρ1)):wK c c' ρ=some (true,ρ1):=by unfold wK;rw[h]
theorem HH(s:Sit T A V S y r):∀(l:aB) (fd:aB) (p q:Sl),fd.length+l.length<=900->∃p' q',forL dA Q3 (l.map D.str) [.im (sJ T M dk y),.im (atD A),.im (dcI V),.ls (fd.map D.str),.im (.bl (BI dk s)),p,q]=some (.nx [.im (sJ T M dk y),.im (atD A),.im (dcI V),.ls ((fd++l.filter (y3 dk s)).map D.str),.im (.bl (BI dk s)),p',q'])
 |[],fd,p,q,_=>⟨p,q,by rw[jb,bq];rfl⟩
 |x::l,fd,p,q,hl=>by
  rw[aE]at hl;let sp:=sJ T M dk y;let nr:Bool:=BI dk s&&opn (shB T V) r (lf s.a x);let ρ:Sl->Sl->aZ:=λf q=>[.im sp,.im (atD A),.im (dcI V),f,.im (.bl (BI dk s)),.im (.str x),q];let F:aB->Sl:=λfd=>.ls (fd.map D.str);have e1:tV aD (rW tD l3) (ρ (F fd) q)=some (.bl nr,ρ (F fd) q):=by
   have e0:rW tD l3 (ρ (F fd) q)=some (.bl (opn (shB T V) r (lf s.a x)),ρ (F fd) q):=rU (rS rfl (rS rfl (rS rfl (rS rfl (rS (rY (x:=atD A) (y:=.str y) rfl (rY rfl rfl rfl) (A3 s.a s.hr)) rfl))))) (s.lop x r);show _=some (D.bl (BI dk s&&opn (shB T V) r (lf s.a x)),_);cases w:BI dk s with
   |true=>exact(tq (show cV 4 (ρ (F fd) q)=some (.bl true,ρ (F fd) q) by rw[<-w];rfl)).trans e0
   |false=>exact v8 (show cV 4 (ρ (F fd) q)=some (.bl false,ρ (F fd) q) by rw[<-w];rfl)
  have e2:cT lZ (ρ (F fd) (.im (.bl nr)))=some (opn (shB T V) y (lf s.a x),ρ (F fd) (.im (.bl nr))):=tu (rU (rS rfl (rS rfl (rS rfl (rS rfl (rS (rY rfl rfl rfl) rfl))))) (s.lop x y));have e3:wK (cT bj) (cT lZ) (ρ (F fd) (.im (.bl nr)))=some (y3 dk s x,ρ (F fd) (.im (.bl nr))):=by
   show _=some (nr||_,_);cases w:nr with
   |true=>exact AM (show cT bj (ρ (F fd) (.im (.bl true)))=some (true,ρ (F fd) (.im (.bl true))) from rfl)
   |false=>rw[w]at e2;exact zf (show cT bj (ρ (F fd) (.im (.bl false)))=some (false,ρ (F fd) (.im (.bl false))) from rfl) e2
  have ev:Q3 (ρ (F fd) q)=some (.nx (ρ (F (fd++[x].filter (y3 dk s))) (.im (.bl nr)))):=by
   unfold Q3;refine(rT (ρ':=ρ (F fd) (.im (.bl nr))) ((su e1).trans rfl)).trans ?_;cases w:y3 dk s x with
   |true=>rw[w]at e3;rw[dh,w,ai rfl,jb];refine(sG e3).trans (tJ (d:=.non) ((xG (es:=fd.map D.str) rfl rfl rfl (by rw[ag];omega)).trans ?_));show some (D.non,ρ (.ls (fd.map D.str++[.str x])) (.im (.bl nr)))=some (_,ρ (.ls ((fd++[x]).map D.str)) (.im (.bl nr)));rw[bb];rfl
   |false=>rw[w]at e3;rw[dh,w,aj (by decide),jb,bq];exact(rZ e3).trans rfl
  obtain⟨p',q',g⟩:=HH s l (fd++[x].filter (y3 dk s)) (.im (.str x)) (.im (.bl nr)) (by
   have:=eC (y3 dk s) [x];rw[aA];rw[ba]at this;omega)
  refine⟨p',q',?_⟩;rw[au];unfold forL;rw[show gN 5 (.str x) [.im sp,.im (atD A),.im (dcI V),.ls (fd.map D.str),.im (.bl (BI dk s)),p,q]=some (ρ (F fd) q) from rfl];simp only[ev];refine g.trans ?_;rw[bw,<- oH];rfl
theorem Q4(s:Sit T A V S y r):AG [sJ T M dk y,atD A,dcI V]=some ((wZ (Bo dk s)).map D.str):=by
 let sp:=sJ T M dk y;have hl:=s.hT;have h7:(nmK T Kd.pl).length<=7:=by unfold nmK;rw[ag];exact s.p7
 obtain⟨p',q',g⟩:=HH (M:=M) (dk:=dk) s (nmK T Kd.pl) [] .un .un (by simp;omega);have ef:(nmK T Kd.pl).filter (y3 dk s)=Bo dk s:=by unfold nmK Bo;rw[pA,oI];congr 1;exact List.filter_congr λt _=>kX _ _
 rw[bJ,ef]at g;refine zh (ρ:=[.im sp,.im (atD A),.im (dcI V),.im (.lst ((Bo dk s).map D.str)),.im (.bl (BI dk s)),p',q']) rfl ?_;refine(rT (ρ':=[.im sp,.im (atD A),.im (dcI V),.ls [],.un,.un,.un]) rfl).trans ?_;refine(rT (ρ':=[.im sp,.im (atD A),.im (dcI V),.ls [],.im (.bl (BI dk s)),.un,.un]) ((su (rU (rS rfl (rS rfl (rS rfl rfl))) (ML s))).trans rfl)).trans ?_;refine(rT ((tW (AJ (sZ (rU (rS rfl (rS rfl rfl)) (of_ok (by omega) Kd.pl UK))))).trans g)).trans ?_;exact ze (Q2 rfl (Og s))
end
variable{st:L4.D}
section
variable{A:List (Str×Str)}{V:List (Str×Int)}{S:List (Ky×L4.D)}{y:Str}{T:List Th}{M:List Mk}{dk:aB}{mo:L4.D}
theorem Ud(a b:L4.D):vO [wO T M dk y mo,.tup [.str "take", a,b]]=some (.tup [a,b]):=by kernel_rfl
theorem Q5(a b:L4.D):vO [wO T M dk y mo,.tup [.str "put", a,b]]=some (.tup [a,b]):=by kernel_rfl
def noT(x:Str):Bool:=decide (x∉(["here", "it", "other"]:aB))
theorem LG(h:Nm x):x∉(["here", "it", "other"]:aB):=bo (IQ (p:=noT) (by kernel_rfl) h)
theorem MM(h:vO [w,c]=some (.tup [a,b])):yj [w,st,c,.str "it"]=some a:=by let ρ:aZ:=[.im w,.im st,.im c,.im (.str "it")];refine sj (ρ:=ρ) rfl ?_;unfold AY;refine(rT (ρ':=ρ) ((rZ (ρ':=ρ) (tu (rY rfl rfl (by kernel_rfl)))).trans rfl)).trans ?_;exact sA ((sG (ρ':=ρ) (tu (rY rfl rfl (by kernel_rfl)))).trans (sy (rY (rU rfl h) rfl rfl)))
theorem LH(h:vO [w,c]=some (.tup [a,b])):yj [w,st,c,.str "other"]=some b:=by let ρ:aZ:=[.im w,.im st,.im c,.im (.str "other")];refine sj (ρ:=ρ) rfl ?_;unfold AY;refine(rT (ρ':=ρ) ((rZ (ρ':=ρ) (tu (rY rfl rfl (by kernel_rfl)))).trans rfl)).trans ?_;refine(rT (ρ':=ρ) ((rZ (ρ':=ρ) (tu (rY rfl rfl (by kernel_rfl)))).trans rfl)).trans ?_;exact sA ((sG (ρ':=ρ) (tu (rY rfl rfl (by kernel_rfl)))).trans (sy (rY (rU rfl h) rfl rfl)))
theorem Ue(hx:Nm x):yj [w,st,c,.str x]=some (.str x):=by
 have n:=LG hx;have n1:dEq false (.str x) (.str "here")=some (.bl false):=by rw[vm,aL λe=>n (by rw[e];simp)];rfl
 have n2:dEq false (.str x) (.str "it")=some (.bl false):=by rw[vm,aL λe=>n (by rw[e];simp)];rfl
 have n3:dEq false (.str x) (.str "other")=some (.bl false):=by rw[vm,aL λe=>n (by rw[e];simp)];rfl
 let ρ:aZ:=[.im w,.im st,.im c,.im (.str x)];refine sj (ρ:=ρ) rfl ?_;unfold AY;refine(rT (ρ':=ρ) ((rZ (ρ':=ρ) (tu (rY rfl rfl n1))).trans rfl)).trans ?_;refine(rT (ρ':=ρ) ((rZ (ρ':=ρ) (tu (rY rfl rfl n2))).trans rfl)).trans ?_;refine(rT (ρ':=ρ) ((rZ (ρ':=ρ) (tu (rY rfl rfl n3))).trans rfl)).trans ?_;rfl
theorem Ug(a:yF A y)(o:Dp A V S)(h:(y,r)∈A):yX [wO T M dk y mo,sD S]=some (.str r):=
 sj (ρ:=[.im (wO T M dk y mo),.im (sD S)]) rfl (sy (rU (ds:=[sD S,.str y]) rfl (A0 a o h)))
theorem Oh(a:yF A y)(o:Dp A V S)(h:(y,r)∈A):yj [wO T M dk y mo,sD S,c,.str "here"]=some (.str r):=by let ρ:aZ:=[.im (wO T M dk y mo),.im (sD S),.im c,.im (.str "here")];refine sj (ρ:=ρ) rfl ?_;unfold AY;exact sA ((sG (ρ':=ρ) (tu (rY rfl rfl (by kernel_rfl)))).trans (sy (rU (ds:=[wO T M dk y mo,sD S]) rfl (Ug a o h))))
end
section
variable{y:Str}{T:List Th}{M:List Mk}{dk:aB}
theorem tk(hn:0<n)(hi:IL es)(h0:uc ρ j=some es)(he:e ρ=some (.int n,ρ)):∃r es',IL es'/\0<=r/\r<n/\tI rX j (rR e sS) ρ=some (.int r,putAt ρ j es'):=by obtain⟨r,es',h1,h2,h3,h4⟩:=ue hi n hn;exact⟨r,es',h1,h2,h3,uS h0 (rS he rfl) h0 h4⟩
theorem pk(hl:l≠[])(hi:IL es)(h0:uc ρ j=some es)(hv:cV i ρ=some (.lst (l.map D.str),ρ)):∃x es',x∈l/\IL es'/\c2 dIx (cV i) (tI rX j (rR (c1 xW (cV i)) sS)) ρ=some (.str x,putAt ρ j es'):=by
 have hp:=oi.mpr hl;obtain⟨r,es',h1,h2,h3,h4⟩:=tk (n:=l.length) (e:=c1 xW (cV i)) (by omega) hi h0 (tE hv (by show some (D.int _)=_;rw[ag]));obtain⟨r,rfl⟩:=cp h2;have hr:r<l.length:=by omega
 exact⟨l[r],es',dg hr,h1,rY hv h4 (vc (aN hr))⟩
theorem Ef(x:Str)(xs:aB):dEq false (.lst ((x::xs).map D.str)) (.lst [])=some (.bl false):=by
 have e0:CQ false (.lst ((x::xs).map D.str)) (.lst [])=none:=rfl;have e1:toD (.lst ((x::xs).map D.str))=some (.lst ((x::xs).map L3.Dq.str)):=by unfold toD;rw[AZ]
 have e3:dpt (.lst ((x::xs).map L3.Dq.str))=1:=by rw[dpt,yI]
 unfold dEq;rw[e0];show CS false _ _=_;unfold CS;rw[e1,show toD (.lst [])=some (.lst []) from rfl];show (if GL (.lst ((x::xs).map L3.Dq.str)) (.lst [])&&decide (dpt (.lst ((x::xs).map L3.Dq.str))<=20)&&decide (dpt (.lst [])<=20)then some (D.bl (eqD (.lst ((x::xs).map L3.Dq.str)) (.lst [])))else none)=_;rw[e3];rfl
inductive Cm(sm:aB):L4.D->Str->Prop
 |go (z:Str):Cm sm (.tup [.str "go", .str z,.non]) "way"
 |wait:Cm sm (.tup [.str "wait", .non,.non]) "alone"
 |take {a:Str}:a∈sm->Cm sm (.tup [.str "take", .str a,.non]) "one"
 |put {a b:Str}:a∈sm->b∈sm->Cm sm (.tup [.str "put", .str a,.str b]) "two"
theorem Uh(h:Cm sm c f):AH [c]=some (.str f):=by cases h<;>kernel_rfl
theorem LI(h0:0<=r)(h1:r<2):dIx (.lst [a,b]) (.int r)=some (if r=0 then a else b):=by
 have:r=0\/r=1:=by omega
 rcases this with rfl|rfl<;>rfl
abbrev pR:=(sV (rR (cC (.str "north")) (rR (cC (.str "up")) sS)))
abbrev qa:=(sV (rR (tH (rR (cC (.str "go")) (rR (c2 dIx (cL pR) rl) (rR bE sS)))) (rR (tH (rR (cC (.str "wait")) (rR bE (rR bE sS)))) sS)))
theorem LJ(g:Good T M dk)(hi:IL es):∃c f es',IL es'/\Cm (nmK T Kd.pl) c f/\v5 es [sJ T M dk y]=some (c,es'):=by
 let sp:=sJ T M dk y;let sm:=nmK T Kd.pl;let L:L4.D:=.lst (sm.map D.str);have hl:=g.len;have run:∃c f es' x4,IL es'/\Cm sm c f/\∃x3,v3 (stL 5 es [sp])=some (.rt c [.im sp,.pm es',.im L,x3,x4]):=by
  unfold v3;have e1:(sM 2 (cL (sX tS (rR af (rR (cL (sV (rR lX (rR (cC (.str "fixed")) (rR dZ jA))))) sS)))):FS) (stL 5 es [sp])=some (.nx [.im sp,.pm es,.im L,.un,.un]):=(su (sZ (rU (rS rfl (rS rfl rfl)) (of_ok (by omega) Kd.pl UK)))).trans rfl;rw[rT e1];obtain⟨w,es1,i1,w0,w1,h1⟩:=tk (ρ:=[.im sp,.pm es,.im L,.un,.un]) (j:=1) (e:=cC (.int 8)) (n:=8) (by decide) hi rfl rfl;rw[rT ((su h1).trans (show _=some (Out.nx [.im sp,.pm es1,.im L,.im (.int w),.un]) from rfl))];let ρ:aZ:=[.im sp,.pm es1,.im L,.im (.int w),.un];have far:∃c f es',IL es'/\Cm sm c f/\(sH (c2 dIx (cL qa) (c2 xF ay bM)):FS) ρ=some (.rt c [.im sp,.pm es',.im L,.im (.int w),.un]):=by
   obtain⟨r,es2,i2,r0,r1,h2⟩:=tk (ρ:=ρ) (j:=1) (e:=cC (.int 2)) (n:=2) (by decide) i1 rfl rfl;have m0:=kJ w (by decide:(2:Int)≠0);have m1:=kB w (by decide:(0:Int)<2);let z:Str:=if r=0 then "north" else "up"
   let ρ2:aZ:=[.im sp,.pm es2,.im L,.im (.int w),.un];have ez:(if r=0 then D.str "north" else .str "up")=.str z:=by show _=D.str (if r=0 then "north" else "up");split<;>rfl
   have en:=rY (g:=dIx) (e:=cL pR) (ρ:=ρ) (ρ1:=ρ) rfl h2 ((LI r0 r1).trans (aT some ez));have er:=sy (rY (g:=dIx) (e:=cL qa) (e':=c2 xF ay bM) (x:=.lst [.tup [.str "go", .str z,.non],.tup [.str "wait", .non,.non]]) (y:=.int (w % 2)) (ρ:=ρ) (ρ1:=ρ2) (ρ2:=ρ2) (sZ (Ac (rS (uF (rS rfl (rS en rfl)) (bP rfl)) rfl) (bP rfl))) (rY rfl rfl (w5 (by decide))) (LI m0 m1));by_cases hw:w % 2=0
   ·rw[ai hw]at er;exact⟨_,_,es2,i2,.go z,er⟩
   ·rw[aj hw]at er;exact⟨_,_,es2,i2,.wait,er⟩
  obtain⟨c0,f0,es0,j0,k0,far⟩:=far;by_cases h0:sm=[]
  ·have et:wK (cT jO) mx ρ=some (true,ρ):=AM (tu (rY (x:=L) (y:=.lst []) rfl rfl (by show dEq false (.lst (sm.map D.str)) _=_;rw[h0];rfl)));exact⟨c0,f0,es0,_,j0,k0,_,sA ((sG et).trans far)⟩
  ·have ee:cT jO ρ=some (false,ρ):=tu (rY (x:=L) (y:=.lst []) rfl rfl (by
    show dEq false (.lst (sm.map D.str)) _=_;obtain⟨a,r,e⟩:=gm h0;rw[e];exact Ef a r))
   have et:wK (cT jO) mx ρ=some (decide (w > 5),ρ):=zf ee (tu (rY rfl rfl rfl));by_cases hw:w > 5
   ·rw[aX hw]at et;exact⟨c0,f0,es0,_,j0,k0,_,sA ((sG et).trans far)⟩
   ·rw[aL hw]at et;rw[rT ((rZ et).trans (show _=some (Out.nx ρ) from rfl))];obtain⟨a,es2,ha,i2,h2⟩:=pk (ρ:=ρ) (i:=2) (j:=1) h0 i1 rfl rfl;rw[rT ((su h2).trans (show _=some (Out.nx [.im sp,.pm es2,.im L,.im (.int w),.im (.str a)]) from rfl))];let ρ2:aZ:=[.im sp,.pm es2,.im L,.im (.int w),.im (.str a)];have e2:cT (c2 Gg ay bM) ρ2=some (decide (w<2),ρ2):=tu (rY rfl rfl rfl);by_cases hw:w<2
    ·rw[aX hw]at e2;exact⟨_,_,es2,_,i2,.take ha,_,sA ((sG e2).trans rfl)⟩
    ·rw[aL hw]at e2;rw[rT ((rZ e2).trans (show _=some (Out.nx ρ2) from rfl))];obtain⟨b,es3,hb,i3,h3⟩:=pk (ρ:=ρ2) (i:=2) (j:=1) h0 i2 rfl rfl;exact⟨_,_,es3,_,i3,.put ha hb,_,sy (uF (rS rfl (rS rfl (rS h3 rfl))) (bP rfl))⟩
 obtain⟨c,f,es',x4,i',cm,x3,run⟩:=run;refine⟨c,f,es',i',cm,?_⟩;unfold v5 fnL;rw[ai (show [sp].length=1 from rfl),run];rfl
end
variable{sm:aB}{c:L4.D}{f t:Str}
section
variable{y:Str}{T:List Th}{M:List Mk}{dk:aB}{A:List (Str×Str)}
inductive Tm(A:List (Str×Str)) (y:Str):L4.D->Str->Str->Prop
 |it1 (a:Str):Tm A y (.tup [.str "take", .str a,.non]) "it" a
 |it2 (a b:Str):Tm A y (.tup [.str "put", .str a,.str b]) "it" a
 |oth (a b:Str):Tm A y (.tup [.str "put", .str a,.str b]) "other" b
 |nm (c:L4.D) {x:Str}:Nm x->Tm A y c x x
 |here (c:L4.D) {r:Str}:(y,r)∈A->Tm A y c "here" r
theorem aaz(k:Kd):dIn false (.str k.s) (.lst [.str "room", .str "box", .str "you"])=some (.bl k.hd):=by cases k<;>kernel_rfl
theorem Q6(cm:Cm sm c f):dIn false (.str f) (.lst [.str "one", .str "two"])=some (.bl (decide (f="one" \/ f="two"))):=by cases cm<;>kernel_rfl
theorem is2(cm:Cm sm c f):dEq false (.str f) (.str "two")=some (.bl (decide (f="two"))):=by cases cm<;>kernel_rfl
theorem nmN(g:Good T M dk)(h:x∈nmK T p):Nm x:=g.nm _ (bF _ ((tU T p).subset h))
theorem MN(cm:Cm sm c f)(h:(t="it" /\ (f="one" \/ f="two"))\/(t="other" /\ f="two")):∃z,Tm A y c t z/\z∈sm:=by
 cases cm with
 |go z=>rcases h with ⟨_,h|h⟩|⟨_,h⟩<;>exact aq h (by decide)
 |wait=>rcases h with ⟨_,h|h⟩|⟨_,h⟩<;>exact aq h (by decide)
 |@take a ha=>
  rcases h with ⟨rfl,_⟩|⟨_,h⟩
  ·exact⟨a,.it1 a,ha⟩
  ·exact aq h (by decide)
 |@put a b ha hb=>
  rcases h with ⟨rfl,_⟩|⟨rfl,_⟩
  ·exact⟨a,.it2 a b,ha⟩
  ·exact⟨b,.oth a b,hb⟩
def itL(n:Nat)(f:Str):aB:=if f="one" \/ f="two" then dP n "it" else []
def otL(f:Str):aB:=if f="two" then ["other", "other"]else []
theorem Q7(cm:Cm sm c f){n:Nat}(h:t∈itL n f\/t∈otL f):∃z,Tm A y c t z/\z∈sm:=by
 refine MN cm ?_;rcases h with h|h
 ·unfold itL at h;split at h
  ·rename_i e;exact .inl ⟨(List.mem_replicate.mp h).2,e⟩
  ·cases h
 ·unfold otL at h;split at h
  ·rename_i e;refine .inr ⟨?_,e⟩;rcases aK.mp h with h|h
   ·exact h
   ·exact aP.mp h
  ·cases h
abbrev rF:=(cL (sV (rR (cC (.str "one")) (rR (cC (.str "two")) sS))))
abbrev pT:=(cC (.str "two"))
abbrev me:=(c2 av ah pT)
abbrev jP:=(c2 ck ah rF)
abbrev mL:=(cC (.str "other"))
theorem Q8(g:Good T M dk)(cm:Cm (nmK T Kd.pl) c f)(hr:∃r,(y,r)∈A/\r∈T.map Th.n)(hi:IL es):∃p w es',IL es'/\Tm A y c p w/\w∈T.map Th.n/\xm es [sJ T M dk y,.str f]=some (.str p,es'):=by
 let sp:=sJ T M dk y;let hs:=nmK T Kd.hd;let L:L4.D:=.lst (hs.map D.str);have hl:=g.len;have h0:hs≠[]:=λe=>by have:=g.r1;obtain⟨t,ht⟩:=ni (by omega:0<(T.filter λt=>decide (t.k=.room)).length);rw[bI]at ht;have hm:t.n∈hs:=aG.mpr ⟨t,bI.mpr ⟨ht.1,by rw[bo ht.2];rfl⟩,rfl⟩;rw[e]at hm;cases hm
 let ρ:List L4.D->Sl->aZ:=λes s=>[.im sp,.im (.str f),.pm es,.im L,s];obtain⟨a,es1,ha,i1,e1⟩:=pk (ρ:=ρ es .un) (i:=3) (j:=2) h0 hi rfl rfl;obtain⟨b,es2,hb,i2,e2⟩:=pk (ρ:=ρ es1 .un) (i:=3) (j:=2) h0 i1 rfl rfl;let P1:aB:=[a,b,"here"]++itL 1 f;let P2:aB:=P1++otL f;have hP:∀t∈P2,∃w,Tm A y c t w/\w∈T.map Th.n:=λt ht=>by
  have sub:∀{p:Kd->Bool} {x:Str},x∈nmK T p->x∈T.map Th.n:=λh=>(tU T _).subset h;rcases bu.mp ht with ht|ht
  ·rcases bu.mp ht with ht|ht
   ·rcases aK.mp ht with rfl|ht
    ·exact⟨_,.nm c (nmN g ha),sub ha⟩
    ·rcases aK.mp ht with rfl|ht
     ·exact⟨_,.nm c (nmN g hb),sub hb⟩
     ·rw[aP.mp ht];obtain⟨r,h1,h2⟩:=hr;exact⟨r,.here c h1,h2⟩
   ·obtain⟨z,h1,h2⟩:=Q7 (A:=A) (y:=y) cm (.inl ht);exact⟨z,h1,sub h2⟩
  ·obtain⟨z,h1,h2⟩:=Q7 (n:=1) (A:=A) (y:=y) cm (.inr ht);exact⟨z,h1,sub h2⟩
 have lP:P2.length<=10:=by show (([a,b,"here"]++itL 1 f)++otL f).length<=10;unfold itL otL;split<;>split<;>simp
 have s1:(sIf (cT jP) (sT (yK 4 (cC (.str "it")))) sF:FS) (ρ es2 (.ls ([a,b,"here"].map D.str)))=some (.nx (ρ es2 (.ls (P1.map D.str)))):=by
  have et:cT jP (ρ es2 (.ls ([a,b,"here"].map D.str)))=some (decide (f="one" \/ f="two"),ρ es2 (.ls ([a,b,"here"].map D.str))):=tu (rY (x:=.str f) (y:=.lst [.str "one", .str "two"]) rfl rfl (Q6 cm));by_cases h:f="one" \/ f="two"
  ·rw[aX h]at et;show _=some (Out.nx (ρ es2 (.ls (([a,b,"here"]++itL 1 f).map D.str))));unfold itL;rw[ai h];exact(sG et).trans rfl
  ·rw[aL h]at et;show _=some (Out.nx (ρ es2 (.ls (([a,b,"here"]++itL 1 f).map D.str))));unfold itL;rw[aj h];exact(rZ et).trans rfl
 have s2:(sIf (cT me) (vz 4 (uR (cFz 4) (cL (sV (rR mL (rR mL sS)))))) sF:FS) (ρ es2 (.ls (P1.map D.str)))=some (.nx (ρ es2 (.ls (P2.map D.str)))):=by
  have et:cT me (ρ es2 (.ls (P1.map D.str)))=some (decide (f="two"),ρ es2 (.ls (P1.map D.str))):=tu (rY (x:=.str f) (y:=.str "two") rfl rfl (is2 cm));by_cases h:f="two"
  ·rw[aX h]at et;have e:P2=P1++(["other", "other"]:aB):=by show P1++otL f=_;unfold otL;rw[ai h]
   rw[e]at lP ⊢;rw[aA]at lP;refine(sG et).trans ((zd (wc (xs:=P1.map D.str) (ys:=[.str "other", .str "other"]) (ρ1:=ρ es2 (.im (.lst (P1.map D.str)))) rfl rfl (by rw[ag];simp at lP ⊢;omega))).trans ?_);rw[bb (l₁:=P1)];rfl
  ·rw[aL h]at et;have e:P2=P1:=by show P1++otL f=_;unfold otL;rw[aj h,bq]
   rw[e];exact(rZ et).trans rfl
 have hne:P2≠[]:=λe=>by have:=aT bU e;simp[P2,P1]at this
 obtain⟨p,es3,hp,i3,e3⟩:=IV (ρ:=ρ es2 (.ls (P2.map D.str))) (i:=2) (j:=4) (Hs:=P2) i2 hne rfl rfl rfl (λes'=>rfl);obtain⟨w,tm,hw⟩:=hP p hp;refine⟨p,w,es3,i3,tm,hw,?_⟩;have run:xl (stL 5 es [sp,.str f])=some (.rt (.str p) (ρ es3 (.ls (P2.map D.str)))):=by unfold xl;refine(rT (ρ':=ρ es .un) ((su (sZ (rU (ds:=[sp,.lst [.str "room", .str "box", .str "you"]]) (rS rfl (rS rfl rfl)) (of_ok (by omega) Kd.hd aaz)))).trans rfl)).trans ?_;refine(rT (ρ':=ρ es2 (.ls ([a,b,"here"].map D.str))) ((zd (Ac (rS e1 (rS e2 (rS rfl rfl))) (bP rfl))).trans rfl)).trans ?_;refine(rT s1).trans ((rT s2).trans ?_);exact(sy e3).trans rfl
 unfold xm fnL;rw[ai (show [sp,D.str f].length=2 from rfl),run];rfl
end
section
variable{A:List (Str×Str)}{V:List (Str×Int)}{S:List (Ky×L4.D)}{y:Str}{T:List Th}{M:List Mk}{dk:aB}{mo:L4.D}
theorem Q9(h:Cm sm c f):∃k a b,c=.tup [k,a,b]:=by cases h<;>exact⟨_,_,_,rfl⟩
theorem xw(a:yF A y)(tm:Tm A y c t z)(hc:∃k a b,c=.tup [k,a,b]):xn [sJ T M dk y,atD A,c,.str t]=some (.str z):=by
 let ρ:aZ:=[.im (sJ T M dk y),.im (atD A),.im c,.im (.str t)];obtain⟨r,hr⟩:=a.yo;have gen:∀k d e:L4.D,c=.tup [k,d,e]->GZ (zK [("it", m5),("other", (c2 dIx aw bM)),("here", l5)]) ay ay ρ=some ((uo [kS "it", kS "other", kS "here"] [d,e,.str r] (kS t)).getD (.str t),ρ):=λk d e ee=>by subst ee;have ed:=MF (Ee (x:="it") (f:=c2 dIx aw aR) (ρ:=ρ) (rY (x:=.tup [k,d,e]) (y:=.int 1) rfl rfl rfl) (Ee (x:="other") (f:=c2 dIx aw bM) (rY (x:=.tup [k,d,e]) (y:=.int 2) rfl rfl rfl) (Ee (x:="here") (f:=c2 uK ah jZ) (r:=[]) (rY (x:=atD A) (y:=.str y) rfl rfl (A3 a hr)) rfl)));unfold GZ;rw[ed];rfl
 refine sj (ρ:=ρ) rfl (sy ?_);cases tm with
 |it1 a=>exact gen _ _ _ rfl
 |it2 a b=>exact gen _ _ _ rfl
 |oth a b=>exact gen _ _ _ rfl
 |here c h=>obtain⟨k,d,e,ee⟩:=hc;rw[MH a.nd h hr];exact gen k d e ee
 |nm c hx=>
  obtain⟨k,d,e,ee⟩:=hc;have n:=LG hx;refine(gen k d e ee).trans ?_;rw[AS λw=>?_]
  ·rfl
  ·rcases aK.mp w with w|w
   ·exact n (by rw[FV w];simp)
   ·rcases aK.mp w with w|w
    ·exact n (by rw[FV w];simp)
    ·exact n (by rw[FV (aP.mp w)];simp)
theorem A4(a:yF A y)(o:Dp A V S)(tm:Tm A y c t z):yj [wO T M dk y mo,sD S,c,.str t]=some (.str z):=by
 cases tm with
 |it1 a=>exact MM (Ud _ _)
 |it2 a b=>exact MM (Q5 _ _)
 |oth a b=>exact LH (Q5 _ _)
 |nm c hx=>exact Ue hx
 |here c h=>exact Oh a o h
end
section
variable{y:Str}{T:List Th}{M:List Mk}{dk:aB}{A:List (Str×Str)}
abbrev mks(T:List Th)(M:List Mk):aB:=nmK T Kd.mk++M.map Mk.n
theorem ndM(g:Good T M dk):(mks T M).Nodup:=g.nd.sublist ((tU T _).append (eI _))
theorem MO(g:Good T M dk):(mks T M).length<=11:=by
 unfold mks;rw[aA,ag];have h2:=LB (T:=T) (p:=Kd.mk) (q:=Kd.pl) λk h=>by cases k<;>first|rfl|cases h
 have h3:=g.p7;have h4:=g.m4;omega
theorem HI:∀V:List (Str×Int),DF (V.map λq=>kS q.1)=some (V.map aC)
 |[]=>rfl
 |q::V=>by rw[au,au];show (DF _).map _=_;rw[HI V];rfl
theorem Rb{V:List (Str×Int)}(h:e ρ=some (dcI V,ρ))(hl:V.length<64):Dc e ρ=some ((wZ (V.map aC)).map D.str,ρ):=by unfold Dc;rw[h];simp only[HI,ag,hl,if_true]
theorem vv(h:c ρ=some (true,ρ1)):vw c c' ρ=c' ρ1:=by unfold vw;rw[h]
theorem xy(h:c ρ=some (false,ρ1)):vw c c' ρ=some (false,ρ1):=by unfold vw;rw[h]
abbrev pQ:=(cL (sV (rR (cC (.str "it")) (rR mL sS))))
abbrev p9:=(tH (rR (c2 dIx (cL (sV (rR (cC (.str "it")) (rR (c2 dIx pQ (c1 NC (c2 av ah pT))) sS)))) (tI rX 2 (rR bM sS))) (rR (tI rX 2 (rR eV sS)) sS)))
theorem Oi(g:Good T M dk)(cm:Cm (nmK T Kd.pl) c f)(hi:IL es)(hf:f="one" \/ f="two" \/ moL T M≠[]):∃t z v es',IL es'/\Tm A y c t z/\wy es [sJ T M dk y,.str f]=some (.tup [.str t,.int v],es'):=by
 let sp:=sJ T M dk y;obtain⟨V,em,v1,v2,rfl⟩:=F2 (y:=y) g;let N:=wZ ((moL T M).map aC);let L:L4.D:=.lst (N.map D.str);have hN:∀x,x∈N ↔ x∈(moL T M).map aC:=λx=>(iN _ leS).mem_iff;have hl:(moL T M).length<=11:=by have:=MO g;have h:=aT bU v1;rw[ag]at h;rw[h];exact this
 let ρ:List L4.D->Sl->aZ:=λes s=>[.im sp,.im (.str f),.pm es,.im (dcI (moL T M)),.im L,s];have byit:∀es1,IL es1->(f="one" \/ f="two")->∃t z v es',IL es'/\Tm A y c t z/\(sH p9:FS) (ρ es1 .un)=some (.rt (.tup [.str t,.int v]) (ρ es' .un)):=λes1 i1 h=>by
  obtain⟨r,es2,i2,r0,r1,h2⟩:=tk (ρ:=ρ es1 .un) (j:=2) (e:=cC (.int 2)) (n:=2) (by decide) i1 rfl rfl;obtain⟨v,es3,i3,_,_,h3⟩:=tk (ρ:=ρ es2 .un) (j:=2) (e:=cC (.int 4)) (n:=4) (by decide) i2 rfl rfl;have fin:∀b:Str,c2 dIx pQ (c1 NC me) (ρ es1 .un)=some (.str b,ρ es1 .un)->(sH p9:FS) (ρ es1 .un)=some (.rt (.tup [.str (if r=0 then "it" else b),.int v]) (ρ es3 .un)):=λb eb=>by
   have ez:(if r=0 then D.str "it" else .str b)=.str (if r=0 then "it" else b):=by split<;>rfl
   exact sy (uF (rS (rY (x:=.lst [.str "it", .str b]) (y:=.int r) (ρ1:=ρ es1 .un) (sZ (Ac (rS rfl (rS eb rfl)) (bP rfl))) h2 ((LI r0 r1).trans (aT some ez))) (rS h3 rfl)) (bP rfl))
  cases cm with
  |go z=>rcases h with h|h<;>exact aq h (by decide)
  |wait=>rcases h with h|h<;>exact aq h (by decide)
  |@take a ha=>refine⟨_,a,v,es3,i3,?_,fin "it" (by kernel_rfl)⟩;rw[ite_self];exact .it1 a
  |@put a b ha hb=>
   by_cases hr:r=0
   ·refine⟨_,a,v,es3,i3,?_,fin "other" (by kernel_rfl)⟩;rw[ai hr];exact .it2 a b
   ·refine⟨_,b,v,es3,i3,?_,fin "other" (by kernel_rfl)⟩;rw[aj hr];exact .oth a b
 have byname:∀es1,IL es1->N≠[]->∃t z v es' s,IL es'/\Tm A y c t z/\(rV (sM 5 (c2 dIx aD (tI rX 2 (rR fX sS))))
   (sH (tH (rR aO (rR (tI rX 2 (rR (c2 uu mE aR) sS)) sS)))):FS) (ρ es1 .un)=some (.rt (.tup [.str t,.int v]) (ρ es' s)):=λes1 i1 h=>by
  obtain⟨x,es2,hx,i2,h2⟩:=pk (ρ:=ρ es1 .un) (i:=4) (j:=2) h i1 rfl rfl;obtain⟨q,hq,rfl⟩:=aG.mp ((hN x).mp hx);have h1:=v2 q hq;have hm:q.1∈mks T M:=by show q.1∈nmK T Kd.mk++M.map Mk.n;rw[<-v1];exact aG.mpr ⟨q,hq,rfl⟩
  have nm:Nm q.1:=g.nm _ (((tU T Kd.mk).append (eI _)).subset hm);rw[rT ((su h2).trans (show _=some (Out.nx (ρ es2 (.im (.str q.1)))) from rfl))];obtain⟨v,es3,i3,_,_,h3⟩:=tk (ρ:=ρ es2 (.im (.str q.1))) (j:=2) (e:=c2 uu mE aR) (n:=q.2+1) (by omega) i2 rfl (rY (x:=.int q.2) (y:=.int 1) (rY (x:=dcI (moL T M)) (y:=.str q.1) rfl rfl (LF (by rw[v1];exact ndM g) (x:=q.1) (z:=q.2) hq)) rfl rfl);exact⟨q.1,q.1,v,es3,_,i3,.nm c nm,sy (uF (rS rfl (rS h3 rfl)) (bP rfl))⟩
 have run:∃t z v es' s,IL es'/\Tm A y c t z/\wx (stL 6 es [sp,.str f])=some (.rt (.tup [.str t,.int v]) (ρ es' s)):=by
  unfold wx;rw[rT ((su (rU (ds:=[sp]) (ρ1:=[.im sp,.im (.str f),.pm es,.un,.un,.un]) rfl em)).trans (show _=some (Out.nx [.im sp,.im (.str f),.pm es,.im (dcI (moL T M)),.un,.un]) from rfl))];rw[rT ((su (sZ (Rb (V:=moL T M) rfl (by omega)))).trans (show _=some (Out.nx (ρ es .un)) from rfl))];by_cases h12:f="one" \/ f="two"
  ·have e1:cT jP (ρ es .un)=some (true,ρ es .un):=by rcases h12 with h|h<;>(subst h;kernel_rfl)
   by_cases h0:N=[]
   ·obtain⟨t,z,v,es',i',tm,e⟩:=byit es hi h12;exact⟨t,z,v,es',.un,i',tm,sA ((sG ((vv e1).trans (AM (tu (rY (x:=L) (y:=.lst []) rfl rfl (by show dEq false (.lst (N.map D.str)) _=_;rw[h0];rfl)))))).trans e)⟩
   ·have e2:cT (c2 av aD bQ) (ρ es .un)=some (false,ρ es .un):=tu (rY (x:=L) (y:=.lst []) rfl rfl (by
     show dEq false (.lst (N.map D.str)) _=_;obtain⟨a,r,e⟩:=gm h0;rw[e];exact Ef a r))
    obtain⟨r,es1,i1,_,_,h1⟩:=tk (ρ:=ρ es .un) (j:=2) (e:=cC (.int 2)) (n:=2) (by decide) hi rfl rfl;have e3:=(vv e1).trans (zf e2 (tu (rY (e':=cC (.int 0)) h1 rfl (vo false r 0))));by_cases hr:r=0
    ·obtain⟨t,z,v,es',i',tm,e⟩:=byit es1 i1 h12;rw[aX hr]at e3;exact⟨t,z,v,es',.un,i',tm,sA ((sG e3).trans e)⟩
    ·obtain⟨t,z,v,es',s,i',tm,e⟩:=byname es1 i1 h0;rw[aL hr]at e3;exact⟨t,z,v,es',s,i',tm,(rT ((rZ e3).trans rfl)).trans e⟩
  ·have h0:N≠[]:=λh=>by
    rcases hf with h'|h'|h'
    ·exact h12 (.inl h')
    ·exact h12 (.inr h')
    ·obtain⟨q,r,e⟩:=gm h';have:q.1∈N:=(hN _).mpr (by rw[e];exact aV ..);rw[h]at this;cases this
   have e1:cT jP (ρ es .un)=some (false,ρ es .un):=tu (rY (x:=.str f) (y:=.lst [.str "one", .str "two"]) rfl rfl ((uw false f ["one", "two"]).trans (by simp;exact⟨λh=>h12 (.inl h),λh=>h12 (.inr h)⟩)));obtain⟨t,z,v,es',s,i',tm,e⟩:=byname es hi h0;exact⟨t,z,v,es',s,i',tm,(rT ((rZ (xy e1)).trans rfl)).trans e⟩
 obtain⟨t,z,v,es',s,i',tm,run⟩:=run;refine⟨t,z,v,es',i',tm,?_⟩;unfold wy fnL;rw[ai (show [sp,D.str f].length=2 from rfl),run];rfl
end
variable{b:Bool}
section
variable{y:Str}{T:List Th}{M:List Mk}{dk:aB}{A:List (Str×Str)}
theorem MP(l:aB)(lo hi:Option Int):∃l':aB,cutD (l.map D.str) lo hi=l'.map D.str/\(∀x∈l',x∈l)/\l'.length<=l.length:=
 ⟨(l.drop (HT.sIx l.length 0 lo)).take (HT.sIx l.length l.length hi - HT.sIx l.length 0 lo),by unfold cutD;rw[ag,<- fG,<- eM],λx hx=>kj (n9 hx),by rw[bp,cb];omega⟩
theorem MQ{ρ:Sl->aZ}{c:FT}{e:FA}{P ys:aB}(hs:∀d s,(ρ s).set 4 (.im d)=ρ (.im d))(h4:∀d,cV 4 (ρ (.im d))=some (d,ρ (.im d)))(hc:∀s,c (ρ s)=some (b,ρ s))(he:∀s,e (ρ s)=some (ys.map D.str,ρ s))(hl:P.length+ys.length<=900):
  (sIf c (sM 4 (cL (uR aD (cL e)))) sF:FS) (ρ (.im (.lst (P.map D.str))))=some (.nx (ρ (.im (.lst ((P++if b then ys else []).map D.str))))):=by
 cases b with
 |false=>exact(rZ (hc _)).trans (by rw[aj br,bq];rfl)
 |true=>refine(sG (hc _)).trans ((su (sZ (wc (xs:=P.map D.str) (ys:=ys.map D.str) (h4 _) (sZ (he _)) (by rw[ag,ag];omega)))).trans ?_);rw[hs,ai rfl,bb]
theorem Ui(g:Good T M dk)(cm:Cm (nmK T Kd.pl) c f)(hr:∃r,(y,r)∈A/\r∈T.map Th.n)(hi:IL es):∃t z es',IL es'/\Tm A y c t z/\z∈T.map Th.n/\wH es [sJ T M dk y,.str f]=some (.str t,es'):=by
 let sp:=sJ T M dk y;let N:=T.map Th.n;have hl:=g.len;let ρ:List L4.D->Sl->aZ:=λes s=>[.im sp,.im (.str f),.pm es,.im (.lst (N.map D.str)),s];have hN:0<N.length:=by have h1:=g.r1;have h2:=eC (λt:Th=>decide (t.k=.room)) T;show 0<(T.map Th.n).length;rw[ag];omega
 have lN:N.length=T.length:=ag _;obtain⟨r,es1,i1,_,_,e1⟩:=tk (ρ:=ρ es .un) (j:=2) (e:=c1 xW ay) (n:=N.length) (by omega) hi rfl (tE rfl (by show some (D.int ((N.map D.str).length:Nat))=_;rw[ag]));obtain⟨l1,cq1,m1,n1⟩:=MP N (some r) none;obtain⟨l2,cq2,m2,n2⟩:=MP l1 none (some 3);let P0:aB:=l2++(["here"]:aB);let P1:aB:=P0++if decide (f="one" \/ f="two")then (["it", "it", "it"]:aB)else []
 let P2:aB:=P1++if decide (f="two")then (["other", "other"]:aB)else []
 have lP0:P0.length<=300:=by show (l2++(["here"]:aB)).length<=300;rw[aA];simp;omega
 have lP1:P1.length<=303:=by show (P0++if decide (f="one" \/ f="two")then (["it", "it", "it"]:aB)else []).length<=303;rw[aA];split<;>simp<;>omega
 have hP:∀t∈P2,∃w,Tm A y c t w/\w∈T.map Th.n:=λt ht=>by
  have byc:((t="it" /\ (f="one" \/ f="two"))\/(t="other" /\ f="two"))->∃w,Tm A y c t w/\w∈T.map Th.n:=λh=>by obtain⟨z,h1,h2⟩:=MN (A:=A) (y:=y) cm h;exact⟨z,h1,(tU T _).subset h2⟩
  rcases bu.mp ht with ht|ht
  ·rcases bu.mp ht with ht|ht
   ·rcases bu.mp ht with ht|ht
    ·have h:=m1 _ (m2 _ ht);exact⟨t,.nm c (g.nm _ (bF _ h)),h⟩
    ·rw[aP.mp ht];obtain⟨r,h1,h2⟩:=hr;exact⟨r,.here c h1,h2⟩
   ·split at ht
    ·rename_i h;refine byc (.inl ⟨?_,bo h⟩);simpa using ht
    ·cases ht
  ·split at ht
   ·rename_i h;refine byc (.inr ⟨?_,bo h⟩);simpa using ht
   ·cases ht
 have hne:P2≠[]:=λe=>by have:=aT bU e;simp[P2,P1,P0]at this
 obtain⟨t,es2,ht,i2,e2⟩:=pk (ρ:=ρ es1 (.im (.lst (P2.map D.str)))) (i:=4) (j:=2) hne i1 rfl rfl;obtain⟨z,tm,hz⟩:=hP t ht;refine⟨t,z,es2,i2,tm,hz,?_⟩;have run:wG (stL 5 es [sp,.str f])=some (.rt (.str t) (ρ es2 (.im (.lst (P2.map D.str))))):=by
  unfold wG;have ec:=zU (k:=3) (cap:=[]) (s:=iL iq) (g:=gT fP 3) (fe:=cV 0) (λt:Th=>sN t.rw) (λt=>D.str t.n) T (ρ:=[.im sp,.im (.str f),.pm es,.un,.un]) (ρ1:=[.im sp,.im (.str f),.pm es,.un,.un]) rfl (by omega) λt _=>⟨_,_,rfl,rfl,rfl⟩;refine(rT (ρ':=ρ es .un) ((su (sZ ec)).trans ?_)).trans ?_
  ·show _=some (Out.nx [.im sp,.im (.str f),.pm es,.im (.lst ((T.map Th.n).map D.str)),.un]);rw[aW];rfl
  refine(rT (ρ':=ρ es1 (.im (.lst (P0.map D.str)))) ((su (sZ (wc (xs:=l2.map D.str) (ys:=[.str "here"]) (ρ1:=ρ es1 .un) (ρ2:=ρ es1 .un) (sZ ?_) rfl (by rw[ag];simp;omega)))).trans ?_)).trans ?_
  ·have h1:xY ay (oAt jW) oNo (ρ es .un)=some (l1.map D.str,ρ es1 .un):=by unfold xY oAt;show (match (match tI rX 2 (rR ir sS) (ρ es .un)with|some (.int i,ρ')=>some (some i,ρ')|_=>none)with|some (l,ρ2)=>some (cutD (N.map D.str) l none,ρ2)|none=>none)=_;rw[e1];show some (cutD (N.map D.str) (some r) none,ρ es1 .un)=_;rw[cq1]
   unfold cSl;rw[sZ h1];show some (cutD (l1.map D.str) none (some 3),ρ es1 .un)=_;rw[cq2]
  ·rw[show P0.map D.str=l2.map D.str++[.str "here"] from bb];rfl
  refine(rT (MQ (ρ:=ρ es1) (P:=P0) (e:=sV qE) (ys:=["it", "it", "it"]) (λ_ _=>rfl) (λ_=>rfl) (λs=>tu (rY (x:=.str f) (y:=.lst [.str "one", .str "two"]) rfl rfl (Q6 cm))) (λ_=>rfl) (by simp;omega))).trans ?_;refine(rT (MQ (ρ:=ρ es1) (P:=P1) (e:=sV my) (ys:=["other", "other"]) (λ_ _=>rfl) (λ_=>rfl) (λs=>tu (rY (x:=.str f) (y:=.str "two") rfl rfl (is2 cm))) (λ_=>rfl) (by simp;omega))).trans ?_;exact(sy e2).trans rfl
 unfold wH fnL;rw[ai (show [sp,D.str f].length=2 from rfl)];rw[show wG (stL 5 es [sJ T M dk y,.str f])=_ from run];rfl
end
variable{ρ ρ1 ρ2:aZ}{d:L4.D}
section
variable{y:Str}{T:List Th}{M:List Mk}{dk:aB}{A:List (Str×Str)}
abbrev Tn(A:List (Str×Str))(y:Str)(c c':L4.D)(t z:Str):Prop:=Tm A y c t z/\Tm A y c' t z
inductive Ak(T:List Th) (A:List (Str×Str)) (y:Str) (c c':L4.D):Nat->L4.D->Prop
 |at {n:Nat} {t p z w:Str}:Tn A y c c' t z->Tn A y c c' p w->Ak T A y c c' n (.tup [.str "at", .str t,.str p])
 |has {n:Nat} {t z:Str}:Tn A y c c' t z->Ak T A y c c' n (.tup [.str "has", .str t])
 |seen {n:Nat} {t z:Str}:Tn A y c c' t z->z∈T.map Th.n->Ak T A y c c' n (.tup [.str "seen", .str t])
 |kind {n:Nat} {t z:Str} (k:Str):noT k=true->Tn A y c c' t z->z∈T.map Th.n->Ak T A y c c' n (.tup [.str "kind", .str t,.str k])
 |word {n:Nat} (x z:Str):c=.tup [.str "go", .str z,.non]->c'=c->Ak T A y c c' n (.tup [.str "word", .str x])
 |marked {n:Nat} {t z:Str} (v:Int):Tn A y c c' t z->Ak T A y c c' n (.tup [.str "marked", .str t,.int v])
 |lit {n:Nat}:Ak T A y c c' n (.tup [.str "lit"])
 |no {n:Nat} {a:L4.D}:Ak T A y c c' n a->Ak T A y c c' (n+1) (.tup [.str "not", a])
 |both {n:Nat} {a b:L4.D}:Ak T A y c c' n a->Ak T A y c c' n b->Ak T A y c c' (n+1) (.tup [.str "both", a,b])
theorem yn{g:List L4.D->List L4.D->Option (L4.D×List L4.D)}{i:Nat}{a:FA}{es':List L4.D}(h1:a ρ=some (ds,ρ1))(h2:uc ρ1 i=some es)(h3:g es ds=some (d,es')):uq g i a ρ=some (d,putAt ρ1 i es'):=by unfold uq;rw[h1];simp only[h2,h3]
theorem YF{f:FE}{gg:FG}(h1:f ρ=some (d,ρ1))(h2:gg d ρ1=some ρ2):Nr f gg ρ=some (.nx ρ2):=by unfold Nr;rw[h1];simp only[h2]
theorem MR{l:aB}{r:Int}(h0:0<=r)(h1:r<l.length):∃x,x∈l/\dIx (.lst (l.map D.str)) (.int r)=some (.str x):=by
 obtain⟨m,rfl⟩:=cp h0;have hm:m<l.length:=by omega
 exact⟨_,dg hm,vc (aN hm)⟩
theorem Uj{n:Nat}(h:n<=3)(a b p q r s t:Sl):c2 dIx mj mr [a,b,p,.im (.int ((n+1:Nat):Int)),q,r,s,t]=some (.int (if n=0 then 7 else 10),[a,b,p,.im (.int ((n+1:Nat):Int)),q,r,s,t]):=by
 match n,h with
 |0,_=>kernel_rfl
 |1,_=>kernel_rfl
 |2,_=>kernel_rfl
 |3,_=>kernel_rfl
theorem Kv(g:Good T M dk)(cm:Cm (nmK T Kd.pl) c f)(hr:∃r,(y,r)∈A/\r∈T.map Th.n){n:Nat}(hn:n<=3)
  (ih:∀m,n=m+1->∀es,IL es->∃d es',IL es'/\Ak T A y c c m d/\sQ n es [sJ T M dk y,.str f,.int n]=some (d,es')) (hi:IL es):∃d es',IL es'/\Ak T A y c c n d/\sQ (n+1) es [sJ T M dk y,.str f,.int ((n+1:Nat):Int)]=some (d,es'):=by
 let dp:Int:=((n+1:Nat):Int);let sp:=sJ T M dk y;let ρ:List L4.D->Sl->Sl->Sl->Sl->aZ:=λes a b p q=>[.im sp,.im (.str f),.pm es,.im (.int dp),a,b,p,q];have suf:∀{d:L4.D} {es':List L4.D} {a b p q:Sl},tZ (sQ n) (ρ es .un .un .un .un)=some (.rt d (ρ es' a b p q))->sQ (n+1) es [sJ T M dk y,.str f,.int dp]=some (d,es'):=λ{d es' a b p q} run=>by unfold sQ fnJ;rw[ai (show [sp,D.str f,.int dp].length=3 from rfl)];rw[show tZ (sQ n) (stJ 2 8 es [sJ T M dk y,.str f,.int dp])=_ from run];rfl
 obtain⟨r,es1,i1,r0,r1,e1⟩:=tk (ρ:=ρ es .un .un .un .un) (j:=2) (e:=c2 dIx mj mr) (n:=if n=0 then 7 else 10) (by split<;>decide) hi rfl (Uj hn _ _ _ _ _ _ _);have fin:(∃d es' a b p q,IL es'/\Ak T A y c c n d/\tZ (sQ n) (ρ es .un .un .un .un)=some (.rt d (ρ es' a b p q)))->∃d es',IL es'/\Ak T A y c c n d/\sQ (n+1) es [sJ T M dk y,.str f,.int dp]=some (d,es'):=λ⟨d,es',a,b,p,q,h1,h2,h3⟩=>⟨d,es',h1,h2,suf h3⟩;refine fin ?_;unfold tZ;rw[rT ((su e1).trans (show _=some (Out.nx (ρ es1 (.im (.int r)) .un .un .un)) from rfl))];have trm:∀{es0:List L4.D} (s5:Sl),IL es0->∃t z es',IL es'/\Tm A y c t z/\z∈T.map Th.n/\uq wH 2 cW (ρ es0 (.im (.int r)) s5 .un .un)=some (.str t,ρ es' (.im (.int r)) s5 .un .un):=λ{es0} s5 h=>by obtain⟨t,z,es',h1,h2,h3,h4⟩:=Ui (A:=A) (y:=y) g cm hr h;exact⟨t,z,es',h1,h2,h3,(yn (i:=2) (ds:=[sp,.str f]) (ρ1:=ρ es0 (.im (.int r)) s5 .un .un) rfl rfl h4).trans rfl⟩
 have hgo:f="way" -> ∃z,c=.tup [.str "go", .str z,.non]:=λh=>by
  cases cm with
  |go z=>exact⟨z,rfl⟩
  |_=>exact aq h (by decide)
 have rest:(4<=r)->f≠"way" \/ r≠4->∀tl:FS,tl=(rV (sIf qN (rV qZ
   qz) sF)
   (rV mf
   (rV (sIf (cT mD) (sH (tH (rR eY (a1 (uq (sQ n) 2 fg))))) sF)
   (sH (tH (rR eW (rR (uq (sQ n) 2 fg) (a1 (uq (sQ n) 2 fg)))))))))->∃d es' a b p q,IL es'/\Ak T A y c c n d/\tl (ρ es1 (.im (.int r)) .un .un .un)=some (.rt d (ρ es' a b p q)):=λh4 hw tl et=>by
  subst et;obtain⟨V,em,v1,v2,rfl⟩:=F2 (y:=y) g;have lit:r<7->∀{tl:FS},(rV mf tl:FS) (ρ es1 (.im (.int r)) .un .un .un)=some (.rt (.tup [.str "lit"]) (ρ es1 (.im (.int r)) .un .un .un)):=λh7 {tl}=>sA ((sG (ρ':=ρ es1 (.im (.int r)) .un .un .un) (tu (rY (x:=.int r) (y:=.int 7) rfl rfl (by show some (D.bl (decide (r<7)))=_;rw[aX h7])))).trans rfl);have lt:∀k:Int,cT (c2 Gg aD (cC (.int k))) (ρ es1 (.im (.int r)) .un .un .un)=some (decide (r<k),ρ es1 (.im (.int r)) .un .un .un):=λk=>rfl;by_cases h7:7<=r
  ·have hn0:n≠0:=λe=>by rw[ai e]at r1;omega
   obtain⟨m,em'⟩:=Nat.exists_eq_succ_of_ne_zero hn0;have rcr:∀es0,IL es0->∃d es',IL es'/\Ak T A y c c m d/\uq (sQ n) 2 fg (ρ es0 (.im (.int r)) .un .un .un)=some (d,ρ es' (.im (.int r)) .un .un .un):=λes0 h=>by obtain⟨d,es',h1,h2,h3⟩:=ih m em' es0 h;refine⟨d,es',h1,h2,(yn (i:=2) (ds:=[sp,.str f,.int n]) (ρ1:=ρ es0 (.im (.int r)) .un .un .un) (rS rfl (rS rfl (rS (rY (x:=.int dp) (y:=.int 1) rfl rfl ?_) rfl))) rfl h3).trans rfl⟩;show some (D.int (((n+1:Nat):Int) - 1))=_;congr 2;omega
   have n6:=lt 6;rw[aL (by omega)]at n6;have n7:=lt 7;rw[aL (by omega)]at n7;rw[rT ((rZ (ρ':=ρ es1 (.im (.int r)) .un .un .un) (xy n6)).trans rfl),rT ((rZ n7).trans rfl)];obtain⟨d1,es2,i2,k1,e2⟩:=rcr es1 i1;have q7:cT mD (ρ es1 (.im (.int r)) .un .un .un)=some (decide (r=7),ρ es1 (.im (.int r)) .un .un .un):=tu (rY (x:=.int r) (y:=.int 7) rfl rfl (vo false r 7));by_cases h8:r=7
   ·rw[aX h8]at q7;exact⟨_,es2,_,_,_,_,i2,em'▸.no k1,sA ((sG q7).trans (sy (uF (rS rfl (rS e2 rfl)) (bP rfl))))⟩
   ·rw[aL h8]at q7;obtain⟨d2,es3,i3,k2,e3⟩:=rcr es2 i2;exact⟨_,es3,_,_,_,_,i3,em'▸.both k1 k2,(rT ((rZ q7).trans rfl)).trans (sy (uF (rS rfl (rS e2 (rS e3 rfl))) (bP rfl)))⟩
  by_cases hb:r<6/\(f="one" \/ f="two" \/ moL T M≠[])
  ·obtain⟨h6,hf⟩:=hb;obtain⟨t,z,v,es',i',tm,e⟩:=Oi (A:=A) (y:=y) g cm i1 hf;refine⟨_,es',_,_,_,_,i',.marked v ⟨tm,tm⟩,sA ((sG (ρ':=ρ es1 (.im (.int r)) .un .un .un) ?_).trans ((rT (YF (yn (ds:=[sp,.str f]) rfl rfl e) rfl)).trans rfl))⟩;refine(vv (ρ1:=ρ es1 (.im (.int r)) .un .un .un) ((lt 6).trans (by rw[aX h6]))).trans ?_;have e0:cT fY (ρ es1 (.im (.int r)) .un .un .un)=some (decide (f="one" \/ f="two"),ρ es1 (.im (.int r)) .un .un .un):=tu (rY (x:=.str f) (y:=.lst [.str "one", .str "two"]) rfl rfl (Q6 cm));by_cases h12:f="one" \/ f="two"
   ·rw[aX h12]at e0;exact AM e0
   ·rw[aL h12]at e0;have hm:moL T M≠[]:=by
     rcases hf with h|h|h
     ·exact aq (.inl h) h12
     ·exact aq (.inr h) h12
     ·exact h
    refine(zf e0 (tu (rY (x:=dcI (moL T M)) (y:=.dic [] []) (rU (ds:=[sp]) rfl em) rfl rfl))).trans ?_;obtain⟨q,l,e⟩:=gm hm;rw[e];rfl
  ·refine⟨_,es1,_,_,_,_,i1,.lit,(rT (ρ':=ρ es1 (.im (.int r)) .un .un .un) ((rZ (ρ':=ρ es1 (.im (.int r)) .un .un .un) ?_).trans rfl)).trans (lit (by omega))⟩;by_cases h6:r<6
   ·have hn:¬(f="one" \/ f="two" \/ moL T M≠[]):=λh=>hb ⟨h6,h⟩;have h12:¬(f="one" \/ f="two"):=λh=>hn (h.elim .inl λh=>.inr (.inl h));have hm:moL T M=[]:=iH λh=>hn (.inr (.inr h));refine(vv (ρ1:=ρ es1 (.im (.int r)) .un .un .un) ((lt 6).trans (by rw[aX h6]))).trans ?_;have e0:cT fY (ρ es1 (.im (.int r)) .un .un .un)=some (decide (f="one" \/ f="two"),ρ es1 (.im (.int r)) .un .un .un):=tu (rY (x:=.str f) (y:=.lst [.str "one", .str "two"]) rfl rfl (Q6 cm));rw[aL h12]at e0;refine(zf e0 (tu (rY (x:=dcI (moL T M)) (y:=.dic [] []) (rU (ds:=[sp]) rfl em) rfl rfl))).trans ?_;rw[hm];rfl
   ·have:r=6:=by omega
    subst this;exact xy rfl
 have cs:r=0\/r=1\/r=2\/r=3\/4<=r:=by omega
 rcases cs with rfl|rfl|rfl|rfl|h4
 ·obtain⟨t,z,es2,i2,tz,_,e2⟩:=trm .un i1;obtain⟨p,w,es3,i3,tw,_,e3⟩:=Q8 (A:=A) (y:=y) g cm hr i2;exact⟨_,es3,_,_,_,_,i3,.at ⟨tz,tz⟩ ⟨tw,tw⟩,sA ((sG rfl).trans (sy (uF (rS rfl (rS e2 (rS (yn (ds:=[sp,.str f]) rfl rfl e3) rfl))) (bP rfl))))⟩
 ·obtain⟨t,z,es2,i2,tz,_,e2⟩:=trm .un i1;exact⟨_,es2,_,_,_,_,i2,.has ⟨tz,tz⟩,(rT ((rZ rfl).trans rfl)).trans (sA ((sG rfl).trans (sy (uF (rS rfl (rS e2 rfl)) (bP rfl)))))⟩
 ·obtain⟨t,z,es2,i2,tz,hz,e2⟩:=trm .un i1;exact⟨_,es2,_,_,_,_,i2,.seen ⟨tz,tz⟩ hz,(rT ((rZ rfl).trans rfl)).trans ((rT ((rZ rfl).trans rfl)).trans (sA ((sG rfl).trans (sy (uF (rS rfl (rS e2 rfl)) (bP rfl))))))⟩
 ·let ks:aB:=["room", "plain", "fixed", "box", "lamp", "you", "box", "lamp"];obtain⟨t,z,es2,i2,tz,hz,e2⟩:=trm (.im (.lst (ks.map D.str))) i1;obtain⟨q,es3,i3,q0,q1,e3⟩:=tk (ρ:=ρ es2 (.im (.int 3)) (.im (.lst (ks.map D.str))) .un .un) (j:=2) (e:=cC (.int 8)) (n:=8) (by decide) i2 rfl rfl;obtain⟨k,hk,ek⟩:=MR (l:=ks) q0 q1;have nk:noT k=true:=bD.mp (show ks.all noT=true by kernel_rfl) k hk;refine⟨_,es3,_,_,_,_,i3,.kind k nk ⟨tz,tz⟩ hz,(rT ((rZ rfl).trans rfl)).trans ((rT ((rZ rfl).trans rfl)).trans ((rT ((rZ rfl).trans rfl)).trans (sA ((sG rfl).trans ((rT (ρ':=ρ es1 (.im (.int 3)) (.im (.lst (ks.map D.str))) .un .un) rfl).trans (sy (uF (rS rfl (rS e2 (rS (rY (x:=.lst (ks.map D.str)) rfl e3 ek) rfl))) (bP rfl)))))))) ⟩
 ·have n0:∀k:Int,k<4->∀{s t:FS},(rV (sIf (cT (c2 av aD (cC (.int k)))) s sF) t:FS) (ρ es1 (.im (.int r)) .un .un .un)=t (ρ es1 (.im (.int r)) .un .un .un):=λk hk s t=>rT ((rZ (ρ':=ρ es1 (.im (.int r)) .un .un .un) (tu (rY (x:=.int r) (y:=.int k) rfl rfl ((vo false r k).trans (by rw[aL (by omega)];rfl))))).trans rfl);rw[n0 0 (by decide),n0 1 (by decide),n0 2 (by decide),n0 3 (by decide)];by_cases hw:f="way" /\ r=4
  ·obtain⟨rfl,rfl⟩:=hw;obtain⟨q,es3,i3,q0,q1,e3⟩:=tk (ρ:=ρ es1 (.im (.int 4)) .un .un .un) (j:=2) (e:=cC (.int 4)) (n:=4) (by decide) i1 rfl rfl;obtain⟨k,_,ek⟩:=MR (l:=["north", "up", "down", "upp"]) q0 q1;exact⟨_,es3,_,_,_,_,i3,.word k _ (hgo rfl).choose_spec rfl,sA ((sG (ρ':=ρ es1 (.im (.int 4)) .un .un .un) (by kernel_rfl)).trans (sy (uF (rS rfl (rS (rY (x:=.lst [.str "north", .str "up", .str "down", .str "upp"]) rfl e3 ek) rfl)) (bP rfl))))⟩
  ·have ew:vw (cT mC) (cT (c2 av ah ip)) (ρ es1 (.im (.int r)) .un .un .un)=some (false,ρ es1 (.im (.int r)) .un .un .un):=by
    have e4:cT mC (ρ es1 (.im (.int r)) .un .un .un)=some (decide (r=4),ρ es1 (.im (.int r)) .un .un .un):=tu (rY (x:=.int r) (y:=.int 4) rfl rfl (vo false r 4));by_cases h:r=4
    ·rw[aX h]at e4;refine(vv e4).trans (tu (rY (x:=.str f) (y:=.str "way") rfl rfl ?_));cases cm with
     |go z=>exact aq ⟨rfl,h⟩ hw
     |_=>rfl
    ·rw[aL h]at e4;exact xy e4
   rw[rT ((rZ ew).trans (show _=some (Out.nx (ρ es1 (.im (.int r)) .un .un .un)) from rfl))];exact rest h4 (iH λh=>hw ⟨iH λq=>h (.inl q),iH λq=>h (.inr q)⟩) _ rfl
theorem F9(g:Good T M dk){c:L4.D}{f:Str}(cm:Cm (nmK T Kd.pl) c f)(hr:∃r,(y,r)∈A/\r∈T.map Th.n):∀{n:Nat},n<=3->∀{es:List L4.D},IL es->∃d es',IL es'/\Ak T A y c c n d/\sQ (n+1) es [sJ T M dk y,.str f,.int ((n+1:Nat):Int)]=some (d,es')
 |0,h,es,hi=>Kv g cm hr h (λm e=>by cases e) hi
 |n+1,h,es,hi=>Kv g cm hr h (λm e es' h'=>by cases e;exact F9 g cm hr (by omega) h') hi
end
variable{e:FE}
section
variable{A:List (Str×Str)}{V:List (Str×Int)}{S:List (Ky×L4.D)}{y r:Str}{T:List Th}{M:List Mk}{dk:aB}{mo c c' d:L4.D}{n:Nat}{f:Str}
theorem sk{c:FT}{f t:FS}(h:c ρ=some (false,ρ)):rV (sIf c f sF) t ρ=t ρ:=rT ((rZ h).trans rfl)
theorem Re(h:e ρ=some (.bl b,ρ1)):CL e ρ=some (.bl !b,ρ1):=by unfold CL;rw[h]
theorem Rf{e':FE}{b':Bool}(h:e ρ=some (.bl b,ρ1))(h':e' ρ1=some (.bl b',ρ1)):tV e e' ρ=some (.bl (b&&b'),ρ1):=by cases b with|true=>exact(tq h).trans h'|false=>exact v8 h
theorem ev3{f1 f2 f3 g:FS}{ρ3:aZ}(h1:f1 ρ=some (.nx ρ1))(h2:f2 ρ1=some (.nx ρ2))(h3:f3 ρ2=some (.nx ρ3)):rV f1 (rV f2 (rV f3 g)) ρ=g ρ3:=(rT h1).trans ((rT h2).trans (rT h3))
def Tst(n:Nat)(T:List Th)(M:List Mk)(dk:aB)(y:Str)(mo:L4.D)(A:List (Str×Str))(V:List (Str×Int))(S:List (Ky×L4.D))(c c' d:L4.D):Prop:=∃k ns ds hh b,tG (n+1) [d]=some (.obj k ns ds)/\tf n k=some hh/\ns.contains "holds" = false/\hh [.obj k ns ds,wO T M dk y mo,sD S,c]=some (.bl b)/\uz (n+1) [sJ T M dk y,atD A,dcI V,c',d]=some (.bl b)
theorem aaA(s:Sit T A V S y r):Tst n T M dk y mo A V S c c' (.tup [.str "lit"]):=by
 refine⟨15,[],[],D8,BI dk s,by kernel_rfl,by cases n<;>rfl,rfl,?_,?_⟩
 ·exact sj (ρ:=[.im (.obj 15 [] []),.im (wO T M dk y mo),.im (sD S),.im c]) rfl (sy (rU (ds:=[wO T M dk y mo,sD S]) rfl (Q0 s)))
 ·refine sj (ρ:=[.im (sJ T M dk y),.im (atD A),.im (dcI V),.im c',.im (.tup [.str "lit"]),.im (.str "lit"),.un]) rfl ?_;unfold tT;exact(ev3 rfl ((rZ rfl).trans rfl) ((rZ rfl).trans rfl)).trans (sA ((sG rfl).trans (sy (rU (ds:=[sJ T M dk y,atD A,dcI V]) rfl (ML s)))))
theorem YG(x z:Str)(h:c=.tup [.str "go", .str z,.non])(h':c'=c):Tst n T M dk y mo A V S c c' (.tup [.str "word", .str x]):=by
 subst h';subst h;let c0:L4.D:=.tup [.str "go", .str z,.non];refine⟨8,["word"],[.str x],Ct,decide (z=x),by kernel_rfl,by cases n<;>rfl,rfl,?_,?_⟩
 ·refine sj (ρ:=[.im (.obj 8 ["word"] [.str x]),.im (wO T M dk y mo),.im (sD S),.im c0]) rfl (sy ((tq (rU (ds:=[wO T M dk y mo,c0]) rfl (by kernel_rfl))).trans (rY (x:=.str z) (y:=.str x) rfl rfl (vm false z x))))
 ·refine sj (ρ:=[.im (sJ T M dk y),.im (atD A),.im (dcI V),.im c0,.im (.tup [.str "word", .str x]),.im (.str "word"),.un]) rfl ?_;unfold tT;exact(ev3 rfl ((rZ rfl).trans rfl) ((rZ rfl).trans rfl)).trans ((rT ((rZ rfl).trans rfl)).trans (sA ((sG rfl).trans (sy ((tq rfl).trans (rY (x:=.str z) (y:=.str x) rfl rfl (vm false z x)))))))
end
section
variable{A:List (Str×Str)}{V:List (Str×Int)}{S:List (Ky×L4.D)}{y r:Str}{T:List Th}{M:List Mk}{dk:aB}{mo c c' d:L4.D}{n:Nat}{f t z:Str}
theorem aaB(s:Sit T A V S y r)(hc:∃k a b,c'=.tup [k,a,b])(tz:Tn A y c c' t z):Tst n T M dk y mo A V S c c' (.tup [.str "has", .str t]):=by
 let o:L4.D:=.obj 4 ["term"] [.str t];let W:=wO T M dk y mo;let sp:=sJ T M dk y;have dy:dIn false (.str y) (.lst ((lf s.a z).map D.str))=some (.bl (decide (y∈lf s.a z))):=uw false y _;refine⟨4,["term"],[.str t],D6,decide (y∈lf s.a z),by kernel_rfl,by cases n<;>rfl,rfl,?_,?_⟩
 ·refine sj (ρ:=[.im o,.im W,.im (sD S),.im c]) rfl (sy (rU (ds:=[W,sD S,.str z]) (rS rfl (rS rfl (rS (rU (ds:=[W,sD S,c,.str t]) rfl (A4 s.a s.o tz.1)) rfl))) ?_));exact sj (ρ:=[.im W,.im (sD S),.im (.str z)]) rfl (sy (rY (x:=.str y) rfl (sZ (rU (ds:=[W,sD S,.str z]) rfl (MI s.a s.o W (QW s.a z) (Ub s.a z)))) dy))
 ·refine sj (ρ:=[.im sp,.im (atD A),.im (dcI V),.im c',.im (.tup [.str "has", .str t]),.im (.str "has"),.im (.str z)]) rfl ?_;unfold tT;refine(ev3 rfl ((rZ rfl).trans rfl) ((rZ rfl).trans rfl)).trans ((rT ((rZ rfl).trans rfl)).trans ((rT ((rZ rfl).trans rfl)).trans ((rT ((su (rU (ds:=[sp,atD A,c',.str t]) rfl (xw s.a tz.2 hc))).trans rfl)).trans ((rT ((rZ rfl).trans rfl)).trans (sA ((sG rfl).trans (sy (rY (x:=.str y) rfl (sZ (rU (ds:=[atD A,.str z]) rfl (Kr s.a (QW s.a z) (Ub s.a z)))) dy))))))))
theorem YH(s:Sit T A V S y r)(hc:∃k a b,c'=.tup [k,a,b])(tz:Tn A y c c' t z)(hz:z∈T.map Th.n):Tst n T M dk y mo A V S c c' (.tup [.str "seen", .str t]):=by
 let o:L4.D:=.obj 5 ["term"] [.str t];let W:=wO T M dk y mo;let sp:=sJ T M dk y;obtain⟨u,hu,rfl⟩:=aG.mp hz;have dy:dIn false (.str u.n) (.lst ((wZ (Bo dk s)).map D.str))=some (.bl (u.k.pl&&y3 dk s u.n)):=by
  rw[uw];congr 2;rw[aj br,cB,bA,show (u.n∈wZ (Bo dk s))=(u.n∈Bo dk s) from propext (iN _ leS).mem_iff];unfold Bo;rw[aG];constructor
  ·rintro⟨x,hx,e⟩;rw[bI]at hx;rw[<-LA s.nd hx.1 hu e];exact hx.2
  ·exact λh=>⟨u,bI.mpr ⟨hu,h⟩,rfl⟩
 refine⟨5,["term"],[.str t],Cq,u.k.pl&&y3 dk s u.n,by kernel_rfl,by cases n<;>rfl,rfl,?_,?_⟩
 ·exact sj (ρ:=[.im o,.im W,.im (sD S),.im c]) rfl (sy (rU (ds:=[W,sD S,.str u.n]) (rS rfl (rS rfl (rS (rU (ds:=[W,sD S,c,.str t]) rfl (A4 s.a s.o tz.1)) rfl))) (Q1 s hu)))
 ·refine sj (ρ:=[.im sp,.im (atD A),.im (dcI V),.im c',.im (.tup [.str "seen", .str t]),.im (.str "seen"),.im (.str u.n)]) rfl ?_;unfold tT;refine(ev3 rfl ((rZ rfl).trans rfl) ((rZ rfl).trans rfl)).trans ((rT ((rZ rfl).trans rfl)).trans ((rT ((rZ rfl).trans rfl)).trans ((rT ((su (rU (ds:=[sp,atD A,c',.str t]) rfl (xw s.a tz.2 hc))).trans rfl)).trans ((rT ((rZ rfl).trans rfl)).trans ((rT ((rZ rfl).trans rfl)).trans (sA ((sG rfl).trans (sy (rY (x:=.str u.n) rfl (sZ (rU (ds:=[sp,atD A,dcI V]) rfl (Q4 s))) dy)))))))))
theorem at_t(s:Sit T A V S y r)(hc:∃k a b,c'=.tup [k,a,b])(tz:Tn A y c c' t z){p w:Str}(tw:Tn A y c c' p w):Tst n T M dk y mo A V S c c' (.tup [.str "at", .str t,.str p]):=by
 let o:L4.D:=.obj 3 ["term", "place"] [.str t,.str p];let W:=wO T M dk y mo;let sp:=sJ T M dk y;have hm:∀{ab:L4.D} {b:Bool},vq [sD S,.str z]=some ab->tV (c2 Dx aO bE) qe [.im o,.im W,.im (sD S),.im c,.im (.str z),.im ab]=some (.bl b,[.im o,.im W,.im (sD S),.im c,.im (.str z),.im ab])->zy [o,W,sD S,c]=some (.bl b):=λ{ab b} h1 h2=>by refine sj (ρ:=[.im o,.im W,.im (sD S),.im c,.im (.str z),.im ab]) rfl ?_;unfold BG;exact(rT ((su (rU (ds:=[W,sD S,c,.str t]) rfl (A4 s.a s.o tz.1))).trans rfl)).trans ((rT (ρ':=[.im o,.im W,.im (sD S),.im c,.im (.str z),.im ab]) ((su (rU (ds:=[sD S,.str z]) rfl h1)).trans rfl)).trans (sy h2))
 have hs:∀{b:Bool},tV (c2 ib bj ah) qc [.im sp,.im (atD A),.im (dcI V),.im c',.im (.tup [.str "at", .str t,.str p]),.im (.str "at"),.im (.str z)]=some (.bl b,[.im sp,.im (atD A),.im (dcI V),.im c',.im (.tup [.str "at", .str t,.str p]),.im (.str "at"),.im (.str z)])->uz (n+1) [sp,atD A,dcI V,c',.tup [.str "at", .str t,.str p]]=some (.bl b):=λ{b} h=>by refine sj (ρ:=[.im sp,.im (atD A),.im (dcI V),.im c',.im (.tup [.str "at", .str t,.str p]),.im (.str "at"),.im (.str z)]) rfl ?_;unfold tT;exact(ev3 rfl ((rZ rfl).trans rfl) ((rZ rfl).trans rfl)).trans ((rT ((rZ rfl).trans rfl)).trans ((rT ((rZ rfl).trans rfl)).trans ((rT ((su (rU (ds:=[sp,atD A,c',.str t]) rfl (xw s.a tz.2 hc))).trans rfl)).trans (sA ((sG rfl).trans (sy h))))))
 by_cases hz:z∈A.map aC
 ·obtain⟨q,hq,rfl⟩:=aG.mp hz;refine⟨3,["term", "place"],[.str t,.str p],zy,decide (q.2=w),by kernel_rfl,by cases n<;>rfl,rfl,hm (A0 s.a s.o (x:=q.1) (z:=q.2) hq) ?_,hs ?_⟩
  ·exact(tq rfl).trans (rY (x:=.str q.2) (y:=.str w) rfl (rU (ds:=[W,sD S,c,.str p]) rfl (A4 s.a s.o tw.1)) (vm false _ _))
  ·have hk:=A3 s.a (x:=q.1) (z:=q.2) hq;refine(tq (ρ1:=[.im sp,.im (atD A),.im (dcI V),.im c',.im (.tup [.str "at", .str t,.str p]),.im (.str "at"),.im (.str q.1)]) (rY (x:=.str q.1) (y:=atD A) rfl rfl ?_)).trans (rY (x:=.str q.2) (y:=.str w) (rY (x:=atD A) (y:=.str q.1) rfl rfl hk) (rU (ds:=[sp,atD A,c',.str p]) rfl (xw s.a tw.2 hc)) (vm false _ _));show some (D.bl (uo (A.map λq=>kS q.1) (A.map λq=>D.str q.2) (kS q.1)).isSome)=_;rw[hk];rfl
 ·refine⟨3,["term", "place"],[.str t,.str p],zy,false,by kernel_rfl,by cases n<;>rfl,rfl,hm (Ey s.o hz) (v8 rfl),hs (v8 (rY (x:=.str z) (y:=atD A) rfl rfl ?_))⟩;show some (D.bl (uo (A.map λq=>kS q.1) (A.map λq=>D.str q.2) (kS z)).isSome)=_;rw[MJ hz];rfl
end
variable{a:L4.D}
section
variable{A:List (Str×Str)}{V:List (Str×Int)}{S:List (Ky×L4.D)}{y r:Str}{T:List Th}{M:List Mk}{dk:aB}{mo c c' d:L4.D}{n:Nat}{f t z:Str}
theorem mark_none(o:Dp A V S){x:Str}(h:x∉V.map aC):vL [sD S,.str x]=some .non:=by
 refine sj (ρ:=[.im (sD S),.im (.str x)]) rfl (sy (rU (ds:=[sD S,.tup [.str "mark", .str x]]) rfl ?_));rcases CB S ("mark", x)with ⟨d,h1,h2⟩|⟨h1,h2⟩
 ·obtain⟨z',rfl,h3⟩:=o.mo x d h1;exact aq (aG.mpr ⟨_,h3,rfl⟩) h
 ·exact h2
theorem Rg(s:Sit T A V S y r)(hc:∃k a b,c'=.tup [k,a,b])(tz:Tn A y c c' t z)(v:Int):Tst n T M dk y mo A V S c c' (.tup [.str "marked", .str t,.int v]):=by
 let o:L4.D:=.obj 6 ["term", "value"] [.str t,.int v];let W:=wO T M dk y mo;let sp:=sJ T M dk y;let q4:L4.D:=.tup [.str "marked", .str t,.int v];have hm:∀{ab:L4.D} {b:Bool},vL [sD S,.str z]=some ab->tV f6 qw [.im o,.im W,.im (sD S),.im c,.im ab]=some (.bl b,[.im o,.im W,.im (sD S),.im c,.im ab])->vY [o,W,sD S,c]=some (.bl b):=λ{ab b} h1 h2=>by refine sj (ρ:=[.im o,.im W,.im (sD S),.im c,.im ab]) rfl ?_;unfold xU;exact(rT (ρ':=[.im o,.im W,.im (sD S),.im c,.im ab]) ((su (rU (ds:=[sD S,.str z]) (rS rfl (rS (rU (ds:=[W,sD S,c,.str t]) rfl (A4 s.a s.o tz.1)) rfl)) h1)).trans rfl)).trans (sy h2)
 have hs:∀{b:Bool},tV (c2 ib bj aw) rb [.im sp,.im (atD A),.im (dcI V),.im c',.im q4,.im (.str "marked"),.im (.str z)]=some (.bl b,[.im sp,.im (atD A),.im (dcI V),.im c',.im q4,.im (.str "marked"),.im (.str z)])->uz (n+1) [sp,atD A,dcI V,c',q4]=some (.bl b):=λ{b} h=>by refine sj (ρ:=[.im sp,.im (atD A),.im (dcI V),.im c',.im q4,.im (.str "marked"),.im (.str z)]) rfl ?_;unfold tT;exact(ev3 rfl ((rZ rfl).trans rfl) ((rZ rfl).trans rfl)).trans ((rT ((rZ rfl).trans rfl)).trans ((rT ((rZ rfl).trans rfl)).trans ((rT ((su (rU (ds:=[sp,atD A,c',.str t]) rfl (xw s.a tz.2 hc))).trans rfl)).trans ((rT ((rZ rfl).trans rfl)).trans ((rT ((rZ rfl).trans rfl)).trans ((rT ((rZ rfl).trans rfl)).trans (sA ((sG rfl).trans (sy h)))))))))
 by_cases hz:z∈V.map aC
 ·obtain⟨q,hq,rfl⟩:=aG.mp hz;refine⟨6,["term", "value"],[.str t,.int v],vY,decide (q.2=v),by kernel_rfl,by cases n<;>rfl,rfl,hm (IZ s.nv s.o (x:=q.1) (z:=q.2) hq) ?_,hs ?_⟩
  ·exact(tq rfl).trans (rY (x:=.int q.2) (y:=.int v) rfl rfl (vo false _ _))
  ·have hk:=LF s.nv (x:=q.1) (z:=q.2) hq;refine(tq (ρ1:=[.im sp,.im (atD A),.im (dcI V),.im c',.im q4,.im (.str "marked"),.im (.str q.1)]) (rY (x:=.str q.1) (y:=dcI V) rfl rfl ?_)).trans (rY (x:=.int q.2) (y:=.int v) (rY (x:=dcI V) (y:=.str q.1) rfl rfl hk) rfl (vo false _ _));show some (D.bl (uo (V.map λq=>kS q.1) (V.map λq=>D.int q.2) (kS q.1)).isSome)=_;rw[hk];rfl
 ·refine⟨6,["term", "value"],[.str t,.int v],vY,false,by kernel_rfl,by cases n<;>rfl,rfl,hm (mark_none s.o hz) (v8 rfl),hs (v8 (rY (x:=.str z) (y:=dcI V) rfl rfl ?_))⟩;show some (D.bl (uo (V.map λq=>kS q.1) (V.map λq=>D.int q.2) (kS z)).isSome)=_;rw[AS (λw=>hz ?_)]
  ·rfl
  ·obtain⟨q,hq,e⟩:=aG.mp w;exact aG.mpr ⟨q,hq,FV e⟩
theorem MS{u:Th}:∀{T:List Th},(T.map Th.n).Nodup->u∈T->T.filter (λt=>decide (t.n=u.n))=[u]
 |x::T,nd,h=>by
  rw[au,cc]at nd;rcases aK.mp h with rfl|h
  ·rw[List.filter_cons_of_pos (by simp),j7.mpr λa ha e=>nd.1 (aG.mpr ⟨a,ha,bo e⟩)]
  ·rw[List.filter_cons_of_neg (by intro e;exact nd.1 (aG.mpr ⟨u,h,(bo e).symm⟩)),MS nd.2 h]
theorem eqL1(a b:Str):dEq false (.lst [.str a]) (.lst [.str b])=some (.bl (decide (a=b))):=by
 have e0:CQ false (.lst [.str a]) (.lst [.str b])=none:=rfl;have e1:CS false (.lst [.str a]) (.lst [.str b])=some (.bl (L3.eqD (.lst [.str a]) (.lst [.str b]))):=rfl;unfold dEq;rw[e0];simp only;rw[e1];congr 2;by_cases h:a=b
 ·subst h;rw[Jn,aX rfl]
 ·rw[aL h];show (L3.eqD (.str a) (.str b)&&true)=false;rw[Bool.and_true];exact aL h
theorem YI(s:Sit T A V S y r)(hc:∃k a b,c'=.tup [k,a,b])(tz:Tn A y c c' t z)(hz:z∈T.map Th.n)(k:Str):Tst n T M dk y mo A V S c c' (.tup [.str "kind", .str t,.str k]):=by
 let o:L4.D:=.obj 7 ["term", "kind"] [.str t,.str k];let W:=wO T M dk y mo;let sp:=sJ T M dk y;let q4:L4.D:=.tup [.str "kind", .str t,.str k];obtain⟨u,hu,rfl⟩:=aG.mp hz;refine⟨7,["term", "kind"],[.str t,.str k],Cr,decide (u.k.s=k),by kernel_rfl,by cases n<;>rfl,rfl,?_,?_⟩
 ·refine sj (ρ:=[.im o,.im W,.im (sD S),.im c,.im (thD u)]) rfl ?_;unfold zz;exact(rT (ρ':=[.im o,.im W,.im (sD S),.im c,.im (thD u)]) ((su (tX (m:="thing_of") (ns:=wNs) (xs:=wDs T M dk y mo) (ys:=[.str u.n]) rfl rfl rfl (rS (rU (ds:=[W,sD S,c,.str t]) rfl (A4 s.a s.o tz.1)) rfl) (F8 s.nd hu))).trans rfl)).trans (sy ((tq rfl).trans (rY (x:=.str u.k.s) (y:=.str k) rfl rfl (vm false _ _))))
 ·let ρ:aZ:=[.im sp,.im (atD A),.im (dcI V),.im c',.im q4,.im (.str "kind"),.im (.str u.n)];refine sj (ρ:=ρ) rfl ?_;unfold tT;refine(ev3 rfl ((rZ rfl).trans rfl) ((rZ rfl).trans rfl)).trans ((rT ((rZ rfl).trans rfl)).trans ((rT ((rZ rfl).trans rfl)).trans ((rT ((su (rU (ds:=[sp,atD A,c',.str t]) rfl (xw s.a tz.2 hc))).trans rfl)).trans ((rT ((rZ rfl).trans rfl)).trans ((rT ((rZ rfl).trans rfl)).trans ((rT ((rZ rfl).trans rfl)).trans ((rT ((rZ rfl).trans rfl)).trans (sy (rY (x:=.lst [.str u.k.s]) (y:=.lst [.str k]) (ρ1:=ρ) (sZ ?_) rfl (eqL1 _ _))))))))));have:=v7 (k:=3) (cap:=[6]) (g:=gT fP 3) (ft:=cT (c2 av af ay)) (fe:=cV 1) (s:=iL iq) (λt:Th=>sN t.rw) (λt=>D.str t.k.s) (λt=>decide (t.n=u.n)) T (ρ:=ρ) (ρ1:=ρ) rfl (by have:=s.hT;omega) λt _=>⟨[.im (.str t.n),.im (.str t.k.s),.im (oS t.s),.im (.str u.n)],[.im (.str t.n),.im (.str t.k.s),.im (oS t.s),.im (.str u.n)],rfl,tu (rY rfl rfl (vm false t.n u.n)),λ_=>⟨_,rfl,rfl⟩,λ_=>rfl⟩
  refine this.trans ?_;rw[MS s.nd hu];rfl
theorem no_t(h:Tst n T M dk y mo A V S c c' a):Tst (n+1) T M dk y mo A V S c c' (.tup [.str "not", a]):=by
 obtain⟨k,ns,ds,hh,b,h1,h2,h3,h4,h5⟩:=h;let W:=wO T M dk y mo;let sp:=sJ T M dk y;let q4:L4.D:=.tup [.str "not", a];refine⟨9,["inner"],[.obj k ns ds],_,!b,?_,rfl,rfl,?_,?_⟩
 ·refine sj (ρ:=[.im q4,.im (.str "not")]) rfl ?_;unfold va;refine(rT rfl).trans ?_
  iterate 6 refine(sk rfl).trans ?_
  exact sA ((sG rfl).trans (sy (IC (ds:=[.obj k ns ds]) (rS (rU (ds:=[a]) rfl h1) rfl) rfl)))
 ·exact sj (ρ:=[.im (.obj 9 ["inner"] [.obj k ns ds]),.im W,.im (sD S),.im c]) rfl (sy (Re (tX (xs:=ds) (ys:=[W,sD S,c]) rfl h2 h3 rfl h4)))
 ·refine sj (ρ:=[.im sp,.im (atD A),.im (dcI V),.im c',.im q4,.im (.str "not"),.un]) rfl ?_;unfold tT;exact(rT rfl).trans (sA ((sG rfl).trans (sy (Re (rU (ds:=[sp,atD A,dcI V,c',a]) rfl h5)))))
theorem YJ{d:L4.D}(h:Tst n T M dk y mo A V S c c' a)(h':Tst n T M dk y mo A V S c c' d):Tst (n+1) T M dk y mo A V S c c' (.tup [.str "both", a,d]):=by
 obtain⟨k,ns,ds,hh,b,h1,h2,h3,h4,h5⟩:=h;obtain⟨k',ns',ds',hh',b',g1,g2,g3,g4,g5⟩:=h';let W:=wO T M dk y mo;let sp:=sJ T M dk y;let q4:L4.D:=.tup [.str "both", a,d];let o:L4.D:=.obj 10 ["one", "other"] [.obj k ns ds,.obj k' ns' ds'];refine⟨10,["one", "other"],[.obj k ns ds,.obj k' ns' ds'],_,b&&b',?_,rfl,rfl,?_,?_⟩
 ·refine sj (ρ:=[.im q4,.im (.str "both")]) rfl ?_;unfold va;refine(rT rfl).trans ?_
  iterate 7 refine(sk rfl).trans ?_
  exact sA ((sG rfl).trans (sy (IC (ds:=[.obj k ns ds,.obj k' ns' ds']) (rS (rU (ds:=[a]) rfl h1) (rS (rU (ds:=[d]) rfl g1) rfl)) rfl)))
 ·refine sj (ρ:=[.im o,.im W,.im (sD S),.im c]) rfl (sy (Rf (tX (xs:=ds) (ys:=[W,sD S,c]) rfl h2 h3 rfl h4) (tX (xs:=ds') (ys:=[W,sD S,c]) rfl g2 g3 rfl g4)))
 ·refine sj (ρ:=[.im sp,.im (atD A),.im (dcI V),.im c',.im q4,.im (.str "both"),.un]) rfl ?_;unfold tT;exact(rT rfl).trans ((sk rfl).trans (sA ((sG rfl).trans (sy (Rf (rU (ds:=[sp,atD A,dcI V,c',a]) rfl h5) (rU (ds:=[sp,atD A,dcI V,c',d]) rfl g5))))))
theorem MU(s:Sit T A V S y r)(hc:∃k a b,c'=.tup [k,a,b]):∀{n:Nat} {d:L4.D},Ak T A y c c' n d->Tst n T M dk y mo A V S c c' d:=λ{n d} ak=>by
 induction ak with
 |«at» tz tw=>exact at_t s hc tz tw
 |has tz=>exact aaB s hc tz
 |seen tz hz=>exact YH s hc tz hz
 |kind k _ tz hz=>exact YI s hc tz hz k
 |word x z h h'=>exact YG x z h h'
 |marked v tz=>exact Rg s hc tz v
 |lit=>exact aaA s
 |no _ ih=>exact no_t ih
 |both _ _ ih ih'=>exact YJ ih ih'
end
section
variable{A:List (Str×Str)}{y:Str}{T:List Th}{M:List Mk}{dk:aB}{c c' d:L4.D}{n:Nat}{t z w:Str}
def rm0(T:List Th):Str:=((T.map Th.n).filter λx=>decide (x∈nmK T λk=>decide (k=.room))).headD ""
def wt(T:List Th)(y t:Str):Str:=if t∈(["it", "other"]:aB)then y else if t="here" then rm0 T else t
def wD(T:List Th)(y:Str):L4.D->L4.D
 |.str t=>.str (wt T y t)
 |d=>d
theorem UL(g:Good T M dk):∃l,((T.map Th.n).filter λx=>decide (x∈nmK T λk=>decide (k=.room)))=rm0 T::l:=by
 have:((T.map Th.n).filter λx=>decide (x∈nmK T λk=>decide (k=.room)))≠[]:=λe=>by obtain⟨t,ht⟩:=ni (by have:=g.r1;omega:0<(T.filter λt=>decide (t.k=.room)).length);have h:=j7.mp e t.n (aG.mpr ⟨t,(bI.mp ht).1,rfl⟩);exact h (aX (aG.mpr ⟨t,ht,rfl⟩))
 unfold rm0;obtain⟨a,l,e⟩:=gm this;rw[e];exact⟨l,rfl⟩
theorem YK(g:Good T M dk):rm0 T∈T.map Th.n:=by obtain⟨l,e⟩:=UL g;exact(bI.mp (e▸aV:rm0 T∈(T.map Th.n).filter λx=>decide (x∈nmK T λk=>decide (k=.room)))).1
abbrev wRr(T:List Th)(M:List Mk)(dk:aB)(y:Str)(q:L4.D)(w:Str)(ls:List L4.D)(s:Sl):aZ:=[.im (sJ T M dk y),.im q,.im (.str w),.im (.lst ((T.map Th.n).map D.str)),.ls ls,s]
def wB:FS:=p8
theorem aaC(k:Kd):dIn false (.str k.s) (.lst [.str "room"])=some (.bl (decide (k=.room))):=by cases k<;>kernel_rfl
theorem Uk(g:Good T M dk){q:L4.D}{ls:List L4.D}(hl:ls.length<900)(hd:(∃v,d=.int v)\/∃t,d=.str t):wB (wRr T M dk y q w ls (.im d))=some (.nx (wRr T M dk y q w (ls++[wD T y d]) (.im (wD T y d)))):=by
 have fin:∀{x:L4.D} {f:FS},f (wRr T M dk y q w ls (.im d))=some (.nx (wRr T M dk y q w ls (.im x)))->rV f mh (wRr T M dk y q w ls (.im d))=some (.nx (wRr T M dk y q w (ls++[x]) (.im x))):=λ{x f} h=>(rT h).trans ((tJ (xG (es:=ls) rfl rfl rfl (by omega))).trans rfl);unfold wB;refine fin ?_;rcases hd with ⟨v,rfl⟩|⟨t,rfl⟩
 ·kernel_rfl
 ·have e1:cT (c2 ck aO ju) (wRr T M dk y q w ls (.im (.str t)))=some (decide (t∈(["it", "other"]:aB)),wRr T M dk y q w ls (.im (.str t))):=tu (rY (x:=.str t) (y:=.lst [.str "it", .str "other"]) rfl rfl (uw false t ["it", "other"]));have e2:cT (c2 av aO fU) (wRr T M dk y q w ls (.im (.str t)))=some (decide (t="here"),wRr T M dk y q w ls (.im (.str t))):=tu (rY (x:=.str t) (y:=.str "here") rfl rfl (vm false t "here"));show _=some (Out.nx (wRr T M dk y q w ls (.im (.str (wt T y t)))));unfold wt;by_cases h1:t∈(["it", "other"]:aB)
  ·rw[aX h1]at e1;rw[ai h1];exact(sG e1).trans rfl
  ·rw[aL h1]at e1;rw[aj h1];refine(rZ e1).trans ?_;by_cases h2:t="here"
   ·rw[aX h2]at e2;rw[ai h2];obtain⟨l,e⟩:=UL g;have hT:=g.len;have ec:=v7 (k:=1) (cap:=[0]) (s:=iL ay) (g:=gN 0) (ft:=cT qO)  (fe:=cV 0) (λx:Str=>D.str x) (λx=>D.str x) (λx=>decide (x∈nmK T λk=>decide (k=.room))) (T.map Th.n) (ρ:=wRr T M dk y q w ls (.im (.str t))) (ρ1:=wRr T M dk y q w ls (.im (.str t))) rfl (by rw[ag];omega) λx _=>⟨[.im (.str x),.im (sJ T M dk y)],[.im (.str x),.im (sJ T M dk y)],rfl,tu (rY (x:=.str x) rfl (sZ (rU (ds:=[sJ T M dk y,.lst [.str "room"]]) rfl (of_ok (by omega) _ aaC))) (uw false x _)),λ_=>⟨_,rfl,rfl⟩,λ_=>rfl⟩
    rw[e]at ec;exact(sG e2).trans ((su (rY (x:=.lst ((rm0 T::l).map D.str)) (y:=.int 0) (sZ ec) rfl (vc (j:=0) (l:=rm0 T::l) rfl))).trans rfl)
   ·rw[aL h2]at e2;rw[aj h2];exact(rZ e2).trans rfl
theorem HJ(g:Good T M dk){q:L4.D}:∀(ds ls:List L4.D) (s:Sl),(∀d∈ds,(∃v,d=.int v)\/∃t,d=.str t)->ls.length+ds.length<900->∃s',forL dA wB ds (wRr T M dk y q w ls s)=some (.nx (wRr T M dk y q w (ls++ds.map (wD T y)) s'))
 |[],ls,s,_,_=>⟨s,by rw[bG,bq];rfl⟩
 |d::ds,ls,s,h,hl=>by rw[aE]at hl;obtain⟨s',e⟩:=HJ g (q:=q) ds (ls++[wD T y d]) (.im (wD T y d)) (λx hx=>h x (bf _ hx)) (by rw[aA,ba];omega);refine⟨s',?_⟩;unfold forL;rw[show gN 5 d (wRr T M dk y q w ls s)=some (wRr T M dk y q w ls (.im d)) from rfl];simp only[Uk g (by omega:ls.length<900) (h d aV)];rw[e,bw];rfl
theorem aaD(h:e ρ=some (.tup ds,ρ1)):iT e ρ=some (ds,ρ1):=by unfold iT;rw[h]
abbrev wq(T:List Th)(M:List Mk)(dk:aB)(y:Str)(q:L4.D)(w:Str):aZ:=[.im (sJ T M dk y),.im q,.im (.str w),.un,.un,.un]
theorem xA(g:Good T M dk)(hd:∀d∈ds,(∃v,d=.int v)\/∃t,d=.str t)(hl:ds.length<800)(h1:dEq false (.str w) (.str "not")=some (.bl false))(h2:dEq false (.str w) (.str "both")=some (.bl false))(h3:dEq false (.str w) (.str "word")=some (.bl false))
  (h4:vw (cT (c2 av aw ic)) (cT mU) (wq T M dk y (.tup (.str w::ds)) w)=some (false,wq T M dk y (.tup (.str w::ds)) w))
  (h5:∀ls s,Qr ah (some 1) none (wRr T M dk y (.tup (.str w::ds)) w ls s)=some (.tup ds,wRr T M dk y (.tup (.str w::ds)) w ls s)):ur (n+1) [sJ T M dk y,.tup (.str w::ds)]=some (.tup (.str w::ds.map (wD T y))):=by
 let q:L4.D:=.tup (.str w::ds);have hT:=g.len;obtain⟨s',e⟩:=HJ (y:=y) (w:=w) g (q:=q) ds [.str w] .un hd (by rw[ba];omega);refine sj (ρ:=[.im (sJ T M dk y),.im q,.im (.str w),.im (.lst ((T.map Th.n).map D.str)),.im (.lst (.str w::ds.map (wD T y))),s']) rfl ?_;unfold ub;have ne:∀{x:Str},dEq false (.str w) (.str x)=some (.bl false)->cT (c2 av aw (cS x)) (wq T M dk y q w)=some (false,wq T M dk y q w):=λh=>tu (rY rfl rfl h);refine(rT (ρ':=wq T M dk y q w) ((su (rY (x:=q) (y:=.int 0) rfl rfl (Eo (j:=0) (xs:=.str w::ds) rfl))).trans rfl)).trans ((sk (ne h1)).trans ((sk (ne h2)).trans ((sk (zf (ne h3) h4)).trans ?_)));have ec:=zU (k:=1) (cap:=[]) (s:=iL iq) (g:=gN 0) (fe:=c2 dIx af bH) (λt:Th=>sN t.rw) (λt=>D.str t.n) T (ρ:=wq T M dk y q w) (ρ1:=wq T M dk y q w) rfl (by omega) λt _=>⟨_,_,rfl,rfl,rfl⟩;have em:T.map (λt=>D.str t.n)=(T.map Th.n).map D.str:=by rw[aW];rfl
 rw[em]at ec;refine(rT ((su (sZ ec)).trans rfl)).trans ((rT (ρ':=wRr T M dk y q w [.str w] .un) rfl).trans ((rT ((tW (aaD (h5 _ _))).trans e)).trans rfl))
end
section
variable{A A':List (Str×Str)}{y:Str}{T:List Th}{M:List Mk}{dk:aB}{c c' d:L4.D}{n:Nat}{t z w:Str}
abbrev wait:L4.D:=.tup [.str "wait", .non,.non]
theorem UM{t:Str}(h:t∉(["here", "it", "other"]:aB)):wt T y t=t:=by unfold wt;rw[aj λe=>h (bf _ e),aj (show ¬t="here" from λe=>h (e▸aV))]
theorem Eg(g:Good T M dk)(hy:y∈T.map Th.n)(tm:Tm A y c t z):Nm (wt T y t)/\(z∈T.map Th.n->wt T y t∈T.map Th.n):=by
 have ok:∀{x:Str},x∈T.map Th.n->Nm x/\(z∈T.map Th.n->x∈T.map Th.n):=λh=>⟨g.nm _ (bF _ h),λ_=>h⟩;cases tm with
 |it1 a=>exact ok hy
 |it2 a b=>exact ok hy
 |oth a b=>exact ok hy
 |here c h=>exact ok (YK g)
 |nm c hx=>rw[UM (LG hx)];exact⟨hx,λh=>h⟩
theorem tn{x:Str}(h:Nm x):Tn A' y .non wait x x:=⟨.nm _ h,.nm _ h⟩
theorem Ul(g:Good T M dk)(hy:y∈T.map Th.n)(ak:Ak T A y c c' n d):∃d',ur (n+1) [sJ T M dk y,d]=some d'/\∀A',Ak T A' y .non wait n d':=by
 have str1:∀{a:Str},∀d∈[D.str a],(∃v,d=.int v)\/∃t,d=.str t:=λd h=>.inr ⟨_,aP.mp h⟩;have two:∀{a:Str} {b:L4.D},((∃v,b=.int v)\/∃t,b=.str t)->∀d∈[D.str a,b],(∃v,d=.int v)\/∃t,d=.str t:=λhb d h=>by
  rcases aK.mp h with rfl|h
  ·exact .inr ⟨_,rfl⟩
  ·rw[aP.mp h];exact hb
 induction ak with
 |@«at» n t p z w tz tw=>exact⟨_,xA g (two (.inr ⟨p,rfl⟩)) (by simp) rfl rfl rfl rfl λ_ _=>rfl,λA'=>.at (tn (Eg g hy tz.1).1) (tn (Eg g hy tw.1).1)⟩
 |has tz=>exact⟨_,xA g str1 (by simp) rfl rfl rfl rfl λ_ _=>rfl,λA'=>.has (tn (Eg g hy tz.1).1)⟩
 |seen tz hz=>exact⟨_,xA g str1 (by simp) rfl rfl rfl rfl λ_ _=>rfl,λA'=>.seen (tn (Eg g hy tz.1).1) ((Eg g hy tz.1).2 hz)⟩
 |@kind n t z k hk tz hz=>refine⟨_,xA g (two (.inr ⟨k,rfl⟩)) (by simp) rfl rfl rfl rfl λ_ _=>rfl,λA'=>?_⟩;show Ak T A' y .non wait n (.tup [.str "kind", .str (wt T y t),.str (wt T y k)]);rw[UM (t:=k) (bo hk)];exact .kind k hk (tn (Eg g hy tz.1).1) ((Eg g hy tz.1).2 hz)
 |word x z h h'=>refine⟨_,sj (ρ:=[.im (sJ T M dk y),.im (.tup [.str "word", .str x]),.im (.str "word"),.un,.un,.un]) rfl ?_,λA'=>.lit⟩;unfold ub;exact(ev3 rfl ((rZ rfl).trans rfl) ((rZ rfl).trans rfl)).trans (sA ((sG (AM rfl)).trans rfl))
 |@marked n t z v tz=>
  let q:L4.D:=.tup [.str "marked", .str t,.int v];have e1:cT mU (wq T M dk y q "marked")=some (decide (t∈(["it", "other"]:aB)),wq T M dk y q "marked"):=tu (rY (x:=.str t) (y:=.lst [.str "it", .str "other"]) rfl rfl (uw false t ["it", "other"]));by_cases h:t∈(["it", "other"]:aB)
  ·rw[aX h]at e1;refine⟨_,sj (ρ:=wq T M dk y q "marked") rfl ?_,λA'=>.lit⟩;unfold ub;exact(ev3 rfl ((rZ rfl).trans rfl) ((rZ rfl).trans rfl)).trans (sA ((sG (zf (ρ1:=wq T M dk y q "marked") rfl ((vv (ρ1:=wq T M dk y q "marked") rfl).trans e1))).trans rfl))
  ·rw[aL h]at e1;exact⟨_,xA g (two (.inl ⟨v,rfl⟩)) (by simp) rfl rfl rfl ((vv (ρ1:=wq T M dk y q "marked") rfl).trans e1) λ_ _=>rfl,λA'=>.marked v (tn (Eg g hy tz.1).1)⟩
 |lit=>exact⟨_,xA (ds:=[]) g (λd h=>by cases h) (by simp) rfl rfl rfl rfl λ_ _=>rfl,λA'=>.lit⟩
 |@no n a _ ih=>obtain⟨d',h1,h2⟩:=ih;refine⟨_,sj (ρ:=wq T M dk y (.tup [.str "not", a]) "not") rfl ?_,λA'=>.no (h2 A')⟩;unfold ub;exact(rT rfl).trans (sA ((sG rfl).trans (sy (uF (rS rfl (rS (rU (ds:=[sJ T M dk y,a]) rfl h1) rfl)) (bP rfl)))))
 |@both n a b _ _ ih ih'=>obtain⟨d',h1,h2⟩:=ih;obtain⟨d2,g1,g2⟩:=ih';refine⟨_,sj (ρ:=wq T M dk y (.tup [.str "both", a,b]) "both") rfl ?_,λA'=>.both (h2 A') (g2 A')⟩;unfold ub;exact(rT rfl).trans ((sk rfl).trans (sA ((sG rfl).trans (sy (uF (rS rfl (rS (rU (ds:=[sJ T M dk y,a]) rfl h1) (rS (rU (ds:=[sJ T M dk y,b]) rfl g1) rfl))) (bP rfl))))))
end
section
variable{A:List (Str×Str)}{V:List (Str×Int)}{y:Str}{T:List Th}{M:List Mk}{dk:aB}{c c' q:L4.D}{n:Nat}
def LK:L4.D->Bool
 |.tup (.str w::_)=>!decide (w="not")&&!decide (w="both")
 |_=>false
theorem aaE(h:Ak T A y c c' n q):∃w ds,q=.tup (.str w::ds):=by cases h<;>exact⟨_,_,rfl⟩
theorem UN(h:Ak T A y c c' n q)(e:LK q=true)(m:Nat):Ak T A y c c' m q:=by
 cases h with
 |«at» tz tw=>exact .at tz tw
 |has tz=>exact .has tz
 |seen tz hz=>exact .seen tz hz
 |kind k hk tz hz=>exact .kind k hk tz hz
 |word x z h h'=>exact .word x z h h'
 |marked v tz=>exact .marked v tz
 |lit=>exact .lit
 |@no _ a _=>exact aq e (show ¬LK (.tup [.str "not", a])=true by rw[show LK (.tup [.str "not", a])=false by kernel_rfl];decide)
 |@both _ a b _ _=>exact aq e (show ¬LK (.tup [.str "both", a,b])=true by rw[show LK (.tup [.str "both", a,b])=false by kernel_rfl];decide)
structure Sd(T:List Th)(y:Str)(A:List (Str×Str))(V:List (Str×Int)):Prop where
 a:yF A y
 pn:∀q∈A,q.2∈T.map Th.n
 nv:(V.map aC).Nodup
 lv:V.length<=40
 hv:∀x∈nmK T Kd.mk,∃z,(x,z)∈V
theorem UO(g:Good T M dk)(hy:(T.filter λt=>decide (t.k=.you)).map Th.n=[y])(hi:IL es):∃A V es1 es2,IL es2/\Sd T y A V/\uP es [sJ T M dk y]=some (atD A,es1)/\vt es1 [sJ T M dk y]=some (dcI V,es2):=by
 obtain⟨A,xs1,i1,a,pn,_,pl⟩:=Oe g hy hi;obtain⟨V,xs2,i2,mk,vn,_⟩:=QO (y:=y) g i1;refine⟨A,V,xs1,xs2,i2,⟨a,pn,by rw[vn];exact ndM g,?_,λx hx=>?_⟩,pl,mk⟩
 ·have h1:=aT bU vn;have h2:=MO g;rw[ag]at h1;rw[h1];exact bK h2 (by decide)
 ·have:x∈V.map aC:=by rw[vn];exact bF _ hx
  obtain⟨q,hq,rfl⟩:=aG.mp this;exact⟨_,hq⟩
theorem Kw(b:Bool):xp [.bl b,.bl b]=some (.bl true):=by cases b<;>kernel_rfl
def iB:FS:=p5
abbrev prA(p:List (Str×Str)×List (Str×Int)):L4.D:=.tup [atD p.1,dcI p.2]
theorem Kx{q' o o' sc:L4.D}{mo:L4.D}(hc:∃k a b,c=.tup [k,a,b])(g:Good T M dk)(e1:tG 4 [q]=some o)(e2:tG 4 [q']=some o'){s3 s4 s5 s6:Sl}:∀(l:List (List (Str×Str)×List (Str×Int))) (s7 s13 s14 s15:Sl),(∀p∈l,Sd T y p.1 p.2/\Ak T p.1 y c c 3 q/\Ak T p.1 y .non wait 3 q')->
  ∃t7 t13 t14 t15,forL (gT jz 2) iB (l.map prA) [.im sc,.im (sJ T M dk y),.im (wO T M dk y mo),s3,s4,s5,s6,s7,.im c,.im q,.im q',.im o,.im o',s13,s14,s15]=some (.nx [.im sc,.im (sJ T M dk y),.im (wO T M dk y mo),s3,s4,s5,s6,t7,.im c,.im q,.im q',.im o,.im o',t13,t14,t15])
 |[],s7,s13,s14,s15,_=>⟨s7,s13,s14,s15,rfl⟩
 |(A,V)::l,s7,s13,s14,s15,h=>by
  obtain⟨sd,a1,a2⟩:=h _ aV;obtain⟨S,o1,st⟩:=Kq sd.a sd.nv sd.lv;obtain⟨r,hr⟩:=sd.a.yo;have si:Sit T A V S y r:=⟨g.ndT,g.len,g.p7,sd.a,sd.pn,sd.nv,sd.hv,o1,hr⟩;obtain⟨k,ns,ds,hh,b,t1,t2,t3,t4,t5⟩:=MU (M:=M) (dk:=dk) (mo:=mo) si hc a1;obtain⟨k',ns',ds',hh',b',u1,u2,u3,u4,u5⟩:=MU (M:=M) (dk:=dk) (mo:=mo) si ⟨_,_,_,rfl⟩ a2;cases e1.symm.trans t1;cases e2.symm.trans u1;let Q:Sl->aZ:=λs=>[.im sc,.im (sJ T M dk y),.im (wO T M dk y mo),s3,s4,s5,s6,.im (atD A),.im c,.im q,.im q',.im (.obj k ns ds),.im (.obj k' ns' ds'),.im (dcI V),.im (sD S),s];obtain⟨t7,t13,t14,t15,e⟩:=Kx (mo:=mo) (sc:=sc) hc g e1 e2 (s3:=s3) (s4:=s4) (s5:=s5) (s6:=s6) l (.im (atD A)) (.im (dcI V)) (.im (sD S)) (.im (.bl b')) λp hp=>h p (bf _ hp);refine⟨t7,t13,t14,t15,?_⟩;rw[au];unfold forL;rw[show gT jz 2 (prA (A,V)) [.im sc,.im (sJ T M dk y),.im (wO T M dk y mo),s3,s4,s5,s6,s7,.im c,.im q,.im q',.im (.obj k ns ds),.im (.obj k' ns' ds'),s13,s14,s15]=some [.im sc,.im (sJ T M dk y),.im (wO T M dk y mo),s3,s4,s5,s6,.im (atD A),.im c,.im q,.im q',.im (.obj k ns ds),.im (.obj k' ns' ds'),.im (dcI V),s14,s15] from rfl];have ev:iB [.im sc,.im (sJ T M dk y),.im (wO T M dk y mo),s3,s4,s5,s6,.im (atD A),.im c,.im q,.im q',.im (.obj k ns ds),.im (.obj k' ns' ds'),.im (dcI V),s14,s15]=some (.nx (Q (.im (.bl b')))):=by unfold iB;refine(rT (ρ':=Q s15) ((su (rU (ds:=[atD A,dcI V]) rfl st)).trans rfl)).trans ?_;refine(sk (BX (tu (rU (rS (tX (xs:=ds) (ys:=[wO T M dk y mo,sD S,c]) (ρ1:=Q s15) rfl t2 t3 rfl t4) (rS (rU (ds:=[sJ T M dk y,atD A,dcI V,c,q]) (ρ1:=Q s15) rfl t5) rfl)) (Kw b))))).trans ?_;refine(rT (ρ':=Q (.im (.bl b'))) ((su (rU (ds:=[sJ T M dk y,atD A,dcI V,wait,q']) rfl u5)).trans rfl)).trans ?_;exact(rZ (BX (tu (rU (rS (tX (xs:=ds') (ys:=[wO T M dk y mo,sD S,.non]) (ρ1:=Q (.im (.bl b'))) rfl u2 u3 rfl u4) rfl) (Kw b'))))).trans rfl
  simp only[ev];exact e
end
theorem MV(ns:List Int)(k:Nat):∃c,vZ [.fzl (ns.map D.int),.int k]=some (.int c):=by
 let ρ:aZ:=[.im (.fzl (ns.map D.int)),.im (.int k)];have ev:cT (c2 Gg ah de) ρ=some (decide ((k:Int)<((ns.map D.int).length:Nat)),ρ):=rfl;rw[ag]at ev;by_cases h:k<ns.length
 ·rw[aX (by omega)]at ev;refine⟨ns[k],sj (ρ:=ρ) rfl (sA ((sG ev).trans (sy (rY (x:=.fzl (ns.map D.int)) (y:=.int k) rfl rfl ?_))))⟩;exact Eo (by rw[bt,aN h];rfl)
 ·rw[aL (by omega)]at ev;exact⟨0,sj (ρ:=ρ) rfl ((rT ((rZ ev).trans rfl)).trans rfl)⟩
def tB:FS:=qM
def dC:FT:=vw (cT md) qj
def lB:FS:=(rV qq
 (rV (vz 5 eU)
 (rV (vB (iR1 bM) (gN 6) tB)
 (rV rj
 (rV qh
 (rV qu
 (rV (sIf dC lT sF)
 (rV qD
 (rV pX
 (vB pV (gT jz 2) iB))))))))))
theorem YL(ns:List Int)(hl:ns.length<=63):UG [.fzl (ns.map D.int)]=some (.bl true):=by
 obtain⟨c0,e0⟩:=MV ns 0;obtain⟨c1,e1⟩:=MV ns 1;obtain⟨T,M,dk,y,es,g,hy⟩:=TZ c0;have ew:=QM g hy (QQ g);have hyT:y∈T.map Th.n:=(tU T λk=>decide (k=.you)).subset (by unfold nmK;rw[hy];exact aP.mpr rfl);let sc:=D.fzl (ns.map D.int);let W:=wM T M dk y;let sp:=sJ T M dk y;let R:aZ->aZ:=λs=>.im sc::.im sp::.im W::s;have loop:∀(l:List Int) (s:aZ),s.length=13->∃s',s'.length=13/\forL dD lB (l.map D.int) (R s)=some (.nx (R s')):=by
  intro l
  induction l with
  |nil=>exact λs h=>⟨s,h,rfl⟩
  |cons c l ih=>
   intro s hs
   match s,hs with
   |[s3,s4,s5,s6,s7,s8,s9,s10,s11,s12,s13,s14,s15],_=>
   obtain⟨xs,ix,dx⟩:=Kh c 130 (by decide);obtain⟨A1,V1,x1,x2,i2,d1,p1,m1⟩:=UO g hy ix;obtain⟨A2,V2,x3,x4,i4,d2,p2,m2⟩:=UO g hy i2;obtain⟨cm,f,x5,i5,hc,ec⟩:=LJ (y:=y) g i4;have ra:∀{A V},Sd T y A V->∃r,(y,r)∈A/\r∈T.map Th.n:=λd=>d.a.yo.imp λr h=>⟨h,d.pn _ h⟩;obtain⟨q,x6,i6,k1,em⟩:=F9 (y:=y) g hc (ra d1) (n:=3) (by decide) i5;obtain⟨q',x6',_,k2,em'⟩:=F9 (y:=y) g hc (ra d2) (n:=3) (by decide) i5;cases em.symm.trans em';obtain⟨w,ewi,kw⟩:=Ul g hyT k1;obtain⟨v,x7,i7,_,_,et⟩:=ue i6 4 (by decide);let E:List L4.D->Sl->Sl->Sl->Sl->Sl->Sl->aZ:=λxs s7 s8 s9 s10 s11 s12=>R [.im (.int c),.ls xs,.ls ([(A1,V1),(A2,V2)].map prA),.im (.int 1),s7,s8,s9,s10,s11,s12,s13,s14,s15];have dbl:∃q2,(∀A,Ak T A y cm cm 3 q->Ak T A y cm cm 3 q2)/\(sIf dC lT sF:FS) (E x6 (.im (atD A2)) (.im cm) (.im q) (.im w) s11 s12)=some (.nx (E x7 (.im (atD A2)) (.im cm) (.im q2) (.im w) s11 s12)):=by
    let ρ:=E x7 (.im (atD A2)) (.im cm) (.im q) (.im w) s11 s12;obtain⟨w0,ds,rfl⟩:=aaE k1;have b1:cT md (E x6 (.im (atD A2)) (.im cm) (.im (.tup (.str w0::ds))) (.im w) s11 s12)=some (decide (v=1),ρ):=tu (rY (x:=.int v) (y:=.int 1) ((uS (es0:=x6) (es:=x6) (ds:=[.int 4]) rfl rfl rfl et).trans rfl) rfl (vo false v 1));have b2:∀x:Str,cT (c2 eA m7 (cS x)) ρ=some (!decide (w0=x),ρ):=λx=>tu (rY (x:=.str w0) (y:=.str x) (rY (x:=.tup (.str w0::ds)) (y:=.int 0) rfl rfl (Eo (j:=0) (xs:=D.str w0::ds) rfl)) rfl (vm true w0 x));have b3:dC (E x6 (.im (atD A2)) (.im cm) (.im (.tup (.str w0::ds))) (.im w) s11 s12)=some (decide (v=1)&&LK (.tup (.str w0::ds)),ρ):=by
     unfold dC;show _=some (decide (v=1)&&(!decide (w0="not")&&!decide (w0="both")),ρ);have n1:=b2 "not";cases hv:decide (v=1)with
     |false=>rw[hv]at b1;exact xy b1
     |true=>
      rw[hv]at b1;refine(vv b1).trans ?_;cases hn:!decide (w0="not")with
      |false=>rw[hn]at n1;exact xy n1
      |true=>rw[hn]at n1;exact(vv n1).trans (b2 "both")
    cases hb:decide (v=1)&&LK (.tup (.str w0::ds))with
    |false=>rw[hb]at b3;exact⟨_,λA h=>h,(rZ b3).trans rfl⟩
    |true=>rw[hb]at b3;have hf:=(Bool.and_eq_true_iff.mp hb).2;exact⟨_,λA h=>.both (UN h hf 2) (UN h hf 2),(sG b3).trans rfl⟩
   obtain⟨q2,kq,ed⟩:=dbl;have si:∀{A V},Sd T y A V->∃S r,Sit T A V S y r:=λd=>by obtain⟨S,o1,_⟩:=Kq d.a d.nv d.lv;obtain⟨r,hr⟩:=d.a.yo;exact⟨S,r,g.ndT,g.len,g.p7,d.a,d.pn,d.nv,d.hv,o1,hr⟩
   obtain⟨S,r,st⟩:=si d1;obtain⟨o1,t1⟩:∃o,tG 4 [q2]=some o:=by obtain⟨_,_,_,_,_,t,_⟩:=MU (M:=M) (dk:=dk) (mo:=dcI (moL T M)) st (Q9 hc) (kq _ k1);exact⟨_,t⟩
   obtain⟨o2,t2⟩:∃o,tG 4 [w]=some o:=by obtain⟨_,_,_,_,_,t,_⟩:=MU (M:=M) (dk:=dk) (mo:=dcI (moL T M)) st ⟨_,_,_,rfl⟩ (kw A1);exact⟨_,t⟩
   obtain⟨t7,t13,t14,t15,hin⟩:=Kx (T:=T) (M:=M) (dk:=dk) (y:=y) (sc:=sc) (mo:=dcI (moL T M)) (Q9 hc) g t1 t2 (s3:=.im (.int c)) (s4:=.ls x7) (s5:=.im (.lst ([(A1,V1),(A2,V2)].map prA))) (s6:=.im (.int 1)) [(A1,V1),(A2,V2),(A1,V1)] (.im (atD A2)) s13 s14 s15 λp hp=>by
    rcases aK.mp hp with rfl|hp
    ·exact⟨d1,kq _ k1,kw _⟩
    ·rcases aK.mp hp with rfl|hp
     ·exact⟨d2,kq _ k2,kw _⟩
     ·rw[aP.mp hp];exact⟨d1,kq _ k1,kw _⟩
   obtain⟨s2,hs2,k'⟩:=ih [.im (.int c),.ls x7,.im (.lst ([(A1,V1),(A2,V2)].map prA)),.im (.int 1),t7,.im cm,.im q2,.im w,.im o1,.im o2,t13,t14,t15] rfl;refine⟨s2,hs2,?_⟩;rw[au];unfold forL;rw[show gN 3 (.int c) (R [s3,s4,s5,s6,s7,s8,s9,s10,s11,s12,s13,s14,s15])=some (R [.im (.int c),s4,s5,s6,s7,s8,s9,s10,s11,s12,s13,s14,s15]) from rfl];have turn:∀{A V} {xa xb xc:List L4.D} {ls:List L4.D} {s6 s7:Sl},ls.length<900->uP xa [sp]=some (atD A,xb)->vt xb [sp]=some (dcI V,xc)->tB (R [.im (.int c),.ls xa,.ls ls,s6,s7,s8,s9,s10,s11,s12,s13,s14,s15])=some (.nx (R [.im (.int c),.ls xc,.ls (ls++[prA (A,V)]),s6,.im (atD A),s8,s9,s10,s11,s12,s13,s14,s15])):=λ{A V xa xb xc ls s6 s7} hl h1 h2=>by unfold tB;refine(rT (ρ':=R [.im (.int c),.ls xb,.ls ls,s6,.im (atD A),s8,s9,s10,s11,s12,s13,s14,s15]) ((su (yn (ds:=[sp]) rfl rfl h1)).trans rfl)).trans ?_;exact(tJ (xG (es:=ls) (es0:=ls) rfl (uF (rS rfl (rS (yn (ds:=[sp]) rfl rfl h2) rfl)) (bP rfl)) rfl (by omega))).trans rfl
   have ev:lB (R [.im (.int c),s4,s5,s6,s7,s8,s9,s10,s11,s12,s13,s14,s15])=some (.nx (R [.im (.int c),.ls x7,.im (.lst ([(A1,V1),(A2,V2)].map prA)),.im (.int 1),t7,.im cm,.im q2,.im w,.im o1,.im o2,t13,t14,t15])):=by
    unfold lB;refine(rT (ρ':=R [.im (.int c),.ls xs,s5,s6,s7,s8,s9,s10,s11,s12,s13,s14,s15]) ((zd (rU (rS rfl (rS rfl rfl)) dx)).trans rfl)).trans ?_;refine(rT (ρ':=R [.im (.int c),.ls xs,.ls [],s6,s7,s8,s9,s10,s11,s12,s13,s14,s15]) rfl).trans ?_;refine(rT (ρ':=E x4 (.im (atD A2)) s8 s9 s10 s11 s12) ((tW (ds:=[.int 0,.int 1]) rfl).trans ?_)).trans ?_
    ·have u1:=turn (ls:=[]) (s6:=.im (.int 0)) (s7:=s7) (by decide) p1 m1;have u2:=turn (ls:=[prA (A1,V1)]) (s6:=.im (.int 1)) (s7:=.im (atD A1)) (show 1<900 by decide) p2 m2;unfold forL;rw[show gN 6 (.int 0) (R [.im (.int c),.ls xs,.ls [],s6,s7,s8,s9,s10,s11,s12,s13,s14,s15])=some (R [.im (.int c),.ls xs,.ls [],.im (.int 0),s7,s8,s9,s10,s11,s12,s13,s14,s15]) from rfl];simp only[u1];unfold forL;rw[show gN 6 (.int 1) (R [.im (.int c),.ls x2,.ls ([]++[prA (A1,V1)]),.im (.int 0),.im (atD A1),s8,s9,s10,s11,s12,s13,s14,s15])=some (R [.im (.int c),.ls x2,.ls [prA (A1,V1)],.im (.int 1),.im (atD A1),s8,s9,s10,s11,s12,s13,s14,s15]) from rfl];simp only[u2];rfl
    refine(rT (ρ':=E x5 (.im (atD A2)) (.im cm) s9 s10 s11 s12) ((su (yn (ρ1:=E x4 (.im (atD A2)) s8 s9 s10 s11 s12) rfl rfl ec)).trans rfl)).trans ?_;refine(rT (ρ':=E x6 (.im (atD A2)) (.im cm) (.im q) s10 s11 s12) ((su (yn (ρ1:=E x5 (.im (atD A2)) (.im cm) s9 s10 s11 s12) (ds:=[sp,.str f,.int 4]) (rS rfl (rS (rU (ds:=[cm]) rfl (Uh hc)) rfl)) rfl em)).trans rfl)).trans ?_;refine(rT (ρ':=E x6 (.im (atD A2)) (.im cm) (.im q) (.im w) s11 s12) ((su (rU (ds:=[sp,q]) rfl ewi)).trans rfl)).trans ?_;refine(rT ed).trans ?_;refine(rT ((su (rU (ds:=[q2]) rfl t1)).trans rfl)).trans ?_;refine(rT ((su (rU (ds:=[w]) rfl t2)).trans rfl)).trans ?_;exact((tW (ds:=[(A1,V1),(A2,V2),(A1,V1)].map prA) rfl).trans hin)
   simp only[ev];exact k'
 let cs:List Int:=c1::(ns.drop (HT.sIx ns.length 0 (some 2))).take (HT.sIx ns.length ns.length (some 7) - HT.sIx ns.length 0 (some 2));have ec:[D.int c1]++cutD (ns.map D.int) (some 2) (some 7)=cs.map D.int:=by unfold cutD;rw[ag,<- fG,<- eM];rfl
 have hc:(cutD (ns.map D.int) (some 2) (some 7)).length<=63:=by unfold cutD;rw[bp,cb,ag];omega
 let un:aZ:=dP 13 .un;obtain⟨s',_,e⟩:=loop cs un rfl;refine sj (ρ:=R s') rfl ?_;refine(rT (ρ':=.im sc::.im sp::.un::un) ((su (rU (rS (rU (rS rfl (rS rfl rfl)) e0) rfl) es)).trans rfl)).trans ?_;refine(rT (ρ':=R un) ((su (rU (rS rfl rfl) ew)).trans rfl)).trans ?_;refine(rT ((tW (ds:=cs.map D.int) (ρ1:=R un) ?_).trans e)).trans rfl;exact(AJ (sZ (wc (xs:=[.int c1]) (ys:=cutD (ns.map D.int) (some 2) (some 7)) (sZ (Ac (rS (rU (rS rfl (rS rfl rfl)) e1) rfl) (show 1<=1000 by decide))) rfl (by show 1+_<=1000;omega)))).trans (by rw[ec])
end K22x
namespace K22x
open PySem L2 L3 L4
open PySem.W (nsIn)
structure Fx(K:ar)(C0 C1 C2 C3 C4 C5 C6 C7 C8 C9 C10 C11 C12 C13 C14 C15:Addr):Prop where
 a0:nsIn K mainGlobals "Thing" = some (some (.ref C0))
 a1:nsIn K mainGlobals "Mark" = some (some (.ref C1))
 a2:nsIn K mainGlobals "Verb" = some (some (.ref C2))
 a3:nsIn K mainGlobals "At" = some (some (.ref C3))
 a4:nsIn K mainGlobals "Has" = some (some (.ref C4))
 a5:nsIn K mainGlobals "Seen" = some (some (.ref C5))
 a6:nsIn K mainGlobals "Marked" = some (some (.ref C6))
 a7:nsIn K mainGlobals "Kind" = some (some (.ref C7))
 a8:nsIn K mainGlobals "Word" = some (some (.ref C8))
 a9:nsIn K mainGlobals "Not" = some (some (.ref C9))
 a10:nsIn K mainGlobals "Both" = some (some (.ref C10))
 a11:nsIn K mainGlobals "Move" = some (some (.ref C11))
 a12:nsIn K mainGlobals "Put" = some (some (.ref C12))
 a13:nsIn K mainGlobals "Rule" = some (some (.ref C13))
 a14:nsIn K mainGlobals "World" = some (some (.ref C14))
 a15:nsIn K mainGlobals "Lit" = some (some (.ref C15))
 k0:CF K C0 ["kind", "name", "start", "words"]
 k1:CF K C1 ["most", "name", "start"]
 k2:CF K C2 ["form", "joining", "name", "others"]
 k3:CF K C3 ["place", "term"]
 k4:CF K C4 ["term"]
 k5:CF K C5 ["term"]
 k6:CF K C6 ["term", "value"]
 k7:CF K C7 ["kind", "term"]
 k8:CF K C8 ["word"]
 k9:CF K C9 ["inner"]
 k10:CF K C10 ["one", "other"]
 k11:CF K C11 ["place", "term"]
 k12:CF K C12 ["term", "value"]
 k13:CF K C13 ["verb", "deeds", "refuses", "tests", "text"]
 k14:CF K C14 ["copied_rules", "kept_dark", "kept_things", "kept_verbs", "shared_rules", "shared_verbs", "things_by_name", "verbs_by_word", "your_name", "kept_marks", "kept_rules", "kept_ways", "mosts_by_name", "rules_by_verb"]
 k15:CF K C15 []
 i_Mark:Ew K [C0,C1,C2,C3,C4,C5,C6,C7,C8,C9,C10,C11,C12,C13,C14,C15] C1 1=true
 i_Thing:Ew K [C0,C1,C2,C3,C4,C5,C6,C7,C8,C9,C10,C11,C12,C13,C14,C15] C0 0=true
 n_Lit:cF K (.ref C15) "__init__" = some (some (.builtin "object.__init__"))
 nd:decide ([C0,C1,C2,C3,C4,C5,C6,C7,C8,C9,C10,C11,C12,C13,C14,C15]:List Addr).Nodup=true
 e:((["all", "any", "bool", "int", "isinstance", "len", "list", "range", "set", "sorted", "str", "tuple", "zip"]:aB).all λx=>match nsIn K mainGlobals x with|some none=>true|_=>false)=true
 g0:GS K "KINDS" ["room", "plain", "fixed", "box", "lamp", "you"]
 g1:GS K "KINDS_APART" ["room", "you"]
 g2:GS K "KINDS_THAT_HOLD" ["room", "box", "you"]
 g3:GS K "KINDS_WITH_MARK" ["box", "lamp"]
 g4:GC K "MOST_BESIDE" 7
 g5:GC K "MOST_IN_NAME" 8
 g6:GC K "MOST_IN_WORD" 12
 g7:GC K "MOST_MARKS" 4
 g8:GC K "MOST_OF_MARK" 3
 g9:GC K "MOST_ROOMS" 5
 g10:GC K "MOST_RULES" 20
 g11:GC K "MOST_VERBS" 6
 g12:GC K "MOST_WAYS" 10
 g13:GC K "MOST_WORDS" 4
 g14:GS K "NO_NAMES" ["it", "other", "here", "the", "a", "undo", "restart"]
 g15:GS K "NO_WORDS" ["the", "a"]
 g16:GS K "NO_WORDS_OF_ROWS" ["the", "a", "undo", "restart"]
 q17:GD K "is_small_letters" (top 6)
 q18:GD K "is_name" (top 7)
 q19:GD K "is_word" (top 8)
 q20:GD K "is_one_of" (top 10)
 q21:GD K "is_whole" (top 11)
 q22:GD K "is_list_up_to" (top 12)
 q23:GD K "own_list" (top 96)
 q24:GJ K C0 "Thing.__init__" (inClass (top 46) 0) [V.non]
 q25:GM K C1 "__init__" "Mark.__init__" (inClass (top 47) 0)
 q26:GJ K C2 "Verb.__init__" (inClass (top 48) 0) [V.non,(V.str "one"),V.non]
 q27:GM K C3 "__init__" "At.__init__" (inClass (top 28) 0)
 q28:GM K C4 "__init__" "Has.__init__" (inClass (top 29) 0)
 q29:GM K C5 "__init__" "Seen.__init__" (inClass (top 30) 0)
 q30:GM K C6 "__init__" "Marked.__init__" (inClass (top 31) 0)
 q31:GM K C7 "__init__" "Kind.__init__" (inClass (top 32) 0)
 q32:GM K C8 "__init__" "Word.__init__" (inClass (top 33) 0)
 q33:GM K C9 "__init__" "Not.__init__" (inClass (top 35) 0)
 q34:GM K C10 "__init__" "Both.__init__" (inClass (top 36) 0)
 q35:GM K C11 "__init__" "Move.__init__" (inClass (top 87) 0)
 q36:GM K C12 "__init__" "Put.__init__" (inClass (top 88) 0)
 q37:GJ K C13 "Rule.__init__" (inClass (top 95) 0) [(V.bl false)]
 q38:GM K C0 "can_hold" "Thing.can_hold" (inClass (top 46) 1)
 q39:GM K C0 "has_mark" "Thing.has_mark" (inClass (top 46) 2)
 q40:GM K C0 "is_plainly" "Thing.is_plainly" (inClass (top 46) 3)
 q41:GD K "refuse_unless" (top 61)
 q42:GD K "count_of" (top 64)
 q43:GD K "plain_ones" (top 65)
 q44:GD K "is_mark" (top 67)
 q45:GD K "check_things" (top 63)
 q46:GD K "check_marks" (top 66)
 q47:GD K "are_unlike" (top 69)
 q48:GD K "check_names" (top 68)
 q49:GD K "mark_names" (top 70)
 q50:GD K "is_start" (top 72)
 q51:GD K "comes_to_room" (top 73)
 q52:GD K "check_starts" (top 71)
 q53:GD K "are_words" (top 75)
 q54:GD K "has_all" (top 77)
 q55:GD K "is_told_apart" (top 76)
 q56:GD K "check_words_of_things" (top 74)
 q57:GD K "check_dark" (top 78)
 q58:GD K "is_way" (top 80)
 q59:GD K "check_ways" (top 79)
 q60:GD K "check_verbs" (top 81)
 q61:GD K "are_apart" (top 84)
 q62:GD K "check_vocabulary" (top 83)
 q63:GD K "check_parts" (top 62)
 q64:GD K "does" (top 119)
 q65:GD K "refuses" (top 120)
 q66:GD K "hand_rules" (top 121)
 q67:GD K "put_rules" (top 122)
 q68:GD K "lid_rules" (top 123)
 q69:GD K "flame_rules" (top 124)
 q70:GD K "way_tests" (top 126)
 q71:GD K "go_rules" (top 125)
 q72:GD K "wait_rules" (top 127)
 q73:GD K "common_rules" (top 118)
 q74:GD K "common_verbs" (top 117)
 q75:GD K "by_name" (top 131)
 q76:GD K "mosts_by_name" (top 132)
 q77:GD K "verbs_by_word" (top 133)
 q78:GD K "by_verb" (top 134)
 q79:GM K C14 "of_kind" "World.of_kind" (inClass (top 130) 3)
 q80:GM K C14 "all_verbs" "World.all_verbs" (inClass (top 130) 13)
 q81:GM K C14 "__init__" "World.__init__" (inClass (top 130) 0)
 q82:GM K C14 "you" "World.you" (inClass (top 130) 4)
 q83:GM K C14 "thing_of" "World.thing_of" (inClass (top 130) 2)
 q84:GM K C14 "is_dark" "World.is_dark" (inClass (top 130) 5)
 q85:GD K "value_of" (top 14)
 q86:GD K "at_of" (top 15)
 q87:GD K "mark_of" (top 16)
 q88:GD K "holders_of" (top 18)
 q89:GD K "room_of" (top 19)
 q90:GD K "is_shut" (top 21)
 q91:GD K "in_open" (top 20)
 q92:GD K "has" (top 22)
 q93:GD K "burns_in" (top 24)
 q94:GD K "is_lit" (top 23)
 q95:GD K "is_seen" (top 25)
 q96:GM K C14 "verb_of" "World.verb_of" (inClass (top 130) 14)
 q97:GD K "is_of_way" (top 37)
 q98:GD K "things_of" (top 38)
 q99:GD K "meant" (top 39)
 q100:GM K C3 "holds" "At.holds" (inClass (top 28) 1)
 q101:GM K C4 "holds" "Has.holds" (inClass (top 29) 1)
 q102:GM K C5 "holds" "Seen.holds" (inClass (top 30) 1)
 q103:GM K C6 "holds" "Marked.holds" (inClass (top 31) 1)
 q104:GM K C7 "holds" "Kind.holds" (inClass (top 32) 1)
 q105:GM K C8 "holds" "Word.holds" (inClass (top 33) 1)
 q106:GM K C15 "holds" "Lit.holds" (inClass (top 34) 0)
 q107:GM K C9 "holds" "Not.holds" (inClass (top 35) 1)
 q108:GM K C10 "holds" "Both.holds" (inClass (top 36) 1)
 q109:GD K "_law_cell_at" (top 136)
 q110:GD K "_law_draws" (top 137)
 q111:GD K "_law_take" (top 138)
 q112:GD K "_law_names" (top 139)
 q113:GD K "_law_others" (top 140)
 q114:GD K "_law_spec" (top 141)
 q115:GD K "_law_ways" (top 142)
 q116:GD K "_law_world" (top 143)
 q117:GD K "_law_of" (top 144)
 q118:GD K "_law_mosts" (top 145)
 q119:GD K "_law_places" (top 146)
 q120:GD K "_law_marks" (top 147)
 q121:GD K "_law_stand" (top 148)
 q122:GD K "_law_holders" (top 149)
 q123:GD K "_law_in_open" (top 150)
 q124:GD K "_law_lit" (top 151)
 q125:GD K "_law_seen" (top 152)
 q126:GD K "_law_command" (top 153)
 q127:GD K "_law_form" (top 154)
 q128:GD K "_law_term" (top 155)
 q129:GD K "_law_place" (top 156)
 q130:GD K "_law_marked" (top 157)
 q131:GD K "_law_asked" (top 158)
 q132:GD K "_law_test" (top 159)
 q133:GD K "_law_meant" (top 160)
 q134:GD K "_law_so" (top 161)
 q135:GD K "_law_truth" (top 162)
 q136:GD K "_law_wish" (top 163)
 q137:GD K "law" (top 164)
class Yx(B:Bz):Prop where
 y:Yw B.P B.w B.mg B.base B.G
 f:Fx B.G.K (B.G.ca 0) (B.G.ca 1) (B.G.ca 2) (B.G.ca 3) (B.G.ca 4) (B.G.ca 5) (B.G.ca 6) (B.G.ca 7) (B.G.ca 8) (B.G.ca 9) (B.G.ca 10) (B.G.ca 11) (B.G.ca 12) (B.G.ca 13) (B.G.ca 14) (B.G.ca 15)
section
variable{B:Bz}[Y:Yx B]
instance:Yb B:=⟨Y.y⟩
instance:Nb B "all" := ⟨Y.y.n Y.f.e 0 rfl⟩
instance:Nb B "any" := ⟨Y.y.n Y.f.e 1 rfl⟩
instance:Nb B "bool" := ⟨Y.y.n Y.f.e 2 rfl⟩
instance:Nb B "int" := ⟨Y.y.n Y.f.e 3 rfl⟩
instance:Nb B "isinstance" := ⟨Y.y.n Y.f.e 4 rfl⟩
instance:Nb B "len" := ⟨Y.y.n Y.f.e 5 rfl⟩
instance:Nb B "list" := ⟨Y.y.n Y.f.e 6 rfl⟩
instance:Nb B "range" := ⟨Y.y.n Y.f.e 7 rfl⟩
instance:Nb B "set" := ⟨Y.y.n Y.f.e 8 rfl⟩
instance:Nb B "sorted" := ⟨Y.y.n Y.f.e 9 rfl⟩
instance:Nb B "str" := ⟨Y.y.n Y.f.e 10 rfl⟩
instance:Nb B "tuple" := ⟨Y.y.n Y.f.e 11 rfl⟩
instance:Nb B "zip" := ⟨Y.y.n Y.f.e 12 rfl⟩
instance:Co B "KINDS" IJ:=⟨Y.y.cs Y.f.g0⟩
instance:Co B "KINDS_APART" Bh:=⟨Y.y.cs Y.f.g1⟩
instance:Co B "KINDS_THAT_HOLD" yg:=⟨Y.y.cs Y.f.g2⟩
instance:Co B "KINDS_WITH_MARK" yh:=⟨Y.y.cs Y.f.g3⟩
instance:Co B "MOST_BESIDE" Bi:=⟨Y.y.ci Y.f.g4⟩
instance:Co B "MOST_IN_NAME" Am:=⟨Y.y.ci Y.f.g5⟩
instance:Co B "MOST_IN_WORD" An:=⟨Y.y.ci Y.f.g6⟩
instance:Co B "MOST_MARKS" w6:=⟨Y.y.ci Y.f.g7⟩
instance:Co B "MOST_OF_MARK" Ao:=⟨Y.y.ci Y.f.g8⟩
instance:Co B "MOST_ROOMS" B7:=⟨Y.y.ci Y.f.g9⟩
instance:Co B "MOST_RULES" B9:=⟨Y.y.ci Y.f.g10⟩
instance:Co B "MOST_VERBS" B8:=⟨Y.y.ci Y.f.g11⟩
instance:Co B "MOST_WAYS" DH:=⟨Y.y.ci Y.f.g12⟩
instance:Co B "MOST_WORDS" zp:=⟨Y.y.ci Y.f.g13⟩
instance:Co B "NO_NAMES" Ft:=⟨Y.y.cs Y.f.g14⟩
instance:Co B "NO_WORDS" Fu:=⟨Y.y.cs Y.f.g15⟩
instance:Co B "NO_WORDS_OF_ROWS" xI:=⟨Y.y.cs Y.f.g16⟩
instance:Ff B yN "copied_rules" := ⟨wA (Y.f.k14.at 0 rfl)⟩
instance:Ff B J4 "form" := ⟨wA (Y.f.k2.at 0 rfl)⟩
instance:Ff B Hf "inner" := ⟨wA (Y.f.k9.at 0 rfl)⟩
instance:Ff B DG "joining" := ⟨wA (Y.f.k2.at 1 rfl)⟩
instance:Ff B Be "kept_dark" := ⟨wA (Y.f.k14.at 1 rfl)⟩
instance:Ff B zL "kept_things" := ⟨wA (Y.f.k14.at 2 rfl)⟩
instance:Ff B Al "kept_verbs" := ⟨wA (Y.f.k14.at 3 rfl)⟩
instance:Ff B Fq "kind" := ⟨orQ (wA (Y.f.k0.at 0 rfl)) (Y.f.k7.at 0 rfl)⟩
instance:Ff B Fs "most" := ⟨wA (Y.f.k1.at 0 rfl)⟩
instance:Ff B B6 "name" := ⟨orQ (orQ (wA (Y.f.k0.at 1 rfl)) (Y.f.k1.at 1 rfl)) (Y.f.k2.at 2 rfl)⟩
instance:Ff B Mv "one" := ⟨wA (Y.f.k10.at 0 rfl)⟩
instance:Ff B Hg "other" := ⟨wA (Y.f.k10.at 1 rfl)⟩
instance:Ff B BB "others" := ⟨wA (Y.f.k2.at 3 rfl)⟩
instance:Ff B Hh "place" := ⟨orQ (wA (Y.f.k3.at 0 rfl)) (Y.f.k11.at 0 rfl)⟩
instance:Ff B yO "shared_rules" := ⟨wA (Y.f.k14.at 4 rfl)⟩
instance:Ff B yP "shared_verbs" := ⟨wA (Y.f.k14.at 5 rfl)⟩
instance:Ff B Dd "start" := ⟨orQ (wA (Y.f.k0.at 2 rfl)) (Y.f.k1.at 2 rfl)⟩
instance:Ff B J5 "term" := ⟨orQ (orQ (orQ (orQ (orQ (orQ (wA (Y.f.k3.at 1 rfl)) (Y.f.k4.at 0 rfl)) (Y.f.k5.at 0 rfl)) (Y.f.k6.at 0 rfl)) (Y.f.k7.at 1 rfl)) (Y.f.k11.at 1 rfl)) (Y.f.k12.at 0 rfl)⟩
instance:Ff B xH "things_by_name" := ⟨wA (Y.f.k14.at 6 rfl)⟩
instance:Ff B Hk "value" := ⟨orQ (wA (Y.f.k6.at 1 rfl)) (Y.f.k12.at 1 rfl)⟩
instance:Ff B J6 "verb" := ⟨wA (Y.f.k13.at 0 rfl)⟩
instance:Ff B yf "verbs_by_word" := ⟨wA (Y.f.k14.at 7 rfl)⟩
instance:Ff B J7 "word" := ⟨wA (Y.f.k8.at 0 rfl)⟩
instance:Ff B De "words" := ⟨wA (Y.f.k0.at 3 rfl)⟩
instance:Ff B Bf "your_name" := ⟨wA (Y.f.k14.at 8 rfl)⟩
instance:Af B 0 ["kind", "name", "start", "words"]:=⟨Y.f.k0⟩
instance:Af B 1 ["most", "name", "start"]:=⟨Y.f.k1⟩
instance:Af B 2 ["form", "joining", "name", "others"]:=⟨Y.f.k2⟩
instance:Af B 3 ["place", "term"]:=⟨Y.f.k3⟩
instance:Af B 4 ["term"]:=⟨Y.f.k4⟩
instance:Af B 5 ["term"]:=⟨Y.f.k5⟩
instance:Af B 6 ["term", "value"]:=⟨Y.f.k6⟩
instance:Af B 7 ["kind", "term"]:=⟨Y.f.k7⟩
instance:Af B 8 ["word"]:=⟨Y.f.k8⟩
instance:Af B 9 ["inner"]:=⟨Y.f.k9⟩
instance:Af B 10 ["one", "other"]:=⟨Y.f.k10⟩
instance:Af B 11 ["place", "term"]:=⟨Y.f.k11⟩
instance:Af B 12 ["term", "value"]:=⟨Y.f.k12⟩
instance:Af B 13 ["verb", "deeds", "refuses", "tests", "text"]:=⟨Y.f.k13⟩
instance:Af B 14 ["copied_rules", "kept_dark", "kept_things", "kept_verbs", "shared_rules", "shared_verbs", "things_by_name", "verbs_by_word", "your_name", "kept_marks", "kept_rules", "kept_ways", "mosts_by_name", "rules_by_verb"]:=⟨Y.f.k14⟩
instance:Ic B "Mark" Qv:=⟨1,He Y.f.i_Mark rfl (Tx 16 _) (N3.at ⟨Y.f.k0.ci,Y.f.k1.ci,Y.f.k2.ci,Y.f.k3.ci,Y.f.k4.ci,Y.f.k5.ci,Y.f.k6.ci,Y.f.k7.ci,Y.f.k8.ci,Y.f.k9.ci,Y.f.k10.ci,Y.f.k11.ci,Y.f.k12.ci,Y.f.k13.ci,Y.f.k14.ci,Y.f.k15.ci,trivial⟩),Y.y.g Y.f.a1⟩
instance:Ic B "Thing" Mw:=⟨0,He Y.f.i_Thing rfl (Tx 16 _) (N3.at ⟨Y.f.k0.ci,Y.f.k1.ci,Y.f.k2.ci,Y.f.k3.ci,Y.f.k4.ci,Y.f.k5.ci,Y.f.k6.ci,Y.f.k7.ci,Y.f.k8.ci,Y.f.k9.ci,Y.f.k10.ci,Y.f.k11.ci,Y.f.k12.ci,Y.f.k13.ci,Y.f.k14.ci,Y.f.k15.ci,trivial⟩),Y.y.g Y.f.a0⟩
instance:K0f B "Lit" 15:=⟨⟨Y.f.k15.mks,Y.f.n_Lit,Y.f.k15.kp⟩,Y.y.g Y.f.a15⟩
instance:Ij B 16:=⟨injR Y.f.nd⟩
local macro_rules|`(tactic|trivial)=>do let x:=("aaj Z7 Z6 Z8 Z9 Qo aad WV XC aaa WT XI XB WC WD XD XF Xx WZ Xq W2 XJ WK WL WM WN WH XG aae XM WI WX XO XR XE X4 WW WU WS WB W9 Xa aab XT WQ WR X6 X7 WO aaf aag Xg WE WG Xh WJ X0 X2 X1 X3 XQ XS XU aac W0 W1 XW XX Xi W3 W4 Yi Xm Xn Xo Xp XY XZ Tv Tu Tw Xr Xs Xt Xu W8 Xv Xb Xc Xd Xe Xf Yg Xl Xk Xj WY Xz XA Tt XN Yn Yl Yo Ym Yk W7 Yh W5 W6 X8 X9 Ya Yc Ts X5 XH".splitOn " ").toArray.map fun s=>Lean.mkIdent (.mkSimple s);`(tactic|repeat' first|(with_reducible apply eqI);(first|rfl|kernel_rfl)|((with_reducible first|apply Xy|apply zr_cpM);rotate_left 7;rfl)|(with_reducible first $[|apply $x]*)|(with_reducible intro _)|exact pB)
instance:Df B 1 "is_small_letters" (spF B.G vH):=gF4 rfl Y.f.q17 rfl (by unfold xJ;trivial)
instance:Df B 2 "is_name" (spF B.G AV):=gF4 rfl Y.f.q18 rfl (by unfold Hl;trivial)
instance:Df B 2 "is_word" (spF B.G vK):=gF4 rfl Y.f.q19 rfl (by unfold Hm;trivial)
instance:Df B 1 "is_one_of" (spF B.G tM):=gF4 rfl Y.f.q20 rfl (by unfold DI;trivial)
instance:Df B 1 "is_whole" (spF B.G BC):=gF4 rfl Y.f.q21 rfl (by unfold Fv;trivial)
instance:Df B 1 "is_list_up_to" (spF B.G ui):=gF4 rfl Y.f.q22 rfl (by unfold zM;trivial)
instance:Df B 1 "own_list" (spF B.G BD):=gF4 rfl Y.f.q23 rfl (by unfold Fw;trivial)
instance:Kf B 1 "Thing" 0 Cb []:=gJ4 (dds:=[D.non]) Y.f.k0 Y.f.a0 rfl Y.f.q24 rfl rfl (by unfold Ca;trivial) 1
instance:Kf B 1 "Mark" 1 DK []:=gI4 Y.f.k1 Y.f.a1 rfl Y.f.q25 rfl rfl (by unfold DJ;trivial)
theorem zI:Bdz B (nmO (inClass (top 48) 0)) "Verb.__init__" (inClass (top 48) 0) (tp (inClass (top 48) 0)) 0 Ap:=by
 unfold Ap;refine Qo ?_ ?_
 all_goals trivial
instance:Kf B 1 "Verb" 2 uZ [D.non,(D.str "one"),D.non]:=gJ4 (dds:=[D.non,(D.str "one"),D.non]) Y.f.k2 Y.f.a2 rfl Y.f.q26 rfl rfl zI 0
instance:Kf B 1 "Verb" 2 uZ [D.non]:=gJ4 (dds:=[D.non,(D.str "one"),D.non]) Y.f.k2 Y.f.a2 rfl Y.f.q26 rfl rfl zI 2
instance:Kf B 1 "Verb" 2 uZ []:=gJ4 (dds:=[D.non,(D.str "one"),D.non]) Y.f.k2 Y.f.a2 rfl Y.f.q26 rfl rfl zI 3
instance:Kf B 1 "At" 3 AW []:=gI4 Y.f.k3 Y.f.a3 rfl Y.f.q27 rfl rfl (by unfold Hn;trivial)
instance:Kf B 1 "Has" 4 zq []:=gI4 Y.f.k4 Y.f.a4 rfl Y.f.q28 rfl rfl (by unfold Fy;trivial)
instance:Kf B 1 "Seen" 5 DM []:=gI4 Y.f.k5 Y.f.a5 rfl Y.f.q29 rfl rfl (by unfold DL;trivial)
instance:Kf B 1 "Marked" 6 ua []:=gI4 Y.f.k6 Y.f.a6 rfl Y.f.q30 rfl rfl (by unfold Bj;trivial)
instance:Kf B 1 "Kind" 7 uD []:=gI4 Y.f.k7 Y.f.a7 rfl Y.f.q31 rfl rfl (by unfold DN;trivial)
instance:Kf B 1 "Word" 8 Aq []:=gI4 Y.f.k8 Y.f.a8 rfl Y.f.q32 rfl rfl (by unfold DO;trivial)
instance:Kf B 1 "Not" 9 uG []:=gI4 Y.f.k9 Y.f.a9 rfl Y.f.q33 rfl rfl (by unfold FB;trivial)
instance:Kf B 1 "Both" 10 DQ []:=gI4 Y.f.k10 Y.f.a10 rfl Y.f.q34 rfl rfl (by unfold DP;trivial)
instance:Kf B 1 "Move" 11 wC []:=gI4 Y.f.k11 Y.f.a11 rfl Y.f.q35 rfl rfl (by unfold DR;trivial)
instance:Kf B 1 "Put" 12 xK []:=gI4 Y.f.k12 Y.f.a12 rfl Y.f.q36 rfl rfl (by unfold FC;trivial)
instance:Kf B 2 "Rule" 13 Ar []:=gJ4 (dds:=[(D.bl false)]) Y.f.k13 Y.f.a13 rfl Y.f.q37 rfl rfl (by unfold DS;trivial) 1
instance:Mf B 9 "can_hold" xM:=⟨λc h e=>by
 unfold xM at e;split at e
 ·cases e;exact hF4 (k:=8) Y.f.k0 rfl Y.f.q38 rfl (by unfold yQ;trivial)
 ·cases e⟩
instance:Mf B 9 "has_mark" vU:=⟨λc h e=>by
 unfold vU at e;split at e
 ·cases e;exact hF4 (k:=8) Y.f.k0 rfl Y.f.q39 rfl (by unfold yS;trivial)
 ·cases e⟩
instance:Mf B 9 "is_plainly" vp:=⟨λc h e=>by
 unfold vp at e;split at e
 ·cases e;exact hF4 (k:=8) Y.f.k0 rfl Y.f.q40 rfl (by unfold xN;trivial)
 ·cases e⟩
instance:Df B 1 "refuse_unless" (spF B.G sr):=gF4 rfl Y.f.q41 rfl (by unfold zN;trivial)
instance:Df B 1 "count_of" (spF B.G zr):=gF4 rfl Y.f.q42 rfl (by unfold FD;trivial)
instance:Df B 10 "plain_ones" (spN B.G w9):=gN4 rfl Y.f.q43 rfl (by unfold Cc;trivial)
instance:Df B 2 "is_mark" (spF B.G Dh):=gF4 rfl Y.f.q44 rfl (by unfold Dg;trivial)
instance:Df B 11 "check_things" (spF B.G xQ):=gF4 rfl Y.f.q45 rfl (by unfold xP;trivial)
instance:Df B 3 "check_marks" (spF B.G yu):=gF4 rfl Y.f.q46 rfl (by unfold yt;trivial)
instance:Df B 1 "are_unlike" (spF B.G tY):=gF4 rfl Y.f.q47 rfl (by unfold Cd;trivial)
instance:Df B 3 "check_names" (spF B.G yx):=gF4 rfl Y.f.q48 rfl (by unfold yw;trivial)
instance:Df B 10 "mark_names" (spN B.G xf):=gN4 rfl Y.f.q49 rfl (by unfold Ce;trivial)
instance:Df B 10 "is_start" (spF B.G BF):=gF4 rfl Y.f.q50 rfl (by unfold BE;trivial)
instance:Df B 1 "comes_to_room" (spF B.G wN):=gF4 rfl Y.f.q51 rfl (by unfold zO;trivial)
instance:Df B 11 "check_starts" (spF B.G xS):=gF5 ["things", "starts", "thing"] rfl Y.f.q52 rfl (by unfold xR;trivial)
instance:Df B 3 "are_words" (spF B.G Au):=gF4 rfl Y.f.q53 rfl (by unfold As;trivial)
instance:Df B 1 "has_all" (spF B.G AX):=gF4 rfl Y.f.q54 rfl (by unfold Ho;trivial)
instance:Df B 2 "is_told_apart" (spF B.G wU):=gF4 rfl Y.f.q55 rfl (by unfold wQ;trivial)
instance:Df B 11 "check_words_of_things" (spF B.G uy):=gF4 rfl Y.f.q56 rfl (by unfold ux;trivial)
instance:Df B 2 "check_dark" (spF B.G zu):=gF4 rfl Y.f.q57 rfl (by unfold zt;trivial)
instance:Df B 3 "is_way" (spF B.G FI):=gF4 rfl Y.f.q58 rfl (by unfold FH;trivial)
instance:Df B 4 "check_ways" (spF B.G xg):=gF4 rfl Y.f.q59 rfl (by unfold zv;trivial)
instance:Df B 2 "check_verbs" (spF B.G yy):=gF4 rfl Y.f.q60 rfl (by unfold Bk;trivial)
instance:Df B 1 "are_apart" (spF B.G wF):=gF4 rfl Y.f.q61 rfl (by unfold DT;trivial)
instance:Df B 11 "check_vocabulary" (spF B.G uH):=gF4 rfl Y.f.q62 rfl (by unfold vJ;trivial)
instance:Df B 12 "check_parts" (spF B.G yA):=gF4 rfl Y.f.q63 rfl (by unfold yz;trivial)
instance:Df B 4 "does" (spF B.G yB):=gF4 rfl Y.f.q64 rfl (by unfold Qw;trivial)
instance:Df B 4 "refuses" (spF B.G tK):=gF4 rfl Y.f.q65 rfl (by unfold Hr;trivial)
instance:Df B 5 "hand_rules" (spN B.G Cg):=gN4 rfl Y.f.q66 rfl (by unfold Cf;trivial)
instance:Df B 5 "put_rules" (spN B.G DV):=gN4 rfl Y.f.q67 rfl (by unfold DU;trivial)
instance:Df B 5 "lid_rules" (spN B.G DX):=gN4 rfl Y.f.q68 rfl (by unfold DW;trivial)
instance:Df B 5 "flame_rules" (spN B.G Bm):=gN4 rfl Y.f.q69 rfl (by unfold Bl;trivial)
instance:Df B 3 "way_tests" (spN B.G DZ):=gN4 rfl Y.f.q70 rfl (by unfold DY;trivial)
instance:Df B 5 "go_rules" (spN B.G FK):=gN4 rfl Y.f.q71 rfl (by unfold FJ;trivial)
instance:Df B 5 "wait_rules" (spN B.G Cj):=gN4 rfl Y.f.q72 rfl (by unfold Ci;trivial)
instance:Df B 6 "common_rules" (spN B.G u0):=gN4 rfl Y.f.q73 rfl (by unfold Av;trivial)
instance:Df B 3 "common_verbs" (spN B.G u6):=gN4 rfl Y.f.q74 rfl (by unfold Aw;trivial)
instance:Df B 1 "by_name" (spF B.G Dk):=gF4 rfl Y.f.q75 rfl (by unfold Di;trivial)
instance:Df B 10 "mosts_by_name" (spF B.G uL):=gF4 rfl Y.f.q76 rfl (by unfold wV;trivial)
instance:Df B 1 "verbs_by_word" (spF B.G uM):=gF4 rfl Y.f.q77 rfl (by unfold zP;trivial)
instance:Df B 1 "by_verb" (spF B.G yU):=gF4 rfl Y.f.q78 rfl (by unfold Ht;refine⟨NS (stW (by kernel_rfl) EM rfl) (Ov pB rfl (Jw (Jo B.G.K (KW (pvI (by kernel_rfl))))) (pgI (by kernel_rfl)) (HN (LM (OV B.G.K fC kx oF CH (PY (pvI (by kernel_rfl)) (O8 (KW (pvI (by kernel_rfl))) (Ff.p (B:=B))) (OE xD) ⟨rfl,rfl,rfl,rfl⟩) (uj (pvI (by kernel_rfl)) xD))))) (KA (PE.ghost (pvI (by kernel_rfl))))⟩)
instance:Mf B 9 "of_kind" uN:=⟨λc h e=>by
 unfold uN at e;split at e
 ·cases e;exact hF4 (k:=8) Y.f.k14 rfl Y.f.q79 rfl (by unfold zQ;trivial)
 ·cases e⟩
instance:Mf B 9 "all_verbs" wX:=⟨λc h e=>by
 unfold wX at e;split at e
 ·cases e;exact hF4 (k:=8) Y.f.k14 rfl Y.f.q80 rfl (by unfold yi;trivial)
 ·cases e⟩
instance:Kf B 13 "World" 14 vX []:=gI4 Y.f.k14 Y.f.a14 rfl Y.f.q81 rfl rfl (by unfold vW;trivial)
instance:Mf B 9 "you" Dl:=⟨λc h e=>by
 unfold Dl at e;split at e
 ·cases e;exact hF4 (k:=8) Y.f.k14 rfl Y.f.q82 rfl (by unfold D1;trivial)
 ·cases e⟩
instance:Mf B 9 "thing_of" u7:=⟨λc h e=>by
 unfold u7 at e;split at e
 ·cases e;exact hF4 (k:=8) Y.f.k14 rfl Y.f.q83 rfl (by unfold yV;trivial)
 ·cases e⟩
instance:Mf B 9 "is_dark" wm:=⟨λc h e=>by
 unfold wm at e;split at e
 ·cases e;exact hF4 (k:=8) Y.f.k14 rfl Y.f.q84 rfl (by unfold zR;trivial)
 ·cases e⟩
instance:Df B 1 "value_of" (spF B.G xT):=gF4 rfl Y.f.q85 rfl (by unfold FL;trivial)
instance:Df B 2 "at_of" (spF B.G vq):=gF4 rfl Y.f.q86 rfl (by unfold Mx;trivial)
instance:Df B 2 "mark_of" (spF B.G vL):=gF4 rfl Y.f.q87 rfl (by unfold Hu;trivial)
instance:Df B 3 "holders_of" (spN B.G zw):=gN4 rfl Y.f.q88 rfl (by unfold Ck;trivial)
instance:Df B 10 "room_of" (spF B.G yX):=gF4 rfl Y.f.q89 rfl (by unfold Hv;trivial)
instance:Df B 10 "is_shut" (spF B.G xu):=gF4 rfl Y.f.q90 rfl (by unfold Hw;trivial)
instance:Df B 11 "in_open" (spF B.G vM):=gF4 rfl Y.f.q91 rfl (by unfold Hy;trivial)
instance:Df B 10 "has" (spF B.G UF):=gF4 rfl Y.f.q92 rfl (by unfold UE;trivial)
instance:Df B 12 "burns_in" (spF B.G zx):=gF4 rfl Y.f.q93 rfl (by unfold FM;trivial)
instance:Df B 13 "is_lit" (spF B.G Cn):=gF4 rfl Y.f.q94 rfl (by unfold J8;trivial)
instance:Df B 14 "is_seen" (spF B.G Dm):=gF4 rfl Y.f.q95 rfl (by unfold Hz;trivial)
instance:Mf B 9 "verb_of" yC:=⟨λc h e=>by
 unfold yC at e;split at e
 ·cases e;exact hF4 (k:=8) Y.f.k14 rfl Y.f.q96 rfl (by unfold zT;trivial)
 ·cases e⟩
instance:Df B 10 "is_of_way" (spF B.G Ax):=gF4 rfl Y.f.q97 rfl (by unfold D3;trivial)
instance:Df B 11 "things_of" (spF B.G vO):=gF4 rfl Y.f.q98 rfl (by unfold D4;trivial)
instance:Df B 12 "meant" (spF B.G yj):=gF4 rfl Y.f.q99 rfl (by unfold AY;trivial)
instance:Mf B 16 "holds" (tf 0):=⟨λc h e=>by
 unfold tf zA at e;split at e
 ·cases e;exact hF4 (k:=15) Y.f.k3 rfl Y.f.q100 rfl (by unfold BG;trivial)
 ·cases e;exact hF4 (k:=15) Y.f.k4 rfl Y.f.q101 rfl (by unfold D5;trivial)
 ·cases e;exact hF4 (k:=15) Y.f.k5 rfl Y.f.q102 rfl (by unfold Cp;trivial)
 ·cases e;exact hF4 (k:=15) Y.f.k6 rfl Y.f.q103 rfl (by unfold xU;trivial)
 ·cases e;exact hF4 (k:=15) Y.f.k7 rfl Y.f.q104 rfl (by unfold zz;trivial)
 ·cases e;exact hF4 (k:=15) Y.f.k8 rfl Y.f.q105 rfl (by unfold Cs;trivial)
 ·cases e;exact hF4 (k:=15) Y.f.k15 rfl Y.f.q106 rfl (by unfold D7;trivial)
 ·cases e⟩
instance:Mf B 17 "holds" (tf 1):=⟨λc h e=>by
 unfold tf at e;split at e
 ·cases e;exact hF4 (k:=16) Y.f.k9 rfl Y.f.q107 rfl (by unfold yk;trivial)
 ·cases e;exact hF4 (k:=16) Y.f.k10 rfl Y.f.q108 rfl (by unfold xh;trivial)
 ·exact(Mf.p (B:=B) (g:=tf 0) c h e).mono rfl⟩
instance:Mf B 18 "holds" (tf 2):=⟨λc h e=>by
 unfold tf at e;split at e
 ·cases e;exact hF4 (k:=17) Y.f.k9 rfl Y.f.q107 rfl (by unfold yk;trivial)
 ·cases e;exact hF4 (k:=17) Y.f.k10 rfl Y.f.q108 rfl (by unfold xh;trivial)
 ·exact(Mf.p (B:=B) (g:=tf 0) c h e).mono rfl⟩
instance:Mf B 19 "holds" (tf 3):=⟨λc h e=>by
 unfold tf at e;split at e
 ·cases e;exact hF4 (k:=18) Y.f.k9 rfl Y.f.q107 rfl (by unfold yk;trivial)
 ·cases e;exact hF4 (k:=18) Y.f.k10 rfl Y.f.q108 rfl (by unfold xh;trivial)
 ·exact(Mf.p (B:=B) (g:=tf 0) c h e).mono rfl⟩
instance:Df B 1 "_law_cell_at" (spF B.G vZ):=gF4 rfl Y.f.q109 rfl (by unfold Ay;trivial)
instance:Df B 1 "_law_draws" (spN B.G xi):=gN4 rfl Y.f.q110 rfl (by unfold Cu;trivial)
instance:Df B 1 "_law_take" (spM B.G rX):=gM4 rfl Y.f.q111 rfl rfl (by unfold D9;trivial)
instance:Df B 2 "_law_names" (spM B.G zC):=gM4 rfl Y.f.q112 rfl rfl (by unfold zB;trivial)
instance:Df B 2 "_law_others" (spL B.G uO):=gL4 rfl Y.f.q113 rfl (by unfold wo;trivial)
instance:Df B 3 "_law_spec" (spF B.G AB):=gF4 rfl Y.f.q114 rfl (by unfold AA;trivial)
instance:Df B 1 "_law_ways" (spN B.G AD):=gN4 rfl Y.f.q115 rfl (by unfold AC;trivial)
instance:Df B 15 "_law_world" (spF B.G zE):=gF4 rfl Y.f.q116 rfl (by unfold zD;trivial)
instance:Df B 1 "_law_of" (spN B.G tS):=gN4 rfl Y.f.q117 rfl (by unfold HA;trivial)
instance:Df B 2 "_law_mosts" (spF B.G xj):=gF4 rfl Y.f.q118 rfl (by unfold zF;trivial)
instance:Df B 2 "_law_places" (spL B.G uP):=gL4 rfl Y.f.q119 rfl (by unfold wu;trivial)
instance:Df B 3 "_law_marks" (spL B.G vt):=gL4 rfl Y.f.q120 rfl (by unfold xk;trivial)
instance:Df B 1 "_law_stand" (spF B.G zG):=gF4 rfl Y.f.q121 rfl (by unfold Cv;trivial)
instance:Df B 1 "_law_holders" (spN B.G u9):=gN4 rfl Y.f.q122 rfl (by unfold AE;trivial)
instance:Df B 2 "_law_in_open" (spF B.G tD):=gF4 rfl Y.f.q123 rfl (by unfold AF;trivial)
instance:Df B 3 "_law_lit" (spF B.G zH):=gF4 rfl Y.f.q124 rfl (by unfold FN;trivial)
instance:Df B 4 "_law_seen" (spN B.G AG):=gN4 rfl Y.f.q125 rfl (by unfold Ea;trivial)
instance:Df B 2 "_law_command" (spL B.G v5):=gL4 rfl Y.f.q126 rfl (by unfold v3;trivial)
instance:Df B 1 "_law_form" (spF B.G AH):=gF4 rfl Y.f.q127 rfl (by unfold Eb;trivial)
instance:Df B 2 "_law_term" (spL B.G wH):=gL4 rfl Y.f.q128 rfl (by unfold wG;trivial)
instance:Df B 2 "_law_place" (spL B.G xm):=gL4 rfl Y.f.q129 rfl (by unfold xl;trivial)
instance:Df B 3 "_law_marked" (spL B.G wy):=gL4 rfl Y.f.q130 rfl (by unfold wx;trivial)
instance:Dj B 1 "_law_asked" 2 (sQ 0):=⟨gJ5 (k:=0) rfl (by decide) Y.f.q131 rfl (by trivial)⟩
instance:Dj B 4 "_law_asked" 2 (sQ 1):=⟨gJ5 (k:=3) rfl (by decide) Y.f.q131 rfl (by unfold tZ;trivial)⟩
instance:Dj B 5 "_law_asked" 2 (sQ 2):=⟨gJ5 (k:=4) rfl (by decide) Y.f.q131 rfl (by unfold tZ;trivial)⟩
instance:Dj B 6 "_law_asked" 2 (sQ 3):=⟨gJ5 (k:=5) rfl (by decide) Y.f.q131 rfl (by unfold tZ;trivial)⟩
instance:Dj B 7 "_law_asked" 2 (sQ 4):=⟨gJ5 (k:=6) rfl (by decide) Y.f.q131 rfl (by unfold tZ;trivial)⟩
instance:Df B 1 "_law_test" (spF B.G (tG 0)):=gF4 (k:=0) rfl Y.f.q132 rfl (by trivial)
instance:Df B 3 "_law_test" (spF B.G (tG 1)):=gF4 (k:=2) rfl Y.f.q132 rfl (by unfold va;trivial)
instance:Df B 4 "_law_test" (spF B.G (tG 2)):=gF4 (k:=3) rfl Y.f.q132 rfl (by unfold va;trivial)
instance:Df B 5 "_law_test" (spF B.G (tG 3)):=gF4 (k:=4) rfl Y.f.q132 rfl (by unfold va;trivial)
instance:Df B 6 "_law_test" (spF B.G (tG 4)):=gF4 (k:=5) rfl Y.f.q132 rfl (by unfold va;trivial)
instance:Df B 1 "_law_meant" (spF B.G xn):=gF4 rfl Y.f.q133 rfl (by unfold Cw;trivial)
instance:Df B 1 "_law_so" (spF B.G (uz 0)):=gF4 (k:=0) rfl Y.f.q134 rfl (by trivial)
instance:Df B 5 "_law_so" (spF B.G (uz 1)):=gF4 (k:=4) rfl Y.f.q134 rfl (by unfold tT;trivial)
instance:Df B 6 "_law_so" (spF B.G (uz 2)):=gF4 (k:=5) rfl Y.f.q134 rfl (by unfold tT;trivial)
instance:Df B 7 "_law_so" (spF B.G (uz 3)):=gF4 (k:=6) rfl Y.f.q134 rfl (by unfold tT;trivial)
instance:Df B 8 "_law_so" (spF B.G (uz 4)):=gF4 (k:=7) rfl Y.f.q134 rfl (by unfold tT;trivial)
instance:Df B 1 "_law_truth" (spF B.G xp):=gF4 rfl Y.f.q135 rfl (by unfold Cy;trivial)
instance:Df B 1 "_law_wish" (spF B.G (ur 0)):=gF4 (k:=0) rfl Y.f.q136 rfl (by trivial)
instance:Df B 2 "_law_wish" (spF B.G (ur 1)):=gF4 (k:=1) rfl Y.f.q136 rfl (by unfold ub;trivial)
instance:Df B 3 "_law_wish" (spF B.G (ur 2)):=gF4 (k:=2) rfl Y.f.q136 rfl (by unfold ub;trivial)
instance:Df B 4 "_law_wish" (spF B.G (ur 3)):=gF4 (k:=3) rfl Y.f.q136 rfl (by unfold ub;trivial)
instance:Df B 5 "_law_wish" (spF B.G (ur 4)):=gF4 (k:=4) rfl Y.f.q136 rfl (by unfold ub;trivial)
theorem Rh:Bdz B (nmO (top 164)) "law" (top 164) (tp (top 164)) 19 Qx:=by
 unfold Qx;refine Qo ?_ ?_
 all_goals trivial
end
end K22x
namespace K22x
open PySem L2 L3 L4
def MW(K:ar):Sp:=λvs H Q _=>∃(a:Addr) (ns:List Int),vs=[.ref a]/\SqL K H a (ns.map V.int)/\ns.length<=63/\∀H',Q (.bl true) H'
theorem HK{G:Bg}{H:Hp}:∀ns:List Int,r6 G H (ns.map D.int) (ns.map V.int)
 |[]=>sR
 |n::ns=>sP (uE n) (HK ns)
theorem Um{G:Bg}:∀vs H Q E,MW G.K vs H Q E->spF G UG vs H Q E:=λvs H Q E h=>by obtain⟨a,ns,rfl,hs,hl,k⟩:=h;refine⟨H,[.fzl (ns.map D.int)],.bl true,sq.refl _,sP (by unfold L4.Rep;exact⟨a,_,rfl,hs,HK ns⟩) sR,YL ns hl,λv H0' H' _ _ _ _ r=>?_⟩;unfold L4.Rep at r;subst r;exact k H'
theorem all_mk{l:fL}{w:aI}{K:ar}{h:Heap}{mg:Str->Option aa}{fa:Addr}(X:K.In h)(Gn:h.Ns mainGlobals mg)(hfa:mg "law" = some (.ref fa)){C0 C1 C2 C3 C4 C5 C6 C7 C8 C9 C10 C11 C12 C13 C14 C15:Addr}(F:Fx K C0 C1 C2 C3 C4 C5 C6 C7 C8 C9 C10 C11 C12 C13 C14 C15):
  ∃fd:bY,(∀(s:ae) (v:aa),fM s fd ⟨[v],[]⟩ [("_law_script", v)])/\∀base:Heap,K.In base->base.Ns mainGlobals mg->vQ l.prog w K mg base CX0 20 fa fd ["_law_script"] (MW K):=by
 have gen:∃B:Bg,B.K=K/\B.ca 0=C0/\B.ca 1=C1/\B.ca 2=C2/\B.ca 3=C3/\B.ca 4=C4/\B.ca 5=C5/\B.ca 6=C6/\B.ca 7=C7/\B.ca 8=C8/\B.ca 9=C9/\B.ca 10=C10/\B.ca 11=C11/\B.ca 12=C12/\B.ca 13=C13/\B.ca 14=C14/\B.ca 15=C15:=⟨⟨K,λc=>[C0,C1,C2,C3,C4,C5,C6,C7,C8,C9,C10,C11,C12,C13,C14,C15].getD c 0⟩,rfl,rfl,rfl,rfl,rfl,rfl,rfl,rfl,rfl,rfl,rfl,rfl,rfl,rfl,rfl,rfl,rfl⟩;obtain⟨B,rfl,rfl,rfl,rfl,rfl,rfl,rfl,rfl,rfl,rfl,rfl,rfl,rfl,rfl,rfl,rfl,rfl⟩:=gen;have Z:∀base,Yx ⟨l.prog,w,mg,base,B⟩:=λbase=>⟨⟨h,X,Gn⟩,F⟩;obtain⟨f,fd,a,FF⟩:=F.q137;have e:=hfa.symm.trans (jt X Gn a);cases e;obtain⟨oc,od,kV,doc,pm,an,cdv,ct,osl,rfl,lk,hcd⟩:=FF.ex;exact⟨_,λs v=>.of_eq rfl,λbase _ _=>(Pr rfl rfl rfl FF (okk (N:=nmO (top 164)) (ps:=["_law_script"]) (np:=1) (n:=16) (by kernel_rfl)).1 ((@Rh _ (Z base)).ok rfl _)).imp (Um (G:=B))⟩
theorem walk{l:fL}{q:aU}{loose:aB}{XP:(Str->Option aa)->Heap->Prop}{YP:aI->Heap->Prop}{d:DefRec}{K:Params->ar}(hn:l.most=some 63)(hdf:d.params.defaults=[])
  (hY:∀(w:aI) (h:Heap),YP w h->(K w.params).In h)
  (F:∀(w:aI) (mg:Str->Option aa) (fa:Addr) (h:Heap),(K w.params).In h->h.Ns mainGlobals mg->mg d.name=some (.ref fa)->
   ∃fd:bY,(∀(s:ae) (u:aa),fM s fd ⟨[u],[]⟩ [("_law_script", u)])/\∀base:Heap,(K w.params).In base->base.Ns mainGlobals mg->vQ l.prog w (K w.params) mg base CX0 20 fa fd ["_law_script"] (MW (K w.params))):
  W.WalkO q loose XP YP l.row.toRowW d [] (λf vs=>lI f vs):=
 L2.RV (n:=63) (k:=20) (x:="_law_script") (CX:=λ_=>CX0) (sp:=λw=>MW (K w.params)) hn (by decide) hdf ⟨rfl,by decide,by decide⟩ hY F (λ_ _ a ns hl _ hS=>⟨a,ns,rfl,hS,hl,λ_=>rfl⟩) λ_ _ _ _ _ z=>z
end K22x
set_option maxHeartbeats 0
open PySem PySem.W PyProof.Rows
theorem PySem.Challenge.cw_tellworld_k22_tests_in_tests_holds : PySem.Challenge.rw_tellworld_k22_tests_in_tests.Holds := by
 refine hd ?_
 k_fill
 refine K22x.walk (l:=PySem.Challenge.rw_tellworld_k22_tests_in_tests) rfl rfl (λw h Y=>Y) ?F
 case F=>
  intro w mg fa h KX G hmg;refine' K22x.all_mk KX G hmg ?Q
  case Q=>
   constructor
   all_goals first
   |k_is
   |kernel_rfl
   |exact⟨⟨⟨by k_is,by k_is,by k_is,by k_is⟩,by k_is,by k_is,by k_is,by k_is⟩,by k_is,by k_is,by kernel_rfl⟩
   |exact⟨_,by k_is⟩
   |exact⟨_,_,by k_is,⟨_,_,_,_,_,_,_,_,_,rfl,by k_is,by k_is⟩,by k_is⟩
   |exact⟨_,_,by k_is,by k_is,⟨_,_,_,_,_,_,_,_,_,rfl,by k_is,by k_is⟩,by k_is⟩
   |exact⟨_,_,_,_,by k_is,by k_is,by rfl,by rfl,by simp,by repeat' first|exact .nil|exact .cons rfl .nil|refine .cons rfl ?_⟩
   |exact⟨_,_,_,_,[_],_,by k_is,by k_is,⟨⟨_,_,_,_,_,_,_,_,_,rfl,by k_is,by k_is⟩,by k_is⟩,by k_is,by rfl,.cons (by first|rfl|exact⟨_,rfl⟩) .nil⟩
   |exact⟨_,_,_,_,[_,_,_],_,by k_is,by k_is,⟨⟨_,_,_,_,_,_,_,_,_,rfl,by k_is,by k_is⟩,by k_is⟩,by k_is,by rfl,.cons (by first|rfl|exact⟨_,rfl⟩) (.cons (by first|rfl|exact⟨_,rfl⟩) (.cons (by first|rfl|exact⟨_,rfl⟩) .nil))⟩
end
