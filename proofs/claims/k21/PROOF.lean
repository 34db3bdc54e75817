import PyProof.Rows.All
import Open.Pieces
import OpenK.KLine
import PySem.Challenge.RW_tellworld_k21_tests_hold
import Wide.All
import OpenK.AllK
import Wide.FinOn
import PyProof.EqAt
import PyProof.EqKinds
import PyProof.TupleCall
import PyProof.StrWalks
import PyProof.ConsumeWalk
import PyProof.NeKinds
import PyProof.Rows.SetFrom
import KE.KIsAll
import PyProof.WalksMore
import PyProof.TupleKey
import PyProof.DictWalks
import PyProof.Rows.ZipGen
import KE.KDictLaws
import PyProof.DictItems
import KE.KSortTup
import PyProof.TupleOfSeq
import PyProof.Rows.SortStr
import PyProof.Rows.StrInSeq3
import PyProof.TupleIter
import KE.KDictOf
import PyProof.CollectWalk
set_option compiler.extract_closed false
noncomputable section
open List renaming length_map->ah,length_append->aD,getElem?_eq_getElem->aP,map_cons->ay,length_cons->aK,mem_singleton->aR,length_singleton->aZ,mem_cons_self->aV,mem_cons_of_mem->bh,mem_map->aL,mem_cons->aN,size_toArray->ba,map_append->aX,getElem?_map->bu,length_take->bo,getElem?_eq_some_iff->bQ,mem_append_right->bL,mem_append_left->bG,append_assoc->bA,append_nil->br,mem_append->bw,map_map->aU,all_eq_true->bD,getD_eq_getElem?_getD->cp,getElem?_append_right->cA,nil_append->bH,not_mem_nil->bN,length_replicate->cb,getElem?_set->bR,getElem?_append_left->cJ,mem_filter->bO,nodup_append->bV,mem_map_of_mem->cu,mem_of_getElem?->cB,map_nil->bJ,length_drop->bX,range->bC,nodup_cons->bY,length->bS,mem_range->cv,getElem?_drop->cU,zip_cons_cons->c8,length_nil->cO,zipWith_cons_cons->eh,length_filter_le->eA,getElem?_replicate->eZ,filter_cons->c9,getElem_mem->dA,lookup_cons->dD,find?_cons->dE,length_set->dF,countP_eq_length_filter->gW,zipWith->cY,lookup->cP,all_cons->dg,replicate->dH,exists_cons_of_ne_nil->gY,getElem?_eq_none->fT,length_zip->eJ,any_cons->dJ,any_eq_true->fo,getElem?_cons_succ->hJ,getElem?_set_self->hU,map_take->eK,length_range->f6,drop_eq_getElem_cons->jj,mergeSort_perm->hZ,map_drop->fz,take_sublist->ib,nodup_nil->gd,getElem?_zipWith->jm,getElem?_set_ne->jn,mem_iff_getElem->jo,mem_of_mem_drop->jr,of_mem_zip->iu,filter_nil->iw,filterMap_cons->jt,length_zipWith->ju,getElem_of_mem->jv,filter_eq_self->jw,mem_filterMap->jx,getElem?_zip_eq_some->lj,pairwise_iff_getElem->lq,getLastD_eq_getLast?->lr,idxOf_lt_length_iff->lA,zip_map'->iC,getElem_inj->jE,length_eq_zero_iff->lD,drop_eq_nil_of_le->lF,take_of_length_le->lG,filter_eq_nil_iff->lI,contains_iff_mem->lM,countP_mono_left->lQ,mem_of_mem_take->lV,mem_erase_of_ne->lW,getElem?_range->lY,length_pos_iff->l3,contains_cons->ma,getElem?_take->mh,filter_append->mj,filter_filter->ml,ext_getElem?->mm,any_eq_false->mq,map_fst_zip->mO,zip_append->mR,foldl_cons->mS,idxOf_cons->mU,filter_map->mX,drop_zero->m7,drop_nil->ni,all_map->nu
open PySem.Heap renaming get?_push_of_some->aM,lt_size->aO,get?_push_size->bz,size_push->de,get?_update_other->fR,SameBut->fA,get?_update_self->jl
open PySem renaming Value->aa,wpAny_bind->ao,Shared->af,wpAny_pure->aB,Program->aE,Around->aH,World->az,sizeLine_eq->bK,wpAny_truthy_bool->cN,wpAny_mono->bT,Spec->n9,wpAny_holding->cE,FuncData->bM,wpAny_Call_Name_kw->dw,codeAny_builtin->dc,wpAny_passesOwn->eI,wpAny_newObj_type->fi,mem_of_lookup->fU,tupleKind_room_in1->fV,wpAny_pyIter_list->fW,wpAny_setState_of->fZ,plainId_quiet->fw,codeAny_mono->fD,NameKind->c5,call_meetsIn->fE,wpAny_call_entry->ik,wpAny_forIn_list->ip,wpAny_execs_nil->ir,CmpOp->cg,wpAny_Call_method->jD,Paired->eP,wpAny_typeOf->iE,Keyword->dO,call_meets->gj,Builtin->dP,Scope->cG,wpAny_specialOf->jG,wpAny_updateSeq->jI,wpAny_loadPart'->lJ,wpAny_isTrue_Compare1->lK,wpAny_eqIsQuiet_tuple->lL,isSubtype_type->jL,codeAny_call_builtin->lT,wpAny_newList->jT,wpAny_pyIter_tuple->l7,Result->dQ,wpAny_call->iI,IsPart->dR,wpAny_pyHash_tuple->me,Within->jW,GenState->gm,BindsTo->fH,slot_list_getitem->mw,wpAny_pyIter_dict->mC,PassesOwn->iM,wpAny_field->j9,seqIndex_of->ka,wpAny_Name->kj,Operator->iN,PlainAttrs->km,call->ko,SetTable->iP,boot_len->m5,Params->gv
open Nat renaming le_refl->aI,ne_of_lt->aT,le_of_ble_eq_true->bU,lt_of_lt_of_le->bW,le_trans->bI,lt_succ_of_lt->cW,zero_le->cf,lt_succ_self->dB,min_eq_left->dG,lt_of_succ_lt_succ->fS,lt_irrefl->df,min_self->dM,ble_eq->dh,le_of_lt->eL,le_add_right->f7,le_succ->eM,ne_of_gt->fC,lt_of_le_of_lt->jA,ble->dm,sub_self->iF,add_right_comm->l4,le_of_eq->jX,lt_trichotomy->mE,le_of_not_lt->mK,not_lt_zero->mW,beq->gn
open Bool renaming false_ne_true->bq,and_eq_true->bf,eq_iff_iff->cD,false_eq_true->eD,not_eq_true'->fj,eq_false_iff->ig,or_eq_false_iff->jq,or_eq_true->jH,and_comm->jV,and_false->mZ,or_false->m9,false_or->ng,rec->kz
open Prod renaming fst->aF,snd->iU
open PySem.W renaming Frag->au,kia_one->cx,emptyDict->cZ,findIn->cy,kitOne->cK,instObj->di,keepIn->c4,fnOf->dq,codeIn->fF,OpenLaw->fG,plainGet_of->jO,callWith_K0->jP,plainGet->iH,callWith_K->j2,cellsFrom_some->mH,methodObj->j5,hasDictIn->j6,kitx_list->j7,kitx_dict->j8,methodCall_KW->mQ,lookIn->iO,kas_sort->iQ,makes_of->kr,takerIn->ku,makesIn->kx,nsIn->gx,mg_of->iV
open Int renaming eq_ofNat_of_zero_le->cq,toNat_natCast->ic,emod_lt_of_pos->jC,emod_nonneg->jK
open Option.some renaming inj->cc
open PyProof.Rows.F renaming plain_set_update_loop->du,entry_set_update_loop->fP
open PySem.SetTable.probe renaming go->cX
open PySem.Around renaming under_plainId->dv,in1_units->iq,under->jY
open Array renaming length_toList->eB,getElem?_toList->jk,perm_iff_toList_perm->lh,forIn_toList->md,toList->nt
open PySem.Calls renaming spliced_cons->eC,callWith_builtin->fQ,spliced_nil->fX,evalArgs_plain->hX,Name_function_global->lb,call_function_entry->lp
open PySem.Builtin.List renaming listTooLong->fO,listExtendWith->kZ,listLengthHint->la,listSameRef->lC
open PyProof.Rows renaming StrsAre->fg,slot_tuple_getitem->gX,AllBare->dj,subscriptTail_builtinR->lE,listUpdate_at->jS,IsTup->dr,seqEpoch_at->kg,boot_sorted->kh,IntsAre->gq,Subscript_->kl,SortKind->iR
open PySem.SetTable renaming insertAt->eE,below->gb,has->gf,Probe->iy,fresh->iz,bits->iA,runEnd->jJ,fill->jQ,put->j3,gaveWay->mM,tooFull->mN,slot->nh
open List.Sublist renaming refl->eF
open False renaming elim->cF
open PySem.Builtin.Slice renaming slicePlaces->gZ,sliceAdjust->ji,sliceApplied->lg
open Classical renaming byContradiction->hE,choose_spec->lR
open Option renaming map_some->eG,isSome_map->mx,getD_none->mJ,getD_some->mL
open PySem.F renaming plainAttrs_list->fm,called_set->dN,slot_dict_get->fq,plainAttrs_dict->ie,entry_dict_get->il,slot_dict_itemiterator_iter->kY,slot_list_append->jy,slot_list_extend->jz,slot_dict_setdefault->lH,slot_list_pop->jF,args_list_extend_2->lS,sub_list_frozenset->lU,entry_list_extend->lX,args_tuple_add_2->l8,type_list_append->mf,entry_tuple_add->mr,args_dict_get_2->my,args_dict_get_3->mB,slot_dict_items->mD,slot_list_index->mF,plain_list_iadd->mG,slot_tuple_add->mI,type_dict_get->mP,plain_set_new->mT,type_list_pop->mV
open PySem.Builtin.Tuple renaming tupleExact->hG
open PySem.Obj renaming mapSeq->cQ,putSet->kq
open PySem.SetTable.below renaming go->fY
open PySem.SeqAt.EqAt renaming same->f9,of_refs->jB,int_str->l5,str_int->l6,str_str->l9
open Ne renaming symm->cR
open Nat.succ renaming inj->gh
open LawfulBEq renaming eq_of_beq->eO
open PySem.AutoSeq1 renaming sub_tuple_tuple->lu,wpAny_loadPart'->ly
open Sum.inr renaming inj->iG
open List.Perm renaming refl->jM
open PySem.Heap.SameBut renaming update->lZ
open PySem.Paired renaming length->jN,snoc->nz
open PySem.Shared renaming TypeIs->jR
open List.cons renaming inj->jU
open PySem.SeqAt renaming EqAt->iJ
open PySem.Walks renaming list->iK,dictKeys->m6
open PySem.Code renaming isFrame->jZ
open Prod.mk renaming inj->j4
open PySem.Moved renaming trans->kc
open PySem.Builtin.Frozenset renaming updateFrom->nY,newClass->nZ
open PySem.PassesOwn renaming never->mY
open PySem.Txt renaming mul->gu
open PySem.Value renaming isStrOf->m8,isInt->ny
open PyProof.Rows.IsTup renaming new->ky
open PySem.Heap.IsSliceOf renaming new->n4
open PySem.W.WShape renaming has->nD
def aQ:=@decide_eq_false
def ai:=@if_pos
def aj:=@if_neg
def bj:=@of_decide_eq_true
def aq:=@absurd
def bB:=@decide_eq_true_eq
def bg:=@decide_eq_true
def aS:=@congrArg
abbrev cn:=List (PySem.Addr×PySem.Obj)
abbrev aC:=List PySem.Str
set_option Elab.async false
set_option linter.all false
namespace L5
open PySem PySem.W
noncomputable def pick(l:List Obj):Nat->List Addr->List Obj:=
 @List.rec Obj (λ_=>Nat->List Addr->List Obj) (λ_ _=>[])
  (λo _ ih i as=>@List.rec Addr (λ_=>List Obj) [] (λa r _=>@kz (λ_=>List Obj) (ih (Nat.succ i) as) (o::ih (Nat.succ i) r) (gn a i)) as) l
theorem K4(i:Nat)(as:List Addr):pick [] i as=[]:=rfl
theorem N3(o:Obj)(l:List Obj)(i:Nat)(r:List Addr):pick (o::l) i (i::r)=o::pick l (i+1) r:=by show @kz (λ_=>List Obj) _ _ (gn i i)=_;rw[Nat.beq_refl];rfl
theorem N4(o:Obj)(l:List Obj)(i a:Nat)(r:List Addr)(h:a≠i):pick (o::l) i (a::r)=pick l (i+1) (a::r):=by
 show @kz (λ_=>List Obj) _ _ (gn a i)=_;have:gn a i=false:=by
  cases q:gn a i with
  |false=>rfl
  |true=>exact aq (Nat.eq_of_beq_eq_true q) h
 rw[this];rfl
theorem Es:∀(l:List Obj) (i:Nat) (as:List Addr),(pick l i as).length=as.length->∀j (hj:j<as.length),∃b,as[j]=i+b/\l[b]?=(pick l i as)[j]?
 |[],i,as,h,j,hj=>by rw[K4]at h;simp at h;omega
 |o::l,i,[],h,j,hj=>by simp at hj
 |o::l,i,a::r,h,j,hj=>by
  by_cases q:a=i
  ·subst q;rw[N3]at h ⊢;cases j with
   |zero=>exact⟨0,rfl,rfl⟩
   |succ j=>obtain⟨b,e1,e2⟩:=Es l (a+1) r (by simpa using h) j (by simpa using hj);exact⟨b+1,by rw[List.getElem_cons_succ,e1];exact l4 a 1 b,by simpa using e2⟩
  ·rw[N4 _ _ _ _ _ q]at h ⊢;obtain⟨b,e1,e2⟩:=Es l (i+1) (a::r) h j hj;exact⟨b+1,by rw[e1];exact l4 i 1 b,by simpa using e2⟩
def live(o:Obj):Bool:=match o with|⟨_,_,.freed,_⟩=>false|_=>true
theorem N5{h:Heap}{as:List Addr}{K:Frag}(e:as=K.map (·.1))(x:(pick h.objs.toList 0 as,K.all λp=>live p.2)=(K.map (·.2),true)):K.In h:=by
 obtain⟨x1,x2⟩:=j4 x;refine Frag.in_of e (mm λj=>?_);rw[bu,bu];by_cases hj:j<as.length
 ·have hl:(pick h.objs.toList 0 as).length=as.length:=by rw[x1,e,ah,ah]
  obtain⟨b,e1,e2⟩:=Es _ _ _ hl j hj;have hk:j<K.length:=by rw[e,ah]at hj;exact hj
  rw[aP hj,aP hk,eG,eG,e1,Nat.zero_add];have e3:h.objs[b]?=some (K[j].2):=by rw[<-jk,e2,x1,bu,aP hk];rfl
  have lv:live K[j].2=true:=bD.mp x2 _ (dA hk);refine aS some ?_;unfold Heap.get?;rw[e3];revert lv;cases K[j].2 with
  |mk c d data sl=>cases data<;>intro lv<;>first|rfl|cases lv
 ·rw[fT (by omega),fT (by rw[e,ah]at hj;omega)];rfl
noncomputable def Vv(K:gv->Frag) (as:List Addr) (e:∀P,as=(K P).map (·.1)):Hook:=
 ⟨List Obj×Bool,λs=>(pick s.heap.objs.toList 0 as,true),λw=>((K w.params).map (·.2),(K w.params).all λp=>live p.2),InK K,λw s x=>N5 (e w.params) (by
  obtain⟨x1,x2⟩:=j4 x;rw[x1,<- x2]),InK.keeps⟩
end L5
section
open PySem PySem.W PyProof.Rows
local macro_rules|`(tactic|o_head ($f:ident $k $as $e))=>`(tactic|o_head ((L5.Vv $k $as (fun _=>by kernel_rfl)):W.Hook))
local macro_rules|`(command|#where)=>do
 let mut r:=#[]
 for n in [43:1665] do
  let x:=Lean.mkIdent (.mkSimple s!"tw{((Lean.Name.mkSimple "hd").str s!"o_{n}").hash}")
  r:=r.push ((<-`(command|noncomputable def $x:ident:=0)).raw.rewriteBottomUp (·.setInfo .none))
 return Lean.mkNullNode r
noncomputable section
namespace PySem.W.Fast
def tw1143602224948879019:=0
def tw16998767113842130368:=0
def tw1484588488312774368:=0
def tw11233446548474340610:=0
def tw4905194841988867268:=0
def tw1090689591775485030:=0
def tw16288130148447953894:=0
def tw12210958215875933223:=0
def tw3542984721355170951:=0
def tw11521511281804667912:=0
def tw10374632558016547081:=0
def tw229164427083005643:=0
def tw938635154573522699:=0
def tw10557351479930030444:=0
def tw7774113678449685934:=0
def tw13587151598080963022:=0
def tw17537027142021205455:=0
def tw11163739012320327313:=0
def tw17312523289201507379:=0
def tw861502493610598483:=0
def tw7155359931933253843:=0
def tw6344153461787385748:=0
def tw9300808954929066293:=0
def tw14308600377511790581:=0
def tw6311449247597041334:=0
def tw5169156616507760408:=0
def tw6845741732454156280:=0
def tw1462027304924234873:=0
def tw7422128600509559289:=0
def tw1735395003836382009:=0
def tw16280658162054754363:=0
def tw4435421394204515611:=0
def tw4142209100229140859:=0
def tw8512700028927557211:=0
def tw5232775305885696284:=0
def tw15234264132796209951:=0
def tw13865323600775035743:=0
def tw18096739253777763795:=0
def tw10473089199940464468:=0
def tw5794000817047500649:=0
def tw14347835829400615940:=0
def tw9094225154769264635:=0
def tw1073704658516941901:=0
def tw2233547320038402401:=0
def tw15892216977243462883:=0
def tw8997383693586321770:=0
def tw6784737039638806343:=0
def tw4022129113586101826:=0
def tw10833825939047706337:=0
def tw8300666452175358407:=0
def tw16629204123399850450:=0
#where
end PySem.W.Fast
end
set_option maxRecDepth 100000 in
set_option maxHeartbeats 0 in
open_top hd for PySem.Challenge.rw_tellworld_k21_tests_hold
end
set_option maxRecDepth 100000
namespace L2
open PySem PySem.Spec PyProof.Rows
abbrev Key:=Sum Int Str
def Dv:Key->aa->Bool
 |.inl k,v=>ny k v
 |.inr x,v=>m8 x v
def Xc(w:az):Key->Int
 |.inl k=>hashInt k
 |.inr x=>hashStr w x
theorem pQ:∀{k:Key} {v:aa},Dv k v=true->(∃i t,k=Sum.inl i/\v=Value.int i t)\/(∃x t,k=Sum.inr x/\v=Value.str x t)
 |.inl i,v,h=>by obtain⟨t,e⟩:=Value.isInt_shape (k:=i) (v:=v) h;exact .inl ⟨i,t,rfl,e⟩
 |.inr x,v,h=>by obtain⟨t,e⟩:=Value.isStrOf_shape (x:=x) (v:=v) h;exact .inr ⟨x,t,rfl,e⟩
theorem JL(i:Int)(t:Tok):Dv (.inl i) (.int i t)=true:=by simp[Dv,ny]
theorem JM(x:Str)(t:Tok):Dv (.inr x) (.str x t)=true:=by simp[Dv,m8]
theorem Q1(a b:Int):decide ((Sum.inl a:Key)=Sum.inl b)=(a==b):=by
 by_cases e:a=b
 ·subst e;simp
 ·have h:¬(Sum.inl a:Key)=Sum.inl b:=λq=>e (Sum.inl.inj q);rw[aQ h];exact(beq_eq_false_iff_ne.mpr e).symm
theorem Q2(a b:Str):decide ((Sum.inr a:Key)=Sum.inr b)=decide (a=b):=by
 by_cases e:a=b
 ·subst e;simp
 ·have h:¬(Sum.inr a:Key)=Sum.inr b:=λq=>e (iG q);rw[aQ h,aQ e]
theorem Q3(a:Int)(b:Str):decide ((Sum.inl a:Key)=Sum.inr b)=false:=aQ (λq=>nomatch q)
theorem Q4(a:Str)(b:Int):decide ((Sum.inr a:Key)=Sum.inl b)=false:=aQ (λq=>nomatch q)
def oT(prog:aE)(w:az):PySem.KeyKind prog w Key where
 is:=Dv
 hash:=Xc w
 inj:=λv a b ha hb=>by
  rcases pQ ha with ⟨i,t,rfl,rfl⟩|⟨x,t,rfl,rfl⟩
  ·rcases pQ hb with ⟨j,u,rfl,e⟩|⟨y,u,rfl,e⟩
   ·injection e with e1 _;rw[e1]
   ·exact nomatch e
  ·rcases pQ hb with ⟨j,u,rfl,e⟩|⟨y,u,rfl,e⟩
   ·exact nomatch e
   ·injection e with e1 _;rw[e1]
 byValue:=λk v h=>by rcases pQ h with ⟨i,t,rfl,rfl⟩|⟨x,t,rfl,rfl⟩<;>rfl
 pyHash:=λhv h=>by
  rcases pQ hv with ⟨i,t,rfl,rfl⟩|⟨x,t,rfl,rfl⟩
  ·exact wpAny_pyHash_int h
  ·exact wpAny_pyHash_str h
 eqBool:=λhu hv h=>by
  rcases pQ hu with ⟨i,t,rfl,rfl⟩|⟨x,t,rfl,rfl⟩
  ·rcases pQ hv with ⟨j,u,rfl,rfl⟩|⟨y,u,rfl,rfl⟩
   ·rw[Q1]at h;exact wpAny_eqBool_int h
   ·rw[Q3]at h;exact l5 i t y u _ _ _ _ h
  ·rcases pQ hv with ⟨j,u,rfl,rfl⟩|⟨y,u,rfl,rfl⟩
   ·rw[Q4]at h;exact l6 x t j u _ _ _ _ h
   ·rw[Q2]at h;exact wpAny_eqBool_str h
 «strs»:=λk x t v h=>by
  rcases pQ h with ⟨i,u,rfl,e⟩|⟨y,u,rfl,e⟩
  ·exact nomatch e
  ·injection e with e1 _;subst e1;cases v<;>rfl
theorem Fo(prog:aE)(w:az)(i:Int)(t:Tok):(oT prog w).is (.inl i) (.int i t)=true:=JL i t
theorem Fp(prog:aE)(w:az)(x:Str)(t:Tok):(oT prog w).is (.inr x) (.str x t)=true:=JM x t
inductive V where
 |non|bl (b:Bool)|int (i:Int)|str (x:Str)|byt (b:Array UInt8)|flt (b:UInt64)|ref (a:Addr)|ty (n:String)
 deriving DecidableEq
abbrev bt:=List V
def RelV:V->aa->Prop
 |.non,u=>u=Value.none
 |.bl b,u=>u=Value.bool b
 |.int i,u=>∃t,u=Value.int i t
 |.str x,u=>∃t,u=Value.str x t
 |.byt b,u=>∃t,u=Value.bytes b t
 |.flt b,u=>∃t,u=Value.float b t
 |.ref a,u=>u=Value.ref a
 |.ty n,u=>u=Value.type n
abbrev Vals:bt->List aa->Prop:=eP RelV
variable{us:List aa}
theorem Vals.length{xs:bt}(r:Vals xs us):xs.length=us.length:=jN r
theorem Vals.get:∀{xs:bt} {us:List aa} {i:Nat} {x:V},Vals xs us->xs[i]?=some x->∃u,us[i]?=some u/\RelV x u
 |_,_,_,_,.nil,e=>by simp at e
 |_,_,0,_,.cons r _,e=>by simp at e;subst e;exact⟨_,rfl,r⟩
 |_,_,i+1,x,.cons _ t,e=>by obtain⟨u,h1,h2⟩:=Vals.get (i:=i) (x:=x) t (by simpa using e);exact⟨u,by simpa using h1,h2⟩
variable{u:aa}
theorem Vals.set{x:V}(r:RelV x u):∀{xs:bt} {us:List aa} (i:Nat),Vals xs us->Vals (xs.set i x) (us.set i u)
 |_,_,_,.nil=>.nil
 |_,_,0,.cons _ t=>.cons r t
 |_,_,i+1,.cons q t=>.cons q (Vals.set r i t)
theorem Vals.append:∀{xs ys:bt} {us ws:List aa},Vals xs us->Vals ys ws->Vals (xs++ys) (us++ws)
 |_,_,_,_,.nil,s=>s
 |_,_,_,_,.cons r t,s=>.cons r (Vals.append t s)
theorem Vals.take:∀{xs:bt} {us:List aa} (n:Nat),Vals xs us->Vals (xs.take n) (us.take n)
 |_,_,0,_=>.nil
 |_,_,_+1,.nil=>.nil
 |_,_,n+1,.cons r t=>.cons r (Vals.take n t)
theorem Vals.drop:∀{xs:bt} {us:List aa} (n:Nat),Vals xs us->Vals (xs.drop n) (us.drop n)
 |_,_,0,r=>r
 |_,_,_+1,.nil=>.nil
 |_,_,n+1,.cons _ t=>Vals.drop n t
def wH:Option V->Option aa->Prop
 |some v,some u=>RelV v u
 |none,none=>True
 |_,_=>False
def KV{κ:Type}:List (κ×V)->List (κ×aa)->Prop:=eP λ(p:κ×V) (q:κ×aa)=>p.1=q.1/\RelV p.2 q.2
def kV:Key->V
 |.inl i=>.int i
 |.inr x=>.str x
inductive HO where
 |lst (xs:bt)
 |tup (xs:bt)
 |dK (kvs:List (Key×V))|dT (kvs:List (List Key×V))
 |set (S:Int->Bool) (n:Nat)
 |ins (C dx:Addr) (fs:List (Str×V))
 |own (x:Addr)
 |xd (fs:List (Str×V))
 |met (f x:Addr)
 |rng (lo hi:Int)
 |frz (o:Obj) (u:HO)
 |tbl (ps:Array aa)
 |ext (φ:Heap->Prop)
abbrev Hp:=Addr->Option HO
def upd(H:Hp)(a:Addr)(o:HO):Hp:=λb=>if b=a then some o else H b
variable{a:Addr}{o:HO}
theorem oA{H:Hp}:upd H a o a=some o:=by unfold upd;rw[ai rfl]
variable{b:Addr}
theorem oB{H:Hp}(h:b≠a):upd H a o b=H b:=by unfold upd;rw[aj h]
theorem Vw{H:Hp}{u:HO}(h:H a=some o)(h':H b=some u)(d:o≠u):a≠b:=by intro e;subst e;rw[h]at h';exact d (cc h')
theorem qS{H:Hp}(h:H a=some o)(h':H b=none):a≠b:=by intro e;subst e;rw[h]at h';cases h'
section
variable(P:aE)(w:az)
def pL(H:Hp)(h:Heap)(a:Addr):HO->Prop
 |.lst xs=>xs.length<=sizeLine/\∃(its:List aa) (n:Nat),Vals xs its/\h.get? a=some { cls:=.type "list", data:=.seq its.toArray n }
 |.tup xs=>xs.length<=sizeLine/\∃its:List aa,Vals xs its/\dr h a its.toArray
 |.dK kvs=>kvs.length<=sizeLine/\(a==sysModules)=false/\∃vs,KV kvs vs/\h.DictOf (oT P w) a vs
 |.dT kvs=>kvs.length<=sizeLine/\(a==sysModules)=false/\∃xs:List (List Key×Addr×aa),
   eP (λ(p:List Key×V) (q:List Key×Addr×aa)=>p.1=q.1/\H q.2.1=some (.tup (p.1.map kV))/\RelV p.2 q.2.2) kvs xs/\
   ∃o es ep,h.get? a=some o/\o.ExactDict/\o.data=.dict es ep/\es.toList=xs.map (entryOfKey (tupleKind (oT P w)))/\(xs.map (·.1)).Nodup
 |.set S n=>h.SetOf (intKind P w) a S n
 |.ins C dx fs=>H dx=some (.own a)/\fs.length<=1000/\dx≠a/\h.get? a=some (di C dx)/\
   ∃mA,h.Ns1 dx mA/\(∀f,wH (fs.lookup f) (mA f))/\jW mA (fs.map (·.1))
 |.own _=>∃o,h.get? a=some o
 |.xd fs=>∃mA,h.Ns1 a mA/\∀f,wH (fs.lookup f) (mA f)
 |.rng lo hi=>∃t u v,h.get? a=some { cls:=.type "range", data:=.fields #[.int lo t,.int hi u,.int 1 v] }
 |.frz o u=>h.get? a=some o/\pL H h a u
 |.tbl ps=>h.get? a=some { cls:=.none,data:=.fields ps }
 |.met f x=>h.get? a=some (j5 (.ref f) (.ref x))
 |.ext φ=>φ h/\(∃o,h.get? a=some o)/\∀h1 h2:Heap,φ h1->(∀o,h1.get? a=some o->h2.get? a=some o)->φ h2
def HOk(H:Hp)(h:Heap):Prop:=∀a o,H a=some o->pL P w H h a o
end
section
variable{P:aE}{w:az}{H H':Hp}{h h':Heap}{a:Addr}{o:HO}
theorem pL.lt(x:pL P w H h a o):a<h.objs.size:=by
 cases o with
 |lst xs=>obtain⟨_,_,_,_,e⟩:=x;exact aO e
 |tup xs=>obtain⟨_,_,_,p⟩:=x;exact p.lt
 |dK kvs=>obtain⟨_,_,_,_,o,_,_,e,_⟩:=x;exact aO e
 |dT kvs=>obtain⟨_,_,_,_,o,_,_,e,_⟩:=x;exact aO e
 |set S n=>obtain⟨o,_,_,_,e,_⟩:=x;exact aO e
 |ins C dx fs=>obtain⟨_,_,_,e,_⟩:=x;exact aO e
 |own y=>obtain⟨_,e⟩:=x;exact aO e
 |xd fs=>obtain⟨_,⟨_,_,_,e,_⟩,_⟩:=x;exact aO e
 |rng lo hi=>obtain⟨_,_,_,e⟩:=x;exact aO e
 |frz ob u=>obtain⟨e,_⟩:=x;exact aO e
 |tbl ps=>exact aO (show h.get? a=some _ from x)
 |met f y=>exact aO (show h.get? a=some _ from x)
 |ext φ=>obtain⟨_,⟨_,e⟩,_⟩:=x;exact aO e
theorem Paired.mapP{α β:Type}{F G:α->β->Prop}:∀{l₁:List α} {l₂:List β},eP F l₁ l₂->(∀a b,F a b->G a b)->eP G l₁ l₂
 |_,_,.nil,_=>.nil
 |_,_,.cons r t,f=>.cons (f _ _ r) (Paired.mapP t f)
theorem pL.stay(x:pL P w H h a o)(k:∀b u,(b=a\/H b=some (.own a))->h.get? b=some u->h'.get? b=some u)
  (ho:∀b,H b=some (.own a)->H' b=some (.own a)) (ht:∀b xs,H b=some (.tup xs)->H' b=some (.tup xs)):pL P w H' h' a o:=by
 induction o with
 |lst xs=>obtain⟨z,its,n,r,e⟩:=x;exact⟨z,its,n,r,k _ _ (.inl rfl) e⟩
 |tup xs=>obtain⟨z,its,r,ob,e,c⟩:=x;exact⟨z,its,r,ob,k _ _ (.inl rfl) e,c⟩
 |dK kvs=>obtain⟨z,y,vs,r,ob,es,ep,e,c⟩:=x;exact⟨z,y,vs,r,ob,es,ep,k _ _ (.inl rfl) e,c⟩
 |dT kvs=>obtain⟨z,y,xs,r,ob,es,ep,e,c⟩:=x;exact⟨z,y,xs,Paired.mapP r λp q z=>⟨z.1,ht _ _ z.2.1,z.2.2⟩,ob,es,ep,k _ _ (.inl rfl) e,c⟩
 |set S n=>obtain⟨ob,es,ep,t,e,c⟩:=x;exact⟨ob,es,ep,t,k _ _ (.inl rfl) e,c⟩
 |ins C dx fs=>obtain⟨d,z,ne,e,mA,⟨od,es,ep,e2,c⟩,r⟩:=x;exact⟨ho _ d,z,ne,k _ _ (.inl rfl) e,mA,⟨od,es,ep,k _ _ (.inr d) e2,c⟩,r⟩
 |own y=>obtain⟨ob,e⟩:=x;exact⟨ob,k _ _ (.inl rfl) e⟩
 |xd fs=>obtain⟨mA,⟨od,es,ep,e,c⟩,r⟩:=x;exact⟨mA,⟨od,es,ep,k _ _ (.inl rfl) e,c⟩,r⟩
 |rng lo hi=>obtain⟨t,u,v,e⟩:=x;exact⟨t,u,v,k _ _ (.inl rfl) e⟩
 |frz ob u ih=>obtain⟨e,q⟩:=x;exact⟨k _ _ (.inl rfl) e,ih q⟩
 |tbl ps=>have e:h.get? a=some { cls:=.none,data:=.fields ps }:=x;show h'.get? a=some { cls:=.none,data:=.fields ps };exact k a _ (.inl rfl) e
 |met f y=>have e:h.get? a=some (j5 (.ref f) (.ref y)):=x;show h'.get? a=some (j5 (.ref f) (.ref y));exact k a _ (.inl rfl) e
 |ext φ=>obtain⟨p,⟨o,e⟩,st⟩:=x;exact⟨st _ _ p λo q=>k _ _ (.inl rfl) q,⟨o,k _ _ (.inl rfl) e⟩,st⟩
theorem HOk.lt(x:HOk P w H h)(e:H a=some o):a<h.objs.size:=(x a o e).lt
theorem HOk.fresh(x:HOk P w H h)(e:h.objs.size<=a):H a=none:=by
 cases q:H a with
 |none=>rfl
 |some u=>exact aq (bW (x.lt q) e) (df _)
theorem HOk.kept(x:HOk P w H h)(k:∀b u,h.get? b=some u->h'.get? b=some u):HOk P w H h':=λa o e=>
 (x a o e).stay (λb u _ q=>k b u q) (λ_ q=>q) λ_ _ q=>q
theorem HOk.laid(x:HOk P w H h)(k:∀b u,h.get? b=some u->h'.get? b=some u)(hp:h.objs.size<=a)(new:pL P w (upd H a o) h' a o):HOk P w (upd H a o) h':=λb u e=>by
 have hn:=x.fresh hp;by_cases hb:b=a
 ·subst hb;rw[oA]at e;cases e;exact new
 ·rw[oB hb]at e;exact(x b u e).stay (λc v _ q=>k c v q) (λc q=>by rw[oB (qS q hn)];exact q) λc xs q=>by rw[oB (qS q hn)];exact q
end
def Rd(H:Hp)(a:Addr)(u:HO):Prop:=H a=some u\/∃o,H a=some (.frz o u)
theorem Rd.ok{P:aE}{w:az}{H:Hp}{h:Heap}{u:HO}(r:Rd H a u)(x:HOk P w H h):pL P w H h a u:=by
 rcases r with r|⟨o,r⟩
 ·exact x a u r
 ·obtain⟨_,q⟩:=x a _ r;exact q
def Mut:Option HO->Prop
 |some (.lst _)=>True
 |some (.dK _)=>True
 |some (.dT _)=>True
 |some (.set _ _)=>True
 |some (.ins _ _ _)=>True
 |some (.ext _)=>True
 |_=>False
section
variable{P:aE}{w:az}{H:Hp}{h h':Heap}{x e:Addr}{o':HO}
theorem HOk.write(ok:HOk P w H h)(mu:Mut (H x))(he:e=x\/H e=some (.own x))(k:∀b u,b≠e->h.get? b=some u->h'.get? b=some u)(heo:∃u,h'.get? e=some u)
  (new:pL P w (upd H x o') h' x o'):HOk P w (upd H x o') h':=λb u q=>by
 have nown:∀c y,H c=some (.own y)->c≠x:=λc y r z=>by subst z;rw[r]at mu;exact mu
 have ntup:∀c xs,H c=some (.tup xs)->c≠x:=λc xs r z=>by subst z;rw[r]at mu;exact mu
 by_cases hb:b=x
 ·subst hb;rw[oA]at q;cases q;exact new
 ·rw[oB hb]at q;by_cases hbe:b=e
  ·have q':H b=some (.own x):=by
    rcases he with z|z
    ·exact aq (hbe.trans z) hb
    ·rw[hbe];exact z
   rw[q]at q';cases q';obtain⟨v,hv⟩:=heo;exact⟨v,by rw[hbe];exact hv⟩
  ·refine(ok b u q).stay (λc v hc r=>k c v ?_ r) (λc r=>by rw[oB (nown c b r)];exact r) λc xs r=>by rw[oB (ntup c xs r)];exact r
   rcases hc with rfl|hc
   ·exact hbe
   ·rintro rfl;rcases he with z|z
    ·exact nown c b hc z
    ·rw[hc]at z;cases z;exact hb rfl
end
structure Un(fs ex:List Addr)(H H':Hp)(h h':Heap):Prop where
 keep:∀b o,h.get? b=some o->H b=none->b∉fs->b∉ex->h'.get? b=some o
 slot:∀b o,h.get? b=some o->H b=none->b∈fs->b∉ex->∃sl,h'.get? b=some { o with slots:=sl }
 free:∀b o,h.get? b=some o->H b=none->b∉ex->H' b=none
 there:∀b o,h.get? b=some o->b∉ex->∃o',h'.get? b=some o'
 tups:∀b xs,H b=some (.tup xs)->H' b=some (.tup xs)
 frzs:∀b o u,H b=some (.frz o u)->H' b=some (.frz o u)
 tbls:∀b ps,H b=some (.tbl ps)->∃more,H' b=some (.tbl (ps++more))
section
variable{fs fs' ex ex':List Addr}{H H1 H2:Hp}{h h1 h2 h':Heap}{a x e:Addr}{o:HO}
theorem Un.any(u:Un fs ex H H1 h h1){ob:Obj}(q:h.get? b=some ob)(n:H b=none)(hx:b∉ex):∃sl,h1.get? b=some { ob with slots:=sl }:=by
 by_cases hb:b∈fs
 ·exact u.slot b ob q n hb hx
 ·exact⟨ob.slots,u.keep b ob q n hb hx⟩
theorem Un.kept(k:∀b u,h.get? b=some u->h'.get? b=some u):Un fs ex H H h h':=
 ⟨λb ob q _ _ _=>k b ob q,λb ob q _ _ _=>⟨ob.slots,k b ob q⟩,λ_ _ _ n _=>n,λb ob q _=>⟨ob,k b ob q⟩,λ_ _ q=>q,λ_ _ _ q=>q,λ_ ps q=>⟨#[],by rw[q];simp⟩⟩
theorem Un.refl:Un fs ex H H h h:=Un.kept λ_ _ q=>q
theorem Un.laid(k:∀b u,h.get? b=some u->h'.get? b=some u)(hp:h.objs.size<=a)(hn:H a=none):Un fs ex H (upd H a o) h h' where
 keep:=λb u q _ _ _=>k b u q
 slot:=λb u q _ _ _=>⟨u.slots,k b u q⟩
 free:=λb u q n _=>by rw[oB (aT (bW (aO q) hp))];exact n
 there:=λb u q _=>⟨u,k b u q⟩
 tups:=λb xs q=>by rw[oB (qS q hn)];exact q
 frzs:=λb u xs q=>by rw[oB (qS q hn)];exact q
 tbls:=λb ps q=>⟨#[],by rw[oB (qS q hn),q];simp⟩
theorem Un.write(mu:Mut (H x))(he:e=x\/H e=some (.own x))(k:∀b u,b≠e->h.get? b=some u->h'.get? b=some u)(heo:∃u,h'.get? e=some u):Un fs ex H (upd H x o) h h':=by
 have hx:∀b,H b=none->b≠x:=λb n z=>by subst z;rw[n]at mu;exact mu
 have hb:∀b,H b=none->b≠e:=λb n z=>by
  subst z;rcases he with r|r
  ·exact hx b n r
  ·rw[n]at r;cases r
 have hm:∀b u,H b=some u->¬Mut (some u)->b≠x:=λb u q nm z=>by subst z;rw[q]at mu;exact nm mu
 refine⟨λb u q n _ _=>k b u (hb b n) q,λb u q n _ _=>⟨u.slots,k b u (hb b n) q⟩,λb u q n _=>by rw[oB (hx b n)];exact n,λb u q _=>?_,
  λb xs q=>by rw[oB (hm b _ q λz=>z)];exact q,λb u xs q=>by rw[oB (hm b _ q λz=>z)];exact q,λb ps q=>⟨#[],by rw[oB (hm b _ q λz=>z),q];simp⟩⟩
 by_cases hbe:b=e
 ·subst hbe;exact heo
 ·exact⟨u,k b u hbe q⟩
end
def trk(h:Heap)(H:Hp):List Addr:=(bC h.objs.size).filter λa=>(H a).isSome
def Et(h:Heap)(H:Hp):Heap:=W.hideAll h (trk h H)
theorem JN(h:Heap)(H:Hp):(Et h H).objs.size=h.objs.size:=W.hideAll_size _ _
theorem K5{h:Heap}{H:Hp}{o:Obj}(e:h.get? b=some o)(n:H b=none):(Et h H).get? b=some o:=
 W.hideAll_get _ e λhm=>by have q:(H b).isSome=true:=(bO.mp hm).2;rw[n]at q;simp at q
theorem N6{h:Heap}{H:Hp}{o:Obj}(e:(Et h H).get? b=some o):h.get? b=some o/\H b=none:=by
 have e':h.get? b=some o:=W.of_hideAll (trk h H) e;refine⟨e',?_⟩;cases q:H b with
 |none=>rfl
 |some x=>have hm:b∈trk h H:=bO.mpr ⟨cv.mpr (aO e'),by simp[q]⟩;have z:(Et h H).get? b=none:=W.hideAll_none (trk h H) hm;rw[z]at e;cases e
def N7(g h:Heap)(L:Addr):cn:=(bC h.objs.size).filterMap λa=>if a=L\/(g.get? a).isSome=true then none else (h.get? a).map λo=>(a,o)
def rest(g h:Heap)(L d:Addr):cn:=(N7 g h L).filter λp=>decide (p.1≠d)
structure Mod(K:au)(mg:Str->Option aa)(base:Heap):Prop where
 kin:K.In base
 glob:base.Ns mainGlobals mg
 blt:∃mb,base.Ns builtinsNs mb/\∀x:Str,x≠"__name__" -> mb x=bootBuiltins x
 nolimit:base.NoLimit
structure Cx where
 prog:aE
 w:az
 K:au
 mg:Str->Option aa
 base:Heap
 A:aH
 N:aC
 s₀:af
 H₀:Hp
 env:Env
 outer:List Env
 stack:List Env
 ex:List Addr
 fn:Str->Bool
 calm:Bool
 pn:cn
 xe:aa->af->Prop
def frs(l:List Env):List Addr:=l.filterMap (·.frame)
abbrev Cx.fs(X:Cx):List Addr:=frs X.outer
def Vis(sc:cG)(x:Str):Prop:=sc.names.lookup x=some .local\/sc.names.lookup x=some .cell\/sc.names.lookup x=some .free
def Loc(sc:cG)(x:Str):Prop:=sc.names.lookup x=some .local\/sc.names.lookup x=some .cell
def Look(env:Env)(h:Heap)(m:Str->Option aa)(x:Str)(u:aa):Prop:=
 (env.kindOf x=some .local/\m x=some u)\/((env.kindOf x=some .cell\/env.kindOf x=some .free)/\∃c,env.cells.lookup x=some c/\h.IsCell c (some u))
structure Cx.Ok(X:Cx):Prop where
 mod:Mod X.K X.mg X.base
 kind:X.env.scope.kind=.function
 glob:X.env.globals=mainGlobals
 blt:X.env.builtins=builtinsNs
 above:X.s₀.heap.objs.size<=X.env.locals
 inj:∀x y c,X.env.cells.lookup x=some c->X.env.cells.lookup y=some c->x=y
 has:∀x,(X.env.kindOf x=some .cell\/X.env.kindOf x=some .free)->∃c,X.env.cells.lookup x=some c
 cab:∀x c,X.fn x=true->X.env.cells.lookup x=some c->X.s₀.heap.objs.size<=c
 hd:X.calm=true->X.A.handled=none
 frames:X.A.frames=some X.stack
 stk:X.stack=X.outer\/(X.stack=X.env::X.outer/\X.env.frame=some X.env.locals)
 exf:∀b∈X.ex,b≠X.env.locals/\∀x c,X.env.cells.lookup x=some c->c≠b
 bs:∀b o,X.base.get? b=some o->X.s₀.heap.get? b=some o/\X.H₀ b=none
 bsz:X.base.objs.size<=X.s₀.heap.objs.size
 noex:∀b o,X.base.get? b=some o->b∉X.ex
 exfs:∀b∈X.ex,b∉X.fs
 funs:X.s₀.heap.FunFrames X.base X.outer
 frf:∀b∈X.fs,X.H₀ b=none
structure Inv(X:Cx)(pins:cn)(σ:List (Option V))(H:Hp)(s:af):Prop where
 ok:X.Ok
 os:s.os=X.s₀.os
 bare:dj s.gens
 base:Un X.fs X.ex X.H₀ H X.s₀.heap s.heap
 loc:∃m,s.heap.Ns X.env.locals m/\∀(i:Nat) (x:Str) (v:V),X.N[i]?=some x->σ[i]?=some (some v)->Vis X.env.scope x->∃u,RelV v u/\Look X.env s.heap m x u
 cell:∀x c,X.env.cells.lookup x=some c->∃v,s.heap.IsCell c v
 free:H X.env.locals=none
 freeC:∀x c,X.env.cells.lookup x=some c->H c=none
 pin:∀p∈X.pn++pins,s.heap.get? p.1=some p.2/\H p.1=none/\p.1≠X.env.locals/\p.1∉X.fs/\∀v,p.2.data≠.cell v
 hok:HOk X.prog X.w H s.heap
 len:σ.length=X.N.length
variable{g':Array gm}{t' i j:Nat}{d':Drawn}{ch:List Addr}{it:Addr}{N:aC}{M:Model}{E:aa->af->Prop}{s':af}
section
variable{X:Cx}{pins:cn}{σ:List (Option V)}{H H':Hp}{s:af}{h':Heap}
theorem Cx.Ok.nofr(ok:X.Ok){o:Obj}(e:X.base.get? b=some o):b∉X.fs:=λhb=>by have:=(ok.funs.mem hb).1;rw[e]at this;cases this
theorem Inv.bs(I:Inv X pins σ H s):∀b o,X.base.get? b=some o->s.heap.get? b=some o/\H b=none:=λb o e=>
 ⟨I.base.keep b o (I.ok.bs b o e).1 (I.ok.bs b o e).2 (I.ok.nofr e) (I.ok.noex b o e),I.base.free b o (I.ok.bs b o e).1 (I.ok.bs b o e).2 (I.ok.noex b o e)⟩
theorem Inv.bk(I:Inv X pins σ H s):∀b o,X.base.get? b=some o->s.heap.get? b=some o:=λb o e=>(I.bs b o e).1
theorem Inv.mod(I:Inv X pins σ H s):Mod X.K X.mg X.base:=I.ok.mod
theorem Inv.kIn(I:Inv X pins σ H s):X.K.In s.heap:=I.ok.mod.kin.keeps I.bk
theorem Inv.fr(I:Inv X pins σ H s):∃m,Fr X.base X.env.locals s.heap m:=
 let ⟨m,hn,_⟩:=I.loc
 ⟨m,hn,I.bk,bI I.ok.bsz I.ok.above⟩
theorem Inv.lt(I:Inv X pins σ H s):X.env.locals<s.heap.objs.size:=let ⟨_,hn,_⟩:=I.loc;hn.lt
theorem Inv.sz(I:Inv X pins σ H s):X.s₀.heap.objs.size<=s.heap.objs.size:=bI I.ok.above (eL I.lt)
theorem Inv.nofs(I:Inv X pins σ H s)(h:s.heap.objs.size<=a):a∉X.fs:=λhb=>by obtain⟨_,o,ho,_⟩:=I.ok.funs.mem hb;exact aq (bW (aO ho) (bI I.sz h)) (df _)
theorem Inv.cne(I:Inv X pins σ H s):∀x c,X.env.cells.lookup x=some c->c≠X.env.locals:=λx c e z=>by obtain⟨v,o,ho,hd⟩:=I.cell x c e;obtain⟨m,⟨o',es,ep,ho',hd',_⟩,_⟩:=I.loc;rw[z,ho']at ho;cases ho;rw[hd']at hd;cases hd
theorem Inv.funs(I:Inv X pins σ H s):s.heap.FunFrames X.base X.outer:=by
 have all:∀(l:List Env),(∀b∈frs l,b∈X.fs)->X.s₀.heap.FunFrames X.base l->s.heap.FunFrames X.base l:=by
  intro l
  induction l with
  |nil=>intro _ _;trivial
  |cons env r ih=>intro hs hl;obtain⟨hk,⟨L,o,hf,hn,ho,hd⟩,hr⟩:=hl;have hL:L∈X.fs:=hs L (by unfold frs;rw[jt,hf];exact aV);obtain⟨sl,e⟩:=I.base.slot L o ho (I.ok.frf L hL) hL λz=>I.ok.exfs L z hL;exact⟨hk,⟨L,_,hf,hn,e,hd⟩,ih (λb hb=>hs b (by unfold frs;rw[jt,hf];exact bh _ hb)) hr⟩
 exact all X.outer (λ_ hb=>hb) I.ok.funs
theorem Inv.stack(I:Inv X pins σ H s):s.heap.FunFrames X.base X.stack:=by
 rcases I.ok.stk with e|⟨e,hf⟩
 ·rw[e];exact I.funs
 ·rw[e];obtain⟨m,hn,_⟩:=I.loc;refine .cons (by rw[I.ok.kind];decide) hf hn ?_ I.funs;exact Heap.get?_none_of_le (bI I.ok.bsz I.ok.above)
theorem Inv.stkSub(I:Inv X pins σ H s):∀b∈frs X.stack,b∈X.env.locals::X.fs:=λb hb=>by
 rcases I.ok.stk with e|⟨e,hf⟩
 ·rw[e]at hb;exact bh _ hb
 ·rw[e]at hb;unfold frs at hb;rw[jt,hf]at hb;exact hb
theorem Inv.stkFree(I:Inv X pins σ H s):∀b∈frs X.stack,H b=none:=λb hb=>by
 rcases aN.mp (I.stkSub b hb)with e|hb
 ·rw[e];exact I.free
 ·obtain⟨_,o,ho,_⟩:=I.ok.funs.mem hb;exact I.base.free b o ho (I.ok.frf b hb) λz=>I.ok.exfs b z hb
theorem Inv.step(I:Inv X pins σ H s)
  (hch:∀b∈ch,(b∈X.ex\/X.s₀.heap.objs.size<=b)/\b≠X.env.locals/\(∀x c,X.env.cells.lookup x=some c->c≠b)/\∀p∈X.pn++pins,p.1≠b)
  (keep:∀b o,b≠X.env.locals->b∉X.fs->b∉ch->s.heap.get? b=some o->H b=none->h'.get? b=some o)
  (slot:∀b o,b≠X.env.locals->b∈X.fs->b∉ch->s.heap.get? b=some o->H b=none->∃sl,h'.get? b=some { o with slots:=sl }) (free:∀b o,b∉ch->s.heap.get? b=some o->H b=none->H' b=none)
  (there:∀b o,b∉ch->s.heap.get? b=some o->∃o',h'.get? b=some o')
  (tups:∀b xs,H b=some (.tup xs)->H' b=some (.tup xs)) (frzs:∀b o u,H b=some (.frz o u)->H' b=some (.frz o u)) (tbls:∀b ps,H b=some (.tbl ps)->∃more,H' b=some (.tbl (ps++more)))
  (ns:∀m,s.heap.Ns X.env.locals m->h'.Ns X.env.locals m) (hok:HOk X.prog X.w H' h') (hg:dj g'):
  Inv X pins σ H' { s with heap:=h',gens:=g',drawn:=d',toks:=t' }:=by
 have neL:∀b o,X.s₀.heap.get? b=some o->b≠X.env.locals:=λb o e=>aT (bW (aO e) I.ok.above);have neC:∀b o,X.s₀.heap.get? b=some o->b∉X.ex->b∉ch:=λb o e hx hb=>by
  rcases(hch b hb).1 with z|z
  ·exact hx z
  ·exact aq (bW (aO e) z) (df _)
 have cellK:∀x c,X.env.cells.lookup x=some c->∀v,s.heap.IsCell c v->h'.IsCell c v:=λx c e v ⟨o,ho,hd⟩=>by
  have nch:c∉ch:=λz=>(hch c z).2.2.1 x c e rfl;by_cases hc:c∈X.fs
  ·obtain⟨sl,q⟩:=slot c o (I.cne x c e) hc nch ho (I.freeC x c e);exact⟨_,q,hd⟩
  ·exact⟨o,keep c o (I.cne x c e) hc nch ho (I.freeC x c e),hd⟩
 refine⟨I.ok,I.os,hg,⟨λb o e n hb hx=>?_,λb o e n hb hx=>?_,λb o e n hx=>?_,λb o e hx=>?_,λb xs e=>tups b xs (I.base.tups b xs e),λb o xs e=>frzs b o xs (I.base.frzs b o xs e),λb ps e=>?_⟩,?_,λx c e=>?_,?_,λx c e=>?_,λp hp=>?_,hok,I.len⟩
 ·exact keep b o (neL b o e) hb (neC b o e hx) (I.base.keep b o e n hb hx) (I.base.free b o e n hx)
 ·obtain⟨sl,e1⟩:=I.base.slot b o e n hb hx;obtain⟨sl',e2⟩:=slot b _ (neL b o e) hb (neC b o e hx) e1 (I.base.free b o e n hx);exact⟨sl',e2⟩
 ·obtain⟨o',e1⟩:=I.base.there b o e hx;exact free b o' (neC b o e hx) e1 (I.base.free b o e n hx)
 ·obtain⟨o',e1⟩:=I.base.there b o e hx;exact there b o' (neC b o e hx) e1
 ·obtain⟨m1,e1⟩:=I.base.tbls b ps e;obtain⟨m2,e2⟩:=tbls b _ e1;exact⟨m1++m2,by rw[e2,Array.append_assoc]⟩
 ·obtain⟨m,hn,hl⟩:=I.loc;refine⟨m,ns m hn,λi x v e1 e2 e3=>?_⟩;obtain⟨u,r,l⟩:=hl i x v e1 e2 e3;refine⟨u,r,?_⟩;rcases l with l|⟨k,c,e,z⟩
  ·exact .inl l
  ·exact .inr ⟨k,c,e,cellK x c e _ z⟩
 ·obtain⟨v,z⟩:=I.cell x c e;exact⟨v,cellK x c e v z⟩
 ·obtain⟨m,⟨o,_,_,ho,_⟩,_⟩:=I.loc;exact free _ o (λz=>(hch _ z).2.1 rfl) ho I.free
 ·obtain⟨v,o,ho,hd⟩:=I.cell x c e;exact free c o (λz=>(hch c z).2.2.1 x c e rfl) ho (I.freeC x c e)
 ·obtain⟨e,n,ne,nf,d⟩:=I.pin p hp;have nch:p.1∉ch:=λz=>(hch p.1 z).2.2.2 p hp rfl;exact⟨keep p.1 p.2 ne nf nch e n,free p.1 p.2 nch e n,ne,nf,d⟩
theorem Inv.un(I:Inv X pins σ H s)(u:Un X.fs [] H H' s.heap h')(hok:HOk X.prog X.w H' h'):Inv X pins σ H' { s with heap:=h',toks:=t' }:=by
 obtain⟨m,⟨o,es,ep,ho,r⟩,_⟩:=id I.loc;obtain⟨sl,hL⟩:=u.any ho I.free (by simp);exact I.step (g':=s.gens) (d':=s.drawn) (ch:=[]) (λ_ z=>nomatch z) (λb o _ hb _ e n=>u.keep b o e n hb (by simp)) (λb o _ hb _ e n=>u.slot b o e n hb (by simp)) (λb o _ e n=>u.free b o e n (by simp)) (λb o _ e=>u.there b o e (by simp)) u.tups u.frzs u.tbls (λm' hm=>by
  obtain⟨o',es',ep',ho',r'⟩:=hm;rw[ho]at ho';cases ho';exact⟨_,es',ep',hL,r'⟩) hok I.bare
theorem Inv.call(I:Inv X pins σ H s)(u:Un (frs X.stack) ch H H' s.heap h')(hok:HOk X.prog X.w H' h')(hg:dj g')
  (hch:∀b∈ch,(b∈X.ex\/X.s₀.heap.objs.size<=b)/\b≠X.env.locals/\(∀x c,X.env.cells.lookup x=some c->c≠b)/\∀p∈X.pn++pins,p.1≠b):
  Inv X pins σ H' { s with heap:=h',gens:=g',drawn:=d',toks:=t' }:=by
 obtain⟨m,⟨o,es,ep,ho,r⟩,_⟩:=id I.loc;obtain⟨sl,hL⟩:=u.any ho I.free λz=>(hch _ z).2.1 rfl;exact I.step (ch:=ch) hch (λb o hL hb hc e n=>u.keep b o e n (λz=>(aN.mp (I.stkSub b z)).elim hL hb) hc) (λb o _ _ hc e n=>u.any e n hc) (λb o hc e n=>u.free b o e n hc) (λb o hc e=>u.there b o e hc) u.tups u.frzs u.tbls (λm' hm=>by
  obtain⟨o',es',ep',ho',r'⟩:=hm;rw[ho]at ho';cases ho';exact⟨_,es',ep',hL,r'⟩) hok hg
theorem Inv.turned(I:Inv X pins σ H s)(k:∀b o,b≠it->s.heap.get? b=some o->h'.get? b=some o)(hn:H it=none)(hL:it≠X.env.locals)
  (h1:it∈X.ex\/X.s₀.heap.objs.size<=it) (h2:∀x c,X.env.cells.lookup x=some c->c≠it) (h3:∀p∈X.pn++pins,p.1≠it):Inv X pins σ H { s with heap:=h',toks:=t' }:=by
 have nit:∀b u,H b=some u->b≠it:=λb u e z=>by rw[z,hn]at e;cases e
 refine I.step (g':=s.gens) (d':=s.drawn) (ch:=[it]) (λb hb=>?_) (λb o _ _ hc e _=>k b o (λz=>hc (by simp[z])) e) (λb o _ _ hc e _=>⟨o.slots,k b o (λz=>hc (by simp[z])) e⟩) (λ_ _ _ _ n=>n)
  (λb o hc e=>⟨o,k b o (λz=>hc (by simp[z])) e⟩) (λ_ _ e=>e) (λ_ _ _ e=>e) (λb ps e=>⟨#[],by rw[e];simp⟩) (λm hm=>?_) (λb u e=>?_) I.bare
 ·have e:b=it:=by simpa using hb
  subst e;exact⟨h1,hL,h2,h3⟩
 ·obtain⟨o,es,ep,ho,r⟩:=hm;exact⟨o,es,ep,k _ o (cR hL) ho,r⟩
 ·refine(I.hok b u e).stay (λc v hc q=>k c v ?_ q) (λ_ q=>q) λ_ _ q=>q;rcases hc with z|z
  ·rw[z];exact nit b u e
  ·exact nit c _ z
theorem Inv.tok(I:Inv X pins σ H s)(t:Nat):Inv X pins σ H { s with toks:=t }:=I.un (h':=s.heap) (t':=t) Un.refl I.hok
theorem Inv.kept(I:Inv X pins σ H s)(k:∀b u,s.heap.get? b=some u->h'.get? b=some u):Inv X pins σ H { s with heap:=h',toks:=t' }:=I.un (Un.kept k) (I.hok.kept k)
theorem Inv.laid(I:Inv X pins σ H s)(k:∀b u,s.heap.get? b=some u->h'.get? b=some u)(hp:s.heap.objs.size<=a)(new:pL X.prog X.w (upd H a o) h' a o):
  Inv X pins σ (upd H a o) { s with heap:=h',toks:=t' }:=I.un (Un.laid k hp (I.hok.fresh hp)) (I.hok.laid k hp new)
theorem Inv.write{x e:Addr}(I:Inv X pins σ H s)(mu:Mut (H x))(he:e=x\/H e=some (.own x))(k:∀b u,b≠e->s.heap.get? b=some u->h'.get? b=some u)(heo:∃u,h'.get? e=some u)
  (new:pL X.prog X.w (upd H x o) h' x o):Inv X pins σ (upd H x o) { s with heap:=h',toks:=t' }:=I.un (Un.write mu he k heo) (I.hok.write mu he k heo new)
theorem Inv.weak{σ':List (Option V)}(I:Inv X pins σ H s)(hl:σ'.length=σ.length)(w:∀(i:Nat) v,σ'[i]?=some (some v)->σ[i]?=some (some v)):Inv X pins σ' H s:=
 ⟨I.ok,I.os,I.bare,I.base,let ⟨m,hn,hl'⟩:=I.loc;⟨m,hn,λi x v e1 e2 e3=>hl' i x v e1 (w i v e2) e3⟩,I.cell,I.free,I.freeC,I.pin,I.hok,hl.trans I.len⟩
theorem Inv.pins_of{pins':cn}(I:Inv X pins σ H s)(h:∀p∈pins',s.heap.get? p.1=some p.2/\H p.1=none/\p.1≠X.env.locals/\p.1∉X.fs/\∀v,p.2.data≠.cell v):Inv X pins' σ H s:=
 ⟨I.ok,I.os,I.bare,I.base,I.loc,I.cell,I.free,I.freeC,λp hp=>(bw.mp hp).elim (λz=>I.pin p (bG _ z)) (h p),I.hok,I.len⟩
theorem Fq(hN:N.Nodup){x:Str}(a:N[i]?=some x)(b:N[j]?=some x):i=j:=by obtain⟨h1,e1⟩:=bQ.mp a;obtain⟨h2,e2⟩:=bQ.mp b;exact(jE hN).mp (e1.trans e2.symm)
theorem JO{A:aH}{x:Str}{v:V}{Q:Unit->af->Prop}(I:Inv X pins σ H s)(hN:X.N.Nodup)(hi:X.N[i]?=some x)(hx:Loc X.env.scope x)(r:RelV v u)
  (h:∀s',Inv X pins (σ.set i (some v)) H s'->(∃a,fA a s.heap s'.heap/\(a=X.env.locals\/X.env.cells.lookup x=some a))->Q () s') (hf:X.fn x=true\/X.env.scope.names.lookup x=some .local:=by first|exact .inl rfl|exact .inr rfl|assumption):wpAny M A (storeName X.env x u) Q E s:=by
 obtain⟨m,hn,hl⟩:=id I.loc;have hcls:(X.env.scope.kind==.class||(X.env.scope.kind==.module&&X.env.locals != X.env.globals))=false:=by rw[I.ok.kind];rfl
 have hiσ:i<σ.length:=by rw[I.len];exact(bQ.mp hi).1
 have cne:=I.cne;have tracked:∀{a:Addr} {h':Heap},(∃o,s.heap.get? a=some o/\H a=none)->fA a s.heap h'->HOk X.prog X.w H h':=λ{a h'} ha hs b ob e=>by
  obtain⟨_,_,hfree⟩:=ha;refine(I.hok b ob e).stay (λc w' hc q=>(hs.2 c ?_).trans q) (λ_ q=>q) λ_ _ q=>q;rintro rfl;rcases hc with rfl|hc
  ·rw[hfree]at e;cases e
  ·rw[hfree]at hc;cases hc
 rcases hx with hk|hk
 ·refine wpAny_storeName_local hk hn (λh' hn' hs=>?_) hcls;obtain⟨oL,_,_,hoL,_⟩:=id hn;refine h _ ⟨I.ok,I.os,I.bare,⟨λb o e n hb hx=>?_,λb o e n hb hx=>?_,I.base.free,λb o e hx=>?_,I.base.tups,I.base.frzs,I.base.tbls⟩,⟨_,hn',λj y v' e1 e2 e3=>?_⟩,λy c e=>?_,I.free,I.freeC,λp hp=>?_,tracked ⟨oL,hoL,I.free⟩ hs,by simpa using I.len⟩ ⟨_,hs,.inl rfl⟩
  ·exact(hs.2 b (aT (bW (aO e) I.ok.above))).trans (I.base.keep b o e n hb hx)
  ·obtain⟨sl,e1⟩:=I.base.slot b o e n hb hx;exact⟨sl,(hs.2 b (aT (bW (aO e) I.ok.above))).trans e1⟩
  ·obtain⟨o',e1⟩:=I.base.there b o e hx;exact⟨o',(hs.2 b (aT (bW (aO e) I.ok.above))).trans e1⟩
  ·by_cases hj:j=i
   ·subst hj;rw[hi]at e1;cases e1;rw[hU hiσ]at e2;cases e2;exact⟨u,r,.inl ⟨hk,by simp⟩⟩
   ·rw[jn (cR hj)]at e2;obtain⟨u',r',q⟩:=hl j y v' e1 e2 e3;refine⟨u',r',?_⟩;rcases q with ⟨k,e⟩|⟨k,c,e,z⟩
    ·refine .inl ⟨k,?_⟩;have:y≠x:=λe=>hj (Fq hN e1 (e▸hi));simp[this,e]
    ·exact .inr ⟨k,c,e,z.sameBut hs (cne y c e)⟩
  ·obtain⟨w',z⟩:=I.cell y c e;exact⟨w',z.sameBut hs (cne y c e)⟩
  ·obtain⟨e,n,ne,nf,d⟩:=I.pin p hp;exact⟨(hs.2 p.1 ne).trans e,n,ne,nf,d⟩
 ·have hfn:X.fn x=true:=by
   rcases hf with z|z
   ·exact z
   ·rw[z]at hk;cases hk
  obtain⟨c,hc⟩:=I.ok.has x (.inl hk);obtain⟨w',z⟩:=I.cell x c hc;refine wpAny_storeName_cell I.ok.kind hk hc z (λh' hc' hs=>?_);obtain⟨oc,hoc,hocd⟩:=id z;refine h { s with heap:=h' } ⟨I.ok,I.os,I.bare,⟨λb o e n hb hx=>?_,λb o e n hb hx=>?_,I.base.free,λb o e hx=>?_,I.base.tups,I.base.frzs,I.base.tbls⟩,⟨m,hn.sameBut hs (cR (cne x c hc)),λj y v' e1 e2 e3=>?_⟩,λy c' e=>?_,I.free,I.freeC,λp hp=>?_,tracked ⟨oc,hoc,I.freeC x c hc⟩ hs,by simpa using I.len⟩ ⟨c,hs,.inr hc⟩
  ·exact(hs.2 b (aT (bW (aO e) (I.ok.cab x c hfn hc)))).trans (I.base.keep b o e n hb hx)
  ·obtain⟨sl,e1⟩:=I.base.slot b o e n hb hx;exact⟨sl,(hs.2 b (aT (bW (aO e) (I.ok.cab x c hfn hc)))).trans e1⟩
  ·obtain⟨o',e1⟩:=I.base.there b o e hx;exact⟨o',(hs.2 b (aT (bW (aO e) (I.ok.cab x c hfn hc)))).trans e1⟩
  ·by_cases hj:j=i
   ·subst hj;rw[hi]at e1;cases e1;rw[hU hiσ]at e2;cases e2;exact⟨u,r,.inr ⟨.inl hk,c,hc,hc'⟩⟩
   ·rw[jn (cR hj)]at e2;obtain⟨u',r',q⟩:=hl j y v' e1 e2 e3;refine⟨u',r',?_⟩;rcases q with q|⟨k,c',e,z'⟩
    ·exact .inl q
    ·refine .inr ⟨k,c',e,z'.sameBut hs ?_⟩;rintro rfl;exact hj (Fq hN e1 (I.ok.inj _ _ _ e hc▸hi))
  ·by_cases hcc:c'=c
   ·subst hcc;exact⟨_,hc'⟩
   ·obtain⟨w2,z2⟩:=I.cell y c' e;exact⟨w2,z2.sameBut hs hcc⟩
  ·obtain⟨e,n,ne,nf,d⟩:=I.pin p hp;refine⟨(hs.2 p.1 ?_).trans e,n,ne,nf,d⟩;intro q;rw[q,hoc]at e;have q':oc=p.2:=cc e;exact d w' (by rw[<-q'];exact hocd)
theorem Fs{A:aH}{x:Str}{v:V}{Q:Unit->af->Prop}(I:Inv X pins σ H s)(hN:X.N.Nodup)(hi:X.N[i]?=some x)(hx:Loc X.env.scope x)(r:RelV v u)
  (h:∀s',Inv X pins (σ.set i (some v)) H s'->Q () s') (hf:X.fn x=true\/X.env.scope.names.lookup x=some .local:=by first|exact .inl rfl|exact .inr rfl|assumption):wpAny M A (storeName X.env x u) Q E s:=
 JO I hN hi hx r (λs' I' _=>h s' I') hf
theorem Inv.call'(I:Inv X pins σ H s)(ho:s'.os=s.os)(u:Un (frs X.stack) ch H H' s.heap s'.heap)(hok:HOk X.prog X.w H' s'.heap)(hg:dj s'.gens)
  (hch:∀b∈ch,(b∈X.ex\/X.s₀.heap.objs.size<=b)/\b≠X.env.locals/\(∀x c,X.env.cells.lookup x=some c->c≠b)/\∀p∈X.pn++pins,p.1≠b):Inv X pins σ H' s':=by
 obtain⟨h',g',d',t',o'⟩:=s';have e:o'=s.os:=ho;subst e;exact I.call (g':=g') (t':=t') (d':=d') u hok hg hch
end
abbrev XK:=aa->Option Addr->Hp->Prop
abbrev St:=List (Option V)
abbrev VK:=V->Hp->Prop
abbrev TE:=St->Hp->VK->Prop
abbrev TT:=St->Hp->(Bool->Hp->Prop)->Prop
abbrev TA:=St->Hp->(bt->Hp->Prop)->Prop
structure Ends where
 nx:St->Hp->Prop
 rt:VK
 bk:St->Hp->Prop:=λ_ _=>False
 ct:St->Hp->Prop:=λ_ _=>False
abbrev TS:=Ends->St->Hp->Prop
def EP(X:Cx)(pins:cn)(σ:St)(Q:VK)(u:aa)(s':af):Prop:=∃v H',Inv X pins σ H' s'/\RelV v u/\Q v H'
def TP(X:Cx)(pins:cn)(σ:St)(Q:Bool->Hp->Prop)(b:Bool)(s':af):Prop:=∃H',Inv X pins σ H' s'/\Q b H'
def AP(X:Cx)(pins:cn)(σ:St)(Q:bt->Hp->Prop)(us:List aa)(s':af):Prop:=∃vs H',Inv X pins σ H' s'/\Vals vs us/\Q vs H'
def SP(X:Cx)(pins:cn)(D:Ends)(f:Flow)(s':af):Prop:=
 match f with
 |.next=>∃σ' H',Inv X pins σ' H' s'/\D.nx σ' H'
 |.brk=>∃σ' H',Inv X pins σ' H' s'/\D.bk σ' H'
 |.cont=>∃σ' H',Inv X pins σ' H' s'/\D.ct σ' H'
 |.ret u=>∃v σ' H',Inv X pins σ' H' s'/\RelV v u/\D.rt v H'
def PE(X:Cx)(e:Expr)(t:TE):Prop:=
 ∀(pins:cn) (s:af) (σ:St) (H:Hp) (Q:VK),Inv X pins σ H s->t σ H Q->wpAny (model X.prog X.w) X.A (eval e X.env) (EP X pins σ Q) X.xe s
def PT(X:Cx)(e:Expr)(t:TT):Prop:=
 ∀(pins:cn) (s:af) (σ:St) (H:Hp) (Q:Bool->Hp->Prop),Inv X pins σ H s->t σ H Q->wpAny (model X.prog X.w) X.A (isTrue e X.env (eval e X.env)) (TP X pins σ Q) X.xe s
def PW(X:Cx)(e:Expr)(t:TT):Prop:=
 ∀(whole:Sem aa) (pins:cn) (s:af) (σ:St) (H:Hp) (Q:Bool->Hp->Prop),Inv X pins σ H s->t σ H Q->wpAny (model X.prog X.w) X.A (isTrue e X.env whole) (TP X pins σ Q) X.xe s
variable{X:Cx}{e:Expr}
theorem PW.pt{t:TT}(h:PW X e t):PT X e t:=h _
def PA(X:Cx)(es:List Expr)(t:TA):Prop:=
 ∀(pos:Pos) (pins:cn) (s:af) (σ:St) (H:Hp) (Q:bt->Hp->Prop),Inv X pins σ H s->t σ H Q->wpAny (model X.prog X.w) X.A (spliced (backTo pos (starEach es X.env))) (AP X pins σ Q) X.xe s
def PS(X:Cx)(st:Stmt)(t:TS):Prop:=
 ∀(pins:cn) (s:af) (σ:St) (H:Hp) (D:Ends),Inv X pins σ H s->t D σ H->wpAny (model X.prog X.w) X.A (exec st X.env) (SP X pins D) X.xe s
def PSs(X:Cx)(st:List Stmt)(t:TS):Prop:=
 ∀(pins:cn) (s:af) (σ:St) (H:Hp) (D:Ends),Inv X pins σ H s->t D σ H->wpAny (model X.prog X.w) X.A (execs st X.env) (SP X pins D) X.xe s
theorem thn{α:Type}{t:Sem α}{Q Q':α->af->Prop}{A:aH}{s:af}(h:wpAny M A t Q E s)(hQ:∀a s,Q a s->Q' a s):wpAny M A t Q' E s:=bT h hQ λ_ _ x=>x
variable{pins:cn}{σ:St}{pos:Pos}{Q:aa->af->Prop}{t:TE}{c:Expr}
section
variable{X:Cx}
theorem bin{a b:Expr}{ta tb:TE}(ha:PE X a ta)(hb:PE X b tb){s:af}{H:Hp}{R:V->V->Hp->Prop}(I:Inv X pins σ H s)(h:ta σ H λx H1=>tb σ H1 λy H2=>R x y H2)
  {α:Type} {Q:α->af->Prop} {f:aa->aa->Sem α}
  (hf:∀v u s2 x y H2,Inv X pins σ H2 s2->RelV x v->RelV y u->R x y H2->wpAny (model X.prog X.w) X.A (f v u) Q X.xe s2):
  wpAny (model X.prog X.w) X.A (eval a X.env) (λv s₁=>wpAny (model X.prog X.w) X.A (eval b X.env) (λu s₂=>wpAny (model X.prog X.w) X.A (f v u) Q X.xe s₂) X.xe s₁) X.xe s:=by
 refine thn (ha pins s σ H _ I h) λv s1 ⟨x,H1,I1,r1,q1⟩=>?_;refine thn (hb pins s1 σ H1 _ I1 q1) λu s2 ⟨y,H2,I2,r2,q2⟩=>?_;exact hf v u s2 x y H2 I2 r1 r2 q2
def uM(i:Nat):TE:=λσ H Q=>∃v,σ[i]?=some (some v)/\Q v H
def tC(v:V):TE:=λ_ H Q=>Q v H
theorem Q5{x:Str}(hN:X.N[i]?=some x)(hv:Vis X.env.scope x)(hd:(x==("__debug__" : Str))=false:=by decide)(hcd:(x==("__classdict__" : Str))=false:=by decide):PE X (.Name x pos) (uM i):=by
 intro pins s σ H Q I h;obtain⟨v,e,h⟩:=h;obtain⟨m,hn,hl⟩:=I.loc;obtain⟨u,r,l⟩:=hl i x v hN e hv;have fin:EP X pins σ Q u s:=⟨v,H,I,r,h⟩;rcases l with ⟨hk,hm⟩|⟨hk,c,hc,hcell⟩
 ·exact kj (wpAny_loadName_local I.ok.kind hk hn hm fin) hd
 ·rcases hk with hk|hk
  ·exact kj (wpAny_loadName_cell I.ok.kind hk hc hcell fin) hd
  ·exact kj (wpAny_loadName_free I.ok.kind hk hc hcell fin hcd) hd
theorem GY{i j pos}:PE X (.Constant (.int i) j pos) (tC (.int i)):=λ_ _ _ H _ I h=>wpAny_Constant_int ⟨.int i,H,I.tok _,⟨_,rfl⟩,h⟩
theorem Vx{b j pos}:PE X (.Constant (.bool b) j pos) (tC (.bl b)):=λ_ _ _ H _ I h=>Constant_bool ⟨.bl b,H,I,rfl,h⟩
theorem Q6{j pos}:PE X (.Constant .none j pos) (tC .non):=λ_ _ _ H _ I h=>Constant_none ⟨.non,H,I,rfl,h⟩
theorem K6{x j pos}:PE X (.Constant (.str x) j pos) (tC (.str x)):=λ_ _ _ H _ I h=>Calls.Constant_str ⟨.str x,H,I.tok _,⟨_,rfl⟩,h⟩
def Gl(X:Cx)(x:Str):Prop:=X.env.kindOf x=some .globalImplicit
theorem yU{s:af}{H:Hp}{x:Str}(I:Inv X pins σ H s)(hg:Gl X x)(hm:X.mg x=some u)(h:Q u s)
  (hd:(x==("__debug__" : Str))=false:=by decide):wpAny (model X.prog X.w) X.A (eval (.Name x pos) X.env) Q E s:=
 lb I.ok.kind hg (Calls.loadGlobal_global (by rw[I.ok.glob];exact I.mod.glob.keeps I.bk) hm h) hd
theorem yw{s:af}{H:Hp}{x:Str}(I:Inv X pins σ H s)(hg:Gl X x)(hm:X.mg x=none)(hv:bootBuiltins x=some u)(h:Q u s)
  (hn:x≠"__name__" := by decide) (hd:(x==("__debug__" : Str))=false:=by decide):wpAny (model X.prog X.w) X.A (eval (.Name x pos) X.env) Q E s:=by
 obtain⟨mb,h1,h2⟩:=I.mod.blt;exact lb I.ok.kind hg (Calls.loadGlobal_builtin (by rw[I.ok.glob];exact I.mod.glob.keeps I.bk) hm (by rw[I.ok.blt];exact h1.keeps I.bk) ((h2 x hn).trans hv) h) hd
theorem Iu{x:Str}{v:V}(hg:Gl X x)(hm:X.mg x=some u)(r:RelV v u)(hd:(x==("__debug__" : Str))=false:=by decide):PE X (.Name x pos) (tC v):=
 λ_ _ _ H _ I h=>yU I hg hm ⟨v,H,I,r,h⟩ hd
theorem N8{x:Str}{v:V}(hg:Gl X x)(hm:X.mg x=none)(hv:bootBuiltins x=some u)(r:RelV v u)(hn:x≠"__name__" := by decide)(hd:(x==("__debug__" : Str))=false:=by decide):PE X (.Name x pos) (tC v):=
 λ_ _ _ H _ I h=>yw I hg hm hv ⟨v,H,I,r,h⟩ hn hd
variable{a b:Expr}{ta tb:TE}{pos:Pos}
def PC(X:Cx)(op:cg)(a b:Expr)(t:TE):Prop:=
 ∀(pins:cn) (s:af) (σ:St) (H:Hp) (Q:VK),Inv X pins σ H s->t σ H Q->
  wpAny (model X.prog X.w) X.A (eval a X.env) (λv s₁=>wpAny (model X.prog X.w) X.A (eval b X.env) (λu s₂=>wpAny (model X.prog X.w) X.A (compareOp op v u) (EP X pins σ Q) X.xe s₂) X.xe s₁) X.xe s
def tB(t:TE):TT:=λσ H Q=>t σ H λx H1=>∃c,x=.bl c/\Q c H1
theorem Q7{op:cg}(h:PC X op a b t)(h1:behindInMarks op b=false:=by first|exact nobehind _ (by decide) (by decide)|rfl):PE X (.Compare a [op] [b] pos) t:=λpins s σ H Q I hw=>wpAny_Compare1 (h pins s σ H Q I hw) h1
theorem Q8{op:cg}(h:PC X op a b t)(h1:behindInMarks op b=false:=by first|exact nobehind _ (by decide) (by decide)|rfl):PT X (.Compare a [op] [b] pos) (tB t):=by intro pins s σ H Q I hw;refine lK (thn (h pins s σ H _ I hw) λv s1 h1=>thn h1 λu s2 h2=>thn h2 λc s3 ⟨x,H1,I1,r1,q1⟩=>?_) h1;obtain⟨d,rfl,q⟩:=q1;cases r1;exact cN ⟨H1,I1,q⟩
theorem Q9(h:PE X e t)(he:∀whole,isTrue e X.env whole=(do let v<-whole;standAt e.pos;holding [v] (truthy v)):=by intro _;rfl):PT X e (tB t):=by intro pins s σ H Q I hw;refine isTrue_plain (thn (h pins s σ H _ I hw) λv s1 ⟨x,H1,I1,r1,q1⟩=>?_) (he _);obtain⟨d,rfl,q⟩:=q1;cases r1;exact cN ⟨H1,I1,q⟩
variable{tA tB':TT}{rest:List Expr}
def Vy(t u:TT):TT:=λσ H Q=>t σ H λc H1=>if c=true then u σ H1 Q else Q false H1
def tOr(t u:TT):TT:=λσ H Q=>t σ H λc H1=>if c=true then Q true H1 else u σ H1 Q
def Xd(t:TT):TT:=λσ H Q=>t σ H λc H1=>Q (!c) H1
theorem N9(ha:PT X a tA):PW X (.BoolOp .And [a] pos) tA:=by
 intro wh pins s σ H Q I h;refine isTrue_and (thn (ha pins s σ H Q I h) λc s1 e=>?_);cases c with
 |true=>exact isTrue_and_nil e
 |false=>exact e
theorem Rb(ha:PT X a tA):PW X (.BoolOp .Or [a] pos) tA:=by
 intro wh pins s σ H Q I h;refine isTrue_or (thn (ha pins s σ H Q I h) λc s1 e=>?_);cases c with
 |false=>exact isTrue_or_nil e
 |true=>exact e
theorem Re(ha:PT X a tA)(hb:PW X (.BoolOp .And (b::rest) pos) tB'):PW X (.BoolOp .And (a::b::rest) pos) (Vy tA tB'):=by
 intro wh pins s σ H Q I h;refine isTrue_and (thn (ha pins s σ H _ I h) λc s1 ⟨H1,I1,q1⟩=>?_);cases c with
 |true=>exact hb wh pins s1 σ H1 Q I1 q1
 |false=>exact⟨H1,I1,q1⟩
theorem Vz(ha:PT X a tA)(hb:PW X (.BoolOp .Or (b::rest) pos) tB'):PW X (.BoolOp .Or (a::b::rest) pos) (tOr tA tB'):=by
 intro wh pins s σ H Q I h;refine isTrue_or (thn (ha pins s σ H _ I h) λc s1 ⟨H1,I1,q1⟩=>?_);cases c with
 |true=>exact⟨H1,I1,q1⟩
 |false=>exact hb wh pins s1 σ H1 Q I1 q1
theorem Rf(ha:PT X a tA):PT X (.UnaryOp .Not a pos) (Xd tA):=by intro pins s σ H Q I h;exact isTrue_not (ha pins s σ H (λc H1=>Q (!c) H1) I h)
def VA(ta tb:TE):TE:=λσ H Q=>ta σ H λx H1=>∃c,x=.bl c/\if c=true then tb σ H1 Q else Q (.bl false) H1
def Xe(ta tb:TE):TE:=λσ H Q=>ta σ H λx H1=>∃c,x=.bl c/\if c=true then Q (.bl true) H1 else tb σ H1 Q
def VB(ta:TE):TE:=λσ H Q=>ta σ H λx H1=>∃c,x=.bl c/\Q (.bl (!c)) H1
theorem Rg{op}(h:PE X a t):PE X (.BoolOp op [a] pos) t:=λpins s σ H Q I hw=>BoolOp_one (h pins s σ H Q I hw)
theorem Rh(ha:PE X a ta)(hb:PE X (.BoolOp .And (b::rest) pos) tb):PE X (.BoolOp .And (a::b::rest) pos) (VA ta tb):=by
 intro pins s σ H Q I h;refine BoolOp_and (thn (ha pins s σ H _ I h) λv s1 ⟨x,H1,I1,r1,q1⟩=>?_);obtain⟨c,rfl,q1⟩:=q1;cases r1;refine cN ?_;cases c with
 |true=>exact hb pins s1 σ H1 Q I1 q1
 |false=>exact⟨.bl false,H1,I1,rfl,q1⟩
theorem VC(ha:PE X a ta)(hb:PE X (.BoolOp .Or (b::rest) pos) tb):PE X (.BoolOp .Or (a::b::rest) pos) (Xe ta tb):=by
 intro pins s σ H Q I h;refine BoolOp_or (thn (ha pins s σ H _ I h) λv s1 ⟨x,H1,I1,r1,q1⟩=>?_);obtain⟨c,rfl,q1⟩:=q1;cases r1;refine cN ?_;cases c with
 |false=>exact hb pins s1 σ H1 Q I1 q1
 |true=>exact⟨.bl true,H1,I1,rfl,q1⟩
theorem Rj(ha:PE X a ta):PE X (.UnaryOp .Not a pos) (VB ta):=by intro pins s σ H Q I h;refine UnaryOp_ (thn (ha pins s σ H _ I h) λv s1 ⟨x,H1,I1,r1,q1⟩=>?_);obtain⟨c,rfl,q1⟩:=q1;cases r1;exact not_of (cN ⟨.bl (!c),H1,I1,rfl,q1⟩)
def tIf(t:TT)(ta tb:TE):TE:=λσ H Q=>t σ H λc H1=>if c=true then ta σ H1 Q else tb σ H1 Q
theorem K7(hc:PT X c tA)(ha:PE X a ta)(hb:PE X b tb):PE X (.IfExp c a b pos) (tIf tA ta tb):=by
 intro pins s σ H Q I h;refine wpAny_IfExp (thn (hc pins s σ H _ I h) λd s1 ⟨H1,I1,q1⟩=>?_);cases d with
 |true=>exact ha pins s1 σ H1 Q I1 q1
 |false=>exact hb pins s1 σ H1 Q I1 q1
end
def SqL(K:au)(H:Hp)(a:Addr)(xs:bt):Prop:=
 Rd H a (.lst xs)\/
  ∃(o:Obj) (its:Array aa) (n:Nat),K.lookup a=some o/\o.cls=.type "list" /\ o.dict=none/\o.data=.seq its n/\its.size<=sizeLine/\Vals xs its.toList
def SqT(K:au)(H:Hp)(a:Addr)(xs:bt):Prop:=
 Rd H a (.tup xs)\/
  ∃(o:Obj) (its:Array aa) (n:Nat),K.lookup a=some o/\o.cls=.type "tuple" /\ o.data=.seq its n/\its.size<=sizeLine/\Vals xs its.toList
def Xf:aa->Option V
 |.none=>some .non
 |.bool b=>some (.bl b)
 |.int i _=>some (.int i)
 |.str x _=>some (.str x)
 |.bytes b _=>some (.byt b)
 |.float b _=>some (.flt b)
 |.ref a=>some (.ref a)
 |.type n=>some (.ty n)
 |_=>none
theorem RelV.abs{x:V}(r:RelV x u):Xf u=some x:=by
 cases x with
 |non=>cases r;rfl
 |bl _=>cases r;rfl
 |int _=>obtain⟨t,rfl⟩:=r;rfl
 |str _=>obtain⟨t,rfl⟩:=r;rfl
 |byt _=>obtain⟨t,rfl⟩:=r;rfl
 |flt _=>obtain⟨t,rfl⟩:=r;rfl
 |ref _=>cases r;rfl
 |ty _=>cases r;rfl
variable{y:V}
theorem RelV.inj{x:V}(r:RelV x u)(q:RelV y u):x=y:=cc (r.abs.symm.trans q.abs)
theorem Vals.inj:∀{xs ys:bt} {us:List aa},Vals xs us->Vals ys us->xs=ys
 |_,_,_,.nil,.nil=>rfl
 |_,_,_,.cons r t,.cons r' t'=>by rw[r.inj r',Vals.inj t t']
section
variable{X:Cx}{pins:cn}{σ:St}{H:Hp}{s:af}{a:Addr}{xs ys:bt}
theorem SqL.of{K:au}(h:H a=some (.lst xs)):SqL K H a xs:=.inl (.inl h)
theorem SqT.of{K:au}(h:H a=some (.tup xs)):SqT K H a xs:=.inl (.inl h)
theorem Inv.list(I:Inv X pins σ H s)(h:SqL X.K H a xs):∃its:List aa,Vals xs its/\PlainL s.heap a its.toArray/\xs.length<=sizeLine:=by
 rcases h with h|⟨o,its,n,hk,hc,hd,hs,hz,r⟩
 ·obtain⟨z,its,n,r,e⟩:=h.ok I.hok;exact⟨its,r,⟨_,n,e,rfl,rfl,rfl⟩,z⟩
 ·refine⟨its.toList,r,⟨o,n,I.kIn a o hk,hc,hd,by simpa using hs⟩,?_⟩;have e:=r.length;simp only[eB]at e;omega
theorem Inv.tuple(I:Inv X pins σ H s)(h:SqT X.K H a xs):∃its:List aa,Vals xs its/\dr s.heap a its.toArray/\xs.length<=sizeLine:=by
 rcases h with h|⟨o,its,n,hk,hc,hs,hz,r⟩
 ·obtain⟨z,its,r,p⟩:=h.ok I.hok;exact⟨its,r,p,z⟩
 ·refine⟨its.toList,r,⟨o,I.kIn a o hk,hc,n,by simpa using hs⟩,?_⟩;have e:=r.length;simp only[eB]at e;omega
theorem Inv.list_inj(I:Inv X pins σ H s)(h:SqL X.K H a xs)(h':SqL X.K H a ys):xs=ys:=by
 obtain⟨its,r,⟨o,n,e,_,_,d⟩,_⟩:=I.list h;obtain⟨its',r',⟨o',n',e',_,_,d'⟩,_⟩:=I.list h';rw[e]at e';cases e';rw[d]at d';injection d' with d1 _;have:its=its':=by simpa using aS nt d1
 subst this;exact r.inj r'
theorem Inv.tuple_inj(I:Inv X pins σ H s)(h:SqT X.K H a xs)(h':SqT X.K H a ys):xs=ys:=by
 obtain⟨its,r,⟨o,e,_,n,d⟩,_⟩:=I.tuple h;obtain⟨its',r',⟨o',e',_,n',d'⟩,_⟩:=I.tuple h';rw[e]at e';cases e';rw[d]at d';injection d' with d1 _;have:its=its':=by simpa using aS nt d1
 subst this;exact r.inj r'
end
abbrev Cx.wish(X:Cx)(E:aa->af->Prop):Cx:={ X with xe:=E }
abbrev Cx.nox(X:Cx):Cx:=X.wish λ_ _=>False
theorem Cx.Ok.wish(ok:X.Ok)(E:aa->af->Prop):(X.wish E).Ok:=
 ⟨ok.mod,ok.kind,ok.glob,ok.blt,ok.above,ok.inj,ok.has,ok.cab,ok.hd,ok.frames,ok.stk,ok.exf,ok.bs,ok.bsz,ok.noex,ok.exfs,ok.funs,ok.frf⟩
theorem Cx.Ok.unwish(ok:(X.wish E).Ok):X.Ok:=
 ⟨ok.mod,ok.kind,ok.glob,ok.blt,ok.above,ok.inj,ok.has,ok.cab,ok.hd,ok.frames,ok.stk,ok.exf,ok.bs,ok.bsz,ok.noex,ok.exfs,ok.funs,ok.frf⟩
section
variable{X:Cx}{pins:cn}{σ:St}{H:Hp}{s:af}{E:aa->af->Prop}
theorem Inv.wish(I:Inv X pins σ H s)(E:aa->af->Prop):Inv (X.wish E) pins σ H s:=⟨I.ok.wish E,I.os,I.bare,I.base,I.loc,I.cell,I.free,I.freeC,I.pin,I.hok,I.len⟩
theorem Inv.unwish(I:Inv (X.wish E) pins σ H s):Inv X pins σ H s:=⟨I.ok.unwish,I.os,I.bare,I.base,I.loc,I.cell,I.free,I.freeC,I.pin,I.hok,I.len⟩
theorem SP.unwish{D:Ends}{f:Flow}(h:SP (X.wish E) pins D f s'):SP X pins D f s':=by
 cases f with
 |next=>obtain⟨σ',H',I,q⟩:=h;exact⟨σ',H',I.unwish,q⟩
 |brk=>obtain⟨σ',H',I,q⟩:=h;exact⟨σ',H',I.unwish,q⟩
 |cont=>obtain⟨σ',H',I,q⟩:=h;exact⟨σ',H',I.unwish,q⟩
 |ret u=>obtain⟨v,σ',H',I,r,q⟩:=h;exact⟨v,σ',H',I.unwish,r,q⟩
theorem PSs.nox{st:List Stmt}{t:TS}(h:PSs X.nox st t):PSs X st t:=λpins s σ H D I hw=>
 bT (h pins s σ H D (I.wish _) hw) (λ_ _ q=>q.unwish) λ_ _ z=>cF z
end
variable{tc:TT}
section
variable{X:Cx}{st:Stmt}{rest:List Stmt}{t u:TS}{e:Expr}{te:TE}{pos:Pos}
def VD:TS:=λD σ H=>D.nx σ H
def Xg(t u:TS):TS:=λD σ H=>t { D with nx:=u D } σ H
theorem Oa:PSs X [] VD:=λ_ _ σ H _ I h=>ir ⟨σ,H,I,h⟩
theorem Bx(h1:PS X st t)(h2:PSs X rest u):PSs X (st::rest) (Xg t u):=by
 intro pins s σ H D I h;refine wpAny_execs_cons (thn (h1 pins s σ H { D with nx:=u D } I h) λf s1 q=>?_);cases f with
 |next=>obtain⟨σ',H',I',q⟩:=q;exact h2 pins s1 σ' H' D I' q
 |ret v=>exact q
 |brk=>exact q
 |cont=>exact q
theorem Eu(h1:PS X st t):PSs X [st] t:=by
 intro pins s σ H D I h;refine wpAny_execs_cons (thn (h1 pins s σ H D I h) λf s1 q=>?_);cases f with
 |next=>exact ir q
 |ret v=>exact q
 |brk=>exact q
 |cont=>exact q
theorem Inv.quiet{H:Hp}{s:af}(I:Inv X pins σ H s):interactive X.env=false:=by simp[interactive,I.ok.kind]
def QE(te:TE):TS:=λD σ H=>te σ H λ_ H1=>D.nx σ H1
theorem Iv(he:PE X e te)(hs:swapsWith e none pos.line X.env=pure false:=by rfl):PS X (.Expr e pos) (QE te):=by intro pins s σ H D I h;exact wpAny_Expr_any (thn (he pins s σ H _ I h) λv s1 ⟨x,H1,I1,r1,q1⟩=>⟨σ,H1,I1,q1⟩) I.quiet hs
def VE(te:TE):TS:=λD σ H=>te σ H D.rt
theorem GZ(he:PE X e te):PS X (.Return (some e) pos) (VE te):=by intro pins s σ H D I h;exact wpAny_Return_some (thn (he pins s σ H _ I h) λv s1 ⟨x,H1,I1,r1,q1⟩=>⟨x,σ,H1,I1,r1,q1⟩)
def Xh(c:TT)(t u:TS):TS:=λD σ H=>c σ H λb H1=>if b=true then t D σ H1 else u D σ H1
theorem VF{a b:List Stmt}(hc:PT X c tc)(ha:PSs X a t)(hb:PSs X b u):PS X (.If c a b pos) (Xh tc t u):=by
 intro pins s σ H D I h;refine wpAny_If (thn (hc pins s σ H _ I h) λd s1 ⟨H1,I1,q1⟩=>?_);cases d with
 |true=>exact ha pins s1 σ H1 D I1 q1
 |false=>exact hb pins s1 σ H1 D I1 q1
end
abbrev TG:=V->St->Hp->(St->Hp->Prop)->Prop
abbrev TGs:=bt->St->Hp->(St->Hp->Prop)->Prop
def PG(X:Cx)(target:Expr)(t:TG):Prop:=
 ∀(pins:cn) (s:af) (σ:St) (H:Hp) (v:V) (u:aa) (Q:St->Hp->Prop),Inv X pins σ H s->RelV v u->t v σ H Q->
  wpAny (model X.prog X.w) X.A (assign target X.env u) (λ_ s'=>∃σ' H',Inv X pins σ' H' s'/\Q σ' H') X.xe s
def PGs(X:Cx)(ts:List Expr)(t:TGs):Prop:=
 ∀(pins:cn) (s:af) (σ:St) (H:Hp) (vs:bt) (us:List aa) (Q:St->Hp->Prop),Inv X pins σ H s->Vals vs us->t vs σ H Q->
  wpAny (model X.prog X.w) X.A (assignInOrder ((assignEach ts X.env).map (·.2)) us) (λ_ s'=>∃σ' H',Inv X pins σ' H' s'/\Q σ' H') X.xe s
variable{es:List Expr}{tg:Expr}{te:TE}
section
variable{X:Cx}{pos:Pos}
def u0(i:Nat):TG:=λv σ H Q=>Q (σ.set i (some v)) H
theorem Iw{x:Str}(hN:X.N.Nodup)(hi:X.N[i]?=some x)(hx:Loc X.env.scope x)(hf:X.fn x=true\/X.env.scope.names.lookup x=some .local:=by first|exact .inl rfl|exact .inr rfl|assumption):PG X (.Name x pos) (u0 i):=by intro pins s σ H v u Q I r h;exact wpAny_assign_Name (Fs I hN hi hx r (λs' I'=>⟨_,H,I',h⟩) hf)
def VG:TGs:=λvs σ H Q=>vs=[]/\Q σ H
def QF(t:TG)(u:TGs):TGs:=λvs σ H Q=>∃v r,vs=v::r/\t v σ H λσ' H'=>u r σ' H' Q
theorem Ob:PGs X [] VG:=by intro pins s σ H vs us Q I r h;obtain⟨e,h⟩:=h;subst e;cases r;exact assignInOrder_nil ⟨σ,H,I,h⟩
theorem K8{t:TG}{u:TGs}(h1:PG X e t)(h2:PGs X es u)
  (hs:(assignEach (e::es) X.env).map (·.2)=assign e X.env::(assignEach es X.env).map (·.2):=by rfl):PGs X (e::es) (QF t u):=by
 intro pins s σ H vs us Q I r h;obtain⟨v,vr,e1,h⟩:=h;subst e1;cases r with
 |cons r rr=>rw[hs];refine assignInOrder_cons (thn (h1 pins s σ H _ _ _ I r h) λ_ s1 ⟨σ1,H1,I1,q1⟩=>?_);exact h2 pins s1 σ1 H1 _ _ Q I1 rr q1
def Rk(K:au)(n:Nat)(t:TGs):TG:=λv σ H Q=>∃a xs,v=.ref a/\SqT K H a xs/\xs.length=n/\t xs σ H Q
theorem Rl{k:Nat}{t:TGs}{n:Nat}(hc:X.calm=true)(h:PGs X es t)
  (hn:(assignEach es X.env).length=n:=by rfl) (hst:(assignEach es X.env).findIdx? (·.1)=none:=by rfl):PG X (.Tuple es k pos) (Rk X.K n t):=by
 intro pins s σ H v u Q I r hw;obtain⟨a,xs,e1,hq,hl,hw⟩:=hw;subst e1;cases r;obtain⟨its,rv,ht,hz⟩:=I.tuple hq;refine assign_Tuple_tuple (I.ok.hd hc) ht (by simp[hn,<- hl,rv.length]) hst λh' hx=>?_;have I1:Inv X pins σ H { s with heap:=h' }:=I.kept (t':=s.toks) λb o e=>hx b o (aT (aO e)) e;exact h pins _ σ H xs _ Q I1 (by simpa using rv) hw
def zN(te:TE)(g:TG):TS:=λD σ H=>te σ H λx H1=>g x σ H1 D.nx
theorem Rm{g:TG}(he:PE X e te)(hg:PG X tg g)(hs:swapsWithSole [tg] e pos.line X.env=pure false:=by rfl)(hw:swappedStores [tg] e X.env=pure none:=by rfl)
  (h1:(assignEach [tg] X.env).map (·.2)=[assign tg X.env]:=by rfl):PS X (.Assign [tg] e pos) (zN te g):=by
 intro pins s σ H D I h;refine wpAny_Assign_stores (thn (he pins s σ H _ I h) λv s1 ⟨x,H1,I1,r1,q1⟩=>?_) hs hw;rw[h1];exact thn (hg pins s1 σ H1 x v _ I1 r1 q1) λ_ s2 q=>q
theorem Ro{x:Str}{pos':Pos}(hN:X.N.Nodup)(hi:X.N[i]?=some x)(hx:Loc X.env.scope x)(he:PE X e te)(hs:swapsWith e (some (.Name x pos')) pos.line X.env=pure false:=by rfl)(hf:X.fn x=true\/X.env.scope.names.lookup x=some .local:=by first|exact .inl rfl|exact .inr rfl|assumption):
  PS X (.Assign [.Name x pos'] e pos) (zN te (u0 i)):=by
 intro pins s σ H D I h;refine wpAny_Assign_Name (thn (he pins s σ H _ I h) λv s1 ⟨y,H1,I1,r1,q1⟩=>?_) hs;exact Fs I1 hN hi hx r1 (λs2 I2=>⟨_,H1,I2,q1⟩) hf
end
variable{body:List Stmt}{tb:TS}
section
variable{X:Cx}{pos:Pos}
def K9(c:TT)(tb:TS):TS:=λD σ H=>∃W:Nat->St->Hp->Prop,(∃m,W m σ H)/\∀m σ H,W m σ H->
 c σ H λb H1=>if b=true then ∃N:St->Hp->Prop,(∀σ' H',N σ' H'->∃m',m'<m/\W m' σ' H')/\tb { D with nx:=N,ct:=N,bk:=D.nx } σ H1 else D.nx σ H1
theorem La(hp:iM (model X.prog X.w) X.A X.env X.xe)(hc:PT X c tc)(hb:PSs X body tb):PS X (.While c body [] pos) (K9 tc tb):=by
 intro pins s σ H D I h;obtain⟨W,⟨m0,w0⟩,turn⟩:=h;refine wpAny_While (codeAny_whileLoop (λn s'=>∃σ' H',Inv X pins σ' H' s'/\W n σ' H') ?_ m0 ⟨σ,H,I,w0⟩);rintro n s1 ⟨σ1,H1,I1,w1⟩;refine eI hp (thn (hc pins s1 σ1 H1 _ I1 (turn n σ1 H1 w1)) λb s2 ⟨H2,I2,q2⟩=>?_);cases b with
 |true=>
  obtain⟨N,hN,q2⟩:=q2;rw[ai rfl];refine eI hp (thn (hb pins s2 σ1 H2 _ I2 q2) λf s3 q3=>?_);cases f with
  |next=>obtain⟨σ3,H3,I3,n3⟩:=q3;obtain⟨m',hm,w3⟩:=hN σ3 H3 n3;exact⟨m',hm,σ3,H3,I3,w3⟩
  |cont=>obtain⟨σ3,H3,I3,n3⟩:=q3;obtain⟨m',hm,w3⟩:=hN σ3 H3 n3;exact⟨m',hm,σ3,H3,I3,w3⟩
  |brk=>exact q3
  |ret v=>exact q3
 |false=>rw[aj bq];exact ir ⟨σ1,H2,I2,q2⟩
end
structure It where
 go:Nat->Hp->Prop
 yld:Nat->Hp->V->Hp->Prop
 stop:Nat->Hp->Prop
def Dd(X:Cx)(pins:cn)(H:Hp)(b:Addr):Prop:=
 H b=none/\b≠X.env.locals/\b∉X.fs/\(b∈X.ex\/X.s₀.heap.objs.size<=b)/\(∀x c,X.env.cells.lookup x=some c->c≠b)/\∀p∈X.pn++pins,p.1≠b
theorem Inv.fpOk{H H':Hp}{s:af}(I:Inv X pins σ H s)(hb:s.heap.objs.size<=b)(hn:H' b=none):Dd X pins H' b:=by
 refine⟨hn,fC (bW I.lt hb),I.nofs hb,.inr (bI I.sz hb),λx c e z=>?_,λp hp z=>?_⟩
 ·obtain⟨v,q⟩:=I.cell x c e;exact aq (bW q.lt (by rw[z];exact hb)) (df _)
 ·exact aq (bW (aO (I.pin p hp).1) (by rw[z];exact hb)) (df _)
structure Turn(P:aE)(w:az)(K:au)(tg:Expr)(J:It)(fp:List Addr)(it:Addr)(tn:Nat->Heap->Prop):Prop where
 mem:it∈fp
 obj:∀i h,tn i h->∀b∈fp,∃o,h.get? b=some o/\∀v,o.data≠.cell v
 keep:∀i h h',tn i h->(∀b∈fp,∀o,h.get? b=some o->h'.get? b=some o)->tn i h'
 item:∀(X:Cx),X.prog=P->X.w=w->X.K=K->X.calm=true->∀(i:Nat) (pins:cn) (s:af) (σ:St) (H:Hp) (E:aa->af->Prop),Inv X pins σ H s->(∀b∈fp,Dd X pins H b)->tn i s.heap->J.go i H->
  wpAny (model P w) X.A (pyNext (.ref it)) (λr s1=>∃u,r=some u/\
   wpAny (model P w) X.A (letOwnedTupleGo tg (.ref it) u) (λ_ s2=>∃x H',Inv X pins σ H' s2/\RelV x u/\J.yld i H x H'/\tn (i+1) s2.heap/\∀b∈fp,H' b=none) E s1) E s
 done:∀(X:Cx),X.prog=P->X.w=w->X.K=K->X.calm=true->∀(i:Nat) (pins:cn) (s:af) (σ:St) (H:Hp) (E:aa->af->Prop),Inv X pins σ H s->(∀b∈fp,Dd X pins H b)->tn i s.heap->J.stop i H->
  wpAny (model P w) X.A (pyNext (.ref it)) (λr s1=>r=none/\Inv X pins σ H s1) E s
 self:∀(A:aH) (i:Nat) (s:af) (Q:aa->af->Prop) (E:aa->af->Prop),tn i s.heap->Q (.ref it) s->wpAny (model P w) A (pyIter (.ref it)) Q E s
abbrev TI:=St->Hp->(It->Hp->Prop)->Prop
def PIE(X:Cx)(pins:cn)(σ:St)(tg:Expr)(R:It->Hp->Prop)(itv:aa)(s2:af):Prop:=
 ∃(it:Addr) (fp:List Addr) (tn:Nat->Heap->Prop) (J:It) (H':Hp),itv=.ref it/\Inv X pins σ H' s2/\Turn X.prog X.w X.K tg J fp it tn/\tn 0 s2.heap/\(∀b∈fp,Dd X pins H' b)/\R J H'
def PI(X:Cx)(tg iter:Expr)(wi:TI):Prop:=
 ∀(pins:cn) (s:af) (σ:St) (H:Hp) (R:It->Hp->Prop),Inv X pins σ H s->wi σ H R->
  wpAny (model X.prog X.w) X.A (eval iter X.env) (λv s1=>wpAny (model X.prog X.w) X.A (pyIter v) (PIE X pins σ tg R) X.xe s1) X.xe s
theorem Iy{A:aH}{s:af}{o:Obj}{n:String}{vs:Array aa}{Q:Unit->af->Prop}(ho:s.heap.get? it=some o)(hc:o.cls=.type n)(hd:o.data=.fields vs)
  (hn:["enumerate", "zip", "dict_itemiterator", "dict_reverseitemiterator", "odict_iterator", "itertools.zip_longest", "itertools.pairwise"].contains n=false) (hQ:Q () s):wpAny M A (letOwnedTupleGo tg (.ref it) u) Q E s:=by
 unfold letOwnedTupleGo;cases tg<;>first
  |exact aB hQ
  |(cases u<;>first
    |exact aB hQ
    |(refine ao (wpAny_load ho ?_)
      rw[hc,hd];show wpAny M A (if (["enumerate", "zip", "dict_itemiterator", "dict_reverseitemiterator", "odict_iterator", "itertools.zip_longest", "itertools.pairwise"].contains n&&vs[0]?==some (rawInt _))=true then _ else _) Q E s;rw[aj (by intro h;rw[hn,Bool.false_and]at h;cases h)];exact aB hQ))
def Itl(K:au)(a:Addr):It:=
 ⟨λi H=>∃xs x,SqL K H a xs/\xs[i]?=some x,λi H x H'=>H'=H/\∀xs,SqL K H a xs->xs[i]?=some x,λi H=>∃xs,SqL K H a xs/\xs.length<=i⟩
def Itt(K:au)(a:Addr):It:=
 ⟨λi H=>∃xs x,SqT K H a xs/\xs[i]?=some x,λi H x H'=>H'=H/\∀xs,SqT K H a xs->xs[i]?=some x,λi H=>∃xs,SqT K H a xs/\xs.length<=i⟩
def Itr(lo:Int)(n:Nat):It:=⟨λi _=>i<n,λi H x H'=>H'=H/\x=.int (lo+i),λi _=>n<=i⟩
theorem JP{P:aE}{w:az}{K:au}(a it:Addr):Turn P w K tg (Itl K a) [it] it (λi h=>h.IsListIter it a i) where
 mem:=by simp
 obj:=λi h st b hb=>by
  have e:b=it:=by simpa using hb
  subst e;obtain⟨o,e,c,d⟩:=st;exact⟨o,e,λv z=>by rw[d]at z;cases z⟩
 keep:=λi h h' st k=>st.at λo e=>k it (by simp) o e
 item:=by intro X hP hw hK hc i pins s σ H E I hf st hg;subst hP hw hK;obtain⟨xs,x,hq,hx⟩:=hg;obtain⟨its,rv,p,hz⟩:=I.list hq;obtain⟨u,hu,ru⟩:=rv.get hx;obtain⟨f0,f1,f2,f3,f4,f5⟩:=hf it (by simp);refine wpAny_pyNext_list_item st p.isList (x:=u) (by simpa using hu) λh' st' sb=>?_;have I1:Inv X pins σ H { s with heap:=h' }:=I.turned (t':=s.toks) (λb o hb e=>(sb.2 b hb).trans e) f0 f1 f3 f4 f5;obtain⟨o,e,c,d⟩:=id st';exact⟨u,rfl,Iy (s:={ s with heap:=h' }) e c d (by decide) ⟨x,H,I1,ru,⟨rfl,λys hy=>by rw[I.list_inj hy hq];exact hx⟩,st',λb hb=>(hf b hb).1⟩⟩
 done:=by intro X hP hw hK hc i pins s σ H E I hf st hg;subst hP hw hK;obtain⟨xs,hq,hx⟩:=hg;obtain⟨its,rv,p,hz⟩:=I.list hq;obtain⟨f0,f1,f2,f3,f4,f5⟩:=hf it (by simp);have hl:=rv.length;exact wpAny_pyNext_list_end (I.ok.hd hc) st p.isList (by simp;omega) λh' eb=>⟨rfl,I.turned (t':=s.toks) (λb o hb e=>eb b o hb e) f0 f1 f3 f4 f5⟩
 self:=λ_ _ _ _ _ st h=>wpAny_pyIter_listiter st h
theorem G0{P:aE}{w:az}{K:au}(a it:Addr):Turn P w K tg (Itt K a) [it] it (λi h=>h.IsTupleIter it a i) where
 mem:=by simp
 obj:=λi h st b hb=>by
  have e:b=it:=by simpa using hb
  subst e;obtain⟨o,e,c,d⟩:=st;exact⟨o,e,λv z=>by rw[d]at z;cases z⟩
 keep:=λi h h' st k=>st.at λo e=>k it (by simp) o e
 item:=by intro X hP hw hK hc i pins s σ H E I hf st hg;subst hP hw hK;obtain⟨xs,x,hq,hx⟩:=hg;obtain⟨its,rv,p,hz⟩:=I.tuple hq;obtain⟨u,hu,ru⟩:=rv.get hx;obtain⟨f0,f1,f2,f3,f4,f5⟩:=hf it (by simp);refine wpAny_pyNext_tuple_item st (show s.heap.IsTuple a its.toArray from p) (x:=u) (by simpa using hu) λh' st' sb=>?_;have I1:Inv X pins σ H { s with heap:=h' }:=I.turned (t':=s.toks) (λb o hb e=>(sb.2 b hb).trans e) f0 f1 f3 f4 f5;obtain⟨o,e,c,d⟩:=id st';exact⟨u,rfl,Iy (s:={ s with heap:=h' }) e c d (by decide) ⟨x,H,I1,ru,⟨rfl,λys hy=>by rw[I.tuple_inj hy hq];exact hx⟩,st',λb hb=>(hf b hb).1⟩⟩
 done:=by intro X hP hw hK hc i pins s σ H E I hf st hg;subst hP hw hK;obtain⟨xs,hq,hx⟩:=hg;obtain⟨its,rv,p,hz⟩:=I.tuple hq;obtain⟨f0,f1,f2,f3,f4,f5⟩:=hf it (by simp);have hl:=rv.length;exact wpAny_pyNext_tuple_end (I.ok.hd hc) st (show s.heap.IsTuple a its.toArray from p) (by simp;omega) λh' eb=>⟨rfl,I.turned (t':=s.toks) (λb o hb e=>eb b o hb e) f0 f1 f3 f4 f5⟩
 self:=λ_ _ _ _ _ st h=>wpAny_pyIter_tupleiter st h
theorem G1{P:aE}{w:az}{K:au}(it:Addr)(lo:Int)(n:Nat):Turn P w K tg (Itr lo n) [it] it (λi h=>IsRangeIter h it (lo+(i:Nat) * 1) ((n:Int) - (i:Nat)) 1) where
 mem:=by simp
 obj:=λi h st b hb=>by
  have e:b=it:=by simpa using hb
  subst e;exact⟨_,st,λv z=>by
   have z':Data.fields _=Data.cell v:=z;cases z'⟩
 keep:=λi h h' st k=>k it (by simp) _ st
 item:=by intro X hP hw hK hc i pins s σ H E I hf st hg;subst hP hw hK;obtain⟨f0,f1,f2,f3,f4,f5⟩:=hf it (by simp);have W:=Walks.range (prog:=X.prog) (w:=X.w) (I.ok.hd hc) it lo 1 n;refine W.item i s _ _ hg st λv h' tk hv st' kk=>?_;obtain⟨t,rfl⟩:=hv;have I1:Inv X pins σ H { s with heap:=h',toks:=tk }:=I.turned (λb o hb e=>kk b o (by simpa using hb) e) f0 f1 f3 f4 f5;refine⟨_,rfl,Iy (s:={ s with heap:=h',toks:=tk }) (n:="range_iterator") st' rfl rfl (by decide) ⟨.int (lo+i),H,I1,⟨t,?_⟩,⟨rfl,rfl⟩,st',λb hb=>(hf b hb).1⟩⟩;rw[Int.mul_one]
 done:=by intro X hP hw hK hc i pins s σ H E I hf st hg;subst hP hw hK;obtain⟨f0,f1,f2,f3,f4,f5⟩:=hf it (by simp);exact wpAny_pyNext_range_end (I.ok.hd hc) st (by have:n<=i:=hg;omega) λh' eb=>⟨rfl,I.turned (t':=s.toks) (λb o hb e=>eb b o hb e) f0 f1 f3 f4 f5⟩
 self:=λ_ _ _ _ _ st h=>wpAny_pyIter_rangeiter st h
variable{tl:TE}
section
variable{X:Cx}{tg:Expr}
def Lb(K:au)(tl:TE):TI:=λσ H R=>tl σ H λx H1=>∃a,x=.ref a/\(∃xs,SqL K H1 a xs)/\R (Itl K a) H1
def Rp(K:au)(tl:TE):TI:=λσ H R=>tl σ H λx H1=>∃a,x=.ref a/\(∃xs,SqT K H1 a xs)/\R (Itt K a) H1
theorem Oc{l:Expr}(hl:PE X l tl):PI X tg l (Lb X.K tl):=by
 intro pins s σ H R I h;refine thn (hl pins s σ H _ I h) λv s1 ⟨x,H1,I1,r1,q1⟩=>?_;obtain⟨a,e,⟨xs,hq⟩,q⟩:=q1;subst e;cases r1;obtain⟨its,rv,p,hz⟩:=I1.list hq;refine fW p.isList ?_;refine⟨s1.heap.objs.size,[s1.heap.objs.size],_,_,H1,rfl,I1.kept (t':=s1.toks) λb o e=>aM _ e,JP a _,⟨_,bz _ rfl,rfl,rfl⟩,λb hb=>?_,q⟩;have e:b=s1.heap.objs.size:=by simpa using hb
 subst e;exact I1.fpOk (aI _) (I1.hok.fresh (aI _))
theorem Rq{l:Expr}(hl:PE X l tl):PI X tg l (Rp X.K tl):=by
 intro pins s σ H R I h;refine thn (hl pins s σ H _ I h) λv s1 ⟨x,H1,I1,r1,q1⟩=>?_;obtain⟨a,e,⟨xs,hq⟩,q⟩:=q1;subst e;cases r1;obtain⟨its,rv,p,hz⟩:=I1.tuple hq;refine l7 (show s1.heap.IsTuple a its.toArray from p) ?_;refine⟨s1.heap.objs.size,[s1.heap.objs.size],_,_,H1,rfl,I1.kept (t':=s1.toks) λb o e=>aM _ e,G0 a _,⟨_,bz _ rfl,rfl,rfl⟩,λb hb=>?_,q⟩;have e:b=s1.heap.objs.size:=by simpa using hb
 subst e;exact I1.fpOk (aI _) (I1.hok.fresh (aI _))
theorem Lc{H:Hp}{s:af}{R:It->Hp->Prop}{lo hi:Int}{t u v:Tok}{tk:Nat}(I:Inv X pins σ H s)(h1:-(2 ^ 62)<=lo)(h2:lo<2 ^ 62)(h3:-(2 ^ 62)<=hi)(h4:hi<2 ^ 62)
  (q:R (Itr lo (hi - lo).toNat) H):wpAny (model X.prog X.w) X.A (pyIter (.ref s.heap.objs.size)) (PIE X pins σ tg R) E { s with heap:=s.heap.push { cls:=.type "range", data:=.fields #[.int lo t,.int hi u,.int 1 v] },toks:=tk }:=by
 refine wpAny_pyIter_range (IsRange.new ..) (small_one h1 h2 h3 h4) ?_;have I1:Inv X pins σ H { s with heap:=s.heap.push { cls:=.type "range", data:=.fields #[.int lo t,.int hi u,.int 1 v] },toks:=tk }:=I.kept λb o e=>aM _ e;refine⟨(s.heap.push { cls:=.type "range", data:=.fields #[.int lo t,.int hi u,.int 1 v] }).objs.size,[(s.heap.push { cls:=.type "range", data:=.fields #[.int lo t,.int hi u,.int 1 v] }).objs.size],_,_,H,rfl,
  I1.kept (t':=tk) λb o e=>aM _ e,G1 _ lo (hi - lo).toNat,?_,λb hb=>?_,q⟩
 ·have e1:lo+((0:Nat):Int) * 1=lo:=by simp
  have e2:(((hi - lo).toNat:Nat):Int) - ((0:Nat):Int)=Builtin.Range.rangeSize lo hi 1:=by rw[rangeSize_one];split<;>omega
  show IsRangeIter _ _ (lo+((0:Nat):Int) * 1) ((((hi - lo).toNat:Nat):Int) - ((0:Nat):Int)) 1;rw[e1,e2];exact bz _ rfl
 ·have e:b=(s.heap.push { cls:=.type "range", data:=.fields #[.int lo t,.int hi u,.int 1 v] }).objs.size:=by simpa using hb
  subst e;exact I1.fpOk (aI _) (I1.hok.fresh (aI _))
def QG(ta:TA):TI:=λσ H R=>ta σ H λvs H1=>∃j:Int,vs=[.int j]/\-(2 ^ 62)<=j/\j<2 ^ 62/\R (Itr 0 j.toNat) H1
theorem JQ{a:Expr}{ta:TA}{p:Pos}(hg:Gl X "range")(hm:X.mg "range" = none)(ha:PA X [a] ta)(hs:starEach [a] X.env=[(false,eval a X.env)]:=by rfl):PI X tg (.Call (.Name "range" p) [a] [] pos) (QG ta):=by
 intro pins s σ H R I h;refine Call_ (yw I hg hm boot_range (callWith_type1 (thn (ha pos pins s σ H _ I h) λus s1 ⟨vs,H1,I1,r1,q1⟩=>?_) hs rfl));obtain⟨j,e,q1,q2,q⟩:=q1;subst e;cases r1 with
 |cons r rr=>cases rr;obtain⟨t,rfl⟩:=r;exact call_range_1 (Lc I1 (by omega) (by omega) q1 q2 (by simpa using q))
def Rr(wi:TI)(g:TG)(tb:TS):TS:=λD σ H=>wi σ H λJ H1=>∃W:Nat->Nat->St->Hp->Prop,(∃m,W 0 m σ H1)/\∀i m σ H,W i m σ H->
 (J.stop i H/\D.nx σ H)\/(J.go i H/\∃N:St->Hp->Prop,(∀σ' H',N σ' H'->∃m',m'<m/\W (i+1) m' σ' H')/\∀x H',J.yld i H x H'->g x σ H' λσ2 H2=>tb { D with nx:=N,ct:=N,bk:=D.nx } σ2 H2)
def By(fp:List Addr)(h:Heap):cn:=fp.filterMap λb=>(h.get? b).map λo=>(b,o)
theorem uc{fp:List Addr}{h:Heap}{o:Obj}(hb:b∈fp)(e:h.get? b=some o):(b,o)∈By fp h:=jx.mpr ⟨b,hb,by rw[e];rfl⟩
theorem JR{fp:List Addr}{h:Heap}{p:Addr×Obj}(hp:p∈By fp h):p.1∈fp/\h.get? p.1=some p.2:=by
 obtain⟨b,hb,e⟩:=jx.mp hp;cases q:h.get? b with
 |none=>rw[q]at e;cases e
 |some o=>rw[q]at e;have e':(b,o)=p:=cc e;subst e';exact⟨hb,q⟩
theorem Inv.pinned{H:Hp}{s:af}{fp:List Addr}(I:Inv X pins σ H s)(hf:∀b∈fp,Dd X pins H b)(ho:∀b∈fp,∃o,s.heap.get? b=some o/\∀v,o.data≠.cell v):Inv X (pins++By fp s.heap) σ H s:=
 I.pins_of λp hp=>(bw.mp hp).elim (λz=>I.pin p (bL _ z)) λz=>by obtain⟨hb,e⟩:=JR z;obtain⟨f0,f1,f2,_⟩:=hf p.1 hb;obtain⟨o,e',d⟩:=ho p.1 hb;rw[e]at e';cases e';exact⟨e,f0,f1,f2,d⟩
theorem Inv.unpinned{pl:cn}{H:Hp}{s:af}(I:Inv X (pins++pl) σ H s):Inv X pins σ H s:=I.pins_of λp hp=>I.pin p (bL _ (bG _ hp))
theorem Ld{iter:Expr}{wi:TI}{g:TG}(hp:iM (model X.prog X.w) X.A X.env X.xe)(hc:X.calm=true)(hi:PI X tg iter wi)(hg:PG X tg g)(hb:PSs X body tb)
  (hs:∀x,foldedSetIterable iter X.env x=pure x:=by intro _;rfl):PS X (.For tg iter body [] pos) (Rr wi g tb):=by
 intro pins s σ H D I h;refine wpAny_For (thn (hi pins s σ H _ I h) λv s1 h1=>thn h1 λitv s2 h2=>?_) hs;obtain⟨it,fp,tn,J,H2,e,I2,T,st2,f2,W,⟨m0,w0⟩,turn⟩:=h2;subst e;have stat:∀{H':Hp},(∀b∈fp,H' b=none)->∀b∈fp,Dd X pins H' b:=λhn b hb=>⟨hn b hb,(f2 b hb).2⟩;refine codeAny_forLoop_any (λn s'=>∃i σ' H',Inv X pins σ' H' s'/\tn i s'.heap/\(∀b∈fp,H' b=none)/\W i n σ' H') ?_ m0 ⟨0,σ,H2,I2,st2,λb hb=>(f2 b hb).1,w0⟩;rintro n s3 ⟨i,σ3,H3,I3,st3,fr3,w3⟩;rcases turn i n σ3 H3 w3 with ⟨stop,qn⟩|⟨go,N,hN,step⟩
 ·refine eI hp (thn (T.done X rfl rfl rfl hc i pins s3 σ3 H3 X.xe I3 (stat fr3) st3 stop) λr s4 ⟨hr,I4⟩=>?_);subst hr;exact ir ⟨σ3,H3,I4,qn⟩
 ·refine eI hp (thn (T.item X rfl rfl rfl hc i pins s3 σ3 H3 X.xe I3 (stat fr3) st3 go) λr s4 ⟨u,hr,h4⟩=>?_);subst hr;refine eI hp (thn h4 λ_ s5 ⟨x,H5,I5,r5,y5,st5,fr5⟩=>?_);have I5':=I5.pinned (stat fr5) (T.obj _ _ st5);refine eI hp (thn (hg _ s5 σ3 H5 x u _ I5' r5 (step x H5 y5)) λ_ s6 ⟨σ6,H6,I6,q6⟩=>?_);refine eI hp (thn (hb _ s6 σ6 H6 _ I6 q6) λf s7 q7=>?_);have again:∀{σ7:St} {H7:Hp},Inv X (pins++By fp s5.heap) σ7 H7 s7->N σ7 H7->∃m,m<n/\∃i σ' H',Inv X pins σ' H' s7/\tn i s7.heap/\(∀b∈fp,H' b=none)/\W i m σ' H':=λ{σ7 H7} I7 n7=>by obtain⟨m',hm,w7⟩:=hN σ7 H7 n7;refine⟨m',hm,i+1,σ7,H7,I7.unpinned,T.keep _ _ _ st5 λb hb o e=>(I7.pin (b,o) (bL _ (bL _ (uc hb e)))).1,λb hb=>?_,w7⟩;obtain⟨o,e,d⟩:=T.obj _ _ st5 b hb;exact(I7.pin (b,o) (bL _ (bL _ (uc hb e)))).2.1
  cases f with
  |next=>obtain⟨σ7,H7,I7,n7⟩:=q7;exact again I7 n7
  |cont=>obtain⟨σ7,H7,I7,n7⟩:=q7;exact again I7 n7
  |brk=>obtain⟨σ7,H7,I7,q7⟩:=q7;exact⟨σ7,H7,I7.unpinned,q7⟩
  |ret v=>obtain⟨x7,σ7,H7,I7,r7,q7⟩:=q7;exact⟨x7,σ7,H7,I7.unpinned,r7,q7⟩
end
abbrev R2:=V->V->Hp->VK->Prop
def OpR(X:Cx)(f:aa->aa->Sem aa)(r:R2):Prop:=
 ∀(pins:cn) (s:af) (σ:St) (H:Hp) (x y:V) (v u:aa) (Q:VK),Inv X pins σ H s->RelV x v->RelV y u->r x y H Q->
  wpAny (model X.prog X.w) X.A (f v u) (EP X pins σ Q) X.xe s
def p6(X:Cx)(f:aa)(r:bt->Hp->VK->Prop):Prop:=
 ∀(pins:cn) (s:af) (σ:St) (H:Hp) (xs:bt) (us:List aa) (Q:VK),Inv X pins σ H s->Vals xs us->r xs H Q->
  wpAny (model X.prog X.w) X.A (call f us) (EP X pins σ Q) X.xe s
def tOp(r:R2)(ta tb:TE):TE:=λσ H Q=>ta σ H λx H1=>tb σ H1 λy H2=>r x y H2 Q
def rI(C:Int->Int->Prop)(g:Int->Int->V):R2:=λx y H Q=>∃i j,x=.int i/\y=.int j/\C i j/\Q (g i j) H
def rI0(g:Int->Int->V):R2:=λx y H Q=>∃i j,x=.int i/\y=.int j/\Q (g i j) H
variable{f:aa->aa->Sem aa}{r:R2}
section
variable{X:Cx}{a b c:Expr}{ta tb tc:TE}{pos:Pos}
theorem Rt(ha:PE X a ta)(hb:PE X b tb){s:af}{H:Hp}{R:V->V->Hp->Prop}(I:Inv X pins σ H s)
  (h:ta σ H λx H1=>tb σ H1 λy H2=>R x y H2)
  (hf:∀v u s2 x y H2,Inv X pins σ H2 s2->RelV x v->RelV y u->R x y H2->wpAny (model X.prog X.w) X.A (f v u) Q X.xe s2):
  wpAny (model X.prog X.w) X.A (eval a X.env) (λv s₁=>wpAny (model X.prog X.w) X.A (eval b X.env) (λu s₂=>wpAny (model X.prog X.w) X.A (f v u) Q X.xe s₂) X.xe s₁) X.xe s:=by
 refine thn (ha pins s σ H _ I h) λv s1 ⟨x,H1,I1,r1,q1⟩=>?_;refine thn (hb pins s1 σ H1 _ I1 q1) λu s2 ⟨y,H2,I2,r2,q2⟩=>?_;exact hf v u s2 x y H2 I2 r1 r2 q2
theorem Le{op:iN}(ho:OpR X (binaryOp op) r)(ha:PE X a ta)(hb:PE X b tb):PE X (.BinOp a op b pos) (tOp r ta tb):=by intro pins s σ H Q I h;exact wpAny_BinOp (Rt ha hb I h λv u s2 x y H2 I2 rx ry q=>ho pins s2 σ H2 x y v u Q I2 rx ry q)
theorem opI{C:Int->Int->Prop}{g:Int->Int->Int}
  (rule:∀(i j:Int) (t u:Tok) (s:af) (Q:aa->af->Prop) (E:aa->af->Prop),C i j->Q (.int (g i j) s.toks) { s with toks:=s.toks+1 }->wpAny (model X.prog X.w) X.A (f (.int i t) (.int j u)) Q E s):
  OpR X f (rI C λi j=>.int (g i j)):=by
 intro pins s σ H x y v u Q I rx ry h;obtain⟨i,j,rfl,rfl,hc,q⟩:=h;obtain⟨t,rfl⟩:=rx;obtain⟨t',rfl⟩:=ry;exact rule i j t t' s _ _ hc ⟨.int (g i j),H,I.tok _,⟨_,rfl⟩,q⟩
theorem VH{g:Int->Int->Int}
  (rule:∀(i j:Int) (t u:Tok) (s:af) (Q:aa->af->Prop) (E:aa->af->Prop),Q (.int (g i j) s.toks) { s with toks:=s.toks+1 }->wpAny (model X.prog X.w) X.A (f (.int i t) (.int j u)) Q E s):
  OpR X f (rI0 λi j=>.int (g i j)):=by
 intro pins s σ H x y v u Q I rx ry h;obtain⟨i,j,rfl,rfl,q⟩:=h;obtain⟨t,rfl⟩:=rx;obtain⟨t',rfl⟩:=ry;exact rule i j t t' s _ _ ⟨.int (g i j),H,I.tok _,⟨_,rfl⟩,q⟩
theorem Od{g:Int->Int->Bool}
  (rule:∀(i j:Int) (t u:Tok) (s:af) (Q:aa->af->Prop) (E:aa->af->Prop),Q (.bool (g i j)) s->wpAny (model X.prog X.w) X.A (f (.int i t) (.int j u)) Q E s):
  OpR X f (rI0 λi j=>.bl (g i j)):=by
 intro pins s σ H x y v u Q I rx ry h;obtain⟨i,j,rfl,rfl,q⟩:=h;obtain⟨t,rfl⟩:=rx;obtain⟨t',rfl⟩:=ry;exact rule i j t t' s _ _ ⟨.bl (g i j),H,I,rfl,q⟩
def Ru(i j:Int):Prop:=0<j/\j<1073741824
def VI(i j:Int):Prop:=0<=j/\j<=1000000/\i.natAbs<2 ^ 64
def Oe(i j:Int):Prop:=(-(2 ^ 64)<i/\i<2 ^ 64)\/(-(2 ^ 64)<j/\j<2 ^ 64)
theorem Oe.ok{i j:Int}(h:Oe i j):IntMulOk i j:=by
 rcases h with ⟨h1,h2⟩|⟨h1,h2⟩
 ·exact .of_left (intBits_le_64 h1 h2)
 ·exact .of_right (intBits_le_64 h1 h2)
theorem Rv:OpR X (binaryOp .Add) (rI0 λi j=>.int (i+j)):=VH λ_ _ _ _ _ _ _ q=>add_int q
theorem Rx:OpR X (binaryOp .Sub) (rI0 λi j=>.int (i - j)):=VH λ_ _ _ _ _ _ _ q=>sub_int q
theorem RA:OpR X (binaryOp .Mult) (rI Oe λi j=>.int (i * j)):=opI λ_ _ _ _ _ _ _ hc q=>mul_int q hc.ok
theorem Of:OpR X (binaryOp .FloorDiv) (rI Ru λi j=>.int (i / j)):=opI λi j _ _ _ _ _ hc q=>by have h1:(0:Int)<j:=hc.1;have h2:j<1073741824:=hc.2;exact floordiv_int (by omega) (by rw[Int.fdiv_eq_ediv_of_nonneg i (by omega)];exact q) (.inl (PyProof.noPylong_small (by omega)))
theorem RB:OpR X (binaryOp .Mod) (rI (λ_ j=>0<j) λi j=>.int (i % j)):=opI λi j _ _ _ _ _ hc q=>by have h1:(0:Int)<j:=hc;exact mod_int' (by omega) (by rw[Int.fmod_eq_emod_of_nonneg i (by omega)];exact q)
theorem RD:OpR X (binaryOp .Pow) (rI VI λi j=>.int (i ^ j.toNat)):=opI λ_ _ _ _ _ _ _ hc q=>pow_int_small hc.1 hc.2.1 hc.2.2 q
end
def Lf:V->V->Bool
 |.non,.non=>true|.non,.int _=>true|.int _,.non=>true|.non,.bl _=>true|.bl _,.non=>true|.non,.str _=>true|.str _,.non=>true
 |.int _,.int _=>true|.bl _,.bl _=>true|.str _,.str _=>true|.byt _,.byt _=>true
 |.int _,.str _=>true|.str _,.int _=>true|.bl _,.str _=>true|.str _,.bl _=>true
 |_,_=>false
def rEq:R2:=λx y H Q=>Lf x y=true/\Q (.bl (decide (x=y))) H
def rNe:R2:=λx y H Q=>Lf x y=true/\Q (.bl (!decide (x=y))) H
theorem IA{i j:Int}:decide (V.int i=V.int j)=(i==j):=by rw[cD];simp
theorem Lg{i j:Bool}:decide (V.bl i=V.bl j)=(i==j):=by rw[cD];simp
theorem IB{i j:Str}:decide (V.str i=V.str j)=(i==j):=by rw[cD];simp
theorem IC{i j:Array UInt8}:decide (V.byt i=V.byt j)=(i.toList==j.toList):=by rw[cD];cases i;cases j;simp
variable{op':cg}{r':R2}
section
variable{X:Cx}{a b c:Expr}{ta tb tc:TE}{pos:Pos}
theorem px{H:Hp}{s:af}{Q:VK}{k k':Bool}(I:Inv X pins σ H s)(q:Q (.bl k) H)(e:k=k'):EP X pins σ Q (.bool k') s:=by subst e;exact⟨.bl k,H,I,rfl,q⟩
theorem VJ:OpR X (compareOp .Eq) rEq:=by
 intro pins s σ H x y v u Q I rx ry h;obtain⟨hs,q⟩:=h;cases x with
 |non=>
  cases rx;cases y with
  |non=>cases ry;exact PySem.EqNone.eq_none_none (px I q (by simp))
  |bl j=>cases ry;exact PySem.EqNone.eq_none_bool (px I q (by simp))
  |int j=>obtain⟨t',rfl⟩:=ry;exact PySem.EqNone.eq_none_int (px I q (by simp))
  |str j=>obtain⟨t',rfl⟩:=ry;exact PySem.EqNone.eq_none_str (px I q (by simp))
  |_=>exact aq (show false=true from hs) bq
 |bl i=>
  cases rx;cases y with
  |non=>cases ry;exact PySem.EqNone.eq_bool_none (px I q (by simp))
  |bl j=>cases ry;exact eq_bool (px I q Lg)
  |str j=>obtain⟨t',rfl⟩:=ry;exact PySem.EqMixed.eq_bool_str (px I q (by simp))
  |_=>exact aq (show false=true from hs) bq
 |int i=>
  obtain⟨t,rfl⟩:=rx;cases y with
  |non=>cases ry;exact PySem.EqNone.eq_int_none (px I q (by simp))
  |int j=>obtain⟨t',rfl⟩:=ry;exact eq_int (px I q IA)
  |str j=>obtain⟨t',rfl⟩:=ry;exact PySem.EqMixed.eq_int_str (px I q (by simp))
  |_=>exact aq (show false=true from hs) bq
 |str i=>
  obtain⟨t,rfl⟩:=rx;cases y with
  |non=>cases ry;exact PySem.EqNone.eq_str_none (px I q (by simp))
  |bl j=>cases ry;exact PySem.EqMixed.eq_str_bool (px I q (by simp))
  |int j=>obtain⟨t',rfl⟩:=ry;exact PySem.EqMixed.eq_str_int (px I q (by simp))
  |str j=>obtain⟨t',rfl⟩:=ry;exact eq_str (px I q IB)
  |_=>exact aq (show false=true from hs) bq
 |byt i=>
  obtain⟨t,rfl⟩:=rx;cases y with
  |byt j=>obtain⟨t',rfl⟩:=ry;exact W.eq_bytes (px I q IC)
  |_=>exact aq (show false=true from hs) bq
 |_=>cases y<;>exact aq (show false=true from hs) bq
theorem VL:OpR X (compareOp .NotEq) rNe:=by
 intro pins s σ H x y v u Q I rx ry h;obtain⟨hs,q⟩:=h;cases x with
 |non=>
  cases rx;cases y with
  |non=>cases ry;exact PySem.EqNone.ne_none_none (px I q (by simp))
  |bl j=>cases ry;exact PySem.EqNone.ne_none_bool (px I q (by simp))
  |int j=>obtain⟨t',rfl⟩:=ry;exact PySem.EqNone.ne_none_int (px I q (by simp))
  |str j=>obtain⟨t',rfl⟩:=ry;exact PySem.EqNone.ne_none_str (px I q (by simp))
  |_=>exact aq (show false=true from hs) bq
 |bl i=>
  cases rx;cases y with
  |non=>cases ry;exact PySem.EqNone.ne_bool_none (px I q (by simp))
  |bl j=>cases ry;exact ne_bool (px I q (aS not Lg))
  |str j=>obtain⟨t',rfl⟩:=ry;exact PySem.EqMixed.ne_bool_str (px I q (by simp))
  |_=>exact aq (show false=true from hs) bq
 |int i=>
  obtain⟨t,rfl⟩:=rx;cases y with
  |non=>cases ry;exact PySem.EqNone.ne_int_none (px I q (by simp))
  |int j=>obtain⟨t',rfl⟩:=ry;exact ne_int (px I q (aS not IA))
  |str j=>obtain⟨t',rfl⟩:=ry;exact PySem.EqMixed.ne_int_str (px I q (by simp))
  |_=>exact aq (show false=true from hs) bq
 |str i=>
  obtain⟨t,rfl⟩:=rx;cases y with
  |non=>cases ry;exact PySem.EqNone.ne_str_none (px I q (by simp))
  |bl j=>cases ry;exact PySem.EqMixed.ne_str_bool (px I q (by simp))
  |int j=>obtain⟨t',rfl⟩:=ry;exact PySem.EqMixed.ne_str_int (px I q (by simp))
  |str j=>obtain⟨t',rfl⟩:=ry;exact ne_str (px I q (aS not IB))
  |_=>exact aq (show false=true from hs) bq
 |byt i=>
  obtain⟨t,rfl⟩:=rx;cases y with
  |byt j=>obtain⟨t',rfl⟩:=ry;exact W.ne_bytes (px I q (aS not IC))
  |_=>exact aq (show false=true from hs) bq
 |_=>cases y<;>exact aq (show false=true from hs) bq
theorem VM:OpR X (compareOp .Lt) (rI0 λi j=>.bl (decide (i<j))):=Od λ_ _ _ _ _ _ _ q=>lt_int q
theorem VN:OpR X (compareOp .LtE) (rI0 λi j=>.bl (decide (i<=j))):=Od λ_ _ _ _ _ _ _ q=>le_int q
theorem VO:OpR X (compareOp .Gt) (rI0 λi j=>.bl (decide (j<i))):=Od λ_ _ _ _ _ _ _ q=>gt_int q
theorem VP:OpR X (compareOp .GtE) (rI0 λi j=>.bl (decide (j<=i))):=Od λ_ _ _ _ _ _ _ q=>ge_int q
theorem RE:OpR X (compareOp .Is) (λx y H Q=>y=.non/\Q (.bl (decide (x=.non))) H):=by
 intro pins s σ H x y v u Q I rx ry h;obtain⟨rfl,q⟩:=h;cases ry;refine is_none_gen (px I q ?_);cases x<;>first
  |(cases rx;rfl)
  |(obtain⟨t,rfl⟩:=rx;rfl)
theorem Og:OpR X (compareOp .IsNot) (λx y H Q=>y=.non/\Q (.bl (!decide (x=.non))) H):=by
 intro pins s σ H x y v u Q I rx ry h;obtain⟨rfl,q⟩:=h;cases ry;refine isnot_none_gen (px I q ?_);cases x<;>first
  |(cases rx;rfl)
  |(obtain⟨t,rfl⟩:=rx;rfl)
theorem Oh{op:cg}(ho:OpR X (compareOp op) r)(ha:PE X a ta)(hb:PE X b tb)(hm:behindInMarks op b=false):PE X (.Compare a [op] [b] pos) (tOp r ta tb):=by intro pins s σ H Q I h;exact wpAny_Compare1 (Rt ha hb I h λv u s2 x y H2 I2 rx ry q=>ho pins s2 σ H2 x y v u Q I2 rx ry q) hm
def Lh(t:TE):TT:=λσ H Q=>t σ H λx H'=>∃k,x=.bl k/\Q k H'
theorem Oi{op:cg}(ho:OpR X (compareOp op) r)(ha:PE X a ta)(hb:PE X b tb)(hm:behindInMarks op b=false):PT X (.Compare a [op] [b] pos) (Lh (tOp r ta tb)):=by
 intro pins s σ H Q I h;refine lK (thn (ha pins s σ H _ I h) λv s1 ⟨x,H1,I1,r1,q1⟩=>thn (hb pins s1 σ H1 _ I1 q1) λu s2 ⟨y,H2,I2,r2,q2⟩=>
  thn (ho pins s2 σ H2 x y v u _ I2 r1 r2 q2) λc s3 ⟨z,H3,I3,r3,k,e,q3⟩=>?_) hm
 subst e;cases r3;exact cN ⟨H3,I3,q3⟩
def G2(r r':R2)(ta tb tc:TE):TE:=λσ H Q=>ta σ H λx H1=>tb σ H1 λy H2=>r x y H2 λz H3=>∃k,z=.bl k/\
 (if k=true then tc σ H3 λw' H4=>r' y w' H4 Q else Q (.bl false) H3)
theorem Li{op:cg}(ho:OpR X (compareOp op) r)(ho':OpR X (compareOp op') r')(ha:PE X a ta)(hb:PE X b tb)(hc:PE X c tc)
  (hm:lastMarks [op,op'] [b,c]=false:=by with_unfolding_all rfl):PE X (.Compare a [op,op'] [b,c] pos) (G2 r r' ta tb tc):=by
 intro pins s σ H Q I h;refine Compare_chain (thn (ha pins s σ H _ I h) λv s1 ⟨x,H1,I1,r1,q1⟩=>chain_link (thn (hb pins s1 σ H1 _ I1 q1) λu s2 ⟨y,H2,I2,r2,q2⟩=>
  thn (ho pins s2 σ H2 x y v u _ I2 r1 r2 q2) λd s3 ⟨z,H3,I3,r3,k,e,q3⟩=>?_)) hm
 subst e;cases r3;refine cN ?_;cases k with
 |false=>exact ite_ff ⟨.bl false,H3,I3,rfl,q3⟩
 |true=>exact ite_tt (chain_last (thn (hc pins s3 σ H3 _ I3 q3) λw' s4 ⟨z',H4,I4,r4,q4⟩=>ho' pins s4 σ H4 y z' u w' Q I4 r2 r4 q4))
theorem Lj{op:cg}(ho:OpR X (compareOp op) r)(ho':OpR X (compareOp op') r')(ha:PE X a ta)(hb:PE X b tb)(hc:PE X c tc)
  (hm:lastMarks [op,op'] [b,c]=false:=by with_unfolding_all rfl):PT X (.Compare a [op,op'] [b,c] pos) (Lh (G2 r r' ta tb tc)):=by
 intro pins s σ H Q I h;refine isTrue_chain (thn (ha pins s σ H _ I h) λv s1 ⟨x,H1,I1,r1,q1⟩=>test_link (thn (hb pins s1 σ H1 _ I1 q1) λu s2 ⟨y,H2,I2,r2,q2⟩=>
  thn (ho pins s2 σ H2 x y v u _ I2 r1 r2 q2) λd s3 ⟨z,H3,I3,r3,k,e,q3⟩=>?_)) hm
 subst e;cases r3;refine cN ?_;cases k with
 |false=>obtain⟨k',e',q'⟩:=q3;cases e';exact ite_ff ⟨H3,I3,q'⟩
 |true=>refine ite_tt (test_last (thn (hc pins s3 σ H3 _ I3 q3) λw' s4 ⟨z',H4,I4,r4,q4⟩=>thn (ho' pins s4 σ H4 y z' u w' _ I4 r2 r4 q4) λd' s5 ⟨z2,H5,I5,r5,k2,e2,q5⟩=>?_));subst e2;cases r5;exact cN ⟨H5,I5,q5⟩
theorem BA:(sizeLine:Nat)<2 ^ 63:=by rw[bK];decide
theorem vals1{x:V}(r:Vals [x] us):∃u,us=[u]/\RelV x u:=by
 cases r with
 |cons r1 r2=>cases r2;exact⟨_,rfl,r1⟩
theorem vals2{x:V}(r:Vals [x,y] us):∃u w',us=[u,w']/\RelV x u/\RelV y w':=by
 cases r with
 |cons r1 r2=>
  cases r2 with
  |cons r3 r4=>cases r4;exact⟨_,_,rfl,r1,r3⟩
theorem JS:p6 X (.type "int") (λxs H Q=>(∃i,xs=[.int i]/\Q (.int i) H)\/∃k,xs=[.bl k]/\Q (.int (if k then 1 else 0)) H):=by
 intro pins s σ H xs us Q I r h;rcases h with ⟨i,rfl,q⟩|⟨k,rfl,q⟩
 ·obtain⟨u,rfl,t,rfl⟩:=vals1 r;exact call_int_int ⟨.int i,H,I,⟨_,rfl⟩,q⟩
 ·obtain⟨u,rfl,r1⟩:=vals1 r;cases r1;exact call_int_bool ⟨.int (if k then 1 else 0),H,I.tok _,⟨_,rfl⟩,q⟩
end
structure G3(h:Heap)(x dx C:Addr)(mA:Str->Option aa):Prop where
 obj:h.get? x=some (di C dx)
 ns:h.Ns1 dx mA
 ne:dx≠x
variable{dx:Addr}{mA:Str->Option aa}
theorem JT{h:Heap}(n:h.Ns1 dx mA):∃od,h.get? dx=some od/\∀name,iO name od=some (mA name):=by
 obtain⟨o,es,ep,ho,hd,hk,_,hm⟩:=n;refine⟨o,ho,λname=>?_⟩;have e:=hm name;unfold nsFind findBy at e;rw[<-Array.find?_toList]at e;unfold iO;rw[hd];dsimp only;split
 ·rename_i y q;rw[q]at e;exact aS some e
 ·rename_i q;rw[q]at e;have a:es.toList.any (·.refKey)=false:=by rw[mq];intro y hy;obtain⟨z,t,hkey⟩:=hk y (Array.mem_toList_iff.mp hy);simp[DictEntry.refKey,hkey]
  have a':¬es.toList.any (·.refKey)=true:=by rw[a];exact bq
  rw[aj a'];exact aS some e
variable{C:Addr}
theorem G3.look{h:Heap}{x:Addr}(I:G3 h x dx C mA):∃od,W.InstAt h x (di C dx) C (some od)/\∀name,iO name od=some (mA name):=
 let ⟨od,ho,hl⟩:=JT I.ns
 ⟨od,⟨I.obj,rfl,rfl,ho⟩,hl⟩
variable{R:dQ->af->Prop}{kw:List (Str×aa)}
section
variable{prog:aE}{w:az}{A:aH}{E:aa->af->Prop}{s:af}{K:au}{x dx C f:Addr}{mA:Str->Option aa}{name:Str}{v:aa}
theorem get_map{expr:Bool}(X:K.In s.heap)(I:G3 s.heap x dx C mA)(hg:iH K C name=true)(hh:j6 K C=true)
  (ha:cy K (.ref C) name=some none) (hv:mA name=some v) (hv':W.handedIn v=true) (h:Q v { s with toks:=s.toks+1 }):
  wpAny (model prog w) A (getAttr (.ref x) name expr) Q E s:=by
 obtain⟨od,J,hl⟩:=I.look;exact W.get_value X J (jO hg).1 (W.findObj_own hh ha rfl (by rw[hl,hv])) hv' h
theorem Lk{pl:Sem Bool}{Q:aa×List aa->af->Prop}(X:K.In s.heap)(I:G3 s.heap x dx C mA)(hg:iH K C name=true)
  (hf:cy K (.ref C) name=some (some (.ref f))) (ht:W.isFn K (.ref f)=true) (hv:mA name=none) (h:Q (.ref f,[.ref x]) s):
  wpAny (model prog w) A (getMethod (.ref x) name pl) Q E s:=by
 obtain⟨od,J,hl⟩:=I.look;exact W.method_fn X J (jO hg).1 (jO hg).2 hf (beq_iff_eq.mp ht) (by show (iO name od).map (·.isSome)=some false;rw[hl,hv];rfl) h
theorem Oj{ns:aC}{Q:Unit->af->Prop}(X:K.In s.heap)(I:G3 s.heap x dx C mA)
  (hs:cy K (.ref C) "__setattr__" = some (some (.builtin "object.__setattr__"))) (hp:W.plainOver K C=true) (ht:ku K C name=some none) (hh:j6 K C=true)
  (hw:jW mA ns) (hsz:ns.length<=sizeLine)
  (h:∀h',G3 h' x dx C (λy=>if y=name then some v else mA y)->fA dx s.heap h'->Q () { s with heap:=h',toks:=s.toks+2 }):
  wpAny (model prog w) A (setAttr (.ref x) name v) Q E s:=by
 obtain⟨od,J,hl⟩:=I.look;refine W.set_plain X J hs (W.osa_open (s:={ s with toks:=s.toks+1 }) (r:=none) X J hp ht λb=>?_);obtain⟨cd,hc,hd'⟩:=W.any_some hh;have hx:s.heap.get? x=some ⟨.ref C,some dx,.plain,#[]⟩:=I.obj;refine ao (aB (ao (ao (wpAny_loadPart hx (ao (W.Looks.here (s:={ s with toks:=s.toks+1 }) (W.looks_clsIn X hc) ?_))))));rw[hd'];refine aB (a:=some dx) (ao (aB (ao ?_)));refine wpAny_nsSet1 (s:={ s with toks:=s.toks+1 }) I.ns λh' hn2 hs2=>?_;obtain⟨oD,esD,epD,hoD,hdD,hcD⟩:=hn2.count (PySem.Within.cons name v hw);refine ao (wpAny_lookBehind hoD (by rw[hdD];exact pastItsLine_dict (bI hcD (by rw[aK];omega))) ?_);exact aB (h _ ⟨(hs2.2 _ (cR I.ne)).trans I.obj,hn2,I.ne⟩ hs2)
theorem Ll{vs:List aa}(X:K.In s.heap)(hm:kx K C=true)
  (hi:cy K (.ref C) "__init__" = some (some (.ref f))) (hf:W.typeIn K (.ref f)=some (.type "function"))
  (h:codeAny (model prog w) (A.under (.builtin "type.__call__" ⟨.ref C::vs,kw⟩)) (.call (.ref f) ⟨.ref (s.heap.objs.size+1)::vs,kw⟩) (W.InitBack (s.heap.objs.size+1) R)
   { s with heap:=(s.heap.push cZ).push (di C s.heap.objs.size) }):
  codeAny (model prog w) A (.call (.ref C) ⟨vs,kw⟩) R s:=by
 obtain⟨hh,g,d,t,os⟩:=s;exact W.make_core (kr X hm) (W.looks_findIn X hi) (λself=>W.bind_fn X self hf) (.inl rfl) h
theorem JU(X:K.In s.heap)(hm:kx K C=true)
  (hi:cy K (.ref C) "__init__" = some (some (.builtin "object.__init__")))
  (hb:∀self,W.Looks (model prog w) s.heap (bindSpecial (.builtin "object.__init__") self) (.builtin "object.__init__", [self]))
  (h:codeAny (model prog w) (A.under (.builtin "type.__call__" ⟨[.ref C],[]⟩)) (.call (.builtin "object.__init__") ⟨[.ref (s.heap.objs.size+1)],[]⟩) (W.InitBack (s.heap.objs.size+1) R)
   { s with heap:=(s.heap.push cZ).push (di C s.heap.objs.size) }):
  codeAny (model prog w) A (.call (.ref C) ⟨[],[]⟩) R s:=by
 obtain⟨hh,g,d,t,os⟩:=s;exact W.make_core (kr X hm) (W.looks_findIn X hi) hb (.inr ⟨rfl,rfl⟩) h
end
def u4(f:Str)(v:V):List (Str×V)->List (Str×V)
 |[]=>[(f,v)]
 |(g,x)::r=>if g=f then (g,v)::r else (g,x)::u4 f v r
theorem Ar(f g:Str)(v:V):∀fs:List (Str×V),(u4 f v fs).lookup g=if g=f then some v else fs.lookup g
 |[]=>by
  show cP g [(f,v)]=_;by_cases h:g=f
  ·have hb:(g==f)=true:=beq_iff_eq.mpr h;simp only[cP,hb,ai h]
  ·have hb:(g==f)=false:=beq_eq_false_iff_ne.mpr h;simp only[cP,hb,aj h]
 |(k,x)::r=>by
  have ih:=Ar f g v r;rw[show u4 f v ((k,x)::r)=(if k=f then (k,v)::r else (k,x)::u4 f v r) from rfl];by_cases hk:k=f
  ·rw[ai hk];by_cases h:g=k
   ·have hb:(g==k)=true:=beq_iff_eq.mpr h;simp only[cP,hb,ai (h.trans hk)]
   ·have hb:(g==k)=false:=beq_eq_false_iff_ne.mpr h;simp only[cP,hb,aj (λe:g=f=>h (e.trans hk.symm))]
  ·rw[aj hk];by_cases h:g=k
   ·have hb:(g==k)=true:=beq_iff_eq.mpr h;simp only[cP,hb,aj (λe:g=f=>hk (h.symm.trans e))]
   ·have hb:(g==k)=false:=beq_eq_false_iff_ne.mpr h;simp only[cP,hb];exact ih
theorem zO(f:Str)(v:V):∀fs:List (Str×V),f∈(u4 f v fs).map (·.1)/\∀g,g∈fs.map (·.1)->g∈(u4 f v fs).map (·.1)
 |[]=>⟨by simp[u4],λg h=>by simp at h⟩
 |(k,x)::r=>by
  obtain⟨i1,i2⟩:=zO f v r;rw[show u4 f v ((k,x)::r)=(if k=f then (k,v)::r else (k,x)::u4 f v r) from rfl];by_cases hk:k=f
  ·rw[ai hk];subst hk;exact⟨by simp,λg h=>by simpa using h⟩
  ·rw[aj hk];refine⟨?_,λg h=>?_⟩
   ·rw[ay];exact bh _ i1
   ·rw[ay]at h ⊢;rcases aN.mp h with e|e
    ·exact aN.mpr (.inl e)
    ·exact bh _ (i2 g e)
theorem As(f:Str)(v:V):∀fs:List (Str×V),(u4 f v fs).length<=fs.length+1
 |[]=>by simp[u4]
 |(k,x)::r=>by
  have ih:=As f v r;rw[show u4 f v ((k,x)::r)=(if k=f then (k,v)::r else (k,x)::u4 f v r) from rfl];by_cases hk:k=f
  ·rw[ai hk,aK,aK];omega
  ·rw[aj hk,aK,aK];omega
theorem wH.some_of{v:V}{o:Option aa}(r:wH (some v) o):∃u,o=some u/\RelV v u:=by
 cases o with
 |none=>exact(show False from r).elim
 |some u=>exact⟨u,rfl,r⟩
theorem wH.none_of{o:Option aa}(r:wH none o):o=none:=by
 cases o with
 |none=>rfl
 |some u=>exact(show False from r).elim
theorem JV{v:V}(r:RelV v u):W.handedIn u=true:=by
 cases v with
 |non=>cases (show u=Value.none from r);rfl
 |bl b=>cases (show u=Value.bool b from r);rfl
 |int i=>obtain⟨t,e⟩:=(show ∃t,u=Value.int i t from r);cases e;rfl
 |str x=>obtain⟨t,e⟩:=(show ∃t,u=Value.str x t from r);cases e;rfl
 |byt b=>obtain⟨t,e⟩:=(show ∃t,u=Value.bytes b t from r);cases e;rfl
 |flt b=>obtain⟨t,e⟩:=(show ∃t,u=Value.float b t from r);cases e;rfl
 |ref a=>cases (show u=Value.ref a from r);rfl
 |ty n=>cases (show u=Value.type n from r);rfl
section
variable{P:aE}{w:az}{H H':Hp}{h h':Heap}{a C dx:Addr}{fs fs':List (Str×V)}
theorem Bo(hok:HOk P w H h)(e:H a=some (.ins C dx fs)):∃mA,G3 h a dx C mA/\(∀f,wH (fs.lookup f) (mA f))/\jW mA (fs.map (·.1))/\fs.length<=1000/\H dx=some (.own a):=by obtain⟨d,z,ne,ob,mA,n,r,q⟩:=(show pL P w H h a (.ins C dx fs) from hok a _ e);exact⟨mA,⟨ob,n,ne⟩,r,q,z,d⟩
end
structure Cls(K:au)(C:Addr):Prop where
 pg:iH K C Str.empty=true
 hd:j6 K C=true
 po:W.plainOver K C=true
 sa:cy K (.ref C) "__setattr__" = some (some (.builtin "object.__setattr__"))
theorem Cls.get{K:au}(c:Cls K C)(f:Str):iH K C f=true:=c.pg
def ud(K:au)(C:Addr)(f:Str):Prop:=cy K (.ref C) f=some none
theorem ud.taker{K:au}{f:Str}(n:ud K C f):ku K C f=some none:=by unfold ku;rw[show cy K (.ref C) f=some none from n];rfl
structure Meth(K:au)(C:Addr)(m:Str)(f:Addr):Prop where
 at_:cy K (.ref C) m=some (some (.ref f))
 fn:W.isFn K (.ref f)=true
 kp:c4 K (.ref f)=true
section
variable{X:Cx}{pins:cn}{σ:St}{H:Hp}{s:af}{a C dx:Addr}{fs:List (Str×V)}{f:Str}{v:V}{A:aH}{E:aa->af->Prop}
theorem G4{b:Bool}(I:Inv X pins σ H s)(e:H a=some (.ins C dx fs))(c:Cls X.K C)(n:ud X.K C f)(l:fs.lookup f=some v)
  (h:∀u s',Inv X pins σ H s'->RelV v u->Q u s'):wpAny (model X.prog X.w) A (getAttr (.ref a) f b) Q E s:=by
 obtain⟨mA,O,r,_,_,_⟩:=Bo I.hok e;obtain⟨u,hu,ru⟩:=wH.some_of (v:=v) (o:=mA f) (by rw[<-l];exact r f);exact get_map I.kIn O (c.get f) c.hd n hu (JV ru) (h u _ (I.tok _) ru)
theorem BB{m:Str}{g:Addr}{pl:Sem Bool}{Q:aa×List aa->af->Prop}(I:Inv X pins σ H s)(e:H a=some (.ins C dx fs))(c:Cls X.K C)(k:Meth X.K C m g)(l:fs.lookup m=none)
  (h:Q (.ref g,[.ref a]) s):wpAny (model X.prog X.w) A (getMethod (.ref a) m pl) Q E s:=by
 obtain⟨mA,O,r,_,_,_⟩:=Bo I.hok e;have hn:mA m=none:=wH.none_of (by rw[<-l];exact r m);exact Lk I.kIn O (c.get m) k.at_ k.fn hn h
theorem G5{Q:Unit->af->Prop}(I:Inv X pins σ H s)(e:H a=some (.ins C dx fs))(c:Cls X.K C)(n:ud X.K C f)(hl:fs.length<1000)(ry:RelV y u)
  (h:∀s',Inv X pins σ (upd H a (.ins C dx (u4 f y fs))) s'->Q () s'):wpAny (model X.prog X.w) A (setAttr (.ref a) f u) Q E s:=by
 obtain⟨mA,O,r,wi,_,ho⟩:=Bo I.hok e;have hz:(fs.map (·.1)).length<=sizeLine:=by rw[ah,bK];omega
 refine Oj I.kIn O c.sa c.po n.taker c.hd wi hz λh' O' sb=>h _ ?_;have hd:∃o,h'.get? dx=some o:=let ⟨o,_,_,e',_⟩:=O'.ns;⟨o,e'⟩;refine I.write (x:=a) (e:=dx) (by rw[e];exact True.intro) (.inr ho) (λb q hb z=>(sb.2 b hb).trans z) hd ?_;refine⟨by rw[oB O.ne];exact ho,?_,O.ne,O'.obj,_,O'.ns,λg=>?_,λg hg=>?_⟩
 ·have:=As f y fs;omega
 ·show wH ((u4 f y fs).lookup g) (if g=f then some u else mA g);rw[Ar];by_cases q:g=f
  ·rw[ai q,ai q];exact ry
  ·rw[aj q,aj q];exact r g
 ·by_cases q:g=f
  ·rw[q];exact(zO f y fs).1
  ·refine(zO f y fs).2 g (wi g λz=>hg ?_);show (if g=f then some u else mA g)=none;rw[aj q];exact z
theorem Inv.made(I:Inv X pins σ H s):Inv X pins σ (upd (upd H s.heap.objs.size (.own (s.heap.objs.size+1))) (s.heap.objs.size+1) (.ins C s.heap.objs.size []))
  { s with heap:=(s.heap.push cZ).push (di C s.heap.objs.size) }:=by
 have e1:(s.heap.push cZ).get? s.heap.objs.size=some cZ:=bz s.heap rfl;have e2:((s.heap.push cZ).push (di C s.heap.objs.size)).get? (s.heap.objs.size+1)=some (di C s.heap.objs.size):=by
  have:=bz (s.heap.push cZ) (o:=di C s.heap.objs.size) rfl
  rwa [de]at this
 have e3:(s.heap.push cZ).Ns s.heap.objs.size (λ_=>none):=⟨cZ,#[],_,e1,rfl,(λe he=>aq he (by simp)),λ_=>rfl⟩;have I1:=I.laid (a:=s.heap.objs.size) (o:=.own (s.heap.objs.size+1)) (h':=s.heap.push cZ) (t':=s.toks) (λb u q=>aM _ q) (aI _) ⟨_,e1⟩;refine I1.laid (a:=s.heap.objs.size+1) (o:=.ins C s.heap.objs.size []) (t':=s.toks) (λb u q=>aM _ q) (jX (de _ _)) ?_;have ne:s.heap.objs.size≠s.heap.objs.size+1:=aT (dB _);refine⟨by rw[oB ne,oA],cf _,ne,e2,λ_=>none,(Heap.Ns1.of_empty e3).at λo q=>aM _ q,λ_=>True.intro,λy hy=>aq rfl hy⟩
theorem Ol{prog:aE}{w:az}{env:Env}{f:Str}{s:af}(hb:attributeBase e f env (eval e env)=eval e env)
  (h:wpAny (model prog w) A (eval e env) (λo s₁=>wpAny (model prog w) A (getAttr o f true) Q E s₁) E s):wpAny (model prog w) A (eval (.Attribute e f pos) env) Q E s:=
 Attribute_any_ h (by rw[arm_eval_Attribute,hb])
end
def Xi(K:au)(ta:TE)(f:Str):TE:=λσ H Q=>ta σ H λx H1=>∃a C dx fs v,x=.ref a/\H1 a=some (.ins C dx fs)/\Cls K C/\ud K C f/\fs.lookup f=some v/\Q v H1
def VQ(K:au)(ta tv:TE)(f:Str):TS:=λD σ H=>tv σ H λy H1=>ta σ H1 λx H2=>∃a C dx fs,x=.ref a/\H2 a=some (.ins C dx fs)/\Cls K C/\ud K C f/\fs.length<1000/\
 D.nx σ (upd H2 a (.ins C dx (u4 f y fs)))
section
variable{X:Cx}{o e value:Expr}{f:Str}{pos pos' tpos:Pos}{ta tv:TE}
theorem RF(he:PE X e ta)(hb:attributeBase e f X.env (eval e X.env)=eval e X.env):PE X (.Attribute e f pos) (Xi X.K ta f):=by intro pins s σ H Q I h;refine Ol hb (thn (he pins s σ H _ I h) λu s1 ⟨x,H1,I1,rx,a,C,dx,fs,v,ex,ea,c,n,l,q⟩=>?_);subst ex;obtain rfl:u=Value.ref a:=rx;exact G4 I1 ea c n l λu' s2 I2 ru=>⟨v,H1,I2,ru,q⟩
theorem RG(ha:PE X o ta)(hv:PE X value tv)(hs:swapsWith value (some (.Attribute o f pos')) pos.line X.env=pure false):PS X (.Assign [.Attribute o f pos'] value pos) (VQ X.K ta tv f):=by intro pins s σ H D I h;refine plainObj_wpAny_Assign_Attribute (thn (hv pins s σ H _ I h) λu s1 ⟨y,H1,I1,ry,q⟩=>thn (ha pins s1 σ H1 _ I1 q) λov s2 ⟨x,H2,I2,rx,a,C,dx,fs,ex,ea,c,n,l,q2⟩=>?_) hs;subst ex;obtain rfl:ov=Value.ref a:=rx;exact G5 I2 ea c n l ry λs3 I3=>⟨σ,_,I3,q2⟩
end
section
variable{X:Cx}{pins:cn}{σ:St}{H:Hp}{s:af}{A:aH}{E:aa->af->Prop}{Q:aa->af->Prop}{c:aa}{b:Bool}
inductive Bi(K:au) (H:Hp):V->aa->Prop where
 |non:Bi K H .non (.type "NoneType")
 |bl (x:Bool):Bi K H (.bl x) (.type "bool")
 |int (i:Int):Bi K H (.int i) (.type "int")
 |str (x:Str):Bi K H (.str x) (.type "str")
 |flt (x:UInt64):Bi K H (.flt x) (.type "float")
 |lst {a:Addr} {xs:bt} (e:H a=some (.lst xs)):Bi K H (.ref a) (.type "list")
 |frz {a:Addr} {o:Obj} {xs:bt} (e:H a=some (.frz o (.lst xs))):Bi K H (.ref a) (.type "list")
 |tup {a:Addr} {xs:bt} (e:H a=some (.tup xs)):Bi K H (.ref a) (.type "tuple")
 |dK {a:Addr} {kvs:List (Key×V)} (e:H a=some (.dK kvs)):Bi K H (.ref a) (.type "dict")
 |dT {a:Addr} {kvs:List (List Key×V)} (e:H a=some (.dT kvs)):Bi K H (.ref a) (.type "dict")
 |ins {a C dx:Addr} {fs:List (Str×V)} (e:H a=some (.ins C dx fs)) (cl:Cls K C) (ha:cy K (.ref C) "__class__" = some (some (.builtin "object.__class__")))
   (hn:W.specialIn K (.builtin "object.__class__") "__get__" = some (some (.builtin "getset_descriptor.__get__"))) (htk:W.takesIn K (.builtin "object.__class__")=some true)
   (hm:W.mroIn K C (.type "object")=some true):Bi K H (.ref a) (.ref C)
theorem t8{x:V}{t:aa}(I:Inv X pins σ H s)(rx:RelV x u)(ty:Bi X.K H x t)(e:cK X.K t c=some b)(h:∀tk,Q (.bool b) { s with toks:=tk }):
  wpAny (model X.prog X.w) A (call (.builtin "isinstance") [u,c]) Q E s:=by
 cases ty with
 |non=>cases (show u=Value.none from rx);exact cx W.kitx_none I.kIn True.intro e (λz=>nomatch z) h
 |bl y=>cases (show u=Value.bool y from rx);exact cx W.kitx_bool I.kIn True.intro e (λz=>nomatch z) h
 |int i=>obtain⟨t,q⟩:=(show ∃t,u=Value.int i t from rx);cases q;exact cx W.kitx_int I.kIn True.intro e (λz=>nomatch z) h
 |str y=>obtain⟨t,q⟩:=(show ∃t,u=Value.str y t from rx);cases q;exact cx W.kitx_str I.kIn True.intro e (λz=>nomatch z) h
 |flt y=>obtain⟨t,q⟩:=(show ∃t,u=Value.float y t from rx);cases q;exact cx W.kitx_float I.kIn True.intro e (λz=>nomatch z) h
 |@lst a xs ea=>cases (show u=Value.ref a from rx);obtain⟨_,_,n,_,h1⟩:=(show pL X.prog X.w H s.heap a (.lst xs) from I.hok a _ ea);exact cx j7 I.kIn ⟨_,h1,rfl⟩ e (λz=>nomatch z) h
 |@frz a ob xs ea=>cases (show u=Value.ref a from rx);obtain⟨_,_,_,n,_,h1⟩:=(show pL X.prog X.w H s.heap a (.frz ob (.lst xs)) from I.hok a _ ea);exact cx j7 I.kIn ⟨_,h1,rfl⟩ e (λz=>nomatch z) h
 |@tup a xs ea=>cases (show u=Value.ref a from rx);obtain⟨_,_,_,p⟩:=(show pL X.prog X.w H s.heap a (.tup xs) from I.hok a _ ea);obtain⟨o,h1,h2,_⟩:=p;exact cx W.kitx_tuple I.kIn ⟨o,h1,h2⟩ e (λz=>nomatch z) h
 |@dK a kvs ea=>cases (show u=Value.ref a from rx);obtain⟨_,_,vs,_,p⟩:=(show pL X.prog X.w H s.heap a (.dK kvs) from I.hok a _ ea);obtain⟨o,es,ep,h1,h2,_⟩:=p;exact cx j8 I.kIn ⟨o,h1,h2.1⟩ e (λz=>nomatch z) h
 |@dT a kvs ea=>cases (show u=Value.ref a from rx);obtain⟨_,_,xs,_,o,es,ep,h1,h2,_⟩:=(show pL X.prog X.w H s.heap a (.dT kvs) from I.hok a _ ea);exact cx j8 I.kIn ⟨o,h1,h2.1⟩ e (λz=>nomatch z) h
 |@ins a C dx fs ea cl ha hn htk hm=>cases (show u=Value.ref a from rx);obtain⟨mA,O,_⟩:=Bo I.hok ea;obtain⟨od,J,_⟩:=O.look;exact cx (W.kitx_own (cl.get _) cl.hd ha hn htk hm) I.kIn J e (λz=>nomatch z) h
end
structure p8(k:Nat)(A:aH):Prop where
 hd:A.handled=none
 dp:A.depth+3 * k+5<recursionLimit
 un:A.units+16 * k+200<cLine
theorem p8.mono{k:Nat}{A:aH}(r:p8 k A)(h:j<=k):p8 j A:=⟨r.hd,by have:=r.dp;omega,by have:=r.un;omega⟩
theorem p8.deeper{k:Nat}{A:aH}(r:p8 (k+1) A)(env:Env):p8 k (A.deeper env):=
 ⟨r.hd,by have:=r.dp;show A.depth+1+3 * k+5<_;omega,by have:=r.un;show A.units+3+16 * k+200<_;omega⟩
theorem G6{A:aH}:(A.under (.builtin "type.__call__" ⟨.ref C::us,kw⟩)).depth=A.depth+1:=by
 first|rfl|simp[jY,Code.weight,Code.isCreation,Code.isGuard,Code.isCaller,Code.frames,jZ,guardIds]
theorem G7{A:aH}:(A.under (.builtin "type.__call__" ⟨.ref C::us,kw⟩)).units=A.units+1:=by
 first|rfl|simp[jY,Code.cUnits,Code.frames,jZ]
theorem p8.make{k:Nat}{A:aH}(r:p8 (k+1) A)(C:Addr)(us:List aa)(kw:List (Str×aa)):p8 k (A.under (.builtin "type.__call__" ⟨.ref C::us,kw⟩)):=
 ⟨r.hd,by have:=r.dp;rw[G6];omega,by have:=r.un;rw[G7];omega⟩
theorem p8.depth{k:Nat}{A:aH}(r:p8 k A):A.depth<recursionLimit:=by have:=r.dp;omega
theorem p8.units{k:Nat}{A:aH}(r:p8 k A):A.units+64<cLine:=by have:=r.un;omega
def Ft:TA:=λ_ H Q=>Q [] H
def BC(ta:TE)(tr:TA):TA:=λσ H Q=>ta σ H λx H1=>tr σ H1 λxs H2=>Q (x::xs) H2
section
variable{X:Cx}{e:Expr}{es:List Expr}{te:TE}{t:TA}{pos:Pos}
theorem uN:PA X [] Ft:=λ_ _ _ _ H Q I h=>fX ⟨[],H,I,.nil,h⟩
theorem qw(ha:PE X e te)(hr:PA X es t)(hs:starEach (e::es) X.env=(false,eval e X.env)::starEach es X.env:=by rfl):PA X (e::es) (BC te t):=by intro pos pins s σ H Q I h;rw[hs];show wpAny _ _ (spliced ((false,eval e X.env)::backTo pos (starEach es X.env))) _ _ s;refine eC (thn (ha pins s σ H _ I h) λu s1 ⟨x,H1,I1,r1,q1⟩=>?_);exact thn (hr pos pins s1 σ H1 _ I1 q1) λus s2 ⟨xs,H2,I2,r2,q2⟩=>⟨x::xs,H2,I2,.cons r1 r2,q2⟩
def Xj(t:TA):TE:=λσ H Q=>t σ H λxs H1=>xs.length<=sizeLine/\∀p,H1 p=none->Q (.ref p) (upd H1 p (.tup xs))
def VR(t:TA):TE:=λσ H Q=>t σ H λxs H1=>xs.length<=sizeLine/\∀p,H1 p=none->Q (.ref p) (upd H1 p (.lst xs))
theorem RH{x1}(h:PA X es t):PE X (.Tuple es x1 pos) (Xj t):=by intro pins s σ H Q I hq;refine wpAny_Tuple_spliced (thn (h pos pins s σ H _ I hq) λus s1 ⟨xs,H1,I1,r,z,q⟩=>⟨by rw[<-r.length];exact z,?_⟩);have hf:H1 s1.heap.objs.size=none:=I1.hok.fresh (aI _);refine⟨.ref s1.heap.objs.size,upd H1 s1.heap.objs.size (.tup xs),I1.laid (t':=s1.toks) (λb u e=>aM _ e) (aI _) ?_,rfl,q _ hf⟩;exact⟨z,us,r,⟨_,bz _ rfl,rfl,_,rfl⟩⟩
theorem Lm(h:PA X es t):PE X (.List es pos) (VR t):=by intro pins s σ H Q I hq;refine wpAny_List_spliced (thn (h pos pins s σ H _ I hq) λus s1 ⟨xs,H1,I1,r,z,q⟩=>⟨by rw[<-r.length];exact z,?_⟩);have hf:H1 s1.heap.objs.size=none:=I1.hok.fresh (aI _);refine⟨.ref s1.heap.objs.size,upd H1 s1.heap.objs.size (.lst xs),I1.laid (t':=s1.toks) (λb u e=>aM _ e) (aI _) ?_,rfl,q _ hf⟩;exact⟨z,us,0,r,bz _ rfl⟩
end
abbrev Sp:=bt->Hp->VK->XK->Prop
abbrev CXT:=List Env->Hp->af->XK->aa->af->Prop
structure G8(P:aE)(w:az)(K:au)(mg:Str->Option aa)(base:Heap)(A:aH)(outer:List Env)(s:af)(H:Hp):Prop where
 frames:A.frames=some outer
 mod:Mod K mg base
 bs:∀b o,base.get? b=some o->s.heap.get? b=some o/\H b=none
 bsz:base.objs.size<=s.heap.objs.size
 funs:s.heap.FunFrames base outer
 frf:∀b∈frs outer,H b=none
 hok:HOk P w H s.heap
 bare:dj s.gens
def CE(outer:List Env)(P:aE)(w:az)(H:Hp)(s:af)(Q:VK)(u:aa)(s':af):Prop:=
 ∃v H',s'.os=s.os/\dj s'.gens/\Un (frs outer) [] H H' s.heap s'.heap/\HOk P w H' s'.heap/\RelV v u/\Q v H'
def CR(CX:CXT)(outer:List Env)(P:aE)(w:az)(H:Hp)(s:af)(Q:VK)(E:XK)(r:dQ)(s':af):Prop:=
 match r with
 |.ok (.ret u)=>CE outer P w H s Q u s'
 |.ok _=>False
 |.error e=>CX outer H s E e s'
structure sH(P:aE)(w:az)(K:au)(mg:Str->Option aa)(base:Heap)(CX:CXT)(k:Nat)(f:Addr)(fd:bM)(ps:aC)(sp:Sp):Prop where
 len:∀vs H Q E,sp vs H Q E->vs.length=ps.length
 run:∀(A:aH) (outer:List Env) (s:af) (H:Hp) (args:Args) (us:List aa) (vs:bt) (Q:VK) (E:XK),p8 k A->G8 P w K mg base A outer s H->fH s fd args (ps.zip us)->Vals vs us->sp vs H Q E->
  codeAny (model P w) A (.call (.ref f) args) (CR CX outer P w H s Q E) s
variable{mg:Str->Option aa}{base:Heap}{CX:CXT}{fd:bM}{ps:aC}{sp:Sp}
theorem sH.imp{P:aE}{w:az}{K:au}{k:Nat}{f:Addr}{sp':Sp}(F:sH P w K mg base CX k f fd ps sp)
  (h:∀vs H Q E,sp' vs H Q E->sp vs H Q E):sH P w K mg base CX k f fd ps sp':=
 ⟨λvs H Q E q=>F.len vs H Q E (h _ _ _ _ q),λA outer s H args us vs Q E hr he hb hv hs=>F.run A outer s H args us vs Q E hr he hb hv (h _ _ _ _ hs)⟩
variable{outer:List Env}
theorem G8.make{P:aE}{w:az}{K:au}{A:aH}{s:af}{H:Hp}(e:G8 P w K mg base A outer s H)(C:Addr)(us:List aa)(kw:List (Str×aa)):
  G8 P w K mg base (A.under (.builtin "type.__call__" ⟨.ref C::us,kw⟩)) outer s H:=⟨by first|exact e.frames|(simpa [jY,Code.envs,jZ,pushEnvs]using e.frames),e.mod,e.bs,e.bsz,e.funs,e.frf,e.hok,e.bare⟩
section
variable{X:Cx}{pins:cn}{σ:St}{H:Hp}{s s':af}
theorem Inv.env0(I:Inv X pins σ H s):G8 X.prog X.w X.K X.mg X.base X.A X.stack s H:=
 ⟨I.ok.frames,I.ok.mod,I.bs,bI I.ok.bsz I.sz,I.stack,I.stkFree,I.hok,I.bare⟩
theorem Inv.after{Q:VK}(I:Inv X pins σ H s)(h:CE X.stack X.prog X.w H s Q u s'):EP X pins σ Q u s':=by obtain⟨v,H',os,bare,un,hok,r,q⟩:=h;obtain⟨hh,g,d,t,os'⟩:=s';obtain rfl:os'=s.os:=os;exact⟨v,H',I.call (h':=hh) (g':=g) (d':=d) (t':=t) (ch:=[]) un hok bare (λb z=>aq z (by simp)),r,q⟩
end
def wJ(sp:Sp)(dvs:bt)(E:XK)(t:TA):TE:=λσ H Q=>t σ H λvs H1=>sp (vs++dvs) H1 Q E
def QH(C:Addr)(sp:Sp)(dvs:bt)(E:XK)(t:TA):TE:=λσ H Q=>t σ H λvs H1=>∀x dx,H1 x=none->H1 dx=none->dx≠x->
 sp (.ref x::(vs++dvs)) (upd (upd H1 dx (.own x)) x (.ins C dx [])) (λv H2=>v=.non/\Q (.ref x) H2) E
def Binds(K:au)(fd:bM)(ps:aC)(ds:List aa):Prop:=
 ∀(s:af) (us:List aa),K.In s.heap->(us++ds).length=ps.length->fH s fd ⟨us,[]⟩ (ps.zip (us++ds))
theorem Binds.all{K:au}(h:∀us:List aa,us.length=ps.length->bindArgs fd ⟨us,[]⟩=pure (ps.zip us)):Binds K fd ps []:=λs us _ hl=>by rw[br]at hl ⊢;exact .of_eq (h us hl)
def Passes(CX:CXT)(X:Cx)(E:XK):Prop:=∀(pins:cn) (σ:St) (H:Hp) (s:af) (e:aa) (s':af),Inv X pins σ H s->CX X.stack H s E e s'->X.xe e s'
variable{vs:bt}
section
variable{X:Cx}{CX:CXT}{k:Nat}{f C:Addr}{fd:bM}{ps:aC}{sp:Sp}{dvs:bt}{ds:List aa}{E:XK}{x m:Str}{p pos apos:Pos}{e o:Expr}{es:List Expr}{ta:TE}{t:TA}
theorem Ew{H:Hp}{s:af}{Q:VK}(F:sH X.prog X.w X.K X.mg X.base CX k f fd ps sp)(hr:p8 k X.A)(hb:Binds X.K fd ps ds)(hd:Vals dvs ds)(hx:Passes CX X E)
  (I:Inv X pins σ H s) (r:Vals vs us) (h:sp (vs++dvs) H Q E):wpAny (model X.prog X.w) X.A (call (.ref f) us) (EP X pins σ Q) X.xe s:=by
 have r2:Vals (vs++dvs) (us++ds):=r.append hd;have hl:(us++ds).length=ps.length:=by rw[<-r2.length];exact F.len _ _ _ _ h
 refine iI (fD (F.run X.A X.stack s H ⟨us,[]⟩ (us++ds) (vs++dvs) Q E hr I.env0 (hb s us I.kIn hl) r2 h) λr s' hq=>?_);cases r with
 |error e=>exact hx pins σ H s e s' I hq
 |ok fl=>
  cases fl with
  |ret u=>exact I.after hq
  |next=>exact cF hq
  |brk=>exact cF hq
  |cont=>exact cF hq
theorem yV(F:sH X.prog X.w X.K X.mg X.base CX k f fd ps sp)(hr:p8 k X.A)(hg:Gl X x)(hm:X.mg x=some (.ref f))(hk:c4 X.K (.ref f)=true)(hb:Binds X.K fd ps ds)(hd:Vals dvs ds)(hx:Passes CX X E)
  (ha:PA X (e::es) t) (hdb:(x==("__debug__" : Str))=false:=by decide) (he:starEach (e::es) X.env=(false,eval e X.env)::starEach es X.env:=by rfl) (hpl:(backTo pos (starEach es X.env)).any (·.1)=false:=by rfl):
  PE X (.Call (.Name x p) (e::es) [] pos) (wJ sp dvs E t):=by
 intro pins s σ H Q I h;refine dw (yU I hg hm ?_ hdb);refine j2 (h₀:=X.base) I.ok.mod.kin hk (thn (ha pos pins s σ H _ I h) λus s1 ⟨vs,H1,I1,r,q⟩=>⟨I1.kIn,?_⟩) he hpl;exact Ew F hr hb hd hx I1 r q
theorem Ln(F:sH X.prog X.w X.K X.mg X.base CX k f fd ps sp)(hr:p8 k X.A)(hg:Gl X x)(hm:X.mg x=some (.ref f))(hk:c4 X.K (.ref f)=true)(hb:Binds X.K fd ps ds)(hd:Vals dvs ds)(hx:Passes CX X E)
  (hdb:(x==("__debug__" : Str))=false:=by decide):PE X (.Call (.Name x p) [] [] pos) (wJ sp dvs E Ft):=by
 intro pins s σ H Q I h;refine dw (yU I hg hm ?_ hdb);exact jP I.kIn hk (Ew (us:=[]) F hr hb hd hx I .nil h)
structure Mk(K:au)(C f:Addr):Prop where
 makes:kx K C=true
 init:cy K (.ref C) "__init__" = some (some (.ref f))
 fn:W.isFn K (.ref f)=true
 kp:c4 K (.ref C)=true
theorem Lo{H:Hp}{s:af}{Q:VK}(M:Mk X.K C f)(F:sH X.prog X.w X.K X.mg X.base CX k f fd ps sp)(hr:p8 (k+1) X.A)(hb:Binds X.K fd ps ds)(hd:Vals dvs ds)
  (hx:Passes CX X E) (I:Inv X pins σ H s) (r:Vals vs us)
  (h:∀x dx,H x=none->H dx=none->dx≠x->sp (.ref x::(vs++dvs)) (upd (upd H dx (.own x)) x (.ins C dx [])) (λv H2=>v=.non/\Q (.ref x) H2) E):
  wpAny (model X.prog X.w) X.A (call (.ref C) us) (EP X pins σ Q) X.xe s:=by
 have hq:=h (s.heap.objs.size+1) s.heap.objs.size (I.hok.fresh (eM _)) (I.hok.fresh (aI _)) (aT (dB _));have I2:=Inv.made (C:=C) I;have r2:Vals (V.ref (s.heap.objs.size+1)::(vs++dvs)) (Value.ref (s.heap.objs.size+1)::(us++ds)):=.cons rfl (r.append hd);have hl:(Value.ref (s.heap.objs.size+1)::us++ds).length=ps.length:=by have e:=r2.length;rw[F.len _ _ _ _ hq]at e;exact e.symm
 refine iI (Ll (f:=f) I.kIn M.makes M.init (beq_iff_eq.mp M.fn) (fD (F.run _ X.stack _ _ ⟨Value.ref (s.heap.objs.size+1)::us,[]⟩ (Value.ref (s.heap.objs.size+1)::(us++ds)) _ _ E (hr.make C us [])
  (I2.env0.make C us []) (hb _ (Value.ref (s.heap.objs.size+1)::us) I2.kIn hl) r2 hq) λr s' hq'=>?_))
 cases r with
 |error e=>exact hx pins σ _ _ e s' I2 hq'
 |ok fl=>
  cases fl with
  |ret u=>obtain⟨v,H',I3,rv,ev,q3⟩:=I2.after hq';subst ev;exact⟨rv,⟨V.ref (s.heap.objs.size+1),H',I3,rfl,q3⟩⟩
  |next=>exact cF hq'
  |brk=>exact cF hq'
  |cont=>exact cF hq'
theorem Om(M:Mk X.K C f)(F:sH X.prog X.w X.K X.mg X.base CX k f fd ps sp)(hr:p8 (k+1) X.A)(hg:Gl X x)(hm:X.mg x=some (.ref C))(hb:Binds X.K fd ps ds)(hd:Vals dvs ds)(hx:Passes CX X E)
  (ha:PA X (e::es) t) (hdb:(x==("__debug__" : Str))=false:=by decide) (he:starEach (e::es) X.env=(false,eval e X.env)::starEach es X.env:=by rfl) (hpl:(backTo pos (starEach es X.env)).any (·.1)=false:=by rfl):
  PE X (.Call (.Name x p) (e::es) [] pos) (QH C sp dvs E t):=by
 intro pins s σ H Q I h;refine dw (yU I hg hm ?_ hdb);refine j2 (h₀:=X.base) I.ok.mod.kin M.kp (thn (ha pos pins s σ H _ I h) λus s1 ⟨vs,H1,I1,r,q⟩=>⟨I1.kIn,?_⟩) he hpl;exact Lo M F hr hb hd hx I1 r q
end
structure pZ(N P:aC)(sc:cG):Prop where
 kind:sc.kind=.function
 co:sc.isCoroutine=false
 gen:sc.isGenerator=false
 nd:N.Nodup
 pre:N.take P.length=P
 par:∀x∈P,sc.names.lookup x=some .local\/sc.names.lookup x=some .cell
 nofree:∀y∈sc.names,y.2≠.free
theorem Dw{kindOf:Str->Option c5}{x:Str}:∀{binds:List (Str×aa)} {m:Str->Option aa},(∀v,(x,v)∉binds)->bindL kindOf binds m x=m x
 |[],_,_=>rfl
 |(n,v)::r,m,h=>by
  unfold bindL;rw[Dw λw hw=>h w (bh _ hw)];split
  ·have:x≠n:=by rintro rfl;exact h v aV
   simp[this]
  ·rfl
theorem Dx{kindOf:Str->Option c5}{x:Str}:∀{binds:List (Str×aa)} {m:Str->Option aa},(∀v,(x,v)∉binds)->bindC kindOf binds m x=m x
 |[],_,_=>rfl
 |(n,v)::r,m,h=>by
  unfold bindC;rw[Dx λw hw=>h w (bh _ hw)];split
  ·rfl
  ·have:x≠n:=by rintro rfl;exact h v aV
   simp[this]
theorem Dy{kindOf:Str->Option c5}{x:Str}{v:aa}:∀{P:aC} {vs:List aa} {i:Nat} {m:Str->Option aa},P.Nodup->P[i]?=some x->vs[i]?=some v->kindOf x=some .local->
  bindL kindOf (P.zip vs) m x=some v
 |[],_,_,_,_,h,_,_=>by simp at h
 |_::_,[],_,_,_,_,h,_=>by simp at h
 |p::P,w::vs,0,m,nd,h1,h2,hk=>by simp at h1 h2;subst h1;subst h2;show bindL kindOf ((p,w)::P.zip vs) m p=_;unfold bindL;rw[Dw λv hv=>(bY.mp nd).1 (iu hv).1,ai hk];simp
 |p::P,w::vs,i+1,m,nd,h1,h2,hk=>by show bindL kindOf ((p,w)::P.zip vs) m x=_;unfold bindL;exact Dy (i:=i) (bY.mp nd).2 (by simpa using h1) (by simpa using h2) hk
theorem DA{kindOf:Str->Option c5}{x:Str}{v:aa}:∀{P:aC} {vs:List aa} {i:Nat} {m:Str->Option aa},P.Nodup->P[i]?=some x->vs[i]?=some v->kindOf x≠some .local->
  bindC kindOf (P.zip vs) m x=some v
 |[],_,_,_,_,h,_,_=>by simp at h
 |_::_,[],_,_,_,_,h,_=>by simp at h
 |p::P,w::vs,0,m,nd,h1,h2,hk=>by simp at h1 h2;subst h1;subst h2;show bindC kindOf ((p,w)::P.zip vs) m p=_;unfold bindC;rw[Dx λv hv=>(bY.mp nd).1 (iu hv).1,aj hk];simp
 |p::P,w::vs,i+1,m,nd,h1,h2,hk=>by show bindC kindOf ((p,w)::P.zip vs) m x=_;unfold bindC;exact DA (i:=i) (bY.mp nd).2 (by simpa using h1) (by simpa using h2) hk
def start(N:aC)(vs:bt):St:=vs.map some++dH (N.length - vs.length) none
def Fu(CX:CXT)(P:aE)(w:az)(K:au)(mg:Str->Option aa)(base:Heap)(N:aC)(qual:Str)(scope:cG)(f:Addr)(cd:aa)(A:aH)(outer:List Env)(s:af)(H:Hp)(E:XK):Cx where
 prog:=P
 w:=w
 K:=K
 mg:=mg
 base:=base
 A:=A.deeper (envOfC qual scope s.heap.objs.size f cd)
 N:=N
 s₀:=s
 H₀:=H
 env:=envOfC qual scope s.heap.objs.size f cd
 outer:=outer
 stack:=envOfC qual scope s.heap.objs.size f cd::outer
 ex:=[]
 calm:=true
 fn:=λ_=>true
 pn:=[]
 xe:=λe s'=>wpAny (model P w) (A.deeper (envOfC qual scope s.heap.objs.size f cd)) (leaving (envOfC qual scope s.heap.objs.size f cd) e) (λ_ s''=>CX outer H s E e s'') (λe' s''=>CX outer H s E e' s'') s'
theorem Fv{sc:cG}{n:Nat}{x:Str}(h:sc.names.lookup x=some .cell):∃c,(cellsFrom n sc.names []).lookup x=some c:=by have q:=mH sc.names n [] (.inl h);exact Option.isSome_iff_exists.mp q
variable{qual:Str}{scope:cG}
theorem JW{P:aE}{w:az}{K:au}{f:Addr}{cd:aa}{A:aH}{s s1:af}{H:Hp}{E:XK}
  (S:pZ N ps scope) (hd:A.handled=none) (e0:G8 P w K mg base A outer s H) (hl:vs.length=ps.length) (r:Vals vs us)
  (x:InCallC s s.heap.objs.size (bindL (envOfC qual scope s.heap.objs.size f cd).kindOf (ps.zip us) λ_=>none) (cellsFrom (s.heap.objs.size+1) scope.names []) (bindC (envOfC qual scope s.heap.objs.size f cd).kindOf (ps.zip us) λ_=>none) s1):
  Inv (Fu CX P w K mg base N qual scope f cd A outer s H E) [] (start N vs) H s1:=by
 have hpl:ps.length<=N.length:=by have:=aS bS S.pre;rw[bo]at this;omega
 obtain⟨h1,tk,rfl,hk⟩:=x.done;have noA:∀b:Addr,b∉(Fu CX P w K mg base N qual scope f cd A outer s H E).ex:=λb z=>aq (show b∈([]:List Addr) from z) (by simp);refine⟨⟨e0.mod,S.kind,rfl,rfl,aI _,λy z c h1 h2=>?_,λy hy=>?_,λy c _ h=>?_,λ_=>hd,Around.frames_deeper e0.frames,.inr ⟨rfl,rfl⟩,λb z=>aq z (noA b),e0.bs,e0.bsz,λb _ _=>noA b,λb z=>aq z (noA b),e0.funs,e0.frf⟩,
  rfl,e0.bare,Un.kept hk,⟨_,x.toInCall.ns,λi y v h1 h2 h3=>?_⟩,λy c h=>⟨_,x.cell y c h⟩,e0.hok.fresh (aI _),λy c h=>?_,λp hp=>aq (show p∈([]:cn) from hp) (by simp),e0.hok.kept hk,?_⟩
 ·exact name_of_addr x.apart (fU h1) (fU h2)
 ·have hy:scope.names.lookup y=some .cell\/scope.names.lookup y=some .free:=hy;rcases hy with hy|hy
  ·exact Fv hy
  ·exact aq rfl (S.nofree _ (fU hy))
 ·exact eL (x.above y c (fU h))
 ·have hi:i<vs.length:=by
   unfold start at h2;by_cases hi:i<vs.length
   ·exact hi
   ·rw[cA (by simpa using hi)]at h2;rw[eZ]at h2;split at h2<;>cases h2
  have ha:vs[i]?=some v:=by
   unfold start at h2;rw[cJ (by simpa using hi),bu]at h2;cases e:vs[i]? with
   |none=>rw[e]at h2;cases h2
   |some a=>rw[e]at h2;cases h2;rfl
  obtain⟨u,hu,rv⟩:=r.get ha;have hp:ps[i]?=some y:=by rw[<-S.pre,List.getElem?_take_of_lt (by omega)];exact h1
  have ndP:ps.Nodup:=by rw[<-S.pre];exact S.nd.sublist (ib _ _)
  refine⟨u,rv,?_⟩;rcases S.par y (cB hp)with k|k
  ·exact .inl ⟨k,Dy ndP hp hu k⟩
  ·obtain⟨c,e⟩:=Fv (n:=s.heap.objs.size+1) k;refine .inr ⟨.inl k,c,e,?_⟩;have q:=x.cell y c e;rw[DA ndP hp hu (by show scope.names.lookup y≠_;rw[k];decide)]at q;exact q
 ·exact e0.hok.fresh (eL (x.above y c (fU h)))
 ·unfold start;show _=N.length;rw[aD,ah,cb];omega
theorem QI{P:aE}{w:az}{K:au}{k:Nat}{f:Addr}{name:Str}{params:Arguments}{dV kV doc pm cdv ct oc:aa}{an od:Option Addr}
  {osl:Array (Option aa)} (lk:K.lookup f=some ⟨oc,od,.func (dq name qual params body scope dV kV doc pm an cdv ct),osl⟩) (hcd:fF K cdv qual=true) (S:pZ N ps scope)
  (len:∀vs H Q E,sp vs H Q E->vs.length=ps.length)
  (hbody:∀(A:aH) (outer:List Env) (s:af) (H:Hp) (vs:bt) (Q:VK) (E:XK),p8 k (A.deeper (envOfC qual scope s.heap.objs.size f cdv))->sp vs H Q E->
   ∃t,PSs (Fu CX P w K mg base N qual scope f cdv A outer s H E) body t/\t { nx:=λ_ H'=>Q .non H',rt:=Q } (start N vs) H):
  sH P w K mg base CX (k+1) f (dq name qual params body scope dV kV doc pm an cdv ct) ps sp:=by
 refine⟨len,λA outer s H args us vs Q E hr e0 hb r hsp=>?_⟩;have hl:=len _ _ _ _ hsp;have KX:K.In s.heap:=e0.mod.kin.keeps λb o e=>(e0.bs b o e).1;have lim:s.heap.NoLimit:=e0.mod.nolimit.keeps λb o e=>(e0.bs b o e).1;have hkind:∀y∈ps.zip us,scope.names.lookup y.1=some .local\/(scope.names.lookup y.1=some .cell/\((cellsFrom (s.heap.objs.size+1) scope.names []).lookup y.1).isSome=true):=λ⟨n,v⟩ hy=>by
  rcases S.par n (iu hy).1 with q|q
  ·exact .inl q
  ·exact .inr ⟨q,mH _ _ _ (.inl q)⟩
 refine codeAny_call_function hr.depth (KX _ _ lk) rfl S.co S.gen rfl (W.codeRec_of KX hcd) (hb _ _ _ _ ?_);refine wpAny_newFunctionEnv_cells S.kind hkind λenv he s1 x=>?_;subst he;refine⟨lim.keeps x.toInCall.keep,codeAny_func ?_⟩;obtain⟨t,ht,hq⟩:=hbody A outer s H vs Q E (hr.deeper _) hsp;have I:Inv (Fu CX P w K mg base N qual scope f cdv A outer s H E) [] (start N vs) H s1:=JW S hr.hd e0 hl r x;refine bT (ht [] s1 (start N vs) H _ I hq) (λfl s' hs=>?_) λe s' hs=>hs;have fin:∀{σ':St} {H':Hp} {v:V} {u:aa},Inv (Fu CX P w K mg base N qual scope f cdv A outer s H E) [] σ' H' s'->RelV v u->Q v H'->CE outer P w H s Q u s':=
  λ{σ' H' v u} J rv q=>⟨v,H',J.os,J.bare,J.base,J.hok,rv,q⟩
 cases fl with
 |ret u=>obtain⟨v,σ',H',J,rv,q⟩:=hs;exact fin J rv q
 |next=>obtain⟨σ',H',J,q⟩:=hs;exact fin (v:=V.non) (u:=Value.none) J rfl q
 |brk=>obtain⟨_,_,_,q⟩:=hs;exact cF q
 |cont=>obtain⟨_,_,_,q⟩:=hs;exact cF q
section
variable{X:Cx}{x:Str}{p pos:Pos}{e:Expr}{es:List Expr}{t:TA}{id T:String}{r:bt->Hp->VK->Prop}
def tCB(r:bt->Hp->VK->Prop)(t:TA):TE:=λσ H Q=>t σ H λvs H1=>r vs H1 Q
theorem BD(hc:p6 X (.builtin id) r)(hg:Gl X x)(hm:X.mg x=none)(hv:bootBuiltins x=some (.builtin id))(ha:PA X (e::es) t)(hn:x≠"__name__" := by decide)(hdb:(x==("__debug__" : Str))=false:=by decide)
  (he:starEach (e::es) X.env=(false,eval e X.env)::starEach es X.env:=by rfl) (hpl:(backTo pos (starEach es X.env)).any (·.1)=false:=by rfl):PE X (.Call (.Name x p) (e::es) [] pos) (tCB r t):=by
 intro pins s σ H Q I h;refine dw (yw I hg hm hv ?_ hn hdb);exact callWith_builtin1 (thn (ha pos pins s σ H _ I h) λus s1 ⟨vs,H1,I1,r1,q1⟩=>hc pins s1 σ H1 vs us Q I1 r1 q1) he hpl
theorem JX(hc:p6 X (.type T) r)(hg:Gl X x)(hm:X.mg x=none)(hv:bootBuiltins x=some (.type T))(ha:PA X (e::es) t)(hn:x≠"__name__" := by decide)(hdb:(x==("__debug__" : Str))=false:=by decide)
  (he:starEach (e::es) X.env=(false,eval e X.env)::starEach es X.env:=by rfl) (hpl:(backTo pos (starEach es X.env)).any (·.1)=false:=by rfl):PE X (.Call (.Name x p) (e::es) [] pos) (tCB r t):=by
 intro pins s σ H Q I h;refine dw (yw I hg hm hv ?_ hn hdb);exact callWith_type1 (thn (ha pos pins s σ H _ I h) λus s1 ⟨vs,H1,I1,r1,q1⟩=>hc pins s1 σ H1 vs us Q I1 r1 q1) he hpl
end
end L2
namespace HT
open PySem PyProof.Rows
variable{t sl:Addr}{Q:aa->af->Prop}{vu:aa}{lo:Option Int}
section
variable{prog:aE}{w:az}{A:aH}{E:aa->af->Prop}{s:af}
theorem On{b:Addr}{vs ws:List aa}(ht:dr s.heap t vs.toArray)(hb:dr s.heap b ws.toArray)(hv:vs≠[])
  (h1:ws=[]->Q (.ref t) s) (h2:ws≠[]->Q (.ref s.heap.objs.size) { s with heap:=s.heap.push { cls:=.type "tuple", data:=.seq (vs++ws).toArray } })
  (hsz:vs.length+ws.length<=sizeLine):wpAny (model prog w) A (binaryOp .Add (.ref t) (.ref b)) Q E s:=by
 obtain⟨⟨cls,dd,data,sl⟩,ho,hc,n,hd⟩:=id ht;obtain⟨⟨cls2,dd2,data2,sl2⟩,ho2,hc2,n2,hd2⟩:=id hb;simp only at hc hd hc2 hd2;subst hc hd hc2 hd2;have e:vs.toArray++ws.toArray=(vs++ws).toArray:=by simp
 by_cases hw:ws=[]
 ·exact concat_meets ⟨_,ho,rfl⟩ ⟨_,ho2,rfl⟩ noFill_tuple_add seq_tuple_add mI mr (l8 _ _)
   (tuple_addW1 t b vs.toArray ws.toArray n n2 dd dd2 sl sl2 (by simpa using hv) (by simp[hw])) ⟨ho,ho2,h1 hw⟩
 ·refine concat_meets ⟨_,ho,rfl⟩ ⟨_,ho2,rfl⟩ noFill_tuple_add seq_tuple_add mI mr (l8 _ _)
   (tuple_addW2 t b vs.toArray ws.toArray n n2 dd dd2 sl sl2 (by simpa using hv) (by simpa using hw) (by rw[ba,ba];exact hsz)) ⟨ho,ho2,?_⟩
  rw[e];exact h2 hw
def sIx(n d:Nat):Option Int->Nat
 |none=>d
 |some v=>if v<0 then (v+(n:Int)).toNat else min v.toNat n
theorem BE(n d:Nat):sIx n d none=d:=rfl
theorem yW(n d k:Nat):sIx n d (some (k:Int))=min k n:=by show (if (k:Int)<0 then ((k:Int)+(n:Int)).toNat else min (k:Int).toNat n)=min k n;rw[aj (by omega),ic]
theorem RI(n d:Nat)(hd:d<=n)(o:Option Int):sIx n d o<=n:=by
 cases o with
 |none=>exact hd
 |some v=>
  show (if v<0 then (v+(n:Int)).toNat else min v.toNat n)<=n;by_cases hv:v<0
  ·rw[ai hv];omega
  ·rw[aj hv];exact Nat.min_le_right _ _
theorem ID(v:Int)(n d:Nat):(if v<0 then max (v+(n:Int)) 0 else min v (n:Int))=((sIx n d (some v):Nat):Int):=by
 show (if v<0 then max (v+(n:Int)) 0 else min v (n:Int))=(((if v<0 then (v+(n:Int)).toNat else min v.toNat n):Nat):Int);by_cases hv:v<0
 ·simp only[ai hv];omega
 ·simp only[aj hv];omega
theorem G9(lo hi:Option Int)(n:Nat):ji lo hi 1 (n:Int)=(((sIx n 0 lo:Nat):Int),((sIx n n hi:Nat):Int)):=by
 have h1:¬((1:Int)<0):=by omega
 unfold ji;simp only[h1,if_false];refine Prod.ext ?_ ?_
 ·cases lo with
  |none=>rfl
  |some v=>exact ID v n 0
 ·cases hi with
  |none=>rfl
  |some v=>exact ID v n n
theorem He(i j:Nat):gZ (i:Int) (j:Int) 1=j - i:=by
 unfold gZ;have h1:(1:Int) > 0:=by omega
 simp only[h1,if_true,Int.ediv_one];split<;>omega
theorem BF{v:aa}{o:Option Int}{Q:Option Int->af->Prop}(p:dR v o)(h:Q o s):wpAny (model prog w) A (Builtin.Slice.slicePartIndex v) Q E s:=by
 cases p with
 |none=>exact slicePart_none h
 |int i t=>exact slicePart_int h
theorem zP{vl:aa}{hi:Option Int}{n:Nat}{Q:Int×Int×Nat->af->Prop}(hs:s.heap.IsSliceOf sl vl vu .none)(pl:dR vl lo)(pu:dR vu hi)
  (h:Q (((sIx n 0 lo:Nat):Int),1,sIx n n hi - sIx n 0 lo) s):wpAny (model prog w) A (lg (.ref sl) (pure (n:Int))) Q E s:=by
 obtain⟨os,hos,hcs,hds⟩:=id hs;unfold lg Builtin.Slice.sliceFields;refine ao (ao (j9 hos hds (x:=vl) rfl (ao (j9 hos hds (x:=vu) rfl (ao (j9 hos hds (x:=.none) rfl (aB ?_)))))));refine ao (slicePart_none ?_);show wpAny _ _ (if ((1:Int)==0)=true then _ else _) _ _ s;rw[aj (by decide)];refine ao (BF pl (ao (BF pu (ao (aB ?_)))));show wpAny _ _ (match ji lo hi 1 (n:Int)with|(lo,hi)=>pure (lo,(1:Int),gZ lo hi 1)) _ _ s;rw[G9 lo hi n];show wpAny _ _ (pure (((sIx n 0 lo:Nat):Int),(1:Int),gZ ((sIx n 0 lo:Nat):Int) ((sIx n n hi:Nat):Int) 1)) _ _ s;rw[He];exact aB h
theorem Lp(xs:Array aa)(i k:Nat):((bC k).filterMap λ(m:Nat)=>xs[((i:Int)+(m:Int) * 1).toNat]?).toArray=((xs.toList.drop i).take k).toArray:=by
 have e:(λ(m:Nat)=>xs[((i:Int)+(m:Int) * 1).toNat]?)=λm=>xs[i+m]?:=by
  funext m
  have:((i:Int)+(m:Int) * 1).toNat=i+m:=by omega
  rw[this]
 rw[e];have:=pick_run xs i k;rw[List.filterMap_map]at this;have e2:((λx=>xs[x]?)∘λx=>i+x)=λm=>xs[i+m]?:=rfl;rw[e2]at this;rw[this]
theorem yX{items:Array aa}{vl:aa}{hi:Option Int}(ht:dr s.heap t items)(hs:s.heap.IsSliceOf sl vl vu .none)(pl:dR vl lo)(pu:dR vu hi)
  (hw:¬(sIx items.size 0 lo=0/\sIx items.size items.size hi=items.size))
  (h:Q (.ref s.heap.objs.size) { s with heap:=s.heap.push { cls:=.type "tuple", data:=.seq ((items.toList.drop (sIx items.size 0 lo)).take (sIx items.size items.size hi - sIx items.size 0 lo)).toArray } })
  (hsz:items.size<=sizeLine):wpAny (model prog w) A (getItem (.ref t) (.ref sl)) Q E s:=by
 have htake:sizeOk (.seq ((items.toList.drop (sIx items.size 0 lo)).take (sIx items.size items.size hi - sIx items.size 0 lo)).toArray):=by show ((items.toList.drop (sIx items.size 0 lo)).take (sIx items.size items.size hi - sIx items.size 0 lo)).toArray.size<=sizeLine;rw[ba,bo,bX,eB];omega
 have hj:sIx items.size items.size hi<=items.size:=RI _ _ (aI _) hi;obtain⟨os,hos,hcs,hds⟩:=id hs;have hTs:s.TypeIs (.ref sl) "slice" := ⟨os,hos,hcs⟩;unfold getItem
 try with_reducible refine cE ?_
 first|refine ao (aB ?_)|skip
 refine ao (wpAny_sequenceKey ht.typeIs (by decide) ?_);refine ao (wpAny_callSpecial?_slot (name:=Str.ofString "__getitem__") ht.typeIs gX
  (ik gX ht.typeIs entry_tuple_getitem ?_ (args_tuple_getitem _ _)))
 show wpAny _ _ (Builtin.Tuple.tupleItemsOf (.ref t)>>=_) _ _ s;refine ao (tupleItemsOf_ ht ?_);refine ao (iE hTs ?_);rw[ai (by decide)];refine ao (zP hs pl pu ?_);have hno:¬((((sIx items.size 0 lo:Nat):Int)==0&&(1:Int)==1&&(sIx items.size items.size hi - sIx items.size 0 lo)==items.size)=true):=by intro q;rw[bf,bf]at q;have q1:((sIx items.size 0 lo:Nat):Int)=0:=eO q.1.1;have q2:sIx items.size items.size hi - sIx items.size 0 lo=items.size:=eO q.2;exact hw ⟨by omega,by omega⟩
 show wpAny _ _ (if (((sIx items.size 0 lo:Nat):Int)==0&&(1:Int)==1&&(sIx items.size items.size hi - sIx items.size 0 lo)==items.size)=true then _ else _) _ _ s;rw[aj hno,Lp]
 first
  |exact ao (m:=hG _) (fi (aB ⟨_,rfl,aB h⟩) htake)
  |exact ao (m:=hG _) (fi (ao (aB (aB ⟨_,rfl,aB h⟩))) htake)
  |exact ao (ao (m:=hG _) (fi (aB (aB ⟨_,rfl,aB h⟩)) htake))
  |exact ao (ao (m:=hG _) (fi (aB ⟨_,rfl,aB h⟩) htake))
end
end HT
namespace L2
open PySem PySem.Spec PyProof.Rows
abbrev TO:=St->Hp->(Option Int->Hp->Prop)->Prop
def PO(X:Cx)(e:Option Expr)(t:TO):Prop:=
 ∀(pins:cn) (s:af) (σ:St) (H:Hp) (Q:Option Int->Hp->Prop),Inv X pins σ H s->t σ H Q->
  wpAny (model X.prog X.w) X.A (evalPart e X.env) (λu s'=>∃o H',Inv X pins σ H' s'/\dR u o/\Q o H') X.xe s
def Oo:TO:=λ_ H Q=>Q none H
def VS(t:TE):TO:=λσ H Q=>t σ H λx H1=>∃i,x=.int i/\Q (some i) H1
section
variable{X:Cx}{e:Expr}{te:TE}{lo hi:Option Expr}{tl th:TO}{pos p2:Pos}
theorem IE:PO X none Oo:=by intro pins s σ H Q I h;rw[evalPart_none];exact aB ⟨none,H,I,.none,h⟩
theorem IF(h:PE X e te):PO X (some e) (VS te):=by intro pins s σ H Q I hw;rw[evalPart_some];refine thn (h pins s σ H _ I hw) λu s1 ⟨x,H1,I1,r1,q1⟩=>?_;obtain⟨i,rfl,q⟩:=q1;obtain⟨t,rfl⟩:=r1;exact⟨some i,H1,I1,.int i t,q⟩
def SlR(X:Cx)(r:V->Option Int->Option Int->Hp->VK->Prop):Prop:=
 ∀(pins:cn) (s:af) (σ:St) (H:Hp) (x:V) (v vl vu:aa) (lo hi:Option Int) (sl:Addr) (Q:VK),Inv X pins σ H s->RelV x v->s.heap.IsSliceOf sl vl vu .none->dR vl lo->dR vu hi->r x lo hi H Q->
  ∃T id,typeLookup (.type T) "__getitem__" = pure (some (.builtin id))/\s.TypeIs v T/\wpAny (model X.prog X.w) X.A (getItem v (.ref sl)) (EP X pins σ Q) X.xe s
def tSl(r:V->Option Int->Option Int->Hp->VK->Prop)(te:TE)(tl th:TO):TE:=λσ H Q=>te σ H λx H1=>tl σ H1 λl H2=>th σ H2 λu H3=>r x l u H3 Q
theorem BG{r:V->Option Int->Option Int->Hp->VK->Prop}(hr:SlR X r)(he:PE X e te)(hl:PO X lo tl)(hu:PO X hi th):PE X (.Subscript e (.Slice lo hi none p2) pos) (tSl r te tl th):=by intro pins s σ H Q I h;refine kl (thn (he pins s σ H _ I h) λv s1 ⟨x,H1,I1,r1,q1⟩=>?_);refine wpAny_Slice (thn (hl pins s1 σ H1 _ I1 q1) λvl s2 ⟨l,H2,I2,pl,q2⟩=>thn (hu pins s2 σ H2 _ I2 q2) λvu s3 ⟨u,H3,I3,pu,q3⟩=>?_);rw[evalPart_none];refine aB ?_;have I4:Inv X pins σ H3 { s3 with heap:=s3.heap.push { cls:=.type "slice", data:=.fields #[vl,vu,.none] } }:=I3.kept (t':=s3.toks) λb ob q=>aM _ q;obtain⟨T,id,hT,ht,hg⟩:=hr pins { s3 with heap:=s3.heap.push { cls:=.type "slice", data:=.fields #[vl,vu,.none] } } σ H3 x v vl vu l u s3.heap.objs.size Q I4 r1 (n4 ..) pl pu q3;show wpAny (model X.prog X.w) X.A (subscriptTail e (.Slice lo hi none p2) v (.ref s3.heap.objs.size)) (EP X pins σ Q) X.xe { s3 with heap:=s3.heap.push { cls:=.type "slice", data:=.fields #[vl,vu,.none] } };exact tail_any (ops:=[.ref s3.heap.objs.size,v]) ht hT hg (by with_unfolding_all rfl)
def Fw(xs:bt)(lo hi:Option Int):bt:=(xs.drop (HT.sIx xs.length 0 lo)).take (HT.sIx xs.length xs.length hi - HT.sIx xs.length 0 lo)
theorem Au(xs:bt)(lo hi:Option Int):(Fw xs lo hi).length<=xs.length:=by unfold Fw;rw[bo,bX];omega
def RJ(K:au):V->Option Int->Option Int->Hp->VK->Prop:=λx lo hi H Q=>∃a xs,x=.ref a/\SqT K H a xs/\
 ¬(HT.sIx xs.length 0 lo=0/\HT.sIx xs.length xs.length hi=xs.length)/\∀p,H p=none->Q (.ref p) (upd H p (.tup (Fw xs lo hi)))
theorem RK:SlR X (RJ X.K):=by
 intro pins s σ H x v vl vu lo hi sl Q I rx hs pl pu h;obtain⟨a,xs,rfl,hx,hw,q⟩:=h;cases rx;obtain⟨its,r,ht,hz⟩:=I.tuple hx;have hlen:its.toArray.size=xs.length:=by rw[ba];exact r.length.symm
 refine⟨"tuple", _,gX.lookup,ht.typeIs,?_⟩;refine HT.yX ht hs pl pu (by rw[hlen];exact hw) ?_ (by rw[hlen];exact hz);rw[hlen];refine⟨.ref s.heap.objs.size,_,I.laid (t':=s.toks) (o:=.tup (Fw xs lo hi)) (λb ob q=>aM _ q) (aI _) ?_,rfl,q _ (I.hok.fresh (aI _))⟩;exact⟨bI (Au xs lo hi) hz,_,(r.drop (HT.sIx xs.length 0 lo)).take (HT.sIx xs.length xs.length hi - HT.sIx xs.length 0 lo),ky _ _⟩
def VT(K:au):R2:=λx y H Q=>∃a b xs ys,x=.ref a/\y=.ref b/\SqT K H a xs/\SqT K H b ys/\xs≠[]/\xs.length+ys.length<=sizeLine/\
 (ys=[]->Q (.ref a) H)/\(ys≠[]->∀p,H p=none->Q (.ref p) (upd H p (.tup (xs++ys))))
theorem Vals.nil_iff{xs:bt}{us:List aa}(r:Vals xs us):us=[] ↔ xs=[]:=by
 cases r with
 |nil=>simp
 |cons _ _=>simp
theorem Oq:OpR X (binaryOp .Add) (VT X.K):=by intro pins s σ H x y v u Q I rx ry h;obtain⟨a,b,xs,ys,rfl,rfl,ha,hb,hx,hz,q1,q2⟩:=h;cases rx;cases ry;obtain⟨its,r1,p1,_⟩:=I.tuple ha;obtain⟨its2,r2,p2,_⟩:=I.tuple hb;refine HT.On p1 p2 (λz=>hx (r1.nil_iff.mp z)) (λz=>⟨.ref a,H,I,rfl,q1 (r2.nil_iff.mp z)⟩) (λz=>?_) (by rw[<-r1.length,<- r2.length];exact hz);refine⟨.ref s.heap.objs.size,_,I.laid (t':=s.toks) (o:=.tup (xs++ys)) (λb ob q=>aM _ q) (aI _) ?_,rfl,q2 (λw=>z (r2.nil_iff.mpr w)) _ (I.hok.fresh (aI _))⟩;exact⟨by rw[aD];exact hz,_,r1.append r2,ky _ _⟩
end
def ixN(n:Nat)(i:Int):Option Nat:=if 0<=i then (if i<n then some i.toNat else none)else if -(n:Int)<=i then some (i+n).toNat else none
def atI{α:Type}(xs:List α)(i:Int):Option α:=(ixN xs.length i).bind λj=>xs[j]?
variable{j:Nat}
theorem Os{n:Nat}{i:Int}(h:ixN n i=some j):seqIndex? i n=some j/\j<n/\-(n:Int)<=i/\i<n:=by
 unfold ixN at h;by_cases h0:0<=i
 ·rw[ai h0]at h;by_cases h1:i<n
  ·rw[ai h1]at h;have e:i.toNat=j:=cc h;exact⟨by rw[ka h0 h1,e],by omega,by omega,h1⟩
  ·rw[aj h1]at h;cases h
 ·rw[aj h0]at h;by_cases h1:-(n:Int)<=i
  ·rw[ai h1]at h;have e:(i+n).toNat=j:=cc h;exact⟨by rw[seqIndex_neg (by omega) h1,e],by omega,h1,by omega⟩
  ·rw[aj h1]at h;cases h
theorem Ex{α:Type}{xs:List α}{i:Int}{v:α}(h:atI xs i=some v):∃j,seqIndex? i xs.length=some j/\xs[j]?=some v/\j<xs.length/\-(xs.length:Int)<=i/\i<xs.length:=by
 unfold atI at h;cases e:ixN xs.length i with
 |none=>rw[e]at h;cases h
 |some j=>rw[e]at h;obtain⟨h1,h2,h3,h4⟩:=Os e;exact⟨j,h1,h,h2,h3,h4⟩
theorem IG{α:Type}{xs:List α}{v:α}(h:xs[j]?=some v):atI xs (j:Int)=some v:=by
 have hj:j<xs.length:=(bQ.mp h).1;have e:ixN xs.length (j:Int)=some j:=by unfold ixN;rw[ai (by omega),ai (by omega)];simp
 unfold atI;rw[e];exact h
def IH(b:Expr):Prop:=∀o i,subscripted b false o i=operate [o,i] (getItem o i)
def IxR(X:Cx)(r:R2):Prop:=
 ∀(value slice:Expr) (pins:cn) (s:af) (σ:St) (H:Hp) (x y:V) (v u:aa) (Q:VK),Inv X pins σ H s->RelV x v->RelV y u->r x y H Q->
  subscripted slice false v u=operate [v,u] (getItem v u)->wpAny (model X.prog X.w) X.A (subscriptTail value slice v u) (EP X pins σ Q) X.xe s
def MtR(X:Cx)(id:String)(r:V->bt->Hp->VK->Prop):Prop:=
 ∀(pins:cn) (s:af) (σ:St) (H:Hp) (x:V) (xs:bt) (v:aa) (us:List aa) (Q:VK),Inv X pins σ H s->RelV x v->Vals xs us->r x xs H Q->
  wpAny (model X.prog X.w) X.A (call (.builtin id) (v::us)) (EP X pins σ Q) X.xe s
variable{r:R2}{y:V}{u:aa}{pins:cn}{σ:St}{T:String}
section
variable{X:Cx}{a b:Expr}{ta tb:TE}{pos:Pos}
theorem IxR.or{r':R2}(h:IxR X r)(h':IxR X r'):IxR X (λx y H Q=>r x y H Q\/r' x y H Q):=by
 intro value slice pins s σ H x y v u Q I rx ry q hs;rcases q with q|q
 ·exact h value slice pins s σ H x y v u Q I rx ry q hs
 ·exact h' value slice pins s σ H x y v u Q I rx ry q hs
theorem QJ(hr:IxR X r)(ha:PE X a ta)(hb:PE X b tb)(hs:IH b):PE X (.Subscript a b pos) (tOp r ta tb):=by intro pins s σ H Q I h;exact kl (Rt ha hb I h λv u s2 x y H2 I2 rx ry q=>hr a b pins s2 σ H2 x y v u Q I2 rx ry q (hs _ _))
def Ot(K:au):R2:=λx y H Q=>∃p xs i v,x=.ref p/\y=.int i/\SqL K H p xs/\atI xs i=some v/\Q v H
def VU(K:au):R2:=λx y H Q=>∃p xs i v,x=.ref p/\y=.int i/\SqT K H p xs/\atI xs i=some v/\Q v H
def VW:R2:=λx y H Q=>∃z i c,x=.str z/\y=.int i/\z.length<=sizeLine/\atI z.cps.toList i=some c/\Q (.str ⟨#[c]⟩) H
theorem II:IxR X (Ot X.K):=by
 intro value slice pins s σ H x y v u Q I rx ry h hs;obtain⟨p,xs,i,z,rfl,rfl,hq,he,q⟩:=h;cases rx;obtain⟨t,rfl⟩:=ry;obtain⟨its,r,pl,hz⟩:=I.list hq;obtain⟨j,h1,h2,h3,h4,h5⟩:=Ex he;obtain⟨w,ew,rw'⟩:=r.get h2;have hl:=r.length;have hn:=BA;have fin:EP X pins σ Q w s:=⟨z,H,I,rw',q⟩;by_cases h0:0<=i
 ·have hj:i.toNat=j:=by rw[ka h0 h5]at h1;exact cc h1
  exact item_listR pl.isList h0 (by omega) (by rw[hj];simpa using ew) fin hs
 ·have hj:(i+(its.toArray.size:Int)).toNat=j:=by rw[seqIndex_neg (by omega) h4]at h1;rw[ba,<- hl];exact cc h1
  exact lE (x:=w) pl.isList.typeIs mw.lookup
   (wpAny_getItem_list_neg (Q:=λr s'=>r=w/\EP X pins σ Q r s') pl.isList (by omega) (by rw[ba]<;>omega) (by omega) (by rw[hj];simpa using ew) ⟨rfl,fin⟩) hs
theorem RM:IxR X (VU X.K):=by
 intro value slice pins s σ H x y v u Q I rx ry h hs;obtain⟨p,xs,i,z,rfl,rfl,hq,he,q⟩:=h;cases rx;obtain⟨t,rfl⟩:=ry;obtain⟨its,r,pl,hz⟩:=I.tuple hq;obtain⟨j,h1,h2,h3,h4,h5⟩:=Ex he;obtain⟨w,ew,rw'⟩:=r.get h2;have hl:=r.length;have hn:=BA;have fin:EP X pins σ Q w s:=⟨z,H,I,rw',q⟩;exact lE (x:=w) pl.typeIs gX.lookup
  (getItem_tuple (j:=j) (Q:=λr s'=>r=w/\EP X pins σ Q r s') pl (by omega) (by omega) (by rw[ba,<- hl];exact h1) (by simpa using ew) ⟨rfl,fin⟩) hs
theorem RN:IxR X VW:=by
 intro value slice pins s σ H x y v u Q I rx ry h hs;obtain⟨z,i,c,rfl,rfl,hz,he,q⟩:=h;obtain⟨t,rfl⟩:=rx;obtain⟨t',rfl⟩:=ry;obtain⟨j,h1,h2,h3,h4,h5⟩:=Ex he;have hl:z.cps.toList.length=z.length:=by simp[Str.length]
 rw[hl]at h1 h4 h5;have hn:=BA;exact tail_any (typeIs_str s z t) slot_str_getitem.lookup (getItem_str (c:=c) (by
  have e1:decide (i < -(2 ^ 63:Int))=false:=aQ (by omega);have e2:decide (i >= 2 ^ 63)=false:=aQ (by omega);rw[e1,e2,m9]) (by rw[h1];simpa using h2) ⟨.str ⟨#[c]⟩,H,I.tok _,⟨_,rfl⟩,q⟩) hs
def rIx(K:au):R2:=λx y H Q=>Ot K x y H Q\/VU K x y H Q\/VW x y H Q
theorem RO:IxR X (rIx X.K):=II.or (RM.or RN)
theorem Ey(lo hi:Option Int)(n:Nat):(sliceBounds lo hi none n).1=((HT.sIx n 0 lo:Nat):Int)/\(sliceBounds lo hi none n).2.1=((HT.sIx n n hi:Nat):Int)/\(sliceBounds lo hi none n).2.2=1:=by
 refine⟨?_,?_,rfl⟩
 ·cases lo with
  |none=>simp[sliceBounds,HT.sIx]
  |some i=>
   simp only[sliceBounds,HT.sIx,mJ,show (1:Int) > 0 by decide,if_true];by_cases h:i<0
   ·simp only[h,if_true]<;>omega
   ·simp only[h,if_false]<;>omega
 ·cases hi with
  |none=>simp[sliceBounds,HT.sIx]
  |some i=>
   simp only[sliceBounds,HT.sIx,mJ,show (1:Int) > 0 by decide,if_true];by_cases h:i<0
   ·simp only[h,if_true]<;>omega
   ·simp only[h,if_false]<;>omega
theorem De(its:List aa)(lo hi:Option Int):slicePick its.toArray lo hi none=((its.drop (HT.sIx its.length 0 lo)).take (HT.sIx its.length its.length hi - HT.sIx its.length 0 lo)).toArray:=by obtain⟨h1,h2,h3⟩:=Ey lo hi its.toArray.size;unfold slicePick;rw[h1,h2,h3];simp only[sliceRange_one,pick_run,ba]<;>rfl
def JY(K:au):V->Option Int->Option Int->Hp->VK->Prop:=λx lo hi H Q=>∃a xs,x=.ref a/\SqL K H a xs/\∀p,H p=none->Q (.ref p) (upd H p (.lst (Fw xs lo hi)))
theorem Ou:SlR X (JY X.K):=by intro pins s σ H x v vl vu lo hi sl Q I rx hs pl pu h;obtain⟨a,xs,rfl,hx,q⟩:=h;cases rx;obtain⟨its,r,ht,hz⟩:=I.list hx;have hlen:=r.length;refine⟨"list", _,mw.lookup,ht.isList.typeIs,?_⟩;refine wpAny_getItem_list_slice ht.isList hs pl pu .none (by simp) ?_ (by rw[ba]<;>omega);rw[De,<- hlen];refine⟨.ref s.heap.objs.size,_,I.laid (t':=s.toks) (o:=.lst (Fw xs lo hi)) (λb ob q=>aM _ q) (aI _) ?_,rfl,q _ (I.hok.fresh (aI _))⟩;exact⟨bI (Au xs lo hi) hz,_,0,(r.drop (HT.sIx xs.length 0 lo)).take (HT.sIx xs.length xs.length hi - HT.sIx xs.length 0 lo),bz _ rfl⟩
def ya:V->Bool
 |.non=>true
 |.bl _=>true
 |.int _=>true
 |.str _=>true
 |_=>false
def eqV:V->V->Bool
 |.non,.non=>true
 |.bl a,.bl b=>a==b
 |.bl a,.int b=>(if a then 1 else 0)==b
 |.int a,.bl b=>a==(if b then 1 else 0)
 |.int a,.int b=>a==b
 |.str a,.str b=>a==b
 |_,_=>false
theorem BH{A:aH}{s:af}{x:V}{v:aa}(ry:RelV y u)(rx:RelV x v)(fy:ya y=true)(fx:ya x=true):iJ A s u v (eqV y x):=by
 cases y with
 |non=>
  cases ry;cases x with
  |non=>cases rx;exact f9 _
  |bl b=>cases rx;exact SeqAt.EqAt.none_bool b
  |int b=>obtain⟨t,rfl⟩:=rx;exact SeqAt.EqAt.none_int b t
  |str b=>obtain⟨t,rfl⟩:=rx;exact SeqAt.EqAt.none_str b t
  |_=>exact aq (show false=true from fx) bq
 |bl a=>
  cases ry;cases x with
  |non=>cases rx;exact SeqAt.EqAt.bool_none a
  |bl b=>cases rx;exact SeqAt.EqAt.bool_bool a b
  |int b=>obtain⟨t,rfl⟩:=rx;exact SeqAt.EqAt.bool_int a b t
  |str b=>obtain⟨t,rfl⟩:=rx;exact SeqAt.EqAt.bool_str a b t
  |_=>exact aq (show false=true from fx) bq
 |int a=>
  obtain⟨t',rfl⟩:=ry;cases x with
  |non=>cases rx;exact SeqAt.EqAt.int_none a t'
  |bl b=>cases rx;exact SeqAt.EqAt.int_bool a t' b
  |int b=>obtain⟨t,rfl⟩:=rx;exact SeqAt.EqAt.int_int a t' b t
  |str b=>obtain⟨t,rfl⟩:=rx;exact l5 a t' b t
  |_=>exact aq (show false=true from fx) bq
 |str a=>
  obtain⟨t',rfl⟩:=ry;cases x with
  |non=>cases rx;exact SeqAt.EqAt.str_none a t'
  |bl b=>cases rx;exact SeqAt.EqAt.str_bool a t' b
  |int b=>obtain⟨t,rfl⟩:=rx;exact l6 a t' b t
  |str b=>obtain⟨t,rfl⟩:=rx;exact l9 a t' b t
  |_=>exact aq (show false=true from fx) bq
 |_=>exact aq (show false=true from fy) bq
def eqU(x:V)(u:aa):Bool:=match u with
 |.none=>eqV .non x
 |.bool b=>eqV (.bl b) x
 |.int i _=>eqV (.int i) x
 |.str z _=>eqV (.str z) x
 |_=>false
theorem Lq{x:V}(r:RelV y u)(f:ya y=true):eqU x u=eqV y x:=by
 cases y with
 |non=>cases r;rfl
 |bl b=>cases r;rfl
 |int i=>obtain⟨t,rfl⟩:=r;rfl
 |str z=>obtain⟨t,rfl⟩:=r;rfl
 |_=>exact aq (show false=true from f) bq
theorem yY{x:V}:∀{xs:bt} {us:List aa},Vals xs us->xs.all ya=true->us.any (eqU x)=xs.any λy=>eqV y x
 |_,_,.nil,_=>rfl
 |y::xs,u::us,.cons r t,f=>by rw[dg,bf]at f;rw[dJ,dJ,Lq r f.1,yY t f.2]
theorem wK{A:aH}{s:af}{x:V}{v:aa}(rx:RelV x v)(fx:ya x=true):∀{xs:bt} {us:List aa},Vals xs us->xs.all ya=true->∀u∈us,iJ A s u v (eqU x u)
 |_,_,.nil,_=>λu hu=>by cases hu
 |y::xs,u::us,.cons r t,f=>λu' hu=>by
  rw[dg,bf]at f;rcases aN.mp hu with rfl|hu
  ·rw[Lq r f.1];exact BH r rx f.1 fx
  ·exact wK rx fx t f.2 u' hu
def inV(x:V)(xs:bt):Bool:=xs.any λy=>eqV y x
def rIn(K:au)(neg:Bool):R2:=λx y H Q=>∃p xs,y=.ref p/\(SqL K H p xs\/SqT K H p xs)/\ya x=true/\xs.all ya=true/\Q (.bl (if neg then !inV x xs else inV x xs)) H
theorem JZ:OpR X (compareOp .In) (rIn X.K false):=by
 intro pins s σ H x y v u Q I rx ry h;obtain⟨p,xs,rfl,hq,fx,fs,q⟩:=h;cases ry;rcases hq with hq|hq
 ·obtain⟨its,r,pl,hz⟩:=I.list hq;refine SeqAt.in_listAt (eqU x) pl.isList (λw hw=>wK rx fx r fs w (by simpa using hw)) ⟨.bl _,H,I,rfl,?_⟩;rw[show its.toArray.any (eqU x)=its.any (eqU x) by simp,yY r fs];exact q
 ·obtain⟨its,r,pl,hz⟩:=I.tuple hq;refine SeqAt.in_tupleAt (eqU x) pl (λw hw=>wK rx fx r fs w (by simpa using hw)) ⟨.bl _,H,I,rfl,?_⟩;rw[show its.toArray.any (eqU x)=its.any (eqU x) by simp,yY r fs];exact q
theorem EA:OpR X (compareOp .NotIn) (rIn X.K true):=by
 intro pins s σ H x y v u Q I rx ry h;obtain⟨p,xs,rfl,hq,fx,fs,q⟩:=h;cases ry;rcases hq with hq|hq
 ·obtain⟨its,r,pl,hz⟩:=I.list hq;refine SeqAt.notIn_listAt (eqU x) pl.isList (λw hw=>wK rx fx r fs w (by simpa using hw)) ⟨.bl _,H,I,rfl,?_⟩;rw[show its.toArray.any (eqU x)=its.any (eqU x) by simp,yY r fs];exact q
 ·obtain⟨its,r,pl,hz⟩:=I.tuple hq;refine SeqAt.notIn_tupleAt (eqU x) pl (λw hw=>wK rx fx r fs w (by simpa using hw)) ⟨.bl _,H,I,rfl,?_⟩;rw[show its.toArray.any (eqU x)=its.any (eqU x) by simp,yY r fs];exact q
theorem EB:p6 X (.builtin "len") (λxs H Q=>∃p ys,xs=[.ref p]/\(SqL X.K H p ys\/SqT X.K H p ys)/\Q (.int ys.length) H):=by
 intro pins s σ H xs us Q I r h;obtain⟨p,ys,rfl,hq,q⟩:=h;obtain⟨u,rfl,rx⟩:=vals1 r;cases rx;have hn:=BA;rcases hq with hq|hq
 ·obtain⟨its,r',pl,hz⟩:=I.list hq;have hlen:=r'.length;exact Calls.call_len_list pl.isList (by simp only[ba]<;>omega) ⟨.int ys.length,H,I.tok _,⟨s.toks+1,by rw[ba,hlen]⟩,q⟩
 ·obtain⟨its,r',pl,hz⟩:=I.tuple hq;have hlen:=r'.length;exact len_tuple pl (by simp only[ba]<;>omega) ⟨.int ys.length,H,I.tok _,⟨s.toks+1,by rw[ba,hlen]⟩,q⟩
theorem EC:p6 X (.builtin "len") (λxs H Q=>∃z,xs=[.str z]/\z.length<=sizeLine/\Q (.int z.length) H):=by intro pins s σ H xs us Q I r h;obtain⟨z,rfl,hz,q⟩:=h;obtain⟨u,rfl,t,rfl⟩:=vals1 r;have hn:=BA;exact len_str (by omega) ⟨.int z.length,H,I.tok _,⟨_,rfl⟩,q⟩
theorem ED:p6 X (.type "list") (λxs H Q=>∃p ys,xs=[.ref p]/\(SqL X.K H p ys\/SqT X.K H p ys)/\∀l,H l=none->Q (.ref l) (upd H l (.lst ys))):=by
 intro pins s σ H xs us Q I r h;obtain⟨p,ys,rfl,hq,q⟩:=h;obtain⟨u,rfl,rx⟩:=vals1 r;cases rx;have fin:∀(its:List aa),Vals ys its->ys.length<=sizeLine->∀(h':Heap) (c':Nat),(∀b o',s.heap.get? b=some o'->h'.get? b=some o')->
   h'.get? s.heap.objs.size=some { cls:=.type "list", dict:=none,data:=.seq its.toArray c',slots:=#[] }->EP X pins σ Q (.ref s.heap.objs.size) { s with heap:=h' }:=λits r' hz h' c' kp e=>
  ⟨.ref s.heap.objs.size,_,I.laid (t':=s.toks) kp (aI _) (show pL X.prog X.w _ h' _ (.lst ys) from⟨hz,its,c',r',e⟩),rfl,q _ (I.hok.fresh (aI _))⟩
 rcases hq with hq|hq
 ·obtain⟨its,r',pl,hz⟩:=I.list hq;have hlen:=r'.length;obtain⟨o,ho,hc,n,hd⟩:=pl.isList;exact call_list_seq p (.inl rfl) ho hc hd (λh' c' kp e=>fin its r' hz h' c' kp e) (by simp only[ba]<;>omega)
 ·obtain⟨its,r',pl,hz⟩:=I.tuple hq;have hlen:=r'.length;obtain⟨o,ho,hc,n,hd⟩:=pl;exact call_list_seq p (.inr rfl) ho hc hd (λh' c' kp e=>fin its r' hz h' c' kp e) (by simp only[ba]<;>omega)
theorem Dg:p6 X (.type "tuple") (λxs H Q=>∃p ys,xs=[.ref p]/\((SqL X.K H p ys/\∀l,H l=none->Q (.ref l) (upd H l (.tup ys)))\/(SqT X.K H p ys/\Q (.ref p) H))):=by
 intro pins s σ H xs us Q I r h;obtain⟨p,ys,rfl,h⟩:=h;obtain⟨u,rfl,rx⟩:=vals1 r;cases rx;rcases h with ⟨hq,q⟩|⟨hq,q⟩
 ·obtain⟨its,r',pl,hz⟩:=I.list hq;have hlen:=r'.length;refine call_tuple_list pl.isList (λh' kp=>?_) (by simp only[ba]<;>omega);have I1:Inv X pins σ H { s with heap:=h' }:=I.kept (t':=s.toks) kp;have I2:Inv X pins σ (upd H h'.objs.size (.tup ys)) { s with heap:=h'.push { cls:=.type "tuple", data:=.seq its.toArray } }:=
   I1.laid (t':=s.toks) (λb o e=>aM _ e) (aI _) (show pL X.prog X.w _ _ _ (.tup ys) from⟨hz,its,r',ky _ _⟩)
  exact⟨.ref h'.objs.size,_,I2,rfl,q _ (I1.hok.fresh (aI _))⟩
 ·obtain⟨its,r',pl,hz⟩:=I.tuple hq;exact call_tuple_same pl ⟨.ref p,H,I,rfl,q⟩
def tyV(K:au)(T:String)(x:V)(H:Hp):Prop:=match x with
 |.str _=>T="str"
 |.int _=>T="int"
 |.ref p=>(T="list" /\ ∃xs,SqL K H p xs)\/(T="tuple" /\ ∃o,K.lookup p=some o/\o.cls=.type "tuple" /\ o.dict=none)\/
   (T="dict" /\ ((∃kvs,H p=some (.dK kvs))\/∃kvs,H p=some (.dT kvs)))\/(T="set" /\ ∃S n,H p=some (.set S n))
 |_=>False
theorem RP{H:Hp}{s:af}{x:V}{v:aa}(I:Inv X pins σ H s)(r:RelV x v)(ty:tyV X.K T x H):
  s.TypeIs v T/\∀a,v=.ref a->∃ob,s.heap.get? a=some ob/\ob.dict=none:=by
 cases x with
 |str z=>obtain⟨t,rfl⟩:=r;cases (show T="str" from ty);exact⟨typeIs_str s z t,λ_ e=>nomatch e⟩
 |int i=>obtain⟨t,rfl⟩:=r;cases (show T="int" from ty);exact⟨typeIs_int s i t,λ_ e=>nomatch e⟩
 |ref p=>
  cases r;rcases ty with ⟨rfl,xs,hq⟩|⟨rfl,o,hk,hc,hd⟩|⟨rfl,hk⟩|⟨rfl,S,n,hk⟩
  ·obtain⟨its,_,pl,_⟩:=I.list hq;refine⟨pl.isList.typeIs,λa e=>?_⟩;cases e;obtain⟨o,n,e,c,hd,_⟩:=pl;exact⟨o,e,hd⟩
  ·refine⟨⟨o,I.kIn p o hk,hc⟩,λa e=>?_⟩;cases e;exact⟨o,I.kIn _ o hk,hd⟩
  ·have z:∃o,s.heap.get? p=some o/\o.ExactDict:=by
    rcases hk with ⟨kvs,hk⟩|⟨kvs,hk⟩
    ·obtain⟨_,_,_,_,o,_,_,e,ex,_⟩:=I.hok p _ hk;exact⟨o,e,ex⟩
    ·obtain⟨_,_,_,_,o,_,_,e,ex,_⟩:=I.hok p _ hk;exact⟨o,e,ex⟩
   obtain⟨o,e,ex⟩:=z;refine⟨⟨o,e,ex.1⟩,λa e2=>?_⟩;cases e2;exact⟨o,e,ex.2.1⟩
  ·obtain⟨o,_,_,_,e,ex,_⟩:=I.hok p _ hk;refine⟨⟨o,e,ex.1⟩,λa e2=>?_⟩;cases e2;exact⟨o,e,ex.2.1⟩
 |_=>exact cF ty
def tBM(K:au)(T:String)(r:V->bt->Hp->VK->Prop)(to:TE)(t:TA):TE:=λσ H Q=>to σ H λx H1=>tyV K T x H1/\t σ H1 λxs H2=>r x xs H2 Q
variable{o e:Expr}{es:List Expr}{to:TE}{t:TA}{name:Str}{apos cpos:Pos}{T id:String}{r:V->bt->Hp->VK->Prop}
theorem VX(pa:km T)(slot:Slot T name id)(hty:typeOf (.builtin id)=pure (.type "method_descriptor"))(hm:MtR X id r)(ho:PE X o to)(ha:PA X (e::es) t)
  (hbase:attributeBase o name X.env (eval o X.env)=eval o X.env:=by rfl)
  (hfew:((backTo cpos (starEach (e::es) X.env)).all (λx=>!x.1)&&(backToKw cpos (keywordEach [] X.env)).all (λx=>x.1.isSome)
   && decide ((e::es).length+([]:List dO).length+(if ([]:List dO).isEmpty then 0 else 1)<30))=true:=by rfl)
  (hline:(apos.endLine==cpos.line)=true:=by rfl) (hs:starEach (e::es) X.env=(false,eval e X.env)::starEach es X.env:=by rfl) (hplain:(backTo cpos (starEach es X.env)).any (·.1)=false:=by rfl):
  PE X (.Call (.Attribute o name apos) (e::es) [] cpos) (tBM X.K T r to t):=by
 intro pins s σ H Q I h;refine wpAny_Call_method_late hbase hfew hline rfl (thn (ho pins s σ H _ I h) λv s1 ⟨x,H1,I1,r1,ty,q1⟩=>?_);obtain⟨h1,h2⟩:=RP I1 r1 ty;refine⟨T,id,pa,slot,hty,h1,h2,?_⟩;have hA:=ha cpos pins s1 σ H1 _ I1 q1;rw[hs]at hA ⊢;refine fQ (by show (false||(backTo cpos (starEach es X.env)).any (·.1))=false;rw[hplain]<;>rfl) (hX ?_)
 exact thn hA λus s2 ⟨vs,H2,I2,r2,q2⟩=>hm pins s2 σ H2 x vs v us Q I2 r1 r2 q2
end
def MtM(X:Cx)(id:String)(r:V->bt->Hp->VK->Prop):Prop:=
 ∀(pins:cn) (s:af) (σ:St) (H:Hp) (x:V) (xs:bt) (v:aa) (us:List aa) (Q:VK),Inv X pins σ H s->RelV x v->Vals xs us->r x xs H Q->
  wpAny (model X.prog X.w) X.A (call (.builtin id) (v::us)) (EP X pins σ Q) X.xe s
theorem Vals.one:∀{x:V} {us:List aa},Vals [x] us->∃u,us=[u]/\RelV x u
 |_,_,.cons r .nil=>⟨_,rfl,r⟩
theorem Vals.eraseIdx:∀{xs:bt} {us:List aa} (i:Nat),Vals xs us->Vals (xs.eraseIdx i) (us.eraseIdx i)
 |_,_,_,.nil=>.nil
 |_,_,0,.cons _ t=>t
 |_,_,i+1,.cons r t=>.cons r (Vals.eraseIdx i t)
theorem DB{α:Type}:∀(l:List α) (i:Nat),(l.eraseIdx i).length<=l.length
 |[],_=>aI _
 |_::_,0=>eM _
 |_::r,i+1=>Nat.succ_le_succ (DB r i)
variable{its:List aa}{t':Nat}
section
variable{X:Cx}{pins:cn}{σ:St}{H:Hp}{s:af}{l b:Addr}{xs ys zs:bt}
theorem Inv.lset{its':List aa}{n:Nat}{f:Array aa->Array aa}(I:Inv X pins σ H s)(hH:H l=some (.lst xs))
  (e:s.heap.get? l=some { cls:=.type "list", data:=.seq its.toArray n }) (hf:f its.toArray=its'.toArray) (hv:Vals ys its') (hz:ys.length<=sizeLine):
  Inv X pins σ (upd H l (.lst ys)) { s with heap:=s.heap.update l (cQ f),toks:=t' }:=by
 have q:=PySem.IsL.update e f;rw[hf]at q;refine I.write (x:=l) (e:=l) (by rw[hH];exact trivial) (.inl rfl) (λb' u hb hu=>(fR s.heap (cQ f) (cR hb)).trans hu) ⟨_,q⟩ ?_;exact⟨hz,its',_,hv,q⟩
theorem Inv.lnew(I:Inv X pins σ H s)(hv:Vals ys its)(hz:ys.length<=sizeLine):
  Inv X pins σ (upd H s.heap.objs.size (.lst ys)) { s with heap:=s.heap.push { cls:=.type "list", data:=.seq its.toArray },toks:=t' }:=
 I.laid (λ_ _ q=>aM _ q) (aI _) ⟨hz,its,0,hv,bz _ rfl⟩
theorem Inv.fresh(I:Inv X pins σ H s):H s.heap.objs.size=none:=I.hok.fresh (aI _)
theorem Inv.lstM(I:Inv X pins σ H s)(hH:H l=some (.lst xs)):xs.length<=sizeLine/\∃(its:List aa) (n:Nat),Vals xs its/\xs.length=its.length/\s.heap.get? l=some { cls:=.type "list", data:=.seq its.toArray n }:=by obtain⟨z,its,n,r,e⟩:=I.hok l _ hH;exact⟨z,its,n,r,r.length,e⟩
theorem Fy{n:Nat}(h:n<=sizeLine):fO n=false:=by unfold fO;exact aQ (by omega)
end
section
variable{X:Cx}
def EE:V->bt->Hp->VK->Prop:=λx vs H Q=>∃l xs y,x=.ref l/\vs=[y]/\H l=some (.lst xs)/\xs.length<sizeLine/\Q .non (upd H l (.lst (xs++[y])))
theorem zQ:MtM X "list.append" EE:=by intro pins s σ H x vs v us Q I rx rv h;obtain⟨l,xs,y,rfl,rfl,hH,hz,q⟩:=h;cases rx;obtain⟨u,rfl,ru⟩:=rv.one;obtain⟨z,its,n,r,hl,e⟩:=I.lstM hH;refine gj jy ⟨_,e,rfl⟩ F.entry_list_append (F.args_list_append_2 _ _) (PySem.list_append l its.toArray n u (by rw[ba];omega)) ⟨e,?_⟩;refine⟨.non,_,I.lset (its':=its++[u]) hH e (by simp) (r.append (.cons ru .nil)) ?_,rfl,q⟩;rw[aD,aZ];omega
def Ov:V->bt->Hp->VK->Prop:=λx vs H Q=>∃l b xs zs,x=.ref l/\vs=[.ref b]/\H l=some (.lst xs)/\H b=some (.lst zs)/\xs.length+zs.length<=sizeLine/\Q .non (upd H l (.lst (xs++zs)))
theorem Vu:MtM X "list.extend" Ov:=by
 intro pins s σ H x vs v us Q I rx rv h;obtain⟨l,b,xs,zs,rfl,rfl,hH,hB,hz,q⟩:=h;cases rx;obtain⟨u,rfl,ru⟩:=rv.one;cases ru;obtain⟨z,its,n,r,hl,e⟩:=I.lstM hH;obtain⟨z2,its2,n2,r2,hl2,e2⟩:=I.lstM hB;have hsz:its.toArray.size+its2.toArray.size<=sizeLine:=by rw[ba,ba];omega
 have hlong:¬(!its.toArray.isEmpty&&fO (its.toArray.size+its2.toArray.size))=true:=by rw[Fy hsz,mZ];exact bq
 refine gj jz ⟨_,e,rfl⟩ lX (lS _ _)
  (AutoSeq1.list_extend_list_list_0 l its.toArray n b its2.toArray n2 hlong (by rw[ba];omega) (by omega)) ⟨e,e2,?_⟩
 refine⟨.non,_,I.lset (its':=its++its2) hH e (by simp) (r.append r2) ?_,rfl,q⟩;rw[aD];omega
def Hf:V->bt->Hp->VK->Prop:=λx vs H Q=>∃l xs i k y,x=.ref l/\vs=[.int i]/\H l=some (.lst xs)/\-(2 ^ 63)<=i/\i<2 ^ 63/\seqIndex? i xs.length=some k/\xs[k]?=some y/\Q y (upd H l (.lst (xs.eraseIdx k)))
theorem FB:MtM X "list.pop" Hf:=by
 intro pins s σ H x vs v us Q I rx rv h;obtain⟨l,xs,i,k,y,rfl,rfl,hH,h1,h2,hk,hy,q⟩:=h;cases rx;obtain⟨u,rfl,ru⟩:=rv.one;obtain⟨t,rfl⟩:=ru;obtain⟨z,its,n,r,hl,e⟩:=I.lstM hH;obtain⟨w,hw,rw'⟩:=r.get hy;refine gj jF ⟨_,e,rfl⟩ F.entry_list_pop (F.args_list_pop_2 _ _)
  (MeetsSeq.list_pop_at l its.toArray n i t k w (fitsIndex_both h1 h2) (by rw[ba,<- hl];exact hk) (by rw[<-jk];exact hw) (by rw[ba];omega)) ⟨e,?_⟩
 refine⟨y,_,I.lset (its':=its.eraseIdx k) hH e ?_ (r.eraseIdx k) ?_,rw',q⟩
 ·show its.toArray.eraseIdxIfInBounds k=(its.eraseIdx k).toArray;rw[List.eraseIdxIfInBounds_toArray]
 ·have:=DB xs k;omega
def Xk:R2:=λx y H Q=>∃l b xs zs,x=.ref l/\y=.ref b/\H l=some (.lst xs)/\H b=some (.lst zs)/\xs.length+zs.length<=sizeLine/\∀p,H p=none->Q (.ref p) (upd H p (.lst (xs++zs)))
theorem RQ:OpR X (binaryOp .Add) Xk:=by
 intro pins s σ H x y v u Q I rx ry h;obtain⟨l,b,xs,zs,rfl,rfl,hH,hB,hz,q⟩:=h;cases rx;cases ry;obtain⟨z,its,n,r,hl,e⟩:=I.lstM hH;obtain⟨z2,its2,n2,r2,hl2,e2⟩:=I.lstM hB;refine PySem.P.add_list e e2 ?_ (by rw[ba,ba];omega);have ea:its.toArray++its2.toArray=(its++its2).toArray:=by simp
 rw[ea];exact⟨.ref _,_,I.lnew (t':=s.toks) (r.append r2) (by rw[aD];omega),rfl,q _ I.fresh⟩
end
section
variable{prog:aE}{w:az}{A:aH}{E:aa->af->Prop}{s:af}
set_option maxRecDepth 100000 in
end
section
variable{κ:Type}[DecidableEq κ]
def rX(kvs:List (κ×V))(k:κ):Option V:=(kvs.find? λkv=>decide (kv.1=k)).map (·.2)
def putK(kvs:List (κ×V))(k:κ)(v:V):List (κ×V):=
 if (kvs.any λkv=>decide (kv.1=k))=true then kvs.map (λkv=>if kv.1=k then (kv.1,v)else kv)else kvs++[(k,v)]
theorem yZ{p:κ×V}{r:List (κ×V)}{k:κ}(e:p.1=k):rX (p::r) k=some p.2:=by simp[rX,dE,e]
theorem y3{p:κ×V}{r:List (κ×V)}{k:κ}(e:¬p.1=k):rX (p::r) k=rX r k:=by simp[rX,dE,e]
theorem BI(k:κ):∀kvs:List (κ×V),(kvs.any λkv=>decide (kv.1=k))=(rX kvs k).isSome
 |[]=>rfl
 |p::r=>by
  rw[dJ];by_cases e:p.1=k
  ·simp only[yZ e,bg e,Bool.true_or,Option.isSome_some]
  ·rw[y3 e,aQ e,ng];exact BI k r
theorem uB(kvs:List (κ×V))(k:κ)(v:V):(putK kvs k v).length<=kvs.length+1:=by
 unfold putK;split
 ·rw[ah];omega
 ·rw[aD,aK,cO];omega
theorem Lr{kvs:List (κ×V)}{k:κ}(v:V)(h:rX kvs k=none):putK kvs k v=kvs++[(k,v)]:=by unfold putK;rw[BI,h];exact aj (by decide)
theorem wH.isSome_eq{o:Option V}{u:Option aa}(r:wH o u):o.isSome=u.isSome:=by
 cases o with
 |none=>cases u with
  |none=>rfl
  |some _=>exact(show False from r).elim
 |some _=>cases u with
  |none=>exact(show False from r).elim
  |some _=>rfl
theorem wH.getD{o:Option V}{u:Option aa}{d:V}{d':aa}(r:wH o u)(rd:RelV d d'):RelV (o.getD d) (u.getD d'):=by
 cases o with
 |none=>cases u with
  |none=>exact rd
  |some _=>exact(show False from r).elim
 |some _=>cases u with
  |none=>exact(show False from r).elim
  |some _=>exact r
theorem KV.val{kvs:List (κ×V)}{vs:List (κ×aa)}(r:KV kvs vs)(k:κ):wH (rX kvs k) (valueAt vs k):=by
 unfold KV at r
 induction r with
 |nil=>exact True.intro
 |@cons p q ps qs h t ih=>
  obtain⟨h1,h2⟩:=h;by_cases e:p.1=k
  ·have e':q.1=k:=h1.symm.trans e;have b:valueAt (q::qs) k=some q.2:=by simp[valueAt,dE,e']
   rw[yZ e,b];exact h2
  ·have e':¬q.1=k:=λz=>e (h1.trans z);have b:valueAt (q::qs) k=valueAt qs k:=by simp[valueAt,dE,e']
   rw[y3 e,b];exact ih
theorem KV.any{kvs:List (κ×V)}{vs:List (κ×aa)}(r:KV kvs vs)(k:κ):(kvs.any λkv=>decide (kv.1=k))=vs.any λkv=>decide (kv.1=k):=by
 unfold KV at r
 induction r with
 |nil=>rfl
 |cons h t ih=>rw[dJ,dJ,ih,h.1]
theorem KV.repl{kvs:List (κ×V)}{vs:List (κ×aa)}(r:KV kvs vs)(k:κ)(ry:RelV y u):
  KV (kvs.map λkv=>if kv.1=k then (kv.1,y)else kv) (vs.map λkv=>if kv.1=k then (kv.1,u)else kv):=by
 unfold KV at r ⊢
 induction r with
 |nil=>exact .nil
 |@cons p q ps qs h t ih=>
  rw[ay,ay];refine .cons ?_ ih;obtain⟨h1,h2⟩:=h;by_cases e:p.1=k
  ·rw[ai e,ai (h1.symm.trans e)];exact⟨h1,ry⟩
  ·rw[aj e,aj (λz=>e (h1.trans z))];exact⟨h1,h2⟩
theorem KV.put{kvs:List (κ×V)}{vs:List (κ×aa)}(r:KV kvs vs)(k:κ){y:V}{u:aa}(ry:RelV y u):KV (putK kvs k y) (stored vs k u):=by
 unfold putK stored;rw[r.any k];by_cases e:(vs.any λkv=>decide (kv.1=k))=true
 ·rw[ai e,ai e];exact r.repl k ry
 ·rw[aj e,aj e];exact nz r ⟨rfl,ry⟩
theorem KV.length{kvs:List (κ×V)}{vs:List (κ×aa)}(r:KV kvs vs):kvs.length=vs.length:=jN r
end
theorem yb{P:aE}{w:az}{k:Key}(r:RelV (kV k) u):(oT P w).is k u=true:=by
 cases k with
 |inl i=>obtain⟨t,e⟩:=(show ∃t,u=Value.int i t from r);subst e;exact Fo P w i t
 |inr x=>obtain⟨t,e⟩:=(show ∃t,u=Value.str x t from r);subst e;exact Fp P w x t
theorem DC{P:aE}{w:az}:∀{ks:List Key} {us:List aa},Vals (ks.map kV) us->ItemsAre (oT P w) ks us
 |[],_,r=>by rw[bJ]at r;cases r;exact .nil
 |k::ks,_,r=>by
  rw[ay]at r;cases r with
  |cons h t=>exact .cons (yb h) (DC t)
abbrev KT(H:Hp):List (List Key×V)->List (List Key×Addr×aa)->Prop:=eP λp q=>p.1=q.1/\H q.2.1=some (.tup (p.1.map kV))/\RelV p.2 q.2.2
variable{kvs:List (List Key×V)}{xs:List (List Key×Addr×aa)}
theorem KT.val{H:Hp}(r:KT H kvs xs)(k:List Key):wH (rX kvs k) ((atKey xs k).map (·.2)):=by
 induction r with
 |nil=>exact True.intro
 |@cons p q ps qs h t ih=>
  obtain⟨h1,_,h2⟩:=h;by_cases e:p.1=k
  ·have e':q.1=k:=h1.symm.trans e;have b:atKey (q::qs) k=some q.2:=by simp[atKey,dE,e']
   rw[yZ e,b];exact h2
  ·have e':¬q.1=k:=λz=>e (h1.trans z);have b:atKey (q::qs) k=atKey qs k:=by simp[atKey,dE,e']
   rw[y3 e,b];exact ih
theorem KT.repl{H:Hp}(r:KT H kvs xs)(k:List Key)(ry:RelV y u):
  KT H (kvs.map λkv=>if kv.1=k then (kv.1,y)else kv) (xs.map (putAt k u)):=by
 induction r with
 |nil=>exact .nil
 |@cons p q ps qs h t ih=>
  rw[ay,ay];refine .cons ?_ ih;obtain⟨h1,h2,h3⟩:=h;unfold putAt;by_cases e:p.1=k
  ·rw[ai e,ai (h1.symm.trans e)];exact⟨h1,h2,ry⟩
  ·rw[aj e,aj (λz=>e (h1.trans z))];exact⟨h1,h2,h3⟩
theorem KT.put{H:Hp}{kvs:List (List Key×V)}{xs:List (List Key×Addr×aa)}(r:KT H kvs xs)(k:List Key){b:Addr}{y:V}{u:aa}(hb:H b=some (.tup (k.map kV)))(ry:RelV y u):
  KT H (putK kvs k y) (storedH xs k b u):=by
 have e:(kvs.any λkv=>decide (kv.1=k))=(atKey xs k).isSome:=by rw[BI,(r.val k).isSome_eq,mx]
 unfold putK storedH;rw[e];by_cases q:(atKey xs k).isSome=true
 ·rw[ai q,ai q];exact r.repl k ry
 ·rw[aj q,aj q];exact nz r ⟨rfl,hb,ry⟩
variable{H':Hp}
theorem KT.keeps{H:Hp}(r:KT H kvs xs)(ht:∀b ys,H b=some (.tup ys)->H' b=some (.tup ys)):KT H' kvs xs:=
 Paired.mapP r λ_ _ z=>⟨z.1,ht _ _ z.2.1,z.2.2⟩
section
variable{P:aE}{w:az}{H:Hp}{h:Heap}{a:Addr}
theorem QK{u:HO}(ok:HOk P w H h)(e:Rd H a u):pL P w H h a u:=e.ok ok
theorem yc{kvs:List (Key×V)}(ok:HOk P w H h)(e:Rd H a (.dK kvs)):kvs.length<=sizeLine/\(a==sysModules)=false/\∃vs,KV kvs vs/\h.DictOf (oT P w) a vs:=
 show pL P w H h a (.dK kvs) from QK ok e
theorem Ls{kvs:List (Key×V)}(ok:HOk P w H h)(e:H a=some (.dK kvs)):kvs.length<=sizeLine/\(a==sysModules)=false/\∃vs,KV kvs vs/\h.DictOf (oT P w) a vs:=yc ok (.inl e)
theorem zR{ks:List Key}(ok:HOk P w H h)(e:H a=some (.tup (ks.map kV))):(tupleKind (oT P w)).is h ks a:=by obtain⟨_,its,r,o,h1,h2,n,h3⟩:=(show pL P w H h a (.tup (ks.map kV)) from ok a _ e);exact⟨o,its.toArray,n,h1,h2,h3,by simpa using DC r⟩
theorem BJ(ok:HOk P w H h)(e:Rd H a (.dT kvs)):kvs.length<=sizeLine/\(a==sysModules)=false/\
  ∃xs,KT H kvs xs/\h.DictOfH (tupleKind (oT P w)) a xs:=by
 obtain⟨z,y,xs,r,o,es,ep,h1,h2,h3,h4,h5⟩:=(show pL P w H h a (.dT kvs) from QK ok e);refine⟨z,y,xs,r,o,es,ep,h1,h2,h3,h4,λx hx=>?_,h5⟩;have all:∀{l:List (List Key×V)} {m:List (List Key×Addr×aa)},KT H l m->∀x∈m,(tupleKind (oT P w)).is h x.1 x.2.1:=by
  intro l m q
  induction q with
  |nil=>intro x hx;exact nomatch hx
  |@cons p q ps qs hq t ih=>
   intro x hx;rcases aN.mp hx with e|hx
   ·subst e;exact zR ok (by rw[<-hq.1];exact hq.2.1)
   ·exact ih x hx
 exact all r x hx
theorem VY(ok:HOk P w H h)(e:H a=some (.dT kvs)):kvs.length<=sizeLine/\(a==sysModules)=false/\
  ∃xs,KT H kvs xs/\h.DictOfH (tupleKind (oT P w)) a xs:=BJ ok (.inl e)
end
def DGet(H:Hp)(a:Addr)(y:V)(r:Option V):Prop:=
 (∃kvs k,Rd H a (.dK kvs)/\y=kV k/\r=rX kvs k)\/∃kvs k b,Rd H a (.dT kvs)/\y=.ref b/\H b=some (.tup (k.map kV))/\r=rX kvs k
def Lu(H:Hp)(a:Addr)(y v:V)(H':Hp):Prop:=
 (∃kvs k,H a=some (.dK kvs)/\y=kV k/\kvs.length<sizeLine/\H'=upd H a (.dK (putK kvs k v)))\/
 ∃kvs k b,H a=some (.dT kvs)/\y=.ref b/\H b=some (.tup (k.map kV))/\kvs.length<sizeLine/\H'=upd H a (.dT (putK kvs k v))
theorem Lu.k{H:Hp}{a:Addr}{kvs:List (Key×V)}{k:Key}{v:V}(e:H a=some (.dK kvs))(hl:kvs.length<sizeLine):Lu H a (kV k) v (upd H a (.dK (putK kvs k v))):=.inl ⟨kvs,k,e,rfl,hl,rfl⟩
variable{Q:aa->af->Prop}{h':Heap}
section
variable{X:Cx}{pins:cn}{σ:St}{H:Hp}{s:af}{a:Addr}{y v:V}{u r:aa}{o:Option V}{A:aH}{E:aa->af->Prop}
theorem Inv.big(I:Inv X pins σ H s):sysModules<s.heap.objs.size:=by have h:mainGlobals<s.heap.objs.size:=(I.mod.glob.keeps I.bk).lt;exact Nat.lt_trans (by decide) h
theorem J0(hu:A.units+1<cLine)(I:Inv X pins σ H s)(g:DGet H a y (some v))(ry:RelV y u)(h:∀w' s',Inv X pins σ H s'->RelV v w'->Q w' s'):
  wpAny (model X.prog X.w) A (getItem (.ref a) u) Q E s:=by
 rcases g with ⟨kvs,k,e,ey,l⟩|⟨kvs,k,b,e,ey,eb,l⟩
 ·subst ey;obtain⟨z,hd,vs,rel,dd⟩:=yc I.hok e;obtain⟨w',hw,rw'⟩:=wH.some_of (v:=v) (o:=valueAt vs k) (by rw[l];exact rel.val k);exact wpAny_getItem_of (yb ry) dd.mapOf hw (h w' _ (I.tok _) rw')
 ·subst ey;cases (show u=Value.ref b from ry);obtain⟨z,hd,xs,rel,dd⟩:=BJ I.hok e;obtain⟨w',hw,rw'⟩:=wH.some_of (v:=v) (o:=(atKey xs k).map (·.2)) (by rw[l];exact rel.val k)
  obtain⟨p,hp,hp2⟩:=Option.map_eq_some_iff.mp hw;refine wpAny_getItem_heap (fV hu) (zR I.hok eb) dd hp ?_;rw[hp2];exact h w' _ (I.tok _) rw'
theorem Xl(hu:A.units+1<cLine)(I:Inv X pins σ H s)(g:DGet H a y o)(ry:RelV y u)(h:∀s',Inv X pins σ H s'->Q (.bool o.isSome) s'):
  wpAny (model X.prog X.w) A (compareOp .In u (.ref a)) Q E s:=by
 rcases g with ⟨kvs,k,e,ey,l⟩|⟨kvs,k,b,e,ey,eb,l⟩
 ·subst ey;obtain⟨z,hd,vs,rel,dd⟩:=yc I.hok e;refine wpAny_in_of (yb ry) hd dd.mapOf ?_;rw[<-(rel.val k).isSome_eq,<- l];exact h _ (I.tok _)
 ·subst ey;cases (show u=Value.ref b from ry);obtain⟨z,hd,xs,rel,dd⟩:=BJ I.hok e;refine wpAny_in_heap (fV hu) (zR I.hok eb) hd dd ?_;have q:=(rel.val k).isSome_eq;rw[mx]at q;rw[<-q,<- l];exact h _ (I.tok _)
theorem Bp{ob:HO}(I:Inv X pins σ H s)(mu:Mut (H a))(hs:fA a s.heap h')(he:∃q,h'.get? a=some q)(new:pL X.prog X.w (upd H a ob) h' a ob):
  Inv X pins σ (upd H a ob) { s with heap:=h',toks:=t' }:=
 I.write (x:=a) (e:=a) mu (.inl rfl) (λb q hb z=>(hs.2 b hb).trans z) he new
theorem Hg{P:aE}{w:az}{kvs:List (Key×V)}{vs:List (Key×aa)}(z:kvs.length<=sizeLine)(hd:(a==sysModules)=false)(rel:KV kvs vs)(dd:h'.DictOf (oT P w) a vs):
  pL P w H' h' a (.dK kvs):=⟨z,hd,vs,rel,dd⟩
theorem J1{Q:Unit->af->Prop}(hu:A.units+1<cLine)(I:Inv X pins σ H s)(g:Lu H a y v H')(ry:RelV y u)(rv:RelV v r)(h:∀s',Inv X pins σ H' s'->Q () s'):
  wpAny (model X.prog X.w) A (setItem (.ref a) u r) Q E s:=by
 rcases g with ⟨kvs,k,e,ey,l,eH⟩|⟨kvs,k,b,e,ey,eb,l,eH⟩
 ·subst ey eH;obtain⟨z,hd,vs,rel,dd⟩:=Ls I.hok e;have hz:vs.length<=sizeLine:=by rw[<-rel.length];exact z
  have hl:(putK kvs k v).length<=sizeLine:=by have:=uB kvs k v;omega
  refine wpAny_setItem_pairs (hsz:=hz) (yb ry) dd λh' dd' hs=>h _ ?_;have he:∃q,h'.get? a=some q:=let ⟨q,_,_,hq,_⟩:=dd';⟨q,hq⟩;exact Bp I (by rw[e];exact True.intro) hs he (Hg hl hd (rel.put k rv) dd')
 ·subst ey eH;cases (show u=Value.ref b from ry);obtain⟨z,hd,xs,rel,dd⟩:=VY I.hok e;have hz:xs.length<=sizeLine:=by rw[<-jN rel];exact z
  have hl:(putK kvs k v).length<=sizeLine:=by have:=uB kvs k v;omega
  refine wpAny_setItem_heap (hsz:=hz) (fV hu) (zR I.hok eb) dd λh' dd' hs=>h _ ?_;obtain⟨q,es,ep,hq,h2,h3,h4,_,h5⟩:=dd';refine Bp I (by rw[e];exact True.intro) hs ⟨q,hq⟩ ⟨hl,hd,_,(rel.put k eb rv).keeps λc ys ec=>?_,q,es,ep,hq,h2,h3,h4,h5⟩;rw[oB (Vw ec e (λz=>nomatch z))];exact ec
end
section
variable{X:Cx}{pins:cn}{σ:St}{H:Hp}{s:af}{a:Addr}{kvs:List (Key×V)}{k:Key}{u:aa}{A:aH}{E:aa->af->Prop}
theorem VZ(I:Inv X pins σ H s)(e:Rd H a (.dK kvs))(h:∀t s',Inv X pins σ H s'->Q (.int kvs.length t) s'):wpAny (model X.prog X.w) A (call (.builtin "len") [.ref a]) Q E s:=by obtain⟨z,hd,vs,rel,dd⟩:=yc I.hok e;refine call_len_dict hd dd (by rw[<-rel.length];rw[bK]at z;omega) ?_;rw[<-rel.length];exact h _ _ (I.tok _)
end
def RR(i:Expr):Prop:=∀ov iv,subscripted i false ov iv=operate [ov,iv] (getItem ov iv)
variable{pos:Pos}
theorem Ow{prog:aE}{w:az}{A:aH}{E:aa->af->Prop}{s:af}{env:Env}{value slice:Expr}{id:String}
  (hl:typeLookup (.type T) "__getitem__" = pure (some (.builtin id))) (hs:RR slice)
  (h:wpAny (model prog w) A (eval value env) (λo s₁=>wpAny (model prog w) A (eval slice env) (λi s₂=>s₂.TypeIs o T/\wpAny (model prog w) A (getItem o i) Q E s₂) E s₁) E s):
  wpAny (model prog w) A (eval (.Subscript value slice pos) env) Q E s:=by
 refine kl (bT h (λo s₁ h₁=>bT h₁ (λi s₂ h₂=>?_) λ_ _ x=>x) λ_ _ x=>x);obtain⟨hT,h₂⟩:=h₂;unfold subscriptTail;refine ao ?_;rw[getitemInPython_of_ne hT.not_modules];refine ao (jG hT hl ?_);have fin:wpAny (model prog w) A (subscripted slice false o i) (λr s₃=>wpAny (model prog w) A (letTemporaryGo value o r>>=λ_=>pure r) Q E s₃) E s₂:=by rw[hs o i];exact wpAny_operating (bT h₂ (λr s₃ h₃=>ao (wpAny_letTemporaryGo (aB h₃))) λ_ _ x=>x)
 first
  |exact aB (ao fin)
  |exact ao (aB (ao fin))
  |exact ao fin
variable{X:Cx}{a:Addr}
theorem FC{H:Hp}{s:af}{o:Option V}(I:Inv X pins σ H s)(g:DGet H a y o):s.TypeIs (.ref a) "dict" := by
 rcases g with ⟨kvs,k,e,_,_⟩|⟨kvs,k,b,e,_,_,_⟩
 ·obtain⟨_,_,vs,_,dd⟩:=yc I.hok e;exact dd.typeIs
 ·obtain⟨_,_,xs,_,dd⟩:=BJ I.hok e;exact dd.typeIs
def V1(td ty:TE):TE:=λσ H Q=>td σ H λx H1=>ty σ H1 λy H2=>∃a v,x=.ref a/\DGet H2 a y (some v)/\Q v H2
def V2(ty td:TE):TE:=λσ H Q=>ty σ H λy H1=>td σ H1 λx H2=>∃a o,x=.ref a/\DGet H2 a y o/\Q (.bl o.isSome) H2
def QL(td ty tv:TE):TS:=λD σ H=>tv σ H λv H1=>td σ H1 λx H2=>ty σ H2 λy H3=>∃a H4,x=.ref a/\Lu H3 a y v H4/\D.nx σ H4
section
variable{X:Cx}{o i e value:Expr}{pos pos' tpos:Pos}{td ty tv:TE}
theorem Ox(hu:X.A.units+1<cLine)(ho:PE X o td)(hi:PE X i ty)(hs:RR i):PE X (.Subscript o i pos) (V1 td ty):=by intro pins s σ H Q I h;refine Ow F.slot_dict_getitem.lookup hs (thn (ho pins s σ H _ I h) λu s1 ⟨x,H1,I1,rx,q1⟩=>thn (hi pins s1 σ H1 _ I1 q1) λiv s2 ⟨y,H2,I2,ry,a,v,ex,g,q2⟩=>?_);subst ex;obtain rfl:u=Value.ref a:=rx;exact⟨FC I2 g,J0 hu I2 g ry λw' s3 I3 rw'=>⟨v,H2,I3,rw',q2⟩⟩
theorem Lv(hu:X.A.units+1<cLine)(hi:PE X i ty)(ho:PE X o td):PC X .In i o (V2 ty td):=by intro pins s σ H Q I h;refine thn (hi pins s σ H _ I h) λiv s1 ⟨y,H1,I1,ry,q1⟩=>thn (ho pins s1 σ H1 _ I1 q1) λu s2 ⟨x,H2,I2,rx,a,ov,ex,g,q2⟩=>?_;subst ex;obtain rfl:u=Value.ref a:=rx;exact Xl hu I2 g ry λs3 I3=>⟨.bl ov.isSome,H2,I3,rfl,q2⟩
theorem Oy(hu:X.A.units+1<cLine)(ho:PE X o td)(hi:PE X i ty)(hv:PE X value tv)(hs:swapsWith value (some (.Subscript o i pos')) pos.line X.env=pure false):
  PS X (.Assign [.Subscript o i pos'] value pos) (QL td ty tv):=by
 intro pins s σ H D I h;refine wpAny_Assign_Subscript (thn (hv pins s σ H _ I h) λr s1 ⟨v,H1,I1,rv,q1⟩=>thn (ho pins s1 σ H1 _ I1 q1) λu s2 ⟨x,H2,I2,rx,q2⟩=>thn (hi pins s2 σ H2 _ I2 q2) λiv s3 ⟨y,H3,I3,ry,a,H4,ex,g,q3⟩=>?_) hs;subst ex;obtain rfl:u=Value.ref a:=rx;exact J1 hu I3 g ry rv λs4 I4=>⟨σ,H4,I4,q3⟩
end
theorem FD{P:aE}{w:az}{H:Hp}(h:Heap)(hb:sysModules<h.objs.size):pL P w H (h.push { cls:=.type "dict", data:=.dict #[] }) h.objs.size (.dK []):=
 ⟨cf _,beq_eq_false_iff_ne.mpr (cR (aT hb)),[],.nil,Heap.DictOf.new h⟩
def Hh:TE:=λ_ H Q=>∀p,H p=none->Q (.ref p) (upd H p (.dK []))
section
variable{X:Cx}{pos:Pos}
theorem BK:PE X (.Dict [] [] pos) Hh:=λpins s σ H Q I h=>
 wpAny_Dict_empty ⟨.ref s.heap.objs.size,_,I.laid (a:=s.heap.objs.size) (o:=.dK []) (t':=s.toks) (λ_ _ q=>aM _ q) (aI _) (FD s.heap I.big),rfl,h _ (I.hok.fresh (aI _))⟩
end
def EF:List (TE×TE)->St->Hp->(List (V×V)->Hp->Prop)->Prop
 |[],_,H,Q=>Q [] H
 |(tk,tv)::r,σ,H,Q=>tk σ H λx H1=>tv σ H1 λy H2=>EF r σ H2 λps H3=>Q ((x,y)::ps) H3
abbrev VV:List (V×V)->List (aa×aa)->Prop:=eP λp q=>RelV p.1 q.1/\RelV p.2 q.2
def PPs(X:Cx)(pos:Pos)(keys:List (Option Expr))(values:List Expr)(trs:List (TE×TE)):Prop:=
 ∀(pins:cn) (s:af) (σ:St) (H:Hp) (Q:List (V×V)->Hp->Prop),Inv X pins σ H s->EF trs σ H Q->
  wpAny (model X.prog X.w) X.A (evalPairs (pairTrees keys values X.env pos)) (λvs s'=>∃ps H',Inv X pins σ H' s'/\VV ps vs/\Q ps H') X.xe s
theorem Oz:PPs X pos [] [] []:=λpins s σ H Q I h=>pairTrees_nil_walk ⟨[],H,I,.nil,h⟩
variable{trs:List (TE×TE)}
theorem Lw{k v:Expr}{ks:List (Option Expr)}{vs:List Expr}{tk tv:TE}(hk:PE X k tk)(hv:PE X v tv)(hr:PPs X pos ks vs trs):
  PPs X pos (some k::ks) (v::vs) ((tk,tv)::trs):=λpins s σ H Q I h=>
 pairTrees_cons_walk (thn (hk pins s σ H _ I h) λu s1 ⟨x,H1,I1,rx,q1⟩=>thn (hv pins s1 σ H1 _ I1 q1) λw2 s2 ⟨y,H2,I2,ry,q2⟩=>
  thn (hr pins s2 σ H2 _ I2 q2) λws s3 ⟨ps,H3,I3,rel,q3⟩=>⟨(x,y)::ps,H3,I3,.cons ⟨rx,ry⟩ rel,q3⟩)
def wN(kvs more:List (Key×V)):List (Key×V):=more.foldl (λacc kv=>putK acc kv.1 kv.2) kvs
theorem KV.merge:∀{more:List (Key×V)} {rs:List (Key×aa)} {kvs:List (Key×V)} {vs:List (Key×aa)},KV more rs->KV kvs vs->KV (wN kvs more) (merged vs rs):=by
 intro more rs kvs vs r;unfold KV at r
 induction r generalizing kvs vs with
 |nil=>intro q;exact q
 |@cons p q ps qs h t ih=>
  intro r0;have e:KV (putK kvs p.1 p.2) (stored vs q.1 q.2):=by have:=r0.put p.1 h.2;rw[<-h.1];exact this
  exact ih e
theorem yd:∀(more kvs:List (Key×V)),(wN kvs more).length<=kvs.length+more.length
 |[],kvs=>by show kvs.length<=kvs.length+0;omega
 |p::r,kvs=>by have h1:=yd r (putK kvs p.1 p.2);have h2:=uB kvs p.1 p.2;show (wN (putK kvs p.1 p.2) r).length<=_;rw[aK];omega
theorem BL{P:aE}{w:az}:∀{kvs:List (Key×V)} {ws:List (aa×aa)},VV (kvs.map λkv=>(kV kv.1,kv.2)) ws->∃rs,Carries (oT P w) ws rs/\KV kvs rs
 |[],_,r=>by rw[bJ]at r;cases r;exact⟨[],True.intro,.nil⟩
 |p::kvs,_,r=>by
  rw[ay]at r;cases r with
  |@cons a b as bs h t=>obtain⟨rs,c,q⟩:=BL (P:=P) (w:=w) t;obtain⟨b1,b2⟩:=b;exact⟨(p.1,b2)::rs,⟨yb h.1,rfl,c⟩,.cons ⟨rfl,h.2⟩ q⟩
def Lx(trs:List (TE×TE)):TE:=λσ H Q=>∀p,H p=none->EF trs σ (upd H p (.dK [])) λps H2=>H2 p=some (.dK [])/\∃kvs:List (Key×V),ps=kvs.map (λkv=>(kV kv.1,kv.2))/\kvs.length<=15/\Q (.ref p) (upd H2 p (.dK (wN [] kvs)))
theorem OA{keys:List (Option Expr)}{values:List Expr}(h:PPs X pos keys values trs)(hall:keys.all (·.isSome)=true)(hl:keys.length=values.length)(h0:keys≠[])
  (h15:keys.length<=15):PE X (.Dict keys values pos) (Lx trs):=by
 intro pins s σ H Q I q;have hn:=I.hok.fresh (aI s.heap.objs.size);have I1:=I.laid (a:=s.heap.objs.size) (o:=.dK []) (h':=s.heap.push { cls:=.type "dict", data:=.dict #[] }) (t':=s.toks) (λ_ _ q=>aM _ q) (aI _) (FD s.heap I.big);refine wpAny_Dict_walk (knd:=oT X.prog X.w) hall hl h0 h15 (thn (h pins _ σ _ _ I1 (q _ hn)) λws s2 ⟨ps,H2,I2,rel,e,kvs,ep,lk,q2⟩=>?_);subst ep;obtain⟨rs,c,rk⟩:=BL (P:=X.prog) (w:=X.w) rel;obtain⟨z,hd,vs0,r0,dd⟩:=Ls I2.hok e;cases r0;refine⟨rs,c,dd,λh' dd' hs=>⟨.ref s.heap.objs.size,_,?_,rfl,q2⟩⟩;have hz:(wN [] kvs).length<=sizeLine:=by have h1:=yd kvs [];rw[cO]at h1;rw[bK];omega
 have he:∃q,h'.get? s.heap.objs.size=some q:=let ⟨q,_,_,hq,_⟩:=dd';⟨q,hq⟩;exact Bp I2 (by rw[e];exact True.intro) hs he (Hg hz hd (rk.merge .nil) dd')
structure M1(X:Cx)(o:Expr)(m:Str)(apos:Pos)(e:Expr)(cpos:Pos):Prop where
 base:attributeBase o m X.env (eval o X.env)=eval o X.env
 few:((backTo cpos (starEach [e] X.env)).all (λx=>!x.1)&&(backToKw cpos (keywordEach [] X.env)).all (λx=>x.1.isSome)
  && decide (([e]:List Expr).length+([]:List dO).length+(if ([]:List dO).isEmpty then 0 else 1)<30))=true
 line:(apos.endLine==cpos.line)=true
 trees:backTo cpos (starEach [e] X.env)=[(false,eval e X.env)]
structure M2(X:Cx)(o:Expr)(m:Str)(apos:Pos)(e f:Expr)(cpos:Pos):Prop where
 base:attributeBase o m X.env (eval o X.env)=eval o X.env
 few:((backTo cpos (starEach [e,f] X.env)).all (λx=>!x.1)&&(backToKw cpos (keywordEach [] X.env)).all (λx=>x.1.isSome)
  && decide (([e,f]:List Expr).length+([]:List dO).length+(if ([]:List dO).isEmpty then 0 else 1)<30))=true
 line:(apos.endLine==cpos.line)=true
 trees:backTo cpos (starEach [e,f] X.env)=[(false,eval e X.env),(false,eval f X.env)]
def IsD(H:Hp)(a:Addr):Prop:=(∃kvs,Rd H a (.dK kvs))\/∃kvs,Rd H a (.dT kvs)
theorem EG{H:Hp}{s:af}(I:Inv X pins σ H s)(d:IsD H a):
  s.TypeIs (.ref a) "dict" /\ (∀b,Value.ref a=.ref b->∃ob,s.heap.get? b=some ob/\ob.dict=none)/\(a==sysModules)=false:=by
 rcases d with ⟨kvs,e⟩|⟨kvs,e⟩
 ·obtain⟨_,hd,vs,_,dd⟩:=yc I.hok e;refine⟨dd.typeIs,λb q=>?_,hd⟩;cases q;obtain⟨ob,_,_,h1,h2,_⟩:=dd;exact⟨ob,h1,h2.2.1⟩
 ·obtain⟨_,hd,xs,_,dd⟩:=BJ I.hok e;refine⟨dd.typeIs,λb q=>?_,hd⟩;cases q;obtain⟨ob,_,_,h1,h2,_⟩:=dd;exact⟨ob,h1,h2.2.1⟩
section
variable{X:Cx}{pins:cn}{σ:St}{H:Hp}{s:af}{a:Addr}{y d:V}{u r:aa}{o:Option V}{A:aH}{E:aa->af->Prop}
theorem RS(hu:A.units+1<cLine)(I:Inv X pins σ H s)(g:DGet H a y o)(ry:RelV y u)(h:∀w' s',Inv X pins σ H s'->RelV (o.getD .non) w'->Q w' s'):
  wpAny (model X.prog X.w) A (call (.builtin "dict.get") [.ref a,u]) Q E s:=by
 rcases g with ⟨kvs,k,e,ey,l⟩|⟨kvs,k,b,e,ey,eb,l⟩
 ·subst ey;obtain⟨z,hd,vs,rel,dd⟩:=yc I.hok e;refine fE fq dd.typeIs il (my _ _) (meets_dict_get (oT X.prog X.w) a (yb ry) hd) ⟨_,dd.mapOf,h _ _ (I.tok _) ?_⟩;rw[l];exact(rel.val k).getD rfl
 ·subst ey;cases (show u=Value.ref b from ry);obtain⟨z,hd,xs,rel,dd⟩:=BJ I.hok e;refine fE fq dd.typeIs il (my _ _) (meetsH_dict_get (tupleKind (oT X.prog X.w)) a b hd) ⟨fV hu,k,xs,zR I.hok eb,dd,h _ _ (I.tok _) ?_⟩;rw[l];exact(rel.val k).getD rfl
theorem RT(hu:A.units+1<cLine)(I:Inv X pins σ H s)(g:DGet H a y o)(ry:RelV y u)(rd:RelV d r)(h:∀w' s',Inv X pins σ H s'->RelV (o.getD d) w'->Q w' s'):
  wpAny (model X.prog X.w) A (call (.builtin "dict.get") [.ref a,u,r]) Q E s:=by
 rcases g with ⟨kvs,k,e,ey,l⟩|⟨kvs,k,b,e,ey,eb,l⟩
 ·subst ey;obtain⟨z,hd,vs,rel,dd⟩:=yc I.hok e;refine fE fq dd.typeIs il (mB _ _ _) (meets_dict_get_default (oT X.prog X.w) a (yb ry) hd r) ⟨_,dd.mapOf,h _ _ (I.tok _) ?_⟩;rw[l];exact(rel.val k).getD rd
 ·subst ey;cases (show u=Value.ref b from ry);obtain⟨z,hd,xs,rel,dd⟩:=BJ I.hok e;refine fE fq dd.typeIs il (mB _ _ _) (meetsH_dict_get_default (tupleKind (oT X.prog X.w)) a b hd r) ⟨fV hu,k,xs,zR I.hok eb,dd,h _ _ (I.tok _) ?_⟩;rw[l];exact(rel.val k).getD rd
end
def RU(td ty:TE):TE:=λσ H Q=>td σ H λx H1=>∃a,x=.ref a/\IsD H1 a/\ty σ H1 λy H2=>∃o,DGet H2 a y o/\Q (o.getD .non) H2
def RV(td ty tx:TE):TE:=λσ H Q=>td σ H λx H1=>∃a,x=.ref a/\IsD H1 a/\ty σ H1 λy H2=>tx σ H2 λz H3=>∃o,DGet H3 a y o/\Q (o.getD z) H3
section
variable{X:Cx}{o e f:Expr}{apos cpos:Pos}{td ty tx:TE}
theorem Ly(hu:X.A.units+1<cLine)(ho:PE X o td)(he:PE X e ty)(m:M1 X o "get" apos e cpos):PE X (.Call (.Attribute o "get" apos) [e] [] cpos) (RU td ty):=by intro pins s σ H Q I h;refine jD m.base m.few m.line ie fq mP (thn (ho pins s σ H _ I h) λu s1 ⟨x,H1,I1,rx,a,ex,d,q1⟩=>?_);subst ex;obtain rfl:u=Value.ref a:=rx;obtain⟨t1,t2,_⟩:=EG I1 d;refine⟨t1,t2,?_⟩;rw[m.trees];refine fQ rfl (hX (eC (thn (he pins s1 σ H1 _ I1 q1) λiv s2 ⟨y,H2,I2,ry,ov,g,q2⟩=>fX ?_)));exact RS hu I2 g ry λw' s3 I3 rw'=>⟨_,H2,I3,rw',q2⟩
theorem LA(hu:X.A.units+1<cLine)(ho:PE X o td)(he:PE X e ty)(hf:PE X f tx)(m:M2 X o "get" apos e f cpos):PE X (.Call (.Attribute o "get" apos) [e,f] [] cpos) (RV td ty tx):=by
 intro pins s σ H Q I h;refine jD m.base m.few m.line ie fq mP (thn (ho pins s σ H _ I h) λu s1 ⟨x,H1,I1,rx,a,ex,d,q1⟩=>?_);subst ex;obtain rfl:u=Value.ref a:=rx;obtain⟨t1,t2,_⟩:=EG I1 d;refine⟨t1,t2,?_⟩;rw[m.trees];refine fQ rfl (hX (eC (thn (he pins s1 σ H1 _ I1 q1) λiv s2 ⟨y,H2,I2,ry,q2⟩=>
  eC (thn (hf pins s2 σ H2 _ I2 q2) λfv s3 ⟨z,H3,I3,rz,ov,g,q3⟩=>fX ?_))))
 exact RT hu I3 g ry rz λw' s4 I4 rw'=>⟨_,H3,I4,rw',q3⟩
end
end L2
namespace Att
open PySem PySem.W PySem.Calls PyProof.Rows
theorem Bj{P:gv}{h:Heap}:∀(ns:List Int) (vs:List aa),WellAll P h vs (ns.map WData.int)->gq vs ns:=by
 intro ns
 induction ns with
 |nil=>intro vs w;rw[bJ]at w;cases w;exact .nil
 |cons n ns ih=>
  intro vs w;rw[ay]at w;cases w with
  |cons a b=>cases a;exact .cons _ _ (ih _ b)
theorem J2{l:fG}{n:Nat}(hn:l.most=some n){P:gv}{h:Heap}{args:List WData}{vals:List aa}
  (hpre:l.row.toRowW.claim.pre args=true) (hwl:WellAll P h vals args):
  ∃a vs ns,vals=[Value.ref a]/\args=[WData.list (ns.map WData.int)]/\h.get? a=some { cls:=.type "list", data:=.seq vs.toArray }/\gq vs ns/\ns.length<=n:=by
 have hsh:WShape.hasAll [] args [.list .int]=true:=(pre_splitW hpre).1;have hc:l.pre.holds [] { args:=args }=true:=(pre_splitW hpre).2;obtain⟨d,r,rfl,h1,h2⟩:=hasAllW_cons hsh;obtain rfl:=hasAllW_nil h2;obtain⟨xs,rfl,h3⟩:=hasW_list h1;obtain⟨ns,rfl⟩:=items_int h3;have hlen:ns.length<=n:=by
  unfold OpenLaw.pre at hc;have h4:(WTm.not (.lt (.lit (.int (n:Int))) (.len (.arg 0)))).holds [] { args:=[.list (ns.map .int)] }=true:=by have h4:=(holds_andW hc).1;rw[hn]at h4;exact h4
  have h5:=condW_of h4 (w_not (w_lt w_lit (w_len_list (w_arg rfl))));rw[ah]at h5;refine mK λq=>?_;have q':(n:Int)<((ns.length:Nat):Int):=by omega
  first
   |(rw[bg q']at h5;exact aq h5 (by decide))
   |(simp at h5;omega)
 cases hwl with
 |cons w1 w2=>
  cases w2;cases w1 with
  |list ho hall=>exact⟨_,_,ns,rfl,rfl,ho,Bj ns _ hall,hlen⟩
theorem J3(l:fG)(args:List WData):l.row.toRowW.claim.post args (.bool true) args=true:=
 postW_of (r:=l.row.toRowW) (X:=(true==true))
  (show nD [] (.bool true) .bool=true by first|rfl|decide|simp[nD,WShape.arms,WShape.armsAll])
  (show (WTm.eq .res (.lit (.bool true))).value [] { args:=args,res:=some (.bool true),after:=args }=some (.bool (true==true)) from w_eq_bool (w_res rfl) w_lit) rfl
theorem attach_call{l:fG}{n:Nat}{q:aE}{loose:aC}{XP:(Str->Option aa)->Heap->Prop}{YP:az->Heap->Prop}{d:DefRec}
  (hn:l.most=some n) (hdf:d.params.defaults=[])
  (call:∀(w:az) (s₀ s₁:af) (mg mb:Str->Option aa) (fa:Addr) (o:Obj) (pm cd doc:aa) (a:Addr) (vs:List aa) (ns:List Int),
   Ground q loose [] XP w s₀ mg mb s₁.heap->YP w s₁.heap->
   s₁.heap.get? fa=some o->o.data=.func (docDef d.name d.params d.body d.scope pm cd doc)->s₁.heap.CodeRec cd d.name->mg d.name=some (.ref fa)->
   s₁.heap.get? a=some { cls:=.type "list", data:=.seq vs.toArray }->gq vs ns->ns.length<=n->s₁.gens=#[]->
   codeAny (model l.prog w) callerA (.call (.ref fa) ⟨[.ref a],[]⟩) (λr s'=>r=.ok (.ret (.bool true))/\OldK s₁.heap s'.heap/\s'.os=s₁.os/\dj s'.gens) s₁):
  WalkO q loose XP YP l.row.toRowW d [] (λf vs=>ko f vs):=by
 intro w s₀ s₁ mg mb G Y fa o pm cd doc dV kV ho hd hcd hD hmg hg args vals as hpre hlay hrd hwl hlo;obtain rfl:dV=.none:=Dflts.none hD hdf;obtain rfl:kV=.none:=Dflts.noKw hD;obtain⟨a,vs,ns,rfl,rfl,hobj,hints,hlen⟩:=J2 hn hpre hwl;refine enter_call (fD (call w s₀ s₁ mg mb fa o pm cd doc a vs ns G Y ho (fd_plain hd) hcd hmg hobj hints hlen hg) λr s' hq=>?_);obtain⟨rfl,h2,h3,h4⟩:=hq;exact⟨.inl ⟨.bool true,.bool true,[],rfl,λ_=>rfl,.bool true,J3 l _,λ_=>⟨List.Pairwise.nil,λ_ hm=>(nomatch hm)⟩⟩,h2,h3,h4⟩
end Att
namespace L2
open PySem PySem.Spec PyProof.Rows
theorem DE:∀{vs:List aa} {ns:List Int},gq vs ns->Vals (ns.map V.int) vs
 |_,_,.nil=>.nil
 |_,_,.cons n t h=>.cons ⟨t,rfl⟩ (DE h)
def RW(H:Hp):Prop:=∀b,H b=none\/∃o xs,H b=some (.frz o (.lst xs))
variable{a:Addr}{fd:bM}{sp:Sp}
theorem LB{P:aE}{w:az}{K:au}{mg mb:Str->Option aa}{CX:CXT}{k:Nat}{fa:Addr}{x:Str}{s₁:af}{vs:List aa}{ns:List Int}
  (KX:K.In s₁.heap) (hns:s₁.heap.Ns mainGlobals mg) (hb:s₁.heap.Ns builtinsNs mb) (hbb:∀x:Str,x≠"__name__" -> mb x=bootBuiltins x) (hlim:s₁.heap.NoLimit) (hg:s₁.gens=#[])
  (ha:s₁.heap.get? a=some { cls:=.type "list", data:=.seq vs.toArray }) (hi:gq vs ns) (hl:ns.length<=sizeLine) (hr:p8 k callerA)
  (F:∀base:Heap,K.In base->base.Ns mainGlobals mg->sH P w K mg base CX k fa fd [x] sp) (hbind:∀(s:af) (u:aa),fH s fd ⟨[u],[]⟩ [(x,u)])
  (hsp:∀H:Hp,RW H->SqL K H a (ns.map V.int)->sp [.ref a] H (λv _=>v=.bl true) λ_ _ _=>False)
  (hCX:∀H e s',CX [] H s₁ (λ_ _ _=>False) e s'->False):
  codeAny (model P w) callerA (.call (.ref fa) ⟨[.ref a],[]⟩) (λr s'=>r=.ok (.ret (.bool true))/\OldK s₁.heap s'.heap/\s'.os=s₁.os/\dj s'.gens) s₁:=by
 have rv:=DE hi;have lenV:=hi.length;have core:∀H:Hp,RW H->SqL K H a (ns.map V.int)->HOk P w H s₁.heap->(∀b,H b≠none->b=a)->(H a≠none->K.lookup a=none)->
   codeAny (model P w) callerA (.call (.ref fa) ⟨[.ref a],[]⟩) (λr s'=>r=.ok (.ret (.bool true))/\OldK s₁.heap s'.heap/\s'.os=s₁.os/\dj s'.gens) s₁:=by
  intro H hO hS hok hA hK;have base_of:∀{b:Addr} {o:Obj},s₁.heap.get? b=some o->H b=none->(Et s₁.heap H).get? b=some o:=λe n=>K5 e n;have noA:∀{b:Addr} {o:Obj} {es:Array DictEntry} {ep:Nat},s₁.heap.get? b=some o->o.data=.dict es ep->H b=none:=λ{b o es ep} e d=>by
   cases q:H b with
   |none=>rfl
   |some u=>have e':b=a:=hA b (by rw[q];simp);subst e';rw[ha]at e;cases e;have d':Data.seq vs.toArray _=Data.dict es ep:=d;cases d'
  have nsK:∀{b:Addr} {m:Str->Option aa},s₁.heap.Ns b m->(Et s₁.heap H).Ns b m:=λ{b m} ⟨o,es,ep,e,d,r⟩=>⟨o,es,ep,base_of e (noA e d),d,r⟩;have hKb:K.In (Et s₁.heap H):=λb o e=>base_of (KX b o e) (by
   cases q:H b with
   |none=>rfl
   |some u=>
    have e':b=a:=hA b (by rw[q];simp);subst e';rw[hK (by rw[q];simp)]at e;cases e)
  have hM:Mod K mg (Et s₁.heap H):=⟨hKb,nsK hns,⟨mb,nsK hb,hbb⟩,let ⟨mc,h1,h2⟩:=hlim;⟨mc,nsK h1,h2⟩⟩;have e0:G8 P w K mg (Et s₁.heap H) callerA [] s₁ H:=⟨rfl,hM,λb o e=>N6 e,jX (JN _ _),trivial,λb hb=>aq (show b∈([]:List Addr) from hb) (by simp),hok,.of_eq hg⟩;refine fD ((F _ hKb (nsK hns)).run callerA [] s₁ H ⟨[.ref a],[]⟩ [.ref a] [.ref a] _ _ hr e0 (hbind s₁ (.ref a)) (.cons rfl .nil) (hsp H hO hS)) λr s' h=>?_;cases r with
  |error e=>exact(hCX H e s' h).elim
  |ok fl=>
   cases fl with
   |next=>exact cF h
   |brk=>exact cF h
   |cont=>exact cF h
   |ret u=>
    obtain⟨v,H',os,bare,un,hok',r',q⟩:=h;have q':v=.bl true:=q;subst q';obtain rfl:u=Value.bool true:=r';refine⟨rfl,OldK.of_keep λb o e=>?_,os,bare⟩;cases q:H b with
    |none=>exact un.keep b o e q (by intro z;exact aq (show b∈([]:List Addr) from z) (by simp)) (by simp)
    |some u=>
     rcases hO b with z|⟨ob,xs,z⟩
     ·rw[q]at z;cases z
     ·have z2:=un.frzs b ob _ z;obtain⟨e1,_⟩:=hok b _ z;obtain⟨e2,_⟩:=hok' b _ z2;rw[e]at e1;cases e1;exact e2
 cases hk:K.lookup a with
 |some o=>have e:=KX a o hk;rw[ha]at e;cases e;refine core (λ_=>none) (λ_=>.inl rfl) (.inr ⟨_,vs.toArray,_,hk,rfl,rfl,rfl,by rw[ba,lenV];exact hl,by simpa using rv⟩) (λb u z=>by have z':(none:Option HO)=some u:=z;cases z') (λb z=>aq rfl z) λz=>aq rfl z
 |none=>
  refine core (λb=>if b=a then some (.frz { cls:=.type "list", data:=.seq vs.toArray } (.lst (ns.map V.int)))else none) (λb=>?_) (.inl (.inr ⟨{ cls:=.type "list", data:=.seq vs.toArray },ai rfl⟩)) (λb u z=>?_) (λb z=>?_) λ_=>hk
  ·by_cases hb:b=a
   ·exact .inr ⟨_,_,ai hb⟩
   ·exact .inl (aj hb)
  ·by_cases hb:b=a
   ·have z':=(ai hb).symm.trans z;cases z';subst hb;exact⟨ha,by rw[ah];exact hl,vs,_,rv,ha⟩
   ·have z':=(aj hb).symm.trans z;cases z'
  ·by_cases hb:b=a
   ·exact hb
   ·exact aq (aj hb) z
theorem OB{l:fG}{n k:Nat}{q:aE}{loose:aC}{XP:(Str->Option aa)->Heap->Prop}{YP:az->Heap->Prop}{d:DefRec}{K:gv->au}{CX:az->CXT}{sp:az->Sp}{x:Str}
  (hn:l.most=some n) (hn2:n<=sizeLine) (hdf:d.params.defaults=[]) (hr:p8 k callerA)
  (hY:∀(w:az) (h:Heap),YP w h->(K w.params).In h)
  (F:∀(w:az) (mg:Str->Option aa) (fa:Addr) (h:Heap),(K w.params).In h->h.Ns mainGlobals mg->mg d.name=some (.ref fa)->
   ∃fd:bM,(∀(s:af) (u:aa),fH s fd ⟨[u],[]⟩ [(x,u)])/\
    ∀base:Heap,(K w.params).In base->base.Ns mainGlobals mg->sH l.prog w (K w.params) mg base (CX w) k fa fd [x] (sp w))
  (hsp:∀(w:az) (H:Hp) (a:Addr) (ns:List Int),ns.length<=n->RW H->SqL (K w.params) H a (ns.map V.int)->sp w [.ref a] H (λv _=>v=.bl true) λ_ _ _=>False)
  (hCX:∀(w:az) (H:Hp) (s:af) (e:aa) (s':af),CX w [] H s (λ_ _ _=>False) e s'->False):
  W.WalkO q loose XP YP l.row.toRowW d [] (λf vs=>ko f vs):=by
 refine Att.attach_call hn hdf λw s₀ s₁ mg mb fa o pm cd doc a vs ns G Y ho hd hcd hmg hobj hints hlen hg=>?_;have KX:=hY w _ Y;obtain⟨fd,hb,hF⟩:=F w mg fa _ KX G.T.g hmg;exact LB KX G.T.g G.T.b G.T.builtins G.T.nolimit hg hobj hints (bI hlen hn2) hr hF hb (λH hO hS=>hsp w H a ns hlen hO hS) λH e s'=>hCX w H s₁ e s'
def inClass(s:Stmt)(j:Nat):Stmt:=match s with
 |.ClassDef _ _ _ body _ _ _ _ _ _ _=>body.getD j (.Pass ⟨0,0,0,0⟩)
 |_=>.Pass ⟨0,0,0,0⟩
def rY(s:Stmt):Arguments:=match s with
 |.FunctionDef _ a _ _ _ _ _ _ _ _=>a
 |_=>{ posonlyargs:=[],args:=[],vararg:=none,kwonlyargs:=[],kw_defaults:=[],kwarg:=none,defaults:=[] }
def ph(s:Stmt):List Stmt:=match s with
 |.FunctionDef _ _ b _ _ _ _ _ _ _=>b
 |_=>[]
def oP(s:Stmt):cG:=match s with
 |.FunctionDef _ _ _ _ _ _ sc _ _ _=>sc
 |_=>{ kind:=.function,names:=[],isGenerator:=false,isCoroutine:=false }
abbrev CX0:CXT:=λ_ _ _ _ _ _=>False
abbrev E0:XK:=λ_ _ _=>False
theorem Av{X:Cx}:Passes CX0 X E0:=λ_ _ _ _ _ _ _ h=>h.elim
structure Fun(K:au)(x qual:Str)(st:Stmt)(f:Addr)(fd:bM):Prop where
 ex:∃(oc:aa) (od:Option Addr) (kV doc pm:aa) (an:Option Addr) (cdv ct:aa) (osl:Array (Option aa)),
  fd=dq x qual (rY st) (ph st) (oP st) .none kV doc pm an cdv ct/\K.lookup f=some ⟨oc,od,.func fd,osl⟩/\fF K cdv qual=true
 kp:c4 K (.ref f)=true
variable{qual:Str}{st:Stmt}{ps:aC}
section
variable{P:aE}{w:az}{K:au}{mg:Str->Option aa}{base:Heap}
theorem Fun.ok{x:Str}{f:Addr}{N:aC}{k:Nat}(F:Fun K x qual st f fd)(S:pZ N ps (oP st))(len:∀vs H Q E,sp vs H Q E->vs.length=ps.length)
  (hbody:∀(cdv:aa) (A:aH) (outer:List Env) (s:af) (H:Hp) (vs:bt) (Q:VK) (E:XK),p8 k (A.deeper (envOfC qual (oP st) s.heap.objs.size f cdv))->sp vs H Q E->
   ∃t,PSs (Fu CX0 P w K mg base N qual (oP st) f cdv A outer s H E).nox (ph st) t/\t { nx:=λ_ H'=>Q .non H',rt:=Q } (start N vs) H):sH P w K mg base CX0 (k+1) f fd ps sp:=by
 obtain⟨oc,od,kV,doc,pm,an,cdv,ct,osl,rfl,lk,hcd⟩:=F.ex;refine QI lk hcd S len λA outer s H vs Q E hr hsp=>?_;obtain⟨t,h,q⟩:=hbody cdv A outer s H vs Q E hr hsp;exact⟨t,h.nox,q⟩
theorem Fun.binds{x:Str}{f:Addr}(F:Fun K x qual st f fd)
  (h:∀(kV doc pm:aa) (an:Option Addr) (cdv ct:aa) (us:List aa),us.length=ps.length->bindArgs (dq x qual (rY st) (ph st) (oP st) .none kV doc pm an cdv ct) ⟨us,[]⟩=pure (ps.zip us)):Binds K fd ps []:=by
 obtain⟨oc,od,kV,doc,pm,an,cdv,ct,osl,rfl,lk,hcd⟩:=F.ex;exact .all (h kV doc pm an cdv ct)
end
theorem DF{A:aH}{k:Nat}(hr:p8 k A):A.units+1<cLine:=jA (Nat.add_le_add_left (by decide:1<=64) _) hr.units
theorem xK{n:Nat}(h:n<=1000):n<sizeLine:=jA h (by decide)
section
variable{X:Cx}
theorem pv(i:Nat){x:Str}{pos:Pos}(hN:X.N[i]?=some x:=by rfl)(hv:Vis X.env.scope x:=by first|exact Or.inl rfl|exact Or.inr (Or.inl rfl)|exact Or.inr (Or.inr rfl))(hd:(x==("__debug__" : Str))=false:=by decide)
  (hcd:(x==("__classdict__" : Str))=false:=by decide):PE X (.Name x pos) (uM i):=Q5 hN hv hd hcd
end
variable{B:Prop}
theorem EH{A:Prop}(h:B):if false=true then A else B:=by rw[aj bq];exact h
theorem EI{A:Prop}(h:A):if true=true then A else B:=by rw[ai rfl];exact h
def oE(H H':Hp):Prop:=∀b o,H b=some o->H' b=some o
theorem oE.refl(H:Hp):oE H H:=λ_ _ h=>h
theorem oE.trans{H H1 H2:Hp}(a:oE H H1)(b:oE H1 H2):oE H H2:=λc o h=>b c o (a c o h)
theorem oE.seq{K:au}{H H':Hp}{xs:bt}(e:oE H H')(h:SqL K H a xs):SqL K H' a xs:=by
 rcases h with (h|⟨o,h⟩)|h
 ·exact .inl (.inl (e _ _ h))
 ·exact .inl (.inr ⟨o,e _ _ h⟩)
 ·exact .inr h
end L2
set_option maxHeartbeats 4000000
namespace L3
open PySem PySem.Spec PyProof.Rows L2
abbrev St:=L2.St
theorem BM{α β:Type}{f:α->β->Sem (ForInStep β)}{g:β->α->β}:∀(l:List α) (b:β),(∀x∈l,∀c,f x c=pure (ForInStep.yield (g c x)))->(forIn l b f:Sem β)=pure (l.foldl g b)
 |[],b,_=>by simp
 |x::r,b,h=>by rw[List.forIn_cons,h x aV b];show (forIn r (g b x) f:Sem β)=_;rw[BM r (g b x) λy hy c=>h y (bh _ hy) c];rfl
def wu(cells:List (Str×Addr))(cs:List (Str×Addr))(x:Str×c5):List (Str×Addr):=if (x.2==NameKind.free)=true then (x.1,(cells.lookup x.1).getD 0)::cs else cs
def tE(cells:List (Str×Addr))(names:List (Str×c5)):List (Str×Addr):=names.foldl (wu cells) []
variable{scope:cG}{env:Env}
theorem Dh(h:∀x∈scope.names,x.2=.free->∃c,env.cells.lookup x.1=some c):
  closureFor scope env=pure (tE env.cells scope.names):=by
 simp only[closureFor];rw[BM (g:=wu env.cells) scope.names [] λx hx c=>by
  obtain⟨n,k⟩:=x;by_cases hk:k=.free
  ·subst hk;obtain⟨a,e⟩:=h _ hx rfl;have e':env.cells.lookup n=some a:=e;simp only[wu,cellOf,e',beq_self_eq_true,if_true,mL];rfl
  ·have hb:(k==NameKind.free)=false:=by simpa using hk
   simp only[wu,hb,eD,if_false]]
 rfl
theorem FH{cells:List (Str×Addr)}:∀(names:List (Str×c5)) (acc:List (Str×Addr)),(∀x∈names,x.2=.free->∃c,cells.lookup x.1=some c)->(∀x c,acc.lookup x=some c->cells.lookup x=some c)->
  ∀x c,(names.foldl (wu cells) acc).lookup x=some c->cells.lookup x=some c
 |[],acc,_,ha,x,c,e=>ha x c e
 |y::r,acc,h,ha,x,c,e=>by
  refine FH r (wu cells acc y) (λz hz=>h z (bh _ hz)) (λz d ez=>?_) x c e;obtain⟨n,k⟩:=y;unfold wu at ez;split at ez
  ·rename_i hk;obtain⟨a,ea⟩:=h (n,k) aV (by simpa using hk);have ea':cells.lookup n=some a:=ea;rw[dD]at ez;cases hb:z==n with
   |true=>rw[hb]at ez;have ez':some ((cells.lookup n).getD 0)=some d:=ez;rw[ea']at ez';rw[eO hb,ea'];exact ez'
   |false=>rw[hb]at ez;exact ha z d ez
  ·exact ha z d ez
theorem DG{cells:List (Str×Addr)}:∀(names:List (Str×c5)) (acc:List (Str×Addr)) (x:Str),(∃c,acc.lookup x=some c)->∃c,(names.foldl (wu cells) acc).lookup x=some c
 |[],_,_,h=>h
 |y::r,acc,x,h=>by
  refine DG r (wu cells acc y) x ?_;unfold wu;split
  ·rw[dD];cases x==y.1 with
   |true=>exact⟨_,rfl⟩
   |false=>exact h
  ·exact h
theorem BN{cells:List (Str×Addr)}:∀(names:List (Str×c5)) (acc:List (Str×Addr)) (x:Str),(x,NameKind.free)∈names->∃c,(names.foldl (wu cells) acc).lookup x=some c
 |[],_,_,h=>by cases h
 |y::r,acc,x,h=>by
  rcases aN.mp h with e|h
  ·subst e;refine DG r _ x ?_;unfold wu;rw[ai (by simp),dD];simp
  ·exact BN r _ x h
theorem vF{env:Env}(x:Str):∀(names:List (Str×c5)),
  (names.map λ(n,k)=>if (k==NameKind.free&&env.scope.kind==.function&&env.kindOf n==some .cell)then (n,NameKind.cell)else (n,k)).lookup x=
   (names.lookup x).map λk=>if (k==NameKind.free&&env.scope.kind==.function&&env.kindOf x==some .cell)=true then NameKind.cell else k
 |[]=>rfl
 |(n,k)::r=>by
  have ih:=vF (env:=env) x r;rw[ay,dD (k:=n)];show cP x ((if (k==NameKind.free&&env.scope.kind==.function&&env.kindOf n==some .cell)=true then (n,NameKind.cell)else (n,k))::_)=_;cases hx:x==n with
  |true=>
   have e:=eO hx;subst e;split
   ·rename_i hc;simp only[dD,hx,eG,hc,if_true]
   ·rename_i hc;simp only[dD,hx,eG];rw[aj hc]
  |false=>
   rw[<-ih];split
   ·simp only[dD,hx]
   ·simp only[dD,hx]
theorem Hk{x:Str}(hcell:∀y∈scope.names,y.2≠.cell)(h:(relabel scope env).names.lookup x=some .cell\/(relabel scope env).names.lookup x=some .free):(x,NameKind.free)∈scope.names:=by
 have e:=vF (env:=env) x scope.names;have h':(scope.names.lookup x).map (λk=>if (k==NameKind.free&&env.scope.kind==.function&&env.kindOf x==some .cell)=true then NameKind.cell else k)=some .cell\/
   (scope.names.lookup x).map (λk=>if (k==NameKind.free&&env.scope.kind==.function&&env.kindOf x==some .cell)=true then NameKind.cell else k)=some .free:=by
  rw[<-e];exact h
 cases q:scope.names.lookup x with
 |none=>rw[q]at h';rcases h' with z|z<;>cases z
 |some k=>
  rw[q]at h';have hm:=mem_of_lookup q;have hc:=hcell _ hm;cases k with
  |free=>exact hm
  |cell=>exact aq rfl hc
  |_=>rcases h' with z|z<;>cases z
theorem Di{x:Str}(h:scope.names.lookup x=some .free):(relabel scope env).names.lookup x=some .cell\/(relabel scope env).names.lookup x=some .free:=by
 have e:=vF (env:=env) x scope.names;have e':(relabel scope env).names.lookup x=(scope.names.lookup x).map λk=>if (k==NameKind.free&&env.scope.kind==.function&&env.kindOf x==some .cell)=true then NameKind.cell else k:=e
 rw[e',h,eG];split
 ·exact .inl rfl
 ·exact .inr rfl
def p9(X:Cx)(N':aC)(scope:cG)(cl:List (Str×Addr))(C:Addr)(fp:List Addr)(s:af)(H:Hp):Cx:=
 { X with N:=N',s₀:=s,H₀:=H,env:=compEnvC scope cl C X.env,outer:=X.stack,ex:=fp,fn:=λ_=>false,pn:=[],xe:=λ_ _=>False }
def PIf(X:Cx)(ifs:List Expr)(t:TT):Prop:=
 ∀(pins:cn) (s:af) (σ:St) (H:Hp) (Q:Bool->Hp->Prop),Inv X pins σ H s->t σ H Q->
  wpAny (model X.prog X.w) X.A (forIn ifs true λc r=>if r=true then do let ok<-isTrue c X.env (eval c X.env);pure (ForInStep.yield ok)else pure (ForInStep.yield r)) (TP X pins σ Q) X.xe s
def Xm:TT:=λ_ H Q=>Q true H
variable{X:Cx}
theorem OC:PIf X [] Xm:=λ_ _ _ H _ I h=>wpAny_tests_nil ⟨H,I,h⟩
theorem OD{c:Expr}{t:TT}(h:PT X c t):PIf X [c] t:=λpins s σ H Q I hq=>wpAny_tests_one (h pins s σ H Q I hq)
variable{elt iter:Expr}{ifs:List Expr}{pos:Pos}
section
variable{prog:aE}{w:az}{A:aH}{R:dQ->af->Prop}{s:af}
theorem EJ{target:Expr}{it acc:aa}(J:Nat->af->Prop)
  (turn:∀n s,J n s->wpAny (model prog w) A (pyNext it) (λr s₁=>match r with
   |none=>R (.ok .next) s₁
   |some v=>wpAny (model prog w) A (letOwnedTupleGo target it v) (λ_ s₁'=>wpAny (model prog w) A (assign target env v) (λ_ s₂=>
     wpAny (model prog w) A (forIn ifs true λc r=>if r=true then do let ok<-isTrue c env (eval c env);pure (ForInStep.yield ok)else pure (ForInStep.yield r)) (λok s₃=>
      if ok=true then wpAny (model prog w) A (eval elt env) (λx s₄=>
       wpAny (model prog w) A (call (.builtin "list.append") [acc,x]) (λ_ s₅=>∃m,m<n/\J m s₅) (notedBy (model prog w) A env λe s'=>R (.error e) s') s₄) (notedBy (model prog w) A env λe s'=>R (.error e) s') s₃
      else ∃m,m<n/\J m s₃) (notedBy (model prog w) A env λe s'=>R (.error e) s') s₂) (notedBy (model prog w) A env λe s'=>R (.error e) s') s₁')
      (notedBy (model prog w) A env λe s'=>R (.error e) s') s₁) (notedBy (model prog w) A env λe s'=>R (.error e) s') s)
  (n:Nat) (h:J n s):
  codeAny (model prog w) A (.compLoop (.ListComp elt [⟨target,iter,ifs,0⟩] scope pos) 0 it acc env) R s:=by
 refine codeAny_loop rfl J (λn s hI=>?_) n h;show wpAny _ A ((compTurn (.ListComp elt [⟨target,iter,ifs,0⟩] scope pos) 0 it acc env).onRaise (λx=>do noteFrame x env;theTreesLotGoes x)) _ _ s;refine wpAny_noted ?_;rw[compTurn_list];refine ao (wpAny_standAt (ao (bT (turn n s hI) (λr s₁ h₁=>?_) λ_ _ h'=>h')));cases r with
 |none=>exact aB h₁
 |some v=>
  refine ao (bT h₁ (λ_ s₁' h₁'=>?_) λ_ _ h'=>h');refine ao (bT h₁' (λ_ s₂ h₂=>ao (bT h₂ (λok s₃ h₃=>?_) λ_ _ h'=>h')) λ_ _ h'=>h');cases ok with
  |false=>exact aB ⟨rfl,h₃⟩
  |true=>exact ao (ao (bT h₃ (λx s₄ h₄=>ao (bT h₄ (λ_ s₅ h₅=>aB (aB ⟨rfl,h₅⟩)) λ_ _ h'=>h')) λ_ _ h'=>h'))
end
def rZ(k:Nat)(cap:List Nat)(σ:St):St:=dH k none++cap.map λj=>(σ[j]?).join
variable{σ:St}{i:Nat}
theorem DH{k:Nat}{cap:List Nat}{v:V}(h:(rZ k cap σ)[i]?=some (some v)):k<=i:=by
 by_cases hi:k<=i
 ·exact hi
 ·unfold rZ at h;rw[cJ (by rw[cb];omega),eZ]at h;split at h<;>cases h
variable{N N':aC}
theorem J4{k:Nat}{cap:List Nat}{v:V}{x:Str}(hcap:(N'.drop k).map some=cap.map λj=>N[j]?)(hx:N'[i]?=some x)(h:(rZ k cap σ)[i]?=some (some v)):
  ∃j:Nat,N[j]?=some x/\σ[j]?=some (some v)/\x∈N'.drop k:=by
 have hi:=DH h;unfold rZ at h;rw[cA (by rw[cb];exact hi),cb,bu]at h;have hd:(N'.drop k)[i - k]?=some x:=by rw[cU,show k+(i - k)=i by omega];exact hx
 have e:=aS (λl=>l[i - k]?) hcap;simp only[bu,hd,eG]at e;cases q:cap[i - k]? with
 |none=>rw[q]at h;cases h
 |some j=>
  rw[q]at h e;simp only[eG,Option.some.injEq]at h e;refine⟨j,e.symm,?_,cB hd⟩;cases z:σ[j]? with
  |none=>rw[z]at h;cases h
  |some o=>rw[z]at h;have h':o=some v:=h;rw[h']
def BO(wi:TI)(g:TG)(tt:TT)(te:TE)(k:Nat)(cap:List Nat):TE:=λσ H Q=>wi σ H λJ H1=>∀p,H1 p=none->
 ∃W:Nat->Nat->bt->Hp->Prop,(∃m,W 0 m [] (upd H1 p (.lst [])))/\∀i m acc H2,W i m acc H2->
  (J.stop i H2/\Q (.ref p) H2)\/
   (J.go i H2/\∀x H3,J.yld i H2 x H3->g x (rZ k cap σ) H3 λσ4 H4=>σ4.drop k=(rZ k cap σ).drop k/\tt σ4 H4 λb H5=>
    if b=true then te σ4 H5 λy H6=>∃acc',H6 p=some (.lst acc')/\acc'.length<sizeLine/\∃m',m'<m/\W (i+1) m' (acc'++[y]) (upd H6 p (.lst (acc'++[y])))
    else ∃m',m'<m/\W (i+1) m' acc H5)
variable{tg:Expr}{wi:TI}{tt:TT}{te:TE}
theorem DI{pins:cn}{s:af}{H:Hp}{use:Option (aa->Sem Unit)}{P:aa->af->Prop}{Q:V->Hp->Prop}{k:Nat}{cap:List Nat}{g:TG}
  (hc:X.calm=true) (hi:PI X tg iter wi)
  (body:∀(cl:List (Str×Addr)) (C:Addr) (fp:List Addr) (s:af) (H:Hp),PG (p9 X N' scope cl C fp s H) tg g/\PIf (p9 X N' scope cl C fp s H) ifs tt/\PE (p9 X N' scope cl C fp s H) elt te)
  (hkind:scope.kind=.function) (hcell:(scope.names.all λy=>y.2 != .cell)=true)
  (hloc:(scope.names.all λy=>y.2 != .local||scope.names.lookup y.1==some .local)=true)
  (hfree:(scope.names.all λy=>y.2 != .free||(X.env.kindOf y.1==some .cell||X.env.kindOf y.1==some .free))=true)
  (hlen:N'.length=k+cap.length) (hcap:(N'.drop k).map some=cap.map λj=>X.N[j]?)
  (hcf:((N'.drop k).all λx=>scope.names.lookup x==some .free)=true)
  (hs:∀x,foldedSetIterable iter X.env x=pure x)
  (I:Inv X pins σ H s) (h:BO wi g tt te k cap σ H Q)
  (fin:∀a C m u s4 H3,s4.heap.Ns C m->Inv X pins σ H3 s4->Dd X pins H3 C->Q (.ref a) H3->compPost (model X.prog X.w) X.A X.xe use P (.ref a) C (.ok u) s4):
  wpAny (model X.prog X.w) X.A (comprehension (.ListComp elt [⟨tg,iter,ifs,0⟩] scope pos) scope X.env (firstIterPos [⟨tg,iter,ifs,0⟩] pos) (newList []) false (eval iter X.env) use) P X.xe s:=by
 have hcell':∀y∈scope.names,y.2≠.cell:=λy hy e=>by have z:=bD.mp hcell y hy;rw[e]at z;exact aq z (by decide)
 have hloc':∀y∈scope.names,y.2=.local->scope.names.lookup y.1=some .local:=λy hy e=>by have z:=bD.mp hloc y hy;rw[e]at z;simpa using z
 have hfree':∀y∈scope.names,y.2=.free->X.env.kindOf y.1=some .cell\/X.env.kindOf y.1=some .free:=λy hy e=>by have z:=bD.mp hfree y hy;rw[e]at z;simpa using z
 have hcl:∀y∈scope.names,y.2=.free->∃c,X.env.cells.lookup y.1=some c:=λy hy e=>I.ok.has y.1 (hfree' y hy e);refine wpAny_comprehension_free rfl hs (Dh hcl) hkind hloc' (thn (hi pins s σ H _ I h) λxv s₁ h₁=>thn h₁ λit s₂ h₂=>?_);obtain⟨ita,fp,tn,J,H2,e,I2,T,st2,f2,R2⟩:=h₂;subst e;obtain⟨W,⟨m0,w0⟩,turn⟩:=R2 s₂.heap.objs.size (I2.hok.fresh (aI _));refine fi (wpAny_newFunctionEnv hcell' (by intro y hy;simp at hy) (λh₁ hns₁ hsb₁=>?_) hkind);dsimp only at hns₁ hsb₁ ⊢;generalize hp:s₂.heap.push { cls:=.type "list", dict:=none,data:=.seq ([]:List aa).toArray }=hpL at hns₁ hsb₁ ⊢;have hsz:hpL.objs.size=s₂.heap.objs.size+1:=by rw[<-hp,de]
 have I3:Inv X pins σ (upd H2 s₂.heap.objs.size (.lst [])) { s₂ with heap:=hpL }:=by rw[<-hp];exact I2.laid (t':=s₂.toks) (λb u e=>aM _ e) (aI _) ⟨cf _,[],0,.nil,bz _ rfl⟩
 have old:∀b o,hpL.get? b=some o->h₁.get? b=some o:=λb o e=>hsb₁.extBut b o (aT (aO e)) (aM _ e);have older:∀b o,s₂.heap.get? b=some o->hpL.get? b=some o:=λb o e=>by rw[<-hp];exact aM _ e
 have hfpS:∀b∈fp,b<s₂.heap.objs.size:=λb hb=>let ⟨o,e,_⟩:=T.obj _ _ st2 b hb;aO e;have sub:∀x c,(tE X.env.cells scope.names).lookup x=some c->X.env.cells.lookup x=some c:=FH scope.names [] hcl (λx c e=>by cases e);have ok':(p9 X N' scope (tE X.env.cells scope.names) hpL.objs.size fp { s₂ with heap:=hpL } (upd H2 s₂.heap.objs.size (.lst []))).Ok:={
  mod:=I3.ok.mod
  kind:=hkind
  glob:=I3.ok.glob
  blt:=I3.ok.blt
  above:=aI _
  inj:=λx y c h1 h2=>I3.ok.inj x y c (sub x c h1) (sub y c h2)
  has:=λx hx=>BN scope.names [] x (Hk hcell' hx)
  cab:=λx c hf _=>aq (show false=true from hf) bq
  hd:=I3.ok.hd
  frames:=I3.ok.frames
  stk:=.inl rfl
  exf:=λb hb=>⟨(by
   show b≠hpL.objs.size;rw[hsz];exact aT (cW (hfpS b hb))),λx c e=>(f2 b hb).2.2.2.2.1 x c (sub x c e)⟩
  bs:=I3.bs
  bsz:=bI I3.ok.bsz I3.sz
  noex:=λb o e hb=>by
   rcases(f2 b hb).2.2.2.1 with z|z
   ·exact I3.ok.noex b o e z
   ·exact aq (bW (aO e) (bI I3.ok.bsz z)) (df _)
  exfs:=λb hb z=>(aN.mp (I3.stkSub b z)).elim (f2 b hb).2.1 (f2 b hb).2.2.1
  funs:=I3.stack
  frf:=I3.stkFree }
 have IX:Inv (p9 X N' scope (tE X.env.cells scope.names) hpL.objs.size fp { s₂ with heap:=hpL } (upd H2 s₂.heap.objs.size (.lst []))) [] (rZ k cap σ) (upd H2 s₂.heap.objs.size (.lst []))
   { s₂ with heap:=h₁,toks:=s₂.toks+([]:List (Str×aa)).length }:={
  ok:=ok'
  os:=rfl
  bare:=I3.bare
  base:=Un.kept old
  loc:=⟨_,hns₁,λi x v e1 e2 _=>by
   obtain⟨j,hj,hσ,hm⟩:=J4 hcap e1 e2;have hx:scope.names.lookup x=some .free:=by simpa using bD.mp hcf x hm
   have hk:=hfree' (x,.free) (mem_of_lookup hx) rfl;obtain⟨m,hn,hl⟩:=I3.loc;obtain⟨u,r,lk⟩:=hl j x v hj hσ (hk.elim (λz=>.inr (.inl z)) λz=>.inr (.inr z));refine⟨u,r,.inr ⟨Di hx,?_⟩⟩;rcases lk with ⟨z,_⟩|⟨_,c,e,o,ho,hd⟩
   ·rcases hk with y|y
    ·rw[y]at z;cases z
    ·rw[y]at z;cases z
   ·obtain⟨c',e'⟩:=BN (cells:=X.env.cells) scope.names [] x (mem_of_lookup hx);have ec:=sub x c' e';rw[e]at ec;have ec':c=c':=cc ec;subst ec';exact⟨c,e',o,old _ _ ho,hd⟩⟩
  cell:=λx c e=>by obtain⟨v,o,ho,hd⟩:=I3.cell x c (sub x c e);exact⟨v,o,old _ _ ho,hd⟩
  free:=I3.hok.fresh (aI _)
  freeC:=λx c e=>I3.freeC x c (sub x c e)
  pin:=λp hp=>aq (show p∈([]:cn) from hp) (by simp)
  hok:=I3.hok.kept old
  len:=by
   show (rZ k cap σ).length=N'.length;rw[hlen];unfold rZ;rw[aD,cb,ah] }
 have stat:∀{H':Hp},(∀b∈fp,H' b=none)->∀b∈fp,Dd (p9 X N' scope (tE X.env.cells scope.names) hpL.objs.size fp { s₂ with heap:=hpL } (upd H2 s₂.heap.objs.size (.lst []))) [] H' b:=λhn b hb=>⟨hn b hb,(ok'.exf b hb).1,ok'.exfs b hb,.inl hb,(ok'.exf b hb).2,λp hp=>aq (show p∈([]:cn) from hp) (by simp)⟩
 have st4:tn 0 h₁:=T.keep _ _ _ st2 λb _ o e=>old b o (older b o e);have loop:codeAny (model X.prog X.w) X.A (.compLoop (.ListComp elt [⟨tg,iter,ifs,0⟩] scope pos) 0 (.ref ita) (.ref s₂.heap.objs.size) (compEnvC scope (tE X.env.cells scope.names) hpL.objs.size X.env))
   (compPost (model X.prog X.w) X.A X.xe use P (.ref s₂.heap.objs.size) hpL.objs.size) { s₂ with heap:=h₁,toks:=s₂.toks+([]:List (Str×aa)).length }:=by
  refine EJ (λn s'=>∃i acc H',Inv (p9 X N' scope (tE X.env.cells scope.names) hpL.objs.size fp { s₂ with heap:=hpL } (upd H2 s₂.heap.objs.size (.lst []))) [] (rZ k cap σ) H' s'/\tn i s'.heap/\(∀b∈fp,H' b=none)/\W i n acc H')
   ?_ m0 ⟨0,[],_,IX,st4,λb hb=>?_,w0⟩
  ·rintro n s3 ⟨i,acc,H3,I4,st3,fr3,w3⟩;rcases turn i n acc H3 w3 with ⟨stop,qn⟩|⟨go,step⟩
   ·refine thn (T.done (p9 X N' scope (tE X.env.cells scope.names) hpL.objs.size fp { s₂ with heap:=hpL } (upd H2 s₂.heap.objs.size (.lst []))) rfl rfl rfl hc i [] s3 _ H3 _ I4 (stat fr3) st3 stop) λr s4 ⟨hr,I5⟩=>?_;subst hr;obtain⟨m,hn,_⟩:=id I5.loc;have U:=I5.base;refine fin _ _ m _ _ _ hn (I3.call' (s':=s4) (ch:=fp) I5.os ⟨λb o e n hb hx=>U.keep b o e n hb hx,λb o e n hb hx=>U.slot b o e n hb hx,U.free,λb o e hx=>U.there b o e hx,U.tups,U.frzs,U.tbls⟩ I5.hok I5.bare
     λb hb=>⟨(f2 b hb).2.2.2.1,(f2 b hb).2.1,(f2 b hb).2.2.2.2.1,(f2 b hb).2.2.2.2.2⟩) (I3.fpOk (aI _) I5.free) qn
   ·refine thn (T.item (p9 X N' scope (tE X.env.cells scope.names) hpL.objs.size fp { s₂ with heap:=hpL } (upd H2 s₂.heap.objs.size (.lst []))) rfl rfl rfl hc i [] s3 _ H3 _ I4 (stat fr3) st3 go) λr s4 ⟨u,hr,h4⟩=>?_;subst hr;refine thn h4 λ_ s5 ⟨x,H5,I5,r5,y5,st5,fr5⟩=>?_;have I5':=I5.pinned (stat fr5) (T.obj _ _ st5);have again:∀{H8:Hp} {s8:af} {σ8:St} {acc8:bt} {m':Nat},Inv (p9 X N' scope (tE X.env.cells scope.names) hpL.objs.size fp { s₂ with heap:=hpL } (upd H2 s₂.heap.objs.size (.lst []))) ([]++By fp s5.heap) σ8 H8 s8->σ8.drop k=(rZ k cap σ).drop k->m'<n->W (i+1) m' acc8 H8->
      ∃m,m<n/\∃i acc H',Inv (p9 X N' scope (tE X.env.cells scope.names) hpL.objs.size fp { s₂ with heap:=hpL } (upd H2 s₂.heap.objs.size (.lst []))) [] (rZ k cap σ) H' s8/\tn i s8.heap/\(∀b∈fp,H' b=none)/\W i m acc H':=λ{H8 s8 σ8 acc8 m'} I8 hd8 hm8 w8=>by
     refine⟨m',hm8,i+1,acc8,H8,I8.unpinned.weak (IX.len.trans I8.len.symm) (λj v e=>?_),T.keep _ _ _ st5 λb hb o e=>(I8.pin (b,o) (bL _ (bL _ (uc hb e)))).1,λb hb=>?_,w8⟩
     ·have hj:=DH e;have q:(σ8.drop k)[j - k]?=((rZ k cap σ).drop k)[j - k]?:=by rw[hd8]
      rw[cU,cU,show k+(j - k)=j by omega]at q;rw[q];exact e
     ·obtain⟨o,e,d⟩:=T.obj _ _ st5 b hb;exact(I8.pin (b,o) (bL _ (bL _ (uc hb e)))).2.1
    refine bT ((body _ _ _ _ _).1 _ s5 _ H5 x u _ I5' r5 (step x H5 y5)) (λ_ s6 h6=>?_) λ_ _ f=>f.elim;obtain⟨σ6,H6,I6,hd6,q6⟩:=h6;refine bT ((body _ _ _ _ _).2.1 _ s6 σ6 H6 _ I6 q6) (λb s7 h7=>?_) λ_ _ f=>f.elim;obtain⟨H7,I7,q7⟩:=h7;cases b with
    |false=>rw[aj bq]at q7;rw[aj bq];obtain⟨m',hm',w7⟩:=q7;exact again I7 hd6 hm' w7
    |true=>rw[ai rfl]at q7;rw[ai rfl];refine bT ((body _ _ _ _ _).2.2 _ s7 σ6 H7 _ I7 q7) (λyv s8 h8=>?_) λ_ _ f=>f.elim;obtain⟨y,H8,I8,r8,acc',hp8,hl8,m',hm',w8⟩:=h8;refine bT (zQ (X:=p9 X N' scope (tE X.env.cells scope.names) hpL.objs.size fp { s₂ with heap:=hpL } (upd H2 s₂.heap.objs.size (.lst []))) _ s8 σ6 H8 (.ref s₂.heap.objs.size) [y] (.ref s₂.heap.objs.size) [yv] (λ_ Hx=>Hx=upd H8 s₂.heap.objs.size (.lst (acc'++[y]))) I8 rfl (.cons r8 .nil) ⟨_,acc',y,rfl,rfl,hp8,hl8,rfl⟩) (λ_ s9 h9=>?_) λ_ _ f=>f.elim;obtain⟨_,H9,I9,_,e9⟩:=h9;subst e9;exact again I9 hd6 hm' w8
  ·have z:b≠s₂.heap.objs.size:=aT (hfpS b hb);rw[oB z];exact(f2 b hb).1
 exact codeAny_compStart_list loop (T.self _ 0 _ _ _ st4 loop)
theorem OE{k:Nat}{cap:List Nat}{g:TG}
  (hc:X.calm=true) (hi:PI X tg iter wi)
  (body:∀(cl:List (Str×Addr)) (C:Addr) (fp:List Addr) (s:af) (H:Hp),PG (p9 X N' scope cl C fp s H) tg g/\PIf (p9 X N' scope cl C fp s H) ifs tt/\PE (p9 X N' scope cl C fp s H) elt te)
  (hkind:scope.kind=.function:=by rfl) (hcell:(scope.names.all λy=>y.2 != .cell)=true:=by rfl)
  (hloc:(scope.names.all λy=>y.2 != .local||scope.names.lookup y.1==some .local)=true:=by rfl)
  (hfree:(scope.names.all λy=>y.2 != .free||(X.env.kindOf y.1==some .cell||X.env.kindOf y.1==some .free))=true:=by rfl)
  (hlen:N'.length=k+cap.length:=by rfl) (hcap:(N'.drop k).map some=cap.map λj=>X.N[j]?:=by rfl)
  (hcf:((N'.drop k).all λx=>scope.names.lookup x==some .free)=true:=by rfl)
  (hs:∀x,foldedSetIterable iter X.env x=pure x:=by intro _;rfl):
  PE X (.ListComp elt [⟨tg,iter,ifs,0⟩] scope pos) (BO wi g tt te k cap):=by
 intro pins s σ H Q I h;exact DI hc hi body hkind hcell hloc hfree hlen hcap hcf hs I h λa C m u s4 H3 hn back fpC qn=>⟨m,hn,λh' hs'=>⟨.ref a,H3,back.turned (t':=s4.toks) (λb o hb e=>(hs'.2 b hb).trans e) fpC.1 fpC.2.1 fpC.2.2.2.1 fpC.2.2.2.2.1 fpC.2.2.2.2.2,rfl,qn⟩⟩
def Its(x:Str):It:=⟨λi _=>i<x.cps.size,λi H v H'=>H'=H/\∃c,x.cps[i]?=some c/\v=.str ⟨#[c]⟩,λi _=>i=x.cps.size⟩
theorem RX{M:Model}{A:aH}{E:aa->af->Prop}{s:af}{it:Addr}{c:Str}{t:Tok}{Q:Unit->af->Prop}(hQ:Q () s):wpAny M A (letOwnedTupleGo tg (.ref it) (.str c t)) Q E s:=by unfold letOwnedTupleGo;cases tg<;>exact aB hQ
theorem FI{P:aE}{w:az}{K:au}(it:Addr)(ty:String)(x:Str)(t:Tok)
  (hW:∀A:aH,A.handled=none->Walks P w A it [it] [it] x.cps.size (SignAt x) (λi h=>h.IsStrIter it ty x t i))
  (hS:∀(A:aH) (i:Nat) (s:af) (Q:aa->af->Prop) (E:aa->af->Prop),s.heap.IsStrIter it ty x t i->Q (.ref it) s->wpAny (model P w) A (pyIter (.ref it)) Q E s):
  Turn P w K tg (Its x) [it] it (λi h=>h.IsStrIter it ty x t i) where
 mem:=by simp
 obj:=λi h st b hb=>by
  have e:b=it:=by simpa using hb
  subst e;obtain⟨o,e,c,d⟩:=st;exact⟨o,e,λv z=>by rw[d]at z;cases z⟩
 keep:=λi h h' st k=>by obtain⟨o,e,r⟩:=st;exact⟨o,k it (by simp) o e,r⟩
 item:=by intro X hP hw hK hc i pins s σ H E I hf st hg;subst hP hw hK;obtain⟨f0,f1,f2,f3,f4,f5⟩:=hf it (by simp);refine(hW _ (I.ok.hd hc)).item i s _ _ hg st λv h' tk hv st' kk=>?_;obtain⟨c,t',hc',rfl⟩:=hv;have I1:Inv X pins σ H { s with heap:=h',toks:=tk }:=I.turned (λb o hb e=>kk b o (by simpa using hb) e) f0 f1 f3 f4 f5;exact⟨_,rfl,RX ⟨.str ⟨#[c]⟩,H,I1,⟨t',rfl⟩,⟨rfl,c,hc',rfl⟩,st',λb hb=>(hf b hb).1⟩⟩
 done:=by intro X hP hw hK hc i pins s σ H E I hf st hg;subst hP hw hK;obtain⟨f0,f1,f2,f3,f4,f5⟩:=hf it (by simp);have hg':i=x.cps.size:=hg;subst hg';exact(hW _ (I.ok.hd hc)).done s _ _ st λh' tk kk=>⟨rfl,I.turned (λb o hb e=>kk b o (by simpa using hb) e) f0 f1 f3 f4 f5⟩
 self:=hS
variable{tl:TE}
section
variable{X:Cx}{tg:Expr}
def V3(tl:TE):TI:=λσ H R=>tl σ H λv H1=>∃x,v=.str x/\R (Its x) H1
theorem RY{l:Expr}(hl:PE X l tl):PI X tg l (V3 tl):=by
 intro pins s σ H R I h;refine thn (hl pins s σ H _ I h) λv s1 ⟨x,H1,I1,r1,q1⟩=>?_;obtain⟨z,e,q⟩:=q1;subst e;obtain⟨t,rfl⟩:=r1;have fp:∀b∈[s1.heap.objs.size],Dd X pins H1 b:=λb hb=>by
  have e:b=s1.heap.objs.size:=by simpa using hb
  subst e;exact I1.fpOk (aI _) (I1.hok.fresh (aI _))
 cases ha:z.cps.all (· < 128)
 ·refine wpAny_pyIter_wide ha ⟨s1.heap.objs.size,[s1.heap.objs.size],_,_,H1,rfl,I1.kept (t':=s1.toks) λb o e=>aM _ e,FI _ "str_iterator" z t (λA hA=>Walks.strWide hA _ z t) (λA i s Q E st hQ=>wpAny_pyIter_striter_wide st hQ),⟨_,bz _ rfl,rfl,rfl⟩,fp,q⟩
 ·refine wpAny_pyIter_ascii ha ⟨s1.heap.objs.size,[s1.heap.objs.size],_,_,H1,rfl,I1.kept (t':=s1.toks) λb o e=>aM _ e,FI _ "str_ascii_iterator" z t (λA hA=>Walks.strAscii hA _ z t) (λA i s Q E st hQ=>wpAny_pyIter_striter_ascii st hQ),⟨_,bz _ rfl,rfl,rfl⟩,fp,q⟩
end
section
variable{X:Cx}
theorem J5:OpR X (compareOp .LtE) (λx y H Q=>∃i j,x=.str i/\y=.str j/\Q (.bl (!decide (j.cps.toList<i.cps.toList))) H):=by intro pins s σ H x y v u Q I rx ry h;obtain⟨i,j,rfl,rfl,q⟩:=h;obtain⟨t,rfl⟩:=rx;obtain⟨t',rfl⟩:=ry;exact PySem.P.le_str (px I q rfl)
theorem LC(hc:X.calm=true):p6 X (.builtin "all") (λxs H Q=>∃(p:Addr) (bs:List Bool),xs=[.ref p]/\SqL X.K H p (bs.map V.bl)/\Q (.bl (bs.all id)) H):=by
 intro pins s σ H xs us Q I r h;obtain⟨p,bs,rfl,hq,q⟩:=h;obtain⟨u,rfl,ru⟩:=vals1 r;cases ru;obtain⟨its,rv,pl,hz⟩:=I.list hq;have hlt:p<s.heap.objs.size:=by obtain⟨o,ho,_⟩:=pl.isList;exact aO ho
 have hl:bs.length=its.length:=by have:=rv.length;rw[ah]at this;exact this
 refine call_all_walk (fW pl.isList ⟨s.heap.objs.size,_,_,_,_,_,λi=>(bs[i]?).getD true,rfl,iK (show X.A.in1.handled=none from I.ok.hd hc) _ p (aT hlt) its.toArray,⟨⟨_,bz _ rfl,rfl,rfl⟩,?_⟩,?_,λh' tk hk=>?_⟩)
 ·exact pl.isList.at λo e=>aM _ e
 ·intro i v s' Q' E' hv hQ';have hv':its[i]?=some v:=by simpa using hv
  have hi:i<its.length:=(bQ.mp hv').1;have hb:(bs.map V.bl)[i]?=some (.bl (bs[i]'(by omega))):=by simp[show i<bs.length by omega]
  obtain⟨u,hu,ru⟩:=rv.get hb;rw[hv']at hu;cases hu;cases ru;refine cN ?_;have e:(bs[i]?).getD true=bs[i]'(by omega):=by simp[show i<bs.length by omega]
  rw[<-e];exact hQ'
 ·refine⟨.bl (bs.all id),H,?_,?_,q⟩
  ·exact I.kept (t':=tk) λb o e=>hk b o (by simp;exact aT (aO e)) (aM _ e)
  ·show Value.bool _=Value.bool _;congr 1;rw[ba,<- hl];rw[cD];simp only[bD,cv,id];constructor
   ·intro hh b hb;obtain⟨i,hi,rfl⟩:=jo.mp hb;have:=hh i hi;simpa [hi]using this
   ·intro hh i hi;simp only[aP hi,mL];exact hh _ (dA hi)
end
inductive Dq where
 |non|bl (b:Bool)|int (i:Int)|str (x:Str)|tup (ds:List Dq)|lst (ds:List Dq)
mutual
def Rep(K:au)(H:Hp):Dq->V->Prop
 |.non,v=>v=.non
 |.bl b,v=>v=.bl b
 |.int i,v=>v=.int i
 |.str x,v=>v=.str x
 |.tup ds,v=>∃a xs,v=.ref a/\SqT K H a xs/\oq K H ds xs
 |.lst ds,v=>∃a xs,v=.ref a/\SqL K H a xs/\oq K H ds xs
def oq(K:au)(H:Hp):List Dq->bt->Prop
 |[],xs=>xs=[]
 |d::ds,xs=>∃v r,xs=v::r/\Rep K H d v/\oq K H ds r
end
mutual
def eqD:Dq->Dq->Bool
 |.non,.non=>true
 |.bl a,.bl b=>a==b
 |.bl a,.int b=>(if a then 1 else 0)==b
 |.int a,.bl b=>a==(if b then 1 else 0)
 |.int a,.int b=>a==b
 |.str a,.str b=>a==b
 |.tup a,.tup b=>tG a b
 |.lst a,.lst b=>tG a b
 |_,_=>false
def tG:List Dq->List Dq->Bool
 |[],[]=>true
 |a::r,b::q=>eqD a b&&tG r q
 |_,_=>false
end
mutual
def dpt:Dq->Nat
 |.tup ds=>qu ds+1
 |.lst ds=>qu ds+1
 |_=>0
def qu:List Dq->Nat
 |[]=>0
 |d::r=>max (dpt d) (qu r)
end
mutual
theorem BP:∀d:Dq,eqD d d=true
 |.non=>by unfold eqD;rfl
 |.bl b=>by unfold eqD;simp
 |.int i=>by unfold eqD;simp
 |.str x=>by unfold eqD;simp
 |.tup ds=>by unfold eqD;exact zS ds
 |.lst ds=>by unfold eqD;exact zS ds
theorem zS:∀ds:List Dq,tG ds ds=true
 |[]=>by unfold tG;rfl
 |d::r=>by unfold tG;rw[BP d,zS r];rfl
end
theorem ou{K:au}{H:Hp}:∀{ds:List Dq} {xs:bt},oq K H ds xs->ds.length=xs.length
 |[],xs,h=>by unfold oq at h;subst h;rfl
 |d::ds,xs,h=>by unfold oq at h;obtain⟨v,r,rfl,_,h2⟩:=h;rw[aK,aK,ou h2]
def eAt(ds ds':List Dq)(j:Nat):Bool:=match ds[j]?,ds'[j]? with
 |some a,some b=>eqD a b
 |_,_=>true
theorem BQ:∀(ds ds':List Dq),tG ds ds'=true ↔ ds.length=ds'.length/\∀j,j<ds.length->eAt ds ds' j=true
 |[],[]=>by simp[tG]
 |[],b::q=>by simp[tG]
 |a::r,[]=>by simp[tG]
 |a::r,b::q=>by
  have ih:=BQ r q;unfold tG;rw[bf,ih,aK,aK];constructor
  ·rintro⟨h1,h2,h3⟩;refine⟨by omega,λj hj=>?_⟩;cases j with
   |zero=>exact h1
   |succ j=>exact h3 j (by omega)
  ·rintro⟨h1,h2⟩;exact⟨h2 0 (by omega),by omega,λj hj=>h2 (j+1) (by omega)⟩
variable{ds ds':List Dq}
theorem vG{n m:Nat}(hn:ds.length=n)(hm:ds'.length=m):((bC (min n m)).all (eAt ds ds')&&n==m)=tG ds ds':=by
 rw[cD,BQ,bf,bD];subst hn hm;constructor
 ·rintro⟨h1,h2⟩;have e:ds.length=ds'.length:=by simpa using h2
  exact⟨e,λj hj=>h1 j (cv.mpr (by omega))⟩
 ·rintro⟨e,h⟩;exact⟨λj hj=>h j (by have:=cv.mp hj;omega),by simpa using e⟩
theorem wQ{n:Nat}(hn:ds.length=n)(hm:ds'.length=n):(bC n).all (eAt ds ds')=tG ds ds':=by rw[<-vG hn hm];simp
theorem BR(h:ds.length≠ds'.length):tG ds ds'=false:=by
 cases e:tG ds ds' with
 |false=>rfl
 |true=>exact aq ((BQ ds ds').mp e).1 h
section
variable{X:Cx}{pins:cn}{σ:St}{H:Hp}{s:af}
theorem QM(I:Inv X pins σ H s){a:Addr}{xs ys:bt}(h:SqL X.K H a xs)(h':SqT X.K H a ys):False:=by obtain⟨its,_,p,_⟩:=I.list h;obtain⟨its',_,p',_⟩:=I.tuple h';exact SeqAt.ne_of_list_tuple p.isList (show s.heap.IsTuple a its'.toArray from p') rfl
mutual
theorem BS(I:Inv X pins σ H s):∀(d d':Dq) (v:V),Rep X.K H d v->Rep X.K H d' v->eqD d d'=true
 |.non,d',v,h,h'=>by unfold Rep at h;subst h;cases d'<;>unfold Rep at h'<;>first|rfl|(exact nomatch h')|(obtain⟨_,_,e,_⟩:=h';exact nomatch e)
 |.bl b,d',v,h,h'=>by unfold Rep at h;subst h;cases d'<;>unfold Rep at h'<;>first|(obtain⟨_,_,e,_⟩:=h';cases e)|(cases h'<;>simp[eqD])
 |.int b,d',v,h,h'=>by unfold Rep at h;subst h;cases d'<;>unfold Rep at h'<;>first|(obtain⟨_,_,e,_⟩:=h';cases e)|(cases h'<;>simp[eqD])
 |.str b,d',v,h,h'=>by unfold Rep at h;subst h;cases d'<;>unfold Rep at h'<;>first|(obtain⟨_,_,e,_⟩:=h';cases e)|(cases h'<;>simp[eqD])
 |.tup ds,d',v,h,h'=>by
  unfold Rep at h;obtain⟨a,xs,rfl,hq,hr⟩:=h;cases d' with
  |tup ds'=>unfold Rep at h';obtain⟨a',xs',e,hq',hr'⟩:=h';cases e;have ex:=I.tuple_inj hq hq';subst ex;unfold eqD;exact zT I ds ds' xs hr hr'
  |lst ds'=>unfold Rep at h';obtain⟨a',xs',e,hq',hr'⟩:=h';cases e;exact(QM I hq' hq).elim
  |_=>unfold Rep at h';exact nomatch h'
 |.lst ds,d',v,h,h'=>by
  unfold Rep at h;obtain⟨a,xs,rfl,hq,hr⟩:=h;cases d' with
  |lst ds'=>unfold Rep at h';obtain⟨a',xs',e,hq',hr'⟩:=h';cases e;have ex:=I.list_inj hq hq';subst ex;unfold eqD;exact zT I ds ds' xs hr hr'
  |tup ds'=>unfold Rep at h';obtain⟨a',xs',e,hq',hr'⟩:=h';cases e;exact(QM I hq hq').elim
  |_=>unfold Rep at h';exact nomatch h'
theorem zT(I:Inv X pins σ H s):∀(ds ds':List Dq) (xs:bt),oq X.K H ds xs->oq X.K H ds' xs->tG ds ds'=true
 |[],ds',xs,h,h'=>by
  unfold oq at h;subst h;cases ds' with
  |nil=>rfl
  |cons d r=>unfold oq at h';obtain⟨_,_,e,_⟩:=h';exact nomatch e
 |d::ds,ds',xs,h,h'=>by
  unfold oq at h;obtain⟨v,r,rfl,h1,h2⟩:=h;cases ds' with
  |nil=>unfold oq at h';exact nomatch h'
  |cons d' r'=>unfold oq at h';obtain⟨v',q,e,h1',h2'⟩:=h';cases e;unfold tG;rw[BS I d d' v h1 h1',zT I ds r' r h2 h2'];rfl
end
mutual
theorem LD(I:Inv X pins σ H s):∀(d d':Dq) (x y:V) (u v:aa) (A:aH),Rep X.K H d x->Rep X.K H d' y->RelV x u->RelV y v->A.units+dpt d+dpt d'<cLine->iJ A s u v (eqD d d')
 |.tup ds,d',x,y,u,v,A,hx,hy,ru,rv,hu=>by
  unfold Rep at hx;obtain⟨a,xs,rfl,hq,hr⟩:=hx;cases ru;obtain⟨its,rx,p,_⟩:=I.tuple hq;have p:s.heap.IsTuple a its.toArray:=p;cases d' with
  |non=>unfold Rep at hy;subst hy;cases rv;exact SeqAt.EqAt.tuple_none p (by omega)
  |bl b=>unfold Rep at hy;subst hy;cases rv;exact SeqAt.EqAt.tuple_bool b p (by omega)
  |int b=>unfold Rep at hy;subst hy;obtain⟨t,rfl⟩:=rv;exact SeqAt.EqAt.tuple_int b t p (by omega)
  |str b=>unfold Rep at hy;subst hy;obtain⟨t,rfl⟩:=rv;exact SeqAt.EqAt.tuple_str b t p (by omega)
  |lst ds'=>unfold Rep at hy;obtain⟨b,ys,rfl,hq',hr'⟩:=hy;cases rv;obtain⟨its',ry,p',_⟩:=I.list hq';exact SeqAt.EqAt.tuple_list p p'.isList (by omega)
  |tup ds'=>
   have hy0:=hy;unfold Rep at hy;obtain⟨b,ys,rfl,hq',hr'⟩:=hy;cases rv;obtain⟨its',ry,p',_⟩:=I.tuple hq';have p':s.heap.IsTuple b its'.toArray:=p';by_cases hab:a=b
   ·subst hab;have e:eqD (.tup ds) (.tup ds')=true:=BS I _ _ (.ref a) (by unfold Rep;exact⟨a,xs,rfl,hq,hr⟩) hy0;rw[e];exact f9 _
   ·have hd:dpt (.tup ds)=qu ds+1:=by rw[dpt]
    have hd':dpt (.tup ds')=qu ds'+1:=by rw[dpt]
    have q:=SeqAt.RcAt.tuples (A:=A) (e:=eAt ds ds') p p' (by omega) λj h1 h2=>by have z:=vH I ds ds' xs ys its its' A.in1 hr hr' rx ry (by show A.units+1+qu ds+qu ds'<cLine;omega) j (by simpa using h1) (by simpa using h2);simpa using z
    rw[vG (by rw[ou hr,rx.length];simp) (by rw[ou hr',ry.length];simp)]at q;exact jB hab (by unfold eqD;exact q)
 |.lst ds,d',x,y,u,v,A,hx,hy,ru,rv,hu=>by
  unfold Rep at hx;obtain⟨a,xs,rfl,hq,hr⟩:=hx;cases ru;obtain⟨its,rx,p,_⟩:=I.list hq;have p:=p.isList;cases d' with
  |non=>unfold Rep at hy;subst hy;cases rv;exact SeqAt.EqAt.list_none p (by omega)
  |bl b=>unfold Rep at hy;subst hy;cases rv;exact SeqAt.EqAt.list_bool b p (by omega)
  |int b=>unfold Rep at hy;subst hy;obtain⟨t,rfl⟩:=rv;exact SeqAt.EqAt.list_int b t p (by omega)
  |str b=>unfold Rep at hy;subst hy;obtain⟨t,rfl⟩:=rv;exact SeqAt.EqAt.list_str b t p (by omega)
  |tup ds'=>unfold Rep at hy;obtain⟨b,ys,rfl,hq',hr'⟩:=hy;cases rv;obtain⟨its',ry,p',_⟩:=I.tuple hq';exact SeqAt.EqAt.list_tuple p (show s.heap.IsTuple b its'.toArray from p') (by omega)
  |lst ds'=>
   have hy0:=hy;unfold Rep at hy;obtain⟨b,ys,rfl,hq',hr'⟩:=hy;cases rv;obtain⟨its',ry,p',_⟩:=I.list hq';have p':=p'.isList;by_cases hab:a=b
   ·subst hab;have e:eqD (.lst ds) (.lst ds')=true:=BS I _ _ (.ref a) (by unfold Rep;exact⟨a,xs,rfl,hq,hr⟩) hy0;rw[e];exact f9 _
   ·have hd:dpt (.lst ds)=qu ds+1:=by rw[dpt]
    have hd':dpt (.lst ds')=qu ds'+1:=by rw[dpt]
    by_cases hl:its.length=its'.length
    ·have q:=SeqAt.RcAt.lists (A:=A) (e:=eAt ds ds') p p' (by simpa using hl) (by omega) λj h1 h2=>by have z:=vH I ds ds' xs ys its its' A.in1 hr hr' rx ry (by show A.units+1+qu ds+qu ds'<cLine;omega) j (by simpa using h1) (by simpa using h2);simpa using z
     rw[wQ (by rw[ou hr,rx.length];simp) (by rw[ou hr',ry.length,<- hl];simp)]at q;exact jB hab (by unfold eqD;exact q)
    ·have e:eqD (.lst ds) (.lst ds')=false:=by unfold eqD;exact BR (by rw[ou hr,ou hr',rx.length,ry.length];exact hl)
     rw[e];exact jB hab (SeqAt.RcAt.lists_lengths p p' (by simpa using hl) (by omega))
 |.non,d',x,y,u,v,A,hx,hy,ru,rv,hu=>by
  unfold Rep at hx;subst hx;cases d' with
  |tup ds'=>unfold Rep at hy;obtain⟨b,ys,rfl,hq',hr'⟩:=hy;cases rv;cases ru;obtain⟨its',ry,p',_⟩:=I.tuple hq';exact SeqAt.EqAt.none_tuple (show s.heap.IsTuple b its'.toArray from p') (by omega)
  |lst ds'=>unfold Rep at hy;obtain⟨b,ys,rfl,hq',hr'⟩:=hy;cases rv;cases ru;obtain⟨its',ry,p',_⟩:=I.list hq';exact SeqAt.EqAt.none_list p'.isList (by omega)
  |_=>unfold Rep at hy;subst hy;exact BH ru rv rfl rfl
 |.bl c,d',x,y,u,v,A,hx,hy,ru,rv,hu=>by
  unfold Rep at hx;subst hx;cases d' with
  |tup ds'=>unfold Rep at hy;obtain⟨b,ys,rfl,hq',hr'⟩:=hy;cases rv;cases ru;obtain⟨its',ry,p',_⟩:=I.tuple hq';exact SeqAt.EqAt.bool_tuple c (show s.heap.IsTuple b its'.toArray from p') (by omega)
  |lst ds'=>unfold Rep at hy;obtain⟨b,ys,rfl,hq',hr'⟩:=hy;cases rv;cases ru;obtain⟨its',ry,p',_⟩:=I.list hq';exact SeqAt.EqAt.bool_list c p'.isList (by omega)
  |_=>unfold Rep at hy;subst hy;exact BH ru rv rfl rfl
 |.int c,d',x,y,u,v,A,hx,hy,ru,rv,hu=>by
  unfold Rep at hx;subst hx;cases d' with
  |tup ds'=>unfold Rep at hy;obtain⟨b,ys,rfl,hq',hr'⟩:=hy;cases rv;obtain⟨t,rfl⟩:=ru;obtain⟨its',ry,p',_⟩:=I.tuple hq';exact SeqAt.EqAt.int_tuple c t (show s.heap.IsTuple b its'.toArray from p') (by omega)
  |lst ds'=>unfold Rep at hy;obtain⟨b,ys,rfl,hq',hr'⟩:=hy;cases rv;obtain⟨t,rfl⟩:=ru;obtain⟨its',ry,p',_⟩:=I.list hq';exact SeqAt.EqAt.int_list c t p'.isList (by omega)
  |_=>unfold Rep at hy;subst hy;exact BH ru rv rfl rfl
 |.str c,d',x,y,u,v,A,hx,hy,ru,rv,hu=>by
  unfold Rep at hx;subst hx;cases d' with
  |tup ds'=>unfold Rep at hy;obtain⟨b,ys,rfl,hq',hr'⟩:=hy;cases rv;obtain⟨t,rfl⟩:=ru;obtain⟨its',ry,p',_⟩:=I.tuple hq';exact SeqAt.EqAt.str_tuple c t (show s.heap.IsTuple b its'.toArray from p') (by omega)
  |lst ds'=>unfold Rep at hy;obtain⟨b,ys,rfl,hq',hr'⟩:=hy;cases rv;obtain⟨t,rfl⟩:=ru;obtain⟨its',ry,p',_⟩:=I.list hq';exact SeqAt.EqAt.str_list c t p'.isList (by omega)
  |_=>unfold Rep at hy;subst hy;exact BH ru rv rfl rfl
theorem vH(I:Inv X pins σ H s):∀(ds ds':List Dq) (xs ys:bt) (us vs:List aa) (A:aH),oq X.K H ds xs->oq X.K H ds' ys->Vals xs us->Vals ys vs->A.units+qu ds+qu ds'<cLine->
  ∀(j:Nat) (h1:j<us.length) (h2:j<vs.length),iJ A s us[j] vs[j] (eAt ds ds' j)
 |[],ds',xs,ys,us,vs,A,hx,hy,ru,rv,hu,j,h1,h2=>by
  have:=ou hx;have:=ru.length;simp only[cO]at *
  omega
 |d::ds,[],xs,ys,us,vs,A,hx,hy,ru,rv,hu,j,h1,h2=>by
  have:=ou hy;have:=rv.length;simp only[cO]at *
  omega
 |d::ds,d'::ds',xs,ys,us,vs,A,hx,hy,ru,rv,hu,j,h1,h2=>by
  unfold oq at hx hy;obtain⟨x,xr,rfl,hx1,hx2⟩:=hx;obtain⟨y,yr,rfl,hy1,hy2⟩:=hy;have e1:qu (d::ds)=max (dpt d) (qu ds):=by rw[qu]
  have e2:qu (d'::ds')=max (dpt d') (qu ds'):=by rw[qu]
  cases ru with
  |cons r1 r2=>
   cases rv with
   |cons q1 q2=>
    cases j with
    |zero=>exact LD I d d' x y _ _ A hx1 hy1 r1 q1 (by omega)
    |succ j=>exact vH I ds ds' xr yr _ _ A hx2 hy2 r2 q2 (by omega) j (by simpa using h1) (by simpa using h2)
end
def DJ:Dq->Dq->Bool
 |.tup _,.tup _=>true
 |.lst _,.lst _=>true
 |_,_=>false
def Hl(K:au)(neg:Bool):R2:=λx y H Q=>∃d d',Rep K H d x/\Rep K H d' y/\DJ d d'=true/\dpt d<=20/\dpt d'<=20/\Q (.bl (if neg then !eqD d d' else eqD d d')) H
theorem RZ(hu:X.A.units+64<cLine):OpR X (compareOp .Eq) (Hl X.K false):=by
 intro pins s σ H x y u v Q I ru rv h;obtain⟨d,d',hx,hy,hd,h1,h2,q⟩:=h;cases d with
 |tup ds=>
  cases d' with
  |tup ds'=>
   have hd1:dpt (.tup ds)=qu ds+1:=by rw[dpt]
   have hd2:dpt (.tup ds')=qu ds'+1:=by rw[dpt]
   unfold Rep at hx hy;obtain⟨a,xs,rfl,hq,hr⟩:=hx;obtain⟨b,ys,rfl,hq',hr'⟩:=hy;cases ru;cases rv;obtain⟨its,rx,p,_⟩:=I.tuple hq;obtain⟨its',ry,p',_⟩:=I.tuple hq';refine SeqAt.eq_tupleAt (e:=eAt ds ds') (show s.heap.IsTuple a its.toArray from p) (show s.heap.IsTuple b its'.toArray from p') (by omega) (λj h1 h2=>?_) ?_
   ·have z:=vH I ds ds' xs ys its its' X.A.in1 hr hr' rx ry (by show X.A.units+1+qu ds+qu ds'<cLine;omega) j (by simpa using h1) (by simpa using h2);simpa using z
   ·rw[vG (by rw[ou hr,rx.length];simp) (by rw[ou hr',ry.length];simp)];unfold eqD at q;exact px I q rfl
  |_=>exact nomatch hd
 |lst ds=>
  cases d' with
  |lst ds'=>
   have hd1:dpt (.lst ds)=qu ds+1:=by rw[dpt]
   have hd2:dpt (.lst ds')=qu ds'+1:=by rw[dpt]
   unfold Rep at hx hy;obtain⟨a,xs,rfl,hq,hr⟩:=hx;obtain⟨b,ys,rfl,hq',hr'⟩:=hy;cases ru;cases rv;obtain⟨its,rx,p,_⟩:=I.list hq;obtain⟨its',ry,p',_⟩:=I.list hq';by_cases hl:its.length=its'.length
   ·refine SeqAt.eq_listAt (e:=eAt ds ds') p.isList p'.isList (by simpa using hl) (by omega) (λj h1 h2=>?_) ?_
    ·have z:=vH I ds ds' xs ys its its' X.A.in1 hr hr' rx ry (by show X.A.units+1+qu ds+qu ds'<cLine;omega) j (by simpa using h1) (by simpa using h2);simpa using z
    ·rw[wQ (by rw[ou hr,rx.length];simp) (by rw[ou hr',ry.length,<- hl];simp)];unfold eqD at q;exact px I q rfl
   ·refine SeqAt.eq_list_lengthsAt p.isList p'.isList (by simpa using hl) (by omega) ?_;have e:tG ds ds'=false:=BR (by rw[ou hr,ou hr',rx.length,ry.length];exact hl);unfold eqD at q;rw[e]at q;exact px I q rfl
  |_=>exact nomatch hd
 |_=>exact nomatch hd
theorem R0(hu:X.A.units+64<cLine):OpR X (compareOp .NotEq) (Hl X.K true):=by
 intro pins s σ H x y u v Q I ru rv h;obtain⟨d,d',hx,hy,hd,h1,h2,q⟩:=h;cases d with
 |tup ds=>
  cases d' with
  |tup ds'=>
   have hd1:dpt (.tup ds)=qu ds+1:=by rw[dpt]
   have hd2:dpt (.tup ds')=qu ds'+1:=by rw[dpt]
   unfold Rep at hx hy;obtain⟨a,xs,rfl,hq,hr⟩:=hx;obtain⟨b,ys,rfl,hq',hr'⟩:=hy;cases ru;cases rv;obtain⟨its,rx,p,_⟩:=I.tuple hq;obtain⟨its',ry,p',_⟩:=I.tuple hq';have w:=SeqAt.RcNeAt.tuples (A:=X.A) (e:=eAt ds ds') (show s.heap.IsTuple a its.toArray from p) (show s.heap.IsTuple b its'.toArray from p') (by omega) (λj h1 h2=>by
    have z:=vH I ds ds' xs ys its its' X.A.in1 hr hr' rx ry (by show X.A.units+1+qu ds+qu ds'<cLine;omega) j (by simpa using h1) (by simpa using h2);simpa using z)
   rw[vG (by rw[ou hr,rx.length];simp) (by rw[ou hr',ry.length];simp)]at w;unfold eqD at q;exact w X.prog X.w X.xe _ (px I q rfl)
  |_=>exact nomatch hd
 |lst ds=>
  cases d' with
  |lst ds'=>
   have hd1:dpt (.lst ds)=qu ds+1:=by rw[dpt]
   have hd2:dpt (.lst ds')=qu ds'+1:=by rw[dpt]
   unfold Rep at hx hy;obtain⟨a,xs,rfl,hq,hr⟩:=hx;obtain⟨b,ys,rfl,hq',hr'⟩:=hy;cases ru;cases rv;obtain⟨its,rx,p,_⟩:=I.list hq;obtain⟨its',ry,p',_⟩:=I.list hq';by_cases hl:its.length=its'.length
   ·have w:=SeqAt.RcNeAt.lists (A:=X.A) (e:=eAt ds ds') p.isList p'.isList (by simpa using hl) (by omega) (λj h1 h2=>by
     have z:=vH I ds ds' xs ys its its' X.A.in1 hr hr' rx ry (by show X.A.units+1+qu ds+qu ds'<cLine;omega) j (by simpa using h1) (by simpa using h2);simpa using z)
    rw[wQ (by rw[ou hr,rx.length];simp) (by rw[ou hr',ry.length,<- hl];simp)]at w;unfold eqD at q;exact w X.prog X.w X.xe _ (px I q rfl)
   ·have e:tG ds ds'=false:=BR (by rw[ou hr,ou hr',rx.length,ry.length];exact hl);unfold eqD at q;rw[e]at q;exact SeqAt.RcNeAt.lists_lengths p.isList p'.isList (by simpa using hl) (by omega) X.prog X.w X.xe _ (px I q rfl)
  |_=>exact nomatch hd
 |_=>exact nomatch hd
end
theorem DK{K:au}{H:Hp}:∀l:aC,oq K H (l.map Dq.str) (l.map V.str)
 |[]=>by rw[bJ,bJ];unfold oq;rfl
 |x::r=>by rw[ay,ay];unfold oq;exact⟨_,_,rfl,(by unfold Rep;rfl),DK r⟩
theorem u5:∀l:aC,qu (l.map Dq.str)=0
 |[]=>by rw[bJ,qu]
 |x::r=>by rw[ay];unfold qu;rw[u5 r];unfold dpt;rfl
inductive qd:List Expr->bt->Prop
 |nil:qd [] []
 |cons {x:Str} {j:Nat} {pos:Pos} {es:List Expr} {vs:bt} (h:qd es vs):qd (.Constant (.str x) j pos::es) (.str x::vs)
theorem ue{n:Nat}(h:n<=1000):n<=sizeLine:=eL (xK h)
theorem oE.new{p:Addr}{H H1:Hp}(x:oE H H1)(hp:H1 p=none)(o:HO):oE H (upd H1 p o):=λb u e=>by have z:=x b u e;rw[oB (qS z hp)];exact z
structure J6(K:au)(x qual:Str)(st:Stmt)(f:Addr)(fd:bM)(T:Addr):Prop where
 ex:∃(oc:aa) (od:Option Addr) (kV doc pm:aa) (an:Option Addr) (cdv ct:aa) (osl:Array (Option aa)),
  fd=dq x qual (rY st) (ph st) (oP st) (.ref T) kV doc pm an cdv ct/\K.lookup f=some ⟨oc,od,.func fd,osl⟩/\fF K cdv qual=true
 kp:c4 K (.ref f)=true
variable{qual:Str}{st:Stmt}{f T:Addr}{fd:bM}{ps:aC}
section
variable{P:aE}{w:az}{K:au}{mg:Str->Option aa}{base:Heap}
theorem J6.ok{x:Str}{k:Nat}{sp:Sp}(F:J6 K x qual st f fd T)(S:pZ N ps (oP st))(len:∀vs H Q E,sp vs H Q E->vs.length=ps.length)
  (hbody:∀(cdv:aa) (A:aH) (outer:List Env) (s:af) (H:Hp) (vs:bt) (Q:VK) (E:XK),p8 k (A.deeper (envOfC qual (oP st) s.heap.objs.size f cdv))->sp vs H Q E->
   ∃t,PSs (Fu CX0 P w K mg base N qual (oP st) f cdv A outer s H E).nox (ph st) t/\t { nx:=λ_ H'=>Q .non H',rt:=Q } (L2.start N vs) H):sH P w K mg base CX0 (k+1) f fd ps sp:=by
 obtain⟨oc,od,kV,doc,pm,an,cdv,ct,osl,rfl,lk,hcd⟩:=F.ex;refine QI lk hcd S len λA outer s H vs Q E hr hsp=>?_;obtain⟨t,h,q⟩:=hbody cdv A outer s H vs Q E hr hsp;exact⟨t,h.nox,q⟩
end
theorem J6.binds{K:au}{x:Str}{ds:List aa}{o:Obj}{items:Array aa}{n:Nat}(F:J6 K x qual st f fd T)(ho:K.lookup T=some o)(hs:o.data=.seq items n)
  (h:∀(kV doc pm:aa) (an:Option Addr) (cdv ct:aa) (us:List aa),us.length=ps.length - ds.length->∃k,bindArgs (dq x qual (rY st) (ph st) (oP st) (.ref T) kV doc pm an cdv ct) ⟨us,[]⟩=seqItems? (.ref T)>>=k/\k (some items)=pure (ps.zip (us++ds))):Binds K fd ps ds:=by
 obtain⟨oc,od,kV,doc,pm,an,cdv,ct,osl,rfl,lk,hcd⟩:=F.ex;intro s us KX hl;obtain⟨k,h1,h2⟩:=h kV doc pm an cdv ct us (by rw[aD]at hl;omega);exact BindsTo.of_defaults (k:=k) rfl (KX _ _ ho) hs h1 h2
section
variable{X:Cx}
theorem Hm:OpR X (binaryOp .Mult) (λx y H Q=>∃z n,x=.str z/\y=.int n/\MulOk z n/\Q (.str (gu z n)) H):=by intro pins s σ H x y v u Q I rx ry h;obtain⟨z,n,rfl,rfl,hm,q⟩:=h;obtain⟨t,rfl⟩:=rx;obtain⟨t',rfl⟩:=ry;exact SB.mul hm λt2 k=>⟨.str _,H,I.tok _,⟨t2,rfl⟩,q⟩
end
section
variable{X:Cx}(K:au)
theorem LF(hK:X.K=K:=by rfl):IxR X (Ot K):=by subst hK;exact II
theorem FJ{l:Expr}(hl:PE X l tl)(hK:X.K=K:=by rfl):PI X tg l (Lb K tl):=by subst hK;exact Oc hl
theorem OF{l:Expr}(hl:PE X l tl)(hK:X.K=K:=by rfl):PI X tg l (Rp K tl):=by subst hK;exact Rq hl
theorem OG{es:List Expr}{k:Nat}{t:TGs}{n:Nat}(hc:X.calm=true)(h:PGs X es t)(hn:(assignEach es X.env).length=n:=by rfl)(hst:(assignEach es X.env).findIdx? (·.1)=none:=by rfl)(hK:X.K=K:=by rfl):PG X (.Tuple es k pos) (Rk K n t):=by subst hK;exact Rl hc h hn hst
variable{o e:Expr}{es:List Expr}{to:TE}{t:TA}{name:Str}{apos cpos:Pos}{T id:String}{r:V->bt->Hp->VK->Prop}
theorem LG(pa:km T)(slot:Slot T name id)(hty:typeOf (.builtin id)=pure (.type "method_descriptor"))(hm:MtR X id r)(ho:PE X o to)(ha:PA X (e::es) t)
  (hbase:attributeBase o name X.env (eval o X.env)=eval o X.env:=by rfl)
  (hfew:((backTo cpos (starEach (e::es) X.env)).all (λx=>!x.1)&&(backToKw cpos (keywordEach [] X.env)).all (λx=>x.1.isSome)
   && decide ((e::es).length+([]:List dO).length+(if ([]:List dO).isEmpty then 0 else 1)<30))=true:=by rfl)
  (hline:(apos.endLine==cpos.line)=true:=by rfl) (hs:starEach (e::es) X.env=(false,eval e X.env)::starEach es X.env:=by rfl) (hplain:(backTo cpos (starEach es X.env)).any (·.1)=false:=by rfl) (hK:X.K=K:=by rfl):
  PE X (.Call (.Attribute o name apos) (e::es) [] cpos) (tBM K T r to t):=by subst hK;exact VX pa slot hty hm ho ha hbase hfew hline hs hplain
end
end L3
namespace L2
open PySem PySem.Spec PyProof.Rows
variable{a:Addr}
section
variable{X:Cx}{pins:cn}{σ:St}{H:Hp}{s:af}
theorem u6{H:Hp}{c:Addr}{u v:HO}(e:H a=some u)(q:H c=some v)(d:u≠v)(n:HO):upd H a n c=some v:=by rw[oB (λz=>by subst z;rw[e]at q;exact d (cc q))];exact q
theorem Inv.freeze{kvs:List (Key×V)}(I:Inv X pins σ H s)(e:H a=some (.dK kvs)):∃o,Inv X pins σ (upd H a (.frz o (.dK kvs))) s:=by
 obtain⟨z,y,vs,r,ob,es,ep,e1,c⟩:=(show pL X.prog X.w H s.heap a (.dK kvs) from I.hok a _ e);refine⟨ob,?_⟩;have I':=I.step (H':=upd H a (.frz ob (.dK kvs))) (h':=s.heap) (g':=s.gens) (d':=s.drawn) (t':=s.toks) (ch:=[]) (λ_ z=>nomatch z) (λb o _ _ _ q _=>q) (λb o _ _ _ q _=>⟨o.slots,q⟩)
  (λb o _ _ n=>by rw[oB (λz=>by subst z;rw[e]at n;cases n)];exact n) (λb o _ q=>⟨o,q⟩) (λb xs q=>u6 e q (λz=>nomatch z) _) (λb o u q=>u6 e q (λz=>nomatch z) _)
  (λb ps q=>⟨#[],by rw[u6 e q (λz=>nomatch z) _];simp⟩) (λm q=>q) ?_ I.bare
 ·obtain⟨h,g,d,t,os⟩:=s;exact I'
 ·intro b u q;have st:∀{b:Addr} {u:HO},pL X.prog X.w H s.heap b u->pL X.prog X.w (upd H a (.frz ob (.dK kvs))) s.heap b u:=λ{b u} x=>x.stay (λ_ _ _ q=>q) (λc q=>u6 e q (λz=>nomatch z) _) λc xs q=>u6 e q (λz=>nomatch z) _
  by_cases hb:b=a
  ·subst hb;rw[oA]at q;cases q;exact⟨e1,st (I.hok b _ e)⟩
  ·rw[oB hb]at q;exact st (I.hok b u q)
theorem PE.ghost{e:Expr}{t:TE}(h:PE X e t):PE X e (λσ H Q=>t σ H λx H1=>Q x H1\/∃a kvs,H1 a=some (.dK kvs)/\∀o,Q x (upd H1 a (.frz o (.dK kvs)))):=λpins s σ H Q I hq=>
 thn (h pins s σ H _ I hq) λu s1 ⟨x,H1,I1,r1,q1⟩=>by
  rcases q1 with q|⟨a,kvs,e,q⟩
  ·exact⟨x,H1,I1,r1,q⟩
  ·obtain⟨o,I2⟩:=I1.freeze e;exact⟨x,_,I2,r1,q o⟩
end
end L2
namespace L4
open PySem PySem.Spec PyProof.Rows L2 L3
abbrev St:=L2.St
inductive D where
 |non|bl (b:Bool)|int (i:Int)|str (x:Str)
 |tup (ds:List D)|lst (ds:List D)
 |fzl (ds:List D)
 |obj (c:Nat) (ns:aC) (ds:List D)
 |dic (ks:List Key) (ds:List D)
abbrev aA:=List D
structure Bg where
 K:au
 ca:Nat->Addr
mutual
def Rep(G:Bg)(H:Hp):D->V->Prop
 |.non,v=>v=.non
 |.bl b,v=>v=.bl b
 |.int i,v=>v=.int i
 |.str x,v=>v=.str x
 |.tup ds,v=>∃a xs,v=.ref a/\SqT G.K H a xs/\oq G H ds xs
 |.lst ds,v=>∃a xs,v=.ref a/\H a=some (.lst xs)/\oq G H ds xs
 |.fzl ds,v=>∃a xs,v=.ref a/\SqL G.K H a xs/\oq G H ds xs
 |.obj c ns ds,v=>∃a dx xs,v=.ref a/\H a=some (.ins (G.ca c) dx (ns.zip xs))/\ns.length=xs.length/\oq G H ds xs
 |.dic ks ds,v=>∃a o xs,v=.ref a/\H a=some (.frz o (.dK (ks.zip xs)))/\ks.length=xs.length/\oq G H ds xs
def oq(G:Bg)(H:Hp):aA->bt->Prop
 |[],xs=>xs=[]
 |d::ds,xs=>∃v r,xs=v::r/\Rep G H d v/\oq G H ds r
end
variable{H':Hp}{a:Addr}{xs:bt}
theorem SqT.mono{K:au}{H:Hp}(e:oE H H')(h:SqT K H a xs):SqT K H' a xs:=by
 rcases h with (h|⟨o,h⟩)|h
 ·exact .inl (.inl (e _ _ h))
 ·exact .inl (.inr ⟨o,e _ _ h⟩)
 ·exact .inr h
mutual
theorem Rep.mono{G:Bg}{H H':Hp}(e:oE H H'):∀(d:D) (v:V),Rep G H d v->Rep G H' d v
 |.non,v,h=>by unfold Rep at h ⊢;exact h
 |.bl b,v,h=>by unfold Rep at h ⊢;exact h
 |.int i,v,h=>by unfold Rep at h ⊢;exact h
 |.str x,v,h=>by unfold Rep at h ⊢;exact h
 |.tup ds,v,h=>by unfold Rep at h ⊢;obtain⟨a,xs,rfl,h1,h2⟩:=h;exact⟨a,xs,rfl,SqT.mono e h1,oq.mono e ds xs h2⟩
 |.lst ds,v,h=>by unfold Rep at h ⊢;obtain⟨a,xs,rfl,h1,h2⟩:=h;exact⟨a,xs,rfl,e _ _ h1,oq.mono e ds xs h2⟩
 |.fzl ds,v,h=>by unfold Rep at h ⊢;obtain⟨a,xs,rfl,h1,h2⟩:=h;exact⟨a,xs,rfl,e.seq h1,oq.mono e ds xs h2⟩
 |.obj c ns ds,v,h=>by unfold Rep at h ⊢;obtain⟨a,dx,xs,rfl,h1,h2,h3⟩:=h;exact⟨a,dx,xs,rfl,e _ _ h1,h2,oq.mono e ds xs h3⟩
 |.dic ks ds,v,h=>by unfold Rep at h ⊢;obtain⟨a,o,xs,rfl,h1,h2,h3⟩:=h;exact⟨a,o,xs,rfl,e _ _ h1,h2,oq.mono e ds xs h3⟩
theorem oq.mono{G:Bg}{H H':Hp}(e:oE H H'):∀(ds:aA) (xs:bt),oq G H ds xs->oq G H' ds xs
 |[],xs,h=>by unfold oq at h ⊢;exact h
 |d::ds,xs,h=>by unfold oq at h ⊢;obtain⟨v,r,rfl,h1,h2⟩:=h;exact⟨v,r,rfl,Rep.mono e d v h1,oq.mono e ds r h2⟩
end
variable{d:D}{ds:aA}
section
variable{G:Bg}{H:Hp}
theorem o8:oq G H [] []:=by unfold oq;rfl
theorem o7{v:V}(h:Rep G H d v)(r:oq G H ds xs):oq G H (d::ds) (v::xs):=by unfold oq;exact⟨v,xs,rfl,h,r⟩
theorem ou:∀{ds:aA} {xs:bt},oq G H ds xs->ds.length=xs.length
 |[],xs,h=>by unfold oq at h;subst h;rfl
 |d::ds,xs,h=>by unfold oq at h;obtain⟨v,r,rfl,_,h2⟩:=h;rw[aK,aK,ou h2]
theorem qE:∀{ds es:aA} {xs ys:bt},oq G H ds xs->oq G H es ys->oq G H (ds++es) (xs++ys)
 |[],es,xs,ys,h,h'=>by unfold oq at h;subst h;exact h'
 |d::ds,es,xs,ys,h,h'=>by unfold oq at h;obtain⟨v,r,rfl,h1,h2⟩:=h;exact o7 h1 (qE h2 h')
theorem qe:∀{ds:aA} {xs:bt} {i:Nat} {d:D},oq G H ds xs->ds[i]?=some d->∃v,xs[i]?=some v/\Rep G H d v
 |[],xs,i,d,h,e=>by simp at e
 |d'::ds,xs,i,d,h,e=>by
  unfold oq at h;obtain⟨v,r,rfl,h1,h2⟩:=h;cases i with
  |zero=>simp at e;subst e;exact⟨v,rfl,h1⟩
  |succ i=>simpa using qe (i:=i) (d:=d) h2 (by simpa using e)
theorem DL:∀{ds:aA} {xs:bt} (n:Nat),oq G H ds xs->oq G H (ds.drop n) (xs.drop n)
 |ds,xs,0,h=>h
 |[],xs,n+1,h=>by unfold oq at h;subst h;exact o8
 |d::ds,xs,n+1,h=>by unfold oq at h;obtain⟨v,r,rfl,h1,h2⟩:=h;exact DL n h2
theorem DM:∀{ds:aA} {xs:bt} (n:Nat),oq G H ds xs->oq G H (ds.take n) (xs.take n)
 |ds,xs,0,h=>o8
 |[],xs,n+1,h=>by unfold oq at h;subst h;exact o8
 |d::ds,xs,n+1,h=>by unfold oq at h;obtain⟨v,r,rfl,h1,h2⟩:=h;exact o7 h1 (DM n h2)
theorem vJ(h:SqT G.K H a xs)(r:oq G H ds xs):Rep G H (.tup ds) (.ref a):=by unfold Rep;exact⟨a,xs,rfl,h,r⟩
theorem uC(h:H a=some (.lst xs))(r:oq G H ds xs):Rep G H (.lst ds) (.ref a):=by unfold Rep;exact⟨a,xs,rfl,h,r⟩
theorem qz(i:Int):Rep G H (.int i) (.int i):=by unfold Rep;rfl
theorem qN(i:Bool):Rep G H (.bl i) (.bl i):=by unfold Rep;rfl
theorem vK(i:Str):Rep G H (.str i) (.str i):=by unfold Rep;rfl
theorem y4:Rep G H .non .non:=by unfold Rep;rfl
end
inductive Sl where
 |un
 |im (d:D)
 |ls (ds:aA)
 |pm (ds:aA)
 |dk (ks:List Key) (ds:aA)
 |ob (c:Nat) (ns:aC) (ds:aA)
abbrev aW:=List Sl
def Sl.own:Sl->Bool
 |.ls _=>true
 |.pm _=>true
 |.dk _ _=>true
 |.ob _ _ _=>true
 |_=>false
structure Fr where
 B0:Hp
 B:Hp
 A:List Addr
def yx(G:Bg)(F:Fr)(H0 H:Hp)(o:Option V):Sl->Prop
 |.un=>True
 |.im d=>∃v,o=some v/\Rep G H0 d v
 |.ls ds=>∃a xs,o=some (.ref a)/\H a=some (.lst xs)/\H0 a=none/\F.B a=none/\oq G H0 ds xs
 |.pm ds=>∃a xs,o=some (.ref a)/\H a=some (.lst xs)/\H0 a=none/\a∈F.A/\oq G H0 ds xs
 |.dk ks ds=>∃a xs,o=some (.ref a)/\H a=some (.dK (ks.zip xs))/\H0 a=none/\F.B a=none/\ks.length=xs.length/\oq G H0 ds xs
 |.ob c ns ds=>∃a dx xs,o=some (.ref a)/\H a=some (.ins (G.ca c) dx (ns.zip xs))/\H0 a=none/\a∈F.A/\ns.length=xs.length/\oq G H0 ds xs
structure oN(G:Bg)(F:Fr)(σ:St)(ρ:aW)(H0 H:Hp):Prop where
 sub:oE H0 H
 g0:oE F.B0 H0
 keep:∀b o,F.B b=some o->b∉F.A->H b=some o
 fr:∀b o,H0 b=some o->F.B0 b=some o\/F.B b=none
 am:∀a∈F.A,∃o,H a=some o
 len:σ.length=ρ.length
 sl:∀(i:Nat) (s:Sl),ρ[i]?=some s->yx G F H0 H (σ[i]?).join s
 ap:∀(i j:Nat) (s t:Sl) (a:Addr),i≠j->ρ[i]?=some s->ρ[j]?=some t->s.own=true->t.own=true->(σ[i]?).join=some (.ref a)->(σ[j]?).join=some (.ref a)->False
variable{G:Bg}{F:Fr}{H0:Hp}
theorem yx.at{H:Hp}{o:Option V}{s:Sl}(h:yx G F H0 H o s)(e:s.own=true):∃a u,o=some (.ref a)/\H a=some u/\H0 a=none/\(F.B a=none\/a∈F.A):=by
 cases s with
 |un=>cases e
 |im d=>cases e
 |ls ds=>obtain⟨a,xs,h1,h2,h3,h4,_⟩:=h;exact⟨a,_,h1,h2,h3,.inl h4⟩
 |pm ds=>obtain⟨a,xs,h1,h2,h3,h4,_⟩:=h;exact⟨a,_,h1,h2,h3,.inr h4⟩
 |dk ks ds=>obtain⟨a,xs,h1,h2,h3,h4,_⟩:=h;exact⟨a,_,h1,h2,h3,.inl h4⟩
 |ob c ns ds=>obtain⟨a,dx,xs,h1,h2,h3,h4,_⟩:=h;exact⟨a,_,h1,h2,h3,.inr h4⟩
variable{H0':Hp}
theorem yx.grow{H:Hp}{o:Option V}{s:Sl}(h:yx G F H0 H o s)(h0:oE H0 H0')(hk:∀a u,o=some (.ref a)->s.own=true->H a=some u->H' a=some u)
  (hn:∀a u,o=some (.ref a)->s.own=true->H a=some u->H0 a=none->H0' a=none):yx G F H0' H' o s:=by
 cases s with
 |un=>trivial
 |im d=>obtain⟨v,h1,h2⟩:=h;exact⟨v,h1,Rep.mono h0 _ _ h2⟩
 |ls ds=>obtain⟨a,xs,h1,h2,h3,h4,h5⟩:=h;exact⟨a,xs,h1,hk _ _ h1 rfl h2,hn _ _ h1 rfl h2 h3,h4,oq.mono h0 _ _ h5⟩
 |pm ds=>obtain⟨a,xs,h1,h2,h3,h4,h5⟩:=h;exact⟨a,xs,h1,hk _ _ h1 rfl h2,hn _ _ h1 rfl h2 h3,h4,oq.mono h0 _ _ h5⟩
 |dk ks ds=>obtain⟨a,xs,h1,h2,h3,h4,h5,h6⟩:=h;exact⟨a,xs,h1,hk _ _ h1 rfl h2,hn _ _ h1 rfl h2 h3,h4,h5,oq.mono h0 _ _ h6⟩
 |ob c ns ds=>obtain⟨a,dx,xs,h1,h2,h3,h4,h5,h6⟩:=h;exact⟨a,dx,xs,h1,hk _ _ h1 rfl h2,hn _ _ h1 rfl h2 h3,h4,h5,oq.mono h0 _ _ h6⟩
variable{p:Addr}{i j:Nat}
section
variable{G:Bg}{F:Fr}{σ:St}{ρ:aW}{H0 H H0' H':Hp}
theorem oN.bNone(R:oN G F σ ρ H0 H){b:Addr}(h:H b=none):F.B b=none:=by
 cases e:F.B b with
 |none=>rfl
 |some o=>
  by_cases ha:b∈F.A
  ·obtain⟨xs,q⟩:=R.am b ha;rw[q]at h;cases h
  ·have q:=R.keep b o e ha;rw[q]at h;cases h
theorem oN.grow(R:oN G F σ ρ H0 H)(hs:oE H H')(h0:oE H0 H0')(sub':oE H0' H')(hf:∀b o,H0' b=some o->H0 b=some o\/H b=none):oN G F σ ρ H0' H' where
 sub:=sub'
 g0:=R.g0.trans h0
 keep:=λb o e n=>hs _ _ (R.keep b o e n)
 fr:=λb o e=>by
  rcases hf b o e with q|q
  ·exact R.fr b o q
  ·exact .inr (R.bNone q)
 am:=λa ha=>let ⟨xs,q⟩:=R.am a ha;⟨xs,hs _ _ q⟩
 len:=R.len
 sl:=λi s e=>(R.sl i s e).grow h0 (λa u _ _ q=>hs _ _ q) λa u _ _ q q0=>by
  cases z:H0' a with
  |none=>rfl
  |some o=>
   rcases hf a o z with y|y
   ·rw[y]at q0;cases q0
   ·rw[y]at q;cases q
 ap:=R.ap
theorem oH{H:Hp}(hp:H p=none)(o:HO):oE H (upd H p o):=oE.new (oE.refl H) hp o
theorem oN.h0none(R:oN G F σ ρ H0 H)(hp:H p=none):H0 p=none:=by
 cases e:H0 p with
 |none=>rfl
 |some o=>have:=R.sub _ _ e;rw[this]at hp;cases hp
theorem LH{H0 H:Hp}(s:oE H0 H)(p:Addr)(o:HO):oE (upd H0 p o) (upd H p o):=λb u e=>by
 by_cases hb:b=p
 ·subst hb;rw[oA]at e ⊢;exact e
 ·rw[oB hb]at e ⊢;exact s _ _ e
theorem oN.newIm(R:oN G F σ ρ H0 H)(hp:H p=none)(o:HO):oN G F σ ρ (upd H0 p o) (upd H p o):=
 R.grow (oH hp o) (oH (R.h0none hp) o) (LH R.sub p o) λb u e=>by
  by_cases hb:b=p
  ·subst hb;exact .inr hp
  ·rw[oB hb]at e;exact .inl e
theorem oN.newOwn(R:oN G F σ ρ H0 H)(hp:H p=none)(o:HO):oN G F σ ρ H0 (upd H p o):=
 R.grow (oH hp o) (oE.refl _) (λb u e=>by rw[oB (qS (R.sub _ _ e) hp)];exact R.sub _ _ e) λb u e=>.inl e
def Apart(σ:St)(ρ:aW)(p:Addr):Prop:=∀(i:Nat) (s:Sl),ρ[i]?=some s->s.own=true->(σ[i]?).join≠some (.ref p)
theorem oN.apart(R:oN G F σ ρ H0 H)(hp:H p=none):Apart σ ρ p:=λi s e so z=>by obtain⟨a,u,h1,h2,_⟩:=(R.sl i s e).at so;rw[z]at h1;cases h1;rw[hp]at h2;cases h2
theorem oN.freeze(R:oN G F σ ρ H0 H){o:HO}(hp:H p=some o)(h0:H0 p=none)(hb:F.B p=none)(ap:Apart σ ρ p):oN G F σ ρ (upd H0 p o) H where
 sub:=λb u e=>by
  by_cases hb:b=p
  ·subst hb;rw[oA]at e;cases e;exact hp
  ·rw[oB hb]at e;exact R.sub _ _ e
 g0:=R.g0.trans (oH h0 o)
 keep:=R.keep
 fr:=λb u e=>by
  by_cases hb':b=p
  ·subst hb';exact .inr hb
  ·rw[oB hb']at e;exact R.fr _ _ e
 am:=R.am
 len:=R.len
 sl:=λi s e=>(R.sl i s e).grow (oH h0 o) (λa u _ _ q=>q) λa u z so q q0=>by rw[oB (λy=>ap i s e so (by rw[z,y]))];exact q0
 ap:=R.ap
theorem FK{σ:St}{v:Option V}(hi:i<σ.length):((σ.set i v)[j]?).join=if j=i then v else (σ[j]?).join:=by
 rw[bR];by_cases h:i=j
 ·subst h;simp[hi]
 ·rw[aj h,aj (λz=>h z.symm)]
theorem oN.set(R:oN G F σ ρ H0 H){v:V}{s:Sl}(hs:yx G F H0 H (some v) s)(ap:s.own=true->∀a,v=.ref a->∀(j:Nat) (t:Sl),j≠i->ρ[j]?=some t->t.own=true->(σ[j]?).join≠some (.ref a)):
  oN G F (σ.set i (some v)) (ρ.set i s) H0 H where
 sub:=R.sub
 g0:=R.g0
 keep:=R.keep
 fr:=R.fr
 am:=R.am
 len:=by rw[dF,dF,R.len]
 sl:=λj t e=>by
  rw[bR]at e;by_cases h:i=j
  ·subst h;rw[ai rfl]at e;split at e
   ·rename_i hi;cases e;rw[FK (by rw[R.len];exact hi),ai rfl];exact hs
   ·cases e
  ·rw[aj h]at e;have hh:=R.sl j t e;rw[bR,aj h];exact hh
 ap:=λj k t u a hjk ej ek tj tk vj vk=>by
  have gen:∀{m:Nat} {x:Sl},(ρ.set i s)[m]?=some x->m≠i->ρ[m]?=some x/\((σ.set i (some v))[m]?).join=(σ[m]?).join:=λ{m x} e hm=>by rw[bR,aj (λz=>hm z.symm)]at e;exact⟨e,by rw[bR,aj (λz=>hm z.symm)]⟩
  have self:∀{x:Sl},(ρ.set i s)[i]?=some x->x=s/\((σ.set i (some v))[i]?).join=some v:=λ{x} e=>by
   rw[bR,ai rfl]at e;split at e
   ·rename_i hi;cases e;exact⟨rfl,by rw[FK (by rw[R.len];exact hi),ai rfl]⟩
   ·cases e
  by_cases hj:j=i
  ·subst hj;obtain⟨rfl,ev⟩:=self ej;rw[ev]at vj;cases vj;obtain⟨e2,e3⟩:=gen ek (λz=>hjk z.symm);rw[e3]at vk;exact ap tj a rfl k u (λz=>hjk z.symm) e2 tk vk
  ·obtain⟨e2,e3⟩:=gen ej hj;by_cases hk:k=i
   ·subst hk;obtain⟨rfl,ev⟩:=self ek;rw[ev]at vk;cases vk;rw[e3]at vj;exact ap tk a rfl j t hj e2 tj vj
   ·obtain⟨e4,e5⟩:=gen ek hk;rw[e3]at vj;rw[e5]at vk;exact R.ap j k t u a hjk e2 e4 tj tk vj vk
theorem oN.setIm(R:oN G F σ ρ H0 H)(i:Nat){v:V}(h:Rep G H0 d v):oN G F (σ.set i (some v)) (ρ.set i (.im d)) H0 H:=R.set ⟨v,rfl,h⟩ λz=>by cases z
theorem oN.setLs(R:oN G F σ ρ H0 H)(i:Nat)(hp:H p=some (.lst xs))(h0:H0 p=none)(hb:F.B p=none)(ap:Apart σ ρ p)(h:oq G H0 ds xs):oN G F (σ.set i (some (.ref p))) (ρ.set i (.ls ds)) H0 H:=
 R.set ⟨p,xs,rfl,hp,h0,hb,h⟩ λ_ a e j t _ ej tj=>by cases e;exact ap j t ej tj
theorem oN.mut(R:oN G F σ ρ H0 H){s s':Sl}{o:HO}(hi:ρ[i]?=some s)(so:s.own=true)(ha:(σ[i]?).join=some (.ref a))(ok:∀H',H' a=some o->yx G F H0 H' (some (.ref a)) s')
  (so':s'.own=true):oN G F σ (ρ.set i s') H0 (upd H a o):=by
 obtain⟨a',u,e1,e2,e3,e4⟩:=(R.sl i s hi).at so;rw[ha]at e1;cases e1;exact {
  sub:=λb w e=>by rw[oB (λz=>by rw[z,e3]at e;cases e)];exact R.sub _ _ e
  g0:=R.g0
  keep:=λb w e n=>by
   have nb:b≠a:=λz=>by
    subst z;rcases e4 with q|q
    ·rw[q]at e;cases e
    ·exact n q
   rw[oB nb];exact R.keep b w e n
  fr:=R.fr
  am:=λb hb=>by
   by_cases z:b=a
   ·subst z;exact⟨o,oA⟩
   ·rw[oB z];exact R.am b hb
  len:=by rw[dF];exact R.len
  sl:=λj t e=>by
   rw[bR]at e;by_cases h:i=j
   ·subst h;rw[ai rfl]at e;split at e
    ·cases e;rw[ha];exact ok _ oA
    ·cases e
   ·rw[aj h]at e;refine(R.sl j t e).grow (oE.refl _) (λb w z to q=>?_) λb w _ _ _ q=>q;rw[oB (λy=>by subst y;exact R.ap j i t s b (λy=>h y.symm) e hi to so z ha)];exact q
  ap:=λj k t u b hjk ej ek tj tk vj vk=>by
   have gen:∀{m:Nat} {x:Sl},(ρ.set i s')[m]?=some x->∃y,ρ[m]?=some y/\(x.own=true->y.own=true):=λ{m x} e=>by
    rw[bR]at e;by_cases h:i=m
    ·subst h;exact⟨s,hi,λ_=>so⟩
    ·rw[aj h]at e;exact⟨x,e,λq=>q⟩
   obtain⟨y,ey,oy⟩:=gen ej;obtain⟨z,ez,oz⟩:=gen ek;exact R.ap j k y z b hjk ey ez (oy tj) (oz tk) vj vk }
end
abbrev FE:=aW->Option (D×aW)
abbrev FT:=aW->Option (Bool×aW)
abbrev FA:=aW->Option (aA×aW)
def tF(G:Bg)(f:FE):TE:=λσ H Q=>∃F ρ H0 d ρ',oN G F σ ρ H0 H/\f ρ=some (d,ρ')/\∀v H0' H',oE H0 H0'->oN G F σ ρ' H0' H'->Rep G H0' d v->Q v H'
def tFT(G:Bg)(f:FT):TT:=λσ H Q=>∃F ρ H0 d ρ',oN G F σ ρ H0 H/\f ρ=some (d,ρ')/\∀H0' H',oE H0 H0'->oN G F σ ρ' H0' H'->Q d H'
def tFA(G:Bg)(f:FA):TA:=λσ H Q=>∃F ρ H0 ds ρ',oN G F σ ρ H0 H/\f ρ=some (ds,ρ')/\∀xs H0' H',oE H0 H0'->oN G F σ ρ' H0' H'->oq G H0' ds xs->Q xs H'
def tFN(G:Bg)(f:FA):TE:=λσ H Q=>∃F ρ H0 ds ρ',oN G F σ ρ H0 H/\f ρ=some (ds,ρ')/\∀p xs H0' H',oE H0 H0'->oN G F σ ρ' H0' H'->H' p=some (.lst xs)->H0' p=none->F.B p=none->Apart σ ρ' p->oq G H0' ds xs->Q (.ref p) H'
variable{X:Cx}{e:Expr}
theorem PE.weak{t t':TE}(h:PE X e t)(w:∀σ H Q,t' σ H Q->t σ H Q):PE X e t':=λpins s σ H Q I hq=>h pins s σ H Q I (w _ _ _ hq)
variable{t':TT}
theorem PT.weak{t:TT}(h:PT X e t)(w:∀σ H Q,t' σ H Q->t σ H Q):PT X e t':=λpins s σ H Q I hq=>h pins s σ H Q I (w _ _ _ hq)
theorem PW.weak{t:TT}(h:PW X e t)(w:∀σ H Q,t' σ H Q->t σ H Q):PW X e t':=λwh pins s σ H Q I hq=>h wh pins s σ H Q I (w _ _ _ hq)
theorem PA.weak{e:List Expr}{t t':TA}(h:PA X e t)(w:∀σ H Q,t' σ H Q->t σ H Q):PA X e t':=λpos pins s σ H Q I hq=>h pos pins s σ H Q I (w _ _ _ hq)
noncomputable def cC(d:D):FE:=λρ=>some (d,ρ)
noncomputable def cV(i:Nat):FE:=λρ=>match ρ[i]? with
 |some (.im d)=>some (d,ρ)
 |_=>none
noncomputable def c1(g:D->Option D) (f:FE):FE:=λρ=>match f ρ with
 |some (d,ρ')=>match g d with
  |some x=>some (x,ρ')
  |none=>none
 |none=>none
noncomputable def c2(g:D->D->Option D) (f f':FE):FE:=λρ=>match f ρ with
 |some (x,ρ1)=>match f' ρ1 with
  |some (y,ρ2)=>match g x y with
   |some z=>some (z,ρ2)
   |none=>none
  |none=>none
 |none=>none
variable{f:FE}{ρ ρ':aW}
theorem Bq{g:D->Option D}{z:D}(h:c1 g f ρ=some (z,ρ')):∃d,f ρ=some (d,ρ')/\g d=some z:=by
 unfold c1 at h;cases e:f ρ with
 |none=>rw[e]at h;cases h
 |some p=>
  obtain⟨d,ρ1⟩:=p;rw[e]at h;cases e2:g d with
  |none=>simp only[e2]at h;cases h
  |some x=>simp only[e2]at h;cases h;exact⟨d,rfl,e2⟩
variable{f':FE}
theorem y6{g:D->D->Option D}{z:D}(h:c2 g f f' ρ=some (z,ρ')):∃x y ρ1,f ρ=some (x,ρ1)/\f' ρ1=some (y,ρ')/\g x y=some z:=by
 unfold c2 at h;cases e:f ρ with
 |none=>rw[e]at h;cases h
 |some p=>
  obtain⟨x,ρ1⟩:=p;simp only[e]at h;cases e2:f' ρ1 with
  |none=>simp only[e2]at h;cases h
  |some q=>
   obtain⟨y,ρ2⟩:=q;simp only[e2]at h;cases e3:g x y with
   |none=>simp only[e3]at h;cases h
   |some w=>simp only[e3]at h;cases h;exact⟨x,y,ρ1,rfl,e2,e3⟩
variable{b:Expr}{pos:Pos}{es:List Expr}
section
variable{X:Cx}{G:Bg}
theorem R7{i j pos}:PE X (.Constant (.int i) j pos) (tF G (cC (.int i))):=PE.weak GY λσ H Q h=>by obtain⟨F,ρ,H0,d,ρ',R,e,k⟩:=h;cases e;exact k _ _ _ (oE.refl _) R (qz i)
theorem V4{i j pos}:PE X (.Constant (.bool i) j pos) (tF G (cC (.bl i))):=PE.weak Vx λσ H Q h=>by obtain⟨F,ρ,H0,d,ρ',R,e,k⟩:=h;cases e;exact k _ _ _ (oE.refl _) R (qN i)
theorem R8{i j pos}:PE X (.Constant (.str i) j pos) (tF G (cC (.str i))):=PE.weak K6 λσ H Q h=>by obtain⟨F,ρ,H0,d,ρ',R,e,k⟩:=h;cases e;exact k _ _ _ (oE.refl _) R (vK i)
theorem R9{j pos}:PE X (.Constant .none j pos) (tF G (cC .non)):=PE.weak Q6 λσ H Q h=>by obtain⟨F,ρ,H0,d,ρ',R,e,k⟩:=h;cases e;exact k _ _ _ (oE.refl _) R y4
theorem OH(h:cV i ρ=some (d,ρ')):ρ[i]?=some (.im d)/\ρ'=ρ:=by
 unfold cV at h;split at h
 ·rename_i e;cases h;exact⟨e,rfl⟩
 ·cases h
theorem qT{α:Type}{o:Option (Option α)}{v:α}(h:o.join=some v):o=some (some v):=by
 cases o with
 |none=>cases h
 |some u=>cases u with
  |none=>cases h
  |some w=>cases h;rfl
theorem Hn(h:PE X e (uM i)):PE X e (tF G (cV i)):=PE.weak h λσ H Q hh=>by obtain⟨F,ρ,H0,d,ρ',R,e,k⟩:=hh;obtain⟨e1,rfl⟩:=OH e;obtain⟨v,e2,e3⟩:=R.sl i _ e1;exact⟨v,qT e2,k _ _ _ (oE.refl _) R e3⟩
theorem OI{v:V}(h:PE X e (tC v))(r:∀H,Rep G H d v):PE X e (tF G (cC d)):=PE.weak h λσ H Q hh=>by obtain⟨F,ρ,H0,d',ρ',R,e,k⟩:=hh;cases e;exact k _ _ _ (oE.refl _) R (r _)
def OpD(G:Bg)(r:R2)(g:D->D->Option D):Prop:=∀x y z H0 H v u (Q:VK),g x y=some z->oE H0 H->Rep G H0 x v->Rep G H0 y u->(∀w,(∀H0',oE H0 H0'->Rep G H0' z w)->Q w H)->r v u H Q
theorem IJ{r:R2}{g:D->D->Option D}(ho:OpD G r g):∀σ H Q,tF G (c2 g f f') σ H Q->tOp r (tF G f) (tF G f') σ H Q:=λσ H Q hh=>by obtain⟨F,ρ,H0,d,ρ',R,e,k⟩:=hh;obtain⟨x,y,ρ1,e1,e2,e3⟩:=y6 e;refine⟨F,ρ,H0,x,ρ1,R,e1,λv H1 H1' s1 R1 r1=>⟨F,ρ1,H1,y,ρ',R1,e2,λu H2 H2' s2 R2 r2=>?_⟩⟩;exact ho x y d H2 H2' v u Q e3 R2.sub (Rep.mono s2 _ _ r1) r2 λw hw=>k w H2 H2' (s1.trans s2) R2 (hw _ (oE.refl _))
theorem V5{a:Expr}{op:iN}{r:R2}{g:D->D->Option D}(hr:OpR X (binaryOp op) r)(ho:OpD G r g)(ha:PE X a (tF G f))(hb:PE X b (tF G f')):PE X (.BinOp a op b pos) (tF G (c2 g f f')):=PE.weak (Le hr ha hb) (IJ ho)
theorem Sa{a:Expr}{op:cg}{r:R2}{g:D->D->Option D}(hr:OpR X (compareOp op) r)(ho:OpD G r g)(ha:PE X a (tF G f))(hb:PE X b (tF G f'))(hm:behindInMarks op b=false):PE X (.Compare a [op] [b] pos) (tF G (c2 g f f')):=PE.weak (Oh hr ha hb hm) (IJ ho)
theorem V6{a:Expr}{r:R2}{g:D->D->Option D}(hr:IxR X r)(ho:OpD G r g)(ha:PE X a (tF G f))(hb:PE X b (tF G f'))(hs:IH b):PE X (.Subscript a b pos) (tF G (c2 g f f')):=PE.weak (QJ hr ha hb hs) (IJ ho)
def cT(f:FE):FT:=λρ=>match f ρ with
 |some (.bl b,ρ')=>some (b,ρ')
 |_=>none
theorem IK{b:Bool}(h:cT f ρ=some (b,ρ')):f ρ=some (.bl b,ρ'):=by
 unfold cT at h;split at h
 ·rename_i e;cases h;exact e
 ·cases h
theorem EK:∀σ H Q,tFT G (cT f) σ H Q->Lh (tF G f) σ H Q:=λσ H Q hh=>by obtain⟨F,ρ,H0,d,ρ',R,e,k⟩:=hh;refine⟨F,ρ,H0,_,ρ',R,IK e,λv H0' H' s R' r=>?_⟩;unfold Rep at r;exact⟨d,r,k _ _ s R'⟩
theorem OJ{a:Expr}{op:cg}{r:R2}{g:D->D->Option D}(hr:OpR X (compareOp op) r)(ho:OpD G r g)(ha:PE X a (tF G f))(hb:PE X b (tF G f'))(hm:behindInMarks op b=false):
  PT X (.Compare a [op] [b] pos) (tFT G (cT (c2 g f f'))):=PT.weak (Oi hr ha hb hm) λσ H Q hh=>by
 obtain⟨F,ρ,H0,d,ρ',R,e,k⟩:=EK σ H Q hh;exact IJ ho σ H _ ⟨F,ρ,H0,d,ρ',R,e,k⟩
theorem OK(h:PE X e (tF G f))(he:∀whole,isTrue e X.env whole=(do let v<-whole;standAt e.pos;holding [v] (truthy v)):=by intro _;rfl):PT X e (tFT G (cT f)):=PT.weak (Q9 h he) λσ H Q hh=>by obtain⟨F,ρ,H0,d,ρ',R,e,k⟩:=hh;refine⟨F,ρ,H0,_,ρ',R,IK e,λv H0' H' s R' r=>?_⟩;unfold Rep at r;exact⟨d,r,k _ _ s R'⟩
def rQ(f:FT):FT:=λρ=>match f ρ with
 |some (b,ρ')=>some (!b,ρ')
 |none=>none
def sW(f g:FT):FT:=λρ=>match f ρ with
 |some (true,ρ')=>g ρ'
 |r=>r
def tH(f g:FT):FT:=λρ=>match f ρ with
 |some (false,ρ')=>g ρ'
 |r=>r
theorem OL{a:Expr}{f:FT}(h:PT X a (tFT G f)):PT X (.UnaryOp .Not a pos) (tFT G (rQ f)):=PT.weak (Rf h) λσ H Q hh=>by
 obtain⟨F,ρ,H0,d,ρ',R,e,k⟩:=hh;unfold rQ at e;cases e1:f ρ with
 |none=>simp only[e1]at e;cases e
 |some p=>obtain⟨b,ρ1⟩:=p;simp only[e1]at e;cases e;exact⟨F,ρ,H0,b,_,R,e1,λH0' H' s R'=>k _ _ s R'⟩
theorem Sb{f g:FT}:∀σ H Q,tFT G (sW f g) σ H Q->Vy (tFT G f) (tFT G g) σ H Q:=λσ H Q hh=>by
 obtain⟨F,ρ,H0,d,ρ',R,e,k⟩:=hh;unfold sW at e;cases e1:f ρ with
 |none=>simp only[e1]at e;cases e
 |some p=>
  obtain⟨b,ρ1⟩:=p;cases b with
  |true=>simp only[e1]at e;exact⟨F,ρ,H0,true,ρ1,R,e1,λH0' H' s R'=>EI ⟨F,ρ1,H0',d,ρ',R',e,λH2 H2' s2 R2=>k _ _ (s.trans s2) R2⟩⟩
  |false=>simp only[e1]at e;cases e;exact⟨F,ρ,H0,false,_,R,e1,λH0' H' s R'=>EH (k _ _ s R')⟩
theorem V7{f g:FT}:∀σ H Q,tFT G (tH f g) σ H Q->tOr (tFT G f) (tFT G g) σ H Q:=λσ H Q hh=>by
 obtain⟨F,ρ,H0,d,ρ',R,e,k⟩:=hh;unfold tH at e;cases e1:f ρ with
 |none=>simp only[e1]at e;cases e
 |some p=>
  obtain⟨b,ρ1⟩:=p;cases b with
  |false=>simp only[e1]at e;exact⟨F,ρ,H0,false,ρ1,R,e1,λH0' H' s R'=>EH ⟨F,ρ1,H0',d,ρ',R',e,λH2 H2' s2 R2=>k _ _ (s.trans s2) R2⟩⟩
  |true=>simp only[e1]at e;cases e;exact⟨F,ρ,H0,true,_,R,e1,λH0' H' s R'=>EI (k _ _ s R')⟩
theorem LI{a:Expr}{f:FT}(h:PT X a (tFT G f)):PW X (.BoolOp .And [a] pos) (tFT G f):=N9 h
theorem OM{a:Expr}{f:FT}(h:PT X a (tFT G f)):PW X (.BoolOp .Or [a] pos) (tFT G f):=Rb h
theorem ON{a:Expr}{rest:List Expr}{f g:FT}(ha:PT X a (tFT G f))(hb:PW X (.BoolOp .And (b::rest) pos) (tFT G g)):PW X (.BoolOp .And (a::b::rest) pos) (tFT G (sW f g)):=PW.weak (Re ha hb) Sb
theorem LJ{a:Expr}{rest:List Expr}{f g:FT}(ha:PT X a (tFT G f))(hb:PW X (.BoolOp .Or (b::rest) pos) (tFT G g)):PW X (.BoolOp .Or (a::b::rest) pos) (tFT G (tH f g)):=PW.weak (Vz ha hb) V7
def pW(f g:FE):FE:=λρ=>match f ρ with
 |some (.bl true,ρ')=>g ρ'
 |some (.bl false,ρ')=>some (.bl false,ρ')
 |_=>none
def cOr(f g:FE):FE:=λρ=>match f ρ with
 |some (.bl false,ρ')=>g ρ'
 |some (.bl true,ρ')=>some (.bl true,ρ')
 |_=>none
def EL(f:FE):FE:=λρ=>match f ρ with
 |some (.bl b,ρ')=>some (.bl !b,ρ')
 |_=>none
def cIf(c:FT)(f g:FE):FE:=λρ=>match c ρ with
 |some (true,ρ')=>f ρ'
 |some (false,ρ')=>g ρ'
 |none=>none
theorem Sd{a:Expr}{op}(h:PE X a (tF G f)):PE X (.BoolOp op [a] pos) (tF G f):=Rg h
theorem FL:(∃ρ1,f ρ=some (.bl true,ρ1))\/(∃ρ1,f ρ=some (.bl false,ρ1))\/(∀b ρ1,f ρ≠some (.bl b,ρ1)):=by
 by_cases h1:∃ρ1,f ρ=some (.bl true,ρ1)
 ·exact .inl h1
 by_cases h2:∃ρ1,f ρ=some (.bl false,ρ1)
 ·exact .inr (.inl h2)
 refine .inr (.inr λb ρ1 z=>?_);cases b with
 |true=>exact h1 ⟨ρ1,z⟩
 |false=>exact h2 ⟨ρ1,z⟩
theorem J7{g:FE}(h:∀b ρ1,f ρ≠some (.bl b,ρ1)):pW f g ρ=none:=by
 unfold pW;split
 ·rename_i e;exact aq e (h _ _)
 ·rename_i e;exact aq e (h _ _)
 ·rfl
theorem LK{g:FE}(h:∀b ρ1,f ρ≠some (.bl b,ρ1)):cOr f g ρ=none:=by
 unfold cOr;split
 ·rename_i e;exact aq e (h _ _)
 ·rename_i e;exact aq e (h _ _)
 ·rfl
theorem Se{a:Expr}{rest:List Expr}{g:FE}(ha:PE X a (tF G f))(hb:PE X (.BoolOp .And (b::rest) pos) (tF G g)):PE X (.BoolOp .And (a::b::rest) pos) (tF G (pW f g)):=PE.weak (Rh ha hb) λσ H Q hh=>by
 obtain⟨F,ρ,H0,d,ρ',R,e,k⟩:=hh;rcases FL (f:=f) (ρ:=ρ)with ⟨ρ1,e1⟩|⟨ρ1,e1⟩|e1
 ·have e':g ρ1=some (d,ρ'):=by unfold pW at e;simp only[e1]at e;exact e
  refine⟨F,ρ,H0,_,ρ1,R,e1,λv H1 H1' s R' r=>?_⟩;unfold Rep at r;refine⟨true,r,?_⟩;exact EI ⟨F,ρ1,H1,d,ρ',R',e',λv H2 H2' s2 R2 r2=>k _ _ _ (s.trans s2) R2 r2⟩
 ·have e':some (D.bl false,ρ1)=some (d,ρ'):=by unfold pW at e;simp only[e1]at e;exact e
  cases e';refine⟨F,ρ,H0,_,_,R,e1,λv H1 H1' s R' r=>?_⟩;have r':=r;unfold Rep at r';refine⟨false,r',?_⟩;exact EH (k _ _ _ s R' (qN false))
 ·rw[J7 e1]at e;cases e
theorem V8{a:Expr}{rest:List Expr}{g:FE}(ha:PE X a (tF G f))(hb:PE X (.BoolOp .Or (b::rest) pos) (tF G g)):PE X (.BoolOp .Or (a::b::rest) pos) (tF G (cOr f g)):=PE.weak (VC ha hb) λσ H Q hh=>by
 obtain⟨F,ρ,H0,d,ρ',R,e,k⟩:=hh;rcases FL (f:=f) (ρ:=ρ)with ⟨ρ1,e1⟩|⟨ρ1,e1⟩|e1
 ·have e':some (D.bl true,ρ1)=some (d,ρ'):=by unfold cOr at e;simp only[e1]at e;exact e
  cases e';refine⟨F,ρ,H0,_,_,R,e1,λv H1 H1' s R' r=>?_⟩;unfold Rep at r;refine⟨true,r,?_⟩;exact EI (k _ _ _ s R' (qN true))
 ·have e':g ρ1=some (d,ρ'):=by unfold cOr at e;simp only[e1]at e;exact e
  refine⟨F,ρ,H0,_,ρ1,R,e1,λv H1 H1' s R' r=>?_⟩;unfold Rep at r;refine⟨false,r,?_⟩;exact EH ⟨F,ρ1,H1,d,ρ',R',e',λv H2 H2' s2 R2 r2=>k _ _ _ (s.trans s2) R2 r2⟩
 ·rw[LK e1]at e;cases e
theorem Sf{a:Expr}(ha:PE X a (tF G f)):PE X (.UnaryOp .Not a pos) (tF G (EL f)):=PE.weak (Rj ha) λσ H Q hh=>by
 obtain⟨F,ρ,H0,d,ρ',R,e,k⟩:=hh;unfold EL at e;split at e
 ·rename_i b ρ1 e1;cases e;refine⟨F,ρ,H0,_,_,R,e1,λv H1 H1' s R' r=>?_⟩;unfold Rep at r;exact⟨b,r,k _ _ _ s R' (qN _)⟩
 ·cases e
theorem V9{c a:Expr}{h:FT}{g:FE}(hc:PT X c (tFT G h))(ha:PE X a (tF G f))(hb:PE X b (tF G g)):PE X (.IfExp c a b pos) (tF G (cIf h f g)):=PE.weak (K7 hc ha hb) λσ H Q hh=>by
 obtain⟨F,ρ,H0,d,ρ',R,e,k⟩:=hh;unfold cIf at e;cases e1:h ρ with
 |none=>simp only[e1]at e;cases e
 |some p=>
  obtain⟨b,ρ1⟩:=p;refine⟨F,ρ,H0,b,ρ1,R,e1,λH1 H1' s R'=>?_⟩;cases b with
  |true=>simp only[e1]at e;exact EI ⟨F,ρ1,H1,d,ρ',R',e,λv H2 H2' s2 R2 r2=>k _ _ _ (s.trans s2) R2 r2⟩
  |false=>simp only[e1]at e;exact EH ⟨F,ρ1,H1,d,ρ',R',e,λv H2 H2' s2 R2 r2=>k _ _ _ (s.trans s2) R2 r2⟩
noncomputable def oJ:FA:=λρ=>some ([],ρ)
noncomputable def oa(f:FE) (g:FA):FA:=λρ=>match f ρ with
 |some (d,ρ1)=>match g ρ1 with
  |some (ds,ρ2)=>some (d::ds,ρ2)
  |none=>none
 |none=>none
theorem yy{g:FA}(h:oa f g ρ=some (ds,ρ')):∃d r ρ1,f ρ=some (d,ρ1)/\g ρ1=some (r,ρ')/\ds=d::r:=by
 unfold oa at h;cases e:f ρ with
 |none=>rw[e]at h;cases h
 |some p=>
  obtain⟨x,ρ1⟩:=p;simp only[e]at h;cases e2:g ρ1 with
  |none=>simp only[e2]at h;cases h
  |some q=>obtain⟨y,ρ2⟩:=q;simp only[e2]at h;cases h;exact⟨x,y,ρ1,rfl,e2,rfl⟩
theorem rK:PA X [] (tFA G oJ):=PA.weak uN λσ H Q hh=>by obtain⟨F,ρ,H0,d,ρ',R,e,k⟩:=hh;cases e;exact k _ _ _ (oE.refl _) R o8
theorem qF{g:FA}(ha:PE X e (tF G f))(hr:PA X es (tFA G g))(hs:starEach (e::es) X.env=(false,eval e X.env)::starEach es X.env:=by rfl):PA X (e::es) (tFA G (oa f g)):=PA.weak (qw ha hr hs) λσ H Q hh=>by obtain⟨F,ρ,H0,d,ρ',R,e,k⟩:=hh;obtain⟨x,r,ρ1,e1,e2,rfl⟩:=yy e;exact⟨F,ρ,H0,x,ρ1,R,e1,λv H1 H1' s R' rv=>⟨F,ρ1,H1,r,ρ',R',e2,λxs H2 H2' s2 R2 rs=>k _ _ _ (s.trans s2) R2 (o7 (Rep.mono s2 _ _ rv) rs)⟩⟩
def pE(g:FA):FE:=λρ=>match g ρ with
 |some (ds,ρ')=>if ds.length<=1000 then some (.tup ds,ρ')else none
 |none=>none
def oU(g:FA):FA:=λρ=>match g ρ with
 |some (ds,ρ')=>if ds.length<=1000 then some (ds,ρ')else none
 |none=>none
theorem Sg{x1}{g:FA}(h:PA X es (tFA G g)):PE X (.Tuple es x1 pos) (tF G (pE g)):=PE.weak (RH h) λσ H Q hh=>by
 obtain⟨F,ρ,H0,d,ρ',R,e,k⟩:=hh;unfold pE at e;cases e1:g ρ with
 |none=>simp only[e1]at e;cases e
 |some p=>
  obtain⟨ds,ρ1⟩:=p;simp only[e1]at e;split at e
  ·rename_i hl;cases e;refine⟨F,ρ,H0,_,_,R,e1,λxs H1 H1' s R' rs=>⟨by rw[<-ou rs];exact ue hl,λp hp=>?_⟩⟩;exact k _ _ _ (s.trans (oH (R'.h0none hp) _)) (R'.newIm hp _) (vJ (SqT.of oA) (oq.mono (oH (R'.h0none hp) _) _ _ rs))
  ·cases e
theorem OO{g:FA}(h:PA X es (tFA G g)):PE X (.List es pos) (tFN G (oU g)):=PE.weak (Lm h) λσ H Q hh=>by
 obtain⟨F,ρ,H0,d,ρ',R,e,k⟩:=hh;unfold oU at e;cases e1:g ρ with
 |none=>simp only[e1]at e;cases e
 |some p=>
  obtain⟨ds,ρ1⟩:=p;simp only[e1]at e;split at e
  ·rename_i hl;cases e;refine⟨F,ρ,H0,_,_,R,e1,λxs H1 H1' s R' rs=>⟨by rw[<-ou rs];exact ue hl,λp hp=>?_⟩⟩;exact k _ _ _ _ s (R'.newOwn hp _) oA (R'.h0none hp) (R'.bNone hp) (R'.apart hp) rs
  ·cases e
def cL(g:FA):FE:=λρ=>match g ρ with
 |some (ds,ρ')=>some (.lst ds,ρ')
 |none=>none
theorem OP{g:FA}(h:cL g ρ=some (d,ρ')):∃ds,g ρ=some (ds,ρ')/\d=.lst ds:=by
 unfold cL at h;cases e:g ρ with
 |none=>simp only[e]at h;cases h
 |some p=>obtain⟨ds,ρ1⟩:=p;simp only[e]at h;cases h;exact⟨ds,rfl,rfl⟩
theorem Wa{g:FA}:∀σ H Q,tF G (cL g) σ H Q->tFN G g σ H Q:=λσ H Q hh=>by obtain⟨F,ρ,H0,d,ρ',R,e,k⟩:=hh;obtain⟨ds,e1,rfl⟩:=OP e;refine⟨F,ρ,H0,ds,ρ',R,e1,λp xs H1 H1' s R' hp h0 hb ap rs=>?_⟩;exact k _ _ _ (s.trans (oH h0 _)) (R'.freeze hp h0 hb ap) (uC oA (oq.mono (oH h0 _) _ _ rs))
theorem Sh{g:FA}(h:PE X e (tFN G g)):PE X e (tF G (cL g)):=PE.weak h Wa
end
inductive Out where
 |nx (ρ:aW)|bk (ρ:aW)|ct (ρ:aW)
 |rt (d:D) (ρ:aW)
 |rn (ds:aA) (ρ:aW)
abbrev FS:=aW->Option Out
def IM(G:Bg)(F:Fr)(H0:Hp)(E:Ends):Out->Prop
 |.nx ρ'=>∀σ' H0' H',oE H0 H0'->oN G F σ' ρ' H0' H'->E.nx σ' H'
 |.bk ρ'=>∀σ' H0' H',oE H0 H0'->oN G F σ' ρ' H0' H'->E.bk σ' H'
 |.ct ρ'=>∀σ' H0' H',oE H0 H0'->oN G F σ' ρ' H0' H'->E.ct σ' H'
 |.rt d ρ'=>∀v σ' H0' H',oE H0 H0'->oN G F σ' ρ' H0' H'->Rep G H0' d v->E.rt v H'
 |.rn ds ρ'=>∀p xs σ' H0' H',oE H0 H0'->oN G F σ' ρ' H0' H'->H' p=some (.lst xs)->H0' p=none->F.B p=none->Apart σ' ρ' p->oq G H0' ds xs->E.rt (.ref p) H'
def tFS(G:Bg)(f:FS):TS:=λE σ H=>∃F ρ H0 o,oN G F σ ρ H0 H/\f ρ=some o/\IM G F H0 E o/\(∀p,E.rt p=E.rt p)
variable{H1:Hp}
theorem IM.back{E:Ends}{o:Out}(h:IM G F H0 E o)(s:oE H0 H1):IM G F H1 E o:=by
 cases o with
 |nx ρ=>exact λσ' H0' H' s' R=>h σ' H0' H' (s.trans s') R
 |bk ρ=>exact λσ' H0' H' s' R=>h σ' H0' H' (s.trans s') R
 |ct ρ=>exact λσ' H0' H' s' R=>h σ' H0' H' (s.trans s') R
 |rt d ρ=>exact λv σ' H0' H' s' R=>h v σ' H0' H' (s.trans s') R
 |rn ds ρ=>exact λp xs σ' H0' H' s' R=>h p xs σ' H0' H' (s.trans s') R
theorem PS.weak{e:Stmt}{t t':TS}(h:PS X e t)(w:∀E σ H,t' E σ H->t E σ H):PS X e t':=λpins s σ H D I hq=>h pins s σ H D I (w _ _ _ hq)
theorem PSs.weak{e:List Stmt}{t t':TS}(h:PSs X e t)(w:∀E σ H,t' E σ H->t E σ H):PSs X e t':=λpins s σ H D I hq=>h pins s σ H D I (w _ _ _ hq)
def oQ:FS:=λρ=>some (.nx ρ)
noncomputable def oj(f g:FS):FS:=λρ=>match f ρ with
 |some (.nx ρ')=>g ρ'
 |r=>r
variable{σ:St}{st:Stmt}{tg:Expr}{gs:aA->aW->Option aW}{N:aC}{vs:bt}{np:Nat}
section
variable{X:Cx}{G:Bg}
theorem Si{E:Ends}{H:Hp}(h:tFS G oQ E σ H):E.nx σ H:=by obtain⟨F,ρ,H0,o,R,e,k,_⟩:=h;cases e;exact k _ _ _ (oE.refl _) R
theorem OQ:PSs X [] (tFS G oQ):=PSs.weak Oa λE σ H h=>Si h
theorem LL{rest:List Stmt}{f g:FS}(h1:PS X st (tFS G f))(h2:PSs X rest (tFS G g)):PSs X (st::rest) (tFS G (oj f g)):=PSs.weak (Bx h1 h2) λE σ H h=>by
 obtain⟨F,ρ,H0,o,R,e,k,k2⟩:=h;unfold oj at e;cases e1:f ρ with
 |none=>simp only[e1]at e;cases e
 |some o1=>
  cases o1 with
  |nx ρ1=>simp only[e1]at e;exact⟨F,ρ,H0,_,R,e1,λσ' H0' H' s R'=>⟨F,ρ1,H0',o,R',e,k.back s,k2⟩,k2⟩
  |bk ρ1=>simp only[e1]at e;cases e;exact⟨F,ρ,H0,_,R,e1,k,k2⟩
  |ct ρ1=>simp only[e1]at e;cases e;exact⟨F,ρ,H0,_,R,e1,k,k2⟩
  |rt d ρ1=>simp only[e1]at e;cases e;exact⟨F,ρ,H0,_,R,e1,k,k2⟩
  |rn d ρ1=>simp only[e1]at e;cases e;exact⟨F,ρ,H0,_,R,e1,k,k2⟩
theorem OR{f:FS}(h1:PS X st (tFS G f)):PSs X [st] (tFS G f):=Eu h1
noncomputable def oG(f:FE):FS:=λρ=>match f ρ with
 |some (d,ρ')=>some (.rt d ρ')
 |none=>none
noncomputable def qk(f:FA):FS:=λρ=>match f ρ with
 |some (d,ρ')=>some (.rn d ρ')
 |none=>none
theorem oZ{α:Type}{f:aW->Option (α×aW)}:f ρ=none\/∃d ρ',f ρ=some (d,ρ'):=by
 cases e:f ρ with
 |none=>exact .inl rfl
 |some p=>exact .inr ⟨p.1,p.2,rfl⟩
theorem OS(h:PE X e (tF G f)):PS X (.Return (some e) pos) (tFS G (oG f)):=PS.weak (GZ h) λE σ H hh=>by
 obtain⟨F,ρ,H0,o,R,e,k,k2⟩:=hh;unfold oG at e;rcases oZ (f:=f) (ρ:=ρ)with e1|⟨d,ρ',e1⟩<;>simp only[e1]at e
 ·cases e
 ·cases e;exact⟨F,ρ,H0,d,ρ',R,e1,λv H0' H' s R' r=>k _ _ _ _ s R' r⟩
theorem LM{f:FA}(h:PE X e (tFN G f)):PS X (.Return (some e) pos) (tFS G (qk f)):=PS.weak (GZ h) λE σ H hh=>by
 obtain⟨F,ρ,H0,o,R,e,k,k2⟩:=hh;unfold qk at e;rcases oZ (f:=f) (ρ:=ρ)with e1|⟨d,ρ',e1⟩<;>simp only[e1]at e
 ·cases e
 ·cases e;exact⟨F,ρ,H0,d,ρ',R,e1,λp xs H0' H' s R' h1 h2 h3 h4 h5=>k _ _ _ _ _ s R' h1 h2 h3 h4 h5⟩
noncomputable def o9(f:FE):FS:=λρ=>match f ρ with
 |some (_,ρ')=>some (.nx ρ')
 |none=>none
theorem LN(h:PE X e (tF G f))(hs:swapsWith e none pos.line X.env=pure false:=by rfl):PS X (.Expr e pos) (tFS G (o9 f)):=PS.weak (Iv h hs) λE σ H hh=>by
 obtain⟨F,ρ,H0,o,R,e,k,k2⟩:=hh;unfold o9 at e;rcases oZ (f:=f) (ρ:=ρ)with e1|⟨d,ρ',e1⟩<;>simp only[e1]at e
 ·cases e
 ·cases e;exact⟨F,ρ,H0,d,ρ',R,e1,λv H0' H' s R' r=>k _ _ _ s R'⟩
noncomputable def sIf(c:FT) (f g:FS):FS:=λρ=>match c ρ with
 |some (true,ρ')=>f ρ'
 |some (false,ρ')=>g ρ'
 |none=>none
theorem Sj{c:Expr}{a b:List Stmt}{h:FT}{f g:FS}(hc:PT X c (tFT G h))(ha:PSs X a (tFS G f))(hb:PSs X b (tFS G g)):PS X (.If c a b pos) (tFS G (sIf h f g)):=PS.weak (VF hc ha hb) λE σ H hh=>by
 obtain⟨F,ρ,H0,o,R,e,k,k2⟩:=hh;unfold sIf at e;rcases oZ (f:=h) (ρ:=ρ)with e1|⟨d,ρ',e1⟩
 ·simp only[e1]at e;cases e
 ·refine⟨F,ρ,H0,d,ρ',R,e1,λH0' H' s R'=>?_⟩;cases d with
  |true=>simp only[e1]at e;exact EI ⟨F,ρ',H0',o,R',e,k.back s,k2⟩
  |false=>simp only[e1]at e;exact EH ⟨F,ρ',H0',o,R',e,k.back s,k2⟩
abbrev FG:=D->aW->Option aW
def tFG(G:Bg)(n:Nat)(g:FG):TG:=λv σ H Q=>∃F ρ H0 d ρ',oN G F σ ρ H0 H/\Rep G H0 d v/\g d ρ=some ρ'/\∀σ',σ'.drop n=σ.drop n->oN G F σ' ρ' H0 H->Q σ' H
def LO(G:Bg)(n:Nat)(g:aA->aW->Option aW):TGs:=λvs σ H Q=>∃F ρ H0 ds ρ',oN G F σ ρ H0 H/\oq G H0 ds vs/\g ds ρ=some ρ'/\∀σ',σ'.drop n=σ.drop n->oN G F σ' ρ' H0 H->Q σ' H
theorem PG.weak{t t':TG}(h:PG X e t)(w:∀v σ H Q,t' v σ H Q->t v σ H Q):PG X e t':=λpins s σ H x u Q I r hq=>h pins s σ H x u Q I r (w _ _ _ _ hq)
theorem PGs.weak{e:List Expr}{t t':TGs}(h:PGs X e t)(w:∀v σ H Q,t' v σ H Q->t v σ H Q):PGs X e t':=λpins s σ H x u Q I r hq=>h pins s σ H x u Q I r (w _ _ _ _ hq)
def gN(i:Nat):FG:=λd ρ=>some (ρ.set i (.im d))
theorem FM{α:Type}{l:List α}{n:Nat}{x:α}(h:i<n):(l.set i x).drop n=l.drop n:=by apply mm;intro j;rw[cU,cU,bR,aj (by omega)]
theorem LP(n:Nat)(h:PG X tg (u0 i))(hi:i<n):PG X tg (tFG G n (gN i)):=PG.weak h λv σ H Q hh=>by obtain⟨F,ρ,H0,d,ρ',R,r,e,k⟩:=hh;cases e;exact k _ (FM hi) (R.setIm i r)
def qj:aA->aW->Option aW:=λds ρ=>match ds with
 |[]=>some ρ
 |_=>none
def oK(g:FG)(gs:aA->aW->Option aW):aA->aW->Option aW:=λds ρ=>match ds with
 |d::r=>match g d ρ with
  |some ρ'=>gs r ρ'
  |none=>none
 |[]=>none
theorem OT{n:Nat}(h:PGs X [] VG):PGs X [] (LO G n qj):=PGs.weak h λv σ H Q hh=>by
 obtain⟨F,ρ,H0,ds,ρ',R,r,e,k⟩:=hh;cases ds with
 |nil=>cases e;unfold oq at r;exact⟨r,k _ rfl R⟩
 |cons d ds=>cases e
theorem LQ{n:Nat}{g:FG}(h:PGs X (e::es) (QF (tFG G n g) (LO G n gs))):PGs X (e::es) (LO G n (oK g gs)):=PGs.weak h λv σ H Q hh=>by
 obtain⟨F,ρ,H0,ds,ρ',R,r,e,k⟩:=hh;cases ds with
 |nil=>cases e
 |cons d ds=>
  unfold oq at r;obtain⟨v1,r1,rfl,q1,q2⟩:=r;unfold oK at e;cases e1:g d ρ with
  |none=>simp only[e1]at e;cases e
  |some ρ1=>simp only[e1]at e;exact⟨v1,r1,rfl,F,ρ,H0,d,ρ1,R,q1,e1,λσ' s R'=>⟨F,ρ1,H0,ds,ρ',R',q2,e,λσ'' s' R''=>k _ (s'.trans s) R''⟩⟩
def gT(gs:aA->aW->Option aW)(n:Nat):FG:=λd ρ=>match d with
 |.tup ds=>if ds.length=n then gs ds ρ else none
 |_=>none
theorem OU{n m:Nat}{k:Nat}(h:PG X (.Tuple es k pos) (Rk G.K m (LO G n gs))):PG X (.Tuple es k pos) (tFG G n (gT gs m)):=PG.weak h λv σ H Q hh=>by
 obtain⟨F,ρ,H0,d,ρ',R,r,e,k⟩:=hh;cases d with
 |tup ds=>
  unfold gT at e;simp only at e;split at e
  ·rename_i hl;unfold Rep at r;obtain⟨a,xs,rfl,h1,h2⟩:=r;exact⟨a,xs,rfl,SqT.mono R.sub h1,by rw[<-ou h2];exact hl,F,ρ,H0,ds,ρ',R,h2,e,k⟩
  ·cases e
 |_=>cases e
def Ho(f:FE)(g:FG):FS:=λρ=>match f ρ with
 |some (d,ρ')=>match g d ρ' with
  |some ρ2=>some (.nx ρ2)
  |none=>none
 |none=>none
theorem OV{g:FG}{n:Nat}(h:PS X st (zN (tF G f) (tFG G n g))):PS X st (tFS G (Ho f g)):=PS.weak h λE σ H hh=>by
 obtain⟨F,ρ,H0,o,R,e,k,k2⟩:=hh;unfold Ho at e;rcases oZ (f:=f) (ρ:=ρ)with e1|⟨d,ρ',e1⟩<;>simp only[e1]at e
 ·cases e
 ·cases e2:g d ρ' with
  |none=>simp only[e2]at e;cases e
  |some ρ2=>simp only[e2]at e;cases e;exact⟨F,ρ,H0,d,ρ',R,e1,λv H0' H' s R' r=>⟨F,ρ',H0',d,ρ2,R',r,e2,λσ' _ R2=>k _ _ _ s R2⟩⟩
def oV(i:Nat)(f:FE):FS:=λρ=>match f ρ with
 |some (d,ρ')=>some (.nx (ρ'.set i (.im d)))
 |none=>none
theorem IP(h:PS X st (zN (tF G f) (u0 i))):PS X st (tFS G (oV i f)):=PS.weak h λE σ H hh=>by
 obtain⟨F,ρ,H0,o,R,e,k,k2⟩:=hh;unfold oV at e;rcases oZ (f:=f) (ρ:=ρ)with e1|⟨d,ρ',e1⟩<;>simp only[e1]at e
 ·cases e
 ·cases e;exact⟨F,ρ,H0,d,ρ',R,e1,λv H0' H' s R' r=>k _ _ _ s (R'.setIm i r)⟩
def qU(i:Nat)(f:FA):FS:=λρ=>match f ρ with
 |some (d,ρ')=>some (.nx (ρ'.set i (.ls d)))
 |none=>none
theorem LR{f:FA}(h:PS X st (zN (tFN G f) (u0 i))):PS X st (tFS G (qU i f)):=PS.weak h λE σ H hh=>by
 obtain⟨F,ρ,H0,o,R,e,k,k2⟩:=hh;unfold qU at e;rcases oZ (f:=f) (ρ:=ρ)with e1|⟨d,ρ',e1⟩<;>simp only[e1]at e
 ·cases e
 ·cases e;exact⟨F,ρ,H0,d,ρ',R,e1,λp xs H0' H' s R' h1 h2 h3 h4 h5=>k _ _ _ s (R'.setLs i h1 h2 h3 h4 h5)⟩
def stE(n:Nat)(ds:aA):aW:=ds.map Sl.im++dH (n - ds.length) .un
def fnD(np n:Nat)(f:FS):aA->Option D:=λds=>if ds.length=np then match f (stE n ds)with
 |some (.rt d _)=>some d
 |some (.rn ds _)=>some (.lst ds)
 |some (.nx _)=>some .non
 |_=>none
 else none
def fnN(np n:Nat)(f:FS):aA->Option aA:=λds=>if ds.length=np then match f (stE n ds)with
 |some (.rn ds _)=>some ds
 |_=>none
 else none
def spF(G:Bg)(g:aA->Option D):Sp:=λvs H Q _=>∃H0 ds d,oE H0 H/\oq G H0 ds vs/\g ds=some d/\
 ∀v H0' H',oE H0 H0'->oE H0' H'->oE H H'->(∀b o,H0' b=some o->H0 b=some o\/H b=none)->Rep G H0' d v->Q v H'
def spN(G:Bg)(g:aA->Option aA):Sp:=λvs H Q _=>∃H0 ds d,oE H0 H/\oq G H0 ds vs/\g ds=some d/\
 ∀p xs H0' H',oE H0 H0'->oE H0' H'->oE H H'->(∀b o,H0' b=some o->H0 b=some o\/H b=none)->H p=none->H' p=some (.lst xs)->H0' p=none->oq G H0' d xs->Q (.ref p) H'
theorem Br{n:Nat}{s:Sl}(h:(stE n ds)[i]?=some s):s=.un\/∃d,ds[i]?=some d/\s=.im d:=by
 unfold stE at h;by_cases hi:i<ds.length
 ·rw[cJ (by simpa using hi),bu,aP hi]at h;cases h;exact .inr ⟨_,aP hi,rfl⟩
 ·rw[cA (by simpa using hi),eZ]at h;split at h
  ·cases h;exact .inl rfl
  ·cases h
theorem rh{v:V}(h:vs[i]?=some v):((L2.start N vs)[i]?).join=some v:=by unfold L2.start;have hi:=(bQ.mp h).1;rw[cJ (by simpa using hi),bu,h];rfl
theorem DN{H:Hp}(s:oE H0 H)(r:oq G H0 ds vs)(hl:vs.length<=N.length):oN G ⟨H0,H,[]⟩ (L2.start N vs) (stE N.length ds) H0 H where
 sub:=s
 g0:=oE.refl _
 keep:=λb o e _=>e
 fr:=λb o e=>.inl e
 am:=λa h=>by cases h
 len:=by unfold L2.start stE;rw[aD,aD,ah,ah,cb,cb,ou r]
 sl:=λi t e=>by
  rcases Br e with rfl|⟨d,e1,rfl⟩
  ·trivial
  ·obtain⟨v,e2,e3⟩:=qe r e1;exact⟨v,rh e2,e3⟩
 ap:=λi j t u a _ e _ ht=>by rcases Br e with rfl|⟨d,_,rfl⟩<;>cases ht
theorem FN{n:Nat}{f:FS}(h:fnD np n f ds=some d):ds.length=np/\((∃ρ,f (stE n ds)=some (.rt d ρ))\/(∃xs ρ,f (stE n ds)=some (.rn xs ρ)/\d=.lst xs)\/∃ρ,f (stE n ds)=some (.nx ρ)/\d=.non):=by
 unfold fnD at h;split at h
 ·rename_i hl;refine⟨hl,?_⟩;split at h
  ·rename_i e;cases h;exact .inl ⟨_,e⟩
  ·rename_i e;cases h;exact .inr (.inl ⟨_,_,e,rfl⟩)
  ·rename_i e;cases h;exact .inr (.inr ⟨_,e,rfl⟩)
  ·cases h
 ·cases h
theorem FP{n:Nat}{f:FS}{xs:aA}(h:fnN np n f ds=some xs):ds.length=np/\∃ρ,f (stE n ds)=some (.rn xs ρ):=by
 unfold fnN at h;split at h
 ·rename_i hl;refine⟨hl,?_⟩;split at h
  ·rename_i e;cases h;exact⟨_,e⟩
  ·cases h
 ·cases h
end
variable{E:XK}
theorem OW{f:FS}{H:Hp}{Q:VK}(hN:np<=N.length)(h:spF G (fnD np N.length f) vs H Q E):tFS G f { nx:=λ_ H'=>Q .non H',rt:=Q } (L2.start N vs) H:=by
 obtain⟨H0,ds,d,s,r,e,k⟩:=h;obtain⟨hl,e'⟩:=FN e;clear e;have R:=DN (N:=N) s r (by rw[<-ou r,hl];exact hN);have fin:∀{σ':St} {ρ':aW} {H0' H':Hp},oN G ⟨H0,H,[]⟩ σ' ρ' H0' H'->oE H H'/\oE H0' H'/\∀b o,H0' b=some o->H0 b=some o\/H b=none:=λR'=>⟨λb o e=>R'.keep b o e (by simp),R'.sub,R'.fr⟩;rcases e' with ⟨ρ,e⟩|⟨xs,ρ,e,rfl⟩|⟨ρ,e,rfl⟩
 ·refine⟨_,_,H0,_,R,e,λv σ' H0' H' s' R' rv=>?_,λ_=>rfl⟩;obtain⟨h1,h2,h3⟩:=fin R';exact k v H0' H' s' h2 h1 h3 rv
 ·refine⟨_,_,H0,_,R,e,λp ys σ' H0' H' s' R' hp h0 hb ap rs=>?_,λ_=>rfl⟩;have R2:=R'.freeze hp h0 hb ap;obtain⟨h1,h2,h3⟩:=fin R2;exact k _ _ H' (s'.trans (oH h0 _)) h2 h1 h3 (uC oA (oq.mono (oH h0 _) _ _ rs))
 ·refine⟨_,_,H0,_,R,e,λσ' H0' H' s' R'=>?_,λ_=>rfl⟩;obtain⟨h1,h2,h3⟩:=fin R';exact k _ H0' H' s' h2 h1 h3 y4
theorem OX{f:FS}{H:Hp}{Q:VK}(hN:np<=N.length)(h:spN G (fnN np N.length f) vs H Q E):tFS G f { nx:=λ_ H'=>Q .non H',rt:=Q } (L2.start N vs) H:=by obtain⟨H0,ds,d,s,r,e,k⟩:=h;obtain⟨hl,ρ,e⟩:=FP e;have R:=DN (N:=N) s r (by rw[<-ou r,hl];exact hN);refine⟨_,_,H0,_,R,e,λp ys σ' H0' H' s' R' hp h0 hb ap rs=>?_,λ_=>rfl⟩;exact k p ys H0' H' s' R'.sub (λb o e=>R'.keep b o e (by simp)) R'.fr hb hp h0 rs
theorem Wb{g:aA->Option D}(hg:∀ds d,g ds=some d->ds.length=np):∀vs H Q E,spF G g vs H Q E->vs.length=np:=λvs H Q E h=>by obtain⟨H0,ds,d,_,r,e,_⟩:=h;rw[<-ou r];exact hg _ _ e
theorem Wc{g:aA->Option aA}(hg:∀ds d,g ds=some d->ds.length=np):∀vs H Q E,spN G g vs H Q E->vs.length=np:=λvs H Q E h=>by obtain⟨H0,ds,d,_,r,e,_⟩:=h;rw[<-ou r];exact hg _ _ e
theorem OY{n:Nat}{f:FS}:∀ds d,fnD np n f ds=some d->ds.length=np:=λ_ _ h=>(FN h).1
theorem OZ{n:Nat}{f:FS}:∀ds d,fnN np n f ds=some d->ds.length=np:=λ_ _ h=>(FP h).1
def zU{α:Type}(g:aA->Option α)(a:FA):aW->Option (α×aW):=λρ=>match a ρ with
 |some (ds,ρ')=>match g ds with
  |some d=>some (d,ρ')
  |none=>none
 |none=>none
abbrev om(g:aA->Option D)(a:FA):FE:=zU g a
abbrev pb(g:aA->Option aA)(a:FA):FA:=zU g a
theorem yz{α:Type}{g:aA->Option α}{a:FA}{d:α}(h:zU g a ρ=some (d,ρ')):∃ds,a ρ=some (ds,ρ')/\g ds=some d:=by
 unfold zU at h;rcases oZ (f:=a) (ρ:=ρ)with e1|⟨ds,ρ1,e1⟩<;>simp only[e1]at h
 ·cases h
 ·cases e2:g ds with
  |none=>simp only[e2]at h;cases h
  |some x=>simp only[e2]at h;cases h;exact⟨ds,e1,e2⟩
variable{dvs:bt}{dds:aA}
section
variable{X:Cx}{G:Bg}
theorem O0{g:aA->Option D}{a:FA}(hd:∀H,oq G H dds dvs):∀σ H Q,tF G (om (λds=>g (ds++dds)) a) σ H Q->wJ (spF G g) dvs E (tFA G a) σ H Q:=λσ H Q hh=>by obtain⟨F,ρ,H0,d,ρ',R,e,k⟩:=hh;obtain⟨ds,e1,e2⟩:=yz e;refine⟨F,ρ,H0,ds,ρ',R,e1,λxs H1 H1' s R' rs=>⟨H1,ds++dds,d,R'.sub,qE rs (hd _),e2,λv H2 H2' s1 s2 s3 fr rv=>?_⟩⟩;exact k v H2 H2' (s.trans s1) (R'.grow s3 s1 s2 fr) rv
theorem O1{g:aA->Option aA}{a:FA}(hd:∀H,oq G H dds dvs):∀σ H Q,tFN G (pb (λds=>g (ds++dds)) a) σ H Q->wJ (spN G g) dvs E (tFA G a) σ H Q:=λσ H Q hh=>by obtain⟨F,ρ,H0,d,ρ',R,e,k⟩:=hh;obtain⟨ds,e1,e2⟩:=yz e;refine⟨F,ρ,H0,ds,ρ',R,e1,λxs H1 H1' s R' rs=>⟨H1,ds++dds,d,R'.sub,qE rs (hd _),e2,λp ys H2 H2' s1 s2 s3 fr hn hp h0 rv=>?_⟩⟩;exact k p ys H2 H2' (s.trans s1) (R'.grow s3 s1 s2 fr) hp h0 (R'.bNone hn) (R'.apart hn) rv
end
variable{ff:FE}{m:Str}{ta:TE}{apos:Pos}{c:Nat}
section
variable{X:Cx}{G:Bg}
theorem O2{g:aA->Option D}{a:FA}(hd:∀H,oq G H dds dvs)(h:PE X e (wJ (spF G g) dvs E (tFA G a))):PE X e (tF G (om (λds=>g (ds++dds)) a)):=PE.weak h (O0 hd)
theorem LS{g:aA->Option aA}{a:FA}(hd:∀H,oq G H dds dvs)(h:PE X e (wJ (spN G g) dvs E (tFA G a))):PE X e (tFN G (pb (λds=>g (ds++dds)) a)):=PE.weak h (O1 hd)
theorem J8{g:aA->Option aA}(h:PE X e (wJ (spN G g) [] E Ft)):PE X e (tFN G (pb g oJ)):=PE.weak h λσ H Q hh=>by obtain⟨F,ρ,H0,d,ρ',R,e,k⟩:=hh;obtain⟨ds,e1,e2⟩:=yz e;cases e1;exact⟨H0,[],d,R.sub,o8,e2,λp ys H2 H2' s1 s2 s3 fr hn hp h0 rv=>k p ys H2 H2' s1 (R.grow s3 s1 s2 fr) hp h0 (R.bNone hn) (R.apart hn) rv⟩
def J9:aC->aA->Str->Option D
 |n::ns,d::ds,f=>if n=f then some d else J9 ns ds f
 |_,_,_=>none
theorem DO{H:Hp}:∀{ns:aC} {ds:aA} {xs:bt} {f:Str} {d:D},oq G H ds xs->J9 ns ds f=some d->∃v,(ns.zip xs).lookup f=some v/\Rep G H d v
 |[],ds,xs,f,d,r,e=>by simp[J9]at e
 |n::ns,[],xs,f,d,r,e=>by simp[J9]at e
 |n::ns,d'::ds,xs,f,d,r,e=>by
  unfold oq at r;obtain⟨v,q,rfl,h1,h2⟩:=r;unfold J9 at e;by_cases hn:n=f
  ·rw[ai hn]at e;cases e;subst hn;exact⟨v,by simp[cP],h1⟩
  ·rw[aj hn]at e;obtain⟨w,e1,e2⟩:=DO h2 e;refine⟨w,?_,e2⟩;have hb:(f==n)=false:=beq_eq_false_iff_ne.mpr λz=>hn z.symm;simp only[c8,cP,hb];exact e1
def oX(ok:Nat->Bool)(f:Str):D->Option D
 |.obj c ns ds=>if ok c=true then J9 ns ds f else none
 |_=>none
theorem LU{f:Str}{ok:Nat->Bool}(he:PE X e (tF G ff))(hc:∀c,ok c=true->Cls X.K (G.ca c)/\ud X.K (G.ca c) f)(hb:attributeBase e f X.env (eval e X.env)=eval e X.env:=by rfl):PE X (.Attribute e f pos) (tF G (c1 (oX ok f) ff)):=PE.weak (RF he hb) λσ H Q hh=>by
 obtain⟨F,ρ,H0,d,ρ',R,e,k⟩:=hh;obtain⟨x,e1,e2⟩:=Bq e;cases x with
 |obj c ns ds=>
  unfold oX at e2;simp only at e2;split at e2
  ·rename_i hk;refine⟨F,ρ,H0,_,ρ',R,e1,λv H1 H1' s R' r=>?_⟩;unfold Rep at r;obtain⟨a,dx,xs,rfl,h1,h2,h3⟩:=r;obtain⟨w,l1,l2⟩:=DO h3 e2;exact⟨a,_,dx,_,w,rfl,R'.sub _ _ h1,(hc c hk).1,(hc c hk).2,l1,k _ _ _ s R' l2⟩
  ·cases e2
 |_=>cases e2
def MOk(X:Cx)(C:Addr)(m:Str)(sp:Sp)(dvs:bt)(E:XK):Prop:=∃(k:Nat) (f:Addr) (fd:bM) (ps:aC) (ds:List aa),Cls X.K C/\Meth X.K C m f/\sH X.prog X.w X.K X.mg X.base CX0 k f fd ps sp/\p8 k X.A/\Binds X.K fd ps ds/\Vals dvs ds/\Passes CX0 X E
def pH(g:Nat->Option (aA->Option D))(m:Str)(f:FE)(a:FA):FE:=λρ=>match f ρ with
 |some (.obj c ns ds,ρ1)=>match g c with
  |some h=>if ns.contains m=true then none else match a ρ1 with
   |some (es,ρ2)=>match h (.obj c ns ds::es)with
    |some d=>some (d,ρ2)
    |none=>none
   |none=>none
  |none=>none
 |_=>none
theorem BU{g:Nat->Option (aA->Option D)}{a:FA}(h:pH g m f a ρ=some (d,ρ')):
  ∃c ns ds ρ1 hh es,f ρ=some (.obj c ns ds,ρ1)/\g c=some hh/\ns.contains m=false/\a ρ1=some (es,ρ')/\hh (.obj c ns ds::es)=some d:=by
 unfold pH at h;split at h
 ·rename_i c ns ds ρ1 e1;cases e2:g c with
  |none=>simp only[e2]at h;cases h
  |some hh=>
   simp only[e2]at h;cases e3:ns.contains m with
   |true=>simp only[e3,if_true]at h;cases h
   |false=>
    simp only[e3,eD,if_false]at h;rcases oZ (f:=a) (ρ:=ρ1)with e4|⟨es,ρ2,e4⟩<;>simp only[e4]at h
    ·cases h
    ·cases e5:hh (.obj c ns ds::es)with
     |none=>simp only[e5]at h;cases h
     |some x=>simp only[e5]at h;cases h;exact⟨c,ns,ds,ρ1,hh,es,e1,e2,e3,e4,e5⟩
 ·cases h
theorem yA{m:Str}:∀{ns:aC} {xs:bt},ns.contains m=false->(ns.zip xs).lookup m=none
 |[],xs,h=>rfl
 |n::ns,[],h=>rfl
 |n::ns,x::xs,h=>by rw[ma,jq]at h;simp only[c8,cP,h.1];exact yA h.2
theorem LV{o:Expr}{t:TA}{pl:Sem Bool}(T:Addr->Sp->Prop)(hT:∀C sp,T C sp->MOk X C m sp dvs E)(he:PE X o ta)(ha:PA X (e::es) t)
  (hst:starEach (e::es) X.env=(false,eval e X.env)::starEach es X.env:=by rfl) (hpl:(backTo pos (starEach es X.env)).any (·.1)=false:=by rfl)
  (ht:eval (.Call (.Attribute o m apos) (e::es) [] pos) X.env=(do
   let ov<-eval o X.env
   standAt apos.atName
   let (f,first)<-holding [ov] (getMethod ov m pl)
   callWith pos f first (backTo pos (starEach (e::es) X.env)) (backToKw pos (keywordEach [] X.env))):=by rfl):
  PE X (.Call (.Attribute o m apos) (e::es) [] pos) (λσ H Q=>ta σ H λx H1=>∃a C dx fs sp,x=.ref a/\H1 a=some (.ins C dx fs)/\T C sp/\fs.lookup m=none/\t σ H1 λvs H2=>sp (x::(vs++dvs)) H2 Q E):=by
 intro pins s σ H Q I h;refine mQ (pl:=pl) (thn (he pins s σ H _ I h) λu s1 ⟨x,H1,I1,rx,a,C,dx,fs,sp,ex,ea,ht,l,q⟩=>?_) ht;obtain⟨k,f,fd,ps,ds,c,hm,F,hr,hb,hd,hx⟩:=hT C sp ht;subst ex;obtain rfl:u=Value.ref a:=rx;refine BB I1 ea c hm l ?_;refine j2 (first:=[.ref a]) (h₀:=X.base) I.ok.mod.kin hm.kp (thn (ha pos pins s1 σ H1 _ I1 q) λus s2 ⟨vs,H2,I2,r,q2⟩=>⟨I2.kIn,?_⟩) hst hpl;exact Ew (us:=.ref a::us) (vs:=.ref a::vs) F hr hb hd hx I2 (.cons rfl r) q2
theorem Ka{o:Expr}{pl:Sem Bool}(T:Addr->Sp->Prop)(hT:∀C sp,T C sp->MOk X C m sp dvs E)(he:PE X o ta)
  (ht:eval (.Call (.Attribute o m apos) [] [] pos) X.env=(do
   let ov<-eval o X.env
   standAt apos.atName
   let (f,first)<-holding [ov] (getMethod ov m pl)
   callWith pos f first (backTo pos (starEach [] X.env)) (backToKw pos (keywordEach [] X.env))):=by rfl):
  PE X (.Call (.Attribute o m apos) [] [] pos) (λσ H Q=>ta σ H λx H1=>∃a C dx fs sp,x=.ref a/\H1 a=some (.ins C dx fs)/\T C sp/\fs.lookup m=none/\sp (x::dvs) H1 Q E):=by
 intro pins s σ H Q I h;refine mQ (pl:=pl) (thn (he pins s σ H _ I h) λu s1 ⟨x,H1,I1,rx,a,C,dx,fs,sp,ex,ea,ht,l,q⟩=>?_) ht;obtain⟨k,f,fd,ps,ds,c,hm,F,hr,hb,hd,hx⟩:=hT C sp ht;subst ex;obtain rfl:u=Value.ref a:=rx;refine BB I1 ea c hm l ?_;exact jP (first:=[.ref a]) I1.kIn hm.kp (Ew (us:=[.ref a]) (vs:=[.ref a]) F hr hb hd hx I1 (.cons rfl .nil) q)
def MT(G:Bg)(g:Nat->Option (aA->Option D)):Addr->Sp->Prop:=λC sp=>∃c h,g c=some h/\C=G.ca c/\sp=spF G h
theorem O3{o:Expr}{a:FA}{g:Nat->Option (aA->Option D)}(h:PE X (.Call (.Attribute o m apos) (e::es) [] pos) (λσ H Q=>tF G f σ H λx H1=>∃a' C dx fs sp,x=.ref a'/\H1 a'=some (.ins C dx fs)/\MT G g C sp/\fs.lookup m=none/\tFA G a σ H1 λvs H2=>sp (x::(vs++[])) H2 Q E)):
  PE X (.Call (.Attribute o m apos) (e::es) [] pos) (tF G (pH g m f a)):=PE.weak h λσ H Q hh=>by
 obtain⟨F,ρ,H0,d,ρ',R,e,k⟩:=hh;obtain⟨c,ns,ds,ρ1,hh,es',e1,e2,e3,e4,e5⟩:=BU e;refine⟨F,ρ,H0,_,ρ1,R,e1,λv H1 H1' s R' r=>?_⟩;have r0:=r;unfold Rep at r;obtain⟨a',dx,xs,rfl,h1,h2,h3⟩:=r;refine⟨a',_,dx,_,_,rfl,R'.sub _ _ h1,⟨c,hh,e2,rfl,rfl⟩,yA e3,F,ρ1,H1,es',ρ',R',e4,λys H2 H2' s2 R2 rs=>?_⟩;show spF G hh (V.ref a'::(ys++[])) H2' Q E;rw[br];exact⟨H2,_,d,R2.sub,o7 (Rep.mono s2 _ _ r0) rs,e5,λv H3 H3' t1 t2 t3 fr rv=>k v H3 H3' (s.trans (s2.trans t1)) (R2.grow t3 t1 t2 fr) rv⟩
theorem LW{o:Expr}{g:Nat->Option (aA->Option D)}(h:PE X (.Call (.Attribute o m apos) [] [] pos) (λσ H Q=>tF G f σ H λx H1=>∃a' C dx fs sp,x=.ref a'/\H1 a'=some (.ins C dx fs)/\MT G g C sp/\fs.lookup m=none/\sp (x::[]) H1 Q E)):
  PE X (.Call (.Attribute o m apos) [] [] pos) (tF G (pH g m f oJ)):=PE.weak h λσ H Q hh=>by
 obtain⟨F,ρ,H0,d,ρ',R,e,k⟩:=hh;obtain⟨c,ns,ds,ρ1,hh,es',e1,e2,e3,e4,e5⟩:=BU e;cases e4;refine⟨F,ρ,H0,_,_,R,e1,λv H1 H1' s R' r=>?_⟩;have r0:=r;unfold Rep at r;obtain⟨a',dx,xs,rfl,h1,h2,h3⟩:=r;refine⟨a',_,dx,_,_,rfl,R'.sub _ _ h1,⟨c,hh,e2,rfl,rfl⟩,yA e3,?_⟩;exact⟨H1,_,d,R'.sub,o7 r0 o8,e5,λv H3 H3' t1 t2 t3 fr rv=>k v H3 H3' (s.trans t1) (R'.grow t3 t1 t2 fr) rv⟩
def spI(G:Bg)(c:Nat)(g:aA->Option (aC×aA)):Sp:=λvs H Q _=>∃(p dx:Addr) (us:bt) (H0:Hp) (ds:aA) (ns:aC) (es:aA),vs=.ref p::us/\H p=some (.ins (G.ca c) dx [])/\H0 p=none/\oE H0 H/\oq G H0 ds us/\g ds=some (ns,es)/\
 ∀ys dx' H0' H',oE H0 H0'->oE H0' H'->(∀b o,H b=some o->b≠p->H' b=some o)->(∀b o,H0' b=some o->H0 b=some o\/H b=none)->H0' p=none->H' p=some (.ins (G.ca c) dx' (ns.zip ys))->ns.length=ys.length->oq G H0' es ys->Q .non H'
def pj(c:Nat)(g:aA->Option (aC×aA))(a:FA):FE:=λρ=>match a ρ with
 |some (ds,ρ')=>match g ds with
  |some (ns,es)=>some (.obj c ns es,ρ')
  |none=>none
 |none=>none
theorem O4{g:aA->Option (aC×aA)}{a:FA}(hd:∀H,oq G H dds dvs)(h:PE X e (QH (G.ca c) (spI G c g) dvs E (tFA G a))):PE X e (tF G (pj c (λds=>g (ds++dds)) a)):=PE.weak h λσ H Q hh=>by
 obtain⟨F,ρ,H0,d,ρ',R,e,k⟩:=hh;unfold pj at e;rcases oZ (f:=a) (ρ:=ρ)with e1|⟨ds,ρ1,e1⟩<;>simp only[e1]at e
 ·cases e
 ·cases e2:g (ds++dds)with
  |none=>simp only[e2]at e;cases e
  |some q=>
   obtain⟨ns,es⟩:=q;simp only[e2]at e;cases e;refine⟨F,ρ,H0,ds,ρ',R,e1,λxs H1 H1' s R' rs x dx hx hdx ne=>?_⟩;have hx2:(upd H1' dx (.own x)) x=none:=by rw[oB (λz=>ne z.symm)];exact hx
   have sx:oE H1' (upd (upd H1' dx (.own x)) x (.ins (G.ca c) dx [])):=(oH hdx _).trans (oH hx2 _);refine⟨x,dx,_,H1,ds++dds,ns,es,rfl,oA,R'.h0none hx,R'.sub.trans sx,qE rs (hd _),e2,λys dx' H2 H2' t1 t2 t3 fr h0 hp hl ry=>⟨rfl,?_⟩⟩;have t4:oE H1' H2':=λb o e=>t3 b o (sx b o e) (qS e hx);have fr1:∀b o,H2 b=some o->H1 b=some o\/H1' b=none:=λb o e=>by
    rcases fr b o e with q|q
    ·exact .inl q
    ·cases z:H1' b with
     |none=>exact .inr rfl
     |some u=>rw[sx b u z]at q;cases q
   have R2:=R'.grow t4 t1 t2 fr1;have hb:F.B x=none:=R'.bNone hx;have R3:=R2.freeze hp h0 hb (λi t ei to z=>R'.apart hx i t ei to z);refine k _ _ _ (s.trans (t1.trans (oH h0 _))) R3 ?_;unfold Rep;exact⟨x,dx',ys,rfl,oA,hl,oq.mono (oH h0 _) _ _ ry⟩
def pA(c0:Nat)(i:Nat)(f:Str)(ff:FE):FS:=λρ=>match ff ρ with
 |some (d,ρ1)=>match ρ1[i]? with
  |some (.ob c ns ds)=>if c=c0 then if ns.contains f=true then none else if ds.length=ns.length then if ns.length<900 then some (.nx (ρ1.set i (.ob c (ns++[f]) (ds++[d]))))else none else none else none
  |_=>none
 |none=>none
theorem FQ{f:Str}{v:V}:∀{ns:aC} {xs:bt},ns.contains f=false->ns.length=xs.length->u4 f v (ns.zip xs)=(ns++[f]).zip (xs++[v])
 |[],[],h,l=>rfl
 |[],x::xs,h,l=>by cases l
 |n::ns,[],h,l=>by cases l
 |n::ns,x::xs,h,l=>by
  rw[ma,jq]at h;have hn:¬n=f:=λz=>by rw[z]at h;simp at h
  have ih:=FQ (f:=f) (v:=v) (ns:=ns) (xs:=xs) h.2 (by simpa using l);show u4 f v ((n,x)::ns.zip xs)=_;rw[show u4 f v ((n,x)::ns.zip xs)=(if n=f then (n,v)::ns.zip xs else (n,x)::u4 f v (ns.zip xs)) from rfl,aj hn,ih];rfl
theorem O5{c0:Nat}{f:Str}(h:PS X st (VQ X.K (uM i) (tF G ff) f))(hc:Cls X.K (G.ca c0)/\ud X.K (G.ca c0) f):PS X st (tFS G (pA c0 i f ff)):=PS.weak h λE σ H hh=>by
 obtain⟨F,ρ,H0,o,R,e,k,k2⟩:=hh;unfold pA at e;rcases oZ (f:=ff) (ρ:=ρ)with e1|⟨d,ρ1,e1⟩<;>simp only[e1]at e
 ·cases e
 ·split at e
  ·rename_i c ns ds e2;split at e
   ·rename_i hcc;subst hcc;split at e
    ·cases e
    rename_i hnc;split at e
    ·rename_i hl;split at e
     ·rename_i h9;cases e;refine⟨F,ρ,H0,d,ρ1,R,e1,λv H1 H1' s R' r=>?_⟩;obtain⟨a,dx,xs,e3,e4,e5,e6,e7,e8⟩:=R'.sl i _ e2;refine⟨_,qT e3,a,_,dx,_,rfl,e4,hc.1,hc.2,by rw[eJ];omega,?_⟩;have hnf:ns.contains f=false:=by simpa using hnc
      rw[FQ hnf e7];refine k _ _ _ s (R'.mut e2 rfl e3 (λH' hH=>?_) rfl);exact⟨a,dx,xs++[v],rfl,hH,e5,e6,by rw[aD,aD,e7];rfl,qE e8 (o7 r o8)⟩
     ·cases e
    ·cases e
   ·cases e
  ·cases e
def stI(c n:Nat)(ds:aA):aW:=.ob c [] []::stE (n - 1) ds
def fnI(c np n:Nat)(f:FS):aA->Option (aC×aA):=λds=>if ds.length=np then match f (stI c n ds)with
 |some (.nx ρ)=>match (ρ:aW)[0]? with
  |some (Sl.ob c' ns es)=>if c'=c then if ns.length=es.length then some (ns,es)else none else none
  |_=>none
 |_=>none
 else none
theorem BV{n:Nat}{f:FS}{q:aC×aA}(h:fnI c np n f ds=some q):ds.length=np/\∃ρ,f (stI c n ds)=some (.nx ρ)/\ρ[0]?=some (.ob c q.1 q.2)/\q.1.length=q.2.length:=by
 unfold fnI at h;split at h
 ·rename_i hl;refine⟨hl,?_⟩;split at h
  ·rename_i ρ e;split at h
   ·rename_i c' ns es e2;split at h
    ·rename_i hc;split at h
     ·rename_i h3;subst hc;cases h;exact⟨ρ,e,e2,h3⟩
     ·cases h
    ·cases h
   ·cases h
  ·cases h
 ·cases h
theorem IQ{f:FS}{H:Hp}{Q:VK}(hN:np+1<=N.length)(h:spI G c (fnI c np N.length f) vs H Q E):tFS G f { nx:=λ_ H'=>Q .non H',rt:=Q } (L2.start N vs) H:=by
 obtain⟨p,dx,us,H0,ds,ns,es,rfl,hp,h0,s,r,e,k⟩:=h;obtain⟨hl,ρ,e1,e2,e3⟩:=BV e;have hul:us.length=np:=by rw[<-ou r];exact hl
 have gets:∀{i:Nat} {t:Sl},(stI c N.length ds)[i]?=some t->(i=0/\t=.ob c [] [])\/t=.un\/∃(j:Nat) (d:D),i=j+1/\ds[j]?=some d/\t=.im d:=λ{i t} e=>by
  cases i with
  |zero=>cases e;exact .inl ⟨rfl,rfl⟩
  |succ j=>
   have e':(stE (N.length - 1) ds)[j]?=some t:=e;rcases Br e' with rfl|⟨d,e1,rfl⟩
   ·exact .inr (.inl rfl)
   ·exact .inr (.inr ⟨j,d,rfl,e1,rfl⟩)
 have R:oN G ⟨H0,H,[p]⟩ (L2.start N (.ref p::us)) (stI c N.length ds) H0 H:={
  sub:=s
  g0:=oE.refl _
  keep:=λb o e _=>e
  fr:=λb o e=>.inl e
  am:=λa ha=>by
   have ea:a=p:=by simpa using ha
   subst ea;exact⟨_,hp⟩
  len:=by unfold L2.start stI stE;simp only[aD,ah,cb,aK];have:=ou r;omega
  sl:=λi t e=>by
   rcases gets e with ⟨rfl,rfl⟩|rfl|⟨j,d,rfl,e1,rfl⟩
   ·exact⟨p,dx,[],rh rfl,hp,h0,by simp,rfl,o8⟩
   ·trivial
   ·obtain⟨v,e2,e3⟩:=qe r e1;exact⟨v,rh (by simpa using e2),e3⟩
  ap:=λi j t u a hij ei ej ht hu=>by
   rcases gets ei with ⟨rfl,rfl⟩|rfl|⟨_,_,_,_,rfl⟩
   ·rcases gets ej with ⟨rfl,rfl⟩|rfl|⟨_,_,_,_,rfl⟩
    ·exact aq rfl hij
    ·cases hu
    ·cases hu
   ·cases ht
   ·cases ht }
 refine⟨_,_,H0,_,R,e1,λσ' H0' H' s' R'=>?_,λ_=>rfl⟩;obtain⟨a,dx',ys,q1,q2,q3,q4,q5,q6⟩:=R'.sl 0 _ e2;have ea:a=p:=by simpa using q4
 subst ea;exact k ys dx' H0' H' s' R'.sub (λb o e n=>R'.keep b o e (by simpa using n)) R'.fr q3 q2 q5 q6
end
def Sl.L:Sl->Option aA
 |.ls ds=>some ds
 |.pm ds=>some ds
 |_=>none
def Sl.putL:Sl->aA->Sl
 |.pm _,ds=>.pm ds
 |_,ds=>.ls ds
theorem Sl.L_own{s:Sl}(h:s.L=some ds):s.own=true:=by cases s<;>first|rfl|cases h
theorem Sl.putL_L{s:Sl}:(s.putL ds).L=some ds:=by cases s<;>rfl
section
variable{G:Bg}{F:Fr}{σ:St}{ρ:aW}{H0 H:Hp}
theorem yx.lst{o:Option V}{s:Sl}{ds:aA}(h:yx G F H0 H o s)(e:s.L=some ds):∃a xs,o=some (.ref a)/\H a=some (.lst xs)/\H0 a=none/\oq G H0 ds xs:=by
 cases s with
 |ls ds'=>cases e;obtain⟨a,xs,h1,h2,h3,h4,h5⟩:=h;exact⟨a,xs,h1,h2,h3,h5⟩
 |pm ds'=>cases e;obtain⟨a,xs,h1,h2,h3,h4,h5⟩:=h;exact⟨a,xs,h1,h2,h3,h5⟩
 |_=>cases e
theorem oN.mutL(R:oN G F σ ρ H0 H){s:Sl}{ds':aA}{xs':bt}(hi:ρ[i]?=some s)(hs:s.L=some ds)(ha:(σ[i]?).join=some (.ref a))(r:oq G H0 ds' xs'):
  oN G F σ (ρ.set i (s.putL ds')) H0 (upd H a (.lst xs')):=by
 have ok:=R.sl i s hi;rw[ha]at ok;refine R.mut hi (Sl.L_own hs) ha (λH' hH=>?_) (Sl.L_own Sl.putL_L);cases s with
 |ls ds0=>obtain⟨b,xs,h1,h2,h3,h4,h5⟩:=ok;cases h1;exact⟨a,xs',rfl,hH,h3,h4,r⟩
 |pm ds0=>obtain⟨b,xs,h1,h2,h3,h4,h5⟩:=ok;cases h1;exact⟨a,xs',rfl,hH,h3,h4,r⟩
 |_=>cases hs
end
def pX(ρ:aW)(i:Nat):Option aA:=match ρ[i]? with
 |some s=>s.L
 |none=>none
theorem rj(h:pX ρ i=some ds):∃s,ρ[i]?=some s/\s.L=some ds:=by
 unfold pX at h;cases e:ρ[i]? with
 |none=>rw[e]at h;cases h
 |some s=>rw[e]at h;exact⟨s,rfl,h⟩
def putAt(ρ:aW)(i:Nat)(ds:aA):aW:=match ρ[i]? with
 |some s=>ρ.set i (s.putL ds)
 |none=>ρ
def sE(i:Nat)(f:FE):FE:=λρ=>match pX ρ i with
 |some _=>match f ρ with
  |some (d,ρ1)=>match pX ρ1 i with
   |some ds=>if ds.length<1000 then some (.non,putAt ρ1 i (ds++[d]))else none
   |none=>none
  |none=>none
 |none=>none
section
variable{X:Cx}{G:Bg}
theorem qG{H:Hp}(R:oN G F σ ρ H0 H)(h:pX ρ i=some ds):∃a xs,σ[i]?=some (some (.ref a))/\H a=some (.lst xs)/\oq G H0 ds xs/\
  (∀ds' xs',oq G H0 ds' xs'->oN G F σ (putAt ρ i ds') H0 (upd H a (.lst xs'))):=by
 obtain⟨s,e1,e2⟩:=rj h;obtain⟨a,xs,e3,e4,e5,e6⟩:=(R.sl i s e1).lst e2;refine⟨a,xs,qT e3,e4,e6,λds' xs' r=>?_⟩;unfold putAt;rw[e1];exact R.mutL e1 e2 e3 r
theorem Kb(h:PE X e (tBM G.K "list" EE (uM i) (tFA G (oa f oJ)))):PE X e (tF G (sE i f)):=PE.weak h λσ H Q hh=>by
 obtain⟨F,ρ,H0,d,ρ',R,e,k⟩:=hh;unfold sE at e;cases e0:pX ρ i with
 |none=>simp only[e0]at e;cases e
 |some ds0=>
  simp only[e0]at e;rcases oZ (f:=f) (ρ:=ρ)with e1|⟨x,ρ1,e1⟩<;>simp only[e1]at e
  ·cases e
  ·cases e2:pX ρ1 i with
   |none=>simp only[e2]at e;cases e
   |some ds=>
    simp only[e2]at e;split at e
    ·rename_i hl;cases e;obtain⟨a,xs,s1,s2,s3,_⟩:=qG R e0;refine⟨.ref a,s1,.inl ⟨rfl,xs,SqL.of s2⟩,F,ρ,H0,[x],ρ1,R,by unfold oa;rw[e1];rfl,λys H1 H1' s R' rs=>?_⟩;unfold oq at rs;obtain⟨v,r0,rfl,rv,rn⟩:=rs;unfold oq at rn;subst rn;obtain⟨a',xs',t1,t2,t3,t4⟩:=qG R' e2;rw[s1]at t1;cases t1;exact⟨a,xs',v,rfl,rfl,t2,by rw[<-ou t3];exact xK (by omega),k _ _ _ s (t4 _ _ (qE t3 (o7 rv o8))) y4⟩
    ·cases e
def IR(i:Nat):FE:=λρ=>match pX ρ i with
 |some (d::ds)=>some (d,putAt ρ i ds)
 |_=>none
theorem O6(h:PE X e (tBM G.K "list" Hf (uM i) (BC (tC (.int 0)) Ft))):PE X e (tF G (IR i)):=PE.weak h λσ H Q hh=>by
 obtain⟨F,ρ,H0,d,ρ',R,e,k⟩:=hh;unfold IR at e;split at e
 ·rename_i d' ds e0;cases e;obtain⟨a,xs,s1,s2,s3,s4⟩:=qG R e0;unfold oq at s3;obtain⟨v,r,rfl,r1,r2⟩:=s3;refine⟨.ref a,s1,.inl ⟨rfl,_,SqL.of s2⟩,a,v::r,0,0,v,rfl,rfl,s2,by decide,by decide,?_,rfl,?_⟩
  ·unfold seqIndex?;simp
  ·exact k _ _ _ (oE.refl _) (s4 _ _ r2) r1
 ·cases e
theorem y7{i:Int}(r:oq G H0 ds xs)(h:atI ds i=some d):∃v,atI xs i=some v/\Rep G H0 d v:=by
 unfold atI at h ⊢;rw[<-ou r];cases e:ixN ds.length i with
 |none=>rw[e]at h;cases h
 |some j=>rw[e]at h;exact qe r h
def zV(i:Nat)(f:FE):FE:=λρ=>match pX ρ i with
 |some _=>match f ρ with
  |some (.int j,ρ1)=>match pX ρ1 i with
   |some ds=>match atI ds j with
    |some d=>some (d,ρ1)
    |none=>none
   |none=>none
  |_=>none
 |none=>none
theorem Sk(h:PE X e (tOp (Ot G.K) (uM i) (tF G f))):PE X e (tF G (zV i f)):=PE.weak h λσ H Q hh=>by
 obtain⟨F,ρ,H0,d,ρ',R,e,k⟩:=hh;unfold zV at e;cases e9:pX ρ i with
 |none=>simp only[e9]at e;cases e
 |some ds9=>
  simp only[e9]at e;obtain⟨a9,xs9,ev,_⟩:=qG R e9;split at e
  ·rename_i j ρ1 e1;cases e0:pX ρ1 i with
   |none=>simp only[e0]at e;cases e
   |some ds=>
    simp only[e0]at e;cases e2:atI ds j with
    |none=>simp only[e2]at e;cases e
    |some x=>simp only[e2]at e;cases e;refine⟨.ref a9,ev,F,ρ,H0,_,_,R,e1,λu H1 H1' s R' r=>?_⟩;unfold Rep at r;subst r;obtain⟨a,xs,s1,s2,s3,s4⟩:=qG R' e0;rw[ev]at s1;cases s1;obtain⟨w,w1,w2⟩:=y7 s3 e2;exact⟨_,xs,j,w,rfl,rfl,SqL.of s2,w1,k _ _ _ s R' w2⟩
  ·cases e
def cFz(i:Nat):FE:=λρ=>match ρ[i]? with
 |some (.ls ds)=>some (.lst ds,ρ.set i (.im (.lst ds)))
 |some (.dk ks ds)=>some (.dic ks ds,ρ.set i (.im (.dic ks ds)))
 |some (.im d)=>some (d,ρ)
 |_=>none
theorem oN.toIm{H:Hp}(R:oN G F σ ρ H0 H){s:Sl}{o:HO}(hi:ρ[i]?=some s)(hs:(σ[i]?).join=some (.ref p))(so:s.own=true)(hp:H p=some o)(h0:H0 p=none)(hb:F.B p=none)(r:Rep G (upd H0 p o) d (.ref p)):
  oN G F σ (ρ.set i (.im d)) (upd H0 p o) H where
 sub:=λb u e=>by
  by_cases hb:b=p
  ·subst hb;rw[oA]at e;cases e;exact hp
  ·rw[oB hb]at e;exact R.sub _ _ e
 g0:=R.g0.trans (oH h0 o)
 keep:=R.keep
 fr:=λb u e=>by
  by_cases hb':b=p
  ·subst hb';exact .inr hb
  ·rw[oB hb']at e;exact R.fr _ _ e
 am:=R.am
 len:=by rw[dF];exact R.len
 sl:=λj t e=>by
  rw[bR]at e;by_cases h:i=j
  ·subst h;rw[ai rfl]at e;split at e
   ·cases e;exact⟨_,hs,r⟩
   ·cases e
  ·rw[aj h]at e;refine(R.sl j t e).grow (oH h0 o) (λa u _ _ q=>q) λa u z to q q0=>?_;rw[oB (λy=>by subst y;exact R.ap j i t s a (λy=>h y.symm) e hi to so z hs)];exact q0
 ap:=λj k t u b hjk ej ek tj tk vj vk=>by
  have gen:∀{m:Nat} {x:Sl},(ρ.set i (.im d))[m]?=some x->x.own=true->ρ[m]?=some x:=λ{m x} e xo=>by
   rw[bR]at e;by_cases h:i=m
   ·subst h;rw[ai rfl]at e;split at e
    ·cases e;cases xo
    ·cases e
   ·rw[aj h]at e;exact e
  exact R.ap j k t u b hjk (gen ej tj) (gen ek tk) tj tk vj vk
theorem oN.toImD{H:Hp}(R:oN G F σ ρ H0 H){s:Sl}{o:HO}(hi:ρ[i]?=some s)(hs:(σ[i]?).join=some (.ref p))(so:s.own=true)(h0:H0 p=none)(hb:F.B p=none)(r:Rep G (upd H0 p o) d (.ref p)):
  oN G F σ (ρ.set i (.im d)) (upd H0 p o) (upd H p o) where
 sub:=λb u e=>by
  by_cases hb:b=p
  ·subst hb;rw[oA]at e ⊢;exact e
  ·rw[oB hb]at e ⊢;exact R.sub _ _ e
 g0:=R.g0.trans (oH h0 o)
 keep:=λb u e n=>by rw[oB (λz=>by subst z;rw[hb]at e;cases e)];exact R.keep b u e n
 fr:=λb u e=>by
  by_cases hb':b=p
  ·subst hb';exact .inr hb
  ·rw[oB hb']at e;exact R.fr _ _ e
 am:=λb hm=>by
  by_cases hb':b=p
  ·subst hb';exact⟨o,oA⟩
  ·rw[oB hb'];exact R.am b hm
 len:=by rw[dF];exact R.len
 sl:=λj t e=>by
  rw[bR]at e;by_cases h:i=j
  ·subst h;rw[ai rfl]at e;split at e
   ·cases e;exact⟨_,hs,r⟩
   ·cases e
  ·rw[aj h]at e;refine(R.sl j t e).grow (oH h0 o) (λa u z to q=>?_) λa u z to q q0=>?_
   ·rw[oB (λy=>by subst y;exact R.ap j i t s a (λy=>h y.symm) e hi to so z hs)];exact q
   ·rw[oB (λy=>by subst y;exact R.ap j i t s a (λy=>h y.symm) e hi to so z hs)];exact q0
 ap:=λj k t u b hjk ej ek tj tk vj vk=>by
  have gen:∀{m:Nat} {x:Sl},(ρ.set i (.im d))[m]?=some x->x.own=true->ρ[m]?=some x:=λ{m x} e xo=>by
   rw[bR]at e;by_cases h:i=m
   ·subst h;rw[ai rfl]at e;split at e
    ·cases e;cases xo
    ·cases e
   ·rw[aj h]at e;exact e
  exact R.ap j k t u b hjk (gen ej tj) (gen ek tk) tj tk vj vk
theorem Wd(h:PE X e (uM i)):PE X e (tF G (cFz i)):=PE.weak (PE.ghost h) λσ H Q hh=>by
 obtain⟨F,ρ,H0,d,ρ',R,e,k⟩:=hh;unfold cFz at e;split at e
 ·rename_i ds e0;cases e;obtain⟨a,xs,h1,h2,h3,h4,h5⟩:=R.sl i _ e0;have rr:Rep G (upd H0 a (.lst xs)) (.lst ds) (.ref a):=uC oA (oq.mono (oH h3 _) _ _ h5);exact⟨_,qT h1,.inl (k _ _ _ (oH h3 _) (R.toIm e0 h1 rfl h2 h3 h4 rr) rr)⟩
 ·rename_i ks ds e0;cases e;obtain⟨a,xs,h1,h2,h3,h4,h5,h6⟩:=R.sl i _ e0;refine⟨_,qT h1,.inr ⟨a,_,h2,λo=>?_⟩⟩;have rr:Rep G (upd H0 a (.frz o (.dK (ks.zip xs)))) (.dic ks ds) (.ref a):=by unfold Rep;exact⟨a,o,xs,rfl,oA,h5,oq.mono (oH h3 _) _ _ h6⟩
  exact k _ _ _ (oH h3 _) (R.toImD e0 h1 rfl h3 h4 rr) rr
 ·rename_i d' e0;cases e;obtain⟨v,e2,e3⟩:=R.sl i _ e0;exact⟨v,qT e2,.inl (k _ _ _ (oE.refl _) R e3)⟩
 ·cases e
def Hr(i:Nat):FA:=λρ=>match ρ[i]? with
 |some (.ls ds)=>some (ds,ρ.set i .un)
 |_=>none
theorem O7(h:PE X e (uM i)):PE X e (tFN G (Hr i)):=PE.weak h λσ H Q hh=>by
 obtain⟨F,ρ,H0,d,ρ',R,e,k⟩:=hh;unfold Hr at e;split at e
 ·rename_i ds e0;cases e;obtain⟨a,xs,h1,h2,h3,h4,h5⟩:=R.sl i _ e0;have gen:∀{m:Nat} {x:Sl},(ρ.set i .un)[m]?=some x->x.own=true->m≠i/\ρ[m]?=some x:=λ{m x} e xo=>by
   rw[bR]at e;by_cases h:i=m
   ·subst h;rw[ai rfl]at e;split at e
    ·cases e;cases xo
    ·cases e
   ·rw[aj h]at e;exact⟨λz=>h z.symm,e⟩
  have R':oN G F σ (ρ.set i .un) H0 H:={
   sub:=R.sub,g0:=R.g0,keep:=R.keep,fr:=R.fr,am:=R.am
   len:=by rw[dF];exact R.len
   sl:=λj t e=>by
    rw[bR]at e;by_cases h:i=j
    ·subst h;rw[ai rfl]at e;split at e
     ·cases e;trivial
     ·cases e
    ·rw[aj h]at e;exact R.sl j t e
   ap:=λj k t u b hjk ej ek tj tk vj vk=>R.ap j k t u b hjk (gen ej tj).2 (gen ek tk).2 tj tk vj vk }
  refine⟨_,qT h1,k a xs _ _ (oE.refl _) R' h2 h3 h4 (λj t ej to z=>?_) h5⟩;obtain⟨nj,ej'⟩:=gen ej to;exact R.ap j i t _ a nj ej' e0 to rfl z h1
 ·cases e
end
def spM(G:Bg)(g:aA->aA->Option (D×aA)):Sp:=λvs H Q _=>∃(a:Addr) (us xs:bt) (H0:Hp) (es ds:aA) (d:D) (es':aA),vs=.ref a::us/\H a=some (.lst xs)/\H0 a=none/\oE H0 H/\oq G H0 es xs/\oq G H0 ds us/\g es ds=some (d,es')/\
 ∀v xs' H0' H',oE H0 H0'->oE H0' H'->(∀b o,H b=some o->b≠a->H' b=some o)->(∀b o,H0' b=some o->H0 b=some o\/H b=none)->H0' a=none->H' a=some (.lst xs')->oq G H0' es' xs'->Rep G H0' d v->Q v H'
def stM(n:Nat)(es ds:aA):aW:=.pm es::stE (n - 1) ds
def Aw(ρ:aW):Option aA:=match ρ with
 |.pm es::_=>some es
 |_=>none
def fnM(np n:Nat)(f:FS):aA->aA->Option (D×aA):=λes ds=>if ds.length=np then match f (stM n es ds)with
 |some (.rt d ρ)=>match Aw ρ with
  |some es'=>some (d,es')
  |none=>none
 |some (.rn xs ρ)=>match Aw ρ with
  |some es'=>some (.lst xs,es')
  |none=>none
 |_=>none
 else none
theorem BW{es:aA}(h:Aw ρ=some es):ρ[0]?=some (.pm es):=by
 unfold Aw at h;split at h
 ·cases h;rfl
 ·cases h
variable{es':aA}
theorem FR{n:Nat}{f:FS}{es:aA}(h:fnM np n f es ds=some (d,es')):ds.length=np/\((∃ρ,f (stM n es ds)=some (.rt d ρ)/\ρ[0]?=some (.pm es'))\/∃xs ρ,f (stM n es ds)=some (.rn xs ρ)/\ρ[0]?=some (.pm es')/\d=.lst xs):=by
 unfold fnM at h;split at h
 ·rename_i hl;refine⟨hl,?_⟩;split at h
  ·rename_i x ρ e;cases e2:Aw ρ with
   |none=>simp only[e2]at h;cases h
   |some q=>simp only[e2]at h;cases h;exact .inl ⟨ρ,e,BW e2⟩
  ·rename_i x ρ e;cases e2:Aw ρ with
   |none=>simp only[e2]at h;cases h
   |some q=>simp only[e2]at h;cases h;exact .inr ⟨x,ρ,e,BW e2,rfl⟩
  ·cases h
 ·cases h
section
variable{X:Cx}{G:Bg}
theorem O8{f:FS}{H:Hp}{Q:VK}(hN:np+1<=N.length)(h:spM G (fnM np N.length f) vs H Q E):tFS G f { nx:=λ_ H'=>Q .non H',rt:=Q } (L2.start N vs) H:=by
 obtain⟨a,us,xs,H0,es,ds,d,es',rfl,ha,h0,s,r1,r,e,k⟩:=h;obtain⟨hl,e1⟩:=FR e;have hul:us.length=np:=by rw[<-ou r];exact hl
 have gets:∀{i:Nat} {t:Sl},(stM N.length es ds)[i]?=some t->(i=0/\t=.pm es)\/t=.un\/∃(j:Nat) (d:D),i=j+1/\ds[j]?=some d/\t=.im d:=λ{i t} e=>by
  cases i with
  |zero=>cases e;exact .inl ⟨rfl,rfl⟩
  |succ j=>
   have e':(stE (N.length - 1) ds)[j]?=some t:=e;rcases Br e' with rfl|⟨d,e1,rfl⟩
   ·exact .inr (.inl rfl)
   ·exact .inr (.inr ⟨j,d,rfl,e1,rfl⟩)
 have R:oN G ⟨H0,H,[a]⟩ (L2.start N (.ref a::us)) (stM N.length es ds) H0 H:={
  sub:=s
  g0:=oE.refl _
  keep:=λb o e _=>e
  fr:=λb o e=>.inl e
  am:=λb hb=>by
   have eb:b=a:=by simpa using hb
   subst eb;exact⟨_,ha⟩
  len:=by unfold L2.start stM stE;simp only[aD,ah,cb,aK];have:=ou r;omega
  sl:=λi t e=>by
   rcases gets e with ⟨rfl,rfl⟩|rfl|⟨j,d,rfl,e1,rfl⟩
   ·exact⟨a,xs,rh rfl,ha,h0,by simp,r1⟩
   ·trivial
   ·obtain⟨v,e2,e3⟩:=qe r e1;exact⟨v,rh (by simpa using e2),e3⟩
  ap:=λi j t u b hij ei ej ht hu=>by
   rcases gets ei with ⟨rfl,rfl⟩|rfl|⟨_,_,_,_,rfl⟩
   ·rcases gets ej with ⟨rfl,rfl⟩|rfl|⟨_,_,_,_,rfl⟩
    ·exact aq rfl hij
    ·cases hu
    ·cases hu
   ·cases ht
   ·cases ht }
 have fin:∀{v:V} {σ':St} {ρ':aW} {H0' H':Hp},oE H0 H0'->oN G ⟨H0,H,[a]⟩ σ' ρ' H0' H'->ρ'[0]?=some (.pm es')->Rep G H0' d v->Q v H':=λs' R' e2 rv=>by
  obtain⟨a',ys,q1,q2,q3,q4,q5⟩:=R'.sl 0 _ e2;have ea:a'=a:=by simpa using q4
  subst ea;exact k _ ys _ _ s' R'.sub (λb o e n=>R'.keep b o e (by simpa using n)) R'.fr q3 q2 q5 rv
 rcases e1 with ⟨ρ,e1,e2⟩|⟨zs,ρ,e1,e2,rfl⟩
 ·exact⟨_,_,H0,_,R,e1,λv σ' H0' H' s' R' rv=>fin s' R' e2 rv,λ_=>rfl⟩
 ·refine⟨_,_,H0,_,R,e1,λp ys σ' H0' H' s' R' hp hp0 hb ap rs=>?_,λ_=>rfl⟩;exact fin (s'.trans (oH hp0 _)) (R'.freeze hp hp0 hb ap) e2 (uC oA (oq.mono (oH hp0 _) _ _ rs))
theorem LX{g:aA->aA->Option (D×aA)}(hg:∀es ds d,g es ds=some d->ds.length=np):∀vs H Q E,spM G g vs H Q E->vs.length=np+1:=λvs H Q E h=>by obtain⟨a,us,xs,H0,es,ds,d,es',rfl,_,_,_,_,r,e,_⟩:=h;rw[aK,<- ou r,hg _ _ _ e]
theorem O9{n:Nat}{f:FS}:∀es ds d,fnM np n f es ds=some d->ds.length=np:=λ_ _ d h=>(FR (d:=d.1) (es':=d.2) h).1
theorem oN.call1{H:Hp}(R:oN G F σ ρ H0 H){s:Sl}{es:aA}{b:Addr}{zs:bt}(hi:ρ[i]?=some s)(hs:s.L=some es)(hb:(σ[i]?).join=some (.ref b))
  (s1:oE H0 H0') (s2:oE H0' H') (s3:∀c o,H c=some o->c≠b->H' c=some o) (fr:∀c o,H0' c=some o->H0 c=some o\/H c=none) (h0:H0' b=none) (hz:H' b=some (.lst zs)) (r:oq G H0' es' zs):
  oN G F σ (ρ.set i (s.putL es')) H0' H':=by
 have so:=Sl.L_own hs;obtain⟨b',u,e1,e2,e3,e4⟩:=(R.sl i s hi).at so;rw[hb]at e1;cases e1;exact {
  sub:=s2
  g0:=R.g0.trans s1
  keep:=λc o e n=>by
   refine s3 c o (R.keep c o e n) λz=>?_;subst z;rcases e4 with q|q
   ·rw[q]at e;cases e
   ·exact n q
  fr:=λc o e=>by
   rcases fr c o e with q|q
   ·exact R.fr c o q
   ·exact .inr (R.bNone q)
  am:=λc hc=>by
   by_cases z:c=b
   ·subst z;exact⟨_,hz⟩
   ·obtain⟨o,q⟩:=R.am c hc;exact⟨o,s3 c o q z⟩
  len:=by rw[dF];exact R.len
  sl:=λj t e=>by
   rw[bR]at e;by_cases h:i=j
   ·subst h;rw[ai rfl]at e;split at e
    ·cases e;rw[hb];have ok:=R.sl i s hi;rw[hb]at ok;cases s with
     |ls ds0=>obtain⟨c,xs,h1,h2,h3,h4,h5⟩:=ok;cases h1;exact⟨b,zs,rfl,hz,h0,h4,r⟩
     |pm ds0=>obtain⟨c,xs,h1,h2,h3,h4,h5⟩:=ok;cases h1;exact⟨b,zs,rfl,hz,h0,h4,r⟩
     |_=>cases hs
    ·cases e
   ·rw[aj h]at e;refine(R.sl j t e).grow s1 (λc w z to q=>s3 c w q λy=>?_) λc w z to q q0=>?_
    ·subst y;exact R.ap j i t s c (λy=>h y.symm) e hi to so z hb
    ·cases y:H0' c with
     |none=>rfl
     |some o=>
      rcases fr c o y with x|x
      ·rw[x]at q0;cases q0
      ·rw[x]at q;cases q
  ap:=λj k t u c hjk ej ek tj tk vj vk=>by
   have gen:∀{m:Nat} {x:Sl},(ρ.set i (s.putL es'))[m]?=some x->∃y,ρ[m]?=some y/\(x.own=true->y.own=true):=λ{m x} e=>by
    rw[bR]at e;by_cases h:i=m
    ·subst h;exact⟨s,hi,λ_=>so⟩
    ·rw[aj h]at e;exact⟨x,e,λq=>q⟩
   obtain⟨y,ey,oy⟩:=gen ej;obtain⟨z,ez,oz⟩:=gen ek;exact R.ap j k y z c hjk ey ez (oy tj) (oz tk) vj vk }
def pf(g:aA->aA->Option (D×aA))(i:Nat)(a:FA):FE:=λρ=>match pX ρ i with
 |some _=>match a ρ with
  |some (ds,ρ1)=>match pX ρ1 i with
   |some es=>match g es ds with
    |some (d,es')=>some (d,putAt ρ1 i es')
    |none=>none
   |none=>none
  |none=>none
 |none=>none
theorem Sm{g:aA->aA->Option (D×aA)}{a:FA}(h:PE X e (wJ (spM G g) [] E (BC (uM i) (tFA G a)))):PE X e (tF G (pf g i a)):=PE.weak h λσ H Q hh=>by
 obtain⟨F,ρ,H0,d,ρ',R,e,k⟩:=hh;unfold pf at e;cases e0:pX ρ i with
 |none=>simp only[e0]at e;cases e
 |some ds0=>
  simp only[e0]at e;rcases oZ (f:=a) (ρ:=ρ)with e1|⟨ds,ρ1,e1⟩<;>simp only[e1]at e
  ·cases e
  ·cases e2:pX ρ1 i with
   |none=>simp only[e2]at e;cases e
   |some es=>
    simp only[e2]at e;cases e3:g es ds with
    |none=>simp only[e3]at e;cases e
    |some q=>
     obtain⟨d1,es'⟩:=q;simp only[e3]at e;cases e;obtain⟨b,xs,s1,s2,s3,_⟩:=qG R e0;refine⟨.ref b,s1,F,ρ,H0,ds,ρ1,R,e1,λys H1 H1' s R' rs=>?_⟩;obtain⟨s,es0,es1⟩:=rj e2;obtain⟨b',xs',t1,t2,t3,t4⟩:=(R'.sl i s es0).lst es1;rw[qT t1]at s1;cases s1;refine⟨b,ys,xs',H1,es,ds,d,es',?_,t2,t3,R'.sub,t4,rs,e3,λv zs H2 H2' u1 u2 u3 fr w0 w1 w2 w3=>?_⟩
     ·show V.ref b::ys++[]=_;rw[br]
     ·refine k _ _ _ (oE.trans ‹oE H0 H1› u1) ?_ w3;unfold putAt;rw[es0];exact R'.call1 es0 es1 t1 u1 u2 u3 fr w0 w1 w2
def Walk(G:Bg)(J:It)(ds:aA)(H0:Hp):Prop:=∀(i:Nat) (H1 H1':Hp),oE H0 H1->oE H1 H1'->
 (∀d,ds[i]?=some d->J.go i H1'/\∀x H2',J.yld i H1' x H2'->∃H2,oE H1 H2/\oE H2 H2'/\oE H1' H2'/\(∀b o,H2 b=some o->H1 b=some o\/H1' b=none)/\Rep G H2 d x)/\(i=ds.length->J.stop i H1')
def tFI(G:Bg)(f:FA):TI:=λσ H R=>∃F ρ H0 ds ρ',oN G F σ ρ H0 H/\f ρ=some (ds,ρ')/\∀J H0' H',oE H0 H0'->oN G F σ ρ' H0' H'->Walk G J ds H0'->R J H'
theorem PI.weak{t t':TI}(h:PI X tg e t)(w:∀σ H R,t' σ H R->t σ H R):PI X tg e t':=λpins s σ H R I hq=>h pins s σ H R I (w _ _ _ hq)
theorem BX(h:SqL G.K H0 a xs)(r:oq G H0 ds xs):Walk G (Itl G.K a) ds H0:=λi H1 H1' s s'=>by have h1:SqL G.K H1' a xs:=(s.trans s').seq h;refine⟨λd e=>?_,λhl=>⟨xs,h1,by rw[<-ou r,hl];exact aI _⟩⟩;obtain⟨v,e1,e2⟩:=qe r e;refine⟨⟨xs,v,h1,e1⟩,λx H2' y=>?_⟩;obtain⟨e3,e4⟩:=y;have e5:=e4 xs h1;rw[e1]at e5;cases e5;subst e3;exact⟨H1,oE.refl _,s',oE.refl _,λb o e=>.inl e,Rep.mono s _ _ e2⟩
theorem LY(h:SqT G.K H0 a xs)(r:oq G H0 ds xs):Walk G (Itt G.K a) ds H0:=λi H1 H1' s s'=>by have h1:SqT G.K H1' a xs:=SqT.mono (s.trans s') h;refine⟨λd e=>?_,λhl=>⟨xs,h1,by rw[<-ou r,hl];exact aI _⟩⟩;obtain⟨v,e1,e2⟩:=qe r e;refine⟨⟨xs,v,h1,e1⟩,λx H2' y=>?_⟩;obtain⟨e3,e4⟩:=y;have e5:=e4 xs h1;rw[e1]at e5;cases e5;subst e3;exact⟨H1,oE.refl _,s',oE.refl _,λb o e=>.inl e,Rep.mono s _ _ e2⟩
def iL(f:FE):FA:=λρ=>match f ρ with
 |some (.lst ds,ρ')=>some (ds,ρ')
 |some (.fzl ds,ρ')=>some (ds,ρ')
 |_=>none
def iT(f:FE):FA:=λρ=>match f ρ with
 |some (.tup ds,ρ')=>some (ds,ρ')
 |_=>none
theorem FU(h:PI X tg e (Lb G.K (tF G f))):PI X tg e (tFI G (iL f)):=PI.weak h λσ H R hh=>by
 obtain⟨F,ρ,H0,ds,ρ',R,e,k⟩:=hh;unfold iL at e;split at e
 ·rename_i ds' ρ1 e1;cases e;refine⟨F,ρ,H0,_,_,R,e1,λv H1 H1' s R' r=>?_⟩;unfold Rep at r;obtain⟨a,xs,rfl,r1,r2⟩:=r;exact⟨a,rfl,⟨xs,R'.sub.seq (SqL.of r1)⟩,k _ _ _ s R' (BX (SqL.of r1) r2)⟩
 ·rename_i ds' ρ1 e1;cases e;refine⟨F,ρ,H0,_,_,R,e1,λv H1 H1' s R' r=>?_⟩;unfold Rep at r;obtain⟨a,xs,rfl,r1,r2⟩:=r;exact⟨a,rfl,⟨xs,R'.sub.seq r1⟩,k _ _ _ s R' (BX r1 r2)⟩
 ·cases e
theorem Pa(h:PI X tg e (Rp G.K (tF G f))):PI X tg e (tFI G (iT f)):=PI.weak h λσ H R hh=>by
 obtain⟨F,ρ,H0,ds,ρ',R,e,k⟩:=hh;unfold iT at e;split at e
 ·rename_i ds' ρ1 e1;cases e;refine⟨F,ρ,H0,_,_,R,e1,λv H1 H1' s R' r=>?_⟩;unfold Rep at r;obtain⟨a,xs,rfl,r1,r2⟩:=r;exact⟨a,rfl,⟨xs,SqT.mono R'.sub r1⟩,k _ _ _ s R' (LY r1 r2)⟩
 ·cases e
def BY(lo:Int)(n:Nat):aA:=(bC n).map λ(i:Nat)=>D.int (lo+(i:Int))
theorem LZ{lo:Int}{n:Nat}:Walk G (Itr lo n) (BY lo n) H0:=λi H1 H1' s s'=>by
 refine⟨λd e=>?_,λhl=>by show n<=i;rw[hl];simp[BY]⟩;unfold BY at e;rw[bu]at e;by_cases hi:i<n
 ·rw[lY hi]at e;cases e;refine⟨hi,λx H2' y=>?_⟩;obtain⟨e3,rfl⟩:=y;subst e3;exact⟨H1,oE.refl _,s',oE.refl _,λb o e=>.inl e,qz _⟩
 ·rw[fT (by simpa using hi)]at e;cases e
def iR1(f:FE):FA:=λρ=>match f ρ with
 |some (.int n,ρ')=>if -1000000<=n/\n<=1000000 then some (BY 0 n.toNat,ρ')else none
 |_=>none
theorem Ht(h:PI X tg e (QG (tFA G (oa f oJ)))):PI X tg e (tFI G (iR1 f)):=PI.weak h λσ H R hh=>by
 obtain⟨F,ρ,H0,ds,ρ',R,e,k⟩:=hh;unfold iR1 at e;split at e
 ·rename_i n ρ1 e1;split at e
  ·rename_i hn;cases e;refine⟨F,ρ,H0,[.int n],_,R,by unfold oa;rw[e1];rfl,λxs H1 H1' s R' rs=>?_⟩;unfold oq at rs;obtain⟨v,r0,rfl,rv,rn⟩:=rs;unfold oq at rn;unfold Rep at rv;subst rn rv;exact⟨n,rfl,by omega,by omega,k _ _ _ s R' LZ⟩
  ·cases e
 ·cases e
def forL(g:FG)(b:FS):aA->FS
 |[],ρ=>some (.nx ρ)
 |d::r,ρ=>match g d ρ with
  |none=>none
  |some ρ1=>match b ρ1 with
   |some (.nx ρ2)=>forL g b r ρ2
   |some (.ct ρ2)=>forL g b r ρ2
   |some (.bk ρ2)=>some (.nx ρ2)
   |some (.rt d ρ2)=>some (.rt d ρ2)
   |some (.rn d ρ2)=>some (.rn d ρ2)
   |none=>none
def r6(s:FA)(g:FG)(b:FS):FS:=λρ=>match s ρ with
 |some (ds,ρ')=>forL g b ds ρ'
 |none=>none
theorem Pb{n:Nat}{s:FA}{g:FG}{b:FS}(h:PS X st (Rr (tFI G s) (tFG G n g) (tFS G b))):PS X st (tFS G (r6 s g b)):=PS.weak h λE σ H hh=>by
 obtain⟨F,ρ,H0,o,R,e,k,k2⟩:=hh;unfold r6 at e;rcases oZ (f:=s) (ρ:=ρ)with e1|⟨ds,ρ1,e1⟩<;>simp only[e1]at e
 ·cases e
 ·refine⟨F,ρ,H0,ds,ρ1,R,e1,λJ H1 H1' s1 R1 wk=>?_⟩;refine⟨λi m σ H=>m=ds.length - i/\i<=ds.length/\∃ρi Hi,oE H1 Hi/\oN G F σ ρi Hi H/\forL g b (ds.drop i) ρi=some o,⟨_,rfl,cf _,ρ1,H1,oE.refl _,R1,e⟩,?_⟩;rintro i m σi Hi' ⟨rfl,hi,ρi,Hi,si,Ri,ei⟩;by_cases hlt:i<ds.length
  ·have ed:ds.drop i=ds[i]::ds.drop (i+1):=jj hlt;rw[ed]at ei;unfold forL at ei;obtain⟨go,yl⟩:=(wk i Hi Hi' si Ri.sub).1 ds[i] (aP hlt);refine .inr ⟨go,λσ' H'=>∃ρi Hi,oE H1 Hi/\oN G F σ' ρi Hi H'/\forL g b (ds.drop (i+1)) ρi=some o,λσ' H' q=>⟨ds.length - (i+1),by omega,rfl,hlt,q⟩,λx H' y=>?_⟩;obtain⟨H2,t1,t2,t3,t4,t5⟩:=yl x H' y;have R2:=Ri.grow t3 t1 t2 t4;cases e2:g ds[i] ρi with
   |none=>simp only[e2]at ei;cases ei
   |some ρ2=>
    simp only[e2]at ei;refine⟨F,ρi,H2,_,ρ2,R2,t5,e2,λσ3 _ R3=>?_⟩;have kk:=k.back (s1.trans (si.trans t1));cases e3:b ρ2 with
    |none=>simp only[e3]at ei;cases ei
    |some q=>
     refine⟨F,ρ2,H2,q,R3,e3,?_,λ_=>rfl⟩;cases q with
     |nx ρ3=>simp only[e3]at ei;exact λσ' H0' H' s' R'=>⟨ρ3,H0',si.trans (t1.trans s'),R',ei⟩
     |ct ρ3=>simp only[e3]at ei;exact λσ' H0' H' s' R'=>⟨ρ3,H0',si.trans (t1.trans s'),R',ei⟩
     |bk ρ3=>simp only[e3]at ei;cases ei;exact kk
     |rt d ρ3=>simp only[e3]at ei;cases ei;exact kk
     |rn d ρ3=>simp only[e3]at ei;cases ei;exact kk
  ·have ez:ds.drop i=[]:=lF (by omega);rw[ez]at ei;unfold forL at ei;cases ei;exact .inl ⟨(wk i Hi Hi' si Ri.sub).2 (by omega),k _ _ _ (s1.trans si) Ri⟩
def whL(c:FT)(b:FS):Nat->FS
 |0,_=>none
 |n+1,ρ=>match c ρ with
  |some (false,ρ1)=>some (.nx ρ1)
  |some (true,ρ1)=>match b ρ1 with
   |some (.nx ρ2)=>whL c b n ρ2
   |some (.ct ρ2)=>whL c b n ρ2
   |some (.bk ρ2)=>some (.nx ρ2)
   |some (.rt d ρ2)=>some (.rt d ρ2)
   |some (.rn d ρ2)=>some (.rn d ρ2)
   |none=>none
  |none=>none
theorem Kc{c:FT}{b:FS}(n:Nat)(h:PS X st (K9 (tFT G c) (tFS G b))):PS X st (tFS G (whL c b n)):=PS.weak h λE σ H hh=>by
 obtain⟨F,ρ,H0,o,R,e,k,k2⟩:=hh;refine⟨λm σ H=>∃ρi Hi,oE H0 Hi/\oN G F σ ρi Hi H/\whL c b m ρi=some o,⟨n,ρ,H0,oE.refl _,R,e⟩,?_⟩;rintro m σi Hi' ⟨ρi,Hi,si,Ri,ei⟩;cases m with
 |zero=>cases ei
 |succ m=>
  unfold whL at ei;rcases oZ (f:=c) (ρ:=ρi)with e1|⟨t,ρ1,e1⟩
  ·simp only[e1]at ei;cases ei
  ·refine⟨F,ρi,Hi,t,ρ1,Ri,e1,λH1 H1' s1 R1=>?_⟩;cases t with
   |false=>simp only[e1]at ei;cases ei;exact EH (k _ _ _ (si.trans s1) R1)
   |true=>
    simp only[e1]at ei;refine EI ⟨λσ' H'=>∃ρi Hi,oE H0 Hi/\oN G F σ' ρi Hi H'/\whL c b m ρi=some o,λσ' H' q=>⟨m,dB m,q⟩,?_⟩;have kk:=k.back (si.trans s1);cases e3:b ρ1 with
    |none=>simp only[e3]at ei;cases ei
    |some q=>
     refine⟨F,ρ1,H1,q,R1,e3,?_,λ_=>rfl⟩;cases q with
     |nx ρ3=>simp only[e3]at ei;exact λσ' H0' H' s' R'=>⟨ρ3,H0',si.trans (s1.trans s'),R',ei⟩
     |ct ρ3=>simp only[e3]at ei;exact λσ' H0' H' s' R'=>⟨ρ3,H0',si.trans (s1.trans s'),R',ei⟩
     |bk ρ3=>simp only[e3]at ei;cases ei;exact kk
     |rt d ρ3=>simp only[e3]at ei;cases ei;exact kk
     |rn d ρ3=>simp only[e3]at ei;cases ei;exact kk
end
def Sl.cap:Sl->Sl
 |.im d=>.im d
 |.ls ds=>.pm ds
 |.pm ds=>.pm ds
 |_=>.un
def xZ(k:Nat)(cap:List Nat)(ρ:aW):aW:=dH k .un++cap.map λj=>((ρ[j]?).getD .un).cap
def rE:List Nat->aW->aW->Option aW
 |[],_,ρ=>some ρ
 |j::cap,t::ts,ρ=>match pX ρ j with
  |some _=>match t with
   |.pm ds=>rE cap ts (putAt ρ j ds)
   |_=>none
  |none=>rE cap ts ρ
 |_::_,[],_=>none
def sF(k:Nat)(cap:List Nat)(g:FG)(ft:FT)(fe:FE):aA->aW->Option (aA×aW)
 |[],ρ=>some ([],ρ)
 |d::r,ρ=>match g d (xZ k cap ρ)with
  |none=>none
  |some ρ1=>match ft ρ1 with
   |some (true,ρ2)=>match fe ρ2 with
    |some (x,ρ3)=>match rE cap (ρ3.drop k) ρ with
     |some ρ'=>match sF k cap g ft fe r ρ' with
      |some (xs,ρ'')=>some (x::xs,ρ'')
      |none=>none
     |none=>none
    |none=>none
   |some (false,ρ2)=>match rE cap (ρ2.drop k) ρ with
    |some ρ'=>sF k cap g ft fe r ρ'
    |none=>none
   |none=>none
def oW(k:Nat)(cap:List Nat)(s:FA)(g:FG)(ft:FT)(fe:FE):FA:=λρ=>match s ρ with
 |some (ds,ρ')=>if ds.length<=1000 then sF k cap g ft fe ds ρ' else none
 |none=>none
def pR:FT:=λρ=>some (true,ρ)
theorem vL:∀{cap:List Nat} {ts ρ ρ':aW},rE cap ts ρ=some ρ'->ρ'.length=ρ.length/\
  (∀(j:Nat) (s':Sl),ρ'[j]?=some s'->∃s,ρ[j]?=some s/\((s'=s/\(s.L≠none->j∉cap))\/∃(m:Nat) (ds ds0:aA),cap[m]?=some j/\ts[m]?=some (Sl.pm ds)/\s.L=some ds0/\s'=s.putL ds))
 |[],ts,ρ,ρ',h=>by cases h;exact⟨rfl,λj s' e=>⟨s',e,.inl ⟨rfl,λ_ z=>by cases z⟩⟩⟩
 |j0::cap,[],ρ,ρ',h=>by cases h
 |j0::cap,t::ts,ρ,ρ',h=>by
  unfold rE at h;cases e0:pX ρ j0 with
  |none=>
   simp only[e0]at h;obtain⟨h1,h2⟩:=vL h;refine⟨h1,λj s' e=>?_⟩;obtain⟨s,e1,q⟩:=h2 j s' e;refine⟨s,e1,?_⟩;rcases q with ⟨rfl,q⟩|⟨m,ds,ds0,q1,q2,q3,q4⟩
   ·refine .inl ⟨rfl,λz y=>?_⟩;rcases aN.mp y with y|y
    ·subst y;unfold pX at e0;rw[e1]at e0;exact z e0
    ·exact q z y
   ·exact .inr ⟨m+1,ds,ds0,q1,q2,q3,q4⟩
  |some ds1=>
   simp only[e0]at h;cases t with
   |pm ds=>
    simp only at h;obtain⟨s0,e1,e2⟩:=rj e0;unfold putAt at h;rw[e1]at h;simp only at h;obtain⟨h1,h2⟩:=vL h;refine⟨by rw[h1,dF],λj s' e=>?_⟩;obtain⟨s,e3,q⟩:=h2 j s' e;by_cases hj:j0=j
    ·subst hj;rw[bR,ai rfl]at e3;split at e3
     ·cases e3;refine⟨s0,e1,.inr ?_⟩;rcases q with ⟨rfl,q⟩|⟨m,ds',ds0,q1,q2,q3,q4⟩
      ·exact⟨0,ds,ds1,rfl,rfl,e2,rfl⟩
      ·refine⟨m+1,ds',ds1,q1,q2,e2,?_⟩;rw[q4];cases s0<;>rfl
     ·cases e3
    ·rw[bR,aj hj]at e3;refine⟨s,e3,?_⟩;rcases q with ⟨rfl,q⟩|⟨m,ds',ds0,q1,q2,q3,q4⟩
     ·refine .inl ⟨rfl,λz y=>?_⟩;rcases aN.mp y with y|y
      ·exact hj y.symm
      ·exact q z y
     ·exact .inr ⟨m+1,ds',ds0,q1,q2,q3,q4⟩
   |_=>cases h
def Dk(cap:List Nat)(σ:St)(ρ:aW):List Addr:=cap.filterMap λj=>match pX ρ j,(σ[j]?).join with
 |some _,some (.ref a)=>some a
 |_,_=>none
theorem wU{cap:List Nat}:a∈Dk cap σ ρ ↔ ∃j∈cap,(∃ds,pX ρ j=some ds)/\(σ[j]?).join=some (.ref a):=by
 unfold Dk;rw[jx];constructor
 ·rintro⟨j,hj,e⟩;refine⟨j,hj,?_⟩;split at e
  ·rename_i ds a' e1 e2;cases e;exact⟨⟨ds,e1⟩,e2⟩
  ·cases e
 ·rintro⟨j,hj,⟨ds,e1⟩,e2⟩;refine⟨j,hj,?_⟩;rw[e1,e2]
variable{H1':Hp}{ft:FT}{fe:FE}
section
variable{X:Cx}{G:Bg}{F:Fr}{σ:St}{ρ:aW}{H0 H:Hp}
theorem BZ{k:Nat}{cap:List Nat}{s:Sl}(h:(xZ k cap ρ)[i]?=some s):s=.un\/∃m j,i=k+m/\cap[m]?=some j/\s=((ρ[j]?).getD .un).cap:=by
 unfold xZ at h;by_cases hi:i<k
 ·rw[cJ (by simpa using hi),eZ,ai hi]at h;cases h;exact .inl rfl
 ·rw[cA (by simpa using mK hi),cb,bu]at h;cases e:cap[i - k]? with
  |none=>rw[e]at h;cases h
  |some j=>rw[e]at h;cases h;exact .inr ⟨i - k,j,by omega,e,rfl⟩
theorem y8{k:Nat}{cap:List Nat}{m:Nat}(h:cap[m]?=some j):((rZ k cap σ)[k+m]?).join=(σ[j]?).join:=by unfold rZ;rw[cA (by simp),cb,show k+m - k=m by omega,bu,h];rfl
theorem oN.cap(R:oN G F σ ρ H0 H)(k:Nat)(cap:List Nat)(nd:cap.Nodup):oN G ⟨H0,H,Dk cap σ ρ⟩ (rZ k cap σ) (xZ k cap ρ) H0 H where
 sub:=R.sub
 g0:=oE.refl _
 keep:=λb o e _=>e
 fr:=λb o e=>.inl e
 am:=λa ha=>by obtain⟨j,hj,⟨ds,e1⟩,e2⟩:=wU.mp ha;obtain⟨s,e3,e4⟩:=rj e1;obtain⟨a',xs,h1,h2,_⟩:=(R.sl j s e3).lst e4;rw[e2]at h1;cases h1;exact⟨_,h2⟩
 len:=by unfold rZ xZ;rw[aD,aD,cb,cb,ah,ah]
 sl:=λi s e=>by
  rcases BZ e with rfl|⟨m,j,rfl,e1,rfl⟩
  ·trivial
  ·rw[y8 e1];cases e2:ρ[j]? with
   |none=>trivial
   |some s=>
    have ok:=R.sl j s e2;have mem:∀{a:Addr} {ds:aA},s.L=some ds->(σ[j]?).join=some (.ref a)->a∈Dk cap σ ρ:=λh1 h2=>wU.mpr ⟨j,cB e1,⟨_,by unfold pX;rw[e2];exact h1⟩,h2⟩;cases s with
    |un=>trivial
    |im d=>exact ok
    |ls ds=>obtain⟨a,xs,h1,h2,h3,h4,h5⟩:=ok;exact⟨a,xs,h1,h2,h3,mem rfl h1,h5⟩
    |pm ds=>obtain⟨a,xs,h1,h2,h3,h4,h5⟩:=ok;exact⟨a,xs,h1,h2,h3,mem rfl h1,h5⟩
    |dk ks ds=>trivial
    |ob c ns ds=>trivial
 ap:=λi i' s t a hii e e' so to v v'=>by
  rcases BZ e with rfl|⟨m,j,rfl,e1,rfl⟩
  ·cases so
  rcases BZ e' with rfl|⟨m',j',rfl,e1',rfl⟩
  ·cases to
  rw[y8 e1]at v;rw[y8 e1']at v';have own:∀{j:Nat},(((ρ[j]?).getD Sl.un).cap).own=true->∃s,ρ[j]?=some s/\s.own=true:=λ{j} h=>by
   cases z:ρ[j]? with
   |none=>rw[z]at h;cases h
   |some s=>rw[z]at h;refine⟨s,rfl,?_⟩;cases s<;>first|rfl|cases h
  obtain⟨s,z,zo⟩:=own so;obtain⟨s',z',zo'⟩:=own to;by_cases hj:j=j'
  ·subst hj;have:m=m':=(List.getElem?_inj (bQ.mp e1).1 nd).mp (e1.trans e1'.symm);exact hii (by rw[this])
  ·exact R.ap j j' s s' a hj z z' zo zo' v v'
theorem oN.uncap(R:oN G F σ ρ H0 H){k:Nat}{cap:List Nat}{σ4:St}{ρ4:aW}(R4:oN G ⟨H0,H,Dk cap σ ρ⟩ σ4 ρ4 H1 H1')(hd:σ4.drop k=(rZ k cap σ).drop k)(hu:rE cap (ρ4.drop k) ρ=some ρ'):oN G F σ ρ' H1 H1':=by
 obtain⟨hl,hc⟩:=vL hu;have at4:∀{m j:Nat},cap[m]?=some j->(σ4[k+m]?).join=(σ[j]?).join:=λ{m j} e=>by
  have q:(σ4.drop k)[m]?=((rZ k cap σ).drop k)[m]?:=by rw[hd]
  rw[cU,cU]at q;rw[q];exact y8 e
 have nA:∀{j:Nat} {s:Sl} {a:Addr},ρ[j]?=some s->s.own=true->(σ[j]?).join=some (.ref a)->(s.L≠none->j∉cap)->a∉Dk cap σ ρ:=λ{j s a} e so z hn ha=>by
  obtain⟨i,hi,⟨ds,e1⟩,e2⟩:=wU.mp ha;obtain⟨t,e3,e4⟩:=rj e1;by_cases hij:i=j
  ·subst hij;rw[e]at e3;cases e3;exact hn (by rw[e4];simp) hi
  ·exact R.ap i j t s a hij e3 e (Sl.L_own e4) so e2 z
 have hA:∀a∈Dk cap σ ρ,F.B a=none\/a∈F.A:=λa ha=>by obtain⟨i,hi,⟨ds,e1⟩,e2⟩:=wU.mp ha;obtain⟨t,e3,e4⟩:=rj e1;obtain⟨a',u,h1,h2,h3,h4⟩:=(R.sl i t e3).at (Sl.L_own e4);rw[e2]at h1;cases h1;exact h4
 have own':∀{j:Nat} {s':Sl},ρ'[j]?=some s'->s'.own=true->∃s,ρ[j]?=some s/\s.own=true:=λ{j s'} e so=>by
  obtain⟨s,e1,q⟩:=hc j s' e;rcases q with ⟨rfl,q⟩|⟨m,ds,ds0,q1,q2,q3,q4⟩
  ·exact⟨s',e1,so⟩
  ·exact⟨s,e1,Sl.L_own q3⟩
 exact {
  sub:=R4.sub
  g0:=R.g0.trans R4.g0
  keep:=λb o e n=>by
   refine R4.keep b o (R.keep b o e n) λha=>?_;rcases hA b ha with q|q
   ·rw[q]at e;cases e
   ·exact n q
  fr:=λb o e=>by
   rcases R4.fr b o e with q|q
   ·exact R.fr b o q
   ·exact .inr (R.bNone q)
  am:=λa ha=>by
   obtain⟨o,q⟩:=R.am a ha;by_cases z:a∈Dk cap σ ρ
   ·exact R4.am a z
   ·exact⟨o,R4.keep a o q z⟩
  len:=by rw[hl];exact R.len
  sl:=λj s' e=>by
   obtain⟨s,e1,q⟩:=hc j s' e;rcases q with ⟨rfl,q⟩|⟨m,ds,ds0,q1,q2,q3,q4⟩
   ·refine(R.sl j s' e1).grow R4.g0 (λa u z so y=>R4.keep a u y (nA e1 so z q)) λa u z so y y0=>?_;cases w:H1 a with
    |none=>rfl
    |some o=>
     rcases R4.fr a o w with x|x
     ·have x':H0 a=some o:=x;rw[x']at y0;cases y0
     ·have x':H a=none:=x;rw[x']at y;cases y
   ·rw[cU]at q2;obtain⟨a,xs,h1,h2,h3,h4,h5⟩:=R4.sl _ _ q2;rw[at4 q1]at h1;have ok:=R.sl j s e1;subst q4;cases s with
    |ls ds1=>obtain⟨a',xs',g1,g2,g3,g4,g5⟩:=ok;rw[h1]at g1;cases g1;exact⟨a,xs,h1,h2,h3,g4,h5⟩
    |pm ds1=>obtain⟨a',xs',g1,g2,g3,g4,g5⟩:=ok;rw[h1]at g1;cases g1;exact⟨a,xs,h1,h2,h3,g4,h5⟩
    |_=>cases q3
  ap:=λi j s t a hij ei ej so to v v'=>by
   obtain⟨s0,z,zo⟩:=own' ei so;obtain⟨t0,y,yo⟩:=own' ej to;exact R.ap i j s0 t0 a hij z y zo yo v v' }
theorem wV{k:Nat}{cap:List Nat}{ts:aW}(h:Apart σ ρ p)(hu:rE cap ts ρ=some ρ'):Apart σ ρ' p:=λi s' e so=>by
 obtain⟨s,e1,q⟩:=(vL hu).2 i s' e;rcases q with ⟨rfl,q⟩|⟨m,ds,ds0,q1,q2,q3,q4⟩
 ·exact h i s' e1 so
 ·exact h i s e1 (Sl.L_own q3)
theorem IS{k:Nat}{cap:List Nat}{s:FA}{g:FG}(nd:cap.Nodup):∀σ H Q,tFN G (oW k cap s g ft fe) σ H Q->BO (tFI G s) (tFG G k g) (tFT G ft) (tF G fe) k cap σ H Q:=λσ H Q hh=>by
 obtain⟨F,ρ,H0,es,ρ',R,e,kk⟩:=hh;unfold oW at e;rcases oZ (f:=s) (ρ:=ρ)with e1|⟨ds,ρ1,e1⟩<;>simp only[e1]at e
 ·cases e
 ·split at e
  ·rename_i hlen;refine⟨F,ρ,H0,ds,ρ1,R,e1,λJ H1 H1' s1 R1 wk p hp=>?_⟩;refine⟨λi m acc H2=>m=ds.length - i/\i<=ds.length/\∃ρi Hi dn rest,oE H1 Hi/\oN G F σ ρi Hi H2/\H2 p=some (.lst acc)/\Hi p=none/\Apart σ ρi p/\oq G Hi dn acc/\dn.length<=i/\sF k cap g ft fe (ds.drop i) ρi=some (rest,ρ')/\es=dn++rest,
    ⟨_,rfl,cf _,ρ1,H1,[],es,oE.refl _,R1.newOwn hp _,oA,R1.h0none hp,R1.apart hp,o8,aI _,e,rfl⟩,?_⟩
   rintro i m acc H2 ⟨rfl,hi,ρi,Hi,dn,rest,si,Ri,hp2,hp0,apt,rs,hdn,ei,rfl⟩;by_cases hlt:i<ds.length
   ·have ed:ds.drop i=ds[i]::ds.drop (i+1):=jj hlt;rw[ed]at ei;unfold sF at ei;obtain⟨go,yl⟩:=(wk i Hi H2 si Ri.sub).1 ds[i] (aP hlt);refine .inr ⟨go,λx H3 y=>?_⟩;obtain⟨Hj,t1,t2,t3,t4,t5⟩:=yl x H3 y;have R2:=Ri.grow t3 t1 t2 t4;have hp3:H3 p=some (.lst acc):=t3 _ _ hp2;have hpj:Hj p=none:=by
     cases w:Hj p with
     |none=>rfl
     |some o=>
      rcases t4 p o w with z|z
      ·rw[hp0]at z;cases z
      ·rw[hp2]at z;cases z
    have RC:=R2.cap k cap nd;have npA:p∉Dk cap σ ρi:=λz=>by obtain⟨j,_,⟨ds',q1⟩,q2⟩:=wU.mp z;obtain⟨t,q3,q4⟩:=rj q1;exact apt j t q3 (Sl.L_own q4) q2
    cases e2:g ds[i] (xZ k cap ρi)with
    |none=>simp only[e2]at ei;cases ei
    |some ρ2=>
     simp only[e2]at ei;refine⟨_,_,Hj,ds[i],ρ2,RC,t5,e2,λσ4 hd4 R4=>⟨hd4,?_⟩⟩;rcases oZ (f:=ft) (ρ:=ρ2)with e3|⟨b,ρ3,e3⟩
     ·simp only[e3]at ei;cases ei
     ·refine⟨_,ρ2,Hj,b,ρ3,R4,e3,λH5 H5' s5 R5=>?_⟩;have keepP:∀{σ':St} {ρ'':aW} {Ha Ha':Hp},oN G ⟨Hj,H3,Dk cap σ ρi⟩ σ' ρ'' Ha Ha'->Ha' p=some (.lst acc)/\Ha p=none:=λRz=>by
       refine⟨Rz.keep p _ hp3 npA,?_⟩;refine Option.eq_none_iff_forall_ne_some.mpr λo w2=>?_;rcases Rz.fr p o w2 with z|z
       ·have z':Hj p=some o:=z;rw[hpj]at z';cases z'
       ·have z':H3 p=none:=z;rw[hp3]at z';cases z'
      cases b with
      |false=>
       simp only[e3]at ei;refine EH ?_;cases e4:rE cap (ρ3.drop k) ρi with
       |none=>simp only[e4]at ei;cases ei
       |some ρn=>simp only[e4]at ei;obtain⟨w1,w2⟩:=keepP R5;exact⟨ds.length - (i+1),by omega,rfl,hlt,ρn,H5,dn,rest,si.trans (t1.trans s5),R2.uncap R5 hd4 e4,w1,w2,wV (k:=k) apt e4,oq.mono (t1.trans s5) _ _ rs,by omega,ei,rfl⟩
      |true=>
       simp only[e3]at ei;refine EI ?_;rcases oZ (f:=fe) (ρ:=ρ3)with e5|⟨x5,ρ5,e5⟩
       ·simp only[e5]at ei;cases ei
       ·simp only[e5]at ei;refine⟨_,ρ3,H5,x5,ρ5,R5,e5,λv H6 H6' s6 R6 rv=>?_⟩;obtain⟨w1,w2⟩:=keepP R6;cases e4:rE cap (ρ5.drop k) ρi with
        |none=>simp only[e4]at ei;cases ei
        |some ρn=>
         simp only[e4]at ei;cases e6:sF k cap g ft fe (ds.drop (i+1)) ρn with
         |none=>simp only[e6]at ei;cases ei
         |some q=>
          obtain⟨rest',ρz⟩:=q;simp only[e6]at ei;cases ei;have Rn:=R2.uncap R6 hd4 e4;have lacc:acc.length=dn.length:=(ou rs).symm;refine⟨acc,w1,xK (by omega),ds.length - (i+1),by omega,rfl,hlt,ρn,H6,dn++[x5],rest',si.trans (t1.trans (s5.trans s6)),?_,oA,w2,wV (k:=k) apt e4,qE (oq.mono (t1.trans (s5.trans s6)) _ _ rs) (o7 rv o8),by rw[aD,aZ];omega,e6,by rw[bA];rfl⟩;exact {
           sub:=λb o e=>by rw[oB (λz=>by rw[z,w2]at e;cases e)];exact Rn.sub b o e
           g0:=Rn.g0
           keep:=λb o e n=>by rw[oB (λz=>by subst z;rw[R1.bNone hp]at e;cases e)];exact Rn.keep b o e n
           fr:=Rn.fr
           am:=λb hb=>by
            by_cases z:b=p
            ·subst z;exact⟨_,oA⟩
            ·rw[oB z];exact Rn.am b hb
           len:=Rn.len
           sl:=λj t ej=>(Rn.sl j t ej).grow (oE.refl _) (λb u z to q=>by rw[oB (λy=>wV (k:=k) apt e4 j t ej to (by rw[z,y]))];exact q) λb u _ _ _ q=>q
           ap:=Rn.ap }
   ·have ez:ds.drop i=[]:=lF (by omega);rw[ez]at ei;unfold sF at ei;cases ei;rw[br]at kk;exact .inl ⟨(wk i Hi H2 si Ri.sub).2 (by omega),kk p acc Hi H2 (s1.trans si) Ri hp2 hp0 (R1.bNone hp) apt rs⟩
  ·cases e
theorem L0{k:Nat}{cap:List Nat}{s:FA}{g:FG}(nd:cap.Nodup)(h:PE X e (BO (tFI G s) (tFG G k g) (tFT G ft) (tF G fe) k cap)):PE X e (tFN G (oW k cap s g ft fe)):=PE.weak h (IS nd)
theorem L1:PIf X [] (tFT G pR):=λpins s σ H Q I h=>by obtain⟨F,ρ,H0,b,ρ',R,e,k⟩:=h;cases e;exact OC pins s σ H Q I (k _ _ (oE.refl _) R)
end
def qV:D->Bool
 |.non=>true|.bl _=>true|.int _=>true|.str _=>true|_=>false
def vD:D->V
 |.non=>.non|.bl b=>.bl b|.int i=>.int i|.str x=>.str x|_=>.non
variable{r':R2}{g':D->D->Option D}{neg:Bool}{r:bt->Hp->VK->Prop}
section
variable{X:Cx}{G:Bg}{H:Hp}
theorem sX{v:V}(h:Rep G H d v)(f:qV d=true):v=vD d:=by cases d<;>first|(unfold Rep at h;exact h)|cases f
theorem y9(f:qV d=true):∀H,Rep G H d (vD d):=λH=>by cases d<;>first|(unfold Rep;rfl)|cases f
theorem zW:∀{ds:aA} {xs:bt},oq G H ds xs->ds.all qV=true->xs=ds.map vD
 |[],xs,h,f=>by unfold oq at h;exact h
 |d::ds,xs,h,f=>by unfold oq at h;obtain⟨v,r,rfl,h1,h2⟩:=h;rw[dg,bf]at f;rw[ay,sX h1 f.1,zW h2 f.2]
theorem FV(f:qV d=true):ya (vD d)=true:=by cases d<;>first|rfl|cases f
theorem DP:∀{ds:aA},ds.all qV=true->(ds.map vD).all ya=true
 |[],_=>rfl
 |d::ds,f=>by rw[dg,bf]at f;rw[ay,dg,FV f.1,DP f.2];rfl
theorem OpR.or{f:aa->aa->Sem aa}{r:R2}(h:OpR X f r)(h':OpR X f r'):OpR X f (λx y H Q=>r x y H Q\/r' x y H Q):=λpins s σ H x y v u Q I rx ry q=>q.elim (h pins s σ H x y v u Q I rx ry) (h' pins s σ H x y v u Q I rx ry)
theorem OpD.or{r:R2}{g:D->D->Option D}(h:OpD G r g)(h':OpD G r' g'):OpD G (λx y H Q=>r x y H Q\/r' x y H Q) (λx y=>match g x y with|some z=>some z|none=>g' x y):=λx y z H0 H v u Q e s rx ry k=>by
 cases e1:g x y with
 |some w=>simp only[e1]at e;cases e;exact .inl (h x y _ H0 H v u Q e1 s rx ry k)
 |none=>simp only[e1]at e;exact .inr (h' x y z H0 H v u Q e s rx ry k)
def dI(C:Int->Int->Bool)(g:Int->Int->D):D->D->Option D
 |.int a,.int b=>if C a b=true then some (g a b)else none
 |_,_=>none
theorem IT{C:Int->Int->Bool}{C':Int->Int->Prop}{g:Int->Int->D}{g':Int->Int->V}(hC:∀a b,C a b=true->C' a b)(hf:∀a b,qV (g a b)=true/\vD (g a b)=g' a b):OpD G (rI C' g') (dI C g):=λx y z H0 H v u Q e s rx ry k=>by
 unfold dI at e;split at e
 ·rename_i a b;split at e
  ·rename_i hc;cases e;unfold Rep at rx ry;exact⟨a,b,rx,ry,hC _ _ hc,by rw[<-(hf a b).2];exact k _ λH0' _=>y9 (hf a b).1 H0'⟩
  ·cases e
 ·cases e
theorem zX{g:Int->Int->D}{g':Int->Int->V}(hf:∀a b,qV (g a b)=true/\vD (g a b)=g' a b):OpD G (rI0 g') (dI (λ_ _=>true) g):=λx y z H0 H v u Q e s rx ry k=>by
 unfold dI at e;split at e
 ·rename_i a b;split at e
  ·cases e;unfold Rep at rx ry;exact⟨a,b,rx,ry,by rw[<-(hf a b).2];exact k _ λH0' _=>y9 (hf a b).1 H0'⟩
  ·cases e
 ·cases e
def pI:=dI (λ_ _=>true) λa b=>.int (a+b)
def IU:=dI (λ_ _=>true) λa b=>.int (a - b)
def yB(a:Int):Bool:=decide (-(2 ^ 64)<a)&&decide (a<2 ^ 64)
def sY:=dI (λa b=>yB a||yB b) λa b=>.int (a * b)
def qW:=dI (λ_ b=>decide (0<b)) λa b=>.int (a % b)
def ye:=dI (λ_ b=>decide (0<b)&&decide (b<1073741824)) λa b=>.int (a / b)
def Ax:=dI (λa b=>decide (0<=b)&&decide (b<=1000000)&&decide (a.natAbs<2 ^ 64)) λa b=>.int (a ^ b.toNat)
def yC:=dI (λ_ _=>true) λa b=>.bl (decide (a<b))
def uO:=dI (λ_ _=>true) λa b=>.bl (decide (a<=b))
def Dl:=dI (λ_ _=>true) λa b=>.bl (decide (b<a))
def Sn:=dI (λ_ _=>true) λa b=>.bl (decide (b<=a))
theorem So:OpD G (rI0 λi j=>.int (i+j)) pI:=zX λ_ _=>⟨rfl,rfl⟩
theorem Sq:OpD G (rI0 λi j=>.int (i - j)) IU:=zX λ_ _=>⟨rfl,rfl⟩
theorem Sr:OpD G (rI Oe λi j=>.int (i * j)) sY:=IT (λa b h=>by
 unfold yB at h;simp only[jH,bf,bB]at h;exact h) λ_ _=>⟨rfl,rfl⟩
theorem Ss:OpD G (rI (λ_ j=>0<j) λi j=>.int (i % j)) qW:=IT (λa b h=>by simpa using h) λ_ _=>⟨rfl,rfl⟩
theorem Su:OpD G (rI Ru λi j=>.int (i / j)) ye:=IT (λa b h=>by unfold Ru;simpa using h) λ_ _=>⟨rfl,rfl⟩
theorem Sv:OpD G (rI VI λi j=>.int (i ^ j.toNat)) Ax:=IT (λa b h=>by
 simp only[bf,bB]at h;exact⟨h.1.1,h.1.2,h.2⟩) λ_ _=>⟨rfl,rfl⟩
theorem We:OpD G (rI0 λi j=>.bl (decide (i<j))) yC:=zX λ_ _=>⟨rfl,rfl⟩
theorem Wf:OpD G (rI0 λi j=>.bl (decide (i<=j))) uO:=zX λ_ _=>⟨rfl,rfl⟩
theorem Wg:OpD G (rI0 λi j=>.bl (decide (j<i))) Dl:=zX λ_ _=>⟨rfl,rfl⟩
theorem Wh:OpD G (rI0 λi j=>.bl (decide (j<=i))) Sn:=zX λ_ _=>⟨rfl,rfl⟩
def Xu:D->D->Option D
 |.str a,.str b=>if a.length+b.length<=100000 then some (.str (a++b))else none
 |_,_=>none
theorem FW{n:Nat}(h:n<=100000):n<=sizeLine:=bI h (by rw[bK];decide)
def L6:D->D->Option D
 |.str a,.str b=>some (.bl (!decide (b.cps.toList<a.cps.toList)))
 |_,_=>none
theorem Sw:OpD G (λx y H Q=>∃i j,x=.str i/\y=.str j/\Q (.bl (!decide (j.cps.toList<i.cps.toList))) H) L6:=λx y z H0 H v u Q e s rx ry k=>by
 unfold L6 at e;split at e
 ·rename_i a b;cases e;unfold Rep at rx ry;exact⟨a,b,rx,ry,k _ λ_ _=>qN _⟩
 ·cases e
def yD:D->D->Option D
 |.non,.non=>some (.bl true)
 |_,.non=>some (.bl false)
 |_,_=>none
def u7:D->D->Option D
 |.non,.non=>some (.bl false)
 |_,.non=>some (.bl true)
 |_,_=>none
theorem IV{v:V}(h:Rep G H d v):decide (v=.non)=(match d with|.non=>true|_=>false):=by
 cases d<;>unfold Rep at h
 ·subst h;rfl
 ·subst h;rfl
 ·subst h;rfl
 ·subst h;rfl
 ·obtain⟨a,xs,rfl,_⟩:=h;rfl
 ·obtain⟨a,xs,rfl,_⟩:=h;rfl
 ·obtain⟨a,xs,rfl,_⟩:=h;rfl
 ·obtain⟨a,dx,xs,rfl,_⟩:=h;rfl
 ·obtain⟨a,ob,xs,rfl,_⟩:=h;rfl
theorem Sx:OpD G (λx y H Q=>y=.non/\Q (.bl (decide (x=.non))) H) yD:=λx y z H0 H v u Q e s rx ry k=>by
 have e0:=IV rx;cases y<;>first|(cases x<;>cases e)|skip
 all_goals (unfold Rep at ry;refine⟨ry,?_⟩;rw[e0];exact k _ λ_ _=>qN _)
theorem Pc:OpD G (λx y H Q=>y=.non/\Q (.bl (!decide (x=.non))) H) u7:=λx y z H0 H v u Q e s rx ry k=>by
 have e0:=IV rx;cases y<;>first|(cases x<;>cases e)|skip
 all_goals (unfold Rep at ry;refine⟨ry,?_⟩;rw[e0];exact k _ λ_ _=>qN _)
def Xb:D->D->Option D
 |.bl a,.bl b=>some (.bl (a != b))
 |_,_=>none
mutual
def toD:D->Option L3.Dq
 |.non=>some .non
 |.bl b=>some (.bl b)
 |.int i=>some (.int i)
 |.str x=>some (.str x)
 |.tup ds=>match zY ds with
  |some l=>some (.tup l)
  |none=>none
 |.lst ds=>match zY ds with
  |some l=>some (.lst l)
  |none=>none
 |.fzl _=>none
 |.obj _ _ _=>none
 |.dic _ _=>none
def zY:aA->Option (List L3.Dq)
 |[]=>some []
 |d::ds=>match toD d with
  |some x=>match zY ds with
   |some l=>some (x::l)
   |none=>none
  |none=>none
end
mutual
theorem EM:∀(d:D) (v:V) (x:L3.Dq),Rep G H d v->toD d=some x->L3.Rep G.K H x v
 |.non,v,x,h,e=>by unfold toD at e;cases e;unfold Rep at h;unfold L3.Rep;exact h
 |.bl b,v,x,h,e=>by unfold toD at e;cases e;unfold Rep at h;unfold L3.Rep;exact h
 |.int b,v,x,h,e=>by unfold toD at e;cases e;unfold Rep at h;unfold L3.Rep;exact h
 |.str b,v,x,h,e=>by unfold toD at e;cases e;unfold Rep at h;unfold L3.Rep;exact h
 |.tup ds,v,x,h,e=>by
  unfold toD at e;cases e1:zY ds with
  |none=>simp only[e1]at e;cases e
  |some l=>simp only[e1]at e;cases e;unfold Rep at h;obtain⟨a,xs,rfl,h1,h2⟩:=h;unfold L3.Rep;exact⟨a,xs,rfl,h1,B2 ds xs l h2 e1⟩
 |.lst ds,v,x,h,e=>by
  unfold toD at e;cases e1:zY ds with
  |none=>simp only[e1]at e;cases e
  |some l=>simp only[e1]at e;cases e;unfold Rep at h;obtain⟨a,xs,rfl,h1,h2⟩:=h;unfold L3.Rep;exact⟨a,xs,rfl,SqL.of h1,B2 ds xs l h2 e1⟩
 |.fzl _,v,x,h,e=>by unfold toD at e;cases e
 |.obj _ _ _,v,x,h,e=>by unfold toD at e;cases e
 |.dic _ _,v,x,h,e=>by unfold toD at e;cases e
theorem B2:∀(ds:aA) (xs:bt) (l:List L3.Dq),oq G H ds xs->zY ds=some l->L3.oq G.K H l xs
 |[],xs,l,h,e=>by unfold zY at e;cases e;unfold oq at h;unfold L3.oq;exact h
 |d::ds,xs,l,h,e=>by
  unfold zY at e;cases e1:toD d with
  |none=>simp only[e1]at e;cases e
  |some x=>
   simp only[e1]at e;cases e2:zY ds with
   |none=>simp only[e2]at e;cases e
   |some l'=>simp only[e2]at e;cases e;unfold oq at h;obtain⟨v,r,rfl,h1,h2⟩:=h;unfold L3.oq;exact⟨v,r,rfl,EM d v x h1 e1,B2 ds r l' h2 e2⟩
end
def za(neg:Bool):D->D->Option D:=λx y=>match qV x&&qV y&&Lf (vD x) (vD y)with
 |true=>some (.bl (if neg then !decide (vD x=vD y)else decide (vD x=vD y)))
 |false=>none
def zb(neg:Bool):D->D->Option D:=λx y=>match toD x,toD y with
 |some a,some b=>if DJ a b&&decide (dpt a<=20)&&decide (dpt b<=20)then some (.bl (if neg then !eqD a b else eqD a b))else none
 |_,_=>none
def dEq(neg:Bool):D->D->Option D:=λx y=>match za neg x y with
 |some z=>some z
 |none=>zb neg x y
theorem Sy:OpD G rEq (za false):=λx y z H0 H v u Q e s rx ry k=>by
 unfold za at e;cases e1:qV x&&qV y&&Lf (vD x) (vD y)with
 |false=>simp only[e1]at e;cases e
 |true=>simp only[e1]at e;cases e;simp only[bf]at e1;rw[sX rx e1.1.1,sX ry e1.1.2];exact⟨e1.2,k _ λ_ _=>qN _⟩
theorem SA:OpD G rNe (za true):=λx y z H0 H v u Q e s rx ry k=>by
 unfold za at e;cases e1:qV x&&qV y&&Lf (vD x) (vD y)with
 |false=>simp only[e1]at e;cases e
 |true=>simp only[e1]at e;cases e;simp only[bf]at e1;rw[sX rx e1.1.1,sX ry e1.1.2];exact⟨e1.2,k _ λ_ _=>qN _⟩
theorem L7:OpD G (Hl G.K neg) (zb neg):=λx y z H0 H v u Q e s rx ry k=>by
 unfold zb at e;cases e1:toD x with
 |none=>simp only[e1]at e;cases e
 |some a=>
  cases e2:toD y with
  |none=>simp only[e1,e2]at e;cases e
  |some b=>
   simp only[e1,e2]at e;split at e
   ·rename_i hc;cases e;simp only[bf,bB]at hc;exact⟨a,b,EM x v a (Rep.mono s _ _ rx) e1,EM y u b (Rep.mono s _ _ ry) e2,hc.1.1,hc.1.2,hc.2,k _ λ_ _=>qN _⟩
   ·cases e
theorem SC(hu:X.A.units+64<cLine)(hK:X.K=G.K:=by rfl):OpR X (compareOp .Eq) (λx y H Q=>rEq x y H Q\/Hl G.K false x y H Q):=by rw[<-hK];exact OpR.or VJ (RZ hu)
theorem SD(hu:X.A.units+64<cLine)(hK:X.K=G.K:=by rfl):OpR X (compareOp .NotEq) (λx y H Q=>rNe x y H Q\/Hl G.K true x y H Q):=by rw[<-hK];exact OpR.or VL (R0 hu)
theorem Wi:OpD G (λx y H Q=>rEq x y H Q\/Hl G.K false x y H Q) (dEq false):=OpD.or Sy L7
theorem Wj:OpD G (λx y H Q=>rNe x y H Q\/Hl G.K true x y H Q) (dEq true):=OpD.or SA L7
def L8:D->Option aA
 |.tup ds=>some ds
 |.lst ds=>some ds
 |.fzl ds=>some ds
 |_=>none
theorem IW{v:V}(h:Rep G H d v)(e:L8 d=some ds):∃p xs,v=.ref p/\(SqL G.K H p xs\/SqT G.K H p xs)/\oq G H ds xs:=by
 cases d with
 |tup l=>cases e;unfold Rep at h;obtain⟨a,xs,rfl,h1,h2⟩:=h;exact⟨a,xs,rfl,.inr h1,h2⟩
 |lst l=>cases e;unfold Rep at h;obtain⟨a,xs,rfl,h1,h2⟩:=h;exact⟨a,xs,rfl,.inl (SqL.of h1),h2⟩
 |fzl l=>cases e;unfold Rep at h;obtain⟨a,xs,rfl,h1,h2⟩:=h;exact⟨a,xs,rfl,.inl h1,h2⟩
 |_=>cases e
def dIn(neg:Bool):D->D->Option D:=λx y=>match L8 y with
 |some ds=>if qV x&&ds.all qV then some (.bl (if neg then !inV (vD x) (ds.map vD)else inV (vD x) (ds.map vD)))else none
 |none=>none
theorem IY{K:au}{H:Hp}(s:oE H H')(h:SqL K H p xs\/SqT K H p xs):SqL K H' p xs\/SqT K H' p xs:=h.imp s.seq (SqT.mono s)
theorem QN:OpD G (rIn G.K neg) (dIn neg):=λx y z H0 H v u Q e s rx ry k=>by
 unfold dIn at e;cases e1:L8 y with
 |none=>simp only[e1]at e;cases e
 |some ds=>
  simp only[e1]at e;split at e
  ·rename_i hc;cases e;simp only[bf]at hc;obtain⟨p,xs,rfl,h1,h2⟩:=IW ry e1;refine⟨p,xs,rfl,IY s h1,?_,?_,?_⟩
   ·rw[sX rx hc.1];exact FV hc.1
   ·rw[zW h2 hc.2];exact DP hc.2
   ·rw[sX rx hc.1,zW h2 hc.2];exact k _ λ_ _=>qN _
  ·cases e
theorem SE(hK:X.K=G.K:=by rfl):OpR X (compareOp .In) (rIn G.K false):=by rw[<-hK];exact JZ
theorem Ke(hK:X.K=G.K:=by rfl):OpR X (compareOp .NotIn) (rIn G.K true):=by rw[<-hK];exact EA
def dIx:D->D->Option D
 |.tup ds,.int i=>atI ds i
 |.lst ds,.int i=>atI ds i
 |.fzl ds,.int i=>atI ds i
 |.str x,.int i=>if x.length<=100000 then (atI x.cps.toList i).map λc=>.str ⟨#[c]⟩else none
 |_,_=>none
theorem Wk:OpD G (rIx G.K) dIx:=λx y z H0 H v u Q e s rx ry k=>by
 cases y with
 |int i=>
  unfold Rep at ry;subst ry;cases x with
  |tup ds=>unfold Rep at rx;obtain⟨a,xs,rfl,h1,h2⟩:=rx;obtain⟨w,w1,w2⟩:=y7 h2 (show atI ds i=some z from e);exact .inr (.inl ⟨a,xs,i,w,rfl,rfl,SqT.mono s h1,w1,k _ λH0' s'=>Rep.mono s' _ _ w2⟩)
  |lst ds=>unfold Rep at rx;obtain⟨a,xs,rfl,h1,h2⟩:=rx;obtain⟨w,w1,w2⟩:=y7 h2 (show atI ds i=some z from e);exact .inl ⟨a,xs,i,w,rfl,rfl,s.seq (SqL.of h1),w1,k _ λH0' s'=>Rep.mono s' _ _ w2⟩
  |fzl ds=>unfold Rep at rx;obtain⟨a,xs,rfl,h1,h2⟩:=rx;obtain⟨w,w1,w2⟩:=y7 h2 (show atI ds i=some z from e);exact .inl ⟨a,xs,i,w,rfl,rfl,s.seq h1,w1,k _ λH0' s'=>Rep.mono s' _ _ w2⟩
  |str t=>
   unfold Rep at rx;subst rx;unfold dIx at e;simp only at e;split at e
   ·rename_i hl;cases e1:atI t.cps.toList i with
    |none=>rw[e1]at e;cases e
    |some c=>rw[e1]at e;cases e;exact .inr (.inr ⟨t,i,c,rfl,rfl,FW hl,e1,k _ λ_ _=>vK _⟩)
   ·cases e
  |_=>cases e
 |_=>cases x<;>cases e
theorem Xn(hK:X.K=G.K:=by rfl):IxR X (rIx G.K):=by rw[<-hK];exact RO
def DQ(G:Bg)(r:bt->Hp->VK->Prop)(g:D->Option D):Prop:=∀x z H0 H v (Q:VK),g x=some z->oE H0 H->Rep G H0 x v->(∀w,(∀H0',oE H0 H0'->Rep G H0' z w)->Q w H)->r [v] H Q
theorem QO{g:D->Option D}(hr:DQ G r g)(h:PE X e (tCB r (tFA G (oa f oJ)))):PE X e (tF G (c1 g f)):=PE.weak h λσ H Q hh=>by obtain⟨F,ρ,H0,d,ρ',R,e,k⟩:=hh;obtain⟨x,e1,e2⟩:=Bq e;refine⟨F,ρ,H0,[x],ρ',R,by unfold oa;rw[e1];rfl,λys H1 H1' s R' rs=>?_⟩;unfold oq at rs;obtain⟨v,r0,rfl,rv,rn⟩:=rs;unfold oq at rn;subst rn;exact hr x d H1 H1' v Q e2 R'.sub rv λw hw=>k _ _ _ s R' (hw _ (oE.refl _))
theorem p6.or{f:aa}{r':bt->Hp->VK->Prop}(h:p6 X f r)(h':p6 X f r'):p6 X f (λx H Q=>r x H Q\/r' x H Q):=λpins s σ H xs us Q I rv q=>q.elim (h pins s σ H xs us Q I rv) (h' pins s σ H xs us Q I rv)
def p5:D->Option D
 |.tup ds=>some (.int ds.length)
 |.lst ds=>some (.int ds.length)
 |.fzl ds=>some (.int ds.length)
 |.str x=>if x.length<=100000 then some (.int x.length)else none
 |.dic ks ds=>some (.int ks.length)
 |_=>none
theorem Kg:p6 X (.builtin "len") (λxs H Q=>∃a kvs,xs=[V.ref a]/\Rd H a (.dK kvs)/\Q (.int kvs.length) H):=by intro pins s σ H xs us Q I r h;obtain⟨a,kvs,rfl,ha,q⟩:=h;obtain⟨u,rfl,ru⟩:=vals1 r;cases ru;exact VZ I ha λt s' I'=>⟨.int kvs.length,H,I',⟨t,rfl⟩,q⟩
def QP(K:au):bt->Hp->VK->Prop:=λxs H Q=>(∃p ys,xs=[.ref p]/\(SqL K H p ys\/SqT K H p ys)/\Q (.int ys.length) H)\/((∃z,xs=[.str z]/\z.length<=sizeLine/\Q (.int z.length) H)\/(∃a kvs,xs=[V.ref a]/\Rd H a (.dK kvs)/\Q (.int kvs.length) H))
theorem Kh(hK:X.K=G.K:=by rfl):p6 X (.builtin "len") (QP G.K):=by rw[<-hK];exact p6.or EB (p6.or EC Kg)
theorem SF:DQ G (QP G.K) p5:=λx z H0 H v Q e s rx k=>by
 cases x with
 |tup ds=>cases e;unfold Rep at rx;obtain⟨a,xs,rfl,h1,h2⟩:=rx;refine .inl ⟨a,xs,rfl,.inr (SqT.mono s h1),?_⟩;rw[<-ou h2];exact k _ λ_ _=>qz _
 |lst ds=>cases e;unfold Rep at rx;obtain⟨a,xs,rfl,h1,h2⟩:=rx;refine .inl ⟨a,xs,rfl,.inl (s.seq (SqL.of h1)),?_⟩;rw[<-ou h2];exact k _ λ_ _=>qz _
 |fzl ds=>cases e;unfold Rep at rx;obtain⟨a,xs,rfl,h1,h2⟩:=rx;refine .inl ⟨a,xs,rfl,.inl (s.seq h1),?_⟩;rw[<-ou h2];exact k _ λ_ _=>qz _
 |str t=>
  unfold p5 at e;simp only at e;split at e
  ·rename_i hl;cases e;unfold Rep at rx;exact .inr (.inl ⟨t,by rw[rx],FW hl,k _ λ_ _=>qz _⟩)
  ·cases e
 |dic ks ds=>cases e;unfold Rep at rx;obtain⟨a,o,xs,rfl,h1,h2,h3⟩:=rx;refine .inr (.inr ⟨a,_,rfl,.inr ⟨o,s _ _ h1⟩,?_⟩);rw[eJ,<- h2,dM];exact k _ λ_ _=>qz _
 |_=>cases e
def Hu:D->Option D
 |.int i=>some (.int i)
 |.bl b=>some (.int (if b then 1 else 0))
 |_=>none
theorem SG:DQ G (λxs H Q=>(∃i,xs=[.int i]/\Q (.int i) H)\/∃k,xs=[.bl k]/\Q (.int (if k then 1 else 0)) H) Hu:=λx z H0 H v Q e s rx k=>by
 cases x with
 |int i=>cases e;unfold Rep at rx;subst rx;exact .inl ⟨i,rfl,k _ λ_ _=>qz _⟩
 |bl b=>cases e;unfold Rep at rx;subst rx;exact .inr ⟨b,rfl,k _ λ_ _=>qz _⟩
 |_=>cases e
def Dm:aA->Option (List Bool)
 |[]=>some []
 |.bl b::r=>(Dm r).map (b::·)
 |_=>none
theorem B3:∀{ds:aA} {xs:bt} {bs:List Bool},oq G H ds xs->Dm ds=some bs->xs=bs.map V.bl
 |[],xs,bs,h,e=>by cases e;unfold oq at h;exact h
 |.bl b::r,xs,bs,h,e=>by
  unfold oq at h;obtain⟨v,q,rfl,h1,h2⟩:=h;unfold Dm at e;cases e1:Dm r with
  |none=>rw[e1]at e;cases e
  |some l=>rw[e1]at e;cases e;unfold Rep at h1;subst h1;rw[B3 h2 e1];rfl
 |.non::r,xs,bs,h,e=>by cases e
 |.int _::r,xs,bs,h,e=>by cases e
 |.str _::r,xs,bs,h,e=>by cases e
 |.tup _::r,xs,bs,h,e=>by cases e
 |.lst _::r,xs,bs,h,e=>by cases e
 |.fzl _::r,xs,bs,h,e=>by cases e
 |.obj _ _ _::r,xs,bs,h,e=>by cases e
 |.dic _ _::r,xs,bs,h,e=>by cases e
def uz:D->Option D
 |.lst ds=>(Dm ds).map λbs=>.bl (bs.all id)
 |_=>none
theorem SH:DQ G (λxs H Q=>∃(p:Addr) (bs:List Bool),xs=[.ref p]/\SqL G.K H p (bs.map V.bl)/\Q (.bl (bs.all id)) H) uz:=λx z H0 H v Q e s rx k=>by
 cases x with
 |lst ds=>
  unfold uz at e;simp only at e;cases e1:Dm ds with
  |none=>rw[e1]at e;cases e
  |some bs=>rw[e1]at e;cases e;unfold Rep at rx;obtain⟨a,xs,rfl,h1,h2⟩:=rx;rw[B3 h2 e1]at h1;exact⟨a,bs,rfl,s.seq (SqL.of h1),k _ λ_ _=>qN _⟩
 |_=>cases e
theorem Ki(hc:X.calm=true)(hK:X.K=G.K:=by rfl):p6 X (.builtin "all") (λxs H Q=>∃(p:Addr) (bs:List Bool),xs=[.ref p]/\SqL G.K H p (bs.map V.bl)/\Q (.bl (bs.all id)) H):=by rw[<-hK];exact LC hc
inductive Ty where
 |b (n:String)|c (k:Nat)
def Ty.val(G:Bg):Ty->aa
 |.b n=>.type n
 |.c k=>.ref (G.ca k)
def Ty.v(G:Bg):Ty->V
 |.b n=>.ty n
 |.c k=>.ref (G.ca k)
def tyD:D->Ty
 |.non=>.b "NoneType" |.bl _=>.b "bool" |.int _=>.b "int" |.str _=>.b "str" |.tup _=>.b "tuple" |.lst _=>.b "list" |.fzl _=>.b "list" |.dic _ _=>.b "dict" |.obj c _ _=>.c c
structure Kj(K:au)(C:Addr):Prop where
 cl:Cls K C
 ha:cy K (.ref C) "__class__" = some (some (.builtin "object.__class__"))
 hn:W.specialIn K (.builtin "object.__class__") "__get__" = some (some (.builtin "getset_descriptor.__get__"))
 htk:W.takesIn K (.builtin "object.__class__")=some true
 hm:W.mroIn K C (.type "object")=some true
theorem L9{pins:cn}{s:af}{A:aH}{E:aa->af->Prop}{Q:aa->af->Prop}{c:aa}{b:Bool}{v:V}{u:aa}(I:Inv X pins σ H s)(hK:X.K=G.K)(hd:Rep G H d v)(rv:RelV v u)(hc:∀k ns ds,d=.obj k ns ds->Kj X.K (G.ca k))
  (e:cK X.K ((tyD d).val G) c=some b) (h:∀tk,Q (.bool b) { s with toks:=tk }):wpAny (model X.prog X.w) A (call (.builtin "isinstance") [u,c]) Q E s:=by
 cases d with
 |non=>unfold Rep at hd;subst hd;exact t8 I rv .non e h
 |bl x=>unfold Rep at hd;subst hd;exact t8 I rv (.bl x) e h
 |int x=>unfold Rep at hd;subst hd;exact t8 I rv (.int x) e h
 |str x=>unfold Rep at hd;subst hd;exact t8 I rv (.str x) e h
 |tup ds=>unfold Rep at hd;obtain⟨a,xs,rfl,h1,h2⟩:=hd;cases rv;rw[<-hK]at h1;obtain⟨its,_,p,_⟩:=I.tuple h1;obtain⟨o,q1,q2,_⟩:=p;exact cx W.kitx_tuple I.kIn ⟨o,q1,q2⟩ e (λz=>nomatch z) h
 |lst ds=>unfold Rep at hd;obtain⟨a,xs,rfl,h1,h2⟩:=hd;exact t8 I rv (.lst h1) e h
 |fzl ds=>unfold Rep at hd;obtain⟨a,xs,rfl,h1,h2⟩:=hd;cases rv;rw[<-hK]at h1;obtain⟨its,_,p,_⟩:=I.list h1;obtain⟨o,n,q1,q2,_⟩:=p;exact cx j7 I.kIn ⟨o,q1,q2⟩ e (λz=>nomatch z) h
 |dic ks ds=>unfold Rep at hd;obtain⟨a,o,xs,rfl,h1,h2,h3⟩:=hd;cases rv;obtain⟨q0,_,_,vs,_,ob,es,ep,q1,q2,_⟩:=(show pL X.prog X.w H s.heap a (.frz o (.dK (ks.zip xs))) from I.hok a _ h1);exact cx j8 I.kIn ⟨ob,q1,q2.1⟩ e (λz=>nomatch z) h
 |obj k ns ds=>have ci:=hc k ns ds rfl;unfold Rep at hd;obtain⟨a,dx,xs,rfl,h1,h2,h3⟩:=hd;exact t8 I rv (.ins h1 ci.cl ci.ha ci.hn ci.htk ci.hm) e h
def sZ(t:Ty->Option Bool):D->Option D:=λd=>(t (tyD d)).map .bl
theorem DR(c:Ty){t:Ty->Option Bool}(ht:∀y b,t y=some b->cK X.K (y.val G) (c.val G)=some b)(hc:∀k b,t (.c k)=some b->Kj X.K (G.ca k))(hK:X.K=G.K:=by rfl):
  p6 X (.builtin "isinstance") (λxs H Q=>∃d x b,xs=[x,c.v G]/\Rep G H d x/\t (tyD d)=some b/\Q (.bl b) H):=by
 intro pins s σ H xs us Q I r h;obtain⟨d,x,b,rfl,hd,e,q⟩:=h;obtain⟨u,w',rfl,ru,rw'⟩:=vals2 r;have ew:w'=c.val G:=by cases c<;>exact rw'
 subst ew;exact L9 I hK hd ru (λk ns ds z=>by subst z;exact hc k b e) (ht _ _ e) λtk=>⟨.bl b,H,I.tok _,rfl,q⟩
theorem IZ{c:Ty}{t:Ty->Option Bool}(h:PE X e (tCB (λxs H Q=>∃d x b,xs=[x,c.v G]/\Rep G H d x/\t (tyD d)=some b/\Q (.bl b) H) (BC (tF G f) (BC (tC (c.v G)) Ft)))):PE X e (tF G (c1 (sZ t) f)):=PE.weak h λσ H Q hh=>by
 obtain⟨F,ρ,H0,d,ρ',R,e,k⟩:=hh;obtain⟨x,e1,e2⟩:=Bq e;unfold sZ at e2;cases e3:t (tyD x)with
 |none=>rw[e3]at e2;cases e2
 |some b=>rw[e3]at e2;cases e2;exact⟨F,ρ,H0,x,ρ',R,e1,λv H1 H1' s R' r=>⟨x,v,b,rfl,Rep.mono R'.sub _ _ r,e3,k _ _ _ s R' (qN b)⟩⟩
def qO(f g:FE):FA:=λρ=>match f ρ with
 |some (.lst xs,ρ1)=>match g ρ1 with
  |some (.lst ys,ρ2)=>if xs.length+ys.length<=1000 then some (xs++ys,ρ2)else none
  |_=>none
 |_=>none
theorem Pd{a:Expr}{g:FE}(ha:PE X a (tF G f))(hb:PE X b (tF G g)):PE X (.BinOp a .Add b pos) (tFN G (qO f g)):=PE.weak (Le RQ ha hb) λσ H Q hh=>by
 obtain⟨F,ρ,H0,d,ρ',R,e,k⟩:=hh;unfold qO at e;split at e
 ·rename_i xs ρ1 e1;split at e
  ·rename_i ys ρ2 e2;split at e
   ·rename_i hl;cases e;refine⟨F,ρ,H0,_,ρ1,R,e1,λv H1 H1' s R' r=>⟨F,ρ1,H1,_,_,R',e2,λu H2 H2' s2 R2 r2=>?_⟩⟩;have r':=Rep.mono s2 _ _ r;unfold Rep at r' r2;obtain⟨a1,xs1,rfl,h1,h2⟩:=r';obtain⟨a2,xs2,rfl,h3,h4⟩:=r2;refine⟨a1,a2,xs1,xs2,rfl,rfl,R2.sub _ _ h1,R2.sub _ _ h3,by rw[<-ou h2,<- ou h4];exact ue hl,λp hp=>?_⟩;exact k p _ _ _ (s.trans s2) (R2.newOwn hp _) oA (R2.h0none hp) (R2.bNone hp) (R2.apart hp) (qE h2 h4)
   ·cases e
  ·cases e
 ·cases e
def wW(f:FE):FA:=λρ=>match f ρ with
 |some (d,ρ1)=>match L8 d with
  |some ds=>some (ds,ρ1)
  |none=>none
 |none=>none
theorem Ma(h:PE X e (tCB (λxs H Q=>∃p ys,xs=[.ref p]/\(SqL G.K H p ys\/SqT G.K H p ys)/\∀l,H l=none->Q (.ref l) (upd H l (.lst ys))) (tFA G (oa f oJ)))):PE X e (tFN G (wW f)):=PE.weak h λσ H Q hh=>by
 obtain⟨F,ρ,H0,ds,ρ',R,e,k⟩:=hh;unfold wW at e;rcases oZ (f:=f) (ρ:=ρ)with e1|⟨d,ρ1,e1⟩<;>simp only[e1]at e
 ·cases e
 ·cases e2:L8 d with
  |none=>simp only[e2]at e;cases e
  |some ds'=>simp only[e2]at e;cases e;refine⟨F,ρ,H0,[d],_,R,by unfold oa;rw[e1];rfl,λys H1 H1' s R' rs=>?_⟩;unfold oq at rs;obtain⟨v,r0,rfl,rv,rn⟩:=rs;unfold oq at rn;subst rn;obtain⟨p,xs,rfl,h1,h2⟩:=IW rv e2;exact⟨p,xs,rfl,IY R'.sub h1,λl hl=>k l _ _ _ s (R'.newOwn hl _) oA (R'.h0none hl) (R'.bNone hl) (R'.apart hl) h2⟩
theorem Hv(hK:X.K=G.K:=by rfl):p6 X (.type "list") (λxs H Q=>∃p ys,xs=[.ref p]/\(SqL G.K H p ys\/SqT G.K H p ys)/\∀l,H l=none->Q (.ref l) (upd H l (.lst ys))):=by rw[<-hK];exact ED
def FX(f:FE):FE:=λρ=>match f ρ with
 |some (.lst ds,ρ1)=>some (.tup ds,ρ1)
 |some (.tup ds,ρ1)=>some (.tup ds,ρ1)
 |_=>none
theorem Mb(h:PE X e (tCB (λxs H Q=>∃p ys,xs=[.ref p]/\((SqL G.K H p ys/\∀l,H l=none->Q (.ref l) (upd H l (.tup ys)))\/(SqT G.K H p ys/\Q (.ref p) H))) (tFA G (oa f oJ)))):PE X e (tF G (FX f)):=PE.weak h λσ H Q hh=>by
 obtain⟨F,ρ,H0,ds,ρ',R,e,k⟩:=hh;unfold FX at e;split at e
 ·rename_i xs ρ1 e1;cases e;refine⟨F,ρ,H0,[_],_,R,by unfold oa;rw[e1];rfl,λys H1 H1' s R' rs=>?_⟩;unfold oq at rs;obtain⟨v,r0,rfl,rv,rn⟩:=rs;unfold oq at rn;subst rn;unfold Rep at rv;obtain⟨p,zs,rfl,h1,h2⟩:=rv;refine⟨p,zs,rfl,.inl ⟨SqL.of (R'.sub _ _ h1),λl hl=>?_⟩⟩;exact k _ _ _ (s.trans (oH (R'.h0none hl) _)) (R'.newIm hl _) (vJ (SqT.of oA) (oq.mono (oH (R'.h0none hl) _) _ _ h2))
 ·rename_i xs ρ1 e1;cases e;refine⟨F,ρ,H0,[_],_,R,by unfold oa;rw[e1];rfl,λys H1 H1' s R' rs=>?_⟩;unfold oq at rs;obtain⟨v,r0,rfl,rv,rn⟩:=rs;unfold oq at rn;subst rn;have rv0:=rv;unfold Rep at rv;obtain⟨p,zs,rfl,h1,h2⟩:=rv;exact⟨p,zs,rfl,.inr ⟨SqT.mono R'.sub h1,k _ _ _ s R' rv0⟩⟩
 ·cases e
theorem Kk(hK:X.K=G.K:=by rfl):p6 X (.type "tuple") (λxs H Q=>∃p ys,xs=[.ref p]/\((SqL G.K H p ys/\∀l,H l=none->Q (.ref l) (upd H l (.tup ys)))\/(SqT G.K H p ys/\Q (.ref p) H))):=by rw[<-hK];exact Dg
def cutD(xs:aA)(lo hi:Option Int):aA:=(xs.drop (HT.sIx xs.length 0 lo)).take (HT.sIx xs.length xs.length hi - HT.sIx xs.length 0 lo)
theorem B4{lo hi:Option Int}(r:oq G H0 ds xs):oq G H0 (cutD ds lo hi) (Fw xs lo hi):=by unfold cutD Fw;rw[<-ou r];exact DM _ (DL _ r)
def cSl(f:FE)(lo hi:Option Int):FA:=λρ=>match f ρ with
 |some (.lst ds,ρ1)=>some (cutD ds lo hi,ρ1)
 |some (.fzl ds,ρ1)=>some (cutD ds lo hi,ρ1)
 |_=>none
def tO(o:Option Int):TO:=λ_ H Q=>Q o H
theorem Kl{lo hi:Option Int}(h:PE X e (tSl (JY G.K) (tF G f) (tO lo) (tO hi))):PE X e (tFN G (cSl f lo hi)):=PE.weak h λσ H Q hh=>by
 obtain⟨F,ρ,H0,ds,ρ',R,e,k⟩:=hh;have gen:∀{a:Addr} {xs:bt} {ds':aA} {H1 H1':Hp},oE H0 H1->oN G F σ ρ' H1 H1'->SqL G.K H1 a xs->oq G H1 ds' xs->ds=cutD ds' lo hi->JY G.K (.ref a) lo hi H1' Q:=λ{a xs ds' H1 H1'} s R' h1 h2 e=>by subst e;exact⟨a,xs,rfl,R'.sub.seq h1,λp hp=>k p _ _ _ s (R'.newOwn hp _) oA (R'.h0none hp) (R'.bNone hp) (R'.apart hp) (B4 h2)⟩
 unfold cSl at e;split at e
 ·rename_i xs ρ1 e1;cases e;refine⟨F,ρ,H0,_,_,R,e1,λv H1 H1' s R' r=>?_⟩;unfold Rep at r;obtain⟨a,ys,rfl,h1,h2⟩:=r;exact gen s R' (SqL.of h1) h2 rfl
 ·rename_i xs ρ1 e1;cases e;refine⟨F,ρ,H0,_,_,R,e1,λv H1 H1' s R' r=>?_⟩;unfold Rep at r;obtain⟨a,ys,rfl,h1,h2⟩:=r;exact gen s R' h1 h2 rfl
 ·cases e
theorem Mc{n:Int}{j pos}:PO X (some (.Constant (.int n) j pos)) (tO (some n)):=λpins s σ H Q I h=>IF GY pins s σ H Q I ⟨n,rfl,h⟩
theorem Wl:PO X none (tO none):=IE
theorem Wm(hK:X.K=G.K:=by rfl):SlR X (JY G.K):=by rw[<-hK];exact Ou
end
def Sl.bor:Sl->Sl
 |.un=>.un
 |.im d=>.im d
 |.ls ds=>.im (.lst ds)
 |.pm ds=>.im (.lst ds)
 |.dk _ _=>.un
 |.ob c ns ds=>.im (.obj c ns ds)
variable{fa fb fc:FE}{op':cg}
section
variable{X:Cx}{G:Bg}
theorem oN.bor{H:Hp}(R:oN G F σ ρ H0 H):oN G ⟨H,H,[]⟩ σ (ρ.map Sl.bor) H H where
 sub:=oE.refl _
 g0:=oE.refl _
 keep:=λb o e _=>e
 fr:=λb o e=>.inl e
 am:=λa h=>by cases h
 len:=by rw[ah];exact R.len
 sl:=λi s e=>by
  rw[bu]at e;cases e1:ρ[i]? with
  |none=>rw[e1]at e;cases e
  |some t=>
   rw[e1]at e;cases e;have ok:=R.sl i t e1;cases t with
   |un=>trivial
   |im d=>obtain⟨v,h1,h2⟩:=ok;exact⟨v,h1,Rep.mono R.sub _ _ h2⟩
   |ls ds=>obtain⟨a,xs,h1,h2,h3,h4,h5⟩:=ok;exact⟨_,h1,uC h2 (oq.mono R.sub _ _ h5)⟩
   |pm ds=>obtain⟨a,xs,h1,h2,h3,h4,h5⟩:=ok;exact⟨_,h1,uC h2 (oq.mono R.sub _ _ h5)⟩
   |dk ks ds=>trivial
   |ob c ns ds=>obtain⟨a,dx,xs,h1,h2,h3,h4,h5,h6⟩:=ok;exact⟨_,h1,by unfold Rep;exact⟨a,dx,xs,rfl,h2,h5,oq.mono R.sub _ _ h6⟩⟩
 ap:=λi j s t a _ e _ so=>by
  rw[bu]at e;cases e1:ρ[i]? with
  |none=>rw[e1]at e;cases e
  |some t=>rw[e1]at e;cases e;cases t<;>cases so
theorem oN.unbor{σ':St}{H:Hp}(R:oN G F σ ρ H0 H)(R':oN G ⟨H,H,[]⟩ σ' ρ' H1 H1'):oN G F σ ρ H0 H1':=
 R.grow (λb o e=>R'.keep b o e (by simp)) (oE.refl _) (λb o e=>R'.keep b o (R.sub _ _ e) (by simp)) λb o e=>.inl e
def zc(f:FE):FE:=λρ=>match f (ρ.map Sl.bor)with
 |some (d,_)=>if qV d=true then some (d,ρ)else none
 |none=>none
def yf(f:FT):FT:=λρ=>match f (ρ.map Sl.bor)with
 |some (d,_)=>some (d,ρ)
 |none=>none
theorem SI(h:PE X e (tF G f)):PE X e (tF G (zc f)):=PE.weak h λσ H Q hh=>by
 obtain⟨F,ρ,H0,d,ρ',R,e,k⟩:=hh;unfold zc at e;rcases oZ (f:=f) (ρ:=ρ.map Sl.bor)with e1|⟨x,ρ1,e1⟩<;>simp only[e1]at e
 ·cases e
 ·split at e
  ·rename_i hf;cases e;refine⟨_,_,H,d,ρ1,R.bor,e1,λv H1 H1' s R' r=>?_⟩;rw[sX r hf];exact k _ _ _ (oE.refl _) (R.unbor R') (y9 hf _)
  ·cases e
theorem Pe{f:FT}(h:PT X e (tFT G f)):PT X e (tFT G (yf f)):=PT.weak h λσ H Q hh=>by
 obtain⟨F,ρ,H0,d,ρ',R,e,k⟩:=hh;unfold yf at e;rcases oZ (f:=f) (ρ:=ρ.map Sl.bor)with e1|⟨x,ρ1,e1⟩<;>simp only[e1]at e
 ·cases e
 ·cases e;exact⟨_,_,H,d,ρ1,R.bor,e1,λH1 H1' s R'=>k _ _ (oE.refl _) (R.unbor R')⟩
def rM(g g':D->D->Option D)(fa fb fc:FE):FE:=λρ=>match fa ρ with
 |some (x,ρ1)=>match fb ρ1 with
  |some (y,ρ2)=>match g x y with
   |some (.bl true)=>match fc ρ2 with
    |some (z,ρ3)=>match g' y z with
     |some w=>some (w,ρ3)
     |none=>none
    |none=>none
   |some (.bl false)=>some (.bl false,ρ2)
   |_=>none
  |none=>none
 |none=>none
theorem FY{r:R2}{g:D->D->Option D}(ho:OpD G r g)(ho':OpD G r' g'):∀σ H Q,tF G (rM g g' fa fb fc) σ H Q->G2 r r' (tF G fa) (tF G fb) (tF G fc) σ H Q:=λσ H Q hh=>by
 obtain⟨F,ρ,H0,d,ρ',R,e,k⟩:=hh;unfold rM at e;rcases oZ (f:=fa) (ρ:=ρ)with e1|⟨x,ρ1,e1⟩<;>simp only[e1]at e
 ·cases e
 rcases oZ (f:=fb) (ρ:=ρ1)with e2|⟨y,ρ2,e2⟩<;>simp only[e2]at e
 ·cases e
 refine⟨F,ρ,H0,x,ρ1,R,e1,λv H1 H1' s1 R1 r1=>⟨F,ρ1,H1,y,ρ2,R1,e2,λu H2 H2' s2 R2 r2=>?_⟩⟩;split at e
 ·rename_i e3;refine ho x y _ H2 H2' v u _ e3 R2.sub (Rep.mono s2 _ _ r1) r2 λw hw=>?_;have hw':=hw H2 (oE.refl _);unfold Rep at hw';refine⟨true,hw',EI ?_⟩;rcases oZ (f:=fc) (ρ:=ρ2)with e4|⟨z,ρ3,e4⟩<;>simp only[e4]at e
  ·cases e
  cases e5:g' y z with
  |none=>simp only[e5]at e;cases e
  |some q=>simp only[e5]at e;cases e;refine⟨F,ρ2,H2,z,_,R2,e4,λt H3 H3' s3 R3 r3=>?_⟩;exact ho' y z _ H3 H3' u t Q e5 R3.sub (Rep.mono s3 _ _ r2) r3 λw hw=>k w H3 H3' (s1.trans (s2.trans s3)) R3 (hw _ (oE.refl _))
 ·rename_i e3;cases e;refine ho x y _ H2 H2' v u _ e3 R2.sub (Rep.mono s2 _ _ r1) r2 λw hw=>?_;have hw':=hw H2 (oE.refl _);unfold Rep at hw';exact⟨false,hw',EH (k _ _ _ (s1.trans s2) R2 (qN false))⟩
 ·cases e
theorem Md{a c:Expr}{op:cg}{r:R2}{g:D->D->Option D}(hr:OpR X (compareOp op) r)(hr':OpR X (compareOp op') r')(ho:OpD G r g)(ho':OpD G r' g')(ha:PE X a (tF G fa))(hb:PE X b (tF G fb))(hc:PE X c (tF G fc))
  (hm:lastMarks [op,op'] [b,c]=false:=by with_unfolding_all rfl):PE X (.Compare a [op,op'] [b,c] pos) (tF G (rM g g' fa fb fc)):=PE.weak (Li hr hr' ha hb hc hm) (FY ho ho')
theorem Km{a c:Expr}{op:cg}{r:R2}{g:D->D->Option D}(hr:OpR X (compareOp op) r)(hr':OpR X (compareOp op') r')(ho:OpD G r g)(ho':OpD G r' g')(ha:PE X a (tF G fa))(hb:PE X b (tF G fb))(hc:PE X c (tF G fc))
  (hm:lastMarks [op,op'] [b,c]=false:=by with_unfolding_all rfl):PT X (.Compare a [op,op'] [b,c] pos) (tFT G (cT (rM g g' fa fb fc))):=PT.weak (Lj hr hr' ha hb hc hm) λσ H Q hh=>by
 obtain⟨F,ρ,H0,d,ρ',R,e,k⟩:=EK σ H Q hh;exact FY ho ho' σ H _ ⟨F,ρ,H0,d,ρ',R,e,k⟩
end
def u9(P:aE)(w:az)(K:au)(mg:Str->Option aa)(base:Heap)(k:Nat)(x:Str)(ps:aC)(sp:Sp):Prop:=
 ∃(f:Addr) (fd:bM),mg x=some (.ref f)/\c4 K (.ref f)=true/\Binds K fd ps []/\sH P w K mg base CX0 k f fd ps sp
def EN(G:Bg)(P:aE)(w:az)(mg:Str->Option aa)(base:Heap)(k:Nat)(x:Str)(c:Nat)(ps:aC)(dvs:bt)(g:aA->Option (aC×aA)):Prop:=
 ∃(f:Addr) (fd:bM) (ds:List aa),Mk G.K (G.ca c) f/\mg x=some (.ref (G.ca c))/\Binds G.K fd ps ds/\Vals dvs ds/\sH P w G.K mg base CX0 k f fd ps (spI G c g)
def zZ(G:Bg)(P:aE)(w:az)(mg:Str->Option aa)(base:Heap)(k:Nat)(m:Str)(c:Nat)(h:aA->Option D):Prop:=
 ∃(f:Addr) (fd:bM) (ps:aC),Cls G.K (G.ca c)/\Meth G.K (G.ca c) m f/\Binds G.K fd ps []/\sH P w G.K mg base CX0 k f fd ps (spF G h)
section
variable{X:Cx}{G:Bg}{k:Nat}{x m:Str}{p pos apos:Pos}{e o:Expr}{es:List Expr}{a:FA}{ps:aC}
theorem Ay{α:Type}(g:aA->α):(λds=>g (ds++[]))=g:=funext λds=>by rw[br]
theorem SJ{g:aA->Option D}(D:u9 X.prog X.w X.K X.mg X.base k x ps (spF G g))(hr:p8 k X.A)(ha:PA X (e::es) (tFA G a))(hg:Gl X x:=by rfl)(hdb:(x==("__debug__" : Str))=false:=by decide)(he:starEach (e::es) X.env=(false,eval e X.env)::starEach es X.env:=by rfl)(hpl:(backTo pos (starEach es X.env)).any (·.1)=false:=by rfl):
  PE X (.Call (.Name x p) (e::es) [] pos) (tF G (om g a)):=by
 obtain⟨f,fd,h1,h2,h3,h4⟩:=D;have q:=O2 (dvs:=[]) (dds:=[]) (λ_=>o8) (yV (p:=p) (pos:=pos) h4 hr hg h1 h2 h3 .nil Av ha hdb he hpl);rw[Ay]at q;exact q
theorem Pf{g:aA->Option aA}(D:u9 X.prog X.w X.K X.mg X.base k x ps (spN G g))(hr:p8 k X.A)(ha:PA X (e::es) (tFA G a))(hg:Gl X x:=by rfl)(hdb:(x==("__debug__" : Str))=false:=by decide)(he:starEach (e::es) X.env=(false,eval e X.env)::starEach es X.env:=by rfl)(hpl:(backTo pos (starEach es X.env)).any (·.1)=false:=by rfl):
  PE X (.Call (.Name x p) (e::es) [] pos) (tFN G (pb g a)):=by
 obtain⟨f,fd,h1,h2,h3,h4⟩:=D;have q:=LS (dvs:=[]) (dds:=[]) (λ_=>o8) (yV (p:=p) (pos:=pos) h4 hr hg h1 h2 h3 .nil Av ha hdb he hpl);rw[Ay]at q;exact q
theorem Me{g:aA->Option aA}(D:u9 X.prog X.w X.K X.mg X.base k x ps (spN G g))(hr:p8 k X.A)(hg:Gl X x:=by rfl)(hdb:(x==("__debug__" : Str))=false:=by decide):PE X (.Call (.Name x p) [] [] pos) (tFN G (pb g oJ)):=by obtain⟨f,fd,h1,h2,h3,h4⟩:=D;exact J8 (Ln h4 hr hg h1 h2 h3 .nil Av hdb)
theorem Pg{g:aA->aA->Option (D×aA)}(D:u9 X.prog X.w X.K X.mg X.base k x ps (spM G g))(hr:p8 k X.A)(hv:PE X e (uM i))(ha:PA X es (tFA G a))(hg:Gl X x:=by rfl)(hdb:(x==("__debug__" : Str))=false:=by decide)(he:starEach (e::es) X.env=(false,eval e X.env)::starEach es X.env:=by rfl)(hpl:(backTo pos (starEach es X.env)).any (·.1)=false:=by rfl):
  PE X (.Call (.Name x p) (e::es) [] pos) (tF G (pf g i a)):=by
 obtain⟨f,fd,h1,h2,h3,h4⟩:=D;exact Sm (yV (p:=p) (pos:=pos) h4 hr hg h1 h2 h3 .nil Av (qw hv ha he) hdb he hpl)
theorem Ph{g:aA->Option (aC×aA)}(M:EN G X.prog X.w X.mg X.base k x c ps dvs g)(hd:∀H,oq G H dds dvs)(hr:p8 (k+1) X.A)(ha:PA X (e::es) (tFA G a))(hK:X.K=G.K:=by rfl)(hg:Gl X x:=by rfl)(hdb:(x==("__debug__" : Str))=false:=by decide)
  (he:starEach (e::es) X.env=(false,eval e X.env)::starEach es X.env:=by rfl) (hpl:(backTo pos (starEach es X.env)).any (·.1)=false:=by rfl):
  PE X (.Call (.Name x p) (e::es) [] pos) (tF G (pj c (λds=>g (ds++dds)) a)):=by
 obtain⟨f,fd,ds,h1,h2,h3,h4,h5⟩:=M;rw[<-hK]at h1 h3 h5;exact O4 hd (Om (p:=p) (pos:=pos) h1 h5 hr hg h2 h3 h4 Av ha hdb he hpl)
theorem QQ{g:Nat->Option (aA->Option D)}(M:∀c h,g c=some h->zZ G X.prog X.w X.mg X.base k m c h)(hr:p8 k X.A)(hK:X.K=G.K):∀C sp,MT G g C sp->MOk X C m sp [] E0:=λC sp h=>by obtain⟨c,h,e,rfl,rfl⟩:=h;obtain⟨f,fd,ps,q1,q2,q3,q4⟩:=M c h e;rw[<-hK]at q1 q2 q3 q4;exact⟨k,f,fd,ps,[],q1,q2,q4,hr,q3,.nil,Av⟩
theorem Kn{g:Nat->Option (aA->Option D)}{pl:Sem Bool}(M:∀c h,g c=some h->zZ G X.prog X.w X.mg X.base k m c h)(hr:p8 k X.A)(ho:PE X o (tF G f))(ha:PA X (e::es) (tFA G a))(hK:X.K=G.K:=by rfl)
  (hst:starEach (e::es) X.env=(false,eval e X.env)::starEach es X.env:=by rfl) (hpl:(backTo pos (starEach es X.env)).any (·.1)=false:=by rfl)
  (ht:eval (.Call (.Attribute o m apos) (e::es) [] pos) X.env=(do
   let ov<-eval o X.env
   standAt apos.atName
   let (f,first)<-holding [ov] (getMethod ov m pl)
   callWith pos f first (backTo pos (starEach (e::es) X.env)) (backToKw pos (keywordEach [] X.env))):=by rfl):
  PE X (.Call (.Attribute o m apos) (e::es) [] pos) (tF G (pH g m f a)):=O3 (E:=E0) (LV (dvs:=[]) (MT G g) (QQ M hr hK) ho ha hst hpl ht)
theorem Hw{g:Nat->Option (aA->Option D)}{pl:Sem Bool}(M:∀c h,g c=some h->zZ G X.prog X.w X.mg X.base k m c h)(hr:p8 k X.A)(ho:PE X o (tF G f))(hK:X.K=G.K:=by rfl)
  (ht:eval (.Call (.Attribute o m apos) [] [] pos) X.env=(do
   let ov<-eval o X.env
   standAt apos.atName
   let (f,first)<-holding [ov] (getMethod ov m pl)
   callWith pos f first (backTo pos (starEach [] X.env)) (backToKw pos (keywordEach [] X.env))):=by rfl):
  PE X (.Call (.Attribute o m apos) [] [] pos) (tF G (pH g m f oJ)):=LW (E:=E0) (Ka (dvs:=[]) (MT G g) (QQ M hr hK) ho ht)
end
section
variable{P:aE}{w:az}{K:au}{mg:Str->Option aa}{base:Heap}{x qual:Str}{st:Stmt}{f T:Addr}{fd:bM}{N ps:aC}{k:Nat}{G:Bg}
abbrev yg(P:aE)(w:az)(K:au)(mg:Str->Option aa)(base:Heap)(N:aC)(qual:Str)(st:Stmt)(f:Addr)(cdv:aa)(A:aH)(outer:List Env)(s:af)(H:Hp)(E:XK):Cx:=(Fu CX0 P w K mg base N qual (oP st) f cdv A outer s H E).nox
theorem Mg{n:Nat}{g:aA->Option D}{b:FS}(hg:g=fnD np n b)(hp:ps.length=np)(hN:N.length=n)(F:Fun K x qual st f fd)(S:pZ N ps (oP st))(body:∀(cdv:aa) (A:aH) (outer:List Env) (s:af) (H:Hp) (E:XK),p8 k (A.deeper (envOfC qual (oP st) s.heap.objs.size f cdv))->PSs (yg P w K mg base N qual st f cdv A outer s H E) (ph st) (tFS G b)):
  sH P w K mg base CX0 (k+1) f fd ps (spF G g):=by
 subst hg hp hN;exact F.ok S (Wb OY) λcdv A outer s H vs Q E hr h=>⟨_,body cdv A outer s H E hr,OW (by have:=aS bS S.pre;rw[bo]at this;omega) h⟩
theorem Wn{n:Nat}{g:aA->Option aA}{b:FS}(hg:g=fnN np n b)(hp:ps.length=np)(hN:N.length=n)(F:Fun K x qual st f fd)(S:pZ N ps (oP st))(body:∀(cdv:aa) (A:aH) (outer:List Env) (s:af) (H:Hp) (E:XK),p8 k (A.deeper (envOfC qual (oP st) s.heap.objs.size f cdv))->PSs (yg P w K mg base N qual st f cdv A outer s H E) (ph st) (tFS G b)):
  sH P w K mg base CX0 (k+1) f fd ps (spN G g):=by
 subst hg hp hN;exact F.ok S (Wc OZ) λcdv A outer s H vs Q E hr h=>⟨_,body cdv A outer s H E hr,OX (by have:=aS bS S.pre;rw[bo]at this;omega) h⟩
theorem Wo{n:Nat}{g:aA->aA->Option (D×aA)}{b:FS}{p:Str}{ps:aC}(hg:g=fnM np n b)(hp:ps.length=np)(hN:N.length=n)(F:Fun K x qual st f fd)(S:pZ N (p::ps) (oP st))(body:∀(cdv:aa) (A:aH) (outer:List Env) (s:af) (H:Hp) (E:XK),p8 k (A.deeper (envOfC qual (oP st) s.heap.objs.size f cdv))->PSs (yg P w K mg base N qual st f cdv A outer s H E) (ph st) (tFS G b)):
  sH P w K mg base CX0 (k+1) f fd (p::ps) (spM G g):=by
 subst hg hp hN;exact F.ok S (LX O9) λcdv A outer s H vs Q E hr h=>⟨_,body cdv A outer s H E hr,O8 (by have:=aS bS S.pre;rw[bo,aK]at this;omega) h⟩
theorem QR{g:aA->Option (aC×aA)}(hg:∀ds q,g ds=some q->ds.length=np):∀vs H Q E,spI G c g vs H Q E->vs.length=np+1:=λvs H Q E h=>by obtain⟨p,dx,us,H0,ds,ns,es,rfl,_,_,_,r,e,_⟩:=h;rw[aK,<- ou r,hg _ _ e]
theorem Wp{n:Nat}{g:aA->Option (aC×aA)}{b:FS}{p:Str}{ps:aC}(hg:g=fnI c np n b)(hp:ps.length=np)(hN:N.length=n)(F:Fun K x qual st f fd)(S:pZ N (p::ps) (oP st))(body:∀(cdv:aa) (A:aH) (outer:List Env) (s:af) (H:Hp) (E:XK),p8 k (A.deeper (envOfC qual (oP st) s.heap.objs.size f cdv))->PSs (yg P w K mg base N qual st f cdv A outer s H E) (ph st) (tFS G b)):
  sH P w K mg base CX0 (k+1) f fd (p::ps) (spI G c g):=by
 subst hg hp hN;exact F.ok S (QR λds q h=>(BV h).1) λcdv A outer s H vs Q E hr h=>⟨_,body cdv A outer s H E hr,IQ (by have:=aS bS S.pre;rw[bo,aK]at this;omega) h⟩
theorem SK{n:Nat}{g:aA->Option (aC×aA)}{b:FS}{p:Str}{ps:aC}(hg:g=fnI c np n b)(hp:ps.length=np)(hN:N.length=n)(F:J6 K x qual st f fd T)(S:pZ N (p::ps) (oP st))(body:∀(cdv:aa) (A:aH) (outer:List Env) (s:af) (H:Hp) (E:XK),p8 k (A.deeper (envOfC qual (oP st) s.heap.objs.size f cdv))->PSs (yg P w K mg base N qual st f cdv A outer s H E) (ph st) (tFS G b)):
  sH P w K mg base CX0 (k+1) f fd (p::ps) (spI G c g):=by
 subst hg hp hN;exact F.ok S (QR λds q h=>(BV h).1) λcdv A outer s H vs Q E hr h=>⟨_,body cdv A outer s H E hr,IQ (by have:=aS bS S.pre;rw[bo,aK]at this;omega) h⟩
end
section
variable{X:Cx}{G:Bg}
def xM(G:Bg)(mg:Str->Option aa)(x:Str)(d:D):Prop:=∃(v:V) (u:aa),mg x=some u/\RelV v u/\∀H,Rep G H d v
theorem Mh{x:Str}(h:xM G X.mg x d)(hg:Gl X x:=by rfl)(hd:(x==("__debug__" : Str))=false:=by decide):PE X (.Name x pos) (tF G (cC d)):=by obtain⟨v,u,h1,h2,h3⟩:=h;exact OI (Iu hg h1 h2 hd) h3
def Wq:FS:=λ_=>none
def qP(T:String):Ty->Option Bool
 |.b n=>if n="NoneType" then some false else if n="bool" then some (T=="bool" ||T=="int")else if n="int" then some (T=="int")else if n="str" then some (T=="str")else if n="tuple" then some (T=="tuple")else if n="list" then some (T=="list")else if n="dict" then some (T=="dict")else none
 |.c _=>none
theorem Mi{T:String}:∀k b,qP T (.c k)=some b->Kj X.K (G.ca k):=λk b h=>by cases h
theorem Mj:∀y b,qP "list" y=some b->cK X.K (y.val G) (.type "list")=some b:=λy b h=>by
 cases y with
 |c k=>cases h
 |b n=>
  unfold qP at h;simp only at h
  iterate 7 (split at h;· rename_i e;subst e;cases h;first|rfl|kernel_rfl)
  cases h
theorem Pi:∀y b,qP "str" y=some b->cK X.K (y.val G) (.type "str")=some b:=λy b h=>by
 cases y with
 |c k=>cases h
 |b n=>
  unfold qP at h;simp only at h
  iterate 7 (split at h;· rename_i e;subst e;cases h;first|rfl|kernel_rfl)
  cases h
end
end L4
namespace L3
open PySem PySem.Spec PyProof.Rows L2
theorem Pj{X:Cx}{i:Nat}{y:Str}{py spos:Pos}{elt iter tg:Expr}{ifs:List Expr}{scope:cG}{pos:Pos}{N':aC}{k:Nat}{cap:List Nat}{wi:TI}{g:TG}{tt:TT}{te:TE}
  (hc:X.calm=true) (hN:X.N.Nodup) (hy:X.N[i]?=some y) (hyl:Loc X.env.scope y) (hi:PI X tg iter wi)
  (body:∀(cl:List (Str×Addr)) (C:Addr) (fp:List Addr) (s:af) (H:Hp),PG (p9 X N' scope cl C fp s H) tg g/\PIf (p9 X N' scope cl C fp s H) ifs tt/\PE (p9 X N' scope cl C fp s H) elt te)
  (hkind:scope.kind=.function:=by rfl) (hcell:(scope.names.all λy=>y.2 != .cell)=true:=by rfl)
  (hloc:(scope.names.all λy=>y.2 != .local||scope.names.lookup y.1==some .local)=true:=by rfl)
  (hfree:(scope.names.all λy=>y.2 != .free||(X.env.kindOf y.1==some .cell||X.env.kindOf y.1==some .free))=true:=by rfl)
  (hlen:N'.length=k+cap.length:=by rfl) (hcap:(N'.drop k).map some=cap.map λj=>X.N[j]?:=by rfl)
  (hcf:((N'.drop k).all λx=>scope.names.lookup x==some .free)=true:=by rfl)
  (hs:∀x,foldedSetIterable iter X.env x=pure x:=by intro _;rfl)
  (hsw:swapsWith (.ListComp elt [⟨tg,iter,ifs,0⟩] scope pos) (some (.Name y py)) spos.line X.env=pure true:=by rfl)
  (hfy:X.fn y=true\/X.env.scope.names.lookup y=some .local:=by first|exact .inl rfl|exact .inr rfl|assumption):
  PS X (.Assign [.Name y py] (.ListComp elt [⟨tg,iter,ifs,0⟩] scope pos) spos) (zN (BO wi g tt te k cap) (u0 i)):=by
 intro pins s σ H D I h;rw[exec_Assign_Name_used _ _ _ _ hsw];refine ao (wpAny_standAt (ao ?_));show wpAny _ X.A (do let _<-comprehension (.ListComp elt [⟨tg,iter,ifs,0⟩] scope pos) scope X.env _ (newList []) false (eval iter X.env) (some (assign (.Name y py) X.env))) _ _ s;refine ao (bT (DI (P:=λ_ s'=>SP X pins D .next s') hc hi body hkind hcell hloc hfree hlen hcap hcf hs I h λa C m u s4 H3 hn back fpC qn=>?_) (λ_ s' hq=>aB (aB hq)) λ_ _ e=>e);obtain⟨oC,esC,nC,gC,dC,rC⟩:=id hn;have I7:=back.pinned (fp:=[C]) (λb hb=>aR.mp hb▸fpC) (λb hb=>aR.mp hb▸⟨oC,gC,λv z=>by rw[dC]at z;cases z⟩);show wpAny _ X.A (assign (.Name y py) X.env (.ref a)) _ _ s4;refine thn (Iw (pos:=py) hN hy hyl hfy _ s4 σ H3 (.ref a) (.ref a) (λσ' H'=>D.nx σ' H') I7 rfl qn) λ_ s6 ⟨σ6,H6,I8,q6⟩=>?_;obtain⟨p1,p2,_⟩:=I8.pin (C,oC) (bL _ (bL _ (uc (by simp) gC)));exact⟨m,⟨oC,esC,nC,p1,dC,rC⟩,λh' hs'=>⟨σ6,H6,I8.unpinned.turned (t':=s6.toks) (λb o hb e=>(hs'.2 b hb).trans e) p2 fpC.2.1 fpC.2.2.2.1 fpC.2.2.2.2.1 fpC.2.2.2.2.2,q6⟩⟩
end L3
namespace L4
open PySem PySem.Spec PyProof.Rows L2 L3
variable{st:Stmt}{te:TE}{i:Nat}{ft:FT}{fe:FE}
section
variable{X:Cx}{G:Bg}
theorem FZ{te':TE}{g:TG}(h:PS X st (zN te g))(w:∀σ H Q,te' σ H Q->te σ H Q):PS X st (zN te' g):=PS.weak h λE σ H hh=>w _ _ _ hh
theorem Ml{k:Nat}{cap:List Nat}{s:FA}{g:FG}(nd:cap.Nodup)(h:PS X st (zN (BO (tFI G s) (tFG G k g) (tFT G ft) (tF G fe) k cap) (u0 i))):PS X st (tFS G (oV i (cL (oW k cap s g ft fe)))):=IP (FZ (FZ h (IS nd)) Wa)
end
variable{es0 es':aA}{np:Nat}
section
variable{f g h:FS}{c:FT}{e e' e2:FE}{a a':FA}{ρ ρ' ρ1 ρ2 ρ3:aW}{d x y z:D}{o:Out}{ds xs ys:aA}
theorem oe(h:f ρ=some (.nx ρ')):oj f g ρ=g ρ':=by unfold oj;rw[h]
theorem oR(h:f ρ=some (.rt d ρ')):oj f g ρ=some (.rt d ρ'):=by unfold oj;rw[h]
theorem o5(h:c ρ=some (true,ρ')):sIf c f g ρ=f ρ':=by unfold sIf;rw[h]
theorem ox(h:c ρ=some (false,ρ')):sIf c f g ρ=g ρ':=by unfold sIf;rw[h]
theorem oM(h:e ρ=some (d,ρ')):oV i e ρ=some (.nx (ρ'.set i (.im d))):=by unfold oV;rw[h]
theorem vM(h:a ρ=some (ds,ρ')):qU i a ρ=some (.nx (ρ'.set i (.ls ds))):=by unfold qU;rw[h]
theorem oO(h:e ρ=some (d,ρ')):oG e ρ=some (.rt d ρ'):=by unfold oG;rw[h]
theorem vO(h:a ρ=some (ds,ρ')):qk a ρ=some (.rn ds ρ'):=by unfold qk;rw[h]
theorem pP(h:e ρ=some (d,ρ')):o9 e ρ=some (.nx ρ'):=by unfold o9;rw[h]
theorem oo{g:D->D->Option D}(h1:e ρ=some (x,ρ1))(h2:e' ρ1=some (y,ρ2))(h3:g x y=some z):c2 g e e' ρ=some (z,ρ2):=by unfold c2;rw[h1];simp only[h2,h3]
theorem pD{g:D->Option D}(h1:e ρ=some (x,ρ1))(h3:g x=some z):c1 g e ρ=some (z,ρ1):=by unfold c1;rw[h1];simp only[h3]
theorem Mm(h1:e (ρ.map Sl.bor)=some (d,ρ1))(hf:qV d=true):zc e ρ=some (d,ρ):=by unfold zc;rw[h1];simp only[hf,if_true]
theorem EO{b:Bool}(h1:c (ρ.map Sl.bor)=some (b,ρ1)):yf c ρ=some (b,ρ):=by unfold yf;rw[h1]
theorem pG{b:Bool}(h1:e ρ=some (.bl b,ρ1)):cT e ρ=some (b,ρ1):=by unfold cT;rw[h1]
theorem zd{b:Bool}(h1:c ρ=some (b,ρ1)):rQ c ρ=some (!b,ρ1):=by unfold rQ;rw[h1]
theorem yE{b:Bool}{c':FT}(h1:c ρ=some (false,ρ1))(h2:c' ρ1=some (b,ρ2)):tH c c' ρ=some (b,ρ2):=by unfold tH;rw[h1];exact h2
theorem og(h1:e ρ=some (d,ρ1))(h2:a ρ1=some (ds,ρ2)):oa e a ρ=some (d::ds,ρ2):=by unfold oa;rw[h1];simp only[h2]
theorem oi{α:Type}{g:aA->Option α}{r:α}(h1:a ρ=some (ds,ρ1))(h2:g ds=some r):zU g a ρ=some (r,ρ1):=by unfold zU;rw[h1];simp only[h2]
theorem pB(h1:a ρ=some (ds,ρ1)):cL a ρ=some (.lst ds,ρ1):=by unfold cL;rw[h1]
theorem wX(h1:a ρ=some (ds,ρ1))(hl:ds.length<=1000):oU a ρ=some (ds,ρ1):=by unfold oU;rw[h1];simp only[hl,if_true]
theorem r9(h1:a ρ=some (ds,ρ1))(hl:ds.length<=1000):pE a ρ=some (.tup ds,ρ1):=by unfold pE;rw[h1];simp only[hl,if_true]
theorem sI(h1:e ρ=some (.lst xs,ρ1))(h2:e' ρ1=some (.lst ys,ρ2))(hl:xs.length+ys.length<=1000):qO e e' ρ=some (xs++ys,ρ2):=by unfold qO;rw[h1];simp only[h2,hl,if_true]
theorem qX{g:aA->aA->Option (D×aA)}{es:aA}(h0:pX ρ i=some es0)(h1:a ρ=some (ds,ρ1))(h2:pX ρ1 i=some es)(h3:g es ds=some (d,es')):pf g i a ρ=some (d,putAt ρ1 i es'):=by unfold pf;rw[h0];simp only[h1,h2,h3]
theorem vP{es:aA}(h0:pX ρ i=some es0)(h1:e ρ=some (d,ρ1))(h2:pX ρ1 i=some es)(hl:es.length<1000):sE i e ρ=some (.non,putAt ρ1 i (es++[d])):=by unfold sE;rw[h0];simp only[h1,h2,hl,if_true]
theorem qa{s:FA}{g:FG}(h1:s ρ=some (ds,ρ1)):r6 s g f ρ=forL g f ds ρ1:=by unfold r6;rw[h1]
theorem vQ{k:Nat}{cap:List Nat}{s:FA}{g:FG}(h1:s ρ=some (ds,ρ1))(hl:ds.length<=1000):oW k cap s g ft fe ρ=sF k cap g ft fe ds ρ1:=by unfold oW;rw[h1];simp only[hl,if_true]
theorem SL{n:Nat}{b:FS}{es:aA}(hl:ds.length=np)(h:b (L4.stM n es ds)=some (.rt d ρ))(h0:Aw ρ=some es'):fnM np n b es ds=some (d,es'):=by unfold fnM;rw[ai hl,h];simp only[h0]
theorem SM{n:Nat}{b:FS}{es:aA}(hl:ds.length=np)(h:b (L4.stM n es ds)=some (.rn xs ρ))(h0:Aw ρ=some es'):fnM np n b es ds=some (.lst xs,es'):=by unfold fnM;rw[ai hl,h];simp only[h0]
theorem vR{n:Nat}{b:FS}(hl:ds.length=np)(h:b (L4.stE n ds)=some (.rn xs ρ)):fnN np n b ds=some xs:=by unfold fnN;rw[ai hl,h]
theorem oI{n:Nat}{b:FS}(hl:ds.length=np)(h:b (L4.stE n ds)=some (.rt d ρ)):fnD np n b ds=some d:=by unfold fnD;rw[ai hl,h]
end
theorem ua{a b:Int}(h:yB a=true\/yB b=true):sY (.int a) (.int b)=some (.int (a * b)):=by unfold sY dI;simp only;rw[ai (by simpa using h)]
theorem tP{a b:Int}(h:0<b):qW (.int a) (.int b)=some (.int (a % b)):=by unfold qW dI;simp only;rw[ai (by simpa using h)]
theorem div_pos{a b:Int}(h:0<b)(h':b<1073741824):ye (.int a) (.int b)=some (.int (a / b)):=by unfold ye dI;simp only;rw[ai (by simp[h,h'])]
theorem F0{a:Int}(h:0<=a)(h':a<2147483647):yB a=true:=by unfold yB;simp only[bf,bB];omega
def wY:D->Option Key
 |.int i=>some (.inl i)
 |.str x=>some (.inr x)
 |_=>none
def qf:List Key->aA->Key->Option D
 |k::ks,d::ds,j=>if k=j then some d else qf ks ds j
 |_,_,_=>none
def Pk(ks:List Key)(ds:aA)(k:Key)(d:D):aA:=cY (λk' d'=>if k'=k then d else d') ks ds
def B5(ks:List Key)(k:Key):Bool:=ks.any λk'=>decide (k'=k)
variable{d:D}{a:Addr}{o:Obj}{kvs:List (Key×V)}{b tg e:Expr}{f f' fk:FE}{pos apos cpos:Pos}
section
variable{X:Cx}{G:Bg}{H:Hp}
theorem vS{v:V}{k:Key}(h:Rep G H d v)(e:wY d=some k):v=kV k:=by
 cases d<;>first|cases e|skip
 all_goals (unfold Rep at h;exact h)
theorem wZ:∀{ks:List Key} {ds:aA} {xs:bt} (j:Key),oq G H ds xs->ks.length=xs.length->match qf ks ds j with
  |some d=>∃v,rX (ks.zip xs) j=some v/\Rep G H d v
  |none=>rX (ks.zip xs) j=none
 |[],ds,xs,j,r,l=>by cases ds<;>rfl
 |k::ks,ds,[],j,r,l=>by cases l
 |k::ks,[],x::xs,j,r,l=>by unfold oq at r;cases r
 |k::ks,d::ds,x::xs,j,r,l=>by
  unfold oq at r;obtain⟨v,q,e,h1,h2⟩:=r;cases e;unfold qf;by_cases hk:k=j
  ·rw[ai hk];exact⟨x,yZ (p:=(k,x)) hk,h1⟩
  ·rw[aj hk];have ih:=wZ (ks:=ks) (ds:=ds) (xs:=xs) j h2 (by simpa using l);have e1:rX ((k::ks).zip (x::xs)) j=rX (ks.zip xs) j:=y3 (p:=(k,x)) hk;rw[e1];exact ih
theorem ER{k:Key}:∀{ks:List Key} {xs:bt},ks.length=xs.length->((ks.zip xs).any λkv=>decide (kv.1=k))=B5 ks k
 |[],xs,_=>by cases xs<;>rfl
 |k'::ks,[],l=>by cases l
 |k'::ks,x::xs,l=>by unfold B5;rw[c8,dJ,dJ,ER (by simpa using l)];rfl
theorem I0{k:Key}{v:V}:∀{ks:List Key} {xs:bt},ks.length=xs.length->(ks.zip xs).map (λkv=>if kv.1=k then (kv.1,v)else kv)=ks.zip (cY (λk' x=>if k'=k then v else x) ks xs)
 |[],xs,_=>by cases xs<;>rfl
 |k'::ks,[],l=>by cases l
 |k'::ks,x::xs,l=>by
  rw[c8,ay,I0 (by simpa using l),eh,c8];congr 1;by_cases hk:k'=k
  ·rw[ai hk,ai hk]
  ·rw[aj hk,aj hk]
theorem F1{k:Key}{d:D}{v:V}(hd:Rep G H d v):∀{ks:List Key} {ds:aA} {xs:bt},oq G H ds xs->ks.length=xs.length->oq G H (Pk ks ds k d) (cY (λk' x=>if k'=k then v else x) ks xs)
 |[],ds,xs,r,l=>by unfold Pk;cases ds<;>cases xs<;>exact o8
 |k'::ks,ds,[],r,l=>by cases l
 |k'::ks,[],x::xs,r,l=>by unfold oq at r;cases r
 |k'::ks,d'::ds,x::xs,r,l=>by
  unfold oq at r;obtain⟨w,q,e,h1,h2⟩:=r;cases e;unfold Pk;rw[eh,eh];refine o7 ?_ (F1 hd h2 (by simpa using l));by_cases hk:k'=k
  ·rw[ai hk,ai hk];exact hd
  ·rw[aj hk,aj hk];exact h1
theorem _root_.L2.DGet.kf{H:Hp}{k:Key}(e:H a=some (.frz o (.dK kvs))):DGet H a (kV k) (rX kvs k):=.inl ⟨kvs,k,.inr ⟨o,e⟩,rfl,rfl⟩
def pd:D->D->Option D:=λx y=>match x,wY y with
 |.dic ks ds,some k=>qf ks ds k
 |_,_=>none
theorem Pm{a:Expr}(hu:X.A.units+1<cLine)(ha:PE X a (tF G f))(hb:PE X b (tF G f'))(hs:RR b:=by exact λ_ _=>rfl):PE X (.Subscript a b pos) (tF G (c2 pd f f')):=PE.weak (Ox hu ha hb hs) λσ H Q hh=>by
 obtain⟨F,ρ,H0,d,ρ',R,e,k⟩:=hh;obtain⟨x,y,ρ1,e1,e2,e3⟩:=y6 e;refine⟨F,ρ,H0,x,ρ1,R,e1,λv H1 H1' s1 R1 r1=>⟨F,ρ1,H1,y,ρ',R1,e2,λu H2 H2' s2 R2 r2=>?_⟩⟩;have r1':=Rep.mono s2 _ _ r1;cases x with
 |dic ks ds=>
  unfold pd at e3;cases ek:wY y with
  |none=>simp only[ek]at e3;cases e3
  |some j=>simp only[ek]at e3;unfold Rep at r1';obtain⟨p,ob,xs,rfl,h1,h2,h3⟩:=r1';have lv:=wZ (ks:=ks) j h3 h2;rw[e3]at lv;obtain⟨w,w1,w2⟩:=lv;refine⟨p,w,rfl,?_,k w H2 H2' (s1.trans s2) R2 w2⟩;rw[vS r2 ek,<- w1];exact DGet.kf (R2.sub _ _ h1)
 |_=>unfold pd at e3;cases e3
def DS:D->D->Option D:=λx y=>match x,wY y with
 |.dic ks ds,some k=>some ((qf ks ds k).getD .non)
 |_,_=>none
theorem Mn{a:Expr}(hu:X.A.units+1<cLine)(ha:PE X a (tF G f))(hb:PE X b (tF G f'))(m:M1 X a "get" apos b cpos):PE X (.Call (.Attribute a "get" apos) [b] [] cpos) (tF G (c2 DS f f')):=PE.weak (Ly hu ha hb m) λσ H Q hh=>by
 obtain⟨F,ρ,H0,d,ρ',R,e,k⟩:=hh;obtain⟨x,y,ρ1,e1,e2,e3⟩:=y6 e;cases x with
 |dic ks ds=>
  refine⟨F,ρ,H0,_,ρ1,R,e1,λv H1 H1' s1 R1 r1=>?_⟩;have r1':=r1;unfold Rep at r1';obtain⟨p,ob,xs,rfl,h1,h2,h3⟩:=r1';refine⟨p,rfl,.inl ⟨_,.inr ⟨_,R1.sub _ _ h1⟩⟩,F,ρ1,H1,y,ρ',R1,e2,λu H2 H2' s2 R2 r2=>?_⟩;unfold DS at e3;cases ek:wY y with
  |none=>simp only[ek]at e3;cases e3
  |some j=>
   simp only[ek]at e3;cases e3;have lv:=wZ (ks:=ks) j (oq.mono s2 _ _ h3) h2;refine⟨rX (ks.zip xs) j,?_,?_⟩
   ·rw[vS r2 ek];exact DGet.kf (R2.sub _ _ (s2 _ _ h1))
   ·cases el:qf ks ds j with
    |none=>rw[el]at lv k;rw[lv];exact k _ H2 H2' (s1.trans s2) R2 y4
    |some z=>rw[el]at lv k;obtain⟨w,w1,w2⟩:=lv;rw[w1];exact k _ H2 H2' (s1.trans s2) R2 w2
 |_=>unfold DS at e3;cases e3
def ze(i:Nat):FS:=λρ=>some (.nx (ρ.set i (.dk [] [])))
theorem Mo(h:PS X st (zN Hh (u0 i))):PS X st (tFS G (ze i)):=PS.weak h λE σ H hh=>by obtain⟨F,ρ,H0,o,R,e,k,k2⟩:=hh;cases e;intro p hp;have R1:=R.newOwn hp (.dK []);refine k _ _ _ (oE.refl _) (R1.set (s:=.dk [] []) ⟨p,[],rfl,oA,R.h0none hp,R.bNone hp,rfl,o8⟩ λ_ a ea j t _ ej to=>?_);cases ea;exact R.apart hp j t ej to
def pJ(i:Nat)(fk fv:FE):FS:=λρ=>match fv ρ with
 |some (d,ρ1)=>match ρ1[i]? with
  |some (.dk _ _)=>match fk ρ1 with
   |some (y,ρ2)=>match wY y with
    |some k=>match ρ2[i]? with
     |some (.dk ks ds)=>if ks.length<1000 then if ds.length=ks.length then some (.nx (ρ2.set i (if B5 ks k=true then .dk ks (Pk ks ds k d)else .dk (ks++[k]) (ds++[d]))))else none else none
     |_=>none
    |none=>none
   |none=>none
  |_=>none
 |none=>none
theorem Mp{fv:FE}(h:PS X st (QL (uM i) (tF G fk) (tF G fv))):PS X st (tFS G (pJ i fk fv)):=PS.weak h λE σ H hh=>by
 obtain⟨F,ρ,H0,o,R,e,k,k2⟩:=hh;unfold pJ at e;rcases oZ (f:=fv) (ρ:=ρ)with e1|⟨d,ρ1,e1⟩<;>simp only[e1]at e
 ·cases e
 split at e
 ·rename_i ks0 ds0 ei;rcases oZ (f:=fk) (ρ:=ρ1)with e2|⟨y,ρ2,e2⟩<;>simp only[e2]at e
  ·cases e
  cases ek:wY y with
  |none=>simp only[ek]at e;cases e
  |some j=>
   simp only[ek]at e;split at e
   ·rename_i ks ds ei2;split at e
    ·rename_i hl;split at e
     ·rename_i hl2;cases e;refine⟨F,ρ,H0,d,ρ1,R,e1,λv H1 H1' s1 R1 r1=>?_⟩;obtain⟨a0,xs0,a1,_⟩:=R1.sl i _ ei;refine⟨_,qT a1,F,ρ1,H1,y,ρ2,R1,e2,λu H2 H2' s2 R2 r2=>?_⟩;obtain⟨a,xs,b1,b2,b3,b4,b5,b6⟩:=R2.sl i _ ei2;rw[a1]at b1;cases b1;refine⟨a0,upd H2' a0 (.dK (putK (ks.zip xs) j v)),rfl,?_,?_⟩
      ·rw[vS r2 ek];exact Lu.k b2 (by rw[eJ];exact jA (Nat.min_le_left _ _) (xK (by omega)))
      ·have rv:=Rep.mono s2 _ _ r1;refine k _ _ _ (s1.trans s2) (R2.mut ei2 rfl a1 (λH' hH=>?_) ?_)
       ·by_cases hk:B5 ks j=true
        ·rw[ai hk];refine⟨a0,cY (λk' x=>if k'=j then v else x) ks xs,rfl,?_,b3,b4,by rw[ju,b5,dM],F1 rv b6 b5⟩;rw[hH];unfold putK;rw[ER b5,ai hk,I0 b5]
        ·rw[aj hk];refine⟨a0,xs++[v],rfl,?_,b3,b4,by rw[aD,aD,b5];rfl,qE b6 (o7 rv o8)⟩;rw[hH];unfold putK;rw[ER b5,aj hk,mR b5];rfl
       ·split<;>rfl
     ·cases e
    ·cases e
   ·cases e
 ·cases e
def Bk:D->Option D
 |.lst ds=>(Dm ds).map λbs=>.bl (bs.any id)
 |_=>none
theorem Ko(hc:X.calm=true)(hK:X.K=G.K:=by rfl):p6 X (.builtin "any") (λxs H Q=>∃(p:Addr) (bs:List Bool),xs=[.ref p]/\SqL G.K H p (bs.map V.bl)/\Q (.bl (bs.any id)) H):=by
 rw[<-hK];intro pins s σ H xs us Q I r h;obtain⟨p,bs,rfl,hq,q⟩:=h;obtain⟨u,rfl,ru⟩:=vals1 r;cases ru;obtain⟨its,rv,pl,hz⟩:=I.list hq;have hlt:p<s.heap.objs.size:=by obtain⟨o,ho,_⟩:=pl.isList;exact aO ho
 have hl:bs.length=its.length:=by have:=rv.length;rw[ah]at this;exact this
 refine call_any_walk (fW pl.isList ⟨s.heap.objs.size,_,_,_,_,_,λi=>(bs[i]?).getD false,rfl,iK (show X.A.in1.handled=none from I.ok.hd hc) _ p (aT hlt) its.toArray,⟨⟨_,bz _ rfl,rfl,rfl⟩,?_⟩,?_,λh' tk hk=>?_⟩)
 ·exact pl.isList.at λo e=>aM _ e
 ·intro i v s' Q' E' hv hQ';have hv':its[i]?=some v:=by simpa using hv
  have hi:i<its.length:=(bQ.mp hv').1;have hb:(bs.map V.bl)[i]?=some (.bl (bs[i]'(by omega))):=by simp[show i<bs.length by omega]
  obtain⟨u,hu,ru⟩:=rv.get hb;rw[hv']at hu;cases hu;cases ru;refine cN ?_;have e:(bs[i]?).getD false=bs[i]'(by omega):=by simp[show i<bs.length by omega]
  rw[<-e];exact hQ'
 ·refine⟨.bl (bs.any id),H,?_,?_,q⟩
  ·exact I.kept (t':=tk) λb o e=>hk b o (by simp;exact aT (aO e)) (aM _ e)
  ·show Value.bool _=Value.bool _;congr 1;rw[ba,<- hl];rw[cD];simp only[fo,cv,id];constructor
   ·rintro⟨i,hi,h⟩;exact⟨bs[i],dA hi,by simpa [hi]using h⟩
   ·rintro⟨b,hb,h⟩;obtain⟨i,hi,rfl⟩:=jo.mp hb;exact⟨i,hi,by simpa [hi]using h⟩
theorem SN:DQ G (λxs H Q=>∃(p:Addr) (bs:List Bool),xs=[.ref p]/\SqL G.K H p (bs.map V.bl)/\Q (.bl (bs.any id)) H) Bk:=λx z H0 H v Q e s rx k=>by
 cases x with
 |lst ds=>
  unfold Bk at e;simp only at e;cases e1:Dm ds with
  |none=>rw[e1]at e;cases e
  |some bs=>rw[e1]at e;cases e;unfold Rep at rx;obtain⟨a,xs,rfl,h1,h2⟩:=rx;rw[B3 h2 e1]at h1;exact⟨a,bs,rfl,s.seq (SqL.of h1),k _ λ_ _=>qN _⟩
 |_=>cases e
def iS(f:FE):FA:=λρ=>match f ρ with
 |some (.str x,ρ')=>some (x.cps.toList.map λc=>D.str ⟨#[c]⟩,ρ')
 |_=>none
theorem Pn(h:PI X tg e (V3 (tF G f))):PI X tg e (tFI G (iS f)):=PI.weak h λσ H R hh=>by
 obtain⟨F,ρ,H0,ds,ρ',R,e,k⟩:=hh;unfold iS at e;split at e
 ·rename_i x ρ1 e1;cases e;refine⟨F,ρ,H0,_,_,R,e1,λv H1 H1' s R' r=>?_⟩;unfold Rep at r;refine⟨x,r,k _ _ _ s R' λi H2 H2' t t'=>⟨λd ed=>?_,λhl=>?_⟩⟩
  ·rw[bu]at ed;cases ec:x.cps.toList[i]? with
   |none=>rw[ec]at ed;cases ed
   |some c=>
    rw[ec]at ed;cases ed;have ec':x.cps[i]?=some c:=by simpa using ec
    refine⟨(Array.getElem?_eq_some_iff.mp ec').1,λz H3 y=>?_⟩;obtain⟨e3,c',hc',rfl⟩:=y;rw[ec']at hc';cases hc';subst e3;exact⟨H2,oE.refl _,t',oE.refl _,λb o e=>.inl e,vK _⟩
  ·show i=x.cps.size;rw[hl,ah];simp
 ·cases e
def AA(f g:FE):FE:=λρ=>match f ρ with
 |some (.tup (x::xs),ρ1)=>match g ρ1 with
  |some (.tup ys,ρ2)=>if xs.length+ys.length<=900 then some (.tup (x::xs++ys),ρ2)else none
  |_=>none
 |_=>none
theorem Po{a:Expr}{g:FE}(ha:PE X a (tF G f))(hb:PE X b (tF G g))(hK:X.K=G.K:=by rfl):PE X (.BinOp a .Add b pos) (tF G (AA f g)):=PE.weak (Le Oq ha hb) λσ H Q hh=>by
 rw[hK];obtain⟨F,ρ,H0,d,ρ',R,e,k⟩:=hh;unfold AA at e;split at e
 ·rename_i x xs ρ1 e1;split at e
  ·rename_i ys ρ2 e2;split at e
   ·rename_i hl;cases e;refine⟨F,ρ,H0,_,ρ1,R,e1,λv H1 H1' s R' r=>⟨F,ρ1,H1,_,_,R',e2,λu H2 H2' s2 R2 r2=>?_⟩⟩;have r':=Rep.mono s2 _ _ r;have r0:=r';unfold Rep at r' r2;obtain⟨a1,xs1,rfl,h1,h2⟩:=r';obtain⟨a2,xs2,rfl,h3,h4⟩:=r2;have l1:=ou h2;have l2:=ou h4;rw[aK]at l1;refine⟨a1,a2,xs1,xs2,rfl,rfl,SqT.mono R2.sub h1,SqT.mono R2.sub h3,(λz=>by rw[z]at l1;cases l1),by rw[<-l1,<- l2];exact ue (by omega),λz=>?_,λ_ p hp=>?_⟩
    ·have ey:ys=[]:=by rw[z]at l2;exact lD.mp l2
     subst ey;rw[br]at k;exact k _ _ _ (s.trans s2) R2 r0
    ·exact k _ _ _ ((s.trans s2).trans (oH (R2.h0none hp) _)) (R2.newIm hp _) (vJ (SqT.of oA) (oq.mono (oH (R2.h0none hp) _) _ _ (qE h2 h4)))
   ·cases e
  ·cases e
 ·cases e
end
section
variable{X:Cx}{G:Bg}
abbrev FO:=aW->Option (Option Int×aW)
def tFO(G:Bg)(f:FO):TO:=λσ H Q=>∃F ρ H0 d ρ',oN G F σ ρ H0 H/\f ρ=some (d,ρ')/\∀H0' H',oE H0 H0'->oN G F σ ρ' H0' H'->Q d H'
def oNo:FO:=λρ=>some (none,ρ)
def oAt(f:FE):FO:=λρ=>match f ρ with
 |some (.int i,ρ')=>some (some i,ρ')
 |_=>none
theorem PO.weak{e:Option Expr}{t t':TO}(h:PO X e t)(w:∀σ H Q,t' σ H Q->t σ H Q):PO X e t':=λpins s σ H Q I hq=>h pins s σ H Q I (w _ _ _ hq)
theorem SO:PO X none (tFO G oNo):=PO.weak IE λσ H Q hh=>by obtain⟨F,ρ,H0,d,ρ',R,e,k⟩:=hh;cases e;exact k _ _ (oE.refl _) R
theorem SQ(h:PE X e (tF G f)):PO X (some e) (tFO G (oAt f)):=PO.weak (IF h) λσ H Q hh=>by
 obtain⟨F,ρ,H0,d,ρ',R,e,k⟩:=hh;unfold oAt at e;split at e
 ·rename_i i ρ1 e1;cases e;refine⟨F,ρ,H0,_,_,R,e1,λv H1 H1' s R' r=>?_⟩;unfold Rep at r;exact⟨i,r,k _ _ s R'⟩
 ·cases e
def tQ(f:FE)(lo hi:FO):FA:=λρ=>match f ρ with
 |some (d,ρ1)=>match d with
  |.lst ds=>match lo ρ1 with
   |some (l,ρ2)=>match hi ρ2 with
    |some (h,ρ3)=>some (cutD ds l h,ρ3)
    |none=>none
   |none=>none
  |.fzl ds=>match lo ρ1 with
   |some (l,ρ2)=>match hi ρ2 with
    |some (h,ρ3)=>some (cutD ds l h,ρ3)
    |none=>none
   |none=>none
  |_=>none
 |none=>none
theorem Hy{lo hi:FO}(h:PE X e (tSl (JY G.K) (tF G f) (tFO G lo) (tFO G hi))):PE X e (tFN G (tQ f lo hi)):=PE.weak h λσ H Q hh=>by
 obtain⟨F,ρ,H0,ds,ρ',R,e,k⟩:=hh;unfold tQ at e;rcases oZ (f:=f) (ρ:=ρ)with e1|⟨d,ρ1,e1⟩<;>simp only[e1]at e
 ·cases e
 have gen:∀(xs:aA),(∀{H1:Hp} {v:V},Rep G H1 d v->∃a ys,v=.ref a/\SqL G.K H1 a ys/\oq G H1 xs ys)->(match lo ρ1 with
   |some (l,ρ2)=>match hi ρ2 with
    |some (h,ρ3)=>some (cutD xs l h,ρ3)
    |none=>none
   |none=>none)=some (ds,ρ')->tSl (JY G.K) (tF G f) (tFO G lo) (tFO G hi) σ H Q:=λxs rd e=>by
  rcases oZ (f:=lo) (ρ:=ρ1)with e2|⟨l,ρ2,e2⟩<;>simp only[e2]at e
  ·cases e
  rcases oZ (f:=hi) (ρ:=ρ2)with e3|⟨u,ρ3,e3⟩<;>simp only[e3]at e
  ·cases e
  cases e;refine⟨F,ρ,H0,d,ρ1,R,e1,λv H1 H1' s1 R1 r1=>⟨F,ρ1,H1,l,ρ2,R1,e2,λH2 H2' s2 R2=>⟨F,ρ2,H2,u,_,R2,e3,λH3 H3' s3 R3=>?_⟩⟩⟩;obtain⟨a,ys,rfl,q1,q2⟩:=rd (Rep.mono (s2.trans s3) _ _ r1);exact⟨a,ys,rfl,R3.sub.seq q1,λp hp=>k p _ _ _ (s1.trans (s2.trans s3)) (R3.newOwn hp _) oA (R3.h0none hp) (R3.bNone hp) (R3.apart hp) (B4 q2)⟩
 cases d with
 |lst xs=>exact gen xs (λr=>by unfold Rep at r;obtain⟨a,ys,rfl,q1,q2⟩:=r;exact⟨a,ys,rfl,SqL.of q1,q2⟩) e
 |fzl xs=>exact gen xs (λr=>by unfold Rep at r;exact r) e
 |_=>cases e
def F2:D->D->Option D
 |.str x,.int n=>if 0<=n/\n<=1000/\x.length<=100 then some (.str (gu x n))else none
 |_,_=>none
def yF(neg:Bool):D->D->Option D:=λy x=>match x,wY y with
 |.dic ks ds,some k=>some (.bl (if neg then !(qf ks ds k).isSome else (qf ks ds k).isSome))
 |_,_=>none
theorem Mq:∀σ H Q,tF G (c2 (yF false) f f') σ H Q->V2 (tF G f) (tF G f') σ H Q:=λσ H Q hh=>by
 obtain⟨F,ρ,H0,d,ρ',R,e,k⟩:=hh;obtain⟨y,x,ρ1,e1,e2,e3⟩:=y6 e;refine⟨F,ρ,H0,y,ρ1,R,e1,λu H1 H1' s1 R1 r1=>⟨F,ρ1,H1,x,ρ',R1,e2,λv H2 H2' s2 R2 r2=>?_⟩⟩;cases x with
 |dic ks ds=>
  unfold yF at e3;cases ek:wY y with
  |none=>simp only[ek]at e3;cases e3
  |some j=>
   simp only[ek]at e3;cases e3;unfold Rep at r2;obtain⟨p,ob,xs,rfl,h1,h2,h3⟩:=r2;have lv:=wZ (ks:=ks) j h3 h2;refine⟨p,rX (ks.zip xs) j,rfl,?_,?_⟩
   ·rw[vS r1 ek];exact DGet.kf (R2.sub _ _ h1)
   ·cases el:qf ks ds j with
    |none=>rw[el]at lv k;rw[lv];exact k _ _ _ (s1.trans s2) R2 (qN _)
    |some z=>rw[el]at lv k;obtain⟨w,w1,_⟩:=lv;rw[w1];exact k _ _ _ (s1.trans s2) R2 (qN _)
 |_=>unfold yF at e3;cases e3
theorem SR{a:Expr}(hu:X.A.units+1<cLine)(ha:PE X a (tF G f))(hb:PE X b (tF G f'))(h1:behindInMarks .In b=false:=by rfl):PE X (.Compare a [.In] [b] pos) (tF G (c2 (yF false) f f')):=PE.weak (Q7 (Lv hu ha hb) h1) Mq
end
section
variable{X:Cx}{G:Bg}
def vT:FE:=λ_=>none
theorem Mr:PE X e (tF G vT):=λpins s σ H Q I h=>by obtain⟨F,ρ,H0,d,ρ',R,e,_⟩:=h;cases e
def DT(f f' f2:FE):FE:=λρ=>match f ρ with
 |some (.dic ks ds,ρ1)=>match f' ρ1 with
  |some (y,ρ2)=>match f2 ρ2 with
   |some (x,ρ3)=>match wY y with
    |some k=>some ((qf ks ds k).getD x,ρ3)
    |none=>none
   |none=>none
  |none=>none
 |_=>none
theorem Ms{a c:Expr}{f2:FE}(hu:X.A.units+1<cLine)(ha:PE X a (tF G f))(hb:PE X b (tF G f'))(hc:PE X c (tF G f2))(m:M2 X a "get" apos b c cpos):PE X (.Call (.Attribute a "get" apos) [b,c] [] cpos) (tF G (DT f f' f2)):=PE.weak (LA hu ha hb hc m) λσ H Q hh=>by
 obtain⟨F,ρ,H0,d,ρ',R,e,k⟩:=hh;unfold DT at e;split at e
 ·rename_i ks ds ρ1 e1;rcases oZ (f:=f') (ρ:=ρ1)with e2|⟨y,ρ2,e2⟩<;>simp only[e2]at e
  ·cases e
  rcases oZ (f:=f2) (ρ:=ρ2)with e3|⟨x,ρ3,e3⟩<;>simp only[e3]at e
  ·cases e
  cases ek:wY y with
  |none=>simp only[ek]at e;cases e
  |some j=>
   simp only[ek]at e;cases e;refine⟨F,ρ,H0,_,ρ1,R,e1,λv H1 H1' s1 R1 r1=>?_⟩;unfold Rep at r1;obtain⟨p,ob,xs,rfl,h1,h2,h3⟩:=r1;refine⟨p,rfl,.inl ⟨_,.inr ⟨_,R1.sub _ _ h1⟩⟩,F,ρ1,H1,y,ρ2,R1,e2,λu H2 H2' s2 R2 r2=>⟨F,ρ2,H2,x,_,R2,e3,λz H3 H3' s3 R3 r3=>?_⟩⟩;have lv:=wZ (ks:=ks) j (oq.mono (s2.trans s3) _ _ h3) h2;refine⟨rX (ks.zip xs) j,?_,?_⟩
   ·rw[vS r2 ek];exact DGet.kf (R3.sub _ _ (s3 _ _ (s2 _ _ h1)))
   ·cases el:qf ks ds j with
    |none=>rw[el]at lv k;rw[lv];exact k _ H3 H3' (s1.trans (s2.trans s3)) R3 r3
    |some w=>rw[el]at lv k;obtain⟨w',w1,w2⟩:=lv;rw[w1];exact k _ H3 H3' (s1.trans (s2.trans s3)) R3 w2
 ·cases e
def Hz(G:Bg)(c:Nat)(t:Ty->Option Bool):Prop:=(∀y b,t y=some b->cK G.K (y.val G) (.ref (G.ca c))=some b)/\∀j b,t (.c j)=some b->Kj G.K (G.ca j)
theorem HA{c:Nat}{t:Ty->Option Bool}(h:Hz G c t)(hK:X.K=G.K:=by rfl):p6 X (.builtin "isinstance") (λxs H Q=>∃d x b,xs=[x,(Ty.c c).v G]/\Rep G H d x/\t (tyD d)=some b/\Q (.bl b) H):=
 DR (X:=X) (.c c) (by rw[hK];exact h.1) (by rw[hK];exact h.2) hK
end
def ddp(acc:List Key)(k:Key):List Key:=if acc.any (λz=>decide (z=k))then acc else acc++[k]
def uA(ks:List Key):List Key:=ks.foldl ddp []
theorem Pp(acc:List Key)(k j:Key):(ddp acc k).any (λz=>decide (z=j))=(acc.any (λz=>decide (z=j))||decide (j=k)):=by
 unfold ddp;by_cases h:acc.any (λz=>decide (z=k))=true
 ·rw[ai h];by_cases e:j=k
  ·subst e;rw[h];simp
  ·simp[e]
 ·rw[aj h,List.any_append];by_cases e:j=k
  ·subst e;simp
  ·have hb:¬k=j:=λz=>e z.symm;simp[hb,e]
theorem Ja(acc:List Key)(k:Key):(ddp acc k).length=if acc.any (λz=>decide (z=k))=true then acc.length else acc.length+1:=by unfold ddp;split<;>simp
theorem DU(ks:List Key)(i:Nat)(h:i<ks.length):uA (ks.take (i+1))=ddp (uA (ks.take i)) ks[i]:=by unfold uA;rw[List.take_add_one,aP h,List.foldl_append];rfl
theorem Mt(ks:List Key):(uA ks).length<=ks.length:=by
 have gen:∀(l:List Key) (acc:List Key),(l.foldl ddp acc).length<=acc.length+l.length:=by
  intro l
  induction l with
  |nil=>intro acc;simp
  |cons k l ih=>
   intro acc;rw[mS,aK];have h1:=ih (ddp acc k);have h2:(ddp acc k).length<=acc.length+1:=by rw[Ja];split<;>omega
   omega
 have:=gen ks [];simpa [uA]using this
theorem set_same{prog:aE}{w:az}{h:Heap}{S S':Key->Bool}{n n':Nat}(hS:h.SetOf (oT prog w) a S n)(e:∀k,S k=S' k)(en:n=n'):h.SetOf (oT prog w) a S' n':=by obtain rfl:S=S':=funext e;subst en;exact hS
section
variable{prog:aE}{w:az}{A:aH}{R:dQ->af->Prop}{I:Addr}{fp wr:List Addr}{GG:Array gm->Array gm->Prop}{n:Nat}{PP:Nat->aa->Prop}{SS:Nat->af->Prop}
theorem Mu(W:WalksS prog w A.in1 I fp wr GG n PP SS)(S:Addr)(hSf:S∉fp)(ks:List Key)(hn:ks.length=n)
  (hval:∀i v (h:i<ks.length),PP i v->(oT prog w).is ks[i] v=true/\v.scannable=true) (hb:n+1<scanBound):∀(k i:Nat) (s:af),n - i=k->i<=n->SS i s->
   s.heap.SetOf (oT prog w) S (λj=>(uA (ks.take i)).any (λz=>decide (z=j))) (uA (ks.take i)).length->
   (∀s',Moved (S::wr) GG s s'->s'.heap.SetOf (oT prog w) S (λj=>(uA ks).any (λz=>decide (z=j))) (uA ks).length->R (.ok (.ret .none)) s')->
   codeAny (model prog w) A (.builtin "set.update.loop" ⟨[.ref S,.ref I],[]⟩) R s:=by
 have hSw:S∉wr:=λz=>hSf (W.sub _ z);have up:∀b∈wr,b∈S::wr:=λb z=>bh _ z;intro k
 induction k with
 |zero=>
  intro i s hk hi hst hS hR;obtain rfl:i=n:=by omega
  refine dc fP ?_;rw[dv du _];show wpAny _ A.in1 (pyNext (.ref I)>>=_) _ _ s;refine ao (W.done s _ _ hst λs' hm=>?_);show wpAny _ A.in1 (ret Value.none) _ _ s';rw[lG (by omega)]at hS;refine aB (hR s' (hm.mono up) ?_);obtain⟨o,es,ep,t,ho,more⟩:=hS;exact⟨o,es,ep,t,hm.heap S _ hSw ho,more⟩
 |succ k ih=>
  intro i s hk hi hst hS hR;have hlt:i<n:=by omega
  have hlk:i<ks.length:=by omega
  refine dc fP ?_;rw[dv du _];show wpAny _ A.in1 (pyNext (.ref I)>>=_) _ _ s;refine ao (W.item i s _ _ hlt hst λv s' hP hst' hm=>?_);obtain⟨kv,sc⟩:=hval i v hlk hP;have hS':s'.heap.SetOf (oT prog w) S (λj=>(uA (ks.take i)).any (λz=>decide (z=j))) (uA (ks.take i)).length:=by obtain⟨o,es,ep,t,ho,more⟩:=hS;exact⟨o,es,ep,t,hm.heap S _ hSw ho,more⟩
  show wpAny _ A.in1 (holding [v] (setAdd S v)>>=_) _ _ s';refine ao (cE ?_);unfold setAdd;refine cE ?_;refine ao ((oT prog w).pyHash (k:=ks[i]) kv ?_);have room:(uA (ks.take i)).length+1<scanBound:=by have:=Mt (ks.take i);rw[bo]at this;omega
  refine wpAny_setAddHashed_of (knd:=oT prog w) (s:={ s' with toks:=s'.toks+1 }) kv sc hS' room λh' hsb hS2=>?_;have hSi:h'.SetOf (oT prog w) S (λj=>(uA (ks.take (i+1))).any (λz=>decide (z=j))) (uA (ks.take (i+1))).length:=
   set_same hS2 (λj=>by rw[DU ks i hlk,Pp]) (by rw[DU ks i hlk,Ja])
  refine aB ⟨fw du _,ih (i+1) _ (by omega) hlt (W.frame _ s' _ _ hst' (eM _) λb z o e=>?_) hSi λs'' hm'' hS''=>?_⟩
  ·rw[hsb.2 b (λy:b=S=>hSf (by rw[<-y];exact z))];exact e
  ·refine hR s'' (kc W.gtrans ((hm.mono up).then_heap (eM _) λb o z e=>?_) hm'') hS'';rw[hsb.2 b (λy:b=S=>z (by rw[y];exact aV))];exact e
end
theorem Pq(l:Addr)(us:Array aa)(m:Nat)(b:Addr)(o:Obj)(ws:Array aa)(m2:Nat)(hc:o.cls=.type "tuple")(hd:o.data=.seq ws m2)(z0:¬(!us.isEmpty&&fO (us.size+ws.size))=true)(z1:us.size<=sizeLine)(z2:us.size+ws.size<=sizeLine+1):
  Meets (dP.«list.extend» ⟨[.ref l,.ref b],[]⟩) (λ_ R s=>s.heap.get? l=some { cls:=.type "list", data:=.seq us m }/\s.heap.get? b=some o/\R (.ok (.ret Value.none)) { s with heap:=s.heap.update l (cQ λx=>x++ws),toks:=s.toks }):=by
 obtain⟨c,dd,data,sl⟩:=o;cases hc;cases hd;refine .of_wp λprog w A R s h=>?_;obtain⟨hp,g,d,tk,os⟩:=s;obtain⟨hl,hb,h⟩:=h;have f2:=lu;have f3:=AutoSeq1.sub_list_list;have f4:=AutoSeq1.sub_tuple_list;have f5:=AutoSeq1.sub_list_tuple;have z3:(us++ws).size<=sizeLine+1:=Array.size_append (xs:=us) (ys:=ws)▸z2
 wp_walk using (jI hl rfl (hz:=z1) (_hz':=z3)),ly hl,ly hb
 exact⟨_,rfl,h⟩
section
variable{X:Cx}{G:Bg}
def F3(K:au):V->bt->Hp->VK->Prop:=λx vs H Q=>∃l b xs zs,x=.ref l/\vs=[.ref b]/\H l=some (.lst xs)/\SqT K H b zs/\xs.length+zs.length<=sizeLine/\Q .non (upd H l (.lst (xs++zs)))
theorem HB:MtM X "list.extend" (F3 X.K):=by
 intro pins s σ H x vs v us Q I rx rv h;obtain⟨l,b,xs,zs,rfl,rfl,hH,hB,hz,q⟩:=h;cases rx;obtain⟨u,rfl,ru⟩:=rv.one;cases ru;obtain⟨z,its,n,r,hl,e⟩:=I.lstM hH;obtain⟨its2,r2,⟨o,e2,hc,n2,hd⟩,hz2⟩:=I.tuple hB;have hl2:=r2.length;have hsz:its.toArray.size+its2.toArray.size<=sizeLine:=by rw[ba,ba];omega
 have hlong:¬(!its.toArray.isEmpty&&fO (its.toArray.size+its2.toArray.size))=true:=by rw[Fy hsz,mZ];exact bq
 refine gj jz ⟨_,e,rfl⟩ lX (lS _ _)
  (Pq l its.toArray n b o its2.toArray n2 hc hd hlong (by rw[ba];omega) (by omega)) ⟨e,e2,?_⟩
 refine⟨.non,_,I.lset (its':=its++its2) hH e (by simp) (r.append r2) ?_,rfl,q⟩;rw[aD];omega
def AB(i:Nat)(f:FE):FE:=λρ=>match pX ρ i with
 |some _=>match f ρ with
  |some (.tup es,ρ1)=>match pX ρ1 i with
   |some ds=>if ds.length+es.length<=1000 then some (.non,putAt ρ1 i (ds++es))else none
   |none=>none
  |_=>none
 |none=>none
theorem HC(h:PE X e (tBM G.K "list" (F3 G.K) (uM i) (BC (tF G f) Ft))):PE X e (tF G (AB i f)):=PE.weak h λσ H Q hh=>by
 obtain⟨F,ρ,H0,d,ρ',R,e,k⟩:=hh;unfold AB at e;cases e0:pX ρ i with
 |none=>simp only[e0]at e;cases e
 |some ds0=>
  simp only[e0]at e;rcases oZ (f:=f) (ρ:=ρ)with e1|⟨x,ρ1,e1⟩<;>simp only[e1]at e
  ·cases e
  ·cases x with
   |tup es=>
    cases e2:pX ρ1 i with
    |none=>simp only[e2]at e;cases e
    |some ds=>
     simp only[e2]at e;split at e
     ·rename_i hl;cases e;obtain⟨a,xs,s1,s2,s3,_⟩:=qG R e0;refine⟨.ref a,s1,.inl ⟨rfl,xs,SqL.of s2⟩,F,ρ,H0,_,ρ1,R,e1,λv H1 H1' s R' rs=>?_⟩;unfold Rep at rs;obtain⟨p,ys,rfl,hp,rs⟩:=rs;obtain⟨a',xs',t1,t2,t3,t4⟩:=qG R' e2;rw[s1]at t1;cases t1;refine⟨a,p,xs',ys,rfl,rfl,t2,SqT.mono R'.sub hp,?_,k _ _ _ s (t4 _ _ (qE t3 rs)) y4⟩;rw[<-ou t3,<- ou rs];exact ue hl
     ·cases e
   |_=>cases e
end
abbrev one(j:Nat)(led pl:Bool):iP:=⟨7,#[j],#[],0,led,0,pl⟩
abbrev prb(i q:Nat):iy:=⟨i,0,i,q,none⟩
section
variable{j i q:Nat}{led pl:Bool}{h h1:Int}
theorem va(i:Nat):(one j led pl).slot i=if j=i then .live 0 else .empty:=by
 by_cases z:j<i
 ·have:j≠i:=by omega
  simp[nh,gb,fY,gf,z,this]
 ·simp[nh,gb,fY,gf,z]
theorem Wr(i:Nat):jJ 7 i - i=0:=by unfold jJ;split<;>omega
theorem Jb:(one j led pl).advance (prb i q)=prb ((i * 5+1+q / 32) % 8) (q / 32):=by unfold SetTable.advance SetTable.leap;simp[Wr]
theorem Ws{F:Nat->Int}(e:F 0=h1):∀(f:Nat) (p:iy),cX (one j led pl) F h f p=cX (one j led pl) (λ_=>h1) h f p
 |0,p=>rfl
 |f+1,p=>by
  unfold cX;rw[va];by_cases z:j=p.j
  ·rw[ai z];dsimp only;rw[e,Ws e f]
  ·rw[aj z]
theorem Jc(hh:h1≠h):∀(n f i q:Nat),q<32 ^ n->n+2<=f->∃j',j'≠j/\cX (one j led pl) (λ_=>h1) h f (prb i q)=some (.empty j' none)
 |n,0,i,q,_,hf=>aq hf (by omega)
 |n,f+1,i,q,hq,hf=>by
  unfold cX;rw[va];by_cases z:j=i
  ·rw[ai z];dsimp only;rw[aj (by simpa using hh),Jb];cases n with
   |zero=>
    obtain⟨f,rfl⟩:∃g,f=g+1:=⟨f - 1,by omega⟩;unfold cX;rw[va];have q0:q=0:=by simpa using hq
    have:¬j=(i * 5+1+q / 32) % 8:=by subst z q0;omega
    rw[aj this];exact⟨_,λe=>this e.symm,rfl⟩
   |succ n=>exact Jc hh n f _ _ (by rw[Nat.pow_succ]at hq;omega) (by omega)
  ·rw[aj z];exact⟨_,λe=>z e.symm,rfl⟩
theorem Kp{n:Nat}(hn:n<=13)(hq:q<32 ^ n):(∃j',j'≠j/\(one j led pl).probe (λ_=>h1) h (prb i q)=some (.empty j' none))\/(h1=h/\j=i/\(one j led pl).probe (λ_=>h1) h (prb i q)=some (.candidate j 0 (prb ((i * 5+1+q / 32) % 8) (q / 32)))):=by
 by_cases hh:h1=h
 ·by_cases z:j=i
  ·right;refine⟨hh,z,?_⟩;subst z hh;show cX _ _ _ (219+1) _=_;unfold cX;rw[va,ai rfl];dsimp only;rw[ai (by simp),Jb]
  ·left;refine⟨i,λe=>z e.symm,?_⟩;show cX _ _ _ (219+1) _=_;unfold cX;rw[va,aj z]
 ·exact .inl (Jc hh n 220 i q hq (by omega))
end
variable{ks k1 k2:List Key}{Q:Bool->af->Prop}{a2:Addr}{ep:Nat}
section
variable{prog:aE}{w:az}{A:aH}{E:aa->af->Prop}{s:af}
abbrev TK(prog:aE)(w:az):=IsTupleKey (oT prog w)
theorem cls_val(n:Nat){v:aa}(h:carriedByValue v=true):ofAClassStatement n v=pure false:=by
 cases v with
 |ref a=>simp[carriedByValue]at h
 |_=>first|rfl|simp[ofAClassStatement]|(unfold ofAClassStatement;rfl)
theorem Jd(hk:TK prog w s.heap ks a)(h:Q false s):wpAny (model prog w) A (ofAClassStatement 8 (.ref a)) Q E s:=by
 have hT:=hk.typeIs;obtain⟨o,items,n,ho,_,hd,hi⟩:=hk;unfold ofAClassStatement;refine ao (iE hT ?_);show wpAny _ _ (pure true>>=_) _ _ s;refine ao (aB ?_);simp only[Bool.not_true,eD,if_false];refine ao (wpAny_seqItems ho hd ?_);refine ao ?_;show wpAny _ _ (forIn items _ _) _ _ s;rw[<-md];refine ip _ (λrest r s'=>r.1=none/\s'=s/\∀v∈rest,carriedByValue v=true) _ ?_ ?_ _ _ ⟨rfl,rfl,hi.byValue⟩
 ·rintro v rest r s' ⟨hr,rfl,hall⟩;rw[cls_val _ (hall v aV)];refine ao (aB ?_);simp only[eD,if_false];exact aB ⟨rfl,rfl,λu hu'=>hall u (bh _ hu')⟩
 ·rintro⟨r1,r2⟩ s' ⟨hr,rfl,_⟩;simp only at hr;subst hr;exact aB h
theorem Pr(n:Nat){v:aa}(h:carriedByValue v=true):∃b,hashByValue n v=pure b:=by
 cases v with
 |ref a=>simp[carriedByValue]at h
 |_=>cases n<;>first|exact⟨_,rfl⟩|(unfold hashByValue;exact⟨_,rfl⟩)
theorem Pt(hk:TK prog w s.heap ks a)(h:∀b,Q b s):wpAny (model prog w) A (hashByValue 8 (.ref a)) Q E s:=by
 have hT:=hk.typeIs;obtain⟨o,items,n,ho,_,hd,hi⟩:=hk;unfold hashByValue;refine ao (jG hT F.slot_tuple_hash.lookup ?_);show wpAny _ _ (seqItems? (.ref a)>>=_) _ _ s;refine ao (wpAny_seqItems ho hd ?_);refine ao ?_;show wpAny _ _ (forIn items _ _) _ _ s;rw[<-md];refine ip _ (λrest r s'=>s'=s/\∀v∈rest,carriedByValue v=true) _ ?_ ?_ _ _ ⟨rfl,hi.byValue⟩
 ·rintro v rest r s' ⟨rfl,hall⟩;obtain⟨b,hb⟩:=Pr 7 (hall v aV);rw[hb];refine ao (aB ?_);cases b
  ·exact aB (aB (h _))
  ·exact aB ⟨rfl,λu hu'=>hall u (bh _ hu')⟩
 ·rintro⟨r1,r2⟩ s' ⟨rfl,_⟩;cases r1 with
  |none=>exact aB (h _)
  |some b=>exact aB (h _)
theorem Pu{a1:Addr}(h1:TK prog w s.heap k1 a1)(h2:TK prog w s.heap k2 a2)(h:Q false s):wpAny (model prog w) A (searchCouldBeSeen (.ref a2) [.ref a1]) Q E s:=by
 unfold searchCouldBeSeen;refine ao ?_;show wpAny _ _ (forIn [Value.ref a1] _ _) _ _ s;refine ip _ (λrest r s'=>r=(none,())/\s'=s/\∀v∈rest,v=.ref a1) _ ?_ ?_ _ _ ⟨rfl,rfl,λv hv=>by simpa using hv⟩
 ·rintro v rest r s' ⟨rfl,rfl,hall⟩;obtain rfl:=hall v aV;have go:∀v∈rest,v=Value.ref a1:=λu hu'=>hall u (bh _ hu');dsimp only;split
  ·exact aB ⟨rfl,rfl,go⟩
  ·refine ao (lL h2 ?_);refine ao (lL h1 ?_);refine ao (Jd h2 ?_);refine ao (Jd h1 ?_);exact aB ⟨rfl,rfl,go⟩
 ·rintro r s' ⟨rfl,rfl,_⟩;exact aB h
theorem yG{S a1 a2:Addr}{k1 k2:List Key}{o:Obj}{ep j:Nat}{led pl:Bool}{h h1:Int}{Q:SetFound->af->Prop}(hu:A.units<cLine)(t1:TK prog w s.heap k1 a1)(t2:TK prog w s.heap k2 a2)(ne:k1≠k2)
  (ho:s.heap.get? S=some o) (hd:o.data=.set #[(h1,.ref a1)] ep (one j led pl)) (hQ:∀j',j'≠j->Q (.free j' false) s):∀(fuel n i q:Nat) (st:Option iy),n<=13->1<=fuel->(i=j->n+2<=fuel)->q<32 ^ n->st.getD ((one j led pl).probeStart h)=prb i q->wpAny (model prog w) A (setSearchFrom S (.ref a2) h true fuel st) Q E s
 |0,n,i,q,st,_,hf,_,_,_=>aq hf (by omega)
 |fuel+1,n,i,q,st,hn,_,hf,hq,hst=>by
  unfold setSearchFrom;refine ao (fZ ho hd rfl ?_);dsimp only;rw[aj (by simp[mM])];have P:=Kp (led:=led) (pl:=pl) (j:=j) (i:=i) (h:=h) (h1:=h1) hn hq;unfold SetTable.probe at P ⊢;rw[hst,Ws (h1:=h1) rfl];rcases P with ⟨j',hj,e⟩|⟨e1,e2,e⟩
  ·rw[e];exact aB (hQ j' hj)
  ·rw[e];dsimp only;rw[show List.map (λx:Int×aa=>x.snd) (Array.filter (λx=>x.fst==h) #[(h1,Value.ref a1)]).toList=[.ref a1] by simp[e1]];have hf2:=hf e2.symm;have si:∀led,(one j led pl).sameMemory 0 7=some true:=λ_=>rfl;cases led;refine ao (Pu t1 t2 ?_)
   all_goals
    refine ao (cE (wpAny_eqBool_tuple hu t1 t2 ?_));refine ao (fZ ho hd rfl ?_);rw[aQ ne];dsimp only;rw[aj (by decide),si];dsimp only;rw[ai rfl,va,ai rfl];refine ao (wpAny_isSame_ref_self ?_);refine ao (aB ?_);cases n with
    |zero=>
     have q0:q=0:=by simpa using hq
     exact yG hu t1 t2 ne ho hd hQ fuel 0 _ _ _ hn (by omega) (λe=>aq e (by subst e2 q0;omega)) (by rw[q0];decide) rfl
    |succ n=>exact yG hu t1 t2 ne ho hd hQ fuel n _ _ _ (by omega) (by omega) (λ_=>by omega) (by rw[Nat.pow_succ]at hq;omega) rfl
theorem Je{S:Addr}{es:Array (Int×aa)}{t:iP}{h:Int}{P:Nat->Prop}(ho:s.heap.get? S=some o)(hd:o.data=.set es ep t)(hf:t.fits es.size=true)(t2:TK prog w s.heap ks a2)
  (hs:∀Q:SetFound->af->Prop,(∀j',P j'->Q (.free j' false) s)->wpAny (model prog w) A (setSearch S (.ref a2) h true) Q E s) (hT:∀j',P j'->(t.put j').1.tooFull=false) (hz:∀j',P j'->(eE es (t.put j').2 (h,Value.ref a2)).size<=sizeLine)
  (hQ:∀j' pl,P j'->Q true { s with heap:=s.heap.update S (kq (eE es (t.put j').2 (h,.ref a2)) { (t.put j').1 with plain:=pl }) }):wpAny (model prog w) A (setAddHashed S (.ref a2) h) Q E s:=by
 unfold setAddHashed setAddHashedIn;refine cE (ao (fZ ho hd hf ?_));dsimp only;rw[aj (by simp[byScan,Value.scannable])];refine ao (hs _ λj' hj=>?_);dsimp only;refine ao (fZ ho hd hf ?_);dsimp only;have fin:∀b:Bool,wpAny (model prog w) A (do
   storeSet S (eE es (t.put j').2 (h,.ref a2)) (if b=true then (t.put j').1 else { (t.put j').1 with plain:=false })
   if (!false&&(if b=true then (t.put j').1 else { (t.put j').1 with plain:=false }).tooFull)=true then do setRelay S (SetTable.grown (es.size+1));pure true else pure true) Q E s:=λb=>by
  refine ao (wpAny_storeSet_of ho hd ?_ (hz j' hj));have e:(if b=true then (t.put j').1 else { (t.put j').1 with plain:=false })={ (t.put j').1 with plain:=if b=true then (t.put j').1.plain else false }:=by cases b<;>rfl
  rw[e,aj (by have:=hT j' hj;unfold mN jQ at this ⊢;rw[this];decide)];exact aB (hQ _ _ hj)
 split
 ·exact ao (Pt t2 λb=>fin b)
 ·exact ao (aB (fin true))
end
section
variable{j i q:Nat}{led pl:Bool}{h h1:Int}
theorem B6(i:Nat):(iz 0 0 led).put i=(one i led true,0):=by simp[j3,iz,gb,fY,gf,eE]
theorem Bs{α:Type}(x y:α):((one j led pl).put i).1.place.size=2/\((one j led pl).put i).1.dummies=#[]/\((one j led pl).put i).1.mask=7/\(eE #[x] ((one j led pl).put i).2 y).size=2:=by
 by_cases z:j<i
 ·simp[j3,gb,fY,gf,eE,z]
 ·simp[j3,gb,fY,gf,eE,z]
end
variable{led:Bool}{j:Nat}
section
variable{prog:aE}{w:az}{A:aH}{E:aa->af->Prop}{s:af}
theorem Mv{hp:Heap}{S:Addr}{es es':Array (Int×aa)}{t t':iP}(ho:hp.get? S=some o)(hd:o.data=.set es ep t):(hp.update S (kq es' t')).get? S=some { o with data:=.set es' (ep+1) t' }:=by have:=jl (kq es' t') ho (by rw[putSet_of es' t' hd];rfl);rw[putSet_of es' t' hd]at this;exact this
theorem Kq{S:Addr}{h:Int}(ho:s.heap.get? S=some o)(hd:o.data=.set #[] ep (.fresh 0 0 led))(t2:TK prog w s.heap ks a)
  (hQ:∀h' j pl,fA S s.heap h'->h'.get? S=some { o with data:=.set #[(h,.ref a)] (ep+1) (one j led pl) }->Q true { s with heap:=h' }):wpAny (model prog w) A (setAddHashed S (.ref a) h) Q E s:=by
 refine Je (P:=λ_=>True) ho hd rfl t2 (λQ hq=>?_) (λj' _=>by rw[B6];rfl) (λj' _=>by rw[B6,bK];exact eL (by decide:1<_)) λj' pl _=>hQ _ j' pl (lZ ..) ?_
 ·unfold setSearch setSearchFrom;refine ao (fZ ho hd rfl ?_);dsimp only;rw[aj (by simp[mM,iz]),show ∀F p,(iz 0 0 led).probe F h p=some (.empty p.j p.dummy) from λ_ _=>rfl];exact aB (hq _ trivial)
 ·rw[Mv ho hd,B6];rfl
theorem HD{S a1:Addr}{pl:Bool}{h h1:Int}(hu:A.units<cLine)(t1:TK prog w s.heap k1 a1)(t2:TK prog w s.heap k2 a2)(ne:k1≠k2)
  (ho:s.heap.get? S=some o) (hd:o.data=.set #[(h1,.ref a1)] ep (one j led pl))
  (hQ:∀h' es t,fA S s.heap h'->h'.get? S=some { o with data:=.set es (ep+1) t }->es.size=2->t.fits 2=true->Q true { s with heap:=h' }):wpAny (model prog w) A (setAddHashed S (.ref a2) h) Q E s:=by
 refine Je (P:=λj'=>j'≠j) ho hd rfl t2 (λQ hq=>?_) (λj' _=>?_) (λj' _=>by rw[(Bs _ _).2.2.2,bK];decide) λj' pl' _=>hQ _ _ _ (lZ ..) (Mv ho hd) (Bs _ _).2.2.2 ?_
 ·have hb:iA h<32 ^ 13:=by unfold iA;omega
  exact yG hu t1 t2 ne ho hd hq 100000 13 (iA h % 8) (iA h) none (by omega) (by omega) (λ_=>by omega) hb (by show SetTable.Probe.mk _ _ _ _ _=_;rw[Wr])
 ·obtain⟨a,b,c,_⟩:=Bs (j:=j) (i:=j') (led:=led) (pl:=pl) 0 0;unfold mN jQ;rw[a,b,c];rfl
 ·obtain⟨a,b,c,_⟩:=Bs (j:=j) (i:=j') (led:=led) (pl:=pl) 0 0;unfold SetTable.fits jQ;dsimp only;rw[a,b,c];rfl
end
variable{h':Heap}
section
variable{prog:aE}{w:az}{A:aH}{R:dQ->af->Prop}{I:Addr}{fp wr:List Addr}{GG:Array gm->Array gm->Prop}{PP:Nat->aa->Prop}{SS:Nat->af->Prop}
theorem TK.kept{h:Heap}(t:TK prog w h ks a)(e:∀o,h.get? a=some o->h'.get? a=some o):TK prog w h' ks a:=by obtain⟨o,its,n,ho,m⟩:=t;exact⟨o,its,n,e o ho,m⟩
def SU(h:Heap)(S:Addr)(n:Nat):Prop:=∃o es ep t,h.get? S=some o/\o.ExactSet/\o.data=.set es ep t/\es.size<scanBound/\t.fits es.size=true/\es.size=n
theorem Kr(W:WalksS prog w A.in1 I fp wr GG 2 PP SS){S a1:Addr}{s:af}(hSf:S∉fp)(ne:k1≠k2)(n1:a1∉S::wr)(n2:a2∉S::wr)(p1:∀v,PP 0 v->v=.ref a1)(p2:∀v,PP 1 v->v=.ref a2)(hu:A.in1.units<cLine)
  (hst:SS 0 s) (t1:TK prog w s.heap k1 a1) (t2:TK prog w s.heap k2 a2) (ho:s.heap.get? S=some o) (hx:o.ExactSet) (hd:o.data=.set #[] ep (.fresh 0 0 led)) (hR:∀s',Moved (S::wr) GG s s'->SU s'.heap S 2->R (.ok (.ret .none)) s'):
   codeAny (model prog w) A (.builtin "set.update.loop" ⟨[.ref S,.ref I],[]⟩) R s:=by
 have hSw:S∉wr:=λz=>hSf (W.sub _ z);have up:∀b∈wr,b∈S::wr:=λb z=>bh _ z;have q1:a1∉wr:=λz=>n1 (up _ z);have q2:a2∉wr:=λz=>n2 (up _ z);have e1:a1≠S:=λz=>n1 (by rw[z];exact aV);have e2:a2≠S:=λz=>n2 (by rw[z];exact aV);refine dc fP ?_;rw[dv du _];show wpAny _ A.in1 (pyNext (.ref I)>>=_) _ _ s;refine ao (W.item 0 s _ _ (by decide) hst λv s1 hP st1 m1=>?_);obtain rfl:=p1 v hP;show wpAny _ A.in1 (holding _ (setAdd S _)>>=_) _ _ s1;refine ao (cE ?_);unfold setAdd;refine cE ?_;have u1:TK prog w s1.heap k1 a1:=t1.kept λo=>m1.heap a1 o q1;have u2:TK prog w s1.heap k2 a2:=t2.kept λo=>m1.heap a2 o q2;refine ao (me hu u1 ?_);refine Kq (m1.heap S _ hSw ho) hd u1 λh' j pl hb hg=>?_;refine aB ⟨fw du _,?_⟩;have st1':=W.frame (0+1) s1 h' _ st1 (f7 _ (k1.length+1)) λb z o e=>by rw[hb.2 b (λy:b=S=>hSf (by rw[<-y];exact z))];exact e
 have m1':Moved (S::wr) GG s { s1 with heap:=h',toks:=s1.toks+(k1.length+1) }:=(m1.mono up).then_heap (f7 _ _) λb o z e=>by rw[hb.2 b (λy:b=S=>z (by rw[y];exact aV))];exact e
 have v1:TK prog w h' k1 a1:=u1.kept λo e=>by rw[hb.2 a1 e1];exact e
 have v2:TK prog w h' k2 a2:=u2.kept λo e=>by rw[hb.2 a2 e2];exact e
 refine dc fP ?_;rw[dv du _];show wpAny _ A.in1 (pyNext (.ref I)>>=_) _ _ _;refine ao (W.item 1 _ _ _ (by decide) st1' λv s2 hP st2 m2=>?_);obtain rfl:=p2 v hP;show wpAny _ A.in1 (holding _ (setAdd S _)>>=_) _ _ s2;refine ao (cE ?_);unfold setAdd;refine cE ?_;have w1:TK prog w s2.heap k1 a1:=v1.kept λo=>m2.heap a1 o q1;have w2:TK prog w s2.heap k2 a2:=v2.kept λo=>m2.heap a2 o q2;refine ao (me hu w2 ?_);refine HD hu w1 w2 ne (m2.heap S _ hSw hg) rfl λh2 es t hb2 hg2 z2 f2=>?_;refine aB ⟨fw du _,?_⟩;have st2':=W.frame (1+1) s2 h2 _ st2 (f7 _ (k2.length+1)) λb z o e=>by rw[hb2.2 b (λy:b=S=>hSf (by rw[<-y];exact z))];exact e
 have m2':=kc W.gtrans m1' ((m2.mono up).then_heap (tk:=s2.toks+(k2.length+1)) (f7 _ _) λb o z e=>by rw[hb2.2 b (λy:b=S=>z (by rw[y];exact aV))];exact e);refine dc fP ?_;rw[dv du _];show wpAny _ A.in1 (pyNext (.ref I)>>=_) _ _ _;refine ao (W.done _ _ _ st2' λs3 m3=>?_);show wpAny _ A.in1 (ret Value.none) _ _ s3;refine aB (hR s3 (kc W.gtrans m2' (m3.mono up)) ?_);exact⟨_,es,_,t,m3.heap S _ hSw hg2,hx,rfl,by rw[z2];decide,by rw[z2];exact f2,z2⟩
end
theorem sub_tuple_set:isSubtype (.type "tuple") (.type "set")=pure false:=by rw[jL];kernel_rfl
theorem sub_tuple_frozenset:isSubtype (.type "tuple") (.type "frozenset")=pure false:=by rw[jL];kernel_rfl
variable{ax:Addr}{itO:Obj}
section
variable{prog:aE}{w:az}{A:aH}{E:aa->af->Prop}{s:af}{Q:aa->af->Prop}
abbrev wI(led:Bool):Obj:={ cls:=.type "set", dict:=none,data:=.set #[] 0 (.fresh 0 0 led) }
abbrev inK(ks:List Key):Key->Bool:=λj=>(uA ks).any (λz=>decide (z=j))
structure Wt(prog:aE)(w:az)(h:Heap)(a:Addr)(items:Array aa)(ks:List Key):Prop where
 len:ks.length=items.size
 key:∀i v (hi:i<ks.length),items[i]?=some v->(oT prog w).is ks[i] v=true/\v.scannable=true
 bnd:items.size+1<scanBound
def Pw(s:af)(PS:Heap->Prop)(E:aa->af->Prop):dQ->af->Prop:=
 wants (λr s2=>r=.none/\∃h2 k2,s2={ s with heap:=h2,toks:=k2 }/\PS h2/\∀b o,b<s.heap.objs.size->s.heap.get? b=some o->h2.get? b=some o) E
theorem F4{items:Array aa}{SS:Nat->Heap->Prop}(K:Wt prog w s.heap ax items ks)(hlt:ax<s.heap.objs.size)
  (W:Walks prog w A.in1 (s.heap.objs.size+1) [s.heap.objs.size+1,ax] [s.heap.objs.size+1] items.size (λi v=>items[i]?=some v) SS) (st:SS 0 ((s.heap.push (wI led)).push itO)) {R:dQ->af->Prop}
  (hR:∀h2 k2,h2.SetOf (oT prog w) s.heap.objs.size (inK ks) (uA ks).length->(∀b o,b<s.heap.objs.size->s.heap.get? b=some o->h2.get? b=some o)->R (.ok (.ret .none)) { s with heap:=h2,toks:=k2 }) (tk:Nat):
  codeAny (model prog w) A (.builtin "set.update.loop" ⟨[.ref s.heap.objs.size,.ref (s.heap.objs.size+1)],[]⟩) R { s with heap:=(s.heap.push (wI led)).push itO,toks:=tk }:=by
 have notin:s.heap.objs.size∉[s.heap.objs.size+1,ax]:=by
  intro z;rcases aN.mp z with z|z
  ·exact aq z (aT (dB _))
  ·exact aq (aR.mp z) (fC hlt)
 have e0:((s.heap.push (wI led)).push itO).get? s.heap.objs.size=some (wI led):=aM _ (bz _ rfl);refine Mu W.toS s.heap.objs.size notin ks K.len (λi v hi hv=>K.key i v hi hv) K.bnd (items.size - 0) 0 _ (by omega) (cf _) st ?_ λs2 mv S2=>?_
 ·exact⟨_,#[],0,_,e0,⟨rfl,rfl,rfl⟩,rfl,λe he=>by simp at he,λk=>by simp[uA],by unfold scanBound;decide,by rfl,rfl⟩
 ·obtain⟨h2,g2,d2,k2,o2⟩:=s2;have eg:g2=s.gens:=mv.gens;have ed:d2=s.drawn:=mv.drawn;have eo:o2=s.os:=mv.os;subst eg ed eo;refine hR h2 k2 S2 λb o hb e=>mv.heap b o (λz=>?_) (aM _ (aM _ e));rcases aN.mp z with z|z
  ·exact aq z (aT hb)
  ·exact aq (aR.mp z) (aT (cW hb))
theorem HE(a:aa){Q₁:aa->af->Prop}(h:Q₁ (.ref s.heap.objs.size) { s with heap:=s.heap.push (wI (!w.params.followText "set-order")) }):
  codeAny (model prog w) A (.call (.builtin "set.__new__") ⟨[.type "set", a],[]⟩) (wants Q₁ E) s:=by
 refine codeAny_of_tree ?_;show wpAny _ A.in1 (do checkBuiltinCall "set.__new__" ⟨[.type "set", a],[]⟩;again (.builtin "set.__new__" ⟨[.type "set", a],[]⟩)) _ _ s;refine ao (wpAny_of_eq (F.newCall_set_1 a) (aB ⟨fw mT _,dc F.entry_set_new ?_⟩));rw[dv mT _];unfold dP.«set.__new__» nZ;have hsub:=sub_set_self;obtain⟨hp,g,d,tk,os⟩:=s;dsimp only
 wp_walk
 refine wpAny_askSetting (aB ?_);dsimp only;simp only[newObj];refine ao (wpAny_alloc (aB ?_));exact aB h
theorem B7{T:String}{PS:Heap->Prop}(ho:s.heap.get? ax=some o)(hc:o.cls=.type T)
  (u1:isSubtype (.type T) (.type "set")=pure false) (u2:isSubtype (.type T) (.type "frozenset")=pure false) (u3:(Value.type T==Value.type "dict")=false)
  (itr:∀(A:aH) (Q:aa->af->Prop) (E:aa->af->Prop) (s1:af),s1.heap.get? ax=some o->Q (.ref s1.heap.objs.size) { s1 with heap:=s1.heap.push itO }->wpAny (model prog w) A (pyIter (.ref ax)) Q E s1)
  (fil:∀tk (R:dQ->af->Prop),(∀h2 k2,PS h2->(∀b o,b<s.heap.objs.size->s.heap.get? b=some o->h2.get? b=some o)->R (.ok (.ret .none)) { s with heap:=h2,toks:=k2 })->
   codeAny (model prog w) A.in1.in1 (.builtin "set.update.loop" ⟨[.ref s.heap.objs.size,.ref (s.heap.objs.size+1)],[]⟩) R { s with heap:=(s.heap.push (wI (!w.params.followText "set-order"))).push itO,toks:=tk })
  (h:∀h2 k2,PS h2->(∀b o,b<s.heap.objs.size->s.heap.get? b=some o->h2.get? b=some o)->Q (.ref s.heap.objs.size) { s with heap:=h2,toks:=k2 }):
  wpAny (model prog w) A (call (.type "set") [.ref ax]) Q E s:=by
 have hlt:ax<s.heap.objs.size:=aO ho;obtain⟨c,tl,hmro⟩:=dN.mro;have made:=dN.made;have subs:=dN.sub;refine iI (codeAny_of_tree ?_);show wpAny _ _ (callAny (.type "set") _) _ _ _;refine aB ⟨Code.quiet_builtin _ (by decide +kernel),dc F.entry_type_call ?_⟩;rw[Around.under_plain (weight_type_call_type "set" [.ref ax] []) rfl];have n1:=dN.notType;have n2:=dN.canCreate;have n3:=F.typeCall_set_1 (.ref ax)
 repeat (any_goals (first|assumption|wp_step))
 let led:Bool:=!w.params.followText "set-order";refine fD (HE (.ref ax) (E:=E) (Q₁:=λv s1=>v=.ref s.heap.objs.size/\s1={ s with heap:=s.heap.push (wI led) }) ⟨rfl,rfl⟩) λr s1 hr=>?_;cases r with
 |error e=>exact hr
 |ok fl=>
  cases fl with
  |ret v=>
   obtain⟨rfl,rfl⟩:=hr;have e0:(s.heap.push (wI led)).get? s.heap.objs.size=some (wI led):=bz _ rfl;have ty0:jR { s with heap:=s.heap.push (wI led) } (.ref s.heap.objs.size) "set" := ⟨_,e0,rfl⟩;have l1:=dN.init.lookup;have l2:=dN.init.bind (.ref s.heap.objs.size)
   repeat (any_goals (first|assumption|wp_step))
   refine fD (lT (R:=Pw s PS E) dN.init.plain F.entry_set_init (check_set_init_1 ty0 ?_)) λr2 s2 hr2=>?_
   ·obtain⟨oc,od,oda,osl⟩:=o;cases hc;have e1:(s.heap.push (wI led)).get? ax=some { cls:=.type T,dict:=od,data:=oda,slots:=osl }:=aM _ ho;unfold dP.«set.__init__» noKeywords nY;generalize gP:pyIter=PP
    wp_walk
    subst gP;refine itr _ _ _ _ e1 ?_;refine ao (wpAny_runValue ?_);have ez:(s.heap.push (wI led)).objs.size=s.heap.objs.size+1:=de _ _;show codeAny _ _ (.builtin "set.update.loop" ⟨[.ref s.heap.objs.size,.ref (s.heap.push (wI led)).objs.size],[]⟩) _ _;rw[ez];refine fil _ _ λh2 k2 S2 kk=>?_;show wpAny _ _ _ _ _ _;refine aB ?_;show wpAny _ _ (ret Value.none) _ _ _;exact aB ⟨rfl,h2,k2,rfl,S2,kk⟩
   ·cases r2 with
    |error e=>exact hr2
    |ok fl2=>
     cases fl2 with
     |ret r=>
      obtain⟨rfl,h2,k2,rfl,S2,kk⟩:=hr2
      repeat (any_goals (first|assumption|wp_step))
      exact h _ _ S2 kk
     |_=>exact hr2.elim
  |_=>exact hr.elim
end
variable{S:au->Hp->Addr->Nat->Prop}{ds:aA}
section
variable{X:Cx}{G:Bg}{H:Hp}{pins:cn}{σ:St}{s:af}
theorem Mw{P:aE}{w:az}{k:Key}{v:aa}(h:(oT P w).is k v=true):v.scannable=true:=by rcases pQ h with ⟨i,t,_,rfl⟩|⟨x,t,_,rfl⟩<;>rfl
theorem Mx{its:List aa}(r:Vals (ks.map kV) its)(hb:ks.length+1<scanBound):Wt X.prog X.w s.heap a its.toArray ks:=by
 have hl:ks.length=its.length:=by have:=r.length;rw[ah]at this;exact this
 refine⟨by rw[ba];exact hl,λi v hi hv=>?_,by rw[ba];omega⟩;have e:(ks.map kV)[i]?=some (kV ks[i]):=by rw[bu,aP hi];rfl
 obtain⟨u,hu,ru⟩:=r.get e;have eu:v=u:=by rw[List.getElem?_toArray]at hv;rw[hv]at hu;exact cc hu
 subst eu;have:=yb (P:=X.prog) (w:=X.w) ru;exact⟨this,Mw this⟩
theorem QS(I:Inv X pins σ H s)(h:SqT X.K H a (ks.map kV)):TK X.prog X.w s.heap ks a:=by
 obtain⟨its,r,p,_⟩:=I.tuple h;obtain⟨o,ho,hc,n,hd⟩:=p;refine⟨o,_,n,ho,hc,hd,?_⟩;have gen:∀(ks:List Key) (its:List aa),Vals (ks.map kV) its->PySem.ItemsAre (oT X.prog X.w) ks its:=λks=>by
  induction ks with
  |nil=>intro its r;cases r;exact .nil
  |cons k ks ih=>intro its r;cases r with|cons h1 h2=>exact .cons (yb h1) (ih _ h2)
 exact gen ks its r
def SV(K:au)(H:Hp)(a:Addr)(n:Nat):Prop:=∃ks,(SqL K H a (ks.map kV)\/SqT K H a (ks.map kV))/\ks.length+1<scanBound/\n=(uA ks).length
def SW(K:au)(H:Hp)(a:Addr)(n:Nat):Prop:=SV K H a n\/
 ∃(p q:Addr) (k1 k2:List Key),SqL K H a [.ref p,.ref q]/\SqT K H p (k1.map kV)/\SqT K H q (k2.map kV)/\k1≠k2/\n=2
def SX(X:Cx)(S:au->Hp->Addr->Nat->Prop):Prop:=∀{pins:cn} {σ:St} {H:Hp} {s:af} {A:aH} {E:aa->af->Prop} {Q:aa->af->Prop} {a:Addr} {n:Nat},Inv X pins σ H s->A.handled=none->A.units+8<cLine->S X.K H a n->
 (∀h2 k2,SU h2 s.heap.objs.size n->(∀b o,b<s.heap.objs.size->s.heap.get? b=some o->h2.get? b=some o)->Q (.ref s.heap.objs.size) { s with heap:=h2,toks:=k2 })->wpAny (model X.prog X.w) A (call (.type "set") [.ref a]) Q E s
theorem Wu:SX X (SV):=by
 intro pins σ H s A E Q a n I hh hu hq h;have h3:A.in1.in1.in1.handled=none:=by simp[hh]
 have gt:∀{h2:Heap} {ks:List Key},h2.SetOf (oT X.prog X.w) s.heap.objs.size (inK ks) (uA ks).length->SU h2 s.heap.objs.size (uA ks).length:=λS=>by obtain⟨o,es,ep,t,ho,hex,hd,_,_,hz,hf,hn⟩:=S;exact⟨o,es,ep,t,ho,hex,hd,hz,hf,hn⟩
 have it:∀{o:Obj} {led:Bool},o.isFreed=false->((s.heap.push (wI led)).push o).get? (s.heap.objs.size+1)=some o:=λ{o led} z=>by rw[show s.heap.objs.size+1=(s.heap.push (wI led)).objs.size from(de _ _).symm];exact bz _ z
 obtain⟨ks,hq|hq,hb,rfl⟩:=hq
 ·obtain⟨its,r,p,_⟩:=I.list hq;obtain⟨o,ho,hc,n,hd⟩:=p.isList;have hne:a≠s.heap.objs.size+1:=aT (cW (aO ho));refine B7 ho hc F.sub_list_set lU (by decide) (itO:={ cls:=.type "list_iterator", data:=.fields #[.ref a,.int 0 0] })
   (λA Q E s1 e k=>fW ⟨o,e,hc,n,hd⟩ k) (λtk R hR=>F4 (Mx r hb) (aO ho) (iK h3 _ a hne its.toArray) ⟨⟨_,it rfl,rfl,rfl⟩,⟨o,aM _ (aM _ ho),hc,n,hd⟩⟩ (λh2 k2 S=>hR h2 k2 (gt S)) tk) h
 ·obtain⟨its,r,p,_⟩:=I.tuple hq;obtain⟨o,ho,hc,n,hd⟩:=p;have hne:a≠s.heap.objs.size+1:=aT (cW (aO ho));refine B7 ho hc sub_tuple_set sub_tuple_frozenset (by decide) (itO:={ cls:=.type "tuple_iterator", data:=.fields #[.ref a,.int 0 0] })
   (λA Q E s1 e k=>l7 ⟨o,e,hc,n,hd⟩ k) (λtk R hR=>F4 (Mx r hb) (aO ho) (Walks.tuple h3 _ a hne its.toArray) ⟨⟨_,it rfl,rfl,rfl⟩,⟨o,aM _ (aM _ ho),hc,n,hd⟩⟩ (λh2 k2 S=>hR h2 k2 (gt S)) tk) h
theorem Wv:SX X (SW):=by
 intro pins σ H s A E Q a n I hh hu hq h;rcases hq with hq|⟨p,q,k1,k2,hq,h1,h2,ne,rfl⟩
 ·exact Wu I hh hu hq h
 have h3:A.in1.in1.in1.handled=none:=by simp[hh]
 have it:∀{o:Obj} {led:Bool},o.isFreed=false->((s.heap.push (wI led)).push o).get? (s.heap.objs.size+1)=some o:=λ{o led} z=>by rw[show s.heap.objs.size+1=(s.heap.push (wI led)).objs.size from(de _ _).symm];exact bz _ z
 obtain⟨its,r,pp,_⟩:=I.list hq;obtain⟨o,ho,hc,n,hd⟩:=pp.isList;have hne:a≠s.heap.objs.size+1:=aT (cW (aO ho));obtain⟨u,v,rfl,ru,rv⟩:∃u v,its=[u,v]/\RelV (.ref p) u/\RelV (.ref q) v:=by cases r with|cons c1 r=>cases r with|cons c2 r=>cases r;exact⟨_,_,rfl,c1,c2⟩
 cases ru;cases rv;have t1:=QS I h1;have t2:=QS I h2;have far:∀{b:Addr} {ks:List Key},TK X.prog X.w s.heap ks b->b∉s.heap.objs.size::[s.heap.objs.size+1]:=λ{b ks} t z=>by
  obtain⟨o,_,_,e,_⟩:=t;have:=aO e;rcases aN.mp z with z|z
  ·exact aq z (aT this)
  ·exact aq (aR.mp z) (aT (cW this))
 have notin:s.heap.objs.size∉[s.heap.objs.size+1,a]:=by
  intro z;rcases aN.mp z with z|z
  ·exact aq z (aT (dB _))
  ·exact aq (aR.mp z) (fC (aO ho))
 refine B7 ho hc F.sub_list_set lU (by decide) (itO:={ cls:=.type "list_iterator", data:=.fields #[.ref a,.int 0 0] })
  (λA Q E s1 e k=>fW ⟨o,e,hc,n,hd⟩ k) (λtk R hR=>?_) h
 have ke:∀{b:Addr} {o':Obj},s.heap.get? b=some o'->((s.heap.push (wI (!X.w.params.followText "set-order"))).push { cls:=.type "list_iterator", data:=.fields #[.ref a,.int 0 0] }).get? b=some o':=λe=>aM _ (aM _ e);refine Kr (iK h3 _ a hne #[.ref p,.ref q]).toS notin ne (far t1) (far t2) (λv e=>(cc e).symm) (λv e=>(cc e).symm) (by show A.units+1+1+1<cLine;omega) ⟨⟨_,it rfl,rfl,rfl⟩,⟨o,ke ho,hc,n,hd⟩⟩ (t1.kept λo=>ke) (t2.kept λo=>ke)
  (aM _ (bz _ rfl)) ⟨rfl,rfl,rfl⟩ rfl λs2 mv S2=>?_
 obtain⟨h2,g2,d2,k2,o2⟩:=s2;have eg:g2=s.gens:=mv.gens;have ed:d2=s.drawn:=mv.drawn;have eo:o2=s.os:=mv.os;subst eg ed eo;exact hR h2 k2 S2 λb o hb e=>mv.heap b o (λz=>by
  rcases aN.mp z with z|z
  ·exact aq z (aT hb)
  ·exact aq (aR.mp z) (aT (cW hb))) (ke e)
def ES(S:au->Hp->Addr->Nat->Prop)(K:au)(te:TE):TE:=λσ H Q=>te σ H λx H1=>∃a n,x=.ref a/\S K H1 a n/\Q (.int n) H1
theorem Ks{p1 p2 p3 p4:Pos}(hV:SX X S)(hu:X.A.units+64<cLine)(hc:X.calm=true)(g1:Gl X "len")(m1:X.mg "len" = none)(g2:Gl X "set")(m2:X.mg "set" = none)(he:PE X e te)
  (z1:starEach [Expr.Call (.Name "set" p2) [e] [] p3] X.env=[(false,eval (.Call (.Name "set" p2) [e] [] p3) X.env)]:=by rfl) (z2:starEach [e] X.env=[(false,eval e X.env)]:=by rfl):PE X (.Call (.Name "len" p1) [.Call (.Name "set" p2) [e] [] p3] [] p4) (ES S X.K te):=by
 intro pins s σ H Q I h;refine dw (yw I g1 m1 m5 ?_ (by decide) (by decide));refine callWith_builtin1 ?_ z1 rfl;rw[z1];show wpAny _ _ (spliced [(false,eval (.Call (.Name "set" p2) [e] [] p3) X.env)]) _ _ s;refine eC ?_;refine dw (yw I g2 m2 Pv.boot_set ?_ (by decide) (by decide));refine callWith_type1 (thn (qw he uN z2 p3 pins s σ H (λvs H1=>match vs with
  |[x]=>∃a n,x=.ref a/\S X.K H1 a n/\Q (.int n) H1
  |_=>False) I h) λus s1 ⟨vs,H1,I1,r1,q1⟩=>?_) z2 rfl
 match vs,r1,q1 with
 |[x],r1,q1=>
 obtain⟨a,n,e1,hq,q⟩:=q1;subst e1;obtain⟨u,rfl,ru⟩:=vals1 r1;cases ru;refine hV I1 (I1.ok.hd hc) (by omega) hq λh2 k2 S2 kk=>?_;refine fX ?_;obtain⟨o,es,ep,t,ho,hex,hd,hz,hf,hn⟩:=S2;have I2:Inv X pins σ H1 { s1 with heap:=h2,toks:=k2 }:=I1.kept λb o e=>kk b o (aO e) e;refine call_len_set ho hex hd hf (by unfold scanBound at hz;omega) ⟨.int n,H1,I2.tok _,⟨_,by rw[hn]⟩,q⟩
def yh:aA->Option (List Key)
 |[]=>some []
 |d::ds=>match wY d,yh ds with
  |some k,some ks=>some (k::ks)
  |_,_=>none
theorem xN:∀{ds:aA} {xs:bt} {ks:List Key},oq G H ds xs->yh ds=some ks->xs=ks.map kV
 |[],xs,ks,r,e=>by cases e;unfold oq at r;exact r
 |d::ds,xs,ks,r,e=>by
  unfold yh at e;cases e1:wY d with
  |none=>rw[e1]at e;cases e
  |some k=>
   cases e2:yh ds with
   |none=>rw[e1,e2]at e;cases e
   |some ks'=>rw[e1,e2]at e;cases e;unfold oq at r;obtain⟨v,r',rfl,h1,h2⟩:=r;rw[vS h1 e1,xN h2 e2];rfl
def sd(ds:aA):Option D:=match yh ds with
 |some ks=>if ks.length<=1000 then some (.int (uA ks).length)else none
 |none=>none
def SY:aA->Option D
 |[.tup x,.tup y]=>match yh x,yh y with
  |some k1,some k2=>if k1=k2 then none else some (.int 2)
  |_,_=>none
 |_=>none
def B8(g:aA->Option D):D->Option D
 |.lst ds=>match sd ds with
  |some r=>some r
  |none=>g ds
 |.tup ds=>sd ds
 |.fzl ds=>sd ds
 |_=>none
abbrev ET:D->Option D:=B8 SY
theorem Px{g:aA->Option D}{r:D}(h:sd ds=some r):B8 g (.lst ds)=some r:=by show (match sd ds with|some r=>some r|none=>g ds)=some r;rw[h]
theorem HF{g:aA->Option D}(hK:X.K=G.K)(hO:∀{H a n},SV X.K H a n->S X.K H a n)
  (hg:∀{ds d H1 H1' a xs},g ds=some d->SqL X.K H1' a xs->oq G H1 ds xs->oE H1 H1'->∃n:Nat,S X.K H1' a n/\d=.int n)
  (h:PE X e (ES S X.K (tF G f))):PE X e (tF G (c1 (B8 g) f)):=PE.weak h λσ H Q hh=>by
 obtain⟨F,ρ,H0,d,ρ',R,e,k⟩:=hh;obtain⟨x,e1,e2⟩:=Bq e;have key:∀{ds:aA} {xs:bt} {a:Addr} {H1 H1':Hp},sd ds=some d->oq G H1 ds xs->oE H0 H1->oN G F σ ρ' H1 H1'->(SqL X.K H1' a xs\/SqT X.K H1' a xs)->
   ∃a' n,V.ref a=.ref a'/\S X.K H1' a' n/\Q (.int n) H1':=λ{ds xs a H1 H1'} ed rs s R' hq=>by
  unfold sd at ed;cases ek:yh ds with
  |none=>rw[ek]at ed;cases ed
  |some ks=>
   rw[ek]at ed;simp only at ed;split at ed
   ·rename_i hl;cases ed;rw[xN rs ek]at hq;exact⟨a,_,rfl,hO ⟨ks,hq,by unfold scanBound;omega,rfl⟩,k _ _ _ s R' (qz _)⟩
   ·cases ed
 refine⟨F,ρ,H0,x,ρ',R,e1,λv H1 H1' s R' r=>?_⟩;cases x with
 |lst ds=>
  unfold Rep at r;obtain⟨a,xs,rfl,h1,h2⟩:=r;have hq:SqL X.K H1' a xs:=SqL.of (R'.sub _ _ h1);replace e2:(match sd ds with|some r=>some r|none=>g ds)=some d:=e2;cases e3:sd ds with
  |some r=>rw[e3]at e2;cases e2;exact key e3 h2 s R' (.inl hq)
  |none=>rw[e3]at e2;obtain⟨n,h3,rfl⟩:=hg e2 hq h2 R'.sub;exact⟨a,n,rfl,h3,k _ _ _ s R' (qz _)⟩
 |tup ds=>unfold Rep at r;obtain⟨a,xs,rfl,h1,h2⟩:=r;rw[<-hK]at h1;exact key e2 h2 s R' (.inr (SqT.mono R'.sub h1))
 |fzl ds=>unfold Rep at r;obtain⟨a,xs,rfl,h1,h2⟩:=r;rw[<-hK]at h1;exact key e2 h2 s R' (.inl (R'.sub.seq h1))
 |_=>cases e2
theorem Py(hK:X.K=G.K):∀{ds d H1 H1' a xs},SY ds=some d->SqL X.K H1' a xs->oq G H1 ds xs->oE H1 H1'->∃n:Nat,SW X.K H1' a n/\d=.int n:=λ{ds d H1 H1' a xs} e2 hq h2 s=>by
 unfold SY at e2;split at e2
 ·rename_i x y;split at e2
  ·rename_i k1 k2 f1 f2;split at e2
   ·cases e2
   ·rename_i ne;cases e2;unfold oq oq oq at h2;obtain⟨v1,r1,rfl,c1,v2,r2,rfl,c2,rfl⟩:=h2;unfold Rep at c1 c2;obtain⟨p,ys,rfl,d1,d2⟩:=c1;obtain⟨q,zs,rfl,d3,d4⟩:=c2;rw[<-hK,xN d2 f1]at d1;rw[<-hK,xN d4 f2]at d3;exact⟨2,.inr ⟨p,q,k1,k2,hq,SqT.mono s d1,SqT.mono s d3,ne,rfl⟩,rfl⟩
  ·cases e2
 ·cases e2
theorem Kt(hK:X.K=G.K)(h:PE X e (ES SW X.K (tF G f))):PE X e (tF G (c1 ET f)):=HF hK .inl (Py hK) h
end
theorem EU{P:aE}{w:az}{k:Key}{v:aa}(h:(oT P w).is k v=true):RelV (kV k) v:=by
 rcases pQ h with ⟨i,t,rfl,rfl⟩|⟨x,t,rfl,rfl⟩
 ·exact⟨t,rfl⟩
 ·exact⟨t,rfl⟩
def Itd(a:Addr)(o:Obj)(kvs:List (Key×V)):It:=
 ⟨λi H=>i<kvs.length/\H a=some (.frz o (.dK kvs)),λi H x H'=>H'=H/\∃k z,kvs[i]?=some (k,z)/\x=kV k,λi H=>kvs.length<=i/\H a=some (.frz o (.dK kvs))⟩
section
variable{X:Cx}{pins:cn}{σ:St}{H:Hp}{s:af}
theorem uD{es:Array DictEntry}(I:Inv X pins σ H s)(e:H a=some (.frz o (.dK kvs)))(hd:o.data=.dict es ep):
  (a==sysModules)=false/\s.heap.get? a=some o/\∃vs,KV kvs vs/\s.heap.DictAt (oT X.prog X.w) a vs ep:=by
 obtain⟨q0,_,y,vs,r,ob,es',ep',q1,q2,q3,q4⟩:=(show pL X.prog X.w H s.heap a (.frz o (.dK kvs)) from I.hok a _ e);rw[q0]at q1;cases q1;rw[hd]at q3;cases q3;exact⟨y,q0,vs,r,o,es,q0,q2,hd,q4⟩
theorem SZ{vs:List (Key×aa)}(r:KV kvs vs){k:Key}{x:aa}(e:vs[i]?=some (k,x)):∃z,kvs[i]?=some (k,z):=by
 induction r generalizing i with
 |nil=>cases e
 |@cons p q l l' h _ ih=>
  cases i with
  |zero=>obtain⟨pk,pv⟩:=p;cases e;exact⟨pv,by rw[show pk=k from h.1];rfl⟩
  |succ i=>exact ih e
end
theorem Ku{P:aE}{w:az}{K:au}(a it:Addr)(o:Obj)(kvs:List (Key×V)):Turn P w K tg (Itd a o kvs) [it] it (λi h=>∃es ep,o.data=.dict es ep/\h.IsKeyIter it a i kvs.length ep) where
 mem:=by simp
 obj:=λi h st b hb=>by
  have e:b=it:=by simpa using hb
  subst e;obtain⟨es,ep,hd,ob,e,c,d⟩:=st;exact⟨ob,e,λv z=>by rw[d]at z;cases z⟩
 keep:=λi h h' st k=>by obtain⟨es,ep,hd,x⟩:=st;exact⟨es,ep,hd,x.at λo e=>k it (by simp) o e⟩
 item:=by
  intro X hP hw hK hc i pins s σ H E I hf st hg;subst hP hw hK;obtain⟨hi,he⟩:=hg;obtain⟨es,ep,hd,ki⟩:=st;obtain⟨f0,f1,f2,f3,f4,f5⟩:=hf it (by simp);obtain⟨_,_,vs,r,da⟩:=uD I he hd;have hl:kvs.length=vs.length:=r.length;have hne:a≠it:=λz=>by subst z;rw[he]at f0;cases f0
  have W:=m6 (knd:=oT X.prog X.w) (A:=X.A) (I.ok.hd hc) it a hne vs ep;refine W.item i s _ _ (by omega) ⟨by rw[<-hl];exact ki,da⟩ λv h' tk hv st' kk=>?_;obtain⟨k,x,hx,hk⟩:=hv;obtain⟨z,hz⟩:=SZ r hx;have I1:Inv X pins σ H { s with heap:=h',toks:=tk }:=I.turned (λb o hb e=>kk b o (by simpa using hb) e) f0 f1 f3 f4 f5;obtain⟨ki',_⟩:=st';rw[<-hl]at ki';obtain⟨ob,e,c,d⟩:=id ki';exact⟨v,rfl,Iy (s:={ s with heap:=h',toks:=tk }) e c d (by decide) ⟨kV k,H,I1,EU hk,⟨rfl,k,z,hz,rfl⟩,⟨es,ep,hd,ki'⟩,λb hb=>(hf b hb).1⟩⟩
 done:=by intro X hP hw hK hc i pins s σ H E I hf st hg;subst hP hw hK;obtain⟨hi,he⟩:=hg;obtain⟨es,ep,hd,ki⟩:=st;obtain⟨f0,f1,f2,f3,f4,f5⟩:=hf it (by simp);obtain⟨_,_,vs,r,da⟩:=uD I he hd;have hl:kvs.length=vs.length:=r.length;exact wpAny_pyNext_dict_end (I.ok.hd hc) (by rw[<-hl];exact ki) da (fT (by rw[<-hl];exact hi)) λh' eb=>⟨rfl,I.turned (t':=s.toks) (λb o hb e=>eb b o hb e) f0 f1 f3 f4 f5⟩
 self:=λ_ _ _ _ _ st h=>by obtain⟨es,ep,hd,ki⟩:=st;exact wpAny_pyIter_keyiter ki h
variable{tl:TE}
section
variable{X:Cx}{G:Bg}{tg:Expr}
def Ww(tl:TE):TI:=λσ H R=>tl σ H λx H1=>∃a o kvs,x=.ref a/\H1 a=some (.frz o (.dK kvs))/\R (Itd a o kvs) H1
theorem Pz{l:Expr}(hl:PE X l tl):PI X tg l (Ww tl):=by
 intro pins s σ H R I h;refine thn (hl pins s σ H _ I h) λv s1 ⟨x,H1,I1,r1,q1⟩=>?_;obtain⟨a,o,kvs,e,he,q⟩:=q1;subst e;cases r1;obtain⟨q0,_,y,vs,r,ob,es,ep,e1,e2,e3,e4⟩:=(show pL X.prog X.w H1 s1.heap a (.frz o (.dK kvs)) from I1.hok a _ he);rw[q0]at e1;cases e1;have hl:kvs.length=vs.length:=r.length;refine mC (knd:=oT X.prog X.w) (kvs:=vs) (ep:=ep) y ⟨o,es,q0,e2,e3,e4⟩ ?_;refine⟨s1.heap.objs.size,[s1.heap.objs.size],_,_,H1,rfl,I1.kept (t':=s1.toks) λb o e=>aM _ e,Ku a _ o kvs,⟨es,ep,e3,⟨_,bz _ rfl,rfl,by rw[hl];rfl⟩⟩,λb hb=>?_,q⟩;have e:b=s1.heap.objs.size:=by simpa using hb
 subst e;exact I1.fpOk (aI _) (I1.hok.fresh (aI _))
def HG:Key->D
 |.inl i=>.int i
 |.inr x=>.str x
theorem Jf(k:Key){H:Hp}:Rep G H (HG k) (kV k):=by
 cases k with
 |inl i=>exact qz i
 |inr x=>exact vK x
def iD(f:FE):FA:=λρ=>match f ρ with
 |some (.dic ks ds,ρ1)=>if ks.length=ds.length then some (ks.map HG,ρ1)else none
 |_=>none
theorem My{tg:Expr}(h:PI X tg e (Ww (tF G f))):PI X tg e (tFI G (iD f)):=PI.weak h λσ H R hh=>by
 obtain⟨F,ρ,H0,ds,ρ',R,e,k⟩:=hh;unfold iD at e;split at e
 ·rename_i ks ds' ρ1 e1;split at e
  ·rename_i hlen;cases e;refine⟨F,ρ,H0,_,_,R,e1,λv H1 H1' s R' r=>?_⟩;unfold Rep at r;obtain⟨a,o,xs,rfl,r1,r2,r3⟩:=r;have hz:(ks.zip xs).length=ks.length:=by rw[eJ,<- r2,dM]
   refine⟨a,o,_,rfl,R'.sub _ _ r1,k _ _ _ s R' λi H2 H2' t t'=>⟨λd ed=>?_,λhl=>?_⟩⟩
   ·rw[bu]at ed;cases ek:ks[i]? with
    |none=>rw[ek]at ed;cases ed
    |some j=>
     rw[ek]at ed;cases ed;have hi:i<ks.length:=(bQ.mp ek).1;refine⟨⟨by rw[hz];exact hi,t' _ _ (t _ _ r1)⟩,λz H3 y=>?_⟩;obtain⟨e3,k',z',hk',rfl⟩:=y;subst e3;have:k'=j:=by rw[lj]at hk';have:=hk'.1;rw[ek]at this;exact(cc this).symm
     subst this;exact⟨H2,oE.refl _,t',oE.refl _,λb o e=>.inl e,Jf _⟩
   ·refine⟨by rw[hz,hl,ah];exact aI _,t' _ _ (t _ _ r1)⟩
  ·cases e
 ·cases e
end
variable{xs:bt}
section
variable{X:Cx}{pins:cn}{σ:St}{H:Hp}{s:af}
theorem Inv.turnedLaid{T:Addr}{t':Nat}{ch:List Addr}(I:Inv X pins σ H s)(hf:∀b∈ch,Dd X pins H b)(k:∀b o,b∉ch->s.heap.get? b=some o->h'.get? b=some o)
  (hT:s.heap.objs.size<=T) (new:pL X.prog X.w (upd H T (.tup xs)) h' T (.tup xs)):Inv X pins σ (upd H T (.tup xs)) { s with heap:=h',toks:=t' }:=by
 have nT:H T=none:=I.hok.fresh hT;have ne:∀{b:Addr} {u:HO},H b=some u->b≠T:=λe z=>by subst z;rw[nT]at e;cases e
 have nch:∀{b:Addr} {u:HO},H b=some u->b∉ch:=λe z=>by have:=(hf _ z).1;rw[e]at this;cases this
 have lt:∀{b:Addr} {o:Obj},s.heap.get? b=some o->b≠T:=λe z=>by subst z;exact aq (bW (aO e) hT) (df _)
 refine I.step (g':=s.gens) (d':=s.drawn) (ch:=ch) (λb hb=>?_) (λb o _ _ hc e _=>k b o hc e) (λb o _ _ hc e _=>⟨o.slots,k b o hc e⟩) (λb o _ e n=>by rw[oB (lt e)];exact n) (λb o hc e=>⟨o,k b o hc e⟩)
  (λb ys e=>by rw[oB (ne e)];exact e) (λb o u e=>by rw[oB (ne e)];exact e) (λb ps e=>⟨#[],by rw[oB (ne e),e];simp⟩) (λm hm=>?_) (λb u e=>?_) I.bare
 ·obtain⟨f0,f1,f2,f3,f4,f5⟩:=hf b hb;exact⟨f3,f1,f4,f5⟩
 ·exact hm.at' λo e=>k _ o (λz=>(hf _ z).2.1 rfl) e
 ·by_cases hb:b=T
  ·subst hb;rw[oA]at e;cases e;exact new
  ·rw[oB hb]at e;refine(I.hok b u e).stay (λc v hc q=>k c v ?_ q) (λc q=>by rw[oB (ne q)];exact q) λc ys q=>by rw[oB (ne q)];exact q
   rcases hc with rfl|hc
   ·exact nch e
   ·exact nch hc
def Itz(l1 l2:Addr):It:=
 ⟨λi H=>∃xs ys x y,H l1=some (.lst xs)/\H l2=some (.lst ys)/\xs[i]?=some x/\ys[i]?=some y,
  λi H v H'=>∃p x y,H p=none/\v=.ref p/\H'=upd H p (.tup [x,y])/\(∀xs,H l1=some (.lst xs)->xs[i]?=some x)/\∀ys,H l2=some (.lst ys)->ys[i]?=some y,
  λi H=>∃xs ys,H l1=some (.lst xs)/\H l2=some (.lst ys)/\(xs.length<=i\/ys.length<=i)⟩
end
structure Mz(z TI TO i1 i2:Addr):Prop where
 a:TI≠z
 b:TO≠z
 c:i1≠z
 d:i2≠z
 e:TI≠TO
 f:TI≠i1
 g:TI≠i2
 h:TO≠i1
 i:TO≠i2
 j:i1≠i2
theorem S0(n:Nat):Mz (n+4) (n+2) (n+3) n (n+1) where
 a:=(by omega:(n+2:Nat)≠n+4)
 b:=(by omega:(n+3:Nat)≠n+4)
 c:=(by omega:(n:Nat)≠n+4)
 d:=(by omega:(n+1:Nat)≠n+4)
 e:=(by omega:(n+2:Nat)≠n+3)
 f:=(by omega:(n+2:Nat)≠n)
 g:=(by omega:(n+2:Nat)≠n+1)
 h:=(by omega:(n+3:Nat)≠n)
 i:=(by omega:(n+3:Nat)≠n+1)
 j:=(by omega:(n:Nat)≠n+1)
def zTn(z TI TO i1 i2 l1 l2:Addr)(i:Nat)(h:Heap):Prop:=IsZip h z TI TO .none/\IsPair h TI (.ref i1) (.ref i2)/\(∃a b,IsPair h TO a b)/\h.IsListIter i1 l1 i/\h.IsListIter i2 l2 i
variable{elts:List Expr}
theorem MA{P:aE}{w:az}{K:au}{x1}{z TI TO i1 i2 l1 l2:Addr}(D:Mz z TI TO i1 i2):Turn P w K (.Tuple elts x1 pos) (Itz l1 l2) [z,TI,TO,i1,i2] z (zTn z TI TO i1 i2 l1 l2) where
 mem:=by simp
 obj:=λi h st b hb=>by
  obtain⟨hz,h1,⟨a,c,h2⟩,⟨o3,h3,_,d3⟩,⟨o4,h4,_,d4⟩⟩:=st;simp only[aN,bN,or_false]at hb;rcases hb with rfl|rfl|rfl|rfl|rfl
  ·exact⟨_,hz,λv y=>nomatch y⟩
  ·exact⟨_,h1,λv y=>nomatch y⟩
  ·exact⟨_,h2,λv y=>nomatch y⟩
  ·exact⟨o3,h3,λv y=>by rw[d3]at y;cases y⟩
  ·exact⟨o4,h4,λv y=>by rw[d4]at y;cases y⟩
 keep:=λi h h' st k=>by obtain⟨hz,h1,⟨a,c,h2⟩,h3,h4⟩:=st;exact⟨k z (by simp) _ hz,k TI (by simp) _ h1,⟨a,c,k TO (by simp) _ h2⟩,h3.at λo e=>k i1 (by simp) o e,h4.at λo e=>k i2 (by simp) o e⟩
 item:=by
  intro X hP hw hK hc i pins s σ H E I hf st hg;subst hP hw hK;obtain⟨xs,ys,x,y,q1,q2,qx,qy⟩:=hg;obtain⟨hz,hTI,⟨a,b,hTO⟩,h1,h2⟩:=st;obtain⟨its,r1,p1,_⟩:=I.list (SqL.of q1);obtain⟨jts,r2,p2,_⟩:=I.list (SqL.of q2);obtain⟨u1,hu1,ru1⟩:=r1.get qx;obtain⟨u2,hu2,ru2⟩:=r2.get qy;have nf:∀{l:Addr} {u:HO} {c:Addr},H l=some u->c∈[z,TI,TO,i1,i2]->l≠c:=λe hm w=>by subst w;have:=(hf _ hm).1;rw[e]at this;cases this
  have DD:ZipApart z TI TO i1 i2 l1 l2:=⟨D.a,D.b,D.c,D.d,D.e,D.f,D.g,D.h,D.i,D.j,nf q1 (by simp),nf q1 (by simp),nf q1 (by simp),nf q1 (by simp),nf q2 (by simp),nf q2 (by simp),nf q2 (by simp),nf q2 (by simp)⟩;refine wpAny_pyNext_zip_item DD hz hTI hTO h1 h2 p1.isList p2.isList (x:=u1) (y:=u2) (by simpa using hu1) (by simpa using hu2) λh' a1 a2 a3 a4 a5 a6 kk=>?_;refine⟨_,rfl,wpAny_letOwnedTupleGo_zip (s:={ s with heap:=h' }) a1 λh2' hz' sb=>?_⟩;have lt:∀{c:Addr} {o:Obj},s.heap.get? c=some o->s.heap.objs.size≠c:=λe w=>aq (aO e) (by rw[w];exact df _);have Tz:s.heap.objs.size≠z:=lt hz;have hp:IsPair h2' s.heap.objs.size u1 u2:=sb.extBut _ _ Tz a5;have ch4:∀b∈[z,TO,i1,i2],b∈[z,TI,TO,i1,i2]:=λb hb=>by simp at hb ⊢;rcases hb with rfl|rfl|rfl|rfl<;>simp
  have ok:pL X.prog X.w (upd H s.heap.objs.size (.tup [x,y])) h2' s.heap.objs.size (.tup [x,y]):=⟨by rw[bK];show 2<=16777216;decide,[u1,u2],.cons ru1 (.cons ru2 .nil),_,hp,rfl,_,rfl⟩;have I1:=Inv.turnedLaid (h':=h2') (t':=s.toks) (T:=s.heap.objs.size) (xs:=[x,y]) (ch:=[z,TO,i1,i2]) I (λb hb=>hf b (ch4 b hb))
   (λb o hb e=>sb.extBut _ _ (λw=>hb (by simp[w])) (kk b o (λw=>hb (by simp[w])) (λw=>hb (by simp[w])) (λw=>hb (by simp[w])) (λw=>hb (by simp[w])) e)) (aI _) ok
  refine⟨.ref s.heap.objs.size,_,I1,rfl,⟨_,x,y,I.hok.fresh (aI _),rfl,rfl,λxs' e=>?_,λys' e=>?_⟩,⟨hz',sb.extBut _ _ D.a (kk _ _ D.a D.e D.f D.g hTI),⟨_,_,sb.extBut _ _ D.b a2⟩,a3.extBut sb.extBut D.c,a4.extBut sb.extBut D.d⟩,λb hb=>?_⟩
  ·rw[q1]at e;cases e;exact qx
  ·rw[q2]at e;cases e;exact qy
  ·rw[oB (λw=>?_)]
   ·exact(hf b hb).1
   ·simp only[aN,bN,or_false]at hb;rcases hb with hb|hb|hb|hb|hb
    ·exact lt hz (w.symm.trans hb)
    ·exact lt hTI (w.symm.trans hb)
    ·exact lt hTO (w.symm.trans hb)
    ·obtain⟨o,e,_⟩:=h1;exact lt e (w.symm.trans hb)
    ·obtain⟨o,e,_⟩:=h2;exact lt e (w.symm.trans hb)
 done:=by
  intro X hP hw hK hc i pins s σ H E I hf st hg;subst hP hw hK;obtain⟨xs,ys,q1,q2,hend⟩:=hg;obtain⟨hz,hTI,⟨a,b,hTO⟩,h1,h2⟩:=st;obtain⟨its,r1,p1,_⟩:=I.list (SqL.of q1);obtain⟨jts,r2,p2,_⟩:=I.list (SqL.of q2);have nf:∀{l:Addr} {u:HO} {c:Addr},H l=some u->c∈[z,TI,TO,i1,i2]->l≠c:=λe hm w=>by subst w;have:=(hf _ hm).1;rw[e]at this;cases this
  have DD:ZipApart z TI TO i1 i2 l1 l2:=⟨D.a,D.b,D.c,D.d,D.e,D.f,D.g,D.h,D.i,D.j,nf q1 (by simp),nf q1 (by simp),nf q1 (by simp),nf q1 (by simp),nf q2 (by simp),nf q2 (by simp),nf q2 (by simp),nf q2 (by simp)⟩;have e1:=r1.length;have e2:=r2.length;refine wpAny_pyNext_zip_end (I.ok.hd hc) DD hz hTI hTO h1 h2 p1.isList p2.isList ?_ λh' kk=>⟨rfl,?_⟩
  ·rcases hend with w|w
   ·exact .inl (by simp;omega)
   ·exact .inr (by simp;omega)
  ·have ch4:∀b∈[z,TO,i1,i2],b∈[z,TI,TO,i1,i2]:=λb hb=>by simp at hb ⊢;rcases hb with rfl|rfl|rfl|rfl<;>simp
   have nch:∀{b:Addr} {u:HO},H b=some u->b∉[z,TO,i1,i2]:=λe w=>by have:=(hf _ (ch4 _ w)).1;rw[e]at this;cases this
   have k:∀b o,b∉[z,TO,i1,i2]->s.heap.get? b=some o->h'.get? b=some o:=λb o hb e=>kk b o (λw=>hb (by simp[w])) (λw=>hb (by simp[w])) (λw=>hb (by simp[w])) (λw=>hb (by simp[w])) e;refine I.step (g':=s.gens) (d':=s.drawn) (t':=s.toks) (ch:=[z,TO,i1,i2]) (λb hb=>?_) (λb o _ _ hc e _=>k b o hc e) (λb o _ _ hc e _=>⟨o.slots,k b o hc e⟩) (λb o _ e n=>n) (λb o hc e=>⟨o,k b o hc e⟩)
    (λb ys e=>e) (λb o u e=>e) (λb ps e=>⟨#[],by rw[e];simp⟩) (λm hm=>?_) (λb u e=>?_) I.bare
   ·obtain⟨f0,f1,f2,f3,f4,f5⟩:=hf b (ch4 b hb);exact⟨f3,f1,f4,f5⟩
   ·exact hm.at' λo e=>k _ o (λw=>(hf _ (ch4 _ w)).2.1 rfl) e
   ·refine(I.hok b u e).stay (λc v hc q=>k c v ?_ q) (λc q=>q) λc ys q=>q;rcases hc with rfl|hc
    ·exact nch e
    ·exact nch hc
 self:=λ_ _ _ _ _ st h=>wpAny_pyIter_zip st.1 h
section
variable{X:Cx}{G:Bg}{elts:List Expr}{x1:Nat}{tpos:Pos}
def Wx(ta:TA):TI:=λσ H R=>ta σ H λvs H1=>∃a b xs ys,vs=[.ref a,.ref b]/\H1 a=some (.lst xs)/\H1 b=some (.lst ys)/\R (Itz a b) H1
theorem S4{a:Expr}{ta:TA}{p:Pos}(hg:Gl X "zip")(hm:X.mg "zip" = none)(ha:PA X [a,b] ta)(hs:starEach [a,b] X.env=[(false,eval a X.env),(false,eval b X.env)]:=by rfl)(hs2:starEach [b] X.env=[(false,eval b X.env)]:=by rfl):
  PI X (.Tuple elts x1 tpos) (.Call (.Name "zip" p) [a,b] [] pos) (Wx ta):=by
 intro pins s σ H R I h;refine Call_ (yw I hg hm boot_zip (callWith_type1 (thn (ha pos pins s σ H _ I h) λus s1 ⟨vs,H1,I1,r1,q1⟩=>?_) (by rw[hs,hs2]) (by rw[hs2];rfl)));obtain⟨a',b',xs,ys,rfl,e1,e2,q⟩:=q1;obtain⟨u,v,rfl,ru,rv⟩:=vals2 r1;cases ru;cases rv;obtain⟨its,_,p1,_⟩:=I1.list (SqL.of e1);obtain⟨jts,_,p2,_⟩:=I1.list (SqL.of e2);refine call_zip_2 p1.isList p2.isList λh' z1 z2 z3 z4 z5 z6 kk=>?_;refine wpAny_pyIter_zip z1 ?_;have I2:Inv X pins σ H1 { s1 with heap:=h' }:=I1.kept (t':=s1.toks) kk;have D:=S0 s1.heap.objs.size;refine⟨_,_,_,_,H1,rfl,I2,MA D,⟨z1,z2,⟨_,_,z3⟩,z4,z5⟩,λc hc=>?_,q⟩;have hc':s1.heap.objs.size<=c:=by simp only[aN,bN,or_false]at hc;rcases hc with rfl|rfl|rfl|rfl|rfl<;>first|exact f7 _ _|exact aI _
 exact I1.fpOk hc' (I1.hok.fresh hc')
def zf(ds es:aA):aA:=cY (λd e=>D.tup [d,e]) ds es
def iZ(f:FA):FA:=λρ=>match f ρ with
 |some ([.lst ds,.lst es],ρ1)=>some (zf ds es,ρ1)
 |_=>none
theorem F5(ds es:aA):(zf ds es).length=min ds.length es.length:=by unfold zf;rw[ju]
theorem PB{f:FA}(h:PI X tg e (Wx (tFA G f))):PI X tg e (tFI G (iZ f)):=PI.weak h λσ H R hh=>by
 obtain⟨F,ρ,H0,ds,ρ',R,e,k⟩:=hh;unfold iZ at e;split at e
 ·rename_i ds' es' ρ1 e1;cases e;refine⟨F,ρ,H0,_,_,R,e1,λvs H1 H1' s R' rs=>?_⟩;unfold oq at rs;obtain⟨v1,r1,rfl,h1,rs⟩:=rs;unfold oq at rs;obtain⟨v2,r2,rfl,h2,rs⟩:=rs;unfold oq at rs;subst rs;unfold Rep at h1 h2;obtain⟨a,xs,rfl,a1,a2⟩:=h1;obtain⟨b,ys,rfl,b1,b2⟩:=h2;refine⟨a,b,xs,ys,rfl,R'.sub _ _ a1,R'.sub _ _ b1,k _ _ _ s R' λi H2 H2' t t'=>?_⟩;have g1:H2' a=some (.lst xs):=t' _ _ (t _ _ a1);have g2:H2' b=some (.lst ys):=t' _ _ (t _ _ b1);refine⟨λd ed=>?_,λhl=>⟨xs,ys,g1,g2,?_⟩⟩
  ·unfold zf at ed;rw[jm]at ed;cases ex:ds'[i]? with
   |none=>rw[ex]at ed;cases ed
   |some dx=>
    cases ey:es'[i]? with
    |none=>rw[ex,ey]at ed;cases ed
    |some dy=>
     rw[ex,ey]at ed;cases ed;obtain⟨vx,x1',x2⟩:=qe a2 ex;obtain⟨vy,y1',y2⟩:=qe b2 ey;refine⟨⟨xs,ys,vx,vy,g1,g2,x1',y1'⟩,λx H3 y=>?_⟩;obtain⟨p,x',y',hp,rfl,rfl,w1,w2⟩:=y;have e1':=w1 xs g1;have e2':=w2 ys g2;rw[x1']at e1';rw[y1']at e2';cases e1';cases e2';have p0:H2 p=none:=by
      cases q:H2 p with
      |none=>rfl
      |some o=>have:=t' _ _ q;rw[hp]at this;cases this
     refine⟨upd H2 p (.tup [vx,vy]),oH p0 _,λb o e=>?_,oH hp _,λb o e=>?_,vJ (SqT.of oA) ?_⟩
     ·by_cases hb:b=p
      ·subst hb;rw[oA]at e ⊢;exact e
      ·rw[oB hb]at e ⊢;exact t' _ _ e
     ·by_cases hb:b=p
      ·subst hb;exact .inr hp
      ·rw[oB hb]at e;exact .inl e
     ·have m:=t.trans (oH p0 (.tup [vx,vy]));exact o7 (Rep.mono m _ _ x2) (o7 (Rep.mono m _ _ y2) o8)
  ·rw[F5]at hl;rw[<-ou a2,<- ou b2];omega
 ·cases e
end
mutual
def noC(N c:Nat):D->Bool
 |.non=>true
 |.bl _=>true
 |.int _=>true
 |.str _=>true
 |.tup ds=>F6 N c ds
 |.lst ds=>F6 N c ds
 |.fzl ds=>F6 N c ds
 |.obj k _ ds=>decide (k<N)&&decide (k≠c)&&F6 N c ds
 |.dic _ ds=>F6 N c ds
def F6(N c:Nat):aA->Bool
 |[]=>true
 |d::ds=>noC N c d&&F6 N c ds
end
def without(H:Hp)(a:Addr):Hp:=λb=>if b=a then none else H b
theorem B9{H:Hp}{b:Addr}(h:b≠a):without H a b=H b:=by unfold without;rw[aj h]
theorem zg{H:Hp}{b:Addr}{o:HO}(h:without H a b=some o):b≠a/\H b=some o:=by
 unfold without at h;by_cases hb:b=a
 ·rw[ai hb]at h;cases h
 ·rw[aj hb]at h;exact⟨hb,h⟩
theorem rN{H:Hp}{b:Addr}{u v:HO}(ha:H a=some u)(hb:H b=some v)(d:u≠v):without H a b=some v:=by rw[B9 (λz=>by subst z;rw[ha]at hb;exact d (cc hb))];exact hb
variable{p:Addr}
section
variable{G:Bg}{H:Hp}{a dx:Addr}{fs:List (Str×V)}{N c:Nat}
theorem F7(ha:H a=some (.ins (G.ca c) dx fs))(h:SqT G.K H p xs):SqT G.K (without H a) p xs:=by
 rcases h with (h|⟨o,h⟩)|h
 ·exact .inl (.inl (rN ha h (λz=>nomatch z)))
 ·exact .inl (.inr ⟨o,rN ha h (λz=>nomatch z)⟩)
 ·exact .inr h
theorem F8(ha:H a=some (.ins (G.ca c) dx fs))(h:SqL G.K H p xs):SqL G.K (without H a) p xs:=by
 rcases h with (h|⟨o,h⟩)|h
 ·exact .inl (.inl (rN ha h (λz=>nomatch z)))
 ·exact .inl (.inr ⟨o,rN ha h (λz=>nomatch z)⟩)
 ·exact .inr h
mutual
theorem AC(inj:∀j k,j<N->k<N->G.ca j=G.ca k->j=k)(hc:c<N)(ha:H a=some (.ins (G.ca c) dx fs)):∀(d:D) (v:V),noC N c d=true->Rep G H d v->Rep G (without H a) d v
 |.non,v,_,h=>by unfold Rep at h ⊢;exact h
 |.bl _,v,_,h=>by unfold Rep at h ⊢;exact h
 |.int _,v,_,h=>by unfold Rep at h ⊢;exact h
 |.str _,v,_,h=>by unfold Rep at h ⊢;exact h
 |.tup ds,v,n,h=>by unfold noC at n;unfold Rep at h ⊢;obtain⟨p,xs,e,h1,h2⟩:=h;exact⟨p,xs,e,F7 ha h1,rl inj hc ha ds xs n h2⟩
 |.lst ds,v,n,h=>by unfold noC at n;unfold Rep at h ⊢;obtain⟨p,xs,e,h1,h2⟩:=h;exact⟨p,xs,e,rN ha h1 (λz=>nomatch z),rl inj hc ha ds xs n h2⟩
 |.fzl ds,v,n,h=>by unfold noC at n;unfold Rep at h ⊢;obtain⟨p,xs,e,h1,h2⟩:=h;exact⟨p,xs,e,F8 ha h1,rl inj hc ha ds xs n h2⟩
 |.obj k ns ds,v,n,h=>by unfold noC at n;simp only[bf,bB]at n;unfold Rep at h ⊢;obtain⟨p,dx',xs,e,h1,h2,h3⟩:=h;refine⟨p,dx',xs,e,rN ha h1 (λz=>?_),h2,rl inj hc ha ds xs n.2 h3⟩;injection z with z1;exact n.1.2 (inj k c n.1.1 hc z1.symm)
 |.dic ks ds,v,n,h=>by unfold noC at n;unfold Rep at h ⊢;obtain⟨p,o,xs,e,h1,h2,h3⟩:=h;exact⟨p,o,xs,e,rN ha h1 (λz=>nomatch z),h2,rl inj hc ha ds xs n h3⟩
theorem rl(inj:∀j k,j<N->k<N->G.ca j=G.ca k->j=k)(hc:c<N)(ha:H a=some (.ins (G.ca c) dx fs)):∀(ds:aA) (xs:bt),F6 N c ds=true->oq G H ds xs->oq G (without H a) ds xs
 |[],xs,_,h=>by unfold oq at h ⊢;exact h
 |d::ds,xs,n,h=>by unfold F6 at n;simp only[bf]at n;unfold oq at h ⊢;obtain⟨v,r,e,h1,h2⟩:=h;exact⟨v,r,e,AC inj hc ha d v n.1 h1,rl inj hc ha ds r n.2 h2⟩
end
end
def yH:Sl->Sl
 |.im d=>.im d
 |_=>.un
def uE(N:Nat)(f:FE):FE:=λρ=>match ρ with
 |.ob c ns ds::r=>match f (.im (.obj c ns ds)::r.map yH)with
  |some (d,_)=>if (decide (c<N)&&noC N c d)=true then some (d,ρ)else none
  |none=>none
 |_=>none
section
variable{X:Cx}{G:Bg}
theorem HH{s:Sl}:(yH s).own=false:=by cases s<;>rfl
theorem PD{N:Nat}(inj:∀j k,j<N->k<N->G.ca j=G.ca k->j=k)(h:PE X e (tF G f)):PE X e (tF G (uE N f)):=PE.weak h λσ H Q hh=>by
 obtain⟨F,ρ,H0,d,ρ',R,e,k⟩:=hh;unfold uE at e;split at e
 ·rename_i c ns ds r;rcases oZ (f:=f) (ρ:=.im (.obj c ns ds)::r.map yH)with e1|⟨x,ρ1,e1⟩<;>simp only[e1]at e
  ·cases e
  split at e
  ·rename_i hn;cases e;simp only[bf,bB]at hn;obtain⟨a,dx,xs,h1,h2,h3,h4,h5,h6⟩:=R.sl 0 _ rfl;have RL:oN G ⟨upd H0 a (.ins (G.ca c) dx (ns.zip xs)),H,[]⟩ σ (.im (.obj c ns ds)::r.map yH) (upd H0 a (.ins (G.ca c) dx (ns.zip xs))) H:={
    sub:=λb o q=>by
     by_cases hb:b=a
     ·subst hb;rw[oA]at q;cases q;exact h2
     ·rw[oB hb]at q;exact R.sub _ _ q
    g0:=oE.refl _
    keep:=λb o q _=>q
    fr:=λb o q=>.inl q
    am:=λb q=>by cases q
    len:=by have:=R.len;simpa using this
    sl:=λi s q=>by
     cases i with
     |zero=>cases q;exact⟨.ref a,h1,by unfold Rep;exact⟨a,dx,xs,rfl,oA,h5,oq.mono (oH h3 _) _ _ h6⟩⟩
     |succ i=>
      have q':(r.map yH)[i]?=some s:=q;rw[bu]at q';cases q1:r[i]? with
      |none=>rw[q1]at q';cases q'
      |some t=>
       rw[q1]at q';cases q';have ok:=R.sl (i+1) t q1;cases t with
       |im d=>obtain⟨v,g1,g2⟩:=ok;exact⟨v,g1,Rep.mono (oH h3 _) _ _ g2⟩
       |_=>trivial
    ap:=λi j s t b _ qi _ so=>by
     cases i with
     |zero=>cases qi;cases so
     |succ i=>
      have q':(r.map yH)[i]?=some s:=qi;rw[bu]at q';cases q1:r[i]? with
      |none=>rw[q1]at q';cases q'
      |some t=>rw[q1]at q';cases q';rw[HH]at so;cases so }
   refine⟨_,_,_,d,ρ1,RL,e1,λv H1 H1' s R' rd=>?_⟩;have ha:H1 a=some (.ins (G.ca c) dx (ns.zip xs)):=s _ _ oA;have s0:oE H0 (without H1 a):=λb o q=>by
    have hb:b≠a:=λz=>by subst z;rw[h3]at q;cases q
    rw[B9 hb];exact s b o (by rw[oB hb];exact q)
   refine k v (without H1 a) H1' s0 ?_ (AC inj hn.1 ha d v hn.2 rd);refine R.grow (λb o q=>R'.keep b o q (by simp)) s0 (λb o q=>R'.sub _ _ (zg q).2) λb o q=>?_;obtain⟨hb,q⟩:=zg q;rcases R'.fr b o q with z|z
   ·have z':upd H0 a (.ins (G.ca c) dx (ns.zip xs)) b=some o:=z;rw[oB hb]at z';exact .inl z'
   ·exact .inr z
  ·cases e
 ·cases e
end
section
variable{X:Cx}{pins:cn}{σ:St}{H:Hp}{s:af}{a:Addr}{A:aH}{E:aa->af->Prop}
theorem S5{k:Key}{z:V}{u r:aa}{Q:aa->af->Prop}(I:Inv X pins σ H s)(e:H a=some (.dK kvs))(ry:RelV (kV k) u)(rz:RelV z r)(hl:kvs.length<sizeLine)
  (h1:∀v w s',rX kvs k=some v->Inv X pins σ H s'->RelV v w->Q w s') (h2:∀s',rX kvs k=none->Inv X pins σ (upd H a (.dK (putK kvs k z))) s'->Q r s'):
  wpAny (model X.prog X.w) A (call (.builtin "dict.setdefault") [.ref a,u,r]) Q E s:=by
 obtain⟨y,hd,vs,rel,dd⟩:=Ls I.hok e;have hz:vs.length<=sizeLine:=by rw[<-rel.length];exact y
 have hp:(putK kvs k z).length<=sizeLine:=by have:=uB kvs k z;omega
 have rv:=rel.val k;refine fE lH dd.typeIs F.entry_dict_setdefault (F.args_dict_setdefault_3 _ _ _) (kt_meets_setdefault (oT X.prog X.w) a (yb ry) hd r) ⟨vs,dd,hz,λw hw=>?_,λhn h' dd' hs=>?_⟩
 ·rw[hw]at rv;cases ev:rX kvs k with
  |none=>rw[ev]at rv;exact rv.elim
  |some v=>rw[ev]at rv;exact h1 v w _ ev (I.tok _) rv
 ·rw[hn]at rv;cases ev:rX kvs k with
  |some v=>rw[ev]at rv;exact rv.elim
  |none=>have he:∃q,h'.get? a=some q:=let ⟨q,_,_,hq,_⟩:=dd';⟨q,hq⟩;exact h2 _ ev (Bp I (by rw[e];exact True.intro) hs he (Hg hp hd (rel.put k rz) dd'))
def MB(td ty tx:TE):TE:=λσ H Q=>td σ H λx H1=>∃a,x=.ref a/\IsD H1 a/\ty σ H1 λy H2=>tx σ H2 λz H3=>∃kvs k,H3 a=some (.dK kvs)/\y=kV k/\kvs.length<sizeLine/\
 (∀v,rX kvs k=some v->Q v H3)/\(rX kvs k=none->Q z (upd H3 a (.dK (putK kvs k z))))
theorem MC{o f:Expr}{td ty tx:TE}(ho:PE X o td)(he:PE X e ty)(hf:PE X f tx)(m:M2 X o "setdefault" apos e f cpos):PE X (.Call (.Attribute o "setdefault" apos) [e,f] [] cpos) (MB td ty tx):=by
 intro pins s σ H Q I h;refine jD m.base m.few m.line ie lH F.type_dict_setdefault (thn (ho pins s σ H _ I h) λu s1 ⟨x,H1,I1,rx,a,ex,d,q1⟩=>?_);subst ex;obtain rfl:u=Value.ref a:=rx;obtain⟨t1,t2,_⟩:=EG I1 d;refine⟨t1,t2,?_⟩;rw[m.trees];refine fQ rfl (hX (eC (thn (he pins s1 σ H1 _ I1 q1) λiv s2 ⟨y,H2,I2,ry,q2⟩=>
  eC (thn (hf pins s2 σ H2 _ I2 q2) λfv s3 ⟨z,H3,I3,rz,kvs,k,e3,ey,hl,g1,g2⟩=>fX ?_))))
 subst ey;exact S5 I3 e3 ry rz hl (λv w s' ev I' rw'=>⟨v,H3,I',rw',g1 v ev⟩) λs' ev I'=>⟨z,_,I',rz,g2 ev⟩
end
def Dn(ks:List Key)(dss:List aA)(k:Key)(d:D):List Key×List aA:=
 if B5 ks k=true then (ks,cY (λk' ds=>if k'=k then ds++[d]else ds) ks dss)else (ks++[k],dss++[[d]])
theorem F9{k:Key}:B5 ks k=true ↔ k∈ks:=by unfold B5;rw[fo];exact⟨λ⟨x,h1,h2⟩=>bj h2▸h1,λh=>⟨k,h,bg rfl⟩⟩
variable{vs:bt}
theorem ME{k:Key}{v:V}:ks.length=vs.length->rX (ks.zip vs) k=some v->∃j:Nat,ks[j]?=some k/\vs[j]?=some v:=by
 induction ks generalizing vs with
 |nil=>intro _ h;cases h
 |cons k0 ks ih=>
  intro hl h;cases vs with
  |nil=>cases hl
  |cons v0 vs=>
   unfold rX at h;rw[c8,dE]at h;by_cases e:k0=k
   ·subst e;simp only[decide_true]at h;cases h;exact⟨0,rfl,rfl⟩
   ·simp only[e,decide_false]at h;obtain⟨j,h1,h2⟩:=ih (by simpa using hl) h;exact⟨j+1,h1,h2⟩
theorem MF{k:Key}:ks.length=vs.length->rX (ks.zip vs) k=none->k∉ks:=by
 induction ks generalizing vs with
 |nil=>intro _ _ h;cases h
 |cons k0 ks ih=>
  intro hl h hm;cases vs with
  |nil=>cases hl
  |cons v0 vs=>
   unfold rX at h;rw[c8,dE]at h;by_cases e:k0=k
   ·subst e;simp only[decide_true]at h;cases h
   ·simp only[e,decide_false]at h;rcases aN.mp hm with z|z
    ·exact e z.symm
    ·exact ih (by simpa using hl) h z
structure Grp(G:Bg)(F:Fr)(H0 H:Hp)(a:Addr)(ks:List Key)(dss:List aA)(bs:List Addr):Prop where
 at_:H a=some (.dK (ks.zip (bs.map V.ref)))
 n0:H0 a=none
 nB:F.B a=none
 len:ks.length=bs.length
 len':bs.length=dss.length
 nd:bs.Nodup
 kd:ks.Nodup
 each:∀(i:Nat) (b:Addr) (ds:aA),bs[i]?=some b->dss[i]?=some ds->∃xs,H b=some (.lst xs)/\H0 b=none/\F.B b=none/\oq G H0 ds xs
section
variable{G:Bg}{F:Fr}{σ:St}{ρ:aW}{H0 H H0' H':Hp}{a:Addr}{ks:List Key}{dss:List aA}{bs:List Addr}
theorem Grp.grow(g:Grp G F H0 H a ks dss bs)(hs:oE H H')(h0:oE H0 H0')(hf:∀b o,H0' b=some o->H0 b=some o\/H b=none):Grp G F H0' H' a ks dss bs where
 at_:=hs _ _ g.at_
 n0:=by
  cases q:H0' a with
  |none=>rfl
  |some o=>
   rcases hf a o q with z|z
   ·rw[g.n0]at z;cases z
   ·rw[g.at_]at z;cases z
 nB:=g.nB
 len:=g.len
 len':=g.len'
 nd:=g.nd
 kd:=g.kd
 each:=λi b ds e1 e2=>by
  obtain⟨xs,q1,q2,q3,q4⟩:=g.each i b ds e1 e2;refine⟨xs,hs _ _ q1,?_,q3,oq.mono h0 _ _ q4⟩;cases q:H0' b with
  |none=>rfl
  |some o=>
   rcases hf b o q with z|z
   ·rw[q2]at z;cases z
   ·rw[q1]at z;cases z
theorem oN.still(R:oN G F σ ρ H0 H)(no:∀s∈ρ,s.own=false):oN G ⟨H0,H,[]⟩ σ ρ H0 H where
 sub:=R.sub
 g0:=oE.refl _
 keep:=λb o e _=>e
 fr:=λb o e=>.inl e
 am:=λa h=>by cases h
 len:=R.len
 sl:=λi s e=>by
  have ok:=R.sl i s e;have n:=no s (cB e);cases s with
  |un=>trivial
  |im d=>exact ok
  |_=>cases n
 ap:=λi j s t b _ e _ so=>by rw[no s (cB e)]at so;cases so
theorem oN.touch(R:oN G F σ ρ H0 H)(no:∀s∈ρ,s.own=false)(hk:∀b o,H b=some o->(H0 b≠none\/F.B b≠none)->H' b=some o)(ha:∀b o,H b=some o->∃o',H' b=some o'):oN G F σ ρ H0 H' where
 sub:=λb o e=>hk b o (R.sub _ _ e) (.inl (by rw[e];exact λz=>nomatch z))
 g0:=R.g0
 keep:=λb o e n=>hk b o (R.keep b o e n) (.inr (by rw[e];exact λz=>nomatch z))
 fr:=R.fr
 am:=λb hb=>by obtain⟨o,e⟩:=R.am b hb;exact ha b o e
 len:=R.len
 sl:=λi s e=>by
  have ok:=R.sl i s e;have n:=no s (cB e);cases s with
  |un=>trivial
  |im d=>exact ok
  |_=>cases n
 ap:=λi j s t b _ e _ so=>by rw[no s (cB e)]at so;cases so
theorem S6{bs:List Addr}(h:bs.Nodup){b:Addr}(e1:bs[i]?=some b)(e2:bs[j]?=some b):i=j:=by obtain⟨h1,q1⟩:=bQ.mp e1;obtain⟨h2,q2⟩:=bQ.mp e2;exact(jE h).mp (q1.trans q2.symm)
theorem S7{ks:List Key}(h:ks.Nodup){b:Key}(e1:ks[i]?=some b)(e2:ks[j]?=some b):i=j:=by obtain⟨h1,q1⟩:=bQ.mp e1;obtain⟨h2,q2⟩:=bQ.mp e2;exact(jE h).mp (q1.trans q2.symm)
theorem Grp.more(g:Grp G F H0 H a ks dss bs){k:Key}{b:Addr}{v:V}(ek:ks[j]?=some k)(eb:bs[j]?=some b)(hx:H b=some (.lst xs))(rd:Rep G H0 d v):
  Grp G F H0 (upd H b (.lst (xs++[v]))) a (Dn ks dss k d).1 (Dn ks dss k d).2 bs:=by
 have hm:B5 ks k=true:=F9.mpr (cB ek);unfold Dn;rw[ai hm];have ne:a≠b:=λz=>by subst z;rw[g.at_]at hx;cases hx
 refine⟨by rw[oB ne];exact g.at_,g.n0,g.nB,g.len,?_,g.nd,g.kd,λi c ds e1 e2=>?_⟩
 ·rw[ju,<- g.len',<- g.len,dM,g.len]
 ·rw[jm]at e2;cases q1:ks[i]? with
  |none=>rw[q1]at e2;cases e2
  |some k'=>
   cases q2:dss[i]? with
   |none=>rw[q1,q2]at e2;cases e2
   |some ds'=>
    rw[q1,q2]at e2;cases e2;obtain⟨ys,w1,w2,w3,w4⟩:=g.each i c ds' e1 q2;by_cases hk:k'=k
    ·subst hk;have ij:=S7 g.kd q1 ek;subst ij;rw[e1]at eb;cases eb;rw[w1]at hx;cases hx;rw[ai rfl];exact⟨_,oA,w2,w3,qE w4 (o7 rd o8)⟩
    ·rw[aj hk];have nc:c≠b:=λz=>by subst z;have ij:=S6 g.nd e1 eb;subst ij;rw[q1]at ek;cases ek;exact hk rfl
     exact⟨ys,by rw[oB nc];exact w1,w2,w3,w4⟩
theorem Grp.fresh(g:Grp G F H0 H a ks dss bs){k:Key}{v:V}(hk:k∉ks)(hp:H p=none)(h0:H0 p=none)(hB:F.B p=none)(rd:Rep G H0 d v):
  Grp G F H0 (upd (upd (upd H p (.lst [])) a (.dK ((ks++[k]).zip ((bs++[p]).map V.ref)))) p (.lst [v])) a (Dn ks dss k d).1 (Dn ks dss k d).2 (bs++[p]):=by
 have hm:¬B5 ks k=true:=λz=>hk (F9.mp z);unfold Dn;rw[aj hm];have ne:a≠p:=λz=>by subst z;rw[g.at_]at hp;cases hp
 have np:p∉bs:=λz=>by
  obtain⟨i,hi,e⟩:=jv z;have e1:bs[i]?=some p:=by rw[aP hi,e]
  obtain⟨ds,e2⟩:∃ds,dss[i]?=some ds:=⟨dss[i]'(by rw[<-g.len'];exact hi),aP _⟩;obtain⟨ys,w1,_⟩:=g.each i p ds e1 e2;rw[hp]at w1;cases w1
 refine⟨by rw[oB ne,oA],g.n0,g.nB,by simp[g.len],by simp[g.len'],?_,?_,λi c ds e1 e2=>?_⟩
 ·rw[bV];refine⟨g.nd,by simp,λx hx y hy=>?_⟩;rw[aR]at hy;subst hy;exact λz=>np (z▸hx)
 ·rw[bV];refine⟨g.kd,by simp,λx hx y hy=>?_⟩;rw[aR]at hy;subst hy;exact λz=>hk (z▸hx)
 ·by_cases hi:i<bs.length
  ·rw[cJ hi]at e1;rw[cJ (by rw[<-g.len'];exact hi)]at e2;obtain⟨ys,w1,w2,w3,w4⟩:=g.each i c ds e1 e2;have nc:c≠p:=λz=>np (z▸cB e1);have na:c≠a:=λz=>by subst z;rw[g.at_]at w1;cases w1
   exact⟨ys,by rw[oB nc,oB na,oB nc];exact w1,w2,w3,w4⟩
  ·have hi':i=bs.length:=by have:i<(bs++[p]).length:=(bQ.mp e1).1;rw[aD,aZ]at this;omega
   subst hi';rw[cA (aI _),iF]at e1;rw[g.len',cA (aI _),iF]at e2;cases e1;cases e2;exact⟨[v],oA,h0,hB,o7 rd o8⟩
def Ga(G:Bg)(fk:FE):TS:=QE (tBM G.K "list" EE (MB (uM 1) (tF G fk) (VR Ft)) (BC (uM 2) Ft))
theorem MG{D0:Ends}{x:D}{k:Key}{vr:V}(R:oN G F σ ρ H0 H)(no:∀s∈ρ,s.own=false)(h1:σ[1]?=some (some (.ref a)))(h2:σ[2]?=some (some vr))(rd:Rep G H0 d vr)
  (g:Grp G F H0 H a ks dss bs) (hk:fk ρ=some (x,ρ)) (ek:wY x=some k) (l1:ks.length<1000) (l2:∀ds∈dss,ds.length<1000)
  (kont:∀Hi Hj bs',oE H0 Hi->oN G F σ ρ Hi Hj->Grp G F Hi Hj a (Dn ks dss k d).1 (Dn ks dss k d).2 bs'->D0.nx σ Hj):Ga G fk D0 σ H:=by
 refine⟨.ref a,h1,a,rfl,.inl ⟨_,.inl g.at_⟩,_,_,_,x,ρ,oN.still R no,hk,λv H1 H1' s R1 r=>?_⟩;have hs:oE H H1':=λb o e=>R1.keep b o e (by simp);have hf:∀b o,H1 b=some o->H0 b=some o\/H b=none:=R1.fr;have R2:oN G F σ ρ H1 H1':=R.grow hs s R1.sub hf;have g2:Grp G F H1 H1' a ks dss bs:=g.grow hs s hf;have rd2:=Rep.mono s _ _ rd;refine⟨cf _,λp hp=>?_⟩;have np:a≠p:=λz=>by subst z;rw[g2.at_]at hp;cases hp
 have R3:oN G F σ ρ H1 (upd H1' p (.lst [])):=R2.newOwn hp _;have g3:Grp G F H1 (upd H1' p (.lst [])) a ks dss bs:=g2.grow (oH hp _) (oE.refl _) λb o e=>.inl e;have lz:(ks.zip (bs.map V.ref)).length<sizeLine:=by rw[eJ,ah,<- g.len,dM,bK];omega
 refine⟨_,k,g3.at_,vS r ek,lz,λw ev=>?_,λev=>?_⟩
 ·obtain⟨j,e1,e2⟩:=ME (by rw[ah];exact g.len) ev;rw[bu]at e2;cases eb:bs[j]? with
  |none=>rw[eb]at e2;cases e2
  |some b=>
   rw[eb]at e2;cases e2;obtain⟨ds,ed⟩:∃ds,dss[j]?=some ds:=⟨dss[j]'(by rw[<-g.len'];exact(bQ.mp eb).1),aP _⟩;obtain⟨xs,w1,w2,w3,w4⟩:=g3.each j b ds eb ed;have lx:xs.length<sizeLine:=by rw[<-ou w4,bK];have:=l2 ds (cB ed);omega
   refine⟨.inl ⟨rfl,xs,SqL.of w1⟩,vr,h2,b,xs,vr,rfl,rfl,w1,lx,?_⟩;refine kont H1 _ bs s (oN.touch R3 no (λc o e z=>?_) λc o e=>?_) (g3.more e1 eb w1 rd2)
   ·have nc:c≠b:=λy=>by
     subst y;rcases z with z|z
     ·exact z w2
     ·exact z w3
    rw[oB nc];exact e
   ·by_cases y:c=b
    ·subst y;exact⟨_,oA⟩
    ·rw[oB y];exact⟨o,e⟩
 ·have nk:=MF (by rw[ah];exact g.len) ev;have h0p:H1 p=none:=R2.h0none hp;have hBp:F.B p=none:=R2.bNone hp;have ez:putK (ks.zip (bs.map V.ref)) k (.ref p)=(ks++[k]).zip ((bs++[p]).map V.ref):=by rw[Lr _ ev,aX,mR (by rw[ah];exact g.len)];rfl
  rw[ez];have q0:upd (upd H1' p (.lst [])) a (.dK ((ks++[k]).zip ((bs++[p]).map V.ref))) p=some (.lst []):=by rw[oB (λz=>np z.symm),oA]
  refine⟨.inl ⟨rfl,[],SqL.of q0⟩,vr,h2,p,[],vr,rfl,rfl,q0,by rw[bK];decide,?_⟩;refine kont H1 _ (bs++[p]) s (oN.touch R3 no (λc o e z=>?_) λc o e=>?_) (g2.fresh nk hp h0p hBp rd2)
  ·have n1:c≠p:=λy=>by
    subst y;rcases z with z|z
    ·exact z h0p
    ·exact z hBp
   have n2:c≠a:=λy=>by
    subst y;rcases z with z|z
    ·exact z g2.n0
    ·exact z g2.nB
   rw[bH,oB n1,oB n2];exact e
  ·by_cases y:c=p
   ·subst y;exact⟨_,oA⟩
   ·rw[oB y];by_cases y2:c=a
    ·subst y2;exact⟨_,oA⟩
    ·rw[oB y2];exact⟨o,e⟩
end
def z7(vk:D->Option D):aA->List Key->List aA->Option (List Key×List aA)
 |[],ks,dss=>some (ks,dss)
 |d::r,ks,dss=>match vk d with
  |some x=>match wY x with
   |some k=>if (decide (ks.length<1000)&&dss.all λds=>decide (ds.length<1000))=true then z7 vk r (Dn ks dss k d).1 (Dn ks dss k d).2 else none
   |none=>none
  |none=>none
def HI(vk:D->Option D):FS:=λρ=>match ρ with
 |[.im (.lst L),.un,.un]=>match z7 vk L [] []with
  |some (ks,dss)=>some (.rt (.dic ks (dss.map .lst)) [.im (.lst L),.un,.un])
  |none=>none
 |_=>none
variable{F:Fr}{H0:Hp}
section
variable{X:Cx}{G:Bg}
theorem AD{Hq:Hp}:∀(bs:List Addr) (dss:List aA),bs.length=dss.length->(∀(i:Nat) (b:Addr) (ds:aA),bs[i]?=some b->dss[i]?=some ds->∃xs,Hq b=some (.lst xs)/\oq G Hq ds xs)->
  oq G Hq (dss.map .lst) (bs.map V.ref)
 |[],[],_,_=>o8
 |[],_::_,h,_=>by cases h
 |_::_,[],h,_=>by cases h
 |b::bs,ds::dss,h,k=>by obtain⟨xs,h1,h2⟩:=k 0 b ds rfl rfl;exact o7 (uC h1 h2) (AD bs dss (by simpa using h) λi b ds e1 e2=>k (i+1) b ds e1 e2)
theorem PF{σ:St}{H:Hp}{dss:List aA}{bs:List Addr}{L:aA}{s2:Sl}(R:oN G F σ [.im (.lst L),.un,s2] H0 H)(g:Grp G F H0 H a ks dss bs)(o:Obj):
  ∃Hq,oE H0 Hq/\oN G F σ [.im (.lst L),.un,.un] Hq (upd H a (.frz o (.dK (ks.zip (bs.map V.ref)))))/\Rep G Hq (.dic ks (dss.map .lst)) (.ref a):=by
 have mb:∀{b:Addr},b∈bs->∃xs,H b=some (.lst xs)/\H0 b=none/\F.B b=none:=λ{b} hb=>by obtain⟨i,hi,e⟩:=jv hb;obtain⟨xs,w1,w2,w3,_⟩:=g.each i b (dss[i]'(by rw[<-g.len'];exact hi)) (by rw[aP hi,e]) (aP _);exact⟨xs,w1,w2,w3⟩
 have na:a∉bs:=λz=>by obtain⟨xs,w1,_⟩:=mb z;rw[g.at_]at w1;cases w1
 have s0:oE H0 (λc=>if c=a then some (.frz o (.dK (ks.zip (bs.map V.ref))))else if c∈bs then H c else H0 c):=λc u e=>by
  have n1:c≠a:=λz=>by subst z;rw[g.n0]at e;cases e
  have n2:c∉bs:=λz=>by obtain⟨_,_,w2,_⟩:=mb z;rw[w2]at e;cases e
  show (if c=a then _ else if c∈bs then H c else H0 c)=_;rw[aj n1,aj n2];exact e
 refine⟨_,s0,?_,?_⟩
 ·exact {
   sub:=λc u e=>by
    have e':(if c=a then some (HO.frz o (.dK (ks.zip (bs.map V.ref))))else if c∈bs then H c else H0 c)=some u:=e;by_cases n1:c=a
    ·subst n1;rw[ai rfl]at e';rw[oA];exact e'
    ·rw[aj n1]at e';rw[oB n1];by_cases n2:c∈bs
     ·rw[ai n2]at e';exact e'
     ·rw[aj n2]at e';exact R.sub _ _ e'
   g0:=R.g0.trans s0
   keep:=λc u e n=>by rw[oB (λz=>by subst z;rw[g.nB]at e;cases e)];exact R.keep c u e n
   fr:=λc u e=>by
    have e':(if c=a then some (HO.frz o (.dK (ks.zip (bs.map V.ref))))else if c∈bs then H c else H0 c)=some u:=e;by_cases n1:c=a
    ·subst n1;exact .inr g.nB
    ·rw[aj n1]at e';by_cases n2:c∈bs
     ·obtain⟨_,_,_,w3⟩:=mb n2;exact .inr w3
     ·rw[aj n2]at e';exact R.fr _ _ e'
   am:=λc hc=>by
    by_cases n1:c=a
    ·subst n1;exact⟨_,oA⟩
    ·rw[oB n1];exact R.am c hc
   len:=R.len
   sl:=λi s e=>by
    match i,e with
    |0,e=>cases e;obtain⟨v,w1,w2⟩:=R.sl 0 _ rfl;exact⟨v,w1,Rep.mono s0 _ _ w2⟩
    |1,e=>cases e;trivial
    |2,e=>cases e;trivial
    |i+3,e=>cases e
   ap:=λi j s t b _ e _ so=>by
    match i,e with
    |0,e=>cases e;cases so
    |1,e=>cases e;cases so
    |2,e=>cases e;cases so
    |i+3,e=>cases e }
 ·unfold Rep;refine⟨a,o,bs.map V.ref,rfl,by show (if a=a then _ else _)=_;rw[ai rfl],by rw[ah];exact g.len,AD bs dss g.len' λi b ds e1 e2=>?_⟩;obtain⟨xs,w1,w2,w3,w4⟩:=g.each i b ds e1 e2;have hb:=cB e1;refine⟨xs,?_,oq.mono s0 _ _ w4⟩;show (if b=a then _ else if b∈bs then H b else H0 b)=_;have nb:b≠a:=λz=>na (by rw[<-z];exact hb);rw[aj nb,ai hb];exact w1
def MH{L:aA}{s2:Sl}(h:s2.own=false):∀s∈[Sl.im (.lst L),.un,s2],s.own=false:=λs hs=>by
 simp only[aN,bN,or_false]at hs;rcases hs with rfl|rfl|rfl
 ·rfl
 ·rfl
 ·exact h
theorem Kv{st1 st2 st3:Stmt}{vk:D->Option D}(h1:PS X st1 (zN Hh (u0 1)))(h2:PS X st2 (Rr (tFI G (iL (cV 0))) (u0 2) (Ga G (c1 vk (cV 2)))))
  (h3:PS X st3 (VE (λσ H Q=>uM 1 σ H λx H1=>Q x H1\/∃a kvs,H1 a=some (.dK kvs)/\∀o,Q x (upd H1 a (.frz o (.dK kvs)))))):PSs X [st1,st2,st3] (tFS G (HI vk)):=
 PSs.weak (Bx h1 (Bx h2 (Eu h3))) λE σ H hh=>by
  obtain⟨F,ρ,H0,o,R,e,k,k2⟩:=hh;unfold HI at e;split at e
  ·rename_i L;cases eg:z7 vk L [] []with
   |none=>simp only[eg]at e;cases e
   |some p=>
    obtain⟨KS,DSS⟩:=p;simp only[eg]at e;cases e;intro p hp;have R1:oN G F (σ.set 1 (some (.ref p))) [.im (.lst L),.un,.un] H0 (upd H p (.dK [])):=(R.newOwn hp (.dK [])).set (i:=1) (v:=.ref p) (s:=.un) trivial (λz=>by cases z);have hlen:σ.length=3:=R.len;have g1:Grp G F H0 (upd H p (.dK [])) p [] [] []:=⟨oA,R.h0none hp,R.bNone hp,rfl,rfl,gd,gd,λi b ds e1=>by cases e1⟩;have v1:(σ.set 1 (some (V.ref p)))[1]?=some (some (.ref p)):=by rw[hU (by rw[hlen];decide)]
    refine⟨_,_,_,L,_,oN.still R1 (MH rfl),rfl,λJ Ha Hb s Ra wk=>?_⟩;have hs:oE (upd H p (.dK [])) Hb:=λb o e=>Ra.keep b o e (by simp);have R2:=R1.grow hs s Ra.sub Ra.fr;have g2:=g1.grow hs s Ra.fr;refine⟨λi m σ' H'=>m=L.length - i/\i<=L.length/\∃Hi ks dss bs s2,oE Ha Hi/\Sl.own s2=false/\oN G F σ' [.im (.lst L),.un,s2] Hi H'/\σ'[1]?=some (some (.ref p))/\Grp G F Hi H' p ks dss bs/\z7 vk (L.drop i) ks dss=some (KS,DSS),
     ⟨_,rfl,cf _,Ha,[],[],[],.un,oE.refl _,rfl,R2,v1,g2,eg⟩,?_⟩
    rintro i m σi Hi' ⟨rfl,hi,Hi,ks,dss,bs,s2,si,n2,Ri,vi,gi,ei⟩;by_cases hlt:i<L.length
    ·have ed:L.drop i=L[i]::L.drop (i+1):=jj hlt;rw[ed]at ei;unfold z7 at ei;cases ev:vk L[i]with
     |none=>simp only[ev]at ei;cases ei
     |some x=>
      simp only[ev]at ei;cases ek:wY x with
      |none=>simp only[ek]at ei;cases ei
      |some kk=>
       simp only[ek]at ei;split at ei
       ·rename_i hb;simp only[bf,bB,bD]at hb;obtain⟨go,yl⟩:=(wk i Hi Hi' si Ri.sub).1 L[i] (aP hlt);refine .inr ⟨go,λσ' H'=>∃Hi ks dss bs s2,oE Ha Hi/\Sl.own s2=false/\oN G F σ' [.im (.lst L),.un,s2] Hi H'/\σ'[1]?=some (some (.ref p))/\Grp G F Hi H' p ks dss bs/\z7 vk (L.drop (i+1)) ks dss=some (KS,DSS),
         λσ' H' q=>⟨L.length - (i+1),by omega,rfl,hlt,q⟩,λxv H' y=>?_⟩
        obtain⟨H2,t1,t2,t3,t4,t5⟩:=yl xv H' y;have hl3:σi.length=3:=Ri.len;have R3:oN G F (σi.set 2 (some xv)) [.im (.lst L),.un,.im L[i]] H2 H':=(Ri.grow t3 t1 t2 t4).setIm 2 t5;have w1:(σi.set 2 (some xv))[1]?=some (some (.ref p)):=by rw[jn (by decide)];exact vi
        have w2:(σi.set 2 (some xv))[2]?=some (some xv):=by rw[hU (by rw[hl3];decide)]
        refine MG R3 (MH rfl) w1 w2 t5 (gi.grow t3 t1 t4) (by show c1 vk (cV 2) _=_;unfold c1 cV;simp only[hJ,List.getElem?_cons_zero,ev]) ek hb.1 (λds hd=>hb.2 ds hd) λHc Hd bs' sc Rc gc=>?_;exact⟨Hc,_,_,bs',_,si.trans (t1.trans sc),rfl,Rc,w1,gc,ei⟩
       ·cases ei
    ·have hi':i=L.length:=by omega
     refine .inl ⟨(wk i Hi Hi' si Ri.sub).2 hi',?_⟩;subst hi';rw[List.drop_length]at ei;cases ei;refine⟨.ref p,vi,.inr ⟨p,_,gi.at_,λo=>?_⟩⟩;obtain⟨Hq,q1,q2,q3⟩:=PF Ri gi o;exact k _ _ Hq _ (s.trans (si.trans q1)) q2 q3
  ·cases e
end
section
variable{X:Cx}{G:Bg}
theorem PH:∀y b,qP "int" y=some b->cK X.K (y.val G) (.type "int")=some b:=λy b h=>by
 cases y with
 |c k=>cases h
 |b n=>
  unfold qP at h;simp only at h
  iterate 7 (split at h;· rename_i e;subst e;cases h;first|rfl|kernel_rfl)
  cases h
theorem MI:∀y b,qP "bool" y=some b->cK X.K (y.val G) (.type "bool")=some b:=λy b h=>by
 cases y with
 |c k=>cases h
 |b n=>
  unfold qP at h;simp only at h
  iterate 7 (split at h;· rename_i e;subst e;cases h;first|rfl|kernel_rfl)
  cases h
theorem kit_tuple:∀y b,qP "tuple" y=some b->cK X.K (y.val G) (.type "tuple")=some b:=λy b h=>by
 cases y with
 |c k=>cases h
 |b n=>
  unfold qP at h;simp only at h
  iterate 7 (split at h;· rename_i e;subst e;cases h;first|rfl|kernel_rfl)
  cases h
end
theorem Ca:entryFor table "dict_itemiterator.__iter__" = some dP.«dict_keyiterator.__iter__»:=by
 refine entryFor_alias (id':="dict_keyiterator.__iter__") ?_ rfl ?_ ?_
 ·kernel_rfl
 ·decide +kernel
 ·kernel_rfl
theorem PJ{vs:List (Key×aa)}(r:KV kvs vs){k:Key}{x:aa}(e:vs[i]?=some (k,x)):∃z,kvs[i]?=some (k,z)/\RelV z x:=by
 induction r generalizing i with
 |nil=>cases e
 |@cons p q l l' h _ ih=>
  cases i with
  |zero=>obtain⟨pk,pv⟩:=p;cases e;exact⟨pv,by rw[show pk=k from h.1];rfl,h.2⟩
  |succ i=>exact ih e
def Iti(a:Addr)(o:Obj)(kvs:List (Key×V)):It:=
 ⟨λi H=>i<kvs.length/\H a=some (.frz o (.dK kvs)),λi H v H'=>∃p k z,H p=none/\v=.ref p/\H'=upd H p (.tup [kV k,z])/\kvs[i]?=some (k,z),λi H=>kvs.length<=i/\H a=some (.frz o (.dK kvs))⟩
def iTn(it a:Addr)(o:Obj)(n:Nat)(i:Nat)(h:Heap):Prop:=∃es ep ok ov,o.data=.dict es ep/\IsItemIter h it a i n ep ok ov
theorem HJ{P:aE}{w:az}{K:au}{x1}(a it:Addr)(o:Obj)(kvs:List (Key×V)):Turn P w K (.Tuple elts x1 pos) (Iti a o kvs) [it] it (iTn it a o kvs.length) where
 mem:=by simp
 obj:=λi h st b hb=>by
  have e:b=it:=by simpa using hb
  subst e;obtain⟨es,ep,ok,ov,hd,q⟩:=st;exact⟨_,q,λv z=>nomatch z⟩
 keep:=λi h h' st k=>by obtain⟨es,ep,ok,ov,hd,q⟩:=st;exact⟨es,ep,ok,ov,hd,k it (by simp) _ q⟩
 item:=by
  intro X hP hw hK hc i pins s σ H E I hf st hg;subst hP hw hK;obtain⟨hi,he⟩:=hg;obtain⟨es,ep,ok,ov,hd,ki⟩:=st;obtain⟨_,_,vs,r,da⟩:=uD I he hd;have hl:kvs.length=vs.length:=r.length;obtain⟨⟨k,x⟩,hx⟩:∃q,vs[i]?=some q:=⟨vs[i]'(by rw[<-hl];exact hi),aP _⟩;obtain⟨z,hz,rz⟩:=PJ r hx;rw[hl]at ki;refine wpAny_pyNext_items_item ki da hx λkey h' hk q1 q2 q3 kk=>?_;refine⟨_,rfl,wpAny_letOwnedTupleGo_items (s:={ s with heap:=h' }) q1 λh2 q4 sb=>?_⟩;have lt:s.heap.objs.size≠it:=λw=>aq (aO ki) (by rw[w];exact df _);have hp:h2.get? s.heap.objs.size=some { cls:=.type "tuple", data:=.seq #[key,x] }:=sb.extBut _ _ lt q2;have ok':pL X.prog X.w (upd H s.heap.objs.size (.tup [kV k,z])) h2 s.heap.objs.size (.tup [kV k,z]):=⟨by rw[bK];show 2<=16777216;decide,[key,x],.cons (EU hk) (.cons rz .nil),_,hp,rfl,_,rfl⟩;have I1:=Inv.turnedLaid (h':=h2) (t':=s.toks) (T:=s.heap.objs.size) (xs:=[kV k,z]) (ch:=[it]) I hf
   (λb o hb e=>sb.extBut _ _ (λw=>hb (by simp[w])) (kk b o (λw=>hb (by simp[w])) e)) (aI _) ok'
  refine⟨.ref s.heap.objs.size,_,I1,rfl,⟨_,k,z,I.hok.fresh (aI _),rfl,rfl,hz⟩,⟨es,ep,key,x,hd,by rw[hl];exact q4⟩,λb hb=>?_⟩;rw[oB (λw=>?_)]
  ·exact(hf b hb).1
  ·have e:b=it:=by simpa using hb
   exact lt (w.symm.trans e)
 done:=by intro X hP hw hK hc i pins s σ H E I hf st hg;subst hP hw hK;obtain⟨hi,he⟩:=hg;obtain⟨es,ep,ok,ov,hd,ki⟩:=st;obtain⟨f0,f1,f2,f3,f4,f5⟩:=hf it (by simp);obtain⟨_,_,vs,r,da⟩:=uD I he hd;have hl:kvs.length=vs.length:=r.length;rw[hl]at ki;exact wpAny_pyNext_items_end (I.ok.hd hc) ki da (fT (by rw[<-hl];exact hi)) λh' eb=>⟨rfl,I.turned (t':=s.toks) (λb o hb e=>eb b o hb e) f0 f1 f3 f4 f5⟩
 self:=λA i s Q E st h=>by obtain⟨es,ep,ok,ov,hd,ki⟩:=st;have hT:s.TypeIs (.ref it) "dict_itemiterator" := ⟨_,ki,rfl⟩;refine wpAny_pyIter_slot hT kY (ik kY hT Ca ?_ (F.args_dict_itemiterator_iter_1 _));show wpAny _ _ (ret (.ref it)) _ _ s;exact aB ⟨_,rfl,"dict_itemiterator", _,hT,F.slot_dict_itemiterator_next.lookup,h⟩
section
variable{X:Cx}{G:Bg}{elts:List Expr}{x1:Nat}{tpos:Pos}
def MJ(tl:TE):TI:=λσ H R=>tl σ H λx H1=>∃a o kvs,x=.ref a/\H1 a=some (.frz o (.dK kvs))/\R (Iti a o kvs) H1
theorem MK{o:Expr}(ho:PE X o tl)(hbase:attributeBase o "items" X.env (eval o X.env)=eval o X.env:=by rfl)(hline:(apos.endLine==cpos.line)=true:=by rfl):
  PI X (.Tuple elts x1 tpos) (.Call (.Attribute o "items" apos) [] [] cpos) (MJ tl):=by
 intro pins s σ H R I h;refine wpAny_Call_method0_late hbase hline (thn (ho pins s σ H _ I h) λv s1 ⟨x,H1,I1,r1,a,ob,kvs,e,he,q⟩=>?_);subst e;obtain rfl:v=Value.ref a:=r1;obtain⟨t1,t2,t3⟩:=EG I1 (.inl ⟨kvs,.inr ⟨ob,he⟩⟩);refine⟨"dict", "dict.items", ie,mD,F.type_dict_items,t1,t2,fQ rfl (PySem.evalArgs_none ?_)⟩;obtain⟨q0,_,y,vs,r,ob',es,ep,e1,e2,e3,e4⟩:=(show pL X.prog X.w H1 s1.heap a (.frz ob (.dK kvs)) from I1.hok a _ he);rw[q0]at e1;cases e1;have hl:kvs.length=vs.length:=r.length;have da:s1.heap.DictAt (oT X.prog X.w) a vs ep:=⟨ob,es,q0,e2,e3,e4⟩;refine fE mD t1 F.entry_dict_items (F.args_dict_items_1 _) (meets_dict_items (oT X.prog X.w) a y) ⟨⟨vs,da.dictOf⟩,?_⟩;have I2:Inv X pins σ H1 { s1 with heap:=s1.heap.push { cls:=.type "dict_items", data:=.fields #[.ref a] } }:=I1.kept (t':=s1.toks) λb o e=>aM _ e;refine wpAny_pyIter_items (knd:=oT X.prog X.w) (kvs:=vs) (ep:=ep) ⟨_,bz _ rfl,rfl,rfl⟩ (da.push _) ?_;refine⟨_,[_],_,_,H1,rfl,I2.kept (t':=s1.toks) λb o e=>aM _ e,HJ a _ ob kvs,⟨es,ep,.none,.none,e3,by rw[hl];exact bz _ rfl⟩,λb hb=>?_,q⟩;have e:=aR.mp hb;subst e;exact I2.fpOk (aI _) (I2.hok.fresh (aI _))
def iIt(f:FE):FA:=λρ=>match f ρ with
 |some (.dic ks ds,ρ1)=>some (zf (ks.map HG) ds,ρ1)
 |_=>none
theorem Kw(h:PI X tg e (MJ (tF G f))):PI X tg e (tFI G (iIt f)):=PI.weak h λσ H R hh=>by
 obtain⟨F,ρ,H0,ds,ρ',R,e,k⟩:=hh;unfold iIt at e;split at e
 ·rename_i ks ds' ρ1 e1;cases e;refine⟨F,ρ,H0,_,_,R,e1,λv H1 H1' s R' r=>?_⟩;unfold Rep at r;obtain⟨a,o,xs,rfl,r1,r2,r3⟩:=r;have hz:(ks.zip xs).length=ks.length:=by rw[eJ,<- r2,dM]
  have lx:xs.length=ds'.length:=(ou r3).symm;refine⟨a,o,_,rfl,R'.sub _ _ r1,k _ _ _ s R' λi H2 H2' t t'=>⟨λd ed=>?_,λhl=>?_⟩⟩
  ·unfold zf at ed;rw[jm,bu]at ed;cases ek:ks[i]? with
   |none=>rw[ek]at ed;cases ed
   |some j=>
    cases ey:ds'[i]? with
    |none=>rw[ek,ey]at ed;cases ed
    |some dy=>
     rw[ek,ey]at ed;cases ed;have hi:i<ks.length:=(bQ.mp ek).1;obtain⟨vy,y1,y2⟩:=qe r3 ey;refine⟨⟨by rw[hz];exact hi,t' _ _ (t _ _ r1)⟩,λx H3 y=>?_⟩;obtain⟨p,k',z,hp,rfl,rfl,hk'⟩:=y;rw[lj]at hk';have a1:=hk'.1;have a2:=hk'.2;rw[ek]at a1;rw[y1]at a2;cases a1;cases a2;have p0:H2 p=none:=by
      cases q:H2 p with
      |none=>rfl
      |some o=>have:=t' _ _ q;rw[hp]at this;cases this
     refine⟨upd H2 p (.tup [kV k',z]),oH p0 _,λb o e=>?_,oH hp _,λb o e=>?_,vJ (SqT.of oA) ?_⟩
     ·by_cases hb:b=p
      ·subst hb;rw[oA]at e ⊢;exact e
      ·rw[oB hb]at e ⊢;exact t' _ _ e
     ·by_cases hb:b=p
      ·subst hb;exact .inr hp
      ·rw[oB hb]at e;exact .inl e
     ·have m:=t.trans (oH p0 (.tup [kV k',z]));exact o7 (Jf _) (o7 (Rep.mono m _ _ y2) o8)
  ·refine⟨by rw[hz,hl,F5,ah,<- lx,<- r2,dM];exact aI _,t' _ _ (t _ _ r1)⟩
 ·cases e
end
def hold(F:Fr)(p:Addr)(o:HO):Fr:=⟨F.B0,λb=>if b=p then some o else F.B b,F.A⟩
theorem Bt{o:HO}:(hold F p o).B p=some o:=by show (if p=p then _ else _)=_;rw[ai rfl]
theorem xO{b:Addr}{o:HO}(h:b≠p):(hold F p o).B b=F.B b:=by show (if b=p then _ else _)=_;rw[aj h]
theorem yx.frame{G:Bg}{F':Fr}{H:Hp}{o:Option V}{s:Sl}(h:yx G F H0 H o s)(hA:F'.A=F.A)(hB:∀a,o=some (.ref a)->s.own=true->F.B a=none->F'.B a=none):yx G F' H0 H o s:=by
 cases s with
 |un=>trivial
 |im d=>exact h
 |ls ds=>obtain⟨a,xs,h1,h2,h3,h4,h5⟩:=h;exact⟨a,xs,h1,h2,h3,hB a h1 rfl h4,h5⟩
 |pm ds=>obtain⟨a,xs,h1,h2,h3,h4,h5⟩:=h;exact⟨a,xs,h1,h2,h3,by rw[hA];exact h4,h5⟩
 |dk ks ds=>obtain⟨a,xs,h1,h2,h3,h4,h5,h6⟩:=h;exact⟨a,xs,h1,h2,h3,hB a h1 rfl h4,h5,h6⟩
 |ob c ns ds=>obtain⟨a,dx,xs,h1,h2,h3,h4,h5,h6⟩:=h;exact⟨a,dx,xs,h1,h2,h3,by rw[hA];exact h4,h5,h6⟩
section
variable{X:Cx}{G:Bg}{F:Fr}{σ:St}{ρ:aW}{H0 H:Hp}{p:Addr}{o:HO}
theorem oN.hold(R:oN G F σ ρ H0 H)(hp:H p=none)(o:HO):oN G (L4.hold F p o) σ ρ H0 (upd H p o) where
 sub:=(R.newOwn hp o).sub
 g0:=R.g0
 keep:=λb u e n=>by
  by_cases hb:b=p
  ·subst hb;rw[Bt]at e;rw[oA];exact e
  ·rw[xO hb]at e;exact(R.newOwn hp o).keep b u e n
 fr:=λb u e=>by
  have hb:b≠p:=λz=>by subst z;rw[R.h0none hp]at e;cases e
  rw[xO hb];exact R.fr b u e
 am:=(R.newOwn hp o).am
 len:=R.len
 sl:=λi s e=>by refine yx.frame ((R.newOwn hp o).sl i s e) rfl λa h1 so hB=>?_;obtain⟨a',u,q1,q2,_⟩:=(R.sl i s e).at so;rw[h1]at q1;cases q1;rw[xO (λz=>by subst z;rw[hp]at q2;cases q2)];exact hB
 ap:=R.ap
theorem oN.unhold(R:oN G (L4.hold F p o) σ ρ H0 H)(hB:F.B p=none):oN G F σ ρ H0 H where
 sub:=R.sub
 g0:=R.g0
 keep:=λb u e n=>R.keep b u (by rw[xO (λz=>by subst z;rw[hB]at e;cases e)];exact e) n
 fr:=λb u e=>by
  rcases R.fr b u e with z|z
  ·exact .inl z
  ·by_cases hb:b=p
   ·subst hb;exact .inr hB
   ·rw[xO hb]at z;exact .inr z
 am:=R.am
 len:=R.len
 sl:=λi s e=>yx.frame (R.sl i s e) rfl λa h1 so q=>by
  by_cases hb:a=p
  ·subst hb;exact hB
  ·rw[xO hb]at q;exact q
 ap:=R.ap
theorem oN.layHeld(R:oN G (L4.hold F p o) σ ρ H0 H)(hB:F.B p=none)(h0:H0 p=none)(nA:p∉F.A)(u:HO):oN G F σ ρ (upd H0 p u) (upd H p u) where
 sub:=λb v e=>by
  by_cases hb:b=p
  ·subst hb;rw[oA]at e ⊢;exact e
  ·rw[oB hb]at e ⊢;exact R.sub _ _ e
 g0:=(oN.unhold R hB).g0.trans (oH h0 u)
 keep:=λb v e n=>by rw[oB (λz=>by subst z;rw[hB]at e;cases e)];exact(oN.unhold R hB).keep b v e n
 fr:=λb v e=>by
  by_cases hb:b=p
  ·subst hb;exact .inr hB
  ·rw[oB hb]at e;exact(oN.unhold R hB).fr _ _ e
 am:=λb hb=>by
  have hb':b≠p:=λz=>by subst z;exact nA hb
  rw[oB hb'];exact R.am b hb
 len:=R.len
 sl:=λj t e=>by
  have ne:∀a,(σ[j]?).join=some (.ref a)->t.own=true->a≠p:=λa z to y=>by
   subst y;obtain⟨a',v,q1,_,_,q4⟩:=(R.sl j t e).at to;rw[z]at q1;cases q1;rcases q4 with q|q
   ·rw[Bt]at q;cases q
   ·exact nA q
  refine((oN.unhold R hB).sl j t e).grow (oH h0 u) (λa v z to q=>?_) λa v z to q q0=>?_
  ·rw[oB (ne a z to)];exact q
  ·rw[oB (ne a z to)];exact q0
 ap:=R.ap
def sJ:List (Str×FE)->aW->Option (aA×aW)
 |[],ρ=>some ([],ρ)
 |(_,f)::r,ρ=>match f ρ with
  |some (d,ρ1)=>match sJ r ρ1 with
   |some (ds,ρ2)=>some (d::ds,ρ2)
   |none=>none
  |none=>none
def ML(G:Bg)(kfs:List (Str×FE)):List (TE×TE):=kfs.map λq=>(tC (.str q.1),tF G q.2)
theorem Gb:∀(kfs:List (Str×FE)) (ρ ρ':aW) (ds:aA) (H0 H:Hp) (Q:List (V×V)->Hp->Prop),oN G F σ ρ H0 H->sJ kfs ρ=some (ds,ρ')->
  (∀vs H1 H1',oE H0 H1->oN G F σ ρ' H1 H1'->oq G H1 ds vs->Q (cY (λk v=>(V.str k,v)) (kfs.map (·.1)) vs) H1')->EF (ML G kfs) σ H Q
 |[],ρ,ρ',ds,H0,H,Q,R,e,k=>by cases e;exact k [] H0 H (oE.refl _) R o8
 |(x,f)::r,ρ,ρ',ds,H0,H,Q,R,e,k=>by
  unfold sJ at e;cases e1:f ρ with
  |none=>simp only[e1]at e;cases e
  |some q=>
   obtain⟨d,ρ1⟩:=q;simp only[e1]at e;cases e2:sJ r ρ1 with
   |none=>simp only[e2]at e;cases e
   |some q=>obtain⟨ds',ρ2⟩:=q;simp only[e2]at e;cases e;refine⟨F,ρ,H0,d,ρ1,R,e1,λv H1 H1' s R1 rv=>?_⟩;exact Gb r ρ1 _ ds' H1 H1' _ R1 e2 λvs H2 H2' s2 R2 rs=>k (v::vs) H2 H2' (s.trans s2) R2 (o7 (Rep.mono s2 _ _ rv) rs)
theorem Gc:∀(more acc:List (Key×V)),((acc++more).map (·.1)).Nodup->wN acc more=acc++more
 |[],acc,_=>by rw[br];rfl
 |q::r,acc,h=>by
  have nq:(acc.any λkv=>decide (kv.1=q.1))=false:=by rw[ig];intro z;obtain⟨y,hy,ey⟩:=fo.mp z;rw[aX,bV]at h;exact h.2.2 y.1 (cu hy) q.1 (cu aV) (bj ey)
  have e:putK acc q.1 q.2=acc++[q]:=by unfold putK;rw[nq];rfl
  show wN (putK acc q.1 q.2) r=_;rw[e,Gc r (acc++[q]) (by simpa using h)];simp
theorem Kx{H:Hp}{p:Addr}{x y:HO}:upd (upd H p x) p y=upd H p y:=by
 funext b
 by_cases hb:b=p
 ·subst hb;rw[oA,oA]
 ·rw[oB hb,oB hb,oB hb]
def vc(kfs:List (Str×FE)):FE:=λρ=>match sJ kfs ρ with
 |some (ds,ρ')=>some (.dic (kfs.map λq=>Sum.inr q.1) ds,ρ')
 |none=>none
theorem Cb:∀{kfs:List (Str×FE)} {ρ ρ':aW} {ds:aA},sJ kfs ρ=some (ds,ρ')->ds.length=kfs.length
 |[],ρ,ρ',ds,e=>by cases e;rfl
 |(x,f)::r,ρ,ρ',ds,e=>by
  unfold sJ at e;cases e1:f ρ with
  |none=>simp only[e1]at e;cases e
  |some q=>
   obtain⟨d,ρ1⟩:=q;simp only[e1]at e;cases e2:sJ r ρ1 with
   |none=>simp only[e2]at e;cases e
   |some q=>obtain⟨ds',ρ2⟩:=q;simp only[e2]at e;cases e;rw[aK,aK,Cb e2]
theorem Gd:∀(ks:aC) (vs:bt),cY (λk v=>(V.str k,v)) ks vs=((ks.map λk=>(Sum.inr k:Key)).zip vs).map λkv=>(kV kv.1,kv.2)
 |[],vs=>rfl
 |k::ks,[]=>rfl
 |k::ks,v::vs=>by show (V.str k,v)::_=_;rw[Gd ks vs];rfl
theorem Jg{kfs:List (Str×FE)}(h:PE X e (Lx (ML G kfs)))(nd:(kfs.map λq=>(Sum.inr q.1:Key)).Nodup)(h15:kfs.length<=15):PE X e (tF G (vc kfs)):=PE.weak (PE.ghost h) λσ H Q hh=>by
 obtain⟨F,ρ,H0,d,ρ',R,e,k⟩:=hh;unfold vc at e;cases e1:sJ kfs ρ with
 |none=>simp only[e1]at e;cases e
 |some q=>
  obtain⟨ds,ρ1⟩:=q;simp only[e1]at e;cases e;intro p hp;have hB:F.B p=none:=R.bNone hp;have nA:p∉F.A:=λz=>by obtain⟨u,q⟩:=R.am p z;rw[hp]at q;cases q
  refine Gb kfs ρ _ ds H0 _ _ (oN.hold R hp (.dK [])) e1 λvs H1 H1' s R1 rs=>?_;have q0:H1' p=some (.dK []):=R1.keep p _ Bt nA;have h0:H1 p=none:=by
   cases q:H1 p with
   |none=>rfl
   |some u=>
    rcases R1.fr p u q with z|z
    ·have:=R.g0 _ _ z;rw[R.h0none hp]at this;cases this
    ·rw[Bt]at z;cases z
  have lv:(kfs.map λq=>(Sum.inr q.1:Key)).length=vs.length:=by rw[ah,<- Cb e1,ou rs]
  have kn:(((kfs.map λq=>(Sum.inr q.1:Key)).zip vs).map (·.1))=kfs.map λq=>(Sum.inr q.1:Key):=mO (by rw[lv];exact aI _)
  refine⟨q0,(kfs.map λq=>(Sum.inr q.1:Key)).zip vs,?_,?_,.inr ⟨p,_,oA,λob=>?_⟩⟩
  ·rw[Gd,aU];rfl
  ·rw[eJ,<- lv,dM,ah];exact h15
  ·rw[Kx,Gc _ [] (by rw[bH,kn];exact nd),bH];refine k _ _ _ (s.trans (oH h0 _)) (oN.layHeld R1 hB h0 nA _) ?_;unfold Rep;exact⟨p,ob,vs,rfl,oA,lv,oq.mono (oH h0 _) _ _ rs⟩
end
def spL(G:Bg)(g:aA->aA->Option (D×aA)):Sp:=λvs H Q E=>∃(a:Addr) (us:bt),vs=us++[.ref a]/\spM G g (.ref a::us) H Q E
def stL(n:Nat)(es ds:aA):aW:=ds.map Sl.im++.pm es::dH (n - ds.length - 1) .un
def Ge(i:Nat)(ρ:aW):Option aA:=match ρ[i]? with
 |some (.pm es)=>some es
 |_=>none
def fnL(np n:Nat)(f:FS):aA->aA->Option (D×aA):=λes ds=>if ds.length=np then match f (stL n es ds)with
 |some (.rt d ρ)=>match Ge np ρ with
  |some es'=>some (d,es')
  |none=>none
 |some (.rn xs ρ)=>match Ge np ρ with
  |some es'=>some (.lst xs,es')
  |none=>none
 |_=>none
 else none
theorem z8{ρ:aW}{es:aA}(h:Ge i ρ=some es):ρ[i]?=some (.pm es):=by
 unfold Ge at h;split at h
 ·rename_i e;cases h;exact e
 ·cases h
theorem Gf{n:Nat}{f:FS}{es:aA}(h:fnL np n f es ds=some (d,es')):ds.length=np/\((∃ρ,f (stL n es ds)=some (.rt d ρ)/\ρ[np]?=some (.pm es'))\/∃xs ρ,f (stL n es ds)=some (.rn xs ρ)/\ρ[np]?=some (.pm es')/\d=.lst xs):=by
 unfold fnL at h;split at h
 ·rename_i hl;refine⟨hl,?_⟩;split at h
  ·rename_i x ρ e;cases e2:Ge np ρ with
   |none=>simp only[e2]at h;cases h
   |some q=>simp only[e2]at h;cases h;exact .inl ⟨ρ,e,z8 e2⟩
  ·rename_i x ρ e;cases e2:Ge np ρ with
   |none=>simp only[e2]at h;cases h
   |some q=>simp only[e2]at h;cases h;exact .inr ⟨x,ρ,e,z8 e2,rfl⟩
  ·cases h
 ·cases h
theorem EV{n:Nat}{es:aA}{t:Sl}(h:(stL n es ds)[i]?=some t):(i=ds.length/\t=.pm es)\/t=.un\/∃d,ds[i]?=some d/\t=.im d:=by
 unfold stL at h;by_cases hi:i<ds.length
 ·rw[cJ (by simpa using hi),bu,aP hi]at h;cases h;exact .inr (.inr ⟨_,aP hi,rfl⟩)
 ·rw[cA (by simpa using hi),ah]at h;cases q:i - ds.length with
  |zero=>rw[q]at h;cases h;exact .inl ⟨by omega,rfl⟩
  |succ m=>
   rw[q,hJ,eZ]at h;split at h
   ·cases h;exact .inr (.inl rfl)
   ·cases h
variable{N:aC}{E:XK}{es:List Expr}
section
variable{X:Cx}{G:Bg}
theorem PK{us:bt}{es:aA}{H:Hp}(ha:H a=some (.lst xs))(h0:H0 a=none)(s:oE H0 H)(r1:oq G H0 es xs)(r:oq G H0 ds us)(hN:us.length+1<=N.length):oN G ⟨H0,H,[a]⟩ (L2.start N (us++[.ref a])) (stL N.length es ds) H0 H:={
  sub:=s
  g0:=oE.refl _
  keep:=λb o e _=>e
  fr:=λb o e=>.inl e
  am:=λb hb=>by rw[aR]at hb;subst hb;exact⟨_,ha⟩
  len:=by unfold L2.start stL;simp only[aD,ah,cb,aK,cO];have:=ou r;omega
  sl:=λi t e=>by
   rcases EV e with ⟨rfl,rfl⟩|rfl|⟨d,e1,rfl⟩
   ·exact⟨a,xs,rh (by rw[ou r,cA (aI _),iF];rfl),ha,h0,aR.mpr rfl,r1⟩
   ·trivial
   ·obtain⟨v,e2,e3⟩:=qe r e1;exact⟨v,rh (by rw[cJ (bQ.mp e2).1];exact e2),e3⟩
  ap:=λi j t u b hij ei ej ht hu=>by
   rcases EV ei with ⟨rfl,rfl⟩|rfl|⟨_,_,rfl⟩
   ·rcases EV ej with ⟨rfl,rfl⟩|rfl|⟨_,_,rfl⟩
    ·exact aq rfl hij
    ·cases hu
    ·cases hu
   ·cases ht
   ·cases ht }
theorem PL{f:FS}{H:Hp}{Q:VK}(hN:np+1<=N.length)(h:spL G (fnL np N.length f) vs H Q E):tFS G f { nx:=λ_ H'=>Q .non H',rt:=Q } (L2.start N vs) H:=by
 obtain⟨a,us,rfl,b,us',xs,H0,es,ds,d,es',e0,ha,h0,s,r1,r,e,k⟩:=h;cases e0;obtain⟨hl,e1⟩:=Gf e;have R:=PK (N:=N) ha h0 s r1 r (by rw[<-ou r,hl];exact hN);have fin:∀{v:V} {σ':St} {ρ':aW} {H0' H':Hp},oE H0 H0'->oN G ⟨H0,H,[a]⟩ σ' ρ' H0' H'->ρ'[np]?=some (.pm es')->Rep G H0' d v->Q v H':=λs' R' e2 rv=>by obtain⟨a',ys,q1,q2,q3,q4,q5⟩:=R'.sl np _ e2;have ea:a'=a:=aR.mp q4;subst ea;exact k _ ys _ _ s' R'.sub (λb o e n=>R'.keep b o e (λz=>n (aR.mp z))) R'.fr q3 q2 q5 rv
 rcases e1 with ⟨ρ,e1,e2⟩|⟨zs,ρ,e1,e2,rfl⟩
 ·exact⟨_,_,H0,_,R,e1,λv σ' H0' H' s' R' rv=>fin s' R' e2 rv,λ_=>rfl⟩
 ·refine⟨_,_,H0,_,R,e1,λp ys σ' H0' H' s' R' hp hp0 hb ap rs=>?_,λ_=>rfl⟩;exact fin (s'.trans (oH hp0 _)) (R'.freeze hp hp0 hb ap) e2 (uC oA (oq.mono (oH hp0 _) _ _ rs))
theorem Wy{g:aA->aA->Option (D×aA)}(hg:∀es ds d,g es ds=some d->ds.length=np):∀vs H Q E,spL G g vs H Q E->vs.length=np+1:=λvs H Q E h=>by obtain⟨a,us,rfl,h⟩:=h;have:=LX hg _ _ _ _ h;rw[aD];exact this
theorem PM{n:Nat}{f:FS}:∀es ds d,fnL np n f es ds=some d->ds.length=np:=λ_ _ d h=>(Gf (d:=d.1) (es':=d.2) h).1
def HK(G:Bg)(i:Nat)(a:FA):TA:=λσ H Q=>∃F ρ H0 ds ρ' es,oN G F σ ρ H0 H/\a ρ=some (ds,ρ')/\pX ρ' i=some es/\∀xs b H0' H',oE H0 H0'->oN G F σ ρ' H0' H'->oq G H0' ds xs->σ[i]?=some (some (.ref b))->Q (xs++[.ref b]) H'
theorem MM(hv:PE X e (uM i))(hs:starEach [e] X.env=[(false,eval e X.env)]:=by rfl):PA X [e] (HK G i oJ):=PA.weak (qw hv uN hs) λσ H Q hh=>by obtain⟨F,ρ,H0,ds,ρ',es,R,e,el,k⟩:=hh;cases e;obtain⟨b,xs,s1,_⟩:=qG R el;exact⟨.ref b,s1,k [] b _ _ (oE.refl _) R o8 s1⟩
theorem Kz{g:FA}(ha:PE X e (tF G f))(hr:PA X es (HK G i g))(hs:starEach (e::es) X.env=(false,eval e X.env)::starEach es X.env:=by rfl):PA X (e::es) (HK G i (oa f g)):=PA.weak (qw ha hr hs) λσ H Q hh=>by obtain⟨F,ρ,H0,d,ρ',es,R,e,el,k⟩:=hh;obtain⟨x,r,ρ1,e1,e2,rfl⟩:=yy e;exact⟨F,ρ,H0,x,ρ1,R,e1,λv H1 H1' s R' rv=>⟨F,ρ1,H1,r,ρ',es,R',e2,el,λxs b H2 H2' s2 R2 rs sb=>k _ _ _ _ (s.trans s2) R2 (o7 (Rep.mono s2 _ _ rv) rs) sb⟩⟩
def qg(g:aA->aA->Option (D×aA))(i:Nat)(a:FA):FE:=λρ=>match a ρ with
 |some (ds,ρ1)=>match pX ρ1 i with
  |some es=>match g es ds with
   |some (d,es')=>some (d,putAt ρ1 i es')
   |none=>none
  |none=>none
 |none=>none
theorem PN{g:aA->aA->Option (D×aA)}{a:FA}(h:PE X e (wJ (spL G g) [] E (HK G i a))):PE X e (tF G (qg g i a)):=PE.weak h λσ H Q hh=>by
 obtain⟨F,ρ,H0,d,ρ',R,e,k⟩:=hh;unfold qg at e;rcases oZ (f:=a) (ρ:=ρ)with e1|⟨ds,ρ1,e1⟩<;>simp only[e1]at e
 ·cases e
 ·cases e2:pX ρ1 i with
  |none=>simp only[e2]at e;cases e
  |some es=>
   simp only[e2]at e;cases e3:g es ds with
   |none=>simp only[e3]at e;cases e
   |some q=>obtain⟨d1,es'⟩:=q;simp only[e3]at e;cases e;refine⟨F,ρ,H0,ds,ρ1,es,R,e1,e2,λys b H1 H1' s R' rs sb=>?_⟩;obtain⟨s,es0,es1⟩:=rj e2;obtain⟨b',xs',t1,t2,t3,t4⟩:=(R'.sl i s es0).lst es1;rw[qT t1]at sb;cases sb;refine⟨b,ys,br _,b,ys,xs',H1,es,ds,d,es',rfl,t2,t3,R'.sub,t4,rs,e3,λv zs H2 H2' u1 u2 u3 fr w0 w1 w2 w3=>?_⟩;refine k _ _ _ (oE.trans ‹oE H0 H1› u1) ?_ w3;unfold putAt;rw[es0];exact R'.call1 es0 es1 t1 u1 u2 u3 fr w0 w1 w2
theorem PQ{k:Nat}{x:Str}{p:Pos}{a:FA}{ps:aC}{g:aA->aA->Option (D×aA)}(D:u9 X.prog X.w X.K X.mg X.base k x ps (spL G g))(hr:p8 k X.A)(ha:PA X (e::es) (HK G i a))(hg:Gl X x:=by rfl)(hdb:(x==("__debug__" : Str))=false:=by decide)(he:starEach (e::es) X.env=(false,eval e X.env)::starEach es X.env:=by rfl)(hpl:(backTo pos (starEach es X.env)).any (·.1)=false:=by rfl):
  PE X (.Call (.Name x p) (e::es) [] pos) (tF G (qg g i a)):=by
 obtain⟨f,fd,h1,h2,h3,h4⟩:=D;exact PN (yV (p:=p) (pos:=pos) h4 hr hg h1 h2 h3 .nil Av ha hdb he hpl)
def yI(i:Nat)(f:FE):FE:=λρ=>match pX ρ i with
 |some _=>match f ρ with
  |some (.int k,ρ1)=>match pX ρ1 i with
   |some ds=>if 0<=k then match ds[k.toNat]? with
    |some d=>if k<1000000 then some (d,putAt ρ1 i (ds.eraseIdx k.toNat))else none
    |none=>none
    else none
   |none=>none
  |_=>none
 |none=>none
theorem Cc:∀{H:Hp} {ds:aA} {xs:bt} (n:Nat),oq G H ds xs->oq G H (ds.eraseIdx n) (xs.eraseIdx n)
 |H,[],xs,n,h=>by unfold oq at h;subst h;exact o8
 |H,d::ds,xs,0,h=>by unfold oq at h;obtain⟨v,r,rfl,h1,h2⟩:=h;exact h2
 |H,d::ds,xs,n+1,h=>by unfold oq at h;obtain⟨v,r,rfl,h1,h2⟩:=h;exact o7 h1 (Cc n h2)
theorem MN(h:PE X e (tBM G.K "list" Hf (uM i) (tFA G (oa f oJ)))):PE X e (tF G (yI i f)):=PE.weak h λσ H Q hh=>by
 obtain⟨F,ρ,H0,d,ρ',R,e,k⟩:=hh;unfold yI at e;cases e0:pX ρ i with
 |none=>simp only[e0]at e;cases e
 |some ds0=>
  simp only[e0]at e;split at e
  ·rename_i n ρ1 e1;cases e2:pX ρ1 i with
   |none=>simp only[e2]at e;cases e
   |some ds=>
    simp only[e2]at e;split at e
    ·rename_i hn;cases e3:ds[n.toNat]? with
     |none=>simp only[e3]at e;cases e
     |some d'=>
      simp only[e3]at e;split at e
      ·rename_i hb;cases e;obtain⟨a,xs,s1,s2,s3,_⟩:=qG R e0;refine⟨.ref a,s1,.inl ⟨rfl,xs,SqL.of s2⟩,F,ρ,H0,[.int n],ρ1,R,by unfold oa;rw[e1];rfl,λys H1 H1' s R' rs=>?_⟩;unfold oq at rs;obtain⟨v,r0,rfl,rv,rn⟩:=rs;unfold oq at rn;unfold Rep at rv;subst rn rv;obtain⟨a',xs',t1,t2,t3,t4⟩:=qG R' e2;rw[s1]at t1;cases t1;obtain⟨y,y1,y2⟩:=qe t3 e3;have hlt:=(bQ.mp y1).1;exact⟨a,xs',n,n.toNat,y,rfl,rfl,t2,by omega,by omega,ka hn (by omega),y1,k _ _ _ s (t4 _ _ (Cc _ t3)) y2⟩
      ·cases e
    ·cases e
  ·cases e
end
section
variable{P:aE}{w:az}{K:au}{mg:Str->Option aa}{base:Heap}{x qual:Str}{st:Stmt}{f T:Addr}{fd:bM}{N ps:aC}{k:Nat}{G:Bg}
theorem WA{n:Nat}{g:aA->aA->Option (D×aA)}{b:FS}(hg:g=fnL np n b)(hp:ps.length=np+1)(hN:N.length=n)(F:Fun K x qual st f fd)(S:pZ N ps (oP st))(body:∀(cdv:aa) (A:aH) (outer:List Env) (s:af) (H:Hp) (E:XK),p8 k (A.deeper (envOfC qual (oP st) s.heap.objs.size f cdv))->PSs (yg P w K mg base N qual st f cdv A outer s H E) (ph st) (tFS G b)):
  sH P w K mg base CX0 (k+1) f fd ps (spL G g):=by
 subst hg hN;refine F.ok S (λvs H Q E h=>?_) λcdv A outer s H vs Q E hr h=>⟨_,body cdv A outer s H E hr,PL (by have:=aS bS S.pre;rw[bo]at this;omega) h⟩;rw[hp];exact Wy PM vs H Q E h
end
end L4
namespace L4
open PySem PySem.Spec PySem.Calls PyProof.Rows PySem.W L2 L3
def KA{α:Type}(c:Nat->Nat->Bool):KasT α->α
 |.ret a=>a
 |.ask i j k=>KA c (k (c i j))
def sL{α:Type}(P:Nat->Nat->Prop)(R:α->Prop):KasT α->Prop
 |.ret a=>R a
 |.ask i j k=>P i j/\∀b,sL P R (k b)
theorem sL.run{α:Type}{P:Nat->Nat->Prop}{R:α->Prop}(c:Nat->Nat->Bool):∀(t:KasT α),sL P R t->R (KA c t)
 |.ret a,h=>h
 |.ask i j k,h=>sL.run c (k (c i j)) (h.2 (c i j))
theorem sL.bind{α β:Type}{P:Nat->Nat->Prop}{R:α->Prop}{S:β->Prop}{f:α->KasT β}(hf:∀a,R a->sL P S (f a)):∀{t:KasT α},sL P R t->sL P S (t.bind f)
 |.ret a,h=>hf a h
 |.ask i j k,h=>⟨h.1,λb=>sL.bind hf (h.2 b)⟩
theorem Jh{α:Type}{cmp:Nat->Nat->(Bool->af->Prop)->af->Prop}{c:Nat->Nat->Bool}{P:Nat->Nat->Prop}{s:af}{Q:α->af->Prop}(hc:∀i j C,P i j->C (c i j) s->cmp i j C s):
  ∀{R:α->Prop} {t:KasT α},sL P R t->Q (KA c t) s->t.kasWp cmp Q s
 |R,.ret a,_,q=>q
 |R,.ask i j k,h,q=>hc i j _ h.1 (Jh hc (h.2 (c i j)) q)
def qQ(n:Nat)(p:Array Nat):Prop:=p.toList.Perm (bC n)
theorem qQ.getD{n:Nat}{p:Array Nat}(h:qQ n p)(hn:0<n)(i:Nat):p.getD i 0<n:=by
 unfold Array.getD;split
 ·rename_i hi;have:p[i]∈p.toList:=by simp
  exact cv.mp (h.mem_iff.mp this)
 ·exact hn
theorem qQ.rev{n:Nat}{p:Array Nat}(h:qQ n p)(i j:Nat):qQ n (kas_rev p i j):=by unfold qQ kas_rev mirror;exact(lh.mp (foldl_swaps_perm _ _ _ _)).trans h
theorem qQ.bub{n:Nat}{p:Array Nat}(h:qQ n p)(i j:Nat):qQ n (bubble p i j):=(lh.mp (bubble_perm _ _ _)).trans h
abbrev In2(n:Nat):Nat->Nat->Prop:=λi j=>i<n/\j<n
theorem EW{n:Nat}(hn:0<n){p:Array Nat}(h:qQ n p):∀f k,sL (In2 n) (λ_=>True) (kas_asc p f k)
 |0,k=>trivial
 |f+1,k=>⟨⟨h.getD hn _,h.getD hn _⟩,λb=>by cases b<;>first|exact trivial|exact EW hn h f (k+1)⟩
theorem zh{n:Nat}(hn:0<n):∀f (p:Array Nat) k q,qQ n p->sL (In2 n) (λr=>qQ n r.1) (kas_desc f p k q)
 |0,p,k,q,h=>h
 |f+1,p,k,q,h=>⟨⟨h.getD hn _,h.getD hn _⟩,λb=>by
   cases b with
   |true=>
    show sL _ _ (if q > 0 then _ else _);split
    ·exact zh hn f _ _ _ (h.rev _ _)
    ·exact zh hn f _ _ _ h
   |false=>
    refine⟨⟨h.getD hn _,h.getD hn _⟩,λd=>?_⟩;cases d with
    |true=>exact h
    |false=>exact zh hn f _ _ _ h⟩
theorem Gg{n:Nat}(hn:0<n){p:Array Nat}(h:qQ n p)(k m:Nat):sL (In2 n) (λr=>qQ n r.2) (kas_tail3 k m p):=
 sL.bind (P:=In2 n) (R:=λ_=>True) (S:=λ(r:Nat×Array Nat)=>qQ n r.2) (f:=λm=>.ret (m,kas_rev p 0 k)) (λa _=>h.rev 0 k) (EW hn (h.rev 0 k) _ _)
theorem zi{n:Nat}(hn:0<n){p:Array Nat}(h:qQ n p)(k m:Nat):sL (In2 n) (λr=>qQ n r.2) (kas_descPart k m p):=
 sL.bind (λr hr=>by
  show sL _ _ (if r.2.2 > 0 then _ else _);split
  ·exact Gg hn (hr.rev _ _) _ _
  ·exact Gg hn hr _ _) (zh hn _ p _ _ h)
theorem KB{n:Nat}(hn:0<n){p:Array Nat}(h:qQ n p)(m:Nat):sL (In2 n) (λr=>qQ n r.2) (kas_count m p):=
 sL.bind (λk _=>by
  show sL _ _ (if (k==m)=true then _ else _);split
  ·exact h
  ·split
   ·refine⟨⟨h.getD hn _,h.getD hn _⟩,λb=>?_⟩;cases b with
    |true=>exact h
    |false=>exact zi hn (h.rev _ _) _ _
   ·exact zi hn h _ _) (EW hn h _ _)
theorem z9{n:Nat}(hn:0<n){p:Array Nat}(h:qQ n p)(k:Nat):∀f l r,sL (In2 n) (λ_=>True) (kas_place p k f l r)
 |0,l,r=>trivial
 |f+1,l,r=>by
  unfold kas_place;split
  ·trivial
  ·refine⟨⟨h.getD hn _,h.getD hn _⟩,λb=>?_⟩;cases b with
   |true=>exact z9 hn h k f _ _
   |false=>exact z9 hn h k f _ _
theorem Ji{n:Nat}(hn:0<n):∀f (p:Array Nat) k,qQ n p->sL (In2 n) (qQ n) (kas_bin f p k)
 |0,p,k,h=>h
 |f+1,p,k,h=>sL.bind (λl _=>Ji hn f _ _ (h.bub _ _)) (z9 hn h k _ _ _)
theorem Cd{n:Nat}(hn:0<n):sL (In2 n) (qQ n) (iQ n):=
 sL.bind (λr hr=>by
  show sL _ _ (if r.1<n then _ else _);split
  ·exact Ji hn _ _ _ hr
  ·exact hr) (KB hn (p:=List.toArray (bC n)) (by unfold qQ;exact jM _) n)
def zj(a:Addr)(h h':Heap):Prop:=∀b o,b≠a->h.get? b=some o->h'.get? b=some o
variable{a:Addr}
section
variable{prog:aE}{w:az}{A:aH}{E:aa->af->Prop}{s:af}
def Aa(c:Nat->Nat->Bool)(vs:List aa):List aa:=(KA c (iQ vs.length)).toList.map λi=>vs.getD i Value.none
theorem MO(c:Nat->Nat->Bool)(vs:List aa)(h:0<vs.length):(Aa c vs).length=vs.length:=by unfold Aa;rw[ah];have:=(Cd h).run c _;rw[this.length_eq,f6]
theorem MP(c:Nat->Nat->Bool)(v:aa):Aa c [v]=[v]:=rfl
theorem MQ{vs:List aa}{n:Nat}{P:PySem.Fin->af->Prop}{κ:iR}{c:Nat->Nat->Bool}(ho:s.heap.get? a=some (seqObj "list" vs.toArray n))(h1:0<vs.length)(h64:vs.length<64)
  (hk:∀(h':Heap) (C:iR->af->Prop),zj a s.heap h'->C κ { s with heap:=h' }->wpAny (model prog w) A (keyKind' vs.toArray) C (λ_ _=>False) { s with heap:=h' })
  (hc:∀(h':Heap) (i j:Nat) (C:Bool->af->Prop),zj a s.heap h'->i<vs.length/\j<vs.length->C (c i j) { s with heap:=h' }->kas_ask prog w A κ vs i j C { s with heap:=h' })
  (h:∀h' e,zj a s.heap h'->h'.get? a=some (seqObj "list" (Aa c vs).toArray e)->P (.done (.ret .none)) { s with heap:=h' }):
  wpAny (model prog w) A (dP.«list.sort» ⟨[.ref a],[]⟩) P E s:=by
 have ha:a<s.heap.objs.size:=aO ho;obtain⟨e1,o1⟩:∃e1,(s.heap.update a (cQ λ_=>(#[]:Array aa))).get? a=some (seqObj "list" #[] e1):=⟨_,get?_update_seq ho λ_=>#[]⟩;generalize hw:((s.heap.update a (cQ λ_=>(#[]:Array aa))).push (seqObj "tuple" vs.toArray 0)).push (seqObj "list" #[] 0)=h3;have kb:zj a s.heap h3:=λb o hb q=>by rw[<-hw];exact aM _ (aM _ ((fR s.heap _ (cR hb)).trans q))
 have o3:h3.get? a=some (seqObj "list" #[] e1):=by rw[<-hw];exact aM _ (aM _ o1)
 rw[list_sort_plain];refine ao (listItems_at ho rfl (ao (jS ho rfl ?_ (by rw[ba,bK];omega) (cf _))));refine ao (kg o1 rfl (ao (wpAny_newTuple ?_ (by show vs.length<=_;rw[bK];omega))));refine ao (jT (cE ?_) (cf _));show wpAny (model prog w) A _ P E { s with heap:=((s.heap.update a (cQ λ_=>(#[]:Array aa))).push (seqObj "tuple" vs.toArray 0)).push (seqObj "list" #[] 0) };rw[hw];dsimp only;obtain⟨c2,hc2⟩:∃c2,(h3.update a (cQ λ_=>(Aa c vs).toArray)).get? a=some (seqObj "list" (Aa c vs).toArray c2):=⟨_,get?_update_seq o3 λ_=>(Aa c vs).toArray⟩;have fin:=h _ c2 (λb o hb q=>(fR h3 _ (cR hb)).trans (kb b o hb q)) hc2;have szo:(Aa c vs).toArray.size<=sizeLine+1:=by rw[ba,MO c vs h1,bK];omega
 by_cases h2:2<=vs.length
 ·have hn2:¬vs.toArray.size<2:=by rw[ba];omega
  rw[aj hn2,aj hn2];refine ao (bT (hk h3 (λk s'=>k=κ/\s'={ s with heap:=h3 }) kb ⟨rfl,rfl⟩) ?_ λ_ _ x=>x.elim);rintro k s' ⟨rfl,rfl⟩;refine ao (bT (kat_run (Q:=λst' s'=>s'={ s with heap:=h3 }/\(arrOf st').map (·.2)=(Aa c vs).toArray/\failedOf st'=none) (G:=λp s'=>p=KA c (iQ vs.length)/\s'={ s with heap:=h3 }) rfl h2 h64 ?_ ?_) ?_ λ_ _ e=>e)
  ·rintro p st' s' _ har hf ⟨rfl,rfl⟩;exact⟨rfl,kat_snds rfl har,hf⟩
  ·exact Jh (P:=In2 vs.length) (λi j C q r=>hc h3 i j C kb q r) (Cd h1) ⟨rfl,rfl⟩
  ·rintro⟨⟨⟩,st'⟩ s' ⟨rfl,ha2,hf⟩;dsimp only;refine ao (kg o3 rfl ?_);rw[ha2,hf];refine ao (jS o3 rfl ?_ (cf _) szo);simp only[bne_self_eq_false,eD,if_false];exact aB fin
 ·obtain⟨v,rfl⟩:∃v,vs=[v]:=by
   cases vs with
   |nil=>cases h1
   |cons v r=>
    cases r with
    |nil=>exact⟨v,rfl⟩
    |cons x y=>exact aq (by simp) h2
  refine ao (aB ?_);refine ao (aB ?_);refine ao (kg o3 rfl ?_);have eo:Array.map (λx=>x.snd) (arrOf ((),SortSt.mk' general' (#[v].zip #[v]) #[] 7 none).snd)=(Aa c [v]).toArray:=by rw[MP];show Array.map (λx=>x.snd) (#[v].zip #[v])=#[v];simp
  rw[eo];refine ao (jS o3 rfl ?_ (cf _) szo);simp only[bne_self_eq_false,eD,if_false];exact aB fin
theorem HL{l:Addr}{T:String}{o:Obj}{n:Nat}{vs:List aa}{Q:aa->af->Prop}{κ:iR}{c:Nat->Nat->Bool}(hT:T="list" \/ T="tuple")(ho:s.heap.get? l=some o)(hcl:o.cls=.type T)(hd:o.data=.seq vs.toArray n)(h1:0<vs.length)(h64:vs.length<64)
  (hk:∀(h':Heap) (C:iR->af->Prop),(∀b o,s.heap.get? b=some o->h'.get? b=some o)->C κ { s with heap:=h' }->wpAny (model prog w) A.in1.in1 (keyKind' vs.toArray) C (λ_ _=>False) { s with heap:=h' })
  (hc:∀(h':Heap) (i j:Nat) (C:Bool->af->Prop),(∀b o,s.heap.get? b=some o->h'.get? b=some o)->i<vs.length/\j<vs.length->C (c i j) { s with heap:=h' }->kas_ask prog w A.in1.in1 κ vs i j C { s with heap:=h' })
  (h:∀(g h':Heap) e,(∀b o,s.heap.get? b=some o->g.get? b=some o)->(∀b o,g.get? b=some o->h'.get? b=some o)->h'.get? g.objs.size=some (seqObj "list" (Aa c vs).toArray e)->Q (.ref g.objs.size) { s with heap:=h' }):
  wpAny (model prog w) A (call (.builtin "sorted") [.ref l]) Q E s:=by
 refine lp kind_sorted plain_sorted entry_sorted (args_sorted1 _) ?_;unfold dP.«sorted»;refine ao (m:=checkCount "sorted" 1 1 _) (aB (ao (wpAny_collect_seq l hT ho hcl hd (λg gk=>?_) (by rw[bK];simp;omega))));refine ao (jT ?_ (by rw[bK];simp;omega));show wpAny _ _ _ _ _ { s with heap:=g.push (seqObj "list" vs.toArray 0) };have on:(g.push (seqObj "list" vs.toArray 0)).get? g.objs.size=some (seqObj "list" vs.toArray 0):=bz _ rfl;have all:∀h',zj g.objs.size (g.push (seqObj "list" vs.toArray 0)) h'->∀b o,g.get? b=some o->h'.get? b=some o:=λh' kb b o q=>kb b o (aT (aO q)) (aM _ q)
 show wpAny _ _ (do let _<-holding [Value.ref g.objs.size] _;_) _ _ _;refine ao (cE (ik slot_list_sort ⟨_,on,rfl⟩ entry_list_sort ?_ (args_list_sort _)));refine MQ (s:={ s with heap:=g.push (seqObj "list" vs.toArray 0) }) on h1 h64 (λh' C kb q=>hk h' C (λb o z=>all h' kb b o (gk b o z)) q) (λh' i j C kb q r=>hc h' i j C (λb o z=>all h' kb b o (gk b o z)) q r) λh' e kb q=>?_;exact⟨_,rfl,aB ⟨_,rfl,h g h' e gk (all h' kb) q⟩⟩
end
def ltS(a b:Str):Bool:=decide (a.cps.toList<b.cps.toList)
def w5:aC->aC->Bool
 |[],[]=>false
 |[],_::_=>true
 |_::_,[]=>false
 |x::xs,y::ys=>if x=y then w5 xs ys else ltS x y
inductive qd:List aa->aC->Prop
 |nil:qd [] []
 |cons (x:Str) (t:Tok) {vs:List aa} {xs:aC} (h:qd vs xs):qd (.str x t::vs) (x::xs)
theorem qd.len{vs:List aa}{xs:aC}(h:qd vs xs):vs.length=xs.length:=by
 induction h with
 |nil=>rfl
 |cons x t h ih=>rw[aK,aK,ih]
theorem yJ:∀{xs:aC} {vs:List aa},Vals (xs.map V.str) vs->qd vs xs
 |[],vs,h=>by cases h;exact .nil
 |x::xs,vs,h=>by
  cases h with
  |cons r h'=>obtain⟨t,rfl⟩:=r;exact .cons x t (yJ h')
section
open PySem.SeqAt
open PySem.AutoSeq1 (wpAny_loadPart')
open PySem.MeetsSeq PySem.MeetsSeq2 PySem.MeetsSeq3
theorem Do(l b:Addr)(is js:Array aa)(n m:Nat)(d1 d2:Option Addr)(q1 q2:Array (Option aa))(xs ys:aC)(hi:qd is.toList xs)(hj:qd js.toList ys):
  Meets (dP.«tuple.__lt__» ⟨[.ref l,.ref b],[]⟩)
   (λ_ R s=>s.heap.get? l=some { cls:=.type "tuple", dict:=d1,data:=.seq is n,slots:=q1 }/\s.heap.get? b=some { cls:=.type "tuple", dict:=d2,data:=.seq js m,slots:=q2 }/\R (.ok (.ret (.bool (w5 xs ys)))) s):=
 .of_wp λprog w A R s h=>by
  obtain⟨hp,g,d,tk,os⟩:=s;obtain⟨hl,hb,h⟩:=h;have f2:=lu;have z1:is.size=xs.length:=by rw[<-hi.len,eB]
  have z2:js.size=ys.length:=by rw[<-hj.len,eB]
  wp_walk using lJ hl,lJ hb,ip _ (λrest b s'=>b.1=none/\s'=⟨hp,g,d,tk,os⟩/\∃(vs ws:List aa) (xs' ys':aC),rest=vs.zip ws/\qd vs xs'/\qd ws ys'/\xs'.length+js.size=ys'.length+is.size/\R (.ok (.ret (.bool (w5 xs' ys')))) ⟨hp,g,d,tk,os⟩) _
  case turn=>
   rintro⟨y,x⟩ rest b s' ⟨hb',rfl,vs,ws,xs',ys',hz,hv,hw,hlen,hR⟩;cases hv with
   |nil=>cases hz
   |cons a t hv'=>
    cases hw with
    |nil=>cases hz
    |cons c u hw'=>
     rw[c8]at hz;obtain⟨hyx,hrest⟩:=jU hz;obtain⟨rfl,rfl⟩:=j4 hyx;simp only[aK]at hlen;unfold w5 at hR;refine ao (l9 a t c u prog w _ _ ?_);by_cases hac:a=c
     ·subst hac;rw[ai rfl]at hR;simp only[beq_self_eq_true]
      wp_walk
      exact⟨rfl,rfl,_,_,_,_,hrest,hv',hw',by omega,hR⟩
     ·rw[aj hac]at hR;rw[beq_false_of_ne hac];have hri:∀(E Q),Q (.bool (decide (a.cps.toList<c.cps.toList))) (⟨hp,g,d,tk,os⟩:af)->wpAny (model prog w) A.in1 (richCompare .Lt (.str a t) (.str c u)) Q E ⟨hp,g,d,tk,os⟩:=λE Q hq=>(PyProof.Rows.lt_str hq:wpAny (model prog w) A.in1 (compareOp .Lt (.str a t) (.str c u)) Q E _)
      wp_walk using hri
      exact⟨_,rfl,by simpa [ltS]using hR⟩
  case fin=>
   rintro⟨b1,b2⟩ s' ⟨hb',rfl,vs,ws,xs',ys',hz,hv,hw,hlen,hR⟩;simp only at hb';subst hb';have hq:w5 xs' ys'=decide (is.size<js.size):=by
    cases hv with
    |nil=>
     cases hw with
     |nil=>exact(aQ (by simp only[cO]at hlen;omega)).symm
     |cons c u hw=>exact(bg (by simp only[cO,aK]at hlen;omega)).symm
    |cons a t hv=>
     cases hw with
     |nil=>exact(aQ (by simp only[cO,aK]at hlen;omega)).symm
     |cons c u hw=>cases hz
   rw[hq]at hR
   wp_walk
   exact⟨_,rfl,by simpa [Builtin.Tuple.tupleCompareSizes]using hR⟩
  case h=>exact⟨rfl,rfl,is.toList,js.toList,xs,ys,rfl,hi,hj,by omega,h⟩
end
section
variable{prog:aE}{w:az}{A:aH}{E:aa->af->Prop}{s:af}
theorem HM{l b:Addr}{is js:Array aa}{xs ys:aC}{Q:aa->af->Prop}(hl:dr s.heap l is)(hb:dr s.heap b js)(hi:qd is.toList xs)(hj:qd js.toList ys)(hu:A.units<cLine)(h:Q (.bool (w5 xs ys)) s):
  wpAny (model prog w) A (compareOp .Lt (.ref l) (.ref b)) Q E s:=by
 obtain⟨⟨c1,d1,p1,s1⟩,o1,rfl,n,rfl⟩:=id hl;obtain⟨⟨c2,d2,p2,s2⟩,o2,rfl,m,rfl⟩:=id hb;exact richCompare_meets_room (op:=.Lt) ⟨_,o1,rfl⟩ ⟨_,o2,rfl⟩ F.slot_tuple_lt F.entry_tuple_lt (F.args_tuple_lt_2 _ _) (Do l b is js n m d1 d2 s1 s2 xs ys hi hj) ⟨o1,o2,show Value.bool (w5 xs ys)≠Value.notImplemented/\Q (.bool (w5 xs ys)) s from⟨(λx=>nomatch x),h⟩⟩ hu
end
def Gh(c:Nat->Nat->Bool)(n:Nat):List Nat:=(KA c (iQ n)).toList
theorem Ab(c:Nat->Nat->Bool){n:Nat}(h:0<n):(Gh c n).Perm (bC n):=(Cd h).run c _
theorem EX(c:Nat->Nat->Bool){n:Nat}(h:0<n):∀i∈Gh c n,i<n:=λi hi=>cv.mp ((Ab c h).mem_iff.mp hi)
theorem DV:∀l:aC,w5 l l=false
 |[]=>rfl
 |x::l=>by unfold w5;rw[ai rfl];exact DV l
theorem DW:∀(l m:aC),tG (l.map L3.Dq.str) (m.map L3.Dq.str)=decide (l=m)
 |[],[]=>by rw[bJ,tG];simp
 |[],y::m=>by rw[bJ,ay,tG]<;>simp
 |x::l,[]=>by rw[bJ,ay,tG]<;>simp
 |x::l,y::m=>by
  rw[ay,ay,tG,DW l m,eqD];by_cases h1:x=y
  ·subst h1;by_cases h2:l=m
   ·subst h2;simp
   ·simp[h2]
  ·have:(x==y)=false:=beq_false_of_ne h1;rw[this];simp[h1]
theorem DX{xs:bt}{us:List aa}(r:Vals xs us):∀(is:List Nat),(∀i∈is,i<xs.length)->Vals (is.map λi=>xs.getD i V.non) (is.map λi=>us.getD i Value.none)
 |[],_=>.nil
 |i::is,h=>by have hi:=h i (.head _);obtain⟨u,e,ru⟩:=r.get (aP hi);refine .cons ?_ (DX r is λj hj=>h j (.tail _ hj));show RelV (xs.getD i V.non) (us.getD i Value.none);rw[cp,cp,e,aP hi];exact ru
variable{e:Expr}{f:FE}
section
variable{X:Cx}{G:Bg}{pins:cn}{σ:St}{H:Hp}{s:af}
def vU(K:au)(H:Hp)(y:V)(k:aC):Prop:=∃a b v,y=.ref a/\SqT K H a [.ref b,v]/\SqT K H b (k.map V.str)
theorem HN(I:Inv X pins σ H s){y:V}{k:aC}{u:aa}(p:vU X.K H y k)(r:RelV y u):
  ∃a b v,u=.ref a/\dr s.heap a #[.ref b,v]/\SqT X.K H b (k.map V.str):=by
 obtain⟨a,b,v,rfl,h1,h2⟩:=p;cases r;obtain⟨its,ri,ti,_⟩:=I.tuple h1;cases ri with
 |cons q1 q2=>
  cases q1;cases q2 with
  |cons q3 q4=>cases q4;exact⟨a,b,_,rfl,ti,h2⟩
theorem seq_val{pins:cn}{s:af}{σ:St}{H:Hp}{ys:bt}(I:Inv X pins σ H s)(hq:SqL X.K H a ys\/SqT X.K H a ys):∃its,Vals ys its/\∃T o n,(T="list" \/ T="tuple")/\s.heap.get? a=some o/\o.cls=.type T/\o.data=.seq its.toArray n:=by
 rcases hq with hq|hq
 ·obtain⟨its,ri,pl,_⟩:=I.list hq;obtain⟨o,a1,a2,n,a3⟩:=pl.isList;exact⟨its,ri,_,o,n,.inl rfl,a1,a2,a3⟩
 ·obtain⟨its,ri,⟨o,a1,a2,n,a3⟩,_⟩:=I.tuple hq;exact⟨its,ri,_,o,n,.inr rfl,a1,a2,a3⟩
theorem EY(hu:X.A.units+64<cLine):p6 X (.builtin "sorted") (λxs H Q=>∃(a:Addr) (ys:bt) (ks:List aC),xs=[.ref a]/\(SqL X.K H a ys\/SqT X.K H a ys)/\0<ys.length/\ys.length<64/\ks.length=ys.length/\ks.Nodup/\(∀(i:Nat) (y:V) (k:aC),ys[i]?=some y->ks[i]?=some k->vU X.K H y k)/\
  ∀p,H p=none->Q (.ref p) (upd H p (.lst ((Gh (λi j=>w5 (ks.getD i []) (ks.getD j [])) ys.length).map λi=>ys.getD i V.non)))):=by
 intro pins s σ H xs us Q I r h;obtain⟨a,ys,ks,rfl,hq,h1,h64,hkl,nd,hp,q⟩:=h;obtain⟨u,rfl,ru⟩:=vals1 r;cases ru;obtain⟨its,ri,T,ob,nn,hT,b1,b2,b3⟩:=seq_val I hq;have hl:ys.length=its.length:=ri.length;have item:∀{h':Heap},(∀b o,s.heap.get? b=some o->h'.get? b=some o)->∀i,i<its.length->∃a b v,its.getD i Value.none=.ref a/\dr h' a #[.ref b,v]/\SqT X.K H b ((ks.getD i []).map V.str)/\its[i]?=some (.ref a):=λ{h'} kk i hi=>by
  have I':Inv X pins σ H { s with heap:=h',toks:=s.toks }:=I.kept kk;have hy:i<ys.length:=by omega
  have hk:i<ks.length:=by omega
  obtain⟨u,e,ru⟩:=ri.get (aP hy);obtain⟨a,b,v,rfl,t,t2⟩:=HN I' (hp i _ _ (aP hy) (aP hk)) ru;refine⟨a,b,v,?_,t,?_,e⟩
  ·rw[cp,e];rfl
  ·rw[cp,aP hk];exact t2
 refine HL (κ:=tuples' false) (c:=λi j=>w5 (ks.getD i []) (ks.getD j [])) hT b1 b2 b3 (by omega) (by omega) (λh' C kk hC=>?_) (λh' i j C kk hij hC=>?_) λg h' e k1 k2 ho=>?_
 ·
  have I':Inv X pins σ H { s with heap:=h',toks:=s.toks }:=I.kept kk;have tups:∀(l:List aa),(∀v∈l,∃i,i<its.length/\its[i]?=some v)->∃fs,KatTups h' l fs/\fs.length=l.length/\∀f∈fs,∃(b:Addr) (k:aC),f=.ref b/\SqT X.K H b (k.map V.str):=λl=>by
   induction l with
   |nil=>exact λ_=>⟨[],KatTups.nil,rfl,λf hf=>by cases hf⟩
   |cons v l ih=>
    intro hv;obtain⟨fs,f1,f2,f3⟩:=ih λw hw=>hv w (.tail _ hw);obtain⟨i,hi,ei⟩:=hv v (.head _);obtain⟨a,b,w,_,⟨o,t1,t2,n,t3⟩,t4,t5⟩:=item kk i hi;rw[ei]at t5;cases t5;refine⟨.ref b::fs,KatTups.cons t1 t2 t3 (by simp) f1,by rw[aK,aK,f2],λf hf=>?_⟩;rcases aN.mp hf with rfl|hf
    ·exact⟨b,_,rfl,t4⟩
    ·exact f3 f hf
  obtain⟨fs,f1,f2,f3⟩:=tups its λv hv=>by obtain⟨i,hi,e⟩:=jo.mp hv;exact⟨i,hi,by rw[aP hi,e]⟩
  refine kat_kind (T:=.type "tuple") f1 (by omega) (λv hv=>?_) (by decide) hC;obtain⟨b,k,rfl,hb⟩:=f3 v hv;obtain⟨_,_,⟨o,t1,t2,_⟩,_⟩:=I'.tuple hb;rw[<-t2];exact(Looks.ld t1).andThen .now
 ·
  have I':Inv X pins σ H { s with heap:=h',toks:=s.toks }:=I.kept kk;obtain⟨a1,b1,v1,e1,⟨o1,g1,c1,n1,d1⟩,k1,_⟩:=item kk i hij.1;obtain⟨a2,b2,v2,e2,⟨o2,g2,c2,n2,d2⟩,k2,_⟩:=item kk j hij.2;unfold kas_ask;by_cases hne:i=j
  ·subst hne;rw[e1]at e2;cases e2;rw[e1];refine kat_lt g1 d1 g1 d1 ?_;show KatLex _ _ _ _ _ _ [(Value.ref b1,Value.ref b1),(v1,v1)] 0 _;refine kat_cons (f9 _ _ _ _ _ (kat_yes (kat_cons (f9 _ _ _ _ _ (kat_yes (kat_nil ?_))))));rw[DV]at hC;exact hC
  ·rw[e1,e2];have kne:ks.getD i []≠ks.getD j []:=λz=>hne (by
    have hi:i<ks.length:=by omega
    have hj:j<ks.length:=by omega
    rw[cp,cp,aP hi,aP hj]at z;have pw:=lq.mp nd;rcases mE i j with y|y|y
    ·exact aq z (pw i j hi hj y)
    ·exact y
    ·exact aq z.symm (pw j i hj hi y))
   refine kat_lt g1 d1 g2 d2 ?_;show KatLex _ _ _ _ _ _ [(Value.ref b1,Value.ref b2),(v1,v2)] 0 _;have rp:∀{b:Addr} {k:aC},SqT X.K H b (k.map V.str)->L3.Rep X.K H (L3.Dq.tup (k.map L3.Dq.str)) (.ref b):=λh=>by unfold L3.Rep;exact⟨_,_,rfl,h,DK _⟩
   have dp:∀l:aC,dpt (L3.Dq.tup (l.map L3.Dq.str))=1:=λl=>by unfold dpt;rw[u5]
   have eq:=LD I' _ _ _ _ (.ref b1) (.ref b2) X.A.in1.in1 (rp k1) (rp k2) rfl rfl (by rw[dp,dp,iq,iq];omega);rw[show eqD (L3.Dq.tup ((ks.getD i []).map L3.Dq.str)) (L3.Dq.tup ((ks.getD j []).map L3.Dq.str))=false from by rw[eqD,DW];exact aQ kne]at eq;refine kat_cons (eq _ _ _ _ (kat_no ?_));obtain⟨i1,r1,t1,_⟩:=I'.tuple k1;obtain⟨i2,r2,t2,_⟩:=I'.tuple k2;exact kat_one _ _ (HM t1 t2 (yJ r1) (yJ r2) (by rw[iq,iq];omega) hC)
 ·have I1:Inv X pins σ H { s with heap:=g,toks:=s.toks }:=I.kept k1;refine⟨.ref g.objs.size,_,I1.laid (t':=s.toks) k2 (aI _) ?_,rfl,q _ (I1.hok.fresh (aI _))⟩;have hn:0<ys.length:=h1;refine⟨?_,Aa _ its,e,?_,ho⟩
  ·rw[ah,(Ab _ hn).length_eq,f6,bK];omega
  ·unfold Aa;rw[<-hl];exact DX ri _ λi hi=>EX _ hn i hi
def w6:aA->Option aC
 |[]=>some []
 |.str x::ds=>match w6 ds with
  |some xs=>some (x::xs)
  |none=>none
 |_=>none
def MR:D->Option aC
 |.tup [.tup ks,_]=>w6 ks
 |_=>none
def w9:aA->Option (List aC)
 |[]=>some []
 |d::ds=>match MR d,w9 ds with
  |some k,some ks=>some (k::ks)
  |_,_=>none
def DY(ds:aA):Option aA:=match w9 ds with
 |some ks=>if ks.Nodup/\0<ds.length/\ds.length<64 then some ((Gh (λi j=>w5 (ks.getD i []) (ks.getD j [])) ds.length).map λi=>ds.getD i .non)else none
 |none=>none
def Ce(f:FE):FA:=λρ=>match f ρ with
 |some (.lst ds,ρ')=>match DY ds with
  |some es=>some (es,ρ')
  |none=>none
 |_=>none
theorem vV:∀{ds:aA} {xs:bt} {l:aC},oq G H ds xs->w6 ds=some l->xs=l.map V.str
 |[],xs,l,r,e=>by cases e;unfold oq at r;exact r
 |d::ds,xs,l,r,e=>by
  cases d with
  |str x=>
   unfold w6 at e;cases e1:w6 ds with
   |none=>rw[e1]at e;cases e
   |some l'=>rw[e1]at e;cases e;unfold oq at r;obtain⟨v,r',rfl,h1,h2⟩:=r;unfold Rep at h1;subst h1;rw[vV h2 e1,ay]
  |_=>cases e
theorem MS{d:D}{v:V}{k:aC}(r:Rep G H d v)(e:MR d=some k):vU G.K H v k:=by
 unfold MR at e;split at e
 ·rename_i ks w;unfold Rep at r;obtain⟨a,xs,rfl,h1,h2⟩:=r;unfold oq at h2;obtain⟨v1,r1,rfl,q1,q2⟩:=h2;unfold oq at q2;obtain⟨v2,r2,rfl,_,q3⟩:=q2;unfold oq at q3;subst q3;unfold Rep at q1;obtain⟨b,ys,rfl,p1,p2⟩:=q1;rw[vV p2 e]at p1;exact⟨a,b,v2,rfl,h1,p1⟩
 ·cases e
theorem DZ:∀{ds:aA} {ks:List aC},w9 ds=some ks->ks.length=ds.length
 |[],ks,e=>by cases e;rfl
 |d::ds,ks,e=>by
  unfold w9 at e;cases e1:MR d with
  |none=>rw[e1]at e;cases e
  |some k=>
   cases e2:w9 ds with
   |none=>rw[e1,e2]at e;cases e
   |some ks'=>rw[e1,e2]at e;cases e;rw[aK,aK,DZ e2]
theorem D1:∀{ds:aA} {ks:List aC} {xs:bt},oq G H ds xs->w9 ds=some ks->∀(i:Nat) (y:V) (k:aC),xs[i]?=some y->ks[i]?=some k->vU G.K H y k
 |[],ks,xs,r,e,i,y,k,h1,h2=>by cases e;cases h2
 |d::ds,ks,xs,r,e,i,y,k,h1,h2=>by
  unfold w9 at e;cases e1:MR d with
  |none=>rw[e1]at e;cases e
  |some k'=>
   cases e2:w9 ds with
   |none=>rw[e1,e2]at e;cases e
   |some ks'=>
    rw[e1,e2]at e;cases e;unfold oq at r;obtain⟨v,r',rfl,q1,q2⟩:=r;cases i with
    |zero=>cases h1;cases h2;exact MS q1 e1
    |succ i=>exact D1 q2 e2 i y k h1 h2
theorem D2{ds:aA}{xs:bt}(r:oq G H ds xs):∀(is:List Nat),(∀i∈is,i<ds.length)->oq G H (is.map λi=>ds.getD i .non) (is.map λi=>xs.getD i V.non)
 |[],_=>o8
 |i::is,h=>by have hi:=h i (.head _);obtain⟨v,e,rv⟩:=qe r (aP hi);refine o7 ?_ (D2 r is λj hj=>h j (.tail _ hj));show Rep G H (ds.getD i .non) (xs.getD i V.non);rw[cp,cp,e,aP hi];exact rv
theorem SqT.same{K:au}{H0 H1:Hp}{y:V}{k:aC}(s:oE H0 H1)(p:vU K H0 y k):vU K H1 y k:=by obtain⟨a,b,v,e,h1,h2⟩:=p;exact⟨a,b,v,e,SqT.mono s h1,SqT.mono s h2⟩
theorem Gi{g:FE}(hg:∀ρ ds ρ1,g ρ=some (.lst ds,ρ1)->f ρ=some (.lst ds,ρ1)\/f ρ=some (.tup ds,ρ1))(h:PE X e (tCB (λxs H Q=>∃(a:Addr) (ys:bt) (ks:List aC),xs=[.ref a]/\(SqL G.K H a ys\/SqT G.K H a ys)/\0<ys.length/\ys.length<64/\ks.length=ys.length/\ks.Nodup/\(∀(i:Nat) (y:V) (k:aC),ys[i]?=some y->ks[i]?=some k->vU G.K H y k)/\
  ∀p,H p=none->Q (.ref p) (upd H p (.lst ((Gh (λi j=>w5 (ks.getD i []) (ks.getD j [])) ys.length).map λi=>ys.getD i V.non)))) (tFA G (oa f oJ)))):PE X e (tFN G (Ce g)):=PE.weak h λσ H Q hh=>by
 obtain⟨F,ρ,H0,es,ρ',R,e,k⟩:=hh;unfold Ce at e;split at e
 ·rename_i ds ρ1 e1;cases e2:DY ds with
  |none=>simp only[e2]at e;cases e
  |some es'=>
   simp only[e2]at e;cases e;unfold DY at e2;cases e3:w9 ds with
   |none=>simp only[e3]at e2;cases e2
   |some ks=>
    simp only[e3]at e2;split at e2
    ·rename_i hh;obtain⟨nd,hn,h64⟩:=hh;cases e2;have xx:∃x,f ρ=some (x,ρ')/\∀H v,Rep G H x v->∃a xs,v=V.ref a/\(H a=some (.lst xs)\/SqT G.K H a xs)/\oq G H ds xs:=by
      rcases hg _ _ _ e1 with q|q
      ·exact⟨_,q,λH v r=>by unfold Rep at r;obtain⟨a,xs,e,h1,h2⟩:=r;exact⟨a,xs,e,.inl h1,h2⟩⟩
      ·exact⟨_,q,λH v r=>by unfold Rep at r;obtain⟨a,xs,e,h1,h2⟩:=r;exact⟨a,xs,e,.inr h1,h2⟩⟩
     obtain⟨x,ex,hx⟩:=xx;refine⟨F,ρ,H0,[x],_,R,by unfold oa;rw[ex];rfl,λys H1 H1' s R' rs=>?_⟩;unfold oq at rs;obtain⟨v,r0,rfl,rv,rn⟩:=rs;unfold oq at rn;subst rn;obtain⟨a,xs,rfl,h1,h2⟩:=hx _ _ rv;have hl:=ou h2;refine⟨a,xs,ks,rfl,h1.imp (λh=>SqL.of (R'.sub _ _ h)) (SqT.mono R'.sub),by omega,by omega,by rw[DZ e3,hl],nd,λi y kk q1 q2=>SqT.same R'.sub (D1 h2 e3 i y kk q1 q2),λp hp=>?_⟩;refine k p _ _ _ s (R'.newOwn hp _) oA (R'.h0none hp) (R'.bNone hp) (R'.apart hp) ?_;rw[<-hl];exact D2 h2 _ λi hi=>EX _ hn i hi
    ·cases e2
 ·cases e
theorem HP(h:PE X e (tCB (λxs H Q=>∃(a:Addr) (ys:bt) (ks:List aC),xs=[.ref a]/\(SqL G.K H a ys\/SqT G.K H a ys)/\0<ys.length/\ys.length<64/\ks.length=ys.length/\ks.Nodup/\(∀(i:Nat) (y:V) (k:aC),ys[i]?=some y->ks[i]?=some k->vU G.K H y k)/\
  ∀p,H p=none->Q (.ref p) (upd H p (.lst ((Gh (λi j=>w5 (ks.getD i []) (ks.getD j [])) ys.length).map λi=>ys.getD i V.non)))) (tFA G (oa f oJ)))):PE X e (tFN G (Ce f)):=Gi (λ_ _ _ h=>.inl h) h
theorem EZ(hu:X.A.units+64<cLine)(hK:X.K=G.K:=by rfl):p6 X (.builtin "sorted") (λxs H Q=>∃(a:Addr) (ys:bt) (ks:List aC),xs=[.ref a]/\(SqL G.K H a ys\/SqT G.K H a ys)/\0<ys.length/\ys.length<64/\ks.length=ys.length/\ks.Nodup/\(∀(i:Nat) (y:V) (k:aC),ys[i]?=some y->ks[i]?=some k->vU G.K H y k)/\
  ∀p,H p=none->Q (.ref p) (upd H p (.lst ((Gh (λi j=>w5 (ks.getD i []) (ks.getD j [])) ys.length).map λi=>ys.getD i V.non)))):=by rw[<-hK];exact EY hu
end
end L4
namespace L4
open PySem PySem.Spec PyProof.Rows L2 L3
section
variable{X:Cx}{G:Bg}
theorem PR:OpD G (λx y H Q=>∃z n,x=.str z/\y=.int n/\MulOk z n/\Q (.str (gu z n)) H) F2:=λx y z H0 H v u Q e s rx ry k=>by
 unfold F2 at e;split at e
 ·rename_i a n;split at e
  ·rename_i hl;obtain⟨h0,h1,h2⟩:=hl;cases e;unfold Rep at rx ry;refine⟨a,n,rx,ry,⟨?_,λh3 h4 h5=>?_,λh3 h4=>?_⟩,k _ λ_ _=>vK _⟩
   ·rw[jq];exact⟨aQ (by omega),aQ (by omega)⟩
   ·have hn:(0:Int)<n:=by omega
    have q:(9223372036854775807:Int) / n >= 9223372036854775:=by have:=Int.le_ediv_of_mul_le (a:=9223372036854775) (b:=9223372036854775807) hn (by omega);exact this
    have:((2:Int) ^ 63 - 1)=9223372036854775807:=by decide
    rw[this]at h5;omega
   ·have hn:n.toNat<=1000:=by omega
    have:a.length * n.toNat<=100 * 1000:=Nat.mul_le_mul h2 hn;refine aQ ?_;rw[bK];omega
  ·cases e
 ·cases e
theorem PU{a b:Expr}{f f':FE}{pos:Pos}(hu:X.A.units+1<cLine)(ha:PE X a (tF G f))(hb:PE X b (tF G f'))(h1:behindInMarks .In b=false:=by rfl):PT X (.Compare a [.In] [b] pos) (tFT G (cT (c2 (yF false) f f'))):=PT.weak (Q8 (Lv hu ha hb) h1) λσ H Q hh=>Mq σ H _ (EK σ H Q hh)
end
def Jj:List String:=["NoneType", "bool", "int", "str", "tuple", "list", "dict"]
def D3(n c:Nat):Ty->Option Bool:=λy=>match y with
 |.b x=>if Jj.contains x=true then some false else none
 |.c k=>if k<n then some (k==c)else none
def Bu(K:au)(cs:List Addr)(C:Addr)(c:Nat):Bool:=
 Jj.all (λx=>cK K (.type x) (.ref C)==some false)&&(bC cs.length).all λk=>cK K (.ref (cs.getD k 0)) (.ref C)==some (k==c)
theorem D4{B:Bg}{n c:Nat}{cs:List Addr}(h:Bu B.K cs (B.ca c) c=true)(hn:cs.length=n)(hc:∀k,k<n->cs.getD k 0=B.ca k)(hI:∀k,k<n->Kj B.K (B.ca k)):Hz B c (D3 n c):=by
 unfold Bu at h;rw[bf,bD,bD]at h;refine⟨λy b e=>?_,λj b e=>?_⟩
 ·cases y with
  |b x=>
   unfold D3 at e;simp only at e;split at e
   ·rename_i hx;cases e;exact eO (h.1 x (lM.mp hx))
   ·cases e
  |c k=>
   unfold D3 at e;simp only at e;split at e
   ·rename_i hk;cases e;have:=eO (h.2 k (cv.mpr (by omega)));rw[hc k hk]at this;exact this
   ·cases e
 ·unfold D3 at e;simp only at e;split at e
  ·rename_i hk;exact hI j hk
  ·cases e
theorem S8{l:List Addr}(h:l.Nodup){j k:Nat}(hj:j<l.length)(hk:k<l.length)(e:l.getD j 0=l.getD k 0):j=k:=by
 rw[cp,cp,aP hj,aP hk]at e;have pw:=lq.mp h;rcases mE j k with y|y|y
 ·exact aq e (pw j k hj hk y)
 ·exact y
 ·exact aq e.symm (pw k j hk hj y)
section
variable{B:Bg}{K:au}{mg:Str->Option aa}{h:Heap}
theorem const_int{x:Str}{i:Int}{t:Tok}(X:K.In h)(Gn:h.Ns mainGlobals mg)(e:gx K mainGlobals x=some (some (.int i t))):xM B mg x (.int i):=
 ⟨.int i,_,iV X Gn e,⟨_,rfl⟩,λ_=>qz _⟩
inductive vW:List aa->aC->Prop
 |nil:vW [] []
 |cons {v:aa} {x:Str} {t:Tok} {vs:List aa} {xs:aC} (e:v=.str x t) (h:vW vs xs):vW (v::vs) (x::xs)
theorem vW.vals{vs:List aa}{xs:aC}(h:vW vs xs):Vals (xs.map V.str) vs:=by
 induction h with
 |nil=>exact .nil
 |cons e h ih=>exact .cons ⟨_,e⟩ ih
theorem Cf{H:Hp}:∀xs:aC,oq B H (xs.map D.str) (xs.map V.str)
 |[]=>o8
 |x::xs=>o7 (vK x) (Cf xs)
theorem HQ{x:Str}{a:Addr}{o:Obj}{its:Array aa}{n:Nat}(xs:aC)(X:B.K.In h)(Gn:h.Ns mainGlobals mg)(e:gx B.K mainGlobals x=some (some (.ref a)))(l:B.K.lookup a=some o)(hc:o.cls=.type "tuple")(hd:o.data=.seq its n)(hz:its.size<=1000)
  (r:vW its.toList xs):xM B mg x (.tup (xs.map D.str)):=
 ⟨.ref a,_,iV X Gn e,rfl,λH=>vJ (.inr ⟨o,its,n,l,hc,hd,by rw[bK];omega,r.vals⟩) (Cf xs)⟩
end
variable{ns:aC}{np:Nat}
section
variable{f g' h:FS}{c:FT}{e e' e2:FE}{a a':FA}{ρ ρ' ρ1 ρ2 ρ3:aW}{d x y z:D}{ds xs ys:aA}{k:Nat}{cap:List Nat}{g:FG}{ft:FT}{fe:FE}
theorem Cg{α:Type}(dd:α->D)(p:α->Bool)(h:α->D):∀l:List α,
  (∀a∈l,∃ρ1 ρ2,g (dd a) (xZ k cap ρ)=some ρ1/\ft ρ1=some (p a,ρ2)/\(p a=true->∃ρ3,fe ρ2=some (h a,ρ3)/\rE cap (ρ3.drop k) ρ=some ρ)/\(p a=false->rE cap (ρ2.drop k) ρ=some ρ))->
  sF k cap g ft fe (l.map dd) ρ=some ((l.filter p).map h,ρ)
 |[],_=>rfl
 |a::l,st=>by
  obtain⟨ρ1,ρ2,h1,h2,h3,h4⟩:=st a aV;have ih:=Cg dd p h l λa' ha=>st a' (bh _ ha);rw[ay];unfold sF;rw[h1];simp only[h2];cases hp:p a with
  |true=>obtain⟨ρ3,h5,h6⟩:=h3 hp;simp only[h5,h6,ih,c9,hp,if_true,ay]
  |false=>simp only[h4 hp,ih,c9,hp];rfl
theorem E1{α:Type}(dd:α->D)(h:α->D)(l:List α)(st:∀a∈l,∃ρ1 ρ3,g (dd a) (xZ k cap ρ)=some ρ1/\fe ρ1=some (h a,ρ3)/\rE cap (ρ3.drop k) ρ=some ρ):sF k cap g pR fe (l.map dd) ρ=some (l.map h,ρ):=by have:=Cg (ft:=pR) dd (λ_=>true) h l λa ha=>let ⟨ρ1,ρ3,h1,h2,h3⟩:=st a ha;⟨ρ1,ρ1,h1,rfl,λ_=>⟨ρ3,h2,h3⟩,λz=>by cases z⟩;rw[this,jw.mpr λ_ _=>rfl]
theorem ro(neg:Bool)(a b:Str):dEq neg (.str a) (.str b)=some (.bl (if neg then !decide (a=b)else decide (a=b))):=by
 have e:za neg (.str a) (.str b)=some (.bl (if neg then !decide (V.str a=V.str b)else decide (V.str a=V.str b))):=rfl;have e2:decide (V.str a=V.str b)=decide (a=b):=by
  by_cases h:a=b
  ·subst h;simp
  ·rw[aQ h,aQ (λz=>h (by injection z))]
 unfold dEq;rw[e,e2]
theorem MU(a:Str)(l:aC):inV (V.str a) (l.map V.str)=decide (a∈l):=by
 unfold inV;rw[cD,fo,bB];constructor
 ·rintro⟨v,hv,he⟩;obtain⟨b,hb,rfl⟩:=aL.mp hv;have:b=a:=by unfold eqV at he;simpa using he
  rw[<-this];exact hb
 ·intro ha;refine⟨.str a,cu ha,?_⟩;unfold eqV;simp
theorem KC(l:aC):(l.map D.str).all qV=true:=by rw[nu,bD];intro x _;rfl
theorem PV(l:aC):(l.map D.str).map vD=l.map V.str:=by rw[aU];rfl
theorem rF(neg:Bool)(a:Str)(l:aC):dIn neg (.str a) (.lst (l.map D.str))=some (.bl (if neg then !decide (a∈l)else decide (a∈l))):=by unfold dIn;show (if qV (.str a)&&(l.map D.str).all qV then some (D.bl (if neg then !inV (vD (.str a)) ((l.map D.str).map vD)else inV (vD (.str a)) ((l.map D.str).map vD)))else none)=_;rw[KC,PV];show some (D.bl (if neg then !inV (V.str a) (l.map V.str)else inV (V.str a) (l.map V.str)))=_;rw[MU]
theorem Gj(neg:Bool)(a:Str)(l:aC):dIn neg (.str a) (.tup (l.map D.str))=some (.bl (if neg then !decide (a∈l)else decide (a∈l))):=rF neg a l
theorem E2:∀bs:List Bool,Dm (bs.map D.bl)=some bs
 |[]=>rfl
 |b::bs=>by rw[ay];unfold Dm;rw[E2 bs];rfl
theorem MV(bs:List Bool):uz (.lst (bs.map D.bl))=some (.bl (bs.all id)):=by unfold uz;simp only[E2];rfl
theorem MW(bs:List Bool):Bk (.lst (bs.map D.bl))=some (.bl (bs.any id)):=by unfold Bk;simp only[E2];rfl
theorem Jk{α:Type}(l:List α)(p:α->Bool):uz (.lst (l.map λa=>D.bl (p a)))=some (.bl (l.all p)):=by rw[show (l.map λa=>D.bl (p a))=(l.map p).map D.bl by rw[aU];rfl,MV,nu];rfl
theorem Jl{α:Type}(l:List α)(p:α->Bool):Bk (.lst (l.map λa=>D.bl (p a)))=some (.bl (l.any p)):=by rw[show (l.map λa=>D.bl (p a))=(l.map p).map D.bl by rw[aU];rfl,MW,List.any_map];rfl
theorem Ci:∀l:aC,yh (l.map D.str)=some (l.map Sum.inr)
 |[]=>rfl
 |x::l=>by rw[ay];unfold yh;rw[Ci l];rfl
theorem MX:∀(l acc:List Key),(acc++l).Nodup->l.foldl ddp acc=acc++l
 |[],acc,_=>by rw[br];rfl
 |k::l,acc,h=>by
  have hn:acc.any (λz=>decide (z=k))=false:=by rw[ig];intro z;obtain⟨y,hy,ey⟩:=fo.mp z;rw[bV]at h;exact h.2.2 y hy k aV (bj ey)
  rw[mS,show ddp acc k=acc++[k] by unfold ddp;rw[hn];rfl,MX l (acc++[k]) (by simpa using h)];simp
theorem sM{l:aC}(h:l.Nodup):(l.map (Sum.inr:Str->Key)).Nodup:=by unfold List.Nodup at h ⊢;rw[List.pairwise_map];exact h.imp λhne z=>hne (iG z)
theorem AE{l:aC}(h:l.Nodup)(hl:l.length<=1000):sd (l.map D.str)=some (.int l.length):=by unfold sd;rw[Ci];simp only[ah,hl,if_true];unfold uA;rw[MX _ [] (by simpa using sM h)];simp
theorem se(neg:Bool)(a b:Int):dEq neg (.int a) (.int b)=some (.bl (if neg then !decide (a=b)else decide (a=b))):=by
 have e:za neg (.int a) (.int b)=some (.bl (if neg then !decide (V.int a=V.int b)else decide (V.int a=V.int b))):=rfl;have e2:decide (V.int a=V.int b)=decide (a=b):=by
  by_cases h:a=b
  ·subst h;simp
  ·rw[aQ h,aQ (λz=>h (by injection z))]
 unfold dEq;rw[e,e2]
theorem pC(h1:e ρ=some (.bl true,ρ1)):pW e e' ρ=e' ρ1:=by unfold pW;rw[h1]
theorem qA{g:Nat->Option (aA->Option D)}{m:Str}{c:Nat}{hh:aA->Option D}(h1:e ρ=some (.obj c ns xs,ρ1))(h2:g c=some hh)(h3:ns.contains m=false)(h4:a ρ1=some (ys,ρ2))(h5:hh (.obj c ns xs::ys)=some d):pH g m e a ρ=some (d,ρ2):=by unfold pH;rw[h1];simp only[h2,h3,h4,h5];rfl
theorem PX{c:Nat}{g:aA->Option (aC×aA)}(h1:a ρ=some (ds,ρ1))(h2:g ds=some (ns,xs)):pj c g a ρ=some (.obj c ns xs,ρ1):=by unfold pj;rw[h1];simp only[h2]
theorem vX{n:Nat}{b:FS}(hl:ds.length=np)(h:b (L4.stE n ds)=some (.nx ρ)):fnD np n b ds=some .non:=by unfold fnD;rw[ai hl,h]
theorem S9{n:Nat}{b:FS}(hl:ds.length=np)(h:b (L4.stE n ds)=some (.rn xs ρ)):fnD np n b ds=some (.lst xs):=by unfold fnD;rw[ai hl,h]
theorem xa:∀{ks:List Key} {ds:aA} {k:Key} {d:D},ks.Nodup->(k,d)∈ks.zip ds->qf ks ds k=some d
 |[],_,k,d,_,h=>by simp at h
 |k'::ks,[],k,d,_,h=>by simp at h
 |k'::ks,d'::ds,k,d,nd,h=>by
  unfold qf;rw[c8]at h;rcases aN.mp h with e|h
  ·cases e;rw[ai rfl]
  ·rw[bY]at nd;rw[aj (λz=>nd.1 (by subst z;exact(iu h).1))];exact xa nd.2 h
theorem xP:∀{ks:List Key} {ds:aA} {k:Key},k∉ks->qf ks ds k=none
 |[],ds,k,_=>by unfold qf;rfl
 |k'::ks,[],k,_=>by unfold qf;rfl
 |k'::ks,d'::ds,k,h=>by unfold qf;rw[aj (λz=>h (by subst z;exact aV))];exact xP λz=>h (bh _ z)
end
end L4
namespace L4
open PySem PySem.Spec PyProof.Rows L2 L3
open PySem.W (nsIn findIn keepIn isFn makesIn fnOf)
def HR{α:Type}:Nat->(List α->Prop)->Prop
 |0,P=>P []
 |n+1,P=>∀a,HR n λl=>P (a::l)
theorem Bv{α:Type}:∀{n:Nat} {P:List α->Prop},HR n P->∀l,l.length=n->P l
 |0,P,h,[],_=>h
 |n+1,P,h,a::l,e=>Bv (P:=λl=>P (a::l)) (h a) l (gh e)
structure CF(K:au)(C:Addr)(xs:aC):Prop where
 ci:Kj K C
 mks:makesIn K C=true
 kp:keepIn K (.ref C)=true
 na:(xs.all λx=>match findIn K (.ref C) x with|some none=>true|_=>false)=true
theorem CF.at{K:au}{C:Addr}{xs:aC}(c:CF K C xs)(i:Nat){x:Str}(h:xs[i]?=some x):Cls K C/\ud K C x:=⟨c.ci.cl,by
 have e:=bD.mp c.na x (cB h);unfold ud;split at e
 ·rename_i e1;exact e1
 ·cases e⟩
variable{i:Nat}
theorem uf{Q:Nat->Prop}(h:Q i):∀c,(c==i)=true->Q c:=λc e=>by rw[beq_iff_eq]at e;subst e;exact h
theorem orQ{Q:Nat->Prop}{p:Nat->Bool}(h:∀c,p c=true->Q c)(h':Q i):∀c,(p c||c==i)=true->Q c:=λc e=>by
 rw[jH]at e;rcases e with e|e
 ·exact h c e
 ·exact uf h' c e
structure Yw(P:aE)(w:az)(mg:Str->Option aa)(base:Heap)(G:Bg):Prop where
 m:∃h:Heap,G.K.In h/\h.Ns mainGlobals mg
variable{np:Nat}{vs:bt}{us:List aa}
section
variable{P:aE}{w:az}{mg:Str->Option aa}{base:Heap}{G:Bg}{x m qual:Str}{st:Stmt}{N ps:aC}{k c:Nat}{K:au}
theorem Yw.g(y:Yw P w mg base G){v:aa}(e:nsIn G.K mainGlobals x=some (some v)):mg x=some v:=by obtain⟨h,X,Gn⟩:=y.m;exact iV X Gn e
theorem Yw.n(y:Yw P w mg base G){xs:aC}(h:(xs.all λx=>match nsIn G.K mainGlobals x with|some none=>true|_=>false)=true)(i:Nat)(hi:xs[i]?=some x):mg x=none:=by
 obtain⟨hh,X,Gn⟩:=y.m;have e:=bD.mp h x (cB hi);split at e
 ·rename_i e1;exact W.mg_none_of X Gn e1
 ·cases e
def GC(K:au)(x:Str)(i:Int):Prop:=∃t:Tok,nsIn K mainGlobals x=some (some (.int i t))
theorem Yw.ci(y:Yw P w mg base G){i:Int}(q:GC G.K x i):xM G mg x (.int i):=by obtain⟨h,X,Gn⟩:=y.m;obtain⟨t,e⟩:=q;exact const_int X Gn e
def GS(K:au)(x:Str)(xs:aC):Prop:=∃(a:Addr) (o:Obj) (its:Array aa) (n:Nat),nsIn K mainGlobals x=some (some (.ref a))/\K.lookup a=some o/\o.cls=.type "tuple" /\ o.data=.seq its n/\its.size<=1000/\vW its.toList xs
theorem Yw.cs(y:Yw P w mg base G){xs:aC}(q:GS G.K x xs):xM G mg x (.tup (xs.map D.str)):=by obtain⟨h,X,Gn⟩:=y.m;obtain⟨a,o,its,n,e,l,h1,h2,h3,h4⟩:=q;exact HQ xs X Gn e l h1 h2 h3 h4
def GD(K:au)(x:Str)(st:Stmt):Prop:=∃(f:Addr) (fd:bM),nsIn K mainGlobals x=some (some (.ref f))/\Fun K x x st f fd
def GM(K:au)(C:Addr)(m qual:Str)(st:Stmt):Prop:=∃(f:Addr) (fd:bM),findIn K (.ref C) m=some (some (.ref f))/\isFn K (.ref f)=true/\Fun K m qual st f fd
def GJ(K:au)(C:Addr)(qual:Str)(st:Stmt)(vs:bt):Prop:=∃(f:Addr) (fd:bM) (T:Addr) (o:Obj) (dl:List aa) (n:Nat),findIn K (.ref C) "__init__" = some (some (.ref f))/\isFn K (.ref f)=true/\J6 K "__init__" qual st f fd T/\K.lookup T=some o/\o.data=.seq dl.toArray n/\Vals vs dl
abbrev Bdy(P:aE)(w:az)(K:au)(mg:Str->Option aa)(base:Heap)(N:aC)(qual:Str)(st:Stmt)(k:Nat)(t:TS):Prop:=∀(f:Addr) (cdv:aa) (A:aH) (outer:List Env) (s:af) (H:Hp) (E:XK),p8 k (A.deeper (envOfC qual (oP st) s.heap.objs.size f cdv))->PSs (yg P w K mg base N qual st f cdv A outer s H E) (ph st) t
abbrev Bds(x qual:Str)(st:Stmt)(ps:aC):Prop:=HR ps.length λus=>∀(kV doc pm:aa) (an:Option Addr) (cdv ct:aa),bindArgs (fnOf x qual (rY st) (ph st) (oP st) .none kV doc pm an cdv ct) ⟨us,[]⟩=pure (ps.zip us)
theorem Bds.ok{f:Addr}{fd:bM}(b:Bds x qual st ps)(F:Fun K x qual st f fd):Binds K fd ps []:=F.binds λkV doc pm an cdv ct us hl=>Bv b us hl kV doc pm an cdv ct
theorem gD{sp:Sp}(y:Yw P w mg base G)(q:GD G.K x st)(bd:Bds x x st ps)(ok:∀f fd,Fun G.K x x st f fd->sH P w G.K mg base CX0 k f fd ps sp):u9 P w G.K mg base k x ps sp:=by obtain⟨f,fd,a,F⟩:=q;exact⟨f,fd,y.g a,F.kp,bd.ok F,ok f fd F⟩
theorem gF{n:Nat}{g:aA->Option D}{b:FS}(hg:g=fnD np n b)(y:Yw P w mg base G)(q:GD G.K x st)(S:pZ N ps (oP st))(body:Bdy P w G.K mg base N x st k (tFS G b))(hp:ps.length=np:=by rfl)(hN:N.length=n:=by rfl)(bd:Bds x x st ps:=by (repeat intro _);rfl):u9 P w G.K mg base (k+1) x ps (spF G g):=
 gD y q bd λf fd F=>Mg hg hp hN F S (body f)
theorem gN'{n:Nat}{g:aA->Option aA}{b:FS}(hg:g=fnN np n b)(y:Yw P w mg base G)(q:GD G.K x st)(S:pZ N ps (oP st))(body:Bdy P w G.K mg base N x st k (tFS G b))(hp:ps.length=np:=by rfl)(hN:N.length=n:=by rfl)(bd:Bds x x st ps:=by (repeat intro _);rfl):u9 P w G.K mg base (k+1) x ps (spN G g):=
 gD y q bd λf fd F=>Wn hg hp hN F S (body f)
theorem gM{n:Nat}{g:aA->aA->Option (D×aA)}{b:FS}{p:Str}(hg:g=fnM np n b)(y:Yw P w mg base G)(q:GD G.K x st)(S:pZ N (p::ps) (oP st))(body:Bdy P w G.K mg base N x st k (tFS G b))(hp:ps.length=np:=by rfl)(hN:N.length=n:=by rfl)(bd:Bds x x st (p::ps):=by (repeat intro _);rfl):u9 P w G.K mg base (k+1) x (p::ps) (spM G g):=
 gD y q bd λf fd F=>Wo hg hp hN F S (body f)
theorem gL{n:Nat}{g:aA->aA->Option (D×aA)}{b:FS}(hg:g=fnL np n b)(y:Yw P w mg base G)(q:GD G.K x st)(S:pZ N ps (oP st))(body:Bdy P w G.K mg base N x st k (tFS G b))(hp:ps.length=np+1:=by rfl)(hN:N.length=n:=by rfl)(bd:Bds x x st ps:=by (repeat intro _);rfl):u9 P w G.K mg base (k+1) x ps (spL G g):=
 gD y q bd λf fd F=>WA hg hp hN F S (body f)
theorem gI{n:Nat}{g:aA->Option (aC×aA)}{b:FS}{xs:aC}{p:Str}(hg:g=fnI c np n b)(y:Yw P w mg base G)(C:CF G.K (G.ca c) xs)(a:nsIn G.K mainGlobals x=some (some (.ref (G.ca c))))(q:GM G.K (G.ca c) "__init__" qual st)(S:pZ N (p::ps) (oP st))(body:Bdy P w G.K mg base N qual st k (tFS G b))(hp:ps.length=np:=by rfl)(hN:N.length=n:=by rfl)(bd:Bds "__init__" qual st (p::ps):=by (repeat intro _);rfl):EN G P w mg base (k+1) x c (p::ps) [] g:=by obtain⟨f,fd,i,i',F⟩:=q;exact⟨f,fd,[],⟨C.mks,i,i',C.kp⟩,y.g a,bd.ok F,.nil,Wp hg hp hN F S (body f)⟩
theorem Gk(h:Vals vs us):us.length=vs.length:=by
 induction h with
 |nil=>rfl
 |cons _ _ ih=>rw[aK,aK,ih]
theorem KD(h:Vals vs us):∀j,Vals (vs.drop j) (us.drop j):=by
 induction h with
 |nil=>intro j;rw[ni,ni];exact .nil
 |cons a b ih=>
  intro j;cases j with
  |zero=>exact .cons a b
  |succ j=>exact ih j
theorem gJ{n:Nat}{g:aA->Option (aC×aA)}{b:FS}{xs:aC}{p:Str}(hg:g=fnI c np n b)(y:Yw P w mg base G)(C:CF G.K (G.ca c) xs)(a:nsIn G.K mainGlobals x=some (some (.ref (G.ca c))))(q:GJ G.K (G.ca c) qual st vs)(S:pZ N (p::ps) (oP st))(body:Bdy P w G.K mg base N qual st k (tFS G b))(j:Nat)(hp:ps.length=np:=by rfl)(hN:N.length=n:=by rfl)
  (bd:HR vs.length λdl=>HR ((p::ps).length - (vs.drop j).length) λus=>∀(T:Addr) (kV doc pm:aa) (an:Option Addr) (cdv ct:aa),∃k,bindArgs (fnOf "__init__" qual (rY st) (ph st) (oP st) (.ref T) kV doc pm an cdv ct) ⟨us,[]⟩=seqItems? (.ref T)>>=k/\k (some dl.toArray)=pure ((p::ps).zip (us++dl.drop j)):=by (repeat intro _);exact⟨_,rfl,rfl⟩):EN G P w mg base (k+1) x c (p::ps) (vs.drop j) g:=by
 obtain⟨f,fd,T,o,dl,n,i,i',F,l,e,r⟩:=q;refine⟨f,fd,dl.drop j,⟨C.mks,i,i',C.kp⟩,y.g a,F.binds l e λkV doc pm an cdv ct us hl=>?_,KD r j,SK hg hp hN F S (body f)⟩;exact Bv (Bv bd dl (Gk r)) us (by rw[hl,bX,bX,Gk r]) T kV doc pm an cdv ct
end
end L4
namespace L4
open PySem PySem.Spec PyProof.Rows L2 L3
def leS(a b:Str):Bool:=decide (a.cps.toList<=b.cps.toList)
def tN(ss:aC):aC:=ss.mergeSort leS
theorem MY(a b c:Str)(h:leS a b=true)(h':leS b c=true):leS a c=true:=bg (List.le_trans (bj h) (bj h'))
theorem PY(a b:Str):(leS a b||leS b a)=true:=by
 rw[jH];rcases List.le_total a.cps.toList b.cps.toList with h|h
 ·exact .inl (bg h)
 ·exact .inr (bg h)
theorem MZ(a b:Str)(h:leS a b=true)(h':leS b a=true):a=b:=by have e:=List.le_antisymm (bj h) (bj h');cases a with|mk a=>cases b with|mk b=>cases a;cases b;simp only at e;rw[e]
theorem Ac:∀(r:aC) (x:Str),risingS x r=true->(∀y∈r,leS x y=true)/\r.Pairwise λa b=>leS a b=true
 |[],x,_=>⟨λy h=>(bN h).elim,.nil⟩
 |z::r,x,h=>by
  unfold risingS at h;rw[bf,fj,ltCps_eq]at h;obtain⟨h1,h2⟩:=h;obtain⟨g1,g2⟩:=Ac r z h2;have h3:leS x z=true:=bg (of_decide_eq_false h1);refine⟨λy hy=>?_,.cons g1 g2⟩;rcases aN.mp hy with e|hy
  ·rw[e];exact h3
  ·exact MY _ _ _ h3 (g1 y hy)
theorem HS:∀l:aC,sortedS l=true->l.Pairwise λa b=>leS a b=true
 |[],_=>.nil
 |x::r,h=>.cons (Ac r x h).1 (Ac r x h).2
theorem Cj{l ss:aC}(p:l.Perm ss)(h:sortedS l=true):l=tN ss:=
 List.Perm.eq_of_pairwise (λa b _ _=>MZ a b) (HS l h) (List.pairwise_mergeSort MY PY ss) (p.trans (hZ ss leS).symm)
theorem Ck:∀{xs:aC} {vs:List aa},Vals (xs.map V.str) vs->fg vs xs
 |[],vs,h=>by cases h;exact .nil
 |x::xs,vs,h=>by
  cases h with
  |cons r h'=>obtain⟨t,rfl⟩:=r;exact .cons x t (Ck h')
theorem M0:∀{vs:List aa} {xs:aC},fg vs xs->Vals (xs.map V.str) vs
 |_,_,.nil=>.nil
 |_,_,.cons x t h=>.cons ⟨t,rfl⟩ (M0 h)
variable{e:Expr}{f:FE}
section
variable{X:Cx}{G:Bg}{pins:cn}{σ:St}{H:Hp}{s:af}
theorem E3:p6 X (.builtin "sorted") (λxs H Q=>∃(a:Addr) (ss:aC),xs=[.ref a]/\SqL X.K H a (ss.map V.str)/\ss.length<64/\∀p,H p=none->Q (.ref p) (upd H p (.lst ((tN ss).map V.str)))):=by
 intro pins s σ H xs us Q I r h;obtain⟨a,ss,rfl,hq,h64,q⟩:=h;obtain⟨u,rfl,ru⟩:=vals1 r;cases ru;obtain⟨its,ri,pl,_⟩:=I.list hq;have hl:(ss.map V.str).length=its.length:=ri.length;rw[ah]at hl;refine sorted_strs pl.isList (Ck ri) (by omega) λout ss' a1 a2 a3=>?_;obtain⟨e,he⟩:=sortedAll_at s.heap its out;have e1:=Cj a2 a3;refine⟨.ref (s.heap.objs.size+1),_,I.laid (t':=s.toks) (λ_ _=>sortedAll_old) (eM _) ?_,rfl,q _ (I.hok.fresh (eM _))⟩;refine⟨?_,out.toList,e,?_,he⟩
 ·rw[ah,<- e1,a2.length_eq,bK];omega
 ·rw[<-e1];exact M0 a1
def Ad(f:FE):FA:=λρ=>match f ρ with
 |some (.lst ds,ρ')=>match w6 ds with
  |some ss=>if ss.length<64 then some ((tN ss).map D.str,ρ')else none
  |none=>none
 |_=>none
theorem yK{H:Hp}:∀xs:aC,oq G H (xs.map D.str) (xs.map V.str)
 |[]=>o8
 |x::xs=>o7 (vK x) (yK xs)
theorem Gm(h:PE X e (tCB (λxs H Q=>∃(a:Addr) (ss:aC),xs=[.ref a]/\SqL G.K H a (ss.map V.str)/\ss.length<64/\∀p,H p=none->Q (.ref p) (upd H p (.lst ((tN ss).map V.str)))) (tFA G (oa f oJ)))):PE X e (tFN G (Ad f)):=PE.weak h λσ H Q hh=>by
 obtain⟨F,ρ,H0,es,ρ',R,e,k⟩:=hh;unfold Ad at e;split at e
 ·rename_i ds ρ1 e1;cases e2:w6 ds with
  |none=>simp only[e2]at e;cases e
  |some ss=>
   simp only[e2]at e;split at e
   ·rename_i h64;cases e;refine⟨F,ρ,H0,[.lst ds],_,R,by unfold oa;rw[e1];rfl,λys H1 H1' s R' rs=>?_⟩;unfold oq at rs;obtain⟨v,r0,rfl,rv,rn⟩:=rs;unfold oq at rn;subst rn;unfold Rep at rv;obtain⟨a,xs,rfl,h1,h2⟩:=rv;have hx:=vV h2 e2;subst hx;refine⟨a,ss,rfl,SqL.of (R'.sub _ _ h1),h64,λp hp=>?_⟩;exact k p _ _ _ s (R'.newOwn hp _) oA (R'.h0none hp) (R'.bNone hp) (R'.apart hp) (yK _)
   ·cases e
 ·cases e
theorem Dp(hK:X.K=G.K:=by rfl):p6 X (.builtin "sorted") (λxs H Q=>∃(a:Addr) (ss:aC),xs=[.ref a]/\SqL G.K H a (ss.map V.str)/\ss.length<64/\∀p,H p=none->Q (.ref p) (upd H p (.lst ((tN ss).map V.str)))):=by rw[<-hK];exact E3
theorem yL(k:Str):∀{vs:List aa} {ss:aC},fg vs ss->∀(j:Nat) (h1:j<vs.length) (h2:j<ss.length),isStrOf k vs[j]=(ss[j]==k)
 |_,_,.cons n t _,0,_,_=>rfl
 |_,_,.cons n t r,j+1,h1,h2=>yL k r j (fS h1) (fS h2)
theorem Gp{k:Str}:∀{ns:aC} {j:Nat},j<ns.idxOf k->∀(h2:j<ns.length),(ns[j]==k)=false
 |n::r,0,h,_=>by
  by_cases e:n=k
  ·subst e;simp at h
  ·simpa using e
 |n::r,j+1,h,h2=>by
  by_cases e:n=k
  ·subst e;simp at h
  ·have hb:(n==k)=false:=by simpa using e
   have h':j<r.idxOf k:=by rw[mU,hb]at h;exact fS h
   exact Gp h' (fS h2)
def E4(K:au):V->bt->Hp->VK->Prop:=λx vs H Q=>∃(l:Addr) (ss:aC) (k:Str),x=.ref l/\vs=[.str k]/\SqL K H l (ss.map V.str)/\ss.length<=1000/\k∈ss/\Q (.int (ss.idxOf k:Nat)) H
theorem KE:MtM X "list.index" (E4 X.K):=by
 intro pins s σ H x vs v us Q I rx rv h;obtain⟨l,ss,k,rfl,rfl,hq,hz,hk,q⟩:=h;cases rx;obtain⟨u,rfl,ru⟩:=rv.one;obtain⟨t,rfl⟩:=ru;obtain⟨its,ri,pl,_⟩:=I.list hq;have hi:=Ck ri;have hlen:ss.length=its.length:=by have:=ri.length;rw[ah]at this;exact this
 obtain⟨⟨cls,dd,data,sl⟩,ho,hc,n,hd⟩:=id pl.isList;simp only at hc hd;subst hc hd;have hj:ss.idxOf k<ss.length:=lA.mpr hk;refine gj mF ⟨_,ho,rfl⟩ F.entry_list_index (F.args_list_index_2 _ _)
  (PySem.SeqAt.list_indexAt l its.toArray n dd sl (.str k t) (isStrOf k) (ss.idxOf k) (by simpa [hlen]using hj) (by omega) ?_ ?_) ⟨ho,λy hy=>(eq_isStrOf k t hi y (by simpa using hy)).at _ _,?_⟩
 ·show isStrOf k its[ss.idxOf k]=true;rw[yL k hi _ (by omega) hj];simpa using List.getElem_idxOf hj
 ·intro j hjs hlt;show isStrOf k its[j]=false;rw[yL k hi j (by simpa using hjs) (by omega)];exact Gp hlt _
 ·exact⟨.int (ss.idxOf k:Nat),_,I.tok _,⟨_,rfl⟩,q⟩
def sQ:D->D->Option D:=λx y=>match x,y with
 |.lst ds,.str k=>match w6 ds with
  |some ss=>if k∈ss/\ss.length<=1000 then some (.int (ss.idxOf k:Nat))else none
  |none=>none
 |_,_=>none
theorem KF{f':FE}(h:PE X e (tBM G.K "list" (E4 G.K) (tF G f) (tFA G (oa f' oJ)))):PE X e (tF G (c2 sQ f f')):=PE.weak h λσ H Q hh=>by
 obtain⟨F,ρ,H0,d,ρ',R,e,k⟩:=hh;obtain⟨x,y,ρ1,e1,e2,e3⟩:=y6 e;unfold sQ at e3;split at e3
 ·rename_i ds kk;cases eq:w6 ds with
  |none=>simp only[eq]at e3;cases e3
  |some ss=>
   simp only[eq]at e3;split at e3
   ·rename_i hk;cases e3;refine⟨F,ρ,H0,_,ρ1,R,e1,λv H1 H1' s1 R1 r1=>?_⟩;unfold Rep at r1;obtain⟨a,xs,rfl,h1,h2⟩:=r1;have hx:=vV h2 eq;subst hx;refine⟨.inl ⟨rfl,_,SqL.of (R1.sub _ _ h1)⟩,F,ρ1,H1,[.str kk],ρ',R1,by unfold oa;rw[e2];rfl,λys H2 H2' s2 R2 rs=>?_⟩;unfold oq at rs;obtain⟨v,r0,rfl,rv,rn⟩:=rs;unfold oq at rn;unfold Rep at rv;subst rn rv;exact⟨a,ss,kk,rfl,rfl,SqL.of (R2.sub _ _ (s2 _ _ h1)),hk.2,hk.1,k _ H2 H2' (s1.trans s2) R2 (qz _)⟩
   ·cases e3
 ·cases e3
theorem KG(hK:X.K=G.K:=by rfl):MtM X "list.index" (E4 G.K):=by rw[<-hK];exact KE
end
end L4
namespace L4
open PySem PySem.Spec PySem.Calls PyProof.Rows PySem.W L2 L3
structure Sto(c:Nat->Nat->Bool)(n:Nat):Prop where
 tr:∀i j k,i<n->j<n->k<n->c i j=true->c j k=true->c i k=true
 tot:∀i j,i<n->j<n->i≠j->c i j=false->c j i=true
end L4
namespace L4
open PySem PySem.Spec PyProof.Rows L2 L3
structure Bz where
 P:aE
 w:az
 mg:Str->Option aa
 base:Heap
 G:Bg
structure ZE(X:Cx)(B:Bz)(e:Expr)(f:FE):Prop where p:PE X e (tF B.G f)
structure ZN(X:Cx)(B:Bz)(e:Expr)(f:FA):Prop where p:PE X e (tFN B.G f)
structure ZT(X:Cx)(B:Bz)(e:Expr)(f:FT):Prop where p:PT X e (tFT B.G f)
structure ZW(X:Cx)(B:Bz)(e:Expr)(f:FT):Prop where p:PW X e (tFT B.G f)
structure ZF(X:Cx)(B:Bz)(e:List Expr)(f:FT):Prop where p:PIf X e (tFT B.G f)
structure ZA(X:Cx)(B:Bz)(e:List Expr)(f:FA):Prop where p:PA X e (tFA B.G f)
structure ZM(X:Cx)(B:Bz)(e:List Expr)(i:Nat)(f:FA):Prop where p:PA X e (HK B.G i f)
structure ZS(X:Cx)(B:Bz)(e:Stmt)(f:FS):Prop where p:PS X e (tFS B.G f)
structure ZB(X:Cx)(B:Bz)(e:List Stmt)(f:FS):Prop where p:PSs X e (tFS B.G f)
structure ZI(X:Cx)(B:Bz)(tg e:Expr)(f:FA):Prop where p:PI X tg e (tFI B.G f)
structure ZO(X:Cx)(B:Bz)(e:Option Expr)(f:FO):Prop where p:PO X e (tFO B.G f)
structure ZG(X:Cx)(B:Bz)(e:Expr)(n:Nat)(f:FG):Prop where p:PG X e (tFG B.G n f)
structure ZH(X:Cx)(B:Bz)(e:List Expr)(n:Nat)(f:aA->aW->Option aW):Prop where p:PGs X e (LO B.G n f)
structure ZK(X:Cx)(e:Option Expr)(i:Option Int):Prop where p:PO X e (tO i)
structure ZP(X:Cx)(B:Bz)(pos:Pos)(ks:List (Option Expr))(vs:List Expr)(l:List (Str×FE)):Prop where p:PPs X pos ks vs (ML B.G l)
structure ZV(X:Cx)(e:Expr)(i:Nat):Prop where p:PE X e (uM i)
abbrev Gz(X:Cx)(x:Str):Prop:=X.env.kindOf x=some .globalImplicit
abbrev Dz(x:Str):Prop:=(x==("__debug__" : Str))=false
abbrev Nz(x:Str):Prop:=(decide (x≠"__name__")&&!(x==("__debug__" : Str)))=true
abbrev Sz(X:Cx)(e:Expr)(es:List Expr):Prop:=starEach (e::es) X.env=(false,eval e X.env)::starEach es X.env
abbrev S1(X:Cx)(e:Expr):Prop:=starEach [e] X.env=[(false,eval e X.env)]
abbrev Lz(X:Cx)(pos:Pos)(es:List Expr):Prop:=(backTo pos (starEach es X.env)).any (·.1)=false
abbrev Wz(X:Cx)(e o:Expr)(pos:Pos):Prop:=swapsWith e (some o) pos.line X.env=pure false
abbrev Az(X:Cx)(o:Expr)(m:Str):Prop:=attributeBase o m X.env (eval o X.env)=eval o X.env
abbrev Ez(p pos:Pos):Prop:=(p.endLine==pos.line)=true
abbrev Iz(e:Expr):Prop:=(λo i=>subscripted e false o i)=λo i=>operate [o,i] (getItem o i)
abbrev Fz(X:Cx)(e:Expr):Prop:=(λx=>foldedSetIterable e X.env x)=λx=>pure x
class Cz(X:Cx)(B:outParam Bz)(k:outParam Nat):Prop where
 P:X.prog=B.P
 w:X.w=B.w
 K:X.K=B.G.K
 mg:X.mg=B.mg
 b:X.base=B.base
 c:X.calm=true
 r:p8 k X.A
class Yb(B:Bz):Prop where y:Yw B.P B.w B.mg B.base B.G
class Df(B:Bz)(j:outParam Nat)(x:Str)(sp:Sp):Prop where p:∃ps,u9 B.P B.w B.G.K B.mg B.base j x ps sp
class Kf(B:Bz)(j:outParam Nat)(x:Str)(c:Nat)(g:aA->Option (aC×aA))(dds:aA):Prop where
 p:∃ps,EN B.G B.P B.w B.mg B.base j x c ps (dds.map vD) g
 f:dds.all qV=true
class Mf(B:Bz)(j:outParam Nat)(m:Str)(g:Nat->Option (aA->Option D)):Prop where p:∀c h,g c=some h->zZ B.G B.P B.w B.mg B.base j m c h
class Ff(B:Bz)(ok:Nat->Bool)(f:Str):Prop where p:∀c,ok c=true->Cls B.G.K (B.G.ca c)/\ud B.G.K (B.G.ca c) f
class Af(B:Bz)(c:Nat)(xs:outParam aC):Prop where p:CF B.G.K (B.G.ca c) xs
class Nb(B:Bz)(x:Str):Prop where p:B.mg x=none
class Co(B:Bz)(x:Str)(d:D):Prop where p:xM B.G B.mg x d
class Ic(B:Bz)(x:Str)(t:Ty->Option Bool):Prop where p:∃c,Hz B.G c t/\B.mg x=some (.ref (B.G.ca c))
class Ij(B:Bz)(n:Nat):Prop where p:∀j k,j<n->k<n->B.G.ca j=B.G.ca k->j=k
class OpC(op:iN)(g:D->D->Option D):Prop where p:∀(X:Cx) (G:Bg),∃r,OpR X (binaryOp op) r/\OpD G r g
instance in1:OpC .Mod qW:=⟨λ_ _=>⟨_,RB,Ss⟩⟩
instance in2:OpC .FloorDiv ye:=⟨λ_ _=>⟨_,Of,Su⟩⟩
instance in3:OpC .Mult sY:=⟨λ_ _=>⟨_,RA,Sr⟩⟩
instance in4:OpC .Sub IU:=⟨λ_ _=>⟨_,Rx,Sq⟩⟩
instance in5:OpC .Pow Ax:=⟨λ_ _=>⟨_,RD,Sv⟩⟩
instance in6:OpC .Add pI:=⟨λ_ _=>⟨_,Rv,So⟩⟩
instance in8:OpC .Mult F2:=⟨λ_ _=>⟨_,Hm,PR⟩⟩
class CmC(op:cg)(g:D->D->Option D):Prop where p:∀(X:Cx) (G:Bg),X.K=G.K->X.A.units+64<cLine->∃r,OpR X (compareOp op) r/\OpD G r g
instance in9:CmC .Eq (dEq false):=⟨λ_ _ h u=>⟨_,SC u h,Wi⟩⟩
instance in10:CmC .NotEq (dEq true):=⟨λ_ _ h u=>⟨_,SD u h,Wj⟩⟩
instance in11:CmC .In (dIn false):=⟨λ_ _ h _=>⟨_,SE h,QN⟩⟩
instance NU:CmC .NotIn (dIn true):=⟨λ_ _ h _=>⟨_,Ke h,QN⟩⟩
instance in13:CmC .Is yD:=⟨λ_ _ _ _=>⟨_,RE,Sx⟩⟩
instance in14:CmC .IsNot u7:=⟨λ_ _ _ _=>⟨_,Og,Pc⟩⟩
instance in16:CmC .Lt yC:=⟨λ_ _ _ _=>⟨_,VM,We⟩⟩
instance in17:CmC .LtE uO:=⟨λ_ _ _ _=>⟨_,VN,Wf⟩⟩
instance in18:CmC .Gt Dl:=⟨λ_ _ _ _=>⟨_,VO,Wg⟩⟩
instance in19:CmC .GtE Sn:=⟨λ_ _ _ _=>⟨_,VP,Wh⟩⟩
instance in20:CmC .LtE L6:=⟨λ_ _ _ _=>⟨_,J5,Sw⟩⟩
class B1(x:Str)(g:D->Option D):Prop where p:∀(X:Cx) (G:Bg),X.K=G.K->X.calm=true->∃(id:String) (r:bt->Hp->VK->Prop),p6 X (.builtin id) r/\DQ G r g/\bootBuiltins x=some (.builtin id)
instance in21:B1 "len" p5:=⟨λ_ _ h _=>⟨_,_,Kh h,SF,m5⟩⟩
instance in22:B1 "all" uz:=⟨λ_ _ h c=>⟨_,_,Ki c h,SH,boot_all⟩⟩
instance in23:B1 "any" Bk:=⟨λ_ _ h c=>⟨_,_,Ko c h,SN,boot_any⟩⟩
class KtC(x:Str)(T:outParam String):Prop where p:(∀(X:Cx) (G:Bg) y b,qP T y=some b->cK X.K (y.val G) (.type T)=some b)/\bootBuiltins x=some (.type T)
instance in24:KtC "str" "str" := ⟨λ_ _=>Pi,Pv.boot_str⟩
instance in25:KtC "int" "int" := ⟨λ_ _=>PH,Pv.boot_int⟩
instance in26:KtC "bool" "bool" := ⟨λ_ _=>MI,Pv.boot_bool⟩
instance in27:KtC "list" "list" := ⟨λ_ _=>Mj,Pv.boot_list⟩
instance in28:KtC "tuple" "tuple" := ⟨λ_ _=>kit_tuple,Pv.boot_tuple⟩
theorem QT{G:Bg}{H:Hp}:∀{dds:aA},dds.all qV=true->oq G H dds (dds.map vD)
 |[],_=>o8
 |d::ds,h=>by rw[dg,bf]at h;exact o7 (y9 h.1 H) (QT h.2)
theorem eqI{α:Sort u}{a b:α}(h:a=b):a=b:=h
def sees(X:Cx)(i:Nat)(x:Str):Bool:=decide (X.N[i]?=some x)&&(match X.env.scope.names.lookup x with|some .local=>true|some .cell=>true|some .free=>true|_=>false)&&!(x==("__debug__" : Str))&&!(x==("__classdict__" : Str))
def sets(X:Cx)(i:Nat)(x:Str):Bool:=decide X.N.Nodup&&decide (X.N[i]?=some x)&&(match X.env.scope.names.lookup x with|some .local=>true|some .cell=>X.fn x|_=>false)
variable{ft fu:FT}{id T:String}{r:bt->Hp->VK->Prop}{y:Str}{lo:Option Expr}{body:List Stmt}
section
variable{X:Cx}{B:Bz}{k j i n c0:Nat}{x m:Str}{e e' o tg it:Expr}{es:List Expr}{p p2 p3 pos apos:Pos}{f f' f2:FE}{a:FA}{g:D->D->Option D}
theorem pvI(h:sees X i x=true):PE X (.Name x p) (uM i):=by
 unfold sees at h;simp only[bf,bB,fj]at h;obtain⟨⟨⟨h1,h2⟩,h3⟩,h4⟩:=h;refine pv i h1 ?_ h3 h4;unfold Vis;split at h2
 ·rename_i e;exact .inl e
 ·rename_i e;exact .inr (.inl e)
 ·rename_i e;exact .inr (.inr e)
 ·cases h2
theorem WB(h:sees X i x=true):ZE X B (.Name x p) (cV i):=⟨Hn (pvI h)⟩
theorem Ta(h:sees X i x=true):ZE X B (.Name x p) (cFz i):=⟨Wd (pvI h)⟩
theorem PZ(h:sees X i x=true):ZN X B (.Name x p) (Hr i):=⟨O7 (pvI h)⟩
theorem E5(h:sets X i x=true):X.N.Nodup/\X.N[i]?=some x/\L2.Loc X.env.scope x/\(X.fn x=true\/X.env.scope.names.lookup x=some .local):=by
 unfold sets at h;simp only[bf,bB]at h;obtain⟨⟨h1,h2⟩,h3⟩:=h;unfold L2.Loc;split at h3
 ·rename_i e;exact⟨h1,h2,.inl e,.inr e⟩
 ·rename_i e;exact⟨h1,h2,.inr e,.inl h3⟩
 ·cases h3
theorem pgI(h:sets X i x=true):PG X (.Name x p) (u0 i):=by obtain⟨h1,h2,h3,h4⟩:=E5 h;exact Iw h1 h2 h3 h4
theorem Tb(h:sets X i x=true)(hi:Nat.blt i n=true):ZG X B (.Name x p) n (gN i):=⟨LP n (pgI h) (Nat.blt_eq.mp hi)⟩
theorem stW{te:TE}(h:sets X i x=true)(he:PE X e te)(hs:Wz X e (.Name x p) pos):PS X (.Assign [.Name x p] e pos) (zN te (u0 i)):=by obtain⟨h1,h2,h3,h4⟩:=E5 h;exact Ro h1 h2 h3 he hs h4
theorem Tc(h:sets X i x=true)(he:ZE X B e f)(hs:Wz X e (.Name x p) pos):ZS X B (.Assign [.Name x p] e pos) (oV i f):=⟨IP (stW h he.p hs)⟩
theorem Td(h:sets X i x=true)(he:ZN X B e a)(hs:Wz X e (.Name x p) pos):ZS X B (.Assign [.Name x p] e pos) (qU i a):=⟨LR (stW h he.p hs)⟩
theorem Te(h:sets X i x=true)(hs:Wz X (.Dict [] [] p2) (.Name x p) pos):ZS X B (.Assign [.Name x p] (.Dict [] [] p2) pos) (ze i):=⟨Mo (stW h BK hs)⟩
theorem Tf{op:iN}[O:OpC op g](ha:ZE X B e f)(hb:ZE X B e' f'):ZE X B (.BinOp e op e' pos) (c2 g f f'):=by obtain⟨r,h1,h2⟩:=O.p X B.G;exact⟨V5 h1 h2 ha.p hb.p⟩
theorem Tg [C:Cz X B k](ha:ZE X B e f)(hb:ZE X B e' f')(hs:Iz e'):ZE X B (.Subscript e e' pos) (c2 dIx f f'):=⟨V6 (Xn C.K) Wk ha.p hb.p λo i=>congrFun (congrFun hs o) i⟩
theorem P3 [C:Cz X B k](h:sees X i x=true)(hb:ZE X B e' f')(hs:Iz e'):ZE X B (.Subscript (.Name x p) e' pos) (zV i f'):=⟨Sk (QJ (LF B.G.K C.K) (pvI h) hb.p λo i=>congrFun (congrFun hs o) i)⟩
theorem Ti [C:Cz X B k](ha:ZE X B e f)(hb:ZE X B e' f')(hs:Iz e'):ZE X B (.Subscript e e' pos) (c2 pd f f'):=⟨Pm (DF C.r) ha.p hb.p λo i=>congrFun (congrFun hs o) i⟩
section
variable{op op':cg}{g':D->D->Option D}
theorem Tj [O:CmC op g][C:Cz X B k](ha:ZE X B e f)(hb:ZE X B e' f')(hm:behindInMarks op e'=false):ZE X B (.Compare e [op] [e'] pos) (c2 g f f'):=by obtain⟨r,h1,h2⟩:=O.p X B.G C.K C.r.units;exact⟨Sa h1 h2 ha.p hb.p hm⟩
theorem Tn [O:CmC op g][C:Cz X B k](ha:ZE X B e f)(hb:ZE X B e' f')(hm:behindInMarks op e'=false):ZT X B (.Compare e [op] [e'] pos) (cT (c2 g f f')):=by obtain⟨r,h1,h2⟩:=O.p X B.G C.K C.r.units;exact⟨OJ h1 h2 ha.p hb.p hm⟩
theorem To [O:CmC op g][O':CmC op' g'][C:Cz X B k](ha:ZE X B e f)(hb:ZE X B e' f')(hc:ZE X B o f2)(hm:lastMarks [op,op'] [e',o]=false):ZE X B (.Compare e [op,op'] [e',o] pos) (rM g g' f f' f2):=by obtain⟨r,h1,h2⟩:=O.p X B.G C.K C.r.units;obtain⟨r',h3,h4⟩:=O'.p X B.G C.K C.r.units;exact⟨Md h1 h3 h2 h4 ha.p hb.p hc.p hm⟩
theorem Tp [O:CmC op g][O':CmC op' g'][C:Cz X B k](ha:ZE X B e f)(hb:ZE X B e' f')(hc:ZE X B o f2)(hm:lastMarks [op,op'] [e',o]=false):ZT X B (.Compare e [op,op'] [e',o] pos) (cT (rM g g' f f' f2)):=by obtain⟨r,h1,h2⟩:=O.p X B.G C.K C.r.units;obtain⟨r',h3,h4⟩:=O'.p X B.G C.K C.r.units;exact⟨Km h1 h3 h2 h4 ha.p hb.p hc.p hm⟩
end
theorem Tq(h:ZE X B e f)(he:(λwhole=>isTrue e X.env whole)=λwhole=>(do let v<-whole;standAt e.pos;holding [v] (truthy v))):ZT X B e (cT f):=⟨OK h.p λw=>congrFun he w⟩
theorem Tr(ha:ZT X B e ft)(hb:ZW X B (.BoolOp .Or (e'::es) pos) fu):ZT X B (.BoolOp .Or (e::e'::es) pos) (tH ft fu):=⟨PW.pt (LJ ha.p hb.p)⟩
theorem Ts(ha:ZT X B e ft)(hb:ZW X B (.BoolOp .And (e'::es) pos) fu):ZT X B (.BoolOp .And (e::e'::es) pos) (sW ft fu):=⟨PW.pt (ON ha.p hb.p)⟩
theorem Tt{d:D}[C:Cz X B k][Q:Co B x d](hg:Gz X x)(hd:Dz x):ZE X B (.Name x pos) (cC d):=⟨Mh (C.mg▸Q.p) hg hd⟩
theorem Tu{ok:Nat->Bool}[C:Cz X B k][Q:Ff B ok m](he:ZE X B e f)(hb:Az X e m):ZE X B (.Attribute e m pos) (c1 (oX ok m) f):=⟨LU he.p (C.K▸Q.p) hb⟩
section
variable(hg:Gz X x)(hd:Dz x)(hs:Sz X e es)(hl:Lz X pos es)
include hg hd
theorem dz{sp:Sp}[C:Cz X B k][Q:Df B j x sp]:∃ps,u9 X.prog X.w X.K X.mg X.base j x ps sp:=by rw[C.P,C.w,C.K,C.mg,C.b];exact Q.p
theorem Tv{g:aA->Option aA}[C:Cz X B k][Q:Df B j x (spN B.G g)](hj:dm j k=true):ZN X B (.Call (.Name x p) [] [] pos) (pb g oJ):=by obtain⟨ps,q⟩:=dz hg hd (X:=X) (Q:=Q);exact⟨Me q (C.r.mono (dh.mp hj)) hg hd⟩
include hs hl
theorem Tw{g:aA->Option D}[C:Cz X B k][Q:Df B j x (spF B.G g)](ha:ZA X B (e::es) a)(hj:dm j k=true):ZE X B (.Call (.Name x p) (e::es) [] pos) (om g a):=by obtain⟨ps,q⟩:=dz hg hd (X:=X) (Q:=Q);exact⟨SJ q (C.r.mono (dh.mp hj)) ha.p hg hd hs hl⟩
theorem Tx{g:aA->Option aA}[C:Cz X B k][Q:Df B j x (spN B.G g)](ha:ZA X B (e::es) a)(hj:dm j k=true):ZN X B (.Call (.Name x p) (e::es) [] pos) (pb g a):=by obtain⟨ps,q⟩:=dz hg hd (X:=X) (Q:=Q);exact⟨Pf q (C.r.mono (dh.mp hj)) ha.p hg hd hs hl⟩
theorem TB{g:aA->aA->Option (D×aA)}[C:Cz X B k][Q:Df B j x (spM B.G g)](hv:ZV X e i)(ha:ZA X B es a)(hj:dm j k=true):ZE X B (.Call (.Name x p) (e::es) [] pos) (pf g i a):=by obtain⟨ps,q⟩:=dz hg hd (X:=X) (Q:=Q);exact⟨Pg q (C.r.mono (dh.mp hj)) hv.p ha.p hg hd hs hl⟩
theorem TC{g:aA->aA->Option (D×aA)}[C:Cz X B k][Q:Df B j x (spL B.G g)](ha:ZM X B (e::es) i a)(hj:dm j k=true):ZE X B (.Call (.Name x p) (e::es) [] pos) (qg g i a):=by obtain⟨ps,q⟩:=dz hg hd (X:=X) (Q:=Q);exact⟨PQ q (C.r.mono (dh.mp hj)) ha.p hg hd hs hl⟩
theorem TF{g:aA->Option (aC×aA)}{dds:aA}[C:Cz X B k][Q:Kf B j x c0 g dds](ha:ZA X B (e::es) a)(hj:dm (j+1) k=true):ZE X B (.Call (.Name x p) (e::es) [] pos) (pj c0 (λds=>g (ds++dds)) a):=by obtain⟨ps,q⟩:=Q.p;exact⟨Ph (by rw[C.P,C.w,C.mg,C.b];exact q) (λH=>QT Q.f) (C.r.mono (dh.mp hj)) ha.p C.K hg hd hs hl⟩
end
theorem mz{g:Nat->Option (aA->Option D)}[C:Cz X B k][Q:Mf B j m g]:∀c h,g c=some h->zZ B.G X.prog X.w X.mg X.base j m c h:=by rw[C.P,C.w,C.mg,C.b];exact Q.p
theorem TH{g:Nat->Option (aA->Option D)}{pl:Sem Bool}[C:Cz X B k][Q:Mf B j m g](ho:ZE X B o f)(hj:dm j k=true)
  (ht:eval (.Call (.Attribute o m apos) [] [] pos) X.env=(do
   let ov<-eval o X.env
   standAt apos.atName
   let (f,first)<-holding [ov] (getMethod ov m pl)
   callWith pos f first (backTo pos (starEach [] X.env)) (backToKw pos (keywordEach [] X.env)))):ZE X B (.Call (.Attribute o m apos) [] [] pos) (pH g m f oJ):=⟨Hw mz (C.r.mono (dh.mp hj)) ho.p C.K ht⟩
theorem TJ{g:Nat->Option (aA->Option D)}{pl:Sem Bool}[C:Cz X B k][Q:Mf B j m g](ho:ZE X B o f)(ha:ZA X B (e::es) a)(hj:dm j k=true)(hs:Sz X e es)(hl:Lz X pos es)
  (ht:eval (.Call (.Attribute o m apos) (e::es) [] pos) X.env=(do
   let ov<-eval o X.env
   standAt apos.atName
   let (f,first)<-holding [ov] (getMethod ov m pl)
   callWith pos f first (backTo pos (starEach (e::es) X.env)) (backToKw pos (keywordEach [] X.env)))):ZE X B (.Call (.Attribute o m apos) (e::es) [] pos) (pH g m f a):=⟨Kn mz (C.r.mono (dh.mp hj)) ho.p ha.p C.K hs hl ht⟩
section
variable(hg:Gz X x)(hd:Nz x)(hs:S1 X e)
include hg hd hs
theorem cbI{t:TA}[C:Cz X B k][N:Nb B x](hc:p6 X (.builtin id) r)(hv:bootBuiltins x=some (.builtin id))(ha:PA X [e] t):PE X (.Call (.Name x p) [e] [] pos) (tCB r t):=by simp only[bf,bB,fj]at hd;exact BD hc hg (C.mg▸N.p) hv ha hd.1 hd.2 hs rfl
theorem ctI{t:TA}[C:Cz X B k][N:Nb B x](hc:p6 X (.type T) r)(hv:bootBuiltins x=some (.type T))(ha:PA X [e] t):PE X (.Call (.Name x p) [e] [] pos) (tCB r t):=by simp only[bf,bB,fj]at hd;exact JX hc hg (C.mg▸N.p) hv ha hd.1 hd.2 hs rfl
theorem TL{g:D->Option D}[Q:B1 x g][C:Cz X B k][N:Nb B x](ha:ZE X B e f):ZE X B (.Call (.Name x p) [e] [] pos) (c1 g f):=by obtain⟨id,r,h1,h2,h3⟩:=Q.p X B.G C.K C.c;exact⟨QO h2 (cbI hg hd hs h1 h3 (qF ha.p rK hs))⟩
end
section
variable(hs:S1 X e)
include hs
theorem TM [C:Cz X B k][N:Nb B "list"](hg:Gz X "list")(ha:ZE X B e f):ZN X B (.Call (.Name "list" p) [e] [] pos) (wW f):=⟨Ma (ctI hg (by decide) hs (Hv C.K) Pv.boot_list (qF ha.p rK hs))⟩
theorem TN [C:Cz X B k][N:Nb B "tuple"](hg:Gz X "tuple")(ha:ZE X B e f):ZE X B (.Call (.Name "tuple" p) [e] [] pos) (FX f):=⟨Mb (ctI hg (by decide) hs (Kk C.K) Pv.boot_tuple (qF ha.p rK hs))⟩
theorem TQ [C:Cz X B k][N:Nb B "sorted"](hg:Gz X "sorted")(ha:ZE X B e f):ZN X B (.Call (.Name "sorted" p) [e] [] pos) (Ce f):=⟨HP (cbI hg (by decide) hs (EZ C.r.units C.K) kh (qF ha.p rK hs))⟩
theorem TR [C:Cz X B k][N:Nb B "sorted"](hg:Gz X "sorted")(ha:ZE X B e f):ZN X B (.Call (.Name "sorted" p) [e] [] pos) (Ad f):=⟨Gm (cbI hg (by decide) hs (Dp C.K) kh (qF ha.p rK hs))⟩
theorem TU [C:Cz X B k][N:Nb B "len"][N':Nb B "set"](hg:Gz X "len")(hg':Gz X "set")(ha:ZE X B e f)(z:starEach [Expr.Call (.Name "set" p2) [e] [] p3] X.env=[(false,eval (.Call (.Name "set" p2) [e] [] p3) X.env)]):ZE X B (.Call (.Name "len" p) [.Call (.Name "set" p2) [e] [] p3] [] pos) (c1 ET f):=⟨Kt C.K (Ks Wv C.r.units C.c hg (C.mg▸N.p) hg' (C.mg▸N'.p) ha.p z hs)⟩
theorem TV [C:Cz X B k][N:Nb B "range"](hg:Gz X "range")(ha:ZE X B e f):ZI X B tg (.Call (.Name "range" p) [e] [] pos) (iR1 f):=⟨Ht (JQ hg (C.mg▸N.p) (qF ha.p rK hs) hs)⟩
end
section
variable(hi:Gz X "isinstance")(hg:Gz X x)(hs:starEach [e,.Name x p2] X.env=[(false,eval e X.env),(false,eval (.Name x p2) X.env)])(hs':S1 X (.Name x p2))
include hi hg hs hs'
theorem TX [Q:KtC x T][C:Cz X B k][N:Nb B "isinstance"][N':Nb B x](ha:ZE X B e f)(hd:Nz x):ZE X B (.Call (.Name "isinstance" p) [e,.Name x p2] [] pos) (c1 (sZ (qP T)) f):=by
 simp only[bf,bB,fj]at hd;refine⟨IZ (c:=.b T) (BD (DR (.b T) (Q.p.1 X B.G) Mi C.K) hi (C.mg▸N.p) boot_isinstance (qw ha.p (qw (N8 (v:=.ty T) hg (C.mg▸N'.p) Q.p.2 rfl hd.1 hd.2) uN ?_) ?_) (by decide) (by decide) ?_ ?_)⟩
 ·exact hs'
 ·rw[hs,hs']
 ·rw[hs,hs']
 ·rw[hs'];rfl
theorem TY{t:Ty->Option Bool}[Q:Ic B x t][C:Cz X B k][N:Nb B "isinstance"](ha:ZE X B e f)(hd:Dz x):ZE X B (.Call (.Name "isinstance" p) [e,.Name x p2] [] pos) (c1 (sZ t) f):=by
 obtain⟨c,q1,q2⟩:=Q.p;refine⟨IZ (c:=.c c) (BD (HA q1 C.K) hi (C.mg▸N.p) boot_isinstance (qw ha.p (qw (Iu (v:=.ref (B.G.ca c)) hg (C.mg▸q2) rfl hd) uN ?_) ?_) (by decide) (by decide) ?_ ?_)⟩
 ·exact hs'
 ·rw[hs,hs']
 ·rw[hs,hs']
 ·rw[hs'];rfl
end
section
variable(hb:Az X o m)(hl:Ez apos pos)(hs:S1 X e)
include hb hl hs
theorem bmI{r:V->bt->Hp->VK->Prop}{to:TE}{t:TA}[C:Cz X B k](pa:km T)(slot:Slot T m id)(hty:typeOf (.builtin id)=pure (.type "method_descriptor"))(hm:MtR X id r)(ho:PE X o to)(ha:PA X [e] t):PE X (.Call (.Attribute o m apos) [e] [] pos) (tBM B.G.K T r to t):=
 LG B.G.K pa slot hty hm ho ha hb (by rw[hs];rfl) hl hs rfl C.K
end
section
variable(h:sees X i x=true)(hb:Az X (.Name x p) m)(hl:Ez apos pos)(hs:S1 X e)
include h hb hl hs
theorem TZ [C:Cz X B k](hm:m="append")(ha:ZE X B e f):ZE X B (.Call (.Attribute (.Name x p) m apos) [e] [] pos) (sE i f):=by subst hm;exact⟨Kb (bmI hb hl hs fm jy mf zQ (pvI h) (qF ha.p rK hs))⟩
theorem T2 [C:Cz X B k](hm:m="extend")(ha:ZE X B e f):ZE X B (.Call (.Attribute (.Name x p) m apos) [e] [] pos) (AB i f):=by subst hm;exact⟨HC (bmI hb hl hs fm jz F.type_list_extend (C.K▸HB) (pvI h) (qw ha.p uN hs))⟩
theorem T4 [C:Cz X B k](hm:m="pop")(ha:ZE X B e f):ZE X B (.Call (.Attribute (.Name x p) m apos) [e] [] pos) (yI i f):=by subst hm;exact⟨MN (bmI hb hl hs fm jF mV FB (pvI h) (qF ha.p rK hs))⟩
end
theorem T5 [C:Cz X B k](h:sees X i x=true)(hb:Az X (.Name x p) "pop")(hl:Ez apos pos)(hs:S1 X (.Constant (.int 0) j p2)):ZE X B (.Call (.Attribute (.Name x p) "pop" apos) [.Constant (.int 0) j p2] [] pos) (IR i):=⟨O6 (bmI hb hl hs fm jF mV FB (pvI h) (qw GY uN hs))⟩
theorem T6 [C:Cz X B k](ha:ZE X B e f)(hb:ZE X B e' f')(h1:Az X e "get")(h2:Ez apos pos)(h3:S1 X e'):ZE X B (.Call (.Attribute e "get" apos) [e'] [] pos) (c2 DS f f'):=⟨Mn (DF C.r) ha.p hb.p ⟨h1,by rw[h3];rfl,h2,by rw[h3];rfl⟩⟩
theorem T7{xs:aC}[C:Cz X B k][Q:Af B c0 xs](hx:xs.contains m=true)(h:sees X i x=true)(hv:ZE X B e f)(hs:Wz X e (.Attribute (.Name x p) m apos) pos):ZS X B (.Assign [.Attribute (.Name x p) m apos] e pos) (pA c0 i m f):=⟨O5 (RG (pvI h) hv.p hs) (by obtain⟨i,_,e⟩:=jv (lM.mp hx);exact C.K▸Q.p.at i (bQ.mpr ⟨_,e⟩))⟩
theorem T8 [C:Cz X B k](h:sees X i x=true)(hk:ZE X B e' f')(hv:ZE X B e f)(hs:Wz X e (.Subscript (.Name x p) e' apos) pos):ZS X B (.Assign [.Subscript (.Name x p) e' apos] e pos) (pJ i f' f):=⟨Mp (Oy (DF C.r) (pvI h) hk.p hv.p hs)⟩
theorem T9{n:Nat}[Q:Ij B n](h:ZE X B e f):ZE X B e (uE n f):=⟨PD Q.p h.p⟩
section
variable{ks:List (Option Expr)}{kfs:List (Str×FE)}
theorem Ua:ZP X B pos [] [] []:=⟨Oz⟩
theorem Ub(hv:ZE X B e f)(hr:ZP X B pos ks es kfs):ZP X B pos (some (.Constant (.str y) j p)::ks) (e::es) ((y,f)::kfs):=⟨Lw K6 hv.p hr.p⟩
theorem Uc(h:ZP X B pos ks es kfs)(h1:(ks.all (·.isSome)&&decide (ks.length=es.length)&&!ks.isEmpty&&decide (ks.length<=15)&&decide (kfs.map λq=>(Sum.inr q.1:Key)).Nodup&&decide (kfs.length<=15))=true):ZE X B (.Dict ks es pos) (vc kfs):=by simp only[bf,bB,fj]at h1;obtain⟨⟨⟨⟨⟨a1,a2⟩,a3⟩,a4⟩,a5⟩,a6⟩:=h1;exact⟨Jg (OA h.p a1 a2 (λz=>by rw[z]at a3;cases a3) a4) a5 a6⟩
end
theorem Ud{hi:Option Expr}{fl fh:FO}[C:Cz X B k](he:ZE X B e f)(hl:ZO X B lo fl)(hh:ZO X B hi fh):ZN X B (.Subscript e (.Slice lo hi none p) pos) (tQ f fl fh):=⟨Hy (BG (Wm C.K) he.p hl.p hh.p)⟩
theorem Ue{hi:Option Expr}{l h:Option Int}[C:Cz X B k](he:ZE X B e f)(hl:ZK X lo l)(hh:ZK X hi h):ZN X B (.Subscript e (.Slice lo hi none p) pos) (cSl f l h):=⟨Kl (BG (Wm C.K) he.p hl.p hh.p)⟩
theorem Ug{y:Int}:ZK X (some (.Constant (.int y) j pos)) (some y):=⟨Mc⟩
theorem Uh:ZK X none none:=⟨Wl⟩
theorem Ui [C:Cz X B k](h:ZE X B e f):ZI X B tg e (iL f):=⟨FU (FJ B.G.K h.p C.K)⟩
theorem Uj [C:Cz X B k](h:ZE X B e f):ZI X B tg e (iT f):=⟨Pa (OF B.G.K h.p C.K)⟩
theorem Uk(h:ZE X B e f):ZI X B tg e (iD f):=⟨My (Pz h.p)⟩
theorem Ul(h:ZE X B e f):ZI X B tg e (iS f):=⟨Pn (RY h.p)⟩
theorem Um{elts:List Expr}{x1:Nat}(h:ZE X B o f)(hb:Az X o "items")(hl:Ez apos pos):ZI X B (.Tuple elts x1 p) (.Call (.Attribute o "items" apos) [] [] pos) (iIt f):=⟨Kw (MK h.p hb hl)⟩
section
variable(hg:Gz X "zip")(hs:starEach [e,e'] X.env=[(false,eval e X.env),(false,eval e' X.env)])(hs2:S1 X e')
include hg hs hs2
theorem Uo [C:Cz X B k][N:Nb B "zip"](ha:ZA X B [e,e'] a):ZI X B (.Tuple es i p2) (.Call (.Name "zip" p) [e,e'] [] pos) (iZ a):=⟨PB (S4 hg (C.mg▸N.p) ha.p hs hs2)⟩
end
section
variable{gg:FG}{gs:aA->aW->Option aW}
theorem P4:ZH X B [] n qj:=⟨OT Ob⟩
theorem P5(h1:ZG X B e n gg)(h2:ZH X B es n gs)(hs:(assignEach (e::es) X.env).map (·.2)=assign e X.env::(assignEach es X.env).map (·.2)):ZH X B (e::es) n (oK gg gs):=⟨LQ (K8 h1.p h2.p hs)⟩
theorem P6{n' k':Nat}[C:Cz X B k](h:ZH X B es n gs)(hn:(assignEach es X.env).length=n')(ht:(assignEach es X.env).findIdx? (·.1)=none):ZG X B (.Tuple es k' pos) n (gT gs n'):=⟨OU (OG B.G.K C.c h.p hn ht C.K)⟩
end
def tgN:Expr->aC
 |.Name x _=>[x]
 |.Tuple es _ _=>es.filterMap λe=>match e with|.Name x _=>some x|_=>none
 |_=>[]
def cpN(X:Cx)(tg:Expr)(cap:List Nat):aC:=tgN tg++cap.map λj=>X.N.getD j ""
instance inCz [C:Cz X B k]{N':aC}{sc:cG}{cl:List (Str×Addr)}{A:Addr}{fp:List Addr}{s:af}{H:Hp}:Cz (p9 X N' sc cl A fp s H) B k:=⟨C.P,C.w,C.K,C.mg,C.b,C.c,C.r⟩
def Up(X:Cx)(N':aC)(sc:cG)(n:Nat)(cap:List Nat):Bool:=decide cap.Nodup&&decide (sc.kind=.function)&&(sc.names.all λy=>y.2 != .cell)&&(sc.names.all λy=>y.2 != .local||sc.names.lookup y.1==some .local)&&(sc.names.all λy=>y.2 != .free||(X.env.kindOf y.1==some .cell||X.env.kindOf y.1==some .free))&&decide (N'.length=n+cap.length)&&decide ((N'.drop n).map some=cap.map λj=>X.N[j]?)&&((N'.drop n).all λx=>sc.names.lookup x==some .free)
section
variable{sc:cG}{cap:List Nat}{ifs:List Expr}{gg:FG}{ft:FT}{s:FA}
 (h0:Up X (cpN X tg cap) sc n cap=true) (hs:Fz X it) (hi:ZI X B tg it s)
 (h1:∀(cl:List (Str×Addr)) (A:Addr) (fp:List Addr) (s:af) (H:Hp),ZG (p9 X (cpN X tg cap) sc cl A fp s H) B tg n gg)
 (h2:∀(cl:List (Str×Addr)) (A:Addr) (fp:List Addr) (s:af) (H:Hp),ZF (p9 X (cpN X tg cap) sc cl A fp s H) B ifs ft)
 (h3:∀(cl:List (Str×Addr)) (A:Addr) (fp:List Addr) (s:af) (H:Hp),ZE (p9 X (cpN X tg cap) sc cl A fp s H) B e f)
include h0 hs hi h1 h2 h3
theorem Uq [C:Cz X B k]:ZN X B (.ListComp e [⟨tg,it,ifs,0⟩] sc pos) (oW n cap s gg ft f):=by unfold Up at h0;simp only[bf,bB]at h0;obtain⟨⟨⟨⟨⟨⟨⟨a1,a2⟩,a3⟩,a4⟩,a5⟩,a6⟩,a7⟩,a8⟩:=h0;exact⟨L0 a1 (OE (N':=cpN X tg cap) C.c hi.p (λcl A fp s H=>⟨(h1 cl A fp s H).p,(h2 cl A fp s H).p,(h3 cl A fp s H).p⟩) a2 a3 a4 a5 a6 a7 a8 λx=>congrFun hs x)⟩
theorem cpW [C:Cz X B k](h:sets X i x=true)(hw:swapsWith (.ListComp e [⟨tg,it,ifs,0⟩] sc pos) (some (.Name x p)) apos.line X.env=pure true):PS X (.Assign [.Name x p] (.ListComp e [⟨tg,it,ifs,0⟩] sc pos) apos) (zN (BO (tFI B.G s) (tFG B.G n gg) (tFT B.G ft) (tF B.G f) n cap) (u0 i))/\cap.Nodup:=by unfold Up at h0;simp only[bf,bB]at h0;obtain⟨⟨⟨⟨⟨⟨⟨a1,a2⟩,a3⟩,a4⟩,a5⟩,a6⟩,a7⟩,a8⟩:=h0;obtain⟨b1,b2,b3,b4⟩:=E5 h;exact⟨Pj (N':=cpN X tg cap) C.c b1 b2 b3 hi.p (λcl A fp s H=>⟨(h1 cl A fp s H).p,(h2 cl A fp s H).p,(h3 cl A fp s H).p⟩) a2 a3 a4 a5 a6 a7 a8 (λx=>congrFun hs x) hw b4,a1⟩
theorem Ur [C:Cz X B k](h:sets X i x=true)(hw:swapsWith (.ListComp e [⟨tg,it,ifs,0⟩] sc pos) (some (.Name x p)) apos.line X.env=pure true):ZS X B (.Assign [.Name x p] (.ListComp e [⟨tg,it,ifs,0⟩] sc pos) apos) (oV i (cL (oW n cap s gg ft f))):=by have z:=cpW (k:=k) h0 hs hi h1 h2 h3 h hw;exact⟨Ml z.2 z.1⟩
end
section
variable{st:Stmt}{sts:List Stmt}{fs fs':FS}{ft:FT}{a':FA}{z1:Nat}
theorem WC(ha:ZE X B e f)(hr:ZA X B es a)(hs:Sz X e es):ZA X B (e::es) (oa f a):=⟨qF ha.p hr.p hs⟩
theorem WD:ZA X B [] oJ:=⟨rK⟩
theorem Us(ha:ZE X B e f)(hr:ZM X B es i a)(hs:Sz X e es):ZM X B (e::es) i (oa f a):=⟨Kz ha.p hr.p hs⟩
theorem Ut(h:sees X i x=true)(hs:S1 X (.Name x p)):ZM X B [.Name x p] i oJ:=⟨MM (pvI h) hs⟩
theorem Uu(h:sees X i x=true):ZV X (.Name x p) i:=⟨pvI h⟩
theorem Uv(h:ZN X B e a):ZE X B e (cL a):=⟨Sh h.p⟩
theorem WE:ZE X B (.Constant (.str y) j pos) (cC (.str y)):=⟨R8⟩
theorem WG{y:Int}:ZE X B (.Constant (.int y) j pos) (cC (.int y)):=⟨R7⟩
theorem WH{y:Bool}:ZE X B (.Constant (.bool y) j pos) (cC (.bl y)):=⟨V4⟩
theorem WI:ZE X B (.Constant .none j pos) (cC .non):=⟨R9⟩
theorem M4(h1:ZS X B st fs)(h2:ZB X B sts fs'):ZB X B (st::sts) (oj fs fs'):=⟨LL h1.p h2.p⟩
theorem WJ(h1:ZS X B st fs):ZB X B [st] fs:=⟨OR h1.p⟩
theorem WK:ZB X B [] oQ:=⟨OQ⟩
theorem Uw(h:ZE X B e f):ZS X B (.Return (some e) pos) (oG f):=⟨OS h.p⟩
theorem Ux(h:ZN X B e a):ZS X B (.Return (some e) pos) (qk a):=⟨LM h.p⟩
theorem Uy(h:ZE X B e f)(hs:swapsWith e none pos.line X.env=pure false):ZS X B (.Expr e pos) (o9 f):=⟨LN h.p hs⟩
theorem Uz(h:ZT X B e ft)(h1:ZB X B sts fs){sts':List Stmt}(h2:ZB X B sts' fs'):ZS X B (.If e sts sts' pos) (sIf ft fs fs'):=⟨Sj h.p h1.p h2.p⟩
theorem UA:ZE X B e vT:=⟨Mr⟩
theorem UB(h:ZA X B es a):ZN X B (.List es pos) (oU a):=⟨OO h.p⟩
theorem UC(h:ZA X B es a):ZE X B (.Tuple es z1 pos) (pE a):=⟨Sg h.p⟩
theorem UD(ha:ZE X B e f)(hb:ZE X B e' f'):ZN X B (.BinOp e .Add e' pos) (qO f f'):=⟨Pd ha.p hb.p⟩
theorem UE [C:Cz X B k](ha:ZE X B e f)(hb:ZE X B e' f'):ZE X B (.BinOp e .Add e' pos) (AA f f'):=⟨Po ha.p hb.p C.K⟩
theorem UF(ha:ZE X B e f)(hb:ZE X B (.BoolOp .And (e'::es) pos) f'):ZE X B (.BoolOp .And (e::e'::es) pos) (pW f f'):=⟨Se ha.p hb.p⟩
theorem UG(ha:ZE X B e f)(hb:ZE X B (.BoolOp .Or (e'::es) pos) f'):ZE X B (.BoolOp .Or (e::e'::es) pos) (cOr f f'):=⟨V8 ha.p hb.p⟩
theorem UH{op}(ha:ZE X B e f):ZE X B (.BoolOp op [e] pos) f:=⟨Sd ha.p⟩
theorem UI(ha:ZE X B e f):ZE X B (.UnaryOp .Not e pos) (EL f):=⟨Sf ha.p⟩
theorem UJ(ha:ZT X B e ft):ZT X B (.UnaryOp .Not e pos) (rQ ft):=⟨OL ha.p⟩
theorem UK(h:ZT X B o ft)(ha:ZE X B e f)(hb:ZE X B e' f'):ZE X B (.IfExp o e e' pos) (cIf ft f f'):=⟨V9 h.p ha.p hb.p⟩
theorem WL(h:ZT X B e ft):ZF X B [e] ft:=⟨OD h.p⟩
theorem WM:ZF X B [] pR:=⟨L1⟩
theorem UL(h:ZE X B e f):ZE X B e (zc f):=⟨SI h.p⟩
theorem UM(h:ZT X B e ft):ZT X B e (yf ft):=⟨Pe h.p⟩
theorem UN(h:ZE X B e f):ZO X B (some e) (oAt f):=⟨SQ h.p⟩
theorem UO:ZO X B none oNo:=⟨SO⟩
theorem UP(ha:ZT X B e ft)(hb:ZW X B (.BoolOp .Or (e'::es) pos) fu):ZW X B (.BoolOp .Or (e::e'::es) pos) (tH ft fu):=⟨LJ ha.p hb.p⟩
theorem UQ(h:ZT X B e ft):ZW X B (.BoolOp .Or [e] pos) ft:=⟨OM h.p⟩
theorem UR(h:ZT X B e ft):ZW X B (.BoolOp .And [e] pos) ft:=⟨LI h.p⟩
end
theorem US{s:FA}{gg:FG}{b:FS}[C:Cz X B k](hp:iM (model X.prog X.w) X.A X.env X.xe)(hn:X.N.length=n)(hi:ZI X B tg it s)(hg:ZG X B tg n gg)(hb:ZB X B body b)(hs:Fz X it):ZS X B (.For tg it body [] pos) (r6 s gg b):=⟨Pb (Ld hp C.c hi.p hg.p hb.p λx=>congrFun hs x)⟩
theorem UT{b:FS}(hp:iM (model X.prog X.w) X.A X.env X.xe)(hc:ZT X B e ft)(hb:ZB X B body b):ZS X B (.While e body [] pos) (whL ft b n):=⟨Kc n (La hp hc.p hb.p)⟩
end
end L4
namespace L4
open PySem PySem.Spec PyProof.Rows L2 L3
open PySem.W (fnOf)
def nmO(st:Stmt):aC:=(oP st).names.filterMap λy=>match y.2 with|.local=>some y.1|.cell=>some y.1|_=>none
def psO(st:Stmt):aC:=(rY st).args.map (·.arg)
def okO(N ps:aC)(st:Stmt)(np n:Nat):Bool:=decide ((oP st).kind=.function)&&(oP st).isCoroutine==false&&(oP st).isGenerator==false&&decide N.Nodup&&decide (N.take ps.length=ps)&&(ps.all λx=>match (oP st).names.lookup x with|some .local=>true|some .cell=>true|_=>false)&&((oP st).names.all λy=>y.2 != .free)&&decide (ps.length=np)&&decide (N.length=n)
theorem okk{N ps:aC}{st:Stmt}{np n:Nat}(h:okO N ps st np n=true):pZ N ps (oP st)/\ps.length=np/\N.length=n:=by
 unfold okO at h;simp only[bf,bB,beq_iff_eq]at h;obtain⟨⟨⟨⟨⟨⟨⟨⟨h1,h2⟩,h3⟩,h4⟩,h5⟩,h6⟩,h7⟩,h8⟩,h9⟩:=h;refine⟨⟨h1,h2,h3,h4,h5,λx hx=>?_,λy hy e=>?_⟩,h8,h9⟩
 ·have z:=bD.mp h6 x hx;split at z
  ·rename_i e;exact .inl e
  ·rename_i e;exact .inr e
  ·cases z
 ·have z:=bD.mp h7 y hy;rw[e]at z;exact aq z (by decide)
section
variable{B:Bz}[Y:Yb B]{x m qual:Str}{st s0:Stmt}{l:List Stmt}{k c np n:Nat}{b:FS}{p:Str}{ps xs:aC}{N:aC}
abbrev Bdz(B:Bz)(N:aC)(qual:Str)(st:Stmt)(l:List Stmt)(k:Nat)(b:FS):Prop:=∀{f:Addr} {cdv:aa} {A:aH} {outer:List Env} {s:af} {H:Hp} {E:XK} [Cz (yg B.P B.w B.G.K B.mg B.base N qual st f cdv A outer s H E) B k],ZB (yg B.P B.w B.G.K B.mg B.base N qual st f cdv A outer s H E) B l b
omit Y in
theorem Bdz.ok(h:Bdz B N qual st l k b)(hl:ph st=l):Bdy B.P B.w B.G.K B.mg B.base N qual st k (tFS B.G b):=λf cdv A outer s H E hr=>by subst hl;exact(@h f cdv A outer s H E ⟨rfl,rfl,rfl,rfl,rfl,rfl,hr⟩).p
theorem gF4{g:aA->Option D}(hg:g=fnD np n b)(q:GD B.G.K x st)(hl:ph st=s0::l)(body:Bdz B (nmO st) x st (s0::l) k b)(S:okO (nmO st) (psO st) st np n=true:=by kernel_rfl)(bd:Bds x x st (psO st):=by (repeat intro _);rfl):Df B (k+1) x (spF B.G g):=
 ⟨_,gF hg Y.y q (okk S).1 (body.ok hl) (okk S).2.1 (okk S).2.2 bd⟩
theorem gF5(N:aC){g:aA->Option D}(hg:g=fnD np n b)(q:GD B.G.K x st)(hl:ph st=s0::l)(body:Bdz B N x st (s0::l) k b)(S:okO N (psO st) st np n=true:=by kernel_rfl)(bd:Bds x x st (psO st):=by (repeat intro _);rfl):Df B (k+1) x (spF B.G g):=
 ⟨_,gF hg Y.y q (okk S).1 (body.ok hl) (okk S).2.1 (okk S).2.2 bd⟩
theorem gN4{g:aA->Option aA}(hg:g=fnN np n b)(q:GD B.G.K x st)(hl:ph st=s0::l)(body:Bdz B (nmO st) x st (s0::l) k b)(S:okO (nmO st) (psO st) st np n=true:=by kernel_rfl)(bd:Bds x x st (psO st):=by (repeat intro _);rfl):Df B (k+1) x (spN B.G g):=
 ⟨_,gN' hg Y.y q (okk S).1 (body.ok hl) (okk S).2.1 (okk S).2.2 bd⟩
theorem gL4{g:aA->aA->Option (D×aA)}(hg:g=fnL np n b)(q:GD B.G.K x st)(hl:ph st=s0::l)(body:Bdz B (nmO st) x st (s0::l) k b)(S:okO (nmO st) (psO st) st (np+1) n=true:=by kernel_rfl)(bd:Bds x x st (psO st):=by (repeat intro _);rfl):Df B (k+1) x (spL B.G g):=
 ⟨_,gL hg Y.y q (okk S).1 (body.ok hl) (okk S).2.1 (okk S).2.2 bd⟩
theorem gM4{g:aA->aA->Option (D×aA)}(hg:g=fnM np n b)(q:GD B.G.K x st)(hl:ph st=s0::l)(hp:psO st=p::ps)(body:Bdz B (nmO st) x st (s0::l) k b)(S:okO (nmO st) (p::ps) st (np+1) n=true:=by kernel_rfl)(bd:Bds x x st (p::ps):=by (repeat intro _);rfl):Df B (k+1) x (spM B.G g):=
 ⟨_,gM hg Y.y q (okk S).1 (body.ok hl) (gh (okk S).2.1) (okk S).2.2 bd⟩
theorem hF4{g:aA->Option D}(C:CF B.G.K (B.G.ca c) xs)(hg:g=fnD np n b)(q:GM B.G.K (B.G.ca c) m qual st)(hl:ph st=s0::l)(body:Bdz B (nmO st) qual st (s0::l) k b)(S:okO (nmO st) (psO st) st np n=true:=by kernel_rfl)(bd:Bds m qual st (psO st):=by (repeat intro _);rfl):zZ B.G B.P B.w B.mg B.base (k+1) m c g:=by obtain⟨f,fd,a,i,F⟩:=q;exact⟨f,fd,_,C.ci.cl,⟨a,i,F.kp⟩,bd.ok F,Mg hg (okk S).2.1 (okk S).2.2 F (okk S).1 (body.ok hl f)⟩
theorem gI4{g:aA->Option (aC×aA)}(C:CF B.G.K (B.G.ca c) xs)(a:gx B.G.K mainGlobals x=some (some (.ref (B.G.ca c))))(hg:g=fnI c np n b)(q:GM B.G.K (B.G.ca c) "__init__" qual st)(hl:ph st=s0::l)(hp:psO st=p::ps)(body:Bdz B (nmO st) qual st (s0::l) k b)(S:okO (nmO st) (p::ps) st (np+1) n=true:=by kernel_rfl)(bd:Bds "__init__" qual st (p::ps):=by (repeat intro _);rfl):Kf B (k+1) x c g []:=
 ⟨⟨_,gI hg Y.y C a q (okk S).1 (body.ok hl) (gh (okk S).2.1) (okk S).2.2 bd⟩,rfl⟩
theorem gJ4{g:aA->Option (aC×aA)}{dds:aA}(C:CF B.G.K (B.G.ca c) xs)(a:gx B.G.K mainGlobals x=some (some (.ref (B.G.ca c))))(hg:g=fnI c np n b)(q:GJ B.G.K (B.G.ca c) qual st (dds.map vD))(hl:ph st=s0::l)(hp:psO st=p::ps)(body:Bdz B (nmO st) qual st (s0::l) k b)(j:Nat)(S:okO (nmO st) (p::ps) st (np+1) n=true:=by kernel_rfl)(hf:dds.all qV=true:=by rfl)
  (bd:HR (dds.map vD).length λdl=>HR ((p::ps).length - ((dds.map vD).drop j).length) λus=>∀(T:Addr) (kV doc pm:aa) (an:Option Addr) (cdv ct:aa),∃k,bindArgs (fnOf "__init__" qual (rY st) (ph st) (oP st) (.ref T) kV doc pm an cdv ct) ⟨us,[]⟩=seqItems? (.ref T)>>=k/\k (some dl.toArray)=pure ((p::ps).zip (us++dl.drop j)):=by (repeat intro _);exact⟨_,rfl,rfl⟩):Kf B (k+1) x c g (dds.drop j):=
 ⟨⟨_,by rw[fz];exact gJ hg Y.y C a q (okk S).1 (body.ok hl) j (gh (okk S).2.1) (okk S).2.2 bd⟩,by
  rw[bD]at hf ⊢;exact λd h=>hf d (jr h)⟩
theorem P7(n:Nat)(ca:Nat->Addr):∀k,k<n->((bC n).map ca).getD k 0=ca k:=λk h=>by rw[cp,bu,lY h];rfl
theorem Xo{n:Nat}{ca:Nat->Addr}(h:decide ((bC n).map ca).Nodup=true):∀j k,j<n->k<n->ca j=ca k->j=k:=λj k hj hk e=>by rw[<-P7 n ca j hj,<- P7 n ca k hk]at e;exact S8 (bj h) (by simpa using hj) (by simpa using hk) e
def KH:Nat->(Nat->Prop)->Prop
 |0,_=>True
 |n+1,Q=>Q 0/\KH n λk=>Q (k+1)
theorem KH.at:∀{n:Nat} {Q:Nat->Prop},KH n Q->∀k,k<n->Q k
 |_+1,_,h,0,_=>h.1
 |_+1,_,h,k+1,hk=>KH.at (Q:=λk=>_) h.2 k (fS hk)
end
section
variable{X:Cx}{B:Bz}{k j i n:Nat}{x y:Str}{e e' tg:Expr}{es:List Expr}{p p2 p3 pos apos:Pos}{f f':FE}{a:FA}{st:Stmt}{sts:List Stmt}{fs fs':FS}{ft:FT}
theorem UU [C:Cz X B k](ha:ZE X B e f)(hb:ZE X B e' f')(hm:behindInMarks .In e'=false):ZT X B (.Compare e [.In] [e'] pos) (cT (c2 (yF false) f f')):=⟨PU (DF C.r) ha.p hb.p hm⟩
theorem UV [C:Cz X B k](ha:ZE X B e f)(hb:ZE X B e' f')(hm:behindInMarks .In e'=false):ZE X B (.Compare e [.In] [e'] pos) (c2 (yF false) f f'):=⟨SR (DF C.r) ha.p hb.p hm⟩
theorem UW{e2:Expr}{f2:FE}[C:Cz X B k](ha:ZE X B e f)(hb:ZE X B e' f')(hc:ZE X B e2 f2)(h1:Az X e "get")(h2:Ez apos pos)(h3:starEach [e',e2] X.env=[(false,eval e' X.env),(false,eval e2 X.env)]):ZE X B (.Call (.Attribute e "get" apos) [e',e2] [] pos) (DT f f' f2):=⟨Ms (DF C.r) ha.p hb.p hc.p ⟨h1,by rw[h3];rfl,h2,by rw[h3];rfl⟩⟩
theorem UX{gg:FG}(hn:X.N.length=n)(he:ZE X B e f)(hg:ZG X B tg n gg)(hs:swapsWithSole [tg] e pos.line X.env=pure false)(hw:swappedStores [tg] e X.env=pure none)(h1:(assignEach [tg] X.env).map (·.2)=[assign tg X.env]):ZS X B (.Assign [tg] e pos) (Ho f gg):=⟨OV (Rm he.p hg.p hs hw h1)⟩
theorem UY [C:Cz X B k][N:Nb B "int"](hg:Gz X "int")(hs:S1 X e)(ha:ZE X B e f):ZE X B (.Call (.Name "int" p) [e] [] pos) (c1 Hu f):=⟨QO SG (ctI hg (by decide) hs JS Pv.boot_int (qF ha.p rK hs))⟩
theorem UZ{m:Str}[C:Cz X B k](hm:m="index")(ha:ZE X B e f)(hb:ZE X B e' f')(h1:Az X e m)(h2:Ez apos pos)(h3:S1 X e'):ZE X B (.Call (.Attribute e m apos) [e'] [] pos) (c2 sQ f f'):=by subst hm;exact⟨KF (bmI h1 h2 h3 fm mF F.type_list_index (KG C.K) ha.p (qF hb.p rK h3))⟩
end
end L4
namespace L4
open PySem PySem.Spec PyProof.Rows L2 L3
variable{pos:Pos}
section
variable{X:Cx}{G:Bg}
def P8:D->D->Option D
 |.dic ks _,.dic [] _=>some (.bl (!ks.isEmpty))
 |_,_=>none
def WN:R2:=λx y H Q=>∃a b kvs,x=.ref a/\y=.ref b/\Rd H a (.dK kvs)/\Rd H b (.dK [])/\Q (.bl (!kvs.isEmpty)) H
theorem U0(hu:X.A.units<cLine):OpR X (compareOp .NotEq) WN:=by
 intro pins s σ H x y v u Q I rx ry h;obtain⟨a,b,kvs,ex,ey,ea,eb,q⟩:=h;subst ex ey;cases (show v=Value.ref a from rx);cases (show u=Value.ref b from ry);obtain⟨z,hd,vs,rel,dd⟩:=yc I.hok ea;obtain⟨z',hd',vs',rel',dd'⟩:=yc I.hok eb;cases rel';refine W.keq_ne hd hd' dd dd' hu (r:=true) (λe=>?_) ?_
 ·cases vs with
  |nil=>exact .nil
  |cons _ _=>cases e
 ·refine⟨.bl (!kvs.isEmpty),H,I,?_,q⟩;show Value.bool _=Value.bool _;cases rel<;>rfl
theorem U1:OpD G WN P8:=λx y z H0 H v u Q e s rx ry k=>by
 cases x with
 |dic ks ds=>
  cases y with
  |dic ks' ds'=>
   cases ks' with
   |nil=>
    cases e;unfold Rep at rx ry;obtain⟨p,ob,xs,rfl,h1,h2,h3⟩:=rx;obtain⟨p',ob',xs',rfl,h1',h2',h3'⟩:=ry;refine⟨p,p',ks.zip xs,rfl,rfl,.inr ⟨ob,s _ _ h1⟩,.inr ⟨ob',?_⟩,?_⟩
    ·exact s _ _ h1'
    ·have:(ks.zip xs).isEmpty=ks.isEmpty:=by
      cases ks with
      |nil=>rfl
      |cons a r=>cases xs with
       |nil=>cases h2
       |cons _ _=>rfl
     rw[this];exact k _ λ_ _=>qN _
   |cons _ _=>cases e
  |_=>cases e
 |_=>cases e
theorem M5:PE X (.Dict [] [] pos) (Lx []):=PE.weak BK λσ H Q hh p e=>by
 obtain⟨_,kvs,e1,_,q⟩:=hh p e;cases kvs with
 |nil=>
  have:upd (upd H p (.dK [])) p (.dK (wN [] []))=upd H p (.dK []):=by
   funext a
   unfold upd;split<;>rfl
  rw[this]at q;exact q
 |cons _ _=>cases e1
theorem M6:PE X (.Dict [] [] pos) (tF G (vc [])):=Jg M5 gd (cf _)
end
instance inNeE:CmC .NotEq P8:=⟨λ_ _ _ u=>⟨_,U0 (by omega),U1⟩⟩
theorem U2{X:Cx}{B:Bz}:ZE X B (.Dict [] [] pos) (vc []):=⟨M6⟩
theorem sub_dict_dict:isSubtype (.type "dict") (.type "dict")=pure true:=by rw[jL];kernel_rfl
variable{o:Obj}{ep:Nat}
section
variable{prog:aE}{w:az}{A:aH}{E:aa->af->Prop}{s:af}
theorem E6{Q:List aa->af->Prop}{d:Addr}{kvs:List (Key×aa)}(hh:A.handled=none)(hd:(d==sysModules)=false)(ho:s.heap.get? d=some o)(hc:o.cls=.type "dict")(hm:s.heap.DictAt (oT prog w) d kvs ep)(hn:kvs.length<=1000)
  (hQ:∀h2 k2 acc,s.heap.objs.size<=h2.objs.size->(∀b o,s.heap.get? b=some o->h2.get? b=some o)->ItemsOf (λi v=>∃k x,kvs[i]?=some (k,x)/\(oT prog w).is k v=true) acc kvs.length->Q acc.toList { s with heap:=h2,toks:=k2 }):wpAny (model prog w) A (collect (.ref d)) Q E s:=by
 have hlt:=aO ho;let lO:Obj:={ cls:=.type "list", data:=.seq ([]:List aa).toArray };unfold collect;refine ao (wpAny_runValue (dc F.entry_proto_collect ?_));rw[dv F.plain_proto_collect _];show wpAny _ A.in1 (newList []>>=λl=>again (.builtin "list.__iadd__" ⟨[l,.ref d],[]⟩)) _ _ s;refine ao (fi ?_);refine aB ⟨fw mG _,dc F.entry_list_iadd ?_⟩;rw[dv mG _];show wpAny _ A.in1 (kZ (.ref s.heap.objs.size) (.ref d) (.ref s.heap.objs.size)) _ _ _;have o1:(s.heap.push lO).get? d=some o:=aM _ ho;have T1:jR { s with heap:=s.heap.push lO } (.ref d) "dict" := ⟨o,o1,hc⟩;unfold kZ;refine ao (iE T1 ?_);rw[aj (by
  have:lC (.ref s.heap.objs.size) (.ref d)=false:=by simp[lC];exact λe=>aq e (fC hlt)
  rw[this];decide)]
 have m1:(s.heap.push lO).DictAt (oT prog w) d kvs ep:=hm.at' λo e=>aM _ e;refine ao (mC (knd:=oT prog w) (kvs:=kvs) (ep:=ep) hd m1 ?_);let h3:=(s.heap.push lO).push { cls:=.type "dict_keyiterator", data:=.fields #[.ref d,.int 0 0,.int kvs.length 0,.int ep 0] };have T3:jR { s with heap:=h3 } (.ref d) "dict" := ⟨o,aM _ o1,hc⟩;have ez:(s.heap.push lO).objs.size=s.heap.objs.size+1:=de _ _;have L3:h3.get? s.heap.objs.size=some lO:=aM _ (bz _ rfl);have I3:h3.IsKeyIter (s.heap.objs.size+1) d 0 kvs.length ep:=⟨_,by rw[<-ez];exact bz _ rfl,rfl,rfl⟩;have M3:h3.DictAt (oT prog w) d kvs ep:=m1.at' λo e=>aM _ e;have K3:∀b o,s.heap.get? b=some o->h3.get? b=some o:=λb o e=>aM _ (aM _ e);show wpAny _ A.in1 (holding [.ref (s.heap.push lO).objs.size] (la (.ref d))>>=_) _ _ { s with heap:=h3 };rw[ez];refine ao (cE ?_);unfold la;refine ao (jG T3 F.slot_dict_len.lookup ?_);generalize hid:("dict.__len__" : String)=id0;wp_delta;rw[show splitId id0=some ("dict", "__len__") from by subst hid;decide +kernel];subst hid;refine ao (wpAny_isInstance T3 sub_dict_dict ?_);dsimp only;rw[aj (by decide),ai (by decide +kernel)];refine ao (iE T3 ?_);refine aB ?_;rw[ai (by decide +kernel)];refine ao (wpAny_rule ?_);refine ao ?_;show wpAny _ A.in1 (updateSeq s.heap.objs.size (·.push .none)>>=λ_=>updateSeq s.heap.objs.size (·.pop)) _ _ _
 refine ao (jI L3 rfl ?_);have S2:=jl (cQ (·.push Value.none)) L3 rfl
 refine jI S2 rfl ?_;have S3:=jl (cQ (·.pop)) S2 rfl
 have oth:∀b o,b≠s.heap.objs.size->h3.get? b=some o->((h3.update s.heap.objs.size (cQ (·.push Value.none))).update s.heap.objs.size (cQ (·.pop))).get? b=some o:=
  λb o hb e=>(fR _ _ (cR hb)).trans ((fR _ _ (cR hb)).trans e)
 have hne:d≠s.heap.objs.size+1:=aT (cW hlt);have hSf:s.heap.objs.size∉[s.heap.objs.size+1,d]:=by
  intro z;rcases aN.mp z with z|z
  ·exact aq z (aT (dB _))
  ·exact aq (aR.mp z) (fC hlt)
 have W:=(m6 (prog:=prog) (w:=w) (knd:=oT prog w) (A:=A.in1) (by simp[hh]) (s.heap.objs.size+1) d hne kvs ep).toS;refine aB ⟨fw F.plain_extend_loop _,codeAny_extend_loopS W (by rw[bK];omega) _ hSf _ kvs.length 0 _ _ _ rfl (cf _)
  ⟨I3.at λo e=>oth _ o (fC (dB _)) e,M3.at' λo e=>oth _ o (aT hlt) e⟩ S3 (ItemsOf.nil _) λs' acc' c' hm hS' hacc=>?_⟩
 show wpAny _ A (load s.heap.objs.size>>=_) _ _ s';refine ao (wpAny_load hS' ?_);obtain⟨h2,g2,d2,k2,o2⟩:=s';have eg:g2=s.gens:=hm.gens;have ed:d2=s.drawn:=hm.drawn;have eo:o2=s.os:=hm.os;subst eg ed eo;refine aB (hQ h2 k2 acc' (eL (aO hS')) (λb o e=>?_) hacc);have hb:=aO e;exact hm.heap b o (λz=>by
  rcases aN.mp z with z|z
  ·exact aq z (aT hb)
  ·exact aq (aR.mp z) (aT (cW hb))) (oth b o (aT hb) (K3 b o e))
theorem Jm:∀(vs:List aa) (ss:aC),vs.length=ss.length->(∀(j:Nat) (v:aa) (z:Str),vs[j]?=some v->ss[j]?=some z->∃t,v=.str z t)->fg vs ss
 |[],[],_,_=>.nil
 |v::vs,z::ss,h,k=>by obtain⟨t,rfl⟩:=k 0 v z rfl rfl;exact .cons z t (Jm vs ss (gh h) λj=>k (j+1))
 |[],_::_,h,_=>by cases h
 |_::_,[],h,_=>by cases h
theorem Gq{Q:aa->af->Prop}{d:Addr}{kvs:List (Key×aa)}{ss:aC}(hh:A.handled=none)(hd:(d==sysModules)=false)(ho:s.heap.get? d=some o)(hc:o.cls=.type "dict")(hm:s.heap.DictAt (oT prog w) d kvs ep)(hn:kvs.length<64)(hk:kvs.map aF=ss.map Sum.inr)
  (hQ:∀p h2 k2 out e,s.heap.objs.size<=p->(∀b o,s.heap.get? b=some o->h2.get? b=some o)->fg out (tN ss)->h2.get? p=some (seqObj "list" out.toArray e)->Q (.ref p) { s with heap:=h2,toks:=k2 }):wpAny (model prog w) A (call (.builtin "sorted") [.ref d]) Q E s:=by
 refine lp kind_sorted plain_sorted entry_sorted (args_sorted1 _) ?_;unfold dP.«sorted»;refine ao (m:=checkCount "sorted" 1 1 _) (aB ?_);refine ao (E6 (by simp[hh]) hd ho hc hm (by omega) λh2 k2 acc hz kk ia=>?_);have hl:acc.toList.length=ss.length:=by have:=aS bS hk;rw[ah,ah]at this;rw[eB,ia.1,this]
 have hS:fg acc.toList ss:=Jm _ _ hl λj v z e1 e2=>by
  rw[jk]at e1;obtain⟨k,x,e3,e4⟩:=ia.2 j v e1;have e5:(kvs.map aF)[j]?=some k:=by rw[bu,e3];rfl
  rw[hk,bu,e2]at e5;cases e5;exact EU e4
 have h64:acc.toList.length<64:=by rw[eB,ia.1];exact hn
 refine ao (jT ?_);have hoL:(h2.push (seqObj "list" acc.toList.toArray 0)).get? h2.objs.size=some (seqObj "list" acc.toList.toArray 0):=bz _ rfl;show wpAny _ _ _ _ _ { s with heap:=h2.push (seqObj "list" acc.toList.toArray 0),toks:=k2 };refine ao (cE (ik slot_list_sort ⟨_,hoL,rfl⟩ entry_list_sort (list_sort_treeK strKind_oneLt hoL hS.keysOf (λv₁ v₂ rest e=>keyKind_strs (by rw[<-e];exact hS)) h64 λst' a1 a2=>⟨_,rfl,?_⟩) (args_list_sort _)));obtain⟨ss',b1,b2,b3⟩:=sorted_out_str hS a1 a2;rw[Cj b2 b3]at b1;obtain⟨e,he⟩:=sortedHeap_at (vs:=acc.toList) (out:=(arrOf st').map (·.2)) hoL
 refine aB ⟨_,rfl,hQ h2.objs.size _ k2 _ e hz (λb o z=>?_) b1 he⟩;have:=kk b o z;rw[sortedHeap_old (aT (aO this)) (by rw[de];exact cW (aO this))];exact aM _ this
end
variable{e:Expr}{f:FE}
section
variable{X:Cx}{G:Bg}{B:Bz}{k:Bool}{pins:cn}{σ:St}{H:Hp}{s:af}
theorem E7(hc:X.calm=true):p6 X (.builtin "sorted") (λxs H Q=>∃(a:Addr) (o:Obj) (kvs:List (Key×V)) (ss:aC),xs=[.ref a]/\H a=some (.frz o (.dK kvs))/\kvs.map aF=ss.map Sum.inr/\ss.length<64/\∀p,H p=none->Q (.ref p) (upd H p (.lst ((tN ss).map V.str)))):=by
 intro pins s σ H xs us Q I r h;obtain⟨a,o,kvs,ss,rfl,he,hk,h64,q⟩:=h;obtain⟨u,rfl,ru⟩:=vals1 r;cases ru;obtain⟨q0,_,y,vs,r,ob,es,ep,e1,e2,e3,e4⟩:=(show pL X.prog X.w H s.heap a (.frz o (.dK kvs)) from I.hok a _ he);rw[q0]at e1;cases e1;have hl:kvs.length=vs.length:=r.length;have hl2:=aS bS hk;rw[ah,ah]at hl2;have kv:∀{kvs:List (Key×V)} {vs:List (Key×aa)},KV kvs vs->vs.map aF=kvs.map aF:=λ{kvs vs} r=>by
  induction r with
  |nil=>rfl
  |cons h _ ih=>rw[ay,ay,ih,show _=_ from h.1]
 refine Gq (I.ok.hd hc) y q0 e2.1 ⟨o,es,q0,e2,e3,e4⟩ (by omega) ((kv r).trans hk) λp h2 k2 out e hp kk hs hg=>?_;refine⟨.ref p,_,I.laid (t':=k2) kk hp ?_,rfl,q _ (I.hok.fresh hp)⟩;refine⟨?_,out,e,M0 hs,hg⟩;rw[ah,show (tN ss).length=ss.length from(hZ ss leS).length_eq,bK];omega
def AF:List Key->Option aC
 |[]=>some []
 |.inr x::ks=>(AF ks).map (x::·)
 |_=>none
theorem Gr:∀{ks:List Key} {ss:aC},AF ks=some ss->ks=ss.map Sum.inr
 |[],ss,e=>by cases e;rfl
 |.inl _::_,ss,e=>by cases e
 |.inr x::ks,ss,e=>by
  unfold AF at e;cases e1:AF ks with
  |none=>rw[e1]at e;cases e
  |some l=>rw[e1]at e;cases e;rw[Gr e1];rfl
def Ae(f:FE):FA:=λρ=>match f ρ with
 |some (.dic ks ds,ρ')=>match AF ks with
  |some ss=>if ss.length<64 then some ((tN ss).map D.str,ρ')else none
  |none=>none
 |_=>none
theorem Gs(h:PE X e (tCB (λxs H Q=>∃(a:Addr) (o:Obj) (kvs:List (Key×V)) (ss:aC),xs=[.ref a]/\H a=some (.frz o (.dK kvs))/\kvs.map aF=ss.map Sum.inr/\ss.length<64/\∀p,H p=none->Q (.ref p) (upd H p (.lst ((tN ss).map V.str)))) (tFA G (oa f oJ)))):PE X e (tFN G (Ae f)):=PE.weak h λσ H Q hh=>by
 obtain⟨F,ρ,H0,es,ρ',R,e,k⟩:=hh;unfold Ae at e;split at e
 ·rename_i ks ds ρ1 e1;cases e2:AF ks with
  |none=>simp only[e2]at e;cases e
  |some ss=>
   simp only[e2]at e;split at e
   ·rename_i h64;cases e;refine⟨F,ρ,H0,[.dic ks ds],_,R,by unfold oa;rw[e1];rfl,λys H1 H1' s R' rs=>?_⟩;unfold oq at rs;obtain⟨v,r0,rfl,rv,rn⟩:=rs;unfold oq at rn;subst rn;unfold Rep at rv;obtain⟨a,o,xs,rfl,r1,r2,r3⟩:=rv;refine⟨a,o,_,ss,rfl,R'.sub _ _ r1,?_,h64,λp hp=>?_⟩
    ·rw[mO (jX r2)];exact Gr e2
    ·exact k p _ _ _ s (R'.newOwn hp _) oA (R'.h0none hp) (R'.bNone hp) (R'.apart hp) (yK _)
   ·cases e
 ·cases e
end
section
variable{X:Cx}{B:Bz}{k:Nat}{e:Expr}{f:FE}{p pos:Pos}
theorem U3 [C:Cz X B k][N:Nb B "sorted"](hs:S1 X e)(hg:Gz X "sorted")(ha:ZE X B e f):ZN X B (.Call (.Name "sorted" p) [e] [] pos) (Ae f):=⟨Gs (cbI hg (by decide) hs (E7 C.c) kh (qF ha.p rK hs))⟩
end
def KI(f:FE)(lo hi:Option Int):FE:=λρ=>match f ρ with
 |some (.tup ds,ρ1)=>if HT.sIx ds.length 0 lo=0/\HT.sIx ds.length ds.length hi=ds.length then none else some (.tup (cutD ds lo hi),ρ1)
 |_=>none
section
variable{X:Cx}{G:Bg}
theorem KJ{lo hi:Option Int}(h:PE X e (tSl (RJ G.K) (tF G f) (tO lo) (tO hi))):PE X e (tF G (KI f lo hi)):=PE.weak h λσ H Q hh=>by
 obtain⟨F,ρ,H0,ds,ρ',R,e,k⟩:=hh;unfold KI at e;split at e
 ·rename_i xs ρ1 e1;split at e
  ·cases e
  ·rename_i hn;cases e;refine⟨F,ρ,H0,_,_,R,e1,λv H1 H1' s R' r=>?_⟩;unfold Rep at r;obtain⟨a,ys,rfl,h1,h2⟩:=r;rw[ou h2]at hn;exact⟨a,ys,rfl,SqT.mono R'.sub h1,hn,λp hp=>k _ _ _ (s.trans (oH (R'.h0none hp) _)) (R'.newIm hp _) (vJ (SqT.of oA) (oq.mono (oH (R'.h0none hp) _) _ _ (B4 h2)))⟩
 ·cases e
theorem Xp(hK:X.K=G.K:=by rfl):SlR X (RJ G.K):=by rw[<-hK];exact RK
end
section
variable{X:Cx}{B:Bz}{k:Nat}{e:Expr}{f:FE}{p pos:Pos}
theorem U4{lo hi:Option Expr}{l h:Option Int}[C:Cz X B k](he:ZE X B e f)(hl:ZK X lo l)(hh:ZK X hi h):ZE X B (.Subscript e (.Slice lo hi none p) pos) (KI f l h):=⟨KJ (BG (Xp C.K) he.p hl.p hh.p)⟩
end
section
variable{t:iP}{m n:Nat}
def rs(m i q:Nat):iy:=⟨i,jJ m i - i,i,q,none⟩
end
section
variable{ow:Array (Option Nat)}
def lv(ow:Array (Option Nat)):List (Nat×Nat):=(bC 32).filterMap λj=>(ow.getD j none).map (j,·)
end
section
variable{X:Cx}{G:Bg}
theorem M7{g:aA->aA->Option (D×aA)}{i:Nat}{a:FA}{E:XK}{σ:St}{H:Hp}{Q:VK}(hh:tF G (qg g i a) σ H Q):wJ (spL G g) [] E (HK G i a) σ H Q:=by
 obtain⟨F,ρ,H0,d,ρ',R,e,k⟩:=hh;unfold qg at e;rcases oZ (f:=a) (ρ:=ρ)with e1|⟨ds,ρ1,e1⟩<;>simp only[e1]at e
 ·cases e
 ·cases e2:pX ρ1 i with
  |none=>simp only[e2]at e;cases e
  |some es=>
   simp only[e2]at e;cases e3:g es ds with
   |none=>simp only[e3]at e;cases e
   |some q=>obtain⟨d1,es'⟩:=q;simp only[e3]at e;cases e;refine⟨F,ρ,H0,ds,ρ1,es,R,e1,e2,λys b H1 H1' s R' rs sb=>?_⟩;obtain⟨s,es0,es1⟩:=rj e2;obtain⟨b',xs',t1,t2,t3,t4⟩:=(R'.sl i s es0).lst es1;rw[qT t1]at sb;cases sb;refine⟨b,ys,br _,b,ys,xs',H1,es,ds,d,es',rfl,t2,t3,R'.sub,t4,rs,e3,λv zs H2 H2' u1 u2 u3 fr w0 w1 w2 w3=>?_⟩;refine k _ _ _ (oE.trans ‹oE H0 H1› u1) ?_ w3;unfold putAt;rw[es0];exact R'.call1 es0 es1 t1 u1 u2 u3 fr w0 w1 w2
end
end L4
namespace L4
open PySem PySem.Spec PySem.Calls PyProof.Rows PySem.W L2 L3
noncomputable abbrev cS(s:Str):FE:=cC (.str s)
noncomputable abbrev a1(e:FE):FA:=oa e oJ
section
variable{X:Cx}{G:Bg}{C:Addr}{x:Str}{p pos:Pos}{e:Expr}{c:Nat}
structure Mk0(K:au)(C:Addr):Prop where
 makes:makesIn K C=true
 init:findIn K (.ref C) "__init__" = some (some (.builtin "object.__init__"))
 kp:keepIn K (.ref C)=true
theorem KL(M:Mk0 X.K C)(hg:Gl X x)(hm:X.mg x=some (.ref C))(hdb:(x==("__debug__" : Str))=false):PE X (.Call (.Name x p) [] [] pos) (λσ H Q=>∀y dx,H y=none->H dx=none->dx≠y->Q (.ref y) (upd (upd H dx (.own y)) y (.ins C dx []))):=by
 intro pins s σ H Q I h;refine dw (yU I hg hm ?_ hdb);refine jP I.kIn M.kp ?_;have hq:=h (s.heap.objs.size+1) s.heap.objs.size (I.hok.fresh (eM _)) (I.hok.fresh (aI _)) (aT (dB _));have I2:=Inv.made (C:=C) I;have Y:=kr (M:=model X.prog X.w) I.kIn M.makes;refine iI (JU I.kIn M.makes M.init (λself=>Looks.of_pure (oi_bind self)) ?_);have e2:((s.heap.push emptyDict).push (instObj C s.heap.objs.size)).get? (s.heap.objs.size+1)=some (instObj C s.heap.objs.size):=by rw[<-de s.heap emptyDict];exact bz _ rfl
 have t2:Looks (model X.prog X.w) ((s.heap.push emptyDict).push (instObj C s.heap.objs.size)) (isInstance (.ref (s.heap.objs.size+1)) (.type "object")) true:=
  ((Looks.ld e2).andThen .now:Looks (model X.prog X.w) _ (typeOf (.ref (s.heap.objs.size+1))) (.ref C)).andThen (Y.top.keeps λb o e=>aM _ (aM _ e))
 refine lT oi_plain entry_oi (check_slot oi_kind oi_split t2 (oi_args _) ?_);rw[oi_run];exact aB (And.intro rfl ⟨V.ref (s.heap.objs.size+1),_,I2,rfl,hq⟩)
def U5(c:Nat):FE:=λρ=>some (.obj c [] [],ρ)
theorem KM(h:PE X e (λσ H Q=>∀y dx,H y=none->H dx=none->dx≠y->Q (.ref y) (upd (upd H dx (.own y)) y (.ins (G.ca c) dx [])))):PE X e (tF G (U5 c)):=PE.weak h λσ H Q hh=>by
 obtain⟨F,ρ,H0,d,ρ',R,e,k⟩:=hh;cases e;intro x dx hx hdx ne;have hx2:(upd H dx (.own x)) x=none:=by rw[oB (λz=>ne z.symm)];exact hx
 have sx:oE H (upd (upd H dx (.own x)) x (.ins (G.ca c) dx [])):=(oH hdx _).trans (oH hx2 _);have R2:=R.grow sx (λ_ _ e=>e) (R.sub.trans sx) (λb o e=>.inl e);have h0:=R.h0none hx;have R3:=R2.freeze oA h0 (R.bNone hx) (λi t ei to z=>R.apart hx i t ei to z);refine k _ _ _ (oH h0 _) R3 ?_;unfold Rep;exact⟨x,dx,[],rfl,oA,rfl,o8⟩
end
section
variable{X:Cx}{B:Bz}{k:Nat}{p pos:Pos}{x:Str}{c:Nat}
class K0f(B:Bz)(x:Str)(c:Nat):Prop where p:Mk0 B.G.K (B.G.ca c)/\B.mg x=some (.ref (B.G.ca c))
theorem U6 [C:Cz X B k][Q:K0f B x c](hg:Gz X x)(hd:(x==("__debug__" : Str))=false):ZE X B (.Call (.Name x p) [] [] pos) (U5 c):=⟨KM (KL (by rw[C.K];exact Q.p.1) hg (by rw[C.mg];exact Q.p.2) hd)⟩
end
end L4
namespace L4
open PySem PySem.Spec PyProof.Rows L2 L3
def spJ(G:Bg)(j:Nat)(g:aA->aA->Option (D×aA)):Sp:=λvs H Q E=>∃(a:Addr) (us:bt),vs=us.take j++.ref a::us.drop j/\spM G g (.ref a::us) H Q E
def stJ(j n:Nat)(es ds:aA):aW:=(ds.take j).map Sl.im++.pm es::((ds.drop j).map Sl.im++dH (n - ds.length - 1) .un)
def fnJ(j np n:Nat)(f:FS):aA->aA->Option (D×aA):=λes ds=>if ds.length=np then match f (stJ j n es ds)with
 |some (.rt d ρ)=>match Ge j ρ with
  |some es'=>some (d,es')
  |none=>none
 |_=>none
 else none
variable{j np:Nat}{ds:aA}{d:D}
theorem Gu{n:Nat}{f:FS}{es es':aA}(h:fnJ j np n f es ds=some (d,es')):ds.length=np/\∃ρ,f (stJ j n es ds)=some (.rt d ρ)/\ρ[j]?=some (.pm es'):=by
 unfold fnJ at h;split at h
 ·rename_i hl;refine⟨hl,?_⟩;split at h
  ·rename_i x ρ e;cases e2:Ge j ρ with
   |none=>simp only[e2]at h;cases h
   |some q=>simp only[e2]at h;cases h;exact⟨ρ,e,z8 e2⟩
  ·cases h
 ·cases h
variable{i:Nat}
theorem E8{n:Nat}{es:aA}{t:Sl}(hj:j<=ds.length)(h:(stJ j n es ds)[i]?=some t):(i=j/\t=.pm es)\/t=.un\/∃(m:Nat) (d:D),ds[m]?=some d/\t=.im d/\∀(us:bt) (v w:V),us.length=ds.length->us[m]?=some v->(us.take j++w::us.drop j)[i]?=some v:=by
 unfold stJ at h;have lt:(ds.take j).length=j:=by rw[bo];omega
 by_cases hi:i<j
 ·rw[cJ (by rw[ah,lt];exact hi),bu,mh,ai hi,aP (by omega)]at h;cases h;refine .inr (.inr ⟨i,_,aP (by omega),rfl,λus v w hl hv=>?_⟩);rw[cJ (by rw[bo];omega),mh,ai hi];exact hv
 ·rw[cA (by rw[ah,lt];omega),ah,lt]at h;cases q:i - j with
  |zero=>rw[q]at h;cases h;exact .inl ⟨by omega,rfl⟩
  |succ m=>
   rw[q,hJ]at h;by_cases hm:m<(ds.drop j).length
   ·have hm':j+m<ds.length:=by rw[bX]at hm;omega
    rw[cJ (by rw[ah];exact hm),bu,cU,aP hm']at h;cases h;refine .inr (.inr ⟨j+m,_,aP hm',rfl,λus v w hl hv=>?_⟩);rw[cA (by rw[bo];omega),bo,dG (by omega),q,hJ,cU];exact hv
   ·rw[cA (by rw[ah];omega),eZ]at h;split at h
    ·cases h;exact .inr (.inl rfl)
    ·cases h
variable{N:aC}{E:XK}{e:Expr}{es:List Expr}
section
variable{X:Cx}{G:Bg}
theorem P9{us xs:bt}{es:aA}{H0 H:Hp}{a:Addr}(hj:j<=ds.length)(ha:H a=some (.lst xs))(h0:H0 a=none)(s:oE H0 H)(r1:oq G H0 es xs)(r:oq G H0 ds us)(hN:us.length+1<=N.length):oN G ⟨H0,H,[a]⟩ (L2.start N (us.take j++.ref a::us.drop j)) (stJ j N.length es ds) H0 H:={
  sub:=s
  g0:=oE.refl _
  keep:=λb o e _=>e
  fr:=λb o e=>.inl e
  am:=λb hb=>by rw[aR]at hb;subst hb;exact⟨_,ha⟩
  len:=by unfold L2.start stJ;simp only[aD,ah,cb,aK,cO,bo,bX];have:=ou r;omega
  sl:=λi t e=>by
   have hl:=ou r;rcases E8 hj e with ⟨rfl,rfl⟩|rfl|⟨m,d,e1,rfl,e4⟩
   ·exact⟨a,xs,rh (by rw[cA (by rw[bo];omega),bo,dG (by omega),iF];rfl),ha,h0,aR.mpr rfl,r1⟩
   ·trivial
   ·obtain⟨v,e2,e3⟩:=qe r e1;exact⟨v,rh (e4 us v _ hl.symm e2),e3⟩
  ap:=λi k t u b hij ei ej ht hu=>by
   rcases E8 hj ei with ⟨rfl,rfl⟩|rfl|⟨_,_,_,rfl,_⟩
   ·rcases E8 hj ej with ⟨rfl,rfl⟩|rfl|⟨_,_,_,rfl,_⟩
    ·exact aq rfl hij
    ·cases hu
    ·cases hu
   ·cases ht
   ·cases ht }
theorem Qa{f:FS}{vs:bt}{H:Hp}{Q:VK}(hj:j<=np)(hN:np+1<=N.length)(h:spJ G j (fnJ j np N.length f) vs H Q E):tFS G f { nx:=λ_ H'=>Q .non H',rt:=Q } (L2.start N vs) H:=by obtain⟨a,us,rfl,b,us',xs,H0,es,ds,d,es',e0,ha,h0,s,r1,r,e,k⟩:=h;cases e0;obtain⟨hl,ρ,e1,e2⟩:=Gu e;have R:=P9 (N:=N) (j:=j) (by omega) ha h0 s r1 r (by rw[<-ou r,hl];exact hN);refine⟨_,_,H0,_,R,e1,λv σ' H0' H' s' R' rv=>?_,λ_=>rfl⟩;obtain⟨a',ys,q1,q2,q3,q4,q5⟩:=R'.sl j _ e2;have ea:a'=a:=aR.mp q4;subst ea;exact k _ ys _ _ s' R'.sub (λb o e n=>R'.keep b o e (λz=>n (aR.mp z))) R'.fr q3 q2 q5 rv
def KN(G:Bg)(j i:Nat)(a:FA):TA:=λσ H Q=>∃F ρ H0 ds ρ' es,oN G F σ ρ H0 H/\a ρ=some (ds,ρ')/\pX ρ' i=some es/\∀xs b H0' H',oE H0 H0'->oN G F σ ρ' H0' H'->oq G H0' ds xs->σ[i]?=some (some (.ref b))->Q (xs.take j++.ref b::xs.drop j) H'
theorem M8{e':Expr}(hv:PE X e (uM i))(hc:PE X e' (tF G (cC d)))(hs:starEach [e,e'] X.env=(false,eval e X.env)::starEach [e'] X.env)(hs':starEach [e'] X.env=[(false,eval e' X.env)]):PA X [e,e'] (KN G 0 i (oa (cC d) oJ)):=PA.weak (qw hv (qw hc uN hs') hs) λσ H Q hh=>by obtain⟨F,ρ,H0,ds,ρ',es,R,e,el,k⟩:=hh;cases e;obtain⟨b,xs,s1,_⟩:=qG R el;exact⟨.ref b,s1,F,ρ,H0,d,ρ,R,rfl,λv H1 H1' s R' rv=>k [v] b _ _ s R' (o7 rv o8) s1⟩
theorem KO{f:FE}{g:FA}(ha:PE X e (tF G f))(hr:PA X es (KN G j i g))(hs:starEach (e::es) X.env=(false,eval e X.env)::starEach es X.env:=by rfl):PA X (e::es) (KN G (j+1) i (oa f g)):=PA.weak (qw ha hr hs) λσ H Q hh=>by obtain⟨F,ρ,H0,d,ρ',es,R,e,el,k⟩:=hh;obtain⟨x,r,ρ1,e1,e2,rfl⟩:=yy e;exact⟨F,ρ,H0,x,ρ1,R,e1,λv H1 H1' s R' rv=>⟨F,ρ1,H1,r,ρ',es,R',e2,el,λxs b H2 H2' s2 R2 rs sb=>k (v::xs) _ _ _ (s.trans s2) R2 (o7 (Rep.mono s2 _ _ rv) rs) sb⟩⟩
theorem M9{g:aA->aA->Option (D×aA)}{a:FA}{σ:St}{H:Hp}{Q:VK}(hh:tF G (qg g i a) σ H Q):wJ (spJ G j g) [] E (KN G j i a) σ H Q:=by obtain⟨F,ρ,H0,ds,ρ',es,R,e,el,k⟩:=M7 (E:=E) hh;refine⟨F,ρ,H0,ds,ρ',es,R,e,el,λxs b H1 H1' s R' rs sb=>?_⟩;obtain⟨a',us,e1,q⟩:=k xs b H1 H1' s R' rs sb;rw[br]at e1;obtain⟨rfl,e2⟩:=List.append_inj' e1 rfl;cases e2;exact⟨b,xs,br _,q⟩
theorem Qb{k:Nat}{x:Str}{p pos:Pos}{a:FA}{ps:aC}{g:aA->aA->Option (D×aA)}(D:u9 X.prog X.w X.K X.mg X.base k x ps (spJ G j g))(hr:p8 k X.A)(ha:PA X (e::es) (KN G j i a))(hg:Gl X x)(hdb:(x==("__debug__" : Str))=false)(he:starEach (e::es) X.env=(false,eval e X.env)::starEach es X.env)(hpl:(backTo pos (starEach es X.env)).any (·.1)=false):
  PE X (.Call (.Name x p) (e::es) [] pos) (tF G (qg g i a)):=by
 obtain⟨f,fd,h1,h2,h3,h4⟩:=D;exact PE.weak (yV (p:=p) (pos:=pos) h4 hr hg h1 h2 h3 .nil Av ha hdb he hpl) λσ H Q hh=>M9 hh
end
section
variable{P:aE}{w:az}{K:au}{mg:Str->Option aa}{base:Heap}{x qual:Str}{st:Stmt}{f T:Addr}{fd:bM}{N ps:aC}{k:Nat}{G:Bg}
theorem WO{n:Nat}{g:aA->aA->Option (D×aA)}{b:FS}(hg:g=fnJ j np n b)(hj:j<=np)(hp:ps.length=np+1)(hN:N.length=n)(F:Fun K x qual st f fd)(S:pZ N ps (oP st))(body:∀(cdv:aa) (A:aH) (outer:List Env) (s:af) (H:Hp) (E:XK),p8 k (A.deeper (envOfC qual (oP st) s.heap.objs.size f cdv))->PSs (yg P w K mg base N qual st f cdv A outer s H E) (ph st) (tFS G b)):
  sH P w K mg base CX0 (k+1) f fd ps (spJ G j g):=by
 subst hg hN;refine F.ok S (λvs H Q E h=>?_) λcdv A outer s H vs Q E hr h=>⟨_,body cdv A outer s H E hr,Qa hj (by have:=aS bS S.pre;rw[bo]at this;omega) h⟩;obtain⟨a,us,rfl,h⟩:=h;have:=LX (λ_ _ d h=>(Gu (d:=d.1) (es':=d.2) h).1) _ _ _ _ h;simp only[aD,aK,bo,bX]at this ⊢;omega
end
section
variable{X:Cx}{B:Bz}{k j i j' np n:Nat}{x y:Str}{e e':Expr}{es:List Expr}{a:FA}{f:FE}{d:D}{p pos:Pos}{g:aA->aA->Option (D×aA)}
structure ZJ(X:Cx)(B:Bz)(e:List Expr)(j i:Nat)(f:FA):Prop where p:PA X e (KN B.G j i f)
theorem U7(h:sees X i x=true)(hc:ZE X B e' (cC d))(hs:Sz X (.Name x p) [e'])(hs':S1 X e'):ZJ X B [.Name x p,e'] 0 i (oa (cC d) oJ):=⟨M8 (pvI h) hc.p hs hs'⟩
theorem U8(ha:ZE X B e f)(hr:ZJ X B es j i a)(hs:Sz X e es):ZJ X B (e::es) (j+1) i (oa f a):=⟨KO ha.p hr.p hs⟩
class Dj(B:Bz)(j':outParam Nat)(x:Str)(j:outParam Nat)(g:aA->aA->Option (D×aA)):Prop where p:Df B j' x (spJ B.G j g)
theorem U9 [C:Cz X B k][Q:Dj B j' x j g](hg:Gz X x)(hd:Dz x)(hs:Sz X e es)(hl:Lz X pos es)(ha:ZJ X B (e::es) j i a)(hj:dm j' k=true):ZE X B (.Call (.Name x p) (e::es) [] pos) (qg g i a):=by obtain⟨ps,q⟩:=dz hg hd (X:=X) (Q:=Q.p);exact⟨Qb q (C.r.mono (dh.mp hj)) ha.p hg hd hs hl⟩
end
section
variable{B:Bz}[Y:Yb B]{x:Str}{st s0:Stmt}{l:List Stmt}{j np n k:Nat}{b:FS}
theorem gJ5{g:aA->aA->Option (D×aA)}(hg:g=fnJ j np n b)(hj:j<=np)(q:GD B.G.K x st)(hl:ph st=s0::l)(body:Bdz B (nmO st) x st (s0::l) k b)(S:okO (nmO st) (psO st) st (np+1) n=true:=by kernel_rfl)(bd:Bds x x st (psO st):=by (repeat intro _);rfl):Df B (k+1) x (spJ B.G j g):=
 ⟨_,gD Y.y q bd λf fd F=>WO hg hj (okk S).2.1 (okk S).2.2 F (okk S).1 (body.ok hl f)⟩
end
section
variable{X:Cx}{B:Bz}{k j i m:Nat}{x:Str}{e e':Expr}{es:List Expr}{d:D}{p pos:Pos}{g:D->D->Option D}
theorem WQ{l:List Stmt}:ZB X B l Wq:=⟨λpins s σ H D I h=>by
 obtain⟨F,ρ,H0,o,R,e,_⟩:=h;cases e⟩
end
end L4
namespace K21x
open PySem L2 L3 L4
abbrev D:=L4.D
def top(i:Nat):Stmt:=PySem.Challenge.pw_tellworld_k21_tests_hold.main.body.getD i (.Pass ⟨0,0,0,0⟩)
def sN:Nat->Bool:=λc=>c==14
def Gv:Nat->Bool:=λc=>c==2
def xb:Nat->Bool:=λc=>c==2
def yi:Nat->Bool:=λc=>c==14
def wx:Nat->Bool:=λc=>c==14
def xc:Nat->Bool:=λc=>c==14
def pF:Nat->Bool:=λc=>c==0||c==7
def ug:Nat->Bool:=λc=>c==1
def o6:Nat->Bool:=λc=>c==0||c==1||c==2
def yM:Nat->Bool:=λc=>c==2
def D5:Nat->Bool:=λc=>c==3||c==11
def sO:Nat->Bool:=λc=>c==14
def vd:Nat->Bool:=λc=>c==14
def qb:Nat->Bool:=λc=>c==0||c==1
def tf:Nat->Bool:=λc=>c==3||c==4||c==5||c==6||c==7||c==11||c==12
def uh:Nat->Bool:=λc=>c==14
def xQ:Nat->Bool:=λc=>c==6||c==12
def Gw:Nat->Bool:=λc=>c==13
def uF:Nat->Bool:=λc=>c==14
def Cn:Nat->Bool:=λc=>c==8
def qJ:Nat->Bool:=λc=>c==0
def sR:Nat->Bool:=λc=>c==14
abbrev Na:Ty->Option Bool:=D3 16 1
abbrev Jn:Ty->Option Bool:=D3 16 0
def xf:L4.D:=(D.int 8)
def xg:L4.D:=(D.int 12)
def Cp:L4.D:=(D.tup [(D.str "it"),(D.str "other"),(D.str "here"),(D.str "the"),(D.str "a"),(D.str "undo"),(D.str "restart")])
def Cq:L4.D:=(D.tup [(D.str "the"),(D.str "a")])
def E9:L4.D:=(D.tup [(D.str "room"),(D.str "plain"),(D.str "fixed"),(D.str "box"),(D.str "lamp"),(D.str "you")])
def uG:L4.D:=(D.tup [(D.str "room"),(D.str "box"),(D.str "you")])
def uH:L4.D:=(D.tup [(D.str "box"),(D.str "lamp")])
def yj:L4.D:=(D.tup [(D.str "room"),(D.str "you")])
def zk:L4.D:=(D.int 5)
def yk:L4.D:=(D.int 7)
def tR:L4.D:=(D.int 4)
def xh:L4.D:=(D.int 3)
def AG:L4.D:=(D.int 10)
def zl:L4.D:=(D.int 6)
def vY:L4.D:=(D.int 4)
def ui:L4.D:=(D.tup [(D.str "the"),(D.str "a"),(D.str "undo"),(D.str "restart")])
def zm:L4.D:=(D.int 20)
abbrev ae:=(cV 0)
abbrev ag:=(cV 1)
abbrev aG:=(cC (.int 1))
def uj:FS:=(oG (pW (c1 (sZ (qP "str")) ae) (pW (rM uO uO aG (c1 p5 ae) ag) (c1 uz (cL (oW 1 [] (iS ae) (gN 0) pR (rM L6 L6 (cS "a") ae (cS "z"))))))))
def rO:=fnD 2 2 uj
def D6:FS:=(oG (pW (om rO (oa ae (a1 (cC xf)))) (c2 (dIn true) ae (cC Cp))))
def xR:=fnD 1 1 D6
def D7:FS:=(oG (pW (om rO (oa ae (a1 (cC xg)))) (c2 (dIn true) ae (cC Cq))))
def rR:=fnD 1 1 D7
def AH:FS:=(oG (pW (c1 (sZ (qP "str")) ae) (c2 (dIn false) ae ag)))
def pM:=fnD 2 2 AH
def Cr:FS:=(oG (pW (c1 (sZ (qP "int")) ae) (EL (c1 (sZ (qP "bool")) ae))))
def yN:=fnD 1 1 Cr
def wy:FS:=(oG (pW (c1 (sZ (qP "list")) ae) (c2 uO (c1 p5 ae) ag)))
def qc:=fnD 2 2 wy
def Cs:FS:=(oG (cIf (cT (c1 (sZ (qP "list")) ae)) (cL (wW ae)) ae))
def yO:=fnD 1 1 Cs
abbrev ar:=(cV 2)
abbrev av:=(cV 3)
abbrev aw:=(cV 4)
def zp:FS:=(oj (pA 0 0 "name" ag)
 (oj (pA 0 0 "words" ar)
 (oj (pA 0 0 "kind" av)
 (pA 0 0 "start" aw))))
def zq:=fnI 0 4 5 zp
def AI:FS:=(oj (pA 1 0 "name" ag)
 (oj (pA 1 0 "start" ar)
 (pA 1 0 "most" av)))
def AJ:=fnI 1 3 4 AI
abbrev bp:=(cC D.non)
def xi:FS:=(oj (pA 2 0 "name" ag)
 (oj (pA 2 0 "others" (cIf (cT (c2 yD ar bp)) (pE oJ) ar))
 (oj (pA 2 0 "form" av)
 (pA 2 0 "joining" aw))))
def qY:=fnI 2 4 5 xi
def D8:FS:=(oj (pA 3 0 "term" ag)
 (pA 3 0 "place" ar))
def xS:=fnI 3 2 3 D8
def Ct:FS:=(pA 4 0 "term" ag)
def vZ:=fnI 4 1 2 Ct
def AK:FS:=(pA 5 0 "term" ag)
def AL:=fnI 5 1 2 AK
def ym:FS:=(oj (pA 6 0 "term" ag)
 (pA 6 0 "value" ar))
def pU:=fnI 6 2 3 ym
def AM:FS:=(oj (pA 7 0 "term" ag)
 (pA 7 0 "kind" ar))
def qv:=fnI 7 2 3 AM
def AN:FS:=(pA 8 0 "word" ag)
def xj:=fnI 8 1 2 AN
def Cu:FS:=(pA 9 0 "inner" ag)
def qZ:=fnI 9 1 2 Cu
def AO:FS:=(oj (pA 11 0 "term" ag)
 (pA 11 0 "place" ar))
def tp:=fnI 11 2 3 AO
def Cv:FS:=(oj (pA 12 0 "term" ag)
 (pA 12 0 "value" ar))
def uk:=fnI 12 2 3 Cv
abbrev aJ:=(cV 5)
abbrev dZ:=(a1 ar)
abbrev fM:=(a1 av)
def AQ:FS:=(oj (pA 13 0 "verb" ag)
 (oj (pA 13 0 "tests" (om yO dZ))
 (oj (pA 13 0 "deeds" (om yO fM))
 (oj (pA 13 0 "text" aw)
 (pA 13 0 "refuses" aJ)))))
def xk:=fnI 13 5 6 AQ
def ve:FS:=(oG (c2 (dIn false) (c1 (oX pF "kind") ae) (cC uG)))
def vg:=fnD 1 1 ve
def ql:Nat->Option (List D->Option D):=λc=>match c with
 |0=>some vg
 |_=>none
def vm:FS:=(oG (c2 (dIn false) (c1 (oX pF "kind") ae) (cC uH)))
def vo:=fnD 1 1 vm
def qm:Nat->Option (List D->Option D):=λc=>match c with
 |0=>some vo
 |_=>none
def um:FS:=(oG (c2 (dIn true) (c1 (oX pF "kind") ae) (cC yj)))
def uo:=fnD 1 1 um
def qo:Nat->Option (List D->Option D):=λc=>match c with
 |0=>some uo
 |_=>none
def wz:FS:=(sIf (rQ (cT ae)) Wq oQ)
def oF:=fnD 2 2 wz
def Cw:FS:=(oG (c1 p5 (cL (oW 1 [1] (iL ae) (gN 0) (cT (c2 (dEq false) (c1 (oX pF "kind") ae) ag)) ae))))
def v3:=fnD 2 2 Cw
def zr:FS:=(qk (oW 1 [] (iL ae) (gN 0) (cT (pH qo "is_plainly" ae oJ)) ae))
def rq:=fnN 1 1 zr
abbrev bb:=(cC (.int 0))
abbrev cj:=(cC (.bl false))
def Ag:FS:=(oj (sIf (tH (rQ (cT (c1 (sZ Na) ae))) (tH (rQ (cT (om yN (a1 (c1 (oX qb "start") ae))))) (rQ (cT (om yN (a1 (c1 (oX ug "most") ae))))))) (oG cj) oQ)
 (oG (pW (rM uO uO aG (c1 (oX ug "most") ae) (cC xh)) (rM uO uO bb (c1 (oX qb "start") ae) (c1 (oX ug "most") ae)))))
def Ah:=fnD 1 1 Ag
abbrev cI:=(cS "you")
abbrev c7:=(cS "room")
abbrev bF:=(a1 ae)
def uq:FS:=(oj (oV 1 (pW (c1 (sZ (qP "list")) ae) (c1 uz (cL (oW 1 [] (iL ae) (gN 0) pR (c1 (sZ Jn) ae))))))
 (oj (o9 (om oF (oa ag (a1 (cS "things are a list of things")))))
 (oj (o9 (om oF (oa (c1 uz (cL (oW 1 [] (iL ae) (gN 0) pR (om pM (oa (c1 (oX pF "kind") ae) (a1 (cC E9))))))) (a1 (cS "a thing is of no kind")))))
 (oj (o9 (om oF (oa (rM uO uO aG (om v3 (oa ae (a1 c7))) (cC zk)) (a1 (cS "a world has 1 to 5 rooms")))))
 (oj (o9 (om oF (oa (c2 (dEq false) (om v3 (oa ae (a1 cI))) aG) (a1 (cS "a world has just one you")))))
 (o9 (om oF (oa (c2 uO (c1 p5 (cL (pb rq bF))) (cC yk)) (a1 (cS "a world has at most 7 things beside rooms and you"))))))))))
def ur:=fnD 1 2 uq
def uP:FS:=(oj (oV 1 (pW (om qc (oa ae (a1 (cC tR)))) (c1 uz (cL (oW 1 [] (iL ae) (gN 0) pR (om Ah bF))))))
 (o9 (om oF (oa ag (a1 (cS "marks are a list of at most 4 marks, each from 0 to at most 3"))))))
def uQ:=fnD 1 2 uP
def zt:FS:=(oG (c2 (dEq false) (c1 ET ae) (c1 p5 ae)))
def pS:=fnD 1 1 zt
def uR:FS:=(oj (oV 2 (cL (qO (cL (oW 1 [] (iL ae) (gN 0) pR (c1 (oX o6 "name") ae))) (cL (oW 1 [] (iL ag) (gN 0) pR (c1 (oX o6 "name") ae))))))
 (oj (o9 (om oF (oa (c1 uz (cL (oW 1 [] (iL ar) (gN 0) pR (om xR bF)))) (a1 (cS "a name is no name")))))
 (o9 (om oF (oa (om pS dZ) (a1 (cS "two things or marks have one name")))))))
def uS:=fnD 2 3 uR
def zu:FS:=(qk (qO (cL (oW 1 [] (iL ae) (gN 0) (cT (pH qm "has_mark" ae oJ)) (c1 (oX o6 "name") ae))) (cL (oW 1 [] (iL ag) (gN 0) pR (c1 (oX o6 "name") ae)))))
def tS:=fnN 2 2 zu
def yP:FS:=(oj (sIf (cT (c2 (dEq false) (c1 (oX pF "kind") ag) c7)) (oG (c2 yD (c1 (oX qb "start") ag) bp)) oQ)
 (oj (sIf (cT (c2 (dEq false) (c1 (oX pF "kind") ag) cI)) (oG (om pM (oa (c1 (oX qb "start") ag) (a1 (cL (oW 1 [] (iL ae) (gN 0) (cT (c2 (dEq false) (c1 (oX pF "kind") ae) c7)) (c1 (oX o6 "name") ae))))))) oQ)
 (oG (om pM (oa (c1 (oX qb "start") ag) (a1 (cL (oW 1 [] (iL ae) (gN 0) (cT (pH ql "can_hold" ae oJ)) (c1 (oX o6 "name") ae)))))))))
def yQ:=fnD 2 2 yP
abbrev cz:=(cC (.bl true))
def wA:FS:=(oj (oV 2 (c2 pd ae ag))
 (oj (r6 (iR1 (c1 p5 ae)) (gN 3) (oj (sIf (cT (c2 yD ar bp)) (oG cz) oQ)
 (oV 2 (c2 pd ae ar))))
 (oG (c2 yD ar bp))))
def tI:=fnD 2 4 wA
abbrev jh:=(oa ag bF)
def uu:FS:=(oj (o9 (om oF (oa (c1 uz (cL (oW 1 [0] (iL ae) (gN 0) pR (om yQ jh)))) (a1 (cS "a start is none")))))
 (oj (ze 1)
 (oj (r6 (iL ae) (gN 2) (pJ 1 (c1 (oX o6 "name") ar) (c1 (oX qb "start") ar)))
 (o9 (om oF (oa (c1 uz (cL (oW 1 [1] (iD (cFz 1)) (gN 0) pR (om tI jh)))) (a1 (cS "a thing starts within itself"))))))))
def uv:=fnD 1 3 uu
def xl:FS:=(oj (sIf (tH (rQ (cT (c1 (sZ (qP "tuple")) ae))) (rQ (cT (rM uO uO aG (c1 p5 ae) (cC vY))))) (oG cj) oQ)
 (oG (pW (c1 uz (cL (oW 1 [] (iT ae) (gN 0) pR (om rR bF)))) (om pS bF))))
def xm:=fnD 1 1 xl
def D9:FS:=(oG (c1 uz (cL (oW 1 [0] (iT ag) (gN 0) pR (c2 (dIn false) ae ag)))))
def xT:=fnD 2 2 D9
def tJ:FS:=(oj (oV 2 (cL (oW 1 [1] (iL ae) (gN 0) (cT (c2 (dEq true) (c1 (oX o6 "name") ae) (c1 (oX o6 "name") ag))) ae)))
 (oG (EL (c1 Bk (cL (oW 1 [1] (iL ar) (gN 0) pR (om xT (oa (c1 (oX qJ "words") ae) (a1 (c1 (oX qJ "words") ag))))))))))
def tK:=fnD 2 3 tJ
def qp:FS:=(oj (o9 (om oF (oa (c1 uz (cL (oW 1 [] (iL ae) (gN 0) pR (om xm (a1 (c1 (oX qJ "words") ae)))))) (a1 (cS "a thing has 1 to 4 unlike words, as a tuple")))))
 (oj (oV 1 (cL (pb rq bF)))
 (o9 (om oF (oa (c1 uz (cL (oW 1 [1] (iL ag) (gN 0) pR (om tK jh)))) (a1 (cS "one thing has all words of another")))))))
def qq:=fnD 1 2 qp
abbrev b0:=(oa ae (a1 ag))
def v5:FS:=(oj (oV 2 (pW (c1 (sZ (qP "list")) ae) (pW (c1 uz (cL (oW 1 [1] (iL ae) (gN 0) pR (om pM b0)))) (om pS bF))))
 (o9 (om oF (oa ar (a1 (cS "dark is a list of rooms' names, each once"))))))
def v7:=fnD 2 3 v5
abbrev bE:=(cC (.int 2))
abbrev dX:=(cC (.int 3))
abbrev eU:=(cC (.int 4))
abbrev ck:=(a1 ag)
abbrev gQ:=(a1 (c2 dIx ae aG))
def Cy:FS:=(oj (sIf (tH (rQ (cT (c1 (sZ (qP "tuple")) ae))) (cT (c2 (dEq true) (c1 p5 ae) eU))) (oG cj) oQ)
 (oj (oV 3 (cOr (c2 yD (c2 dIx ae dX) bp) (om pM (oa (c2 dIx ae dX) dZ))))
 (oG (pW (om pM (oa (c2 dIx ae bb) ck)) (pW (om rR gQ) (pW (om pM (oa (c2 dIx ae bE) ck)) av))))))
def CA:=fnD 3 4 Cy
abbrev fL:=(oa ag (a1 ar))
abbrev eY:=(oa ae fL)
def v8:FS:=(oj (oV 3 (pW (om qc (oa ae (a1 (cC AG)))) (c1 uz (cL (oW 1 [1,2] (iL ae) (gN 0) pR (om CA eY))))))
 (oj (o9 (om oF (oa av (a1 (cS "ways are a list of at most 10 tuples (room, word, room, mark)")))))
 (o9 (om oF (oa (om pS (a1 (cL (oW 1 [] (iL ae) (gN 0) pR (pE (oa (c2 dIx ae bb) gQ)))))) (a1 (cS "two ways lead from one room by one word")))))))
def tT:=fnD 3 4 v8
def yn:FS:=(oj (oV 1 (pW (om qc (oa ae (a1 (cC zl)))) (c1 uz (cL (oW 1 [] (iL ae) (gN 0) pR vT)))))
 (o9 (om oF (oa ag (a1 (cS "verbs are a list of at most 6 verbs"))))))
def uT:=fnD 1 2 yn
def AR:FS:=(oG (EL (c1 Bk (cL (oW 1 [1] (iL ae) (gN 0) pR (c2 (dIn false) ae ag))))))
def tq:=fnD 2 2 AR
abbrev aY:=(cV 6)
abbrev bZ:=(cV 7)
def rP:FS:=(oj (qU 3 (oU oJ))
 (oj (r6 (iL (cL (pb rq bF))) (gN 4) (o9 (AB 3 (c1 (oX qJ "words") aw))))
 (oj (qU 5 (oU oJ))
 (oj (r6 (iL ar) (gN 6) (o9 (AB 5 (AA (pE (a1 (c1 (oX o6 "name") aY))) (c1 (oX yM "others") aY)))))
 (oj (oV 7 (cL (qO (cL (oW 1 [] (iL ar) (gN 0) (cT (c2 u7 (c1 (oX xb "joining") ae) bp)) (c1 (oX xb "joining") ae))) (cL (oW 1 [] (iL ag) (gN 0) pR (c2 dIx ae aG))))))
 (oj (o9 (om oF (oa (om pS (a1 (cFz 5))) (a1 (cS "two verbs' names are alike")))))
 (oj (o9 (om oF (oa (om tq (oa (cL (qO (cFz 5) bZ)) (a1 (cFz 3)))) (a1 (cS "a verb's, way's or joining word is a word of a thing")))))
 (oj (o9 (om oF (oa (om tq (oa (cL (qO (cFz 5) bZ)) (a1 (cC ui)))) (a1 (cS "the, a, undo or restart is a word of the world")))))
 (o9 (om oF (oa (om tq (oa bZ (a1 (cFz 5)))) (a1 (cS "a way's or joining word is a verb's name")))))))))))))
def qB:=fnD 3 8 rP
abbrev fN:=(a1 aw)
abbrev gU:=(a1 aY)
def uU:FS:=(oj (o9 (om ur bF))
 (oj (o9 (om uQ ck))
 (oj (o9 (om uS b0))
 (oj (o9 (om uv bF))
 (oj (o9 (om qq bF))
 (oj (oV 6 (cL (oW 1 [] (iL ae) (gN 0) (cT (c2 (dEq false) (c1 (oX pF "kind") ae) c7)) (c1 (oX o6 "name") ae))))
 (oj (o9 (om v7 (oa ar gU)))
 (oj (o9 (om tT (oa av (oa aY (a1 (cL (pb tS b0)))))))
 (oj (o9 (om uT fN))
 (o9 (om qB (oa ae (oa av (a1 (cL (qO aw aJ))))))))))))))))
def uV:=fnD 6 7 uU
def Nc:FS:=(oG (pj 13 (λds=>xk (ds++[])) (oa ae (oa ag (oa ar (oa av (a1 cj)))))))
def uW:=fnD 4 4 Nc
def Ea:FS:=(oG (pj 13 (λds=>xk (ds++[])) (oa ae (oa ag (oa (cL (oU oJ)) (oa ar (a1 cz)))))))
def pK:=fnD 3 3 Ea
abbrev bP:=(cS "it")
abbrev gB:=(cS "fixed")
abbrev gH:=(cS "take")
def zv:FS:=(qk (oU (oa (om pK (oa gH (oa (cL (oU (a1 (pj 7 (λds=>qv (ds++[])) (oa bP (a1 gB)))))) (a1 (cS "That stays."))))) (oa (om pK (oa gH (oa (cL (oU (a1 (pj 3 (λds=>xS (ds++[])) (oa bP bF))))) (a1 (cS "You have that."))))) (oa (om uW (oa gH (oa (cL (oU oJ)) (oa (cL (oU (a1 (pj 11 (λds=>tp (ds++[])) (oa bP bF))))) (a1 (cS "Taken.")))))) (oa (om uW (oa (cS "drop") (oa (cL (oU (a1 (pj 4 (λds=>vZ (ds++[])) (a1 bP))))) (oa (cL (oU (a1 (pj 11 (λds=>tp (ds++[])) (oa bP (a1 (cS "here"))))))) (a1 (cS "Dropped.")))))) (a1 (om pK (oa (cS "drop") (oa (cL (oU oJ)) (a1 (cS "You lack that."))))))))))))
def zw:=fnN 1 1 zv
abbrev cM:=(cS "box")
abbrev eS:=(cS "other")
abbrev fJ:=(cS "put")
def AS:FS:=(qk (oU (oa (om pK (oa fJ (oa (cL (oU (a1 (pj 9 (λds=>qZ (ds++[])) (a1 (pj 4 (λds=>vZ (ds++[])) (a1 bP))))))) (a1 (cS "You lack that."))))) (oa (om pK (oa fJ (oa (cL (oU (a1 (pj 9 (λds=>qZ (ds++[])) (a1 (pj 7 (λds=>qv (ds++[])) (oa eS (a1 cM)))))))) (a1 (cS "It holds nothing."))))) (oa (om pK (oa fJ (oa (cL (oU (a1 (pj 6 (λds=>pU (ds++[])) (oa eS (a1 bb)))))) (a1 (cS "It is shut."))))) (a1 (om uW (oa fJ (oa (cL (oU oJ)) (oa (cL (oU (a1 (pj 11 (λds=>tp (ds++[])) (oa bP (a1 eS)))))) (a1 (cS "Done."))))))))))))
def AU:=fnN 0 0 AS
abbrev jf:=(oa bP (a1 aG))
abbrev jg:=(oa bP (a1 bb))
def AV:FS:=(qk (oU (oa (om pK (oa (cS "open") (oa (cL (oU (a1 (pj 9 (λds=>qZ (ds++[])) (a1 (pj 7 (λds=>qv (ds++[])) (oa bP (a1 cM)))))))) (a1 (cS "It has no lid."))))) (oa (om pK (oa (cS "open") (oa (cL (oU (a1 (pj 6 (λds=>pU (ds++[])) jf)))) (a1 (cS "It is open."))))) (oa (om uW (oa (cS "open") (oa (cL (oU oJ)) (oa (cL (oU (a1 (pj 12 (λds=>uk (ds++[])) jf)))) (a1 (cS "Opened.")))))) (oa (om pK (oa (cS "shut") (oa (cL (oU (a1 (pj 9 (λds=>qZ (ds++[])) (a1 (pj 7 (λds=>qv (ds++[])) (oa bP (a1 cM)))))))) (a1 (cS "It has no lid."))))) (oa (om pK (oa (cS "shut") (oa (cL (oU (a1 (pj 6 (λds=>pU (ds++[])) jg)))) (a1 (cS "It is shut."))))) (a1 (om uW (oa (cS "shut") (oa (cL (oU oJ)) (oa (cL (oU (a1 (pj 12 (λds=>uk (ds++[])) jg)))) (a1 (cS "Shut."))))))))))))))
def AW:=fnN 0 0 AV
abbrev fI:=(a1 (cS "lamp"))
def yp:FS:=(qk (oU (oa (om pK (oa (cS "light") (oa (cL (oU (a1 (pj 9 (λds=>qZ (ds++[])) (a1 (pj 7 (λds=>qv (ds++[])) (oa bP fI))))))) (a1 (cS "It burns not."))))) (oa (om pK (oa (cS "light") (oa (cL (oU (a1 (pj 6 (λds=>pU (ds++[])) jf)))) (a1 (cS "It is lit."))))) (oa (om uW (oa (cS "light") (oa (cL (oU oJ)) (oa (cL (oU (a1 (pj 12 (λds=>uk (ds++[])) jf)))) (a1 (cS "Lit.")))))) (oa (om pK (oa (cS "douse") (oa (cL (oU (a1 (pj 9 (λds=>qZ (ds++[])) (a1 (pj 7 (λds=>qv (ds++[])) (oa bP fI))))))) (a1 (cS "It burns not."))))) (oa (om pK (oa (cS "douse") (oa (cL (oU (a1 (pj 6 (λds=>pU (ds++[])) jg)))) (a1 (cS "It is out."))))) (a1 (om uW (oa (cS "douse") (oa (cL (oU oJ)) (oa (cL (oU (a1 (pj 12 (λds=>uk (ds++[])) jg)))) (a1 (cS "Doused."))))))))))))))
def yq:=fnN 0 0 yp
def AX:FS:=(oj (qU 2 (oU (oa (pj 3 (λds=>xS (ds++[])) (oa ae (a1 (c2 dIx ag bb)))) (a1 (pj 8 (λds=>xj (ds++[])) (a1 (c2 dIx ag aG)))))))
 (oj (sIf (cT (c2 u7 (c2 dIx ag dX) bp)) (o9 (sE 2 (pj 9 (λds=>qZ (ds++[])) (a1 (pj 6 (λds=>pU (ds++[])) (oa (c2 dIx ag dX) (a1 bb))))))) oQ)
 (qk (Hr 2))))
def AY:=fnN 2 3 AX
def CB:FS:=(oj (oV 2 (cL (oW 1 [0] (iL ag) (gN 0) pR (om uW (oa (cS "go") (oa (cL (pb AY jh)) (oa (cL (oU (a1 (pj 11 (λds=>tp (ds++[])) (oa ag (a1 (c2 dIx ae bE))))))) (a1 (cS "You go.")))))))))
 (qk (qO ar (cL (oU (a1 (om pK (oa (cS "go") (oa (cL (oU oJ)) (a1 (cS "No way there.")))))))))))
def CC:=fnN 2 3 CB
def zx:FS:=(qk (oU (a1 (om uW (oa (cS "wait") (oa (cL (oU oJ)) (oa (cL (oU oJ)) (a1 (cS "Time goes by.")))))))))
def zy:=fnN 0 0 zx
def xn:FS:=(qk (qO (cL (qO (cL (qO (cL (qO (cL (qO (cL (pb zw bF)) (cL (pb AU oJ)))) (cL (pb AW oJ)))) (cL (pb yq oJ)))) (cL (pb CC b0)))) (cL (pb zy oJ))))
def q9:=fnN 2 2 xn
abbrev gz:=(cS "two")
abbrev gK:=(cS "way")
def xp:FS:=(qk (qO (cL (oW 1 [] (iT (pE (oa gH (oa (cS "drop") (oa (cS "open") (oa (cS "shut") (oa (cS "light") (a1 (cS "douse"))))))))) (gN 0) pR (pj 2 (λds=>qY (ds++[D.non,(D.str "one"),D.non])) bF))) (cL (oU (oa (pj 2 (λds=>qY (ds++[])) (oa fJ (oa (pE oJ) (oa gz (a1 (cS "in")))))) (oa (pj 2 (λds=>qY (ds++[D.non])) (oa (cS "go") (oa (pE oJ) (a1 gK)))) (a1 (pj 2 (λds=>qY (ds++[D.non])) (oa (cS "wait") (oa (pE oJ) (a1 (cS "alone"))))))))))))
def qr:=fnN 0 0 xp
def Ai:FS:=(oj (ze 1)
 (oj (r6 (iL ae) (gN 2) (pJ 1 (c1 (oX o6 "name") ar) ar))
 (oG (cFz 1))))
def Aj:=fnD 1 3 Ai
def tL:FS:=(oj (ze 2)
 (oj (r6 (iL ae) (gN 3) (sIf (cT (pH qm "has_mark" av oJ)) (pJ 2 (c1 (oX o6 "name") av) aG) oQ))
 (oj (r6 (iL ag) (gN 4) (pJ 2 (c1 (oX o6 "name") aw) (c1 (oX ug "most") aw)))
 (oG (cFz 2)))))
def qH:=fnD 2 5 tL
def wB:FS:=(oj (ze 1)
 (oj (r6 (iL ae) (gN 2) (r6 (iT (AA (pE (a1 (c1 (oX o6 "name") ar))) (c1 (oX yM "others") ar))) (gN 3) (pJ 1 av ar)))
 (oG (cFz 1))))
def qI:=fnD 1 4 wB
def Eb:FS:=(HI (oX Gw "verb"))
def vp:=fnD 1 3 Eb
def wC:FS:=(qk (oW 1 [1] (iL (c1 (oX wx "kept_things") ae)) (gN 0) (cT (c2 (dEq false) (c1 (oX pF "kind") ae) ag)) (c1 (oX o6 "name") ae)))
def tM:=fnD 2 2 wC
def qK:Nat->Option (List D->Option D):=λc=>match c with
 |14=>some tM
 |_=>none
def uI:FS:=(qk (qO (c1 (oX xc "kept_verbs") ae) (c1 (oX vd "shared_verbs") ae)))
def sf:=fnD 1 1 uI
def rL:Nat->Option (List D->Option D):=λc=>match c with
 |14=>some sf
 |_=>none
def sj:FS:=(oj (o9 (om uV (oa ag (oa ar (oa av (oa aw (oa aJ (a1 (cL (pb qr oJ))))))))))
 (oj (pA 14 0 "kept_things" (cL (wW ag)))
 (oj (pA 14 0 "kept_marks" (cL (wW ar)))
 (oj (pA 14 0 "kept_dark" (cL (wW av)))
 (oj (pA 14 0 "kept_ways" (cL (wW aw)))
 (oj (pA 14 0 "kept_verbs" (cL (wW aJ)))
 (oj (pA 14 0 "shared_verbs" (cL (pb qr oJ)))
 (oj (pA 14 0 "your_name" (uE 16 (c2 dIx (pH qK "of_kind" ae (a1 cI)) bb)))
 (oj (pA 14 0 "things_by_name" (om Aj ck))
 (oj (pA 14 0 "mosts_by_name" (om qH fL))
 (oj (pA 14 0 "verbs_by_word" (uE 16 (om qI (a1 (pH rL "all_verbs" ae oJ)))))
 (oj (oV 7 (uE 16 (pW (om qc (oa aY (a1 (cC zm)))) (c1 uz (cL (oW 1 [0] (iL aY) (gN 0) pR vT))))))
 (oj (o9 (om oF (oa bZ (a1 (cS "rules are a list of at most 20 rules, each as it may be")))))
 (oj (pA 14 0 "kept_rules" (cL (wW aY)))
 (oj (pA 14 0 "shared_rules" (uE 16 (cL (pb q9 (oa (c1 (oX sR "your_name") ae) fN)))))
 (oj (pA 14 0 "copied_rules" (cL (oW 1 [] (iL aY) (gN 0) pR vT)))
 (pA 14 0 "rules_by_verb" (uE 16 (om vp (a1 (cL (qO (c1 (oX sN "copied_rules") ae) (c1 (oX sO "shared_rules") ae)))))))))))))))))))))))
def sk:=fnI 14 6 8 sj
def AZ:FS:=(oG (c1 (oX sR "your_name") ae))
def A0:=fnD 1 1 AZ
def vq:Nat->Option (List D->Option D):=λc=>match c with
 |14=>some A0
 |_=>none
def vt:FS:=(oG (c2 DS (c1 (oX uh "things_by_name") ae) ag))
def vv:=fnD 2 2 vt
def pY:Nat->Option (List D->Option D):=λc=>match c with
 |14=>some vv
 |_=>none
def wD:FS:=(oG (c2 (dIn false) ag (c1 (oX yi "kept_dark") ae)))
def wF:=fnD 2 2 wD
def sS:Nat->Option (List D->Option D):=λc=>match c with
 |14=>some wF
 |_=>none
def CD:FS:=(oj (r6 (iT ae) (gN 2) (sIf (cT (c2 (dEq false) (c2 dIx ar bb) ag)) (oG (c2 dIx ar aG)) oQ))
 (oG bp))
def uw:=fnD 2 3 CD
abbrev fK:=(cS "at")
def Jo:FS:=(oG (om uw (oa ae (a1 (pE (oa fK ck))))))
def rA:=fnD 2 2 Jo
def Ec:FS:=(oG (om uw (oa ae (a1 (pE (oa (cS "mark") ck))))))
def rS:=fnD 2 2 Ec
def zz:FS:=(oj (qU 3 (oU oJ))
 (oj (oV 4 (om rA fL))
 (oj (whL (cT (c2 u7 aw bp)) (oj (o9 (sE 3 aw))
 (oV 4 (om rA (oa ag fN)))) 50)
 (qk (Hr 3)))))
def tU:=fnN 3 5 zz
abbrev nU:=(a1 (pH vq "you" ae oJ))
def Ed:FS:=(oG (om rA (oa ag nU)))
def rT:=fnD 2 2 Ed
def Ee:FS:=(oG (pW (c2 (dEq false) (c1 (oX pF "kind") (pH pY "thing_of" ae dZ)) cM) (c2 (dEq false) (om rS fL) bb)))
def rU:=fnD 3 3 Ee
def Ef:FS:=(oj (r6 (iL (cL (pb tU eY))) (gN 4) (oj (sIf (cT (c2 (dEq false) aw av)) (oG cz) oQ)
 (sIf (cT (om rU (oa ae (oa ag fN)))) (oG cj) oQ)))
 (oG cj))
def rV:=fnD 4 5 Ef
def QU:FS:=(oG (c2 (dIn false) (pH vq "you" ae oJ) (cL (pb tU eY))))
def QV:=fnD 3 3 QU
def CG:FS:=(oG (pW (c2 (dEq false) (om rS fL) aG) (om rV (oa ae (oa ag (oa ar fM))))))
def v9:=fnD 4 4 CG
def Gx:FS:=(oj (oV 2 (om rT b0))
 (oj (sIf (rQ (cT (pH sS "is_dark" ae dZ))) (oG cz) oQ)
 (oG (c1 Bk (cL (oW 1 [0,1,2] (iL (pH qK "of_kind" ae fI)) (gN 0) pR (om v9 (oa ag (oa ar (oa ae fM))))))))))
def zA:=fnD 2 3 Gx
def Eg:FS:=(oj (oV 3 (pH pY "thing_of" ae dZ))
 (oj (sIf (tH (cT (c2 yD av bp)) (rQ (cT (pH qo "is_plainly" av oJ)))) (oG cj) oQ)
 (oj (sIf (cT (om rV (oa ae (oa ag (oa ar nU))))) (oG cz) oQ)
 (oG (pW (om rV (oa ae (oa ag (oa ar (a1 (om rT b0)))))) (om zA b0))))))
def Al:=fnD 3 4 Eg
def wG:FS:=(oG (c2 DS (c1 (oX uF "verbs_by_word") ae) ag))
def Bl:=fnD 2 2 wG
def uX:Nat->Option (List D->Option D):=λc=>match c with
 |14=>some Bl
 |_=>none
def A3:FS:=(oj (oV 2 (cIf (cT (c2 yD ag bp)) bp (pH uX "verb_of" ae (a1 (c2 dIx ag bb)))))
 (oG (pW (c2 u7 ar bp) (c2 (dEq false) (c1 (oX Gv "form") ar) gK))))
def xq:=fnD 2 3 A3
abbrev eX:=(a1 bp)
def A4:FS:=(oj (sIf (tH (cT (c2 yD ag bp)) (cT (om xq b0))) (oG (pE (oa bp eX))) oQ)
 (oG (pE (oa (c2 dIx ag aG) (a1 (c2 dIx ag bE))))))
def ra:=fnD 2 2 A4
def xU:FS:=(oj (sIf (cT (c2 (dEq false) av (cS "here"))) (oG (om rT b0)) oQ)
 (oj (sIf (cT (c2 (dEq false) av bP)) (oG (c2 dIx (om ra (oa ae dZ)) bb)) oQ)
 (oj (sIf (cT (c2 (dEq false) av eS)) (oG (c2 dIx (om ra (oa ae dZ)) aG)) oQ)
 (oG av))))
def sq:=fnD 4 4 xU
abbrev kB:=(oa ag (oa ar (oa av (a1 (c1 (oX tf "term") ae)))))
abbrev nW:=(a1 (c1 (oX D5 "place") ae))
abbrev nL:=(oa ag (oa ar (oa av nW)))
def yR:FS:=(oj (oV 4 (om sq kB))
 (oj (oV 5 (om rA (oa ar fN)))
 (oG (pW (c2 u7 aJ bp) (c2 (dEq false) aJ (om sq nL))))))
def wa:=fnD 4 6 yR
abbrev kQ:=(oa ar (a1 (om sq kB)))
def A5:FS:=(oG (om QV (oa ag kQ)))
def A6:=fnD 4 4 A5
def zB:FS:=(oG (om Al (oa ag kQ)))
def zC:=fnD 4 4 zB
def ux:FS:=(oj (oV 4 (om rS kQ))
 (oG (pW (c2 u7 aw bp) (c2 (dEq false) aw (c1 (oX xQ "value") ae)))))
def sr:=fnD 4 5 ux
def wb:FS:=(oj (oV 4 (pH pY "thing_of" ag (a1 (om sq kB))))
 (oG (pW (c2 u7 aw bp) (c2 (dEq false) (c1 (oX pF "kind") aw) (c1 (oX pF "kind") ae)))))
def zD:=fnD 4 5 wb
def zE:FS:=(oG (pW (om xq (oa ag fM)) (c2 (dEq false) (c2 dIx av aG) (c1 (oX Cn "word") ae))))
def zF:=fnD 4 4 zE
def A7:FS:=(oG (om zA fL))
def A8:=fnD 4 4 A7
def uJ:Nat->Option (List D->Option D):=λc=>match c with
 |3=>some wa
 |4=>some A6
 |5=>some zC
 |6=>some sr
 |7=>some zD
 |8=>some zF
 |15=>some A8
 |_=>none
def xt:FS:=(oj (sIf (cT (c2 yC ag (c1 p5 ae))) (oG (c2 dIx ae ag)) oQ)
 (oG bb))
def su:=fnD 2 2 xt
abbrev dU:=(cC (.int 2147483647))
abbrev cH:=(cC (.int 6))
abbrev dY:=(cC (.int 10))
abbrev ja:=(cC (.int 48271))
def zG:FS:=(oj (qU 2 (oU oJ))
 (oj (oV 3 bb)
 (oj (sIf (cT (c2 Sn ae (c2 Ax dY (cC (.int 18))))) (oV 3 (c2 IU ae (c2 Ax dY (cC (.int 18))))) oQ)
 (oj (whL (yf (sW (cT (c2 Dl av bb)) (cT (c2 yC (c1 p5 ar) ag)))) (oj (o9 (sE 2 (c2 qW av (c2 Ax dY cH))))
 (oV 3 (c2 ye av (c2 Ax dY cH)))) 200)
 (oj (oV 4 (c2 qW (c2 sY (c2 pI (c2 qW ae dU) aG) ja) dU))
 (oj (r6 (iR1 ag) (gN 5) (oj (oV 4 (c2 qW (c2 sY (c2 pI (c2 pI aw (c2 sY (cC (.int 7919)) aJ)) aG) ja) dU))
 (oj (oV 6 (c2 qW (c2 sY aw (c2 pI (c2 ye aw (cC (.int 1009))) (cC (.int 69621)))) dU))
 (o9 (sE 2 (c2 qW (c2 sY aY (c2 pI (c2 ye aY (cC (.int 2003))) (cC (.int 40692)))) (cC (.int 2147483399))))))))
 (qk (tQ (cFz 2) oNo (oAt ag)))))))))
def sv:=fnN 2 7 zG
def A9:FS:=(oj (sIf (yf (cT (c2 (dEq false) ae (cL (oU oJ))))) (oG bb) oQ)
 (oG (c2 qW (IR 0) ag)))
def oh:=fnM 1 2 A9
abbrev n8:=(cC (.int 8))
abbrev c6:=(cC (.int 7))
abbrev jc:=(cC (.int 25))
abbrev gV:=(a1 n8)
def wc:FS:=(oj (oV 1 (pf oh 0 (a1 jc)))
 (oj (oV 2 (cS "bcdefghijklmnopqrstuvwxyz"))
 (qk (oW 1 [2,0,1] (iR1 (cC (.int 17))) (gN 0) pR (c2 F2 (c2 dIx ag (c2 qW (c2 pI av (c2 sY c6 ae)) jc)) (c2 pI aG (pf oh 2 gV)))))))
def we:=fnM 0 3 wc
abbrev dt:=(cC (.int 5))
abbrev gE:=(cS "plain")
abbrev kK:=(a1 (zc (c1 p5 aw)))
def sT:FS:=(oj (qU 3 (oU oJ))
 (oj (qU 4 (qO ag (cL (oU (a1 (c2 dIx ae dt))))))
 (oj (r6 (iL (cL (tQ ae (oAt cH) (oAt (c2 pI cH (pf oh 2 gV)))))) (gN 5) (oj (oV 6 (c2 dIx (cL (oU (oa gE (oa cM (oa (cS "lamp") (oa gB (oa cM (oa (cS "lamp") (oa cM (a1 gE)))))))))) (pf oh 2 gV)))
 (oj (o9 (sE 3 (pE (oa aJ (oa aY (a1 (zV 4 (pf oh 2 kK))))))))
 (sIf (cT (c2 (dEq false) aY cM)) (o9 (sE 4 aJ)) oQ))))
 (qk (Hr 3)))))
def qL:=fnL 2 7 sT
abbrev eW:=(cV 10)
abbrev gR:=(a1 (c1 p5 av))
def xu:FS:=(oj (qU 1 (pb sv (oa ae (a1 (cC (.int 110))))))
 (oj (oV 2 (pf we 1 oJ))
 (oj (oV 3 (cL (tQ ar oNo (oAt (c2 pI aG (pf oh 1 (a1 dt)))))))
 (oj (oV 4 (cL (qO (cL (oW 1 [] (iL av) (gN 0) pR (pE (oa ae (oa c7 eX))))) (cL (oU (a1 (pE (oa (c2 dIx ar dt) (oa cI (a1 (c2 dIx av (pf oh 1 gR))))))))))))
 (oj (oV 5 (cL (oU oJ)))
 (oj (r6 (iL (cL (qO aw (qg qL 1 (oa ar fM))))) (gN 6) (oj (oV 7 (pf oh 1 (a1 (c2 pI (c1 p5 aJ) aG))))
 (oV 5 (cL (qO (cL (qO (cL (tQ aJ oNo (oAt bZ))) (cL (oU gU)))) (cL (tQ aJ (oAt bZ) oNo)))))))
 (oj (qU 8 (oU oJ))
 (oj (r6 (iL (cL (tQ ar (oAt (cC (.int 13))) (oAt (c2 pI (cC (.int 13)) (pf oh 1 (a1 dt))))))) (gN 9) (oj (oV 10 (c2 pI aG (pf oh 1 (a1 dX))))
 (o9 (sE 8 (pE (oa (cV 9) (oa (pf oh 1 (a1 (c2 pI eW aG))) (a1 eW))))))))
 (oj (oV 11 (cL (oW 1 [1] (iL av) (gN 0) (cT (c2 (dEq false) (pf oh 1 (a1 bE)) aG)) ae)))
 (oj (oV 12 (cL (oU (oa (pE oJ) (oa (pE (a1 (cS "red"))) (a1 (pE (oa (cS "old") (a1 (cS "red"))))))))))
 (oj (oV 13 (cL (oW 3 [12,1] (iL aJ) (gT (oK (gN 0) (oK (gN 1) (oK (gN 2) qj))) 3) pR (AA (pE bF) (c2 dIx av (pf oh 4 (a1 dX)))))))
 (oG (vc [("rows", aJ),("marks", (cFz 8)),("dark", (cV 11)),("words", (cV 13)),("you", (c2 dIx ar dt))])))))))))))))
def xw:=fnD 1 14 xu
abbrev eV:=(cS "rows")
def xy:FS:=(oj (oV 1 (cL (oW 3 [] (iL (c2 pd ae eV)) (gT (oK (gN 0) (oK (gN 1) (oK (gN 2) qj))) 3) (cT (c2 (dEq false) ag c7)) ae)))
 (qk (oU (oa (pE (oa (c2 dIx ag bb) (oa (cS "north") (oa (c2 dIx ag (c2 IU (c1 p5 ag) aG)) eX)))) (a1 (pE (oa (c2 dIx ag bb) (oa (cS "up") (oa (c2 dIx ag bb) eX)))))))))
def xA:=fnN 1 2 xy
abbrev jd:=(oa (c2 dIx ae aG) (a1 (c2 dIx ae bE)))
def wg:FS:=(oj (oV 1 (cL (oW 2 [] (iZ (oa (c2 pd ae eV) (a1 (c2 pd ae (cS "words"))))) (gT (oK (gN 0) (oK (gN 1) qj)) 2) pR (pj 0 (λds=>zq (ds++[])) (oa (c2 dIx ae bb) (oa ag jd))))))
 (oj (oV 2 (cL (oW 3 [] (iL (c2 pd ae (cS "marks"))) (gT (oK (gN 0) (oK (gN 1) (oK (gN 2) qj))) 3) pR (pj 1 (λds=>AJ (ds++[])) eY))))
 (oG (pj 14 (λds=>sk (ds++[])) (oa ag (oa ar (oa (cL (wW (c2 pd ae (cS "dark")))) (oa (cL (pb xA bF)) (oa (cL (oU oJ)) (a1 (cL (oU oJ))))))))))))
def wj:=fnD 1 3 wg
def Eh:FS:=(qk (oW 3 [1] (iL (c2 pd ae eV)) (gT (oK (gN 0) (oK (gN 1) (oK (gN 2) qj))) 3) (cT (c2 (dIn false) ag av)) ae))
def pO:=fnN 2 2 Eh
abbrev kR:=(oa cM fI)
def wm:FS:=(oj (ze 1)
 (oj (r6 (iL (cL (pb pO (oa ae (a1 (cL (oU kR))))))) (gN 2) (pJ 1 ar aG))
 (oj (r6 (iL (c2 pd ae (cS "marks"))) (gT (oK (gN 2) (oK (gN 3) (oK (gN 4) qj))) 3) (pJ 1 ar aw))
 (oG (cFz 1)))))
def qC:=fnD 1 5 wm
abbrev nQ:=(oa ae (a1 (cL (oU (a1 cM)))))
def sU:FS:=(oj (ze 2)
 (oj (qU 3 (pb pO (oa ae (a1 (cL (oU (oa c7 (a1 cI))))))))
 (oj (qU 4 (pb pO nQ))
 (oj (whL (yf (cT (c2 (dEq true) aw (cL (oU oJ))))) (oj (oV 5 (yI 4 (pf oh 1 kK)))
 (oj (pJ 2 aJ (zV 3 (pf oh 1 (a1 (zc (c1 p5 av))))))
 (o9 (sE 3 aJ)))) 50)
 (oj (r6 (iL (cL (pb pO (oa ae (a1 (cL (oU (oa gE (oa gB fI))))))))) (gN 6) (pJ 2 aY (zV 3 (pf oh 1 (a1 (zc (c1 p5 av)))))))
 (oj (oV 7 (cL (pb pO (oa ae (a1 (cL (oU (a1 c7))))))))
 (oj (pJ 2 (c2 pd ae cI) (c2 dIx bZ (pf oh 1 (a1 (c1 p5 bZ)))))
 (oG (cFz 2)))))))))
def rG:=fnL 1 8 sU
def tV:FS:=(oj (ze 2)
 (oj (r6 (iIt (om qC bF)) (gT (oK (gN 3) (oK (gN 4) qj)) 2) (pJ 2 av (pf oh 1 (a1 (c2 pI aw aG)))))
 (oG (cFz 2))))
def sy:=fnL 1 5 tV
def zH:FS:=(oj (oV 2 (cL (oW 2 [] (iIt ae) (gT (oK (gN 0) (oK (gN 1) qj)) 2) pR (pE (oa (pE (oa fK bF)) ck)))))
 (oG (FX (cL (Ce (cL (qO ar (cL (oW 2 [] (iIt ag) (gT (oK (gN 0) (oK (gN 1) qj)) 2) pR (pE (oa (pE (oa (cS "mark") bF)) ck)))))))))))
def tW:=fnD 2 3 zH
def xB:FS:=(oj (qU 2 (oU oJ))
 (oj (whL (cT (c2 (yF false) ag ae)) (oj (oV 1 (c2 pd ae ag))
 (o9 (sE 2 ag))) 50)
 (qk (Hr 2))))
def rb:=fnN 2 3 xB
def xC:FS:=(oj (oV 5 (cL (pb rb (oa ag fM))))
 (oj (sIf (cT (c2 (dIn true) aw aJ)) (oG cj) oQ)
 (oj (oV 6 (cL (oW 1 [2] (iL (cL (pb pO nQ))) (gN 0) (cT (c2 (dEq false) (c2 pd ag ae) bb)) ae)))
 (oG (c2 (dEq false) (cL (oW 1 [6] (iL (cL (tQ aJ oNo (oAt (c2 sQ aJ aw))))) (gN 0) (cT (c2 (dIn false) ae ag)) ae)) (cL (oU oJ)))))))
def pe:=fnD 5 7 xC
def CH:FS:=(oj (oV 3 (c2 pd ag (c2 pd ae cI)))
 (oj (oV 4 (cL (oW 1 [2] (iL (cL (pb pO (oa ae (a1 (cL (oU fI))))))) (gN 0) (cT (c2 (dEq false) (c2 pd ag ae) aG)) ae)))
 (oj (sIf (cT (c2 (dIn true) av (c2 pd ae (cS "dark")))) (oG cz) oQ)
 (oG (c2 (dEq true) (cL (oW 1 [0,1,2,3] (iL aw) (gN 0) (cT (om pe (oa ag (oa ar (oa av (oa ae fN)))))) ae)) (cL (oU oJ)))))))
def wo:=fnD 3 5 CH
abbrev nM:=(oa ae (a1 (cL (oU (oa gE (oa gB kR))))))
def Ba:FS:=(oj (qU 3 (oU oJ))
 (oj (oV 4 (om wo eY))
 (oj (r6 (iL (cL (pb pO nM))) (gN 5) (oj (oV 6 (pW aw (om pe (oa ae (oa ag (oa ar (oa aJ (a1 (c2 pd ag (c2 pd ae cI))))))))))
 (sIf (tH (cT aY) (cT (om pe (oa ae (oa ag (oa ar (oa aJ (a1 (c2 pd ae cI))))))))) (o9 (sE 3 aJ)) oQ)))
 (qk (Ad (cFz 3))))))
def xD:=fnN 3 7 Ba
def sA:FS:=(oj (oV 2 (cL (pb pO nM)))
 (oj (oV 3 (pf oh 1 gV))
 (oj (sIf (tH (cT (c2 (dEq false) ar (cL (oU oJ)))) (cT (c2 Dl av dt))) (oG (c2 dIx (cL (oU (oa (pE (oa (cS "go") (oa (c2 dIx (cL (oU (oa (cS "north") (a1 (cS "up"))))) (pf oh 1 (a1 bE))) eX))) (a1 (pE (oa (cS "wait") (oa bp eX))))))) (c2 qW av bE))) oQ)
 (oj (oV 4 (c2 dIx ar (pf oh 1 (a1 (c1 p5 ar)))))
 (oj (sIf (cT (c2 yC av bE)) (oG (pE (oa gH (oa aw eX)))) oQ)
 (oG (pE (oa fJ (oa aw (a1 (c2 dIx ar (pf oh 1 (a1 (c1 p5 ar))))))))))))))
def rf:=fnL 1 5 sA
def Bb:FS:=(oG (c2 pd (vc [("go", gK),("wait", (cS "alone")),("take", (cS "one")),("put", gz)]) (c2 dIx ae bb)))
def xE:=fnD 1 1 Bb
abbrev eQ:=(oa (cS "one") (a1 (cS "two")))
abbrev kL:=(oa eS (a1 eS))
abbrev nR:=(oa bP (oa bP (a1 bP)))
def tu:FS:=(oj (oV 3 (cL (oW 3 [] (iL (c2 pd ae eV)) (gT (oK (gN 0) (oK (gN 1) (oK (gN 2) qj))) 3) pR ae)))
 (oj (oV 4 (cL (qO (cL (cSl (cL (tQ av (oAt (pf oh 2 gR)) oNo)) none (some 3))) (cL (oU (a1 (cS "here")))))))
 (oj (sIf (cT (c2 (dIn false) ag (cL (oU eQ)))) (oV 4 (cL (qO aw (cL (oU nR))))) oQ)
 (oj (sIf (cT (c2 (dEq false) ag gz)) (oV 4 (cL (qO aw (cL (oU kL))))) oQ)
 (oG (c2 dIx aw (pf oh 2 (a1 (c1 p5 aw)))))))))
def rg:=fnL 2 5 tu
def tX:FS:=(oj (oV 3 (cL (pb pO (oa ae (a1 (cL (oU (oa c7 (oa cM (a1 cI))))))))))
 (oj (qU 4 (oU (oa (c2 dIx av (pf oh 2 gR)) (oa (c2 dIx av (pf oh 2 gR)) (a1 (cS "here"))))))
 (oj (sIf (cT (c2 (dIn false) ag (cL (oU eQ)))) (o9 (sE 4 bP)) oQ)
 (oj (sIf (cT (c2 (dEq false) ag gz)) (qU 4 (qO (cFz 4) (cL (oU kL)))) oQ)
 (oG (zV 4 (pf oh 2 kK)))))))
def tY:=fnL 2 5 tX
def sV:FS:=(oj (oV 3 (om qC bF))
 (oj (oV 4 (cL (Ae av)))
 (oj (sIf (sW (cT (c2 (dIn false) ag (cL (oU eQ)))) (tH (cT (c2 (dEq false) aw (cL (oU oJ)))) (cT (c2 (dEq false) (pf oh 2 (a1 bE)) bb)))) (oG (pE (oa (c2 dIx (cL (oU (oa bP (a1 (c2 dIx (cL (oU (oa bP (a1 eS)))) (c1 Hu (c2 (dEq false) ag gz))))))) (pf oh 2 (a1 bE))) (a1 (pf oh 2 (a1 eU)))))) oQ)
 (oj (oV 5 (c2 dIx aw (pf oh 2 (a1 (c1 p5 aw)))))
 (oG (pE (oa aJ (a1 (pf oh 2 (a1 (c2 pI (c2 pd av aJ) aG)))))))))))
def rH:=fnL 2 6 sV
abbrev jb:=(cS "marked")
abbrev nG:=(oa (cS "both") (oa vT (a1 vT)))
abbrev gO:=(cS "lit")
abbrev nS:=(oa jb (oa aY (a1 bZ)))
abbrev nX:=(a1 (qg rg 2 b0))
def rB:FS:=(oj (oV 4 (pf oh 2 (a1 (c2 dIx (cL (oU (oa c6 (a1 dY)))) (c1 Hu (c2 Dl av aG))))))
 (oj (sIf (cT (c2 (dEq false) aw bb)) (oG (pE (oa fK (oa (qg rg 2 b0) (a1 (qg tY 2 b0)))))) oQ)
 (oj (sIf (cT (c2 (dEq false) aw aG)) (oG (pE (oa (cS "has") nX))) oQ)
 (oj (sIf (cT (c2 (dEq false) aw bE)) (oG (pE (oa (cS "seen") nX))) oQ)
 (oj (sIf (cT (c2 (dEq false) aw dX)) (oj (oV 5 (cL (oU (oa c7 (oa gE (oa gB (oa cM (oa (cS "lamp") (oa cI kR)))))))))
 (oG (pE (oa (cS "kind") (oa (qg rg 2 b0) (a1 (c2 dIx aJ (pf oh 2 gV)))))))) oQ)
 (oj (sIf (sW (cT (c2 (dEq false) aw eU)) (cT (c2 (dEq false) ag gK))) (oG (pE (oa (cS "word") (a1 (c2 dIx (cL (oU (oa (cS "north") (oa (cS "up") (oa (cS "down") (a1 (cS "upp"))))))) (pf oh 2 (a1 eU))))))) oQ)
 (oj (sIf (sW (cT (c2 yC aw cH)) (tH (cT (c2 (dIn false) ag (cL (oU eQ)))) (cT (c2 P8 (om qC bF) (vc []))))) (oj (Ho (qg rH 2 b0) (gT (oK (gN 6) (oK (gN 7) qj)) 2))
 (oG (pE nS))) oQ)
 (oj (sIf (cT (c2 yC aw c6)) (oG (pE (a1 gO))) oQ)
 (oj (sIf (cT (c2 (dEq false) aw c6)) (oG (pE (oa (cS "not") (a1 vT)))) oQ)
 (oG (pE nG)))))))))))
def qD:=fnJ 2 3 8 rB
def Bc:FS:=(oj (oV 1 (c2 dIx ae bb))
 (oj (sIf (cT (c2 (dEq false) ag fK)) (oG (pj 3 (λds=>xS (ds++[])) jd)) oQ)
 (oj (sIf (cT (c2 (dEq false) ag (cS "has"))) (oG (pj 4 (λds=>vZ (ds++[])) gQ)) oQ)
 (oj (sIf (cT (c2 (dEq false) ag (cS "seen"))) (oG (pj 5 (λds=>AL (ds++[])) gQ)) oQ)
 (oj (sIf (cT (c2 (dEq false) ag jb)) (oG (pj 6 (λds=>pU (ds++[])) jd)) oQ)
 (oj (sIf (cT (c2 (dEq false) ag (cS "kind"))) (oG (pj 7 (λds=>qv (ds++[])) jd)) oQ)
 (oj (sIf (cT (c2 (dEq false) ag (cS "word"))) (oG (pj 8 (λds=>xj (ds++[])) gQ)) oQ)
 (oG (U5 15)))))))))
def uK:=fnD 1 2 Bc
def zI:FS:=(oG (DT (vc [("it", (c2 dIx ar aG)),("other", (c2 dIx ar bE)),("here", (c2 pd ag (c2 pd ae cI)))]) av av))
def sC:=fnD 4 4 zI
abbrev nO:=(oa ae (oa ag (oa av (a1 (c2 dIx aw bE)))))
def rD:FS:=(oj (oV 5 (c2 dIx aw bb))
 (oj (sIf (cT (c2 (dEq false) aJ gO)) (oG (om wo eY)) oQ)
 (oj (sIf (cT (c2 (dEq false) aJ (cS "word"))) (oG (pW (c2 (dEq false) (c2 dIx av bb) (cS "go")) (c2 (dEq false) (c2 dIx av aG) (c2 dIx aw aG)))) oQ)
 (oj (oV 6 (om sC (oa ae (oa ag (oa av (a1 (c2 dIx aw aG)))))))
 (oj (sIf (cT (c2 (dEq false) aJ fK)) (oG (pW (c2 (yF false) aY ag) (c2 (dEq false) (c2 pd ag aY) (om sC nO)))) oQ)
 (oj (sIf (cT (c2 (dEq false) aJ (cS "has"))) (oG (c2 (dIn false) (c2 pd ae cI) (cL (pb rb (oa ag gU))))) oQ)
 (oj (sIf (cT (c2 (dEq false) aJ (cS "seen"))) (oG (c2 (dIn false) aY (cL (pb xD eY)))) oQ)
 (oj (sIf (cT (c2 (dEq false) aJ jb)) (oG (pW (c2 (yF false) aY ar) (c2 (dEq false) (c2 pd ar aY) (c2 dIx aw bE)))) oQ)
 (oG (c2 (dEq false) (cL (oW 3 [6] (iL (c2 pd ae eV)) (gT (oK (gN 0) (oK (gN 1) (oK (gN 2) qj))) 3) (cT (c2 (dEq false) ae av)) ag)) (cL (oU (a1 (c2 dIx aw bE))))))))))))))
def vw:=fnD 5 7 rD
def zJ:FS:=(oG (pW (c1 (sZ (qP "bool")) ae) (c2 (dEq false) ae ag)))
def tZ:=fnD 2 2 zJ
def pV:FS:=(oj (oV 2 (c2 dIx ag bb))
 (oj (sIf (cT (c2 (dEq false) ar fK)) (oG (c2 (dEq false) (pE (oa (c1 (oX tf "term") ae) nW)) (KI ag (some 1) none))) oQ)
 (oj (sIf (cT (c2 (dEq false) ar jb)) (oG (c2 (dEq false) (pE (oa (c1 (oX tf "term") ae) (a1 (c1 (oX xQ "value") ae)))) (KI ag (some 1) none))) oQ)
 (oj (sIf (cT (c2 (dEq false) ar (cS "kind"))) (oG (c2 (dEq false) (pE (oa (c1 (oX tf "term") ae) (a1 (c1 (oX pF "kind") ae)))) (KI ag (some 1) none))) oQ)
 (oj (sIf (cT (c2 (dEq false) ar (cS "word"))) (oG (c2 (dEq false) (c1 (oX Cn "word") ae) (c2 dIx ag aG))) oQ)
 (oG (cOr (c2 (dEq false) ar gO) (c2 (dEq false) (c1 (oX tf "term") ae) (c2 dIx ag aG)))))))))
def qM:=fnD 2 3 pV
abbrev gG:=(a1 (cV 9))
abbrev nJ:=(oa (pH uJ "holds" eW (oa ar (oa bZ (a1 (cV 8))))) (a1 (om vw (oa ag (oa aJ (oa aY (oa (cV 8) gG)))))))
abbrev nP:=(oa ag (oa (om xE (a1 (cV 8))) (a1 aG)))
abbrev nV:=(oa av (a1 (cC (.int 80))))
def Nd:FS:=(oj (oV 1 (om xw (a1 (om su (oa ae (a1 bb))))))
 (oj (oV 2 (om wj ck))
 (oj (r6 (iL (cL (qO (cL (oU (a1 (om su (oa ae (a1 aG)))))) (cL (cSl ae (some 2) (some 17)))))) (gN 3) (oj (qU 4 (pb sv nV))
 (oj (oV 5 (qg rG 4 ck))
 (oj (oV 6 (qg sy 4 ck))
 (oj (oV 7 (om tW (oa aJ gU)))
 (oj (oV 8 (qg rf 4 ck))
 (oj (oV 9 (qg qD 4 nP))
 (oj (oV 10 (om uK gG))
 (oj (r6 (iR1 bE) (gN 11) (sIf (rQ (cT (om tZ nJ))) (oG cj) oQ))
 (sIf (rQ (cT (om qM (oa eW gG)))) (oG cj) oQ))))))))))
 (oG cz))))
def QW:=fnD 1 12 Nd
section
variable{k:Nat}{cap:List Nat}{g:FG}{ft:FT}{fe e:FE}{s:FA}{ρ ρ1 ρ2:aW}{α:Type}
theorem qt{m:L4.D}(h:e ρ=some (.bl true,ρ1)):o9 (om oF (oa e (oa (cC m) oJ))) ρ=some (.nx ρ1):=pP (oi (og h (og rfl rfl)) rfl)
theorem xF(dd h:α->L4.D)(l:List α)(hs:s ρ=some (l.map dd,ρ1))(hl:l.length<=1000)(st:∀a∈l,∃ρ2 ρ3,g (dd a) (xZ k cap ρ1)=some ρ2/\fe ρ2=some (h a,ρ3)/\rE cap (ρ3.drop k) ρ1=some ρ1):
  oW k cap s g pR fe ρ=some (l.map h,ρ1):=(vQ hs (by rw[ah];exact hl)).trans (E1 dd h l st)
theorem sP(dd h:α->L4.D)(p:α->Bool)(l:List α)(hs:s ρ=some (l.map dd,ρ1))(hl:l.length<=1000)
  (st:∀a∈l,∃ρ2 ρ3,g (dd a) (xZ k cap ρ1)=some ρ2/\ft ρ2=some (p a,ρ3)/\(p a=true->∃ρ4,fe ρ3=some (h a,ρ4)/\rE cap (ρ4.drop k) ρ1=some ρ1)/\(p a=false->rE cap (ρ3.drop k) ρ1=some ρ1)):
  oW k cap s g ft fe ρ=some ((l.filter p).map h,ρ1):=(vQ hs (by rw[ah];exact hl)).trans (Cg dd p h l st)
theorem uy(dd:α->L4.D)(l:List α)(hs:s ρ=some (l.map dd,ρ1))(hl:l.length<=1000)(st:∀a∈l,∃ρ2 ρ3,g (dd a) (xZ k cap ρ1)=some ρ2/\fe ρ2=some (.bl true,ρ3)/\rE cap (ρ3.drop k) ρ1=some ρ1):
  c1 uz (cL (oW k cap s g pR fe)) ρ=some (.bl true,ρ1):=
 pD (pB (xF dd (λ_=>.bl true) l hs hl st)) ((Jk l λ_=>true).trans (by rw[bD.mpr λ_ _=>rfl]))
theorem Nf(dd:α->L4.D)(l:List α)(hs:s ρ=some (l.map dd,ρ1))(hl:l.length<=1000)(st:∀a∈l,∃ρ2 ρ3,g (dd a) (xZ k cap ρ1)=some ρ2/\fe ρ2=some (.bl false,ρ3)/\rE cap (ρ3.drop k) ρ1=some ρ1):
  c1 Bk (cL (oW k cap s g pR fe)) ρ=some (.bl false,ρ1):=
 pD (pB (xF dd (λ_=>.bl false) l hs hl st)) ((Jl l λ_=>false).trans (by rw[mq.mpr λ_ _=>bq]))
end
inductive Kd where
 |room|you|plain|fixed|box|lamp
deriving DecidableEq
def Kd.s:Kd->Str
 |.room=>"room" |.you=>"you" |.plain=>"plain" |.fixed=>"fixed" |.box=>"box" |.lamp=>"lamp"
def Kd.pl:Kd->Bool
 |.room=>false|.you=>false|_=>true
def Kd.hd:Kd->Bool
 |.room=>true|.you=>true|.box=>true|_=>false
def Kd.mk:Kd->Bool
 |.box=>true|.lamp=>true|_=>false
structure Th where
 n:Str
 w:aC
 k:Kd
 s:Option Str
def oS:Option Str->L4.D
 |none=>.non
 |some x=>.str x
def thD(t:Th):L4.D:=.obj 0 ["name", "words", "kind", "start"] [.str t.n,.tup (t.w.map D.str),.str t.k.s,oS t.s]
theorem uY(t:Th):oX o6 "name" (thD t)=some (.str t.n):=rfl
theorem Fb(t:Th):oX qJ "words" (thD t)=some (.tup (t.w.map D.str)):=rfl
theorem yS(t:Th):oX pF "kind" (thD t)=some (.str t.k.s):=rfl
theorem Fc(t:Th):oX qb "start" (thD t)=some (oS t.s):=rfl
theorem CI(a b:Kd):dEq false (.str a.s) (.str b.s)=some (.bl (decide (a=b))):=by cases a<;>cases b<;>kernel_rfl
theorem Qc(t:Th):vg [thD t]=some (.bl t.k.hd):=by obtain⟨n,w,k,s⟩:=t;cases k<;>kernel_rfl
theorem Jp(t:Th):vo [thD t]=some (.bl t.k.mk):=by obtain⟨n,w,k,s⟩:=t;cases k<;>kernel_rfl
theorem Gy(t:Th):uo [thD t]=some (.bl t.k.pl):=by obtain⟨n,w,k,s⟩:=t;cases k<;>kernel_rfl
theorem Qd(t:Th):pM [.str t.k.s,E9]=some (.bl true):=by obtain⟨n,w,k,s⟩:=t;cases k<;>kernel_rfl
abbrev TD(T:List Th):L4.D:=.lst (T.map thD)
theorem count_eq(T:List Th)(hl:T.length<=1000)(k:Kd):v3 [TD T,.str k.s]=some (.int (T.filter λt=>decide (t.k=k)).length):=by refine oI (ρ:=[.im (TD T),.im (.str k.s)]) rfl ?_;refine oO (pD (pB (sP thD thD (λt=>decide (t.k=k)) T (ρ1:=[.im (TD T),.im (.str k.s)]) rfl hl λt _=>⟨[.im (thD t),.im (.str k.s)],[.im (thD t),.im (.str k.s)],rfl,pG (oo (pD rfl (yS t)) rfl (CI t.k k)),λ_=>⟨_,rfl,rfl⟩,λ_=>rfl⟩)) ?_);show some (D.int _)=_;rw[ah]
theorem uZ(T:List Th)(hl:T.length<=1000):rq [TD T]=some ((T.filter λt=>t.k.pl).map thD):=by refine vR (ρ:=[.im (TD T)]) rfl ?_;exact vO (sP thD thD (λt=>t.k.pl) T (ρ1:=[.im (TD T)]) rfl hl λt _=>⟨[.im (thD t)],[.im (thD t)],rfl,pG (qA (xs:=[.str t.n,.tup (t.w.map D.str),.str t.k.s,oS t.s]) (ys:=[]) rfl rfl rfl rfl (Gy t)),λ_=>⟨_,rfl,rfl⟩,λ_=>rfl⟩)
variable{ρ:aW}
theorem zK{a b c:FE}{x y z:Int}(h1:a ρ=some (.int x,ρ))(h2:b ρ=some (.int y,ρ))(h3:c ρ=some (.int z,ρ))(hx:x<=y)(hy:y<=z):rM uO uO a b c ρ=some (.bl true,ρ):=by
 unfold rM;rw[h1];simp only[h2];have e1:uO (.int x) (.int y)=some (.bl true):=by show some (D.bl (decide (x<=y)))=_;rw[bg hx]
 have e2:uO (.int y) (.int z)=some (.bl true):=by show some (D.bl (decide (y<=z)))=_;rw[bg hy]
 simp only[e1,h3,e2]
theorem QX{a b:FE}{x y:Int}(h1:a ρ=some (.int x,ρ))(h2:b ρ=some (.int y,ρ))(hx:x<=y):c2 uO a b ρ=some (.bl true,ρ):=oo h1 h2 (by
 show some (D.bl (decide (x<=y)))=_;rw[bg hx])
theorem Bm(T:List Th)(hl:T.length<=1000)(h1:1<=(T.filter λt=>decide (t.k=.room)).length)(h5:(T.filter λt=>decide (t.k=.room)).length<=5)(hy:(T.filter λt=>decide (t.k=.you)).length=1)(h7:(T.filter λt=>t.k.pl).length<=7):
  ur [TD T]=some .non:=by
 let ρ:aW:=[.im (TD T),.im (.bl true)];refine vX (ρ:=ρ) rfl ?_;unfold uq;rw[oe (show _=some (Out.nx ρ) from(oM ((pC rfl).trans (uy thD T (ρ1:=[.im (TD T),.un]) rfl hl λt _=>⟨_,_,rfl,rfl,rfl⟩))).trans rfl)];rw[oe (qt (ρ1:=ρ) rfl)];rw[oe (qt (ρ1:=ρ) (uy thD T rfl hl λt _=>⟨[.im (thD t)],[.im (thD t)],rfl,oi (og (pD rfl (yS t)) (og rfl rfl)) (Qd t),rfl⟩))];rw[oe (qt (ρ1:=ρ) (zK (x:=1) (y:=(T.filter λt=>decide (t.k=.room)).length) (z:=5) rfl (oi (ds:=[TD T,.str Kd.room.s]) rfl (count_eq T hl .room)) rfl (by omega) (by omega)))];rw[oe (qt (ρ1:=ρ) (oo (ρ1:=ρ) (x:=.int (T.filter λt=>decide (t.k=.you)).length) (y:=.int 1) (oi (ds:=[TD T,.str Kd.you.s]) rfl (count_eq T hl .you)) rfl (by rw[hy];rfl)))];refine qt (ρ1:=ρ) (QX (x:=(T.filter λt=>t.k.pl).length) (y:=7) (pD (pB (oi rfl (uZ T hl))) ?_) rfl (by omega));show some (D.int _)=_;rw[ah]
structure Mk where
 n:Str
 st:Int
 mo:Int
def mkD(m:Mk):L4.D:=.obj 1 ["name", "start", "most"] [.str m.n,.int m.st,.int m.mo]
def Mk.ok(m:Mk):Prop:=1<=m.mo/\m.mo<=3/\0<=m.st/\m.st<=m.mo
abbrev MD(M:List Mk):L4.D:=.lst (M.map mkD)
theorem Fd(m:Mk):oX o6 "name" (mkD m)=some (.str m.n):=rfl
theorem HU(m:Mk)(h:m.ok):Ah [mkD m]=some (.bl true):=by obtain⟨h1,h2,h3,h4⟩:=h;refine oI (ρ:=[.im (mkD m)]) rfl ?_;unfold Ag;rw[oe (show _=some (Out.nx [.im (mkD m)]) from rfl)];exact oO ((pC (zK (x:=1) (y:=m.mo) (z:=3) rfl rfl rfl h1 h2)).trans (zK (x:=0) (y:=m.st) (z:=m.mo) rfl rfl rfl h3 h4))
theorem CJ(M:List Mk)(hl:M.length<=4)(h:∀m∈M,m.ok):uQ [MD M]=some .non:=by
 let ρ:aW:=[.im (MD M),.im (.bl true)];refine vX (ρ:=ρ) rfl ?_;unfold uP;have e0:qc [MD M,tR]=some (.bl true):=by refine oI (ρ:=[.im (MD M),.im (.int 4)]) rfl ?_;refine oO ((pC rfl).trans (QX (x:=M.length) (y:=4) ?_ rfl (by omega)));refine pD rfl ?_;show some (D.int _)=_;rw[ah]
 rw[oe (show _=some (Out.nx ρ) from(oM ((pC (oi (ds:=[MD M,tR]) rfl e0)).trans (uy mkD M (ρ1:=[.im (MD M),.un]) rfl (by omega) λm hm=>⟨[.im (mkD m)],[.im (mkD m)],rfl,oi rfl (HU m (h m hm)),rfl⟩))).trans rfl)];exact qt (ρ1:=ρ) rfl
def nmS(l c:Nat):Str:=gu ⟨#[98+l]⟩ (1+(c:Int))
def Nm(x:Str):Prop:=∃l c,l<25/\c<8/\x=nmS l c
def isT:Option L4.D->Bool
 |some (.bl b)=>b
 |_=>false
theorem Ng{o:Option L4.D}(h:isT o=true):o=some (.bl true):=by
 unfold isT at h;split at h
 ·rw[h]
 ·cases h
theorem Fe{p:Str->Bool}(h:((bC 25).all λl=>(bC 8).all λc=>p (nmS l c))=true){x:Str}(hx:Nm x):p x=true:=by obtain⟨l,c,hl,hc,rfl⟩:=hx;exact bD.mp (bD.mp h l (cv.mpr hl)) c (cv.mpr hc)
theorem HV{x:Str}(h:Nm x):xR [.str x]=some (.bl true):=Ng (Fe (p:=λx=>isT (xR [.str x])) (by kernel_rfl) h)
theorem HW{x:Str}(h:Nm x):rR [.str x]=some (.bl true):=Ng (Fe (p:=λx=>isT (rR [.str x])) (by kernel_rfl) h)
theorem GA:rR [.str "red"]=some (.bl true):=by kernel_rfl
theorem GB:rR [.str "old"]=some (.bl true):=by kernel_rfl
def noW(x:Str):Bool:=decide (x∉(["red", "old", "take", "drop", "open", "shut", "light", "douse", "put", "go", "wait", "in", "north", "up", "the", "a", "undo", "restart"]:aC))
theorem Nh{x:Str}(h:Nm x):x∉(["red", "old", "take", "drop", "open", "shut", "light", "douse", "put", "go", "wait", "in", "north", "up", "the", "a", "undo", "restart"]:aC):=bj (Fe (p:=noW) (by kernel_rfl) h)
def sg(x:Str):Nat:=x.cps.getD 0 0
theorem WR{l c:Nat}(hl:l<25)(hc:c<8):sg (nmS l c)=98+l:=by
 have h:((bC 25).all λl=>(bC 8).all λc=>sg (nmS l c)==98+l)=true:=by kernel_rfl
 exact eO (bD.mp (bD.mp h l (cv.mpr hl)) c (cv.mpr hc))
theorem CK{l:aC}(h:l.Nodup)(hl:l.length<=1000):pS [.lst (l.map D.str)]=some (.bl true):=by
 refine oI (ρ:=[.im (.lst (l.map D.str))]) rfl ?_;refine oO (oo (x:=.int l.length) (y:=.int l.length) (pD rfl (Px (AE h hl))) (pD rfl ?_) ?_)
 ·show some (D.int _)=_;rw[ah]
 ·rw[se];simp
theorem HX{l:aC}(h:l.Nodup)(hl:l.length<=1000):pS [.tup (l.map D.str)]=some (.bl true):=by
 refine oI (ρ:=[.im (.tup (l.map D.str))]) rfl ?_;refine oO (oo (x:=.int l.length) (y:=.int l.length) (pD rfl (AE h hl)) (pD rfl ?_) ?_)
 ·show some (D.int _)=_;rw[ah]
 ·rw[se];simp
theorem CL(T:List Th)(M:List Mk)(hT:T.length<=400)(hM:M.length<=400)(hn:∀x∈T.map Th.n++M.map Mk.n,Nm x)(nd:(T.map Th.n++M.map Mk.n).Nodup):uS [TD T,MD M]=some .non:=by
 have hl:(T.map Th.n++M.map Mk.n).length<=1000:=by rw[aD,ah,ah];omega
 let ρ0:aW:=[.im (TD T),.im (MD M),.un];let ρ:aW:=[.im (TD T),.im (MD M),.im (.lst ((T.map Th.n++M.map Mk.n).map D.str))];refine vX (ρ:=ρ) rfl ?_;unfold uR;have e1:oW 1 [] (iL ae) (gN 0) pR (c1 (oX o6 "name") ae) ρ0=some (T.map λt=>D.str t.n,ρ0):=xF thD (λt=>D.str t.n) T rfl (by omega) λt _=>⟨_,_,rfl,pD rfl (uY t),rfl⟩;have e2:oW 1 [] (iL ag) (gN 0) pR (c1 (oX o6 "name") ae) ρ0=some (M.map λt=>D.str t.n,ρ0):=xF mkD (λt=>D.str t.n) M rfl (by omega) λt _=>⟨_,_,rfl,pD rfl (Fd t),rfl⟩;have e3:=oM (i:=2) (pB (sI (pB e1) (pB e2) (by rw[ah,ah];omega)));refine(oe (ρ':=ρ) (e3.trans (by
  have:(T.map λt=>D.str t.n)++(M.map λt=>D.str t.n)=(T.map Th.n++M.map Mk.n).map D.str:=by rw[aX,aU,aU];rfl
  rw[this];rfl))).trans ?_
 rw[oe (qt (ρ1:=ρ) (uy D.str (T.map Th.n++M.map Mk.n) rfl hl λx hx=>⟨_,_,rfl,oi rfl (HV (hn x hx)),rfl⟩))];exact qt (ρ1:=ρ) (oi rfl (CK nd hl))
def rmN(T:List Th):aC:=(T.filter λt=>decide (t.k=.room)).map Th.n
def hdN(T:List Th):aC:=(T.filter λt=>t.k.hd).map Th.n
variable{i:Nat}
abbrev gA:=(cC (.str "room"))
theorem GE(T:List Th)(hl:T.length<=1000)(hi:cV i ρ=some (TD T,ρ)):oW 1 [] (iL (cV i)) (gN 0) (cT (c2 (dEq false) (c1 (oX pF "kind") ae) gA)) (c1 (oX o6 "name") ae) ρ=some ((rmN T).map D.str,ρ):=by
 have hs:iL (cV i) ρ=some (T.map thD,ρ):=by unfold iL;rw[hi]
 have:=sP (k:=1) (cap:=[]) (g:=gN 0) (ft:=cT (c2 (dEq false) (c1 (oX pF "kind") ae) gA)) (fe:=c1 (oX o6 "name") ae) thD (λt=>D.str t.n) (λt=>decide (t.k=.room)) T hs hl λt _=>⟨[.im (thD t)],[.im (thD t)],rfl,pG (oo (pD rfl (yS t)) rfl (CI t.k .room)),λ_=>⟨_,pD rfl (uY t),rfl⟩,λ_=>rfl⟩
 rw[this];unfold rmN;rw[aU];rfl
theorem HY(T:List Th)(hl:T.length<=1000)(hi:cV i ρ=some (TD T,ρ)):oW 1 [] (iL (cV i)) (gN 0) (cT (pH ql "can_hold" ae oJ)) (c1 (oX o6 "name") ae) ρ=some ((hdN T).map D.str,ρ):=by
 have hs:iL (cV i) ρ=some (T.map thD,ρ):=by unfold iL;rw[hi]
 have:=sP (k:=1) (cap:=[]) (g:=gN 0) (ft:=cT (pH ql "can_hold" ae oJ)) (fe:=c1 (oX o6 "name") ae) thD (λt=>D.str t.n) (λt=>t.k.hd) T hs hl λt _=>⟨[.im (thD t)],[.im (thD t)],rfl,pG (qA (xs:=[.str t.n,.tup (t.w.map D.str),.str t.k.s,oS t.s]) (ys:=[]) rfl rfl rfl rfl (Qc t)),λ_=>⟨_,pD rfl (uY t),rfl⟩,λ_=>rfl⟩
 rw[this];unfold hdN;rw[aU];rfl
theorem vz{x:Str}{l:aC}(h:x∈l):pM [.str x,.lst (l.map D.str)]=some (.bl true):=by refine oI (ρ:=[.im (.str x),.im (.lst (l.map D.str))]) rfl ?_;refine oO ((pC rfl).trans (oo rfl rfl ?_));rw[rF];simp[h]
theorem Dr(dk rm:aC)(hl:dk.length<=1000)(nd:dk.Nodup)(h:∀x∈dk,x∈rm):v7 [.lst (dk.map D.str),.lst (rm.map D.str)]=some .non:=by let ρ0:aW:=[.im (.lst (dk.map D.str)),.im (.lst (rm.map D.str)),.un];let ρ:aW:=[.im (.lst (dk.map D.str)),.im (.lst (rm.map D.str)),.im (.bl true)];refine vX (ρ:=ρ) rfl ?_;unfold v5;rw[oe (show _=some (Out.nx ρ) from(oM ((pC (ρ1:=ρ0) rfl).trans ((pC (uy D.str dk (ρ1:=ρ0) rfl hl λx hx=>⟨[.im (.str x),.im (.lst (rm.map D.str))],[.im (.str x),.im (.lst (rm.map D.str))],rfl,oi rfl (vz (h x hx)),rfl⟩)).trans (oi (ρ1:=ρ0) rfl (CK nd hl))))).trans rfl)];exact qt (ρ1:=ρ) rfl
def Fg(T:List Th)(t:Th):Prop:=match t.k,t.s with
 |.room,none=>True
 |.room,some _=>False
 |_,none=>False
 |.you,some x=>x∈rmN T
 |_,some x=>x∈hdN T
abbrev dS:=(cC (.str "you"))
theorem GF(T:List Th)(hl:T.length<=1000)(t:Th)(h:Fg T t):yQ [TD T,thD t]=some (.bl true):=by
 refine oI (ρ:=[.im (TD T),.im (thD t)]) rfl ?_;unfold yP;obtain⟨n,w,k,s⟩:=t;have els:∀k:Kd,k≠.room->k≠.you->∀x,x∈hdN T->(oj (sIf (cT (c2 (dEq false) (c1 (oX pF "kind") ag) gA)) (oG (c2 yD (c1 (oX qb "start") ag) bp)) oQ)
   (oj (sIf (cT (c2 (dEq false) (c1 (oX pF "kind") ag) dS)) (oG (om pM (oa (c1 (oX qb "start") ag) (oa (cL (oW 1 [] (iL ae) (gN 0) (cT (c2 (dEq false) (c1 (oX pF "kind") ae) gA)) (c1 (oX o6 "name") ae))) oJ)))) oQ)
   (oG (om pM (oa (c1 (oX qb "start") ag) (oa (cL (oW 1 [] (iL ae) (gN 0) (cT (pH ql "can_hold" ae oJ)) (c1 (oX o6 "name") ae))) oJ)))))) [.im (TD T),.im (thD ⟨n,w,k,some x⟩)]=some (.rt (.bl true) [.im (TD T),.im (thD ⟨n,w,k,some x⟩)]):=λk h1 h2 x hx=>by
  let ρ:aW:=[.im (TD T),.im (thD ⟨n,w,k,some x⟩)];rw[oe (show _=some (Out.nx ρ) from(ox (ρ':=ρ) (pG (oo (ρ1:=ρ) (ρ2:=ρ) (pD rfl (yS _)) rfl ((CI k .room).trans (by rw[aQ h1]))))).trans rfl)];rw[oe (show _=some (Out.nx ρ) from(ox (ρ':=ρ) (pG (oo (ρ1:=ρ) (ρ2:=ρ) (pD rfl (yS _)) rfl ((CI k .you).trans (by rw[aQ h2]))))).trans rfl)];exact oO (oi (og (pD rfl (Fc _)) (og (pB (HY T hl rfl)) rfl)) (vz hx))
 cases k with
 |room=>
  cases s with
  |none=>rfl
  |some x=>exact h.elim
 |you=>
  cases s with
  |none=>exact h.elim
  |some x=>let ρ:aW:=[.im (TD T),.im (thD ⟨n,w,.you,some x⟩)];rw[oe (show _=some (Out.nx ρ) from rfl)];refine oR ((o5 (ρ':=ρ) rfl).trans ?_);exact oO (oi (og (pD rfl (Fc _)) (og (pB (GE T hl rfl)) rfl)) (vz h))
 |plain=>cases s with
  |none=>exact h.elim
  |some x=>exact els .plain (by decide) (by decide) x h
 |fixed=>cases s with
  |none=>exact h.elim
  |some x=>exact els .fixed (by decide) (by decide) x h
 |box=>cases s with
  |none=>exact h.elim
  |some x=>exact els .box (by decide) (by decide) x h
 |lamp=>cases s with
  |none=>exact h.elim
  |some x=>exact els .lamp (by decide) (by decide) x h
def kS(x:Str):Key:=Sum.inr x
variable{fk fv:FE}{ks:List Key}{ds:List L4.D}{d:L4.D}
theorem xG{x:Str}(h1:fv ρ=some (d,ρ))(h2:ρ[i]?=some (.dk ks ds))(h3:fk ρ=some (.str x,ρ))(hn:kS x∉ks)(hl:ks.length<1000)(he:ds.length=ks.length):
  pJ i fk fv ρ=some (.nx (ρ.set i (.dk (ks++[kS x]) (ds++[d])))):=by
 have hk:B5 ks (kS x)=false:=by unfold B5;rw[ig];intro z;obtain⟨y,hy,ey⟩:=fo.mp z;exact hn (by rw[<-bj ey];exact hy)
 unfold pJ;rw[h1];simp only[h2,h3];rw[show wY (.str x)=some (kS x) from rfl];simp only;rw[ai hl,ai he,hk];rfl
section
variable{α:Type}{g:FG}{i:Nat}{fk fv:FE}
theorem vA(dd:α->L4.D)(kf:α->Str)(vf:α->L4.D)(st:List Key->List L4.D->Sl->aW)
  (hs:∀(a:α) (ks:List Key) (ds:List L4.D) (s:Sl),∃ρ1,g (dd a) (st ks ds s)=some ρ1/\fv ρ1=some (vf a,ρ1)/\ρ1[i]?=some (.dk ks ds)/\fk ρ1=some (.str (kf a),ρ1)/\∀ks' ds',∃s',ρ1.set i (.dk ks' ds')=st ks' ds' s'):
  ∀(l:List α) (ks:List Key) (ds:List L4.D) (s:Sl),(ks++l.map λa=>kS (kf a)).Nodup->ks.length+l.length<=1000->ds.length=ks.length->
   ∃s',forL g (pJ i fk fv) (l.map dd) (st ks ds s)=some (.nx (st (ks++l.map λa=>kS (kf a)) (ds++l.map vf) s'))
 |[],ks,ds,s,_,_,_=>⟨s,by rw[bJ,bJ,bJ,br,br];rfl⟩
 |a::l,ks,ds,s,nd,hl,he=>by
  obtain⟨ρ1,h1,h2,h3,h4,h5⟩:=hs a ks ds s;obtain⟨s1,h6⟩:=h5 (ks++[kS (kf a)]) (ds++[vf a]);rw[aK]at hl;have nd':((ks++[kS (kf a)])++l.map λa=>kS (kf a)).Nodup:=by rw[bA];exact nd
  have hn:kS (kf a)∉ks:=λz=>by rw[bV]at nd;exact nd.2.2 _ z _ (by rw[ay];exact aV) rfl
  obtain⟨s',h7⟩:=vA dd kf vf st hs l (ks++[kS (kf a)]) (ds++[vf a]) s1 nd' (by rw[aD,aZ];omega) (by rw[aD,aD,he,aZ,aZ]);refine⟨s',?_⟩;rw[ay];unfold forL;rw[h1];simp only[xG h2 h3 h4 hn (by omega) he,h6];rw[h7,ay,ay,bA,bA];rfl
end
def nK(T:List Th):List Key:=T.map λt=>kS t.n
theorem CM{a b:Str}(h:kS a=kS b):a=b:=iG h
variable{T:List Th}
theorem Jq(h:(T.map Th.n).Nodup):(nK T).Nodup:=by have:=sM h;rw[aU]at this;exact this
variable{t:Th}
theorem Jr(h:(T.map Th.n).Nodup)(vf:Th->L4.D)(ht:t∈T):qf (nK T) (T.map vf) (kS t.n)=some (vf t):=by refine xa (Jq h) ?_;unfold nK;rw[iC];exact cu (f:=λt=>(kS t.n,vf t)) ht
def HZ(T:List Th)(r:Str->Nat):Prop:=∀t∈T,r t.n<T.length/\∀p,t.s=some p->r p<r t.n/\∃u∈T,u.n=p
def stD(T:List Th):L4.D:=.dic (nK T) (T.map λt=>oS t.s)
theorem Ni(T:List Th)(hl:T.length<=1000)(nd:(T.map Th.n).Nodup)(r:Str->Nat)(hr:HZ T r)(t:Th)(ht:t∈T):tI [stD T,.str t.n]=some (.bl true):=by
 have loop:∀(m:Nat) (l:List L4.D),l.length=m->∀(a:Option Str) (s:Sl),(∀x,a=some x->(∃u∈T,u.n=x)/\r x<m)->
   (∃ρ,forL (gN 3) (oj (sIf (cT (c2 yD ar bp)) (oG cz) oQ) (oV 2 (c2 pd ae ar))) l [.im (stD T),.im (.str t.n),.im (oS a),s]=some (.rt (.bl true) ρ))\/
   (∃s',forL (gN 3) (oj (sIf (cT (c2 yD ar bp)) (oG cz) oQ) (oV 2 (c2 pd ae ar))) l [.im (stD T),.im (.str t.n),.im (oS a),s]=some (.nx [.im (stD T),.im (.str t.n),.im .non,s'])):=by
  intro m
  induction m with
  |zero=>
   intro l h a s ha;cases l with
   |cons d l=>cases h
   |nil=>
    cases a with
    |none=>exact .inr ⟨s,rfl⟩
    |some x=>exact aq (ha x rfl).2 (mW _)
  |succ m ih=>
   intro l h a s ha;cases l with
   |nil=>cases h
   |cons d l=>
    cases a with
    |none=>refine .inl ⟨[.im (stD T),.im (.str t.n),.im .non,.im d],?_⟩;unfold forL;rw[show gN 3 d [.im (stD T),.im (.str t.n),.im (oS none),s]=some [.im (stD T),.im (.str t.n),.im .non,.im d] from rfl];rfl
    |some x=>
     obtain⟨⟨u,hu,rfl⟩,hx⟩:=ha x rfl;have e:oj (sIf (cT (c2 yD ar bp)) (oG cz) oQ) (oV 2 (c2 pd ae ar)) [.im (stD T),.im (.str t.n),.im (.str u.n),.im d]=some (.nx [.im (stD T),.im (.str t.n),.im (oS u.s),.im d]):=by refine(oe (ρ':=[.im (stD T),.im (.str t.n),.im (.str u.n),.im d]) rfl).trans ?_;exact(oM (oo rfl rfl (Jr nd (λt=>oS t.s) hu))).trans rfl
     have key:=ih l (by simpa using h) u.s (.im d) λy hy=>by obtain⟨h1,h2⟩:=hr u hu;obtain⟨h3,h4⟩:=h2 y hy;exact⟨h4,by omega⟩
     unfold forL;rw[show gN 3 d [.im (stD T),.im (.str t.n),.im (oS (some u.n)),s]=some [.im (stD T),.im (.str t.n),.im (.str u.n),.im d] from rfl];simp only[e];exact key
 obtain⟨h1,h2⟩:=hr t ht;have l0:=loop T.length (BY 0 T.length) (by unfold BY;simp) t.s .un λx hx=>⟨(h2 x hx).2,by have:=(h2 x hx).1;omega⟩;have e0:oV 2 (c2 pd ae ag) [.im (stD T),.im (.str t.n),.un,.un]=some (.nx [.im (stD T),.im (.str t.n),.im (oS t.s),.un]):=(oM (oo rfl rfl (Jr nd (λt=>oS t.s) ht))).trans rfl;have e1:iR1 (c1 p5 ae) [.im (stD T),.im (.str t.n),.im (oS t.s),.un]=some (BY 0 T.length,[.im (stD T),.im (.str t.n),.im (oS t.s),.un]):=by unfold iR1;rw[show c1 p5 ae [.im (stD T),.im (.str t.n),.im (oS t.s),.un]=some (.int T.length,[.im (stD T),.im (.str t.n),.im (oS t.s),.un]) from pD rfl (by show some (D.int _)=_;unfold nK;rw[ah])];simp only;rw[ai (by omega),ic]
 rcases l0 with ⟨ρ,q⟩|⟨s',q⟩
 ·refine oI (ρ:=ρ) rfl ?_;refine(oe e0).trans (oR ((qa e1).trans q))
 ·refine oI (ρ:=[.im (stD T),.im (.str t.n),.im .non,s']) rfl ?_;refine(oe e0).trans ((oe ((qa e1).trans q)).trans rfl)
theorem Bn(T:List Th)(hl:T.length<=900)(nd:(T.map Th.n).Nodup)(r:Str->Nat)(hr:HZ T r)(hs:∀t∈T,Fg T t):uv [TD T]=some .non:=by
 obtain⟨s',e1⟩:=vA (g:=gN 2) (i:=1) (fk:=c1 (oX o6 "name") ar) (fv:=c1 (oX qb "start") ar) thD Th.n (λt=>oS t.s) (λks ds s=>[.im (TD T),.dk ks ds,s])
  (λt ks ds s=>⟨[.im (TD T),.dk ks ds,.im (thD t)],rfl,pD rfl (Fc t),rfl,pD rfl (uY t),λks' ds'=>⟨_,rfl⟩⟩) T [] [] .un (by rw[bH];exact Jq nd) (by simp;omega) rfl
 refine vX (ρ:=[.im (TD T),.im (stD T),s']) rfl ?_;unfold uu;refine(oe (qt (ρ1:=[.im (TD T),.un,.un]) (uy thD T rfl (by omega) λt ht=>⟨[.im (thD t),.im (TD T)],[.im (thD t),.im (TD T)],rfl,oi rfl (GF T (by omega) t (hs t ht)),rfl⟩))).trans ?_;refine(oe (ρ':=[.im (TD T),.dk [] [],.un]) rfl).trans ?_;refine(oe ((qa rfl).trans e1)).trans ?_;have src:iD (cFz 1) [.im (TD T),.dk ([]++T.map λa=>kS a.n) ([]++T.map λt=>oS t.s),s']=some ((T.map λt=>D.str t.n),[.im (TD T),.im (stD T),s']):=by rw[bH,bH];unfold iD;rw[show cFz 1 [.im (TD T),.dk (T.map λa=>kS a.n) (T.map λt=>oS t.s),s']=some (stD T,[.im (TD T),.im (stD T),s']) from rfl];show (if (nK T).length=(T.map λt=>oS t.s).length then some ((nK T).map HG,_)else none)=_;unfold nK;rw[ai (by rw[ah,ah]),aU];rfl
 exact qt (ρ1:=[.im (TD T),.im (stD T),s']) (uy (λt:Th=>D.str t.n) T src (by omega) λt ht=>⟨[.im (.str t.n),.im (stD T)],[.im (.str t.n),.im (stD T)],rfl,oi rfl (Ni T (by omega) nd r hr t ht),rfl⟩)
def Ei:List aC:=[[],["red"],["old", "red"]]
def qR(t:Th):Prop:=Nm t.n/\∃m∈Ei,t.w=t.n::m
theorem rW(h:qR t):t.w=[t.n]\/t.w=[t.n,"red"]\/t.w=[t.n,"old", "red"]:=by
 obtain⟨_,m,hm,e⟩:=h;unfold Ei at hm;simp only[aN,bN,or_false]at hm;rcases hm with rfl|rfl|rfl
 ·exact .inl e
 ·exact .inr (.inl e)
 ·exact .inr (.inr e)
theorem Am(h:qR t){x:Str}(hx:x∈t.w):x=t.n\/x="red" \/ x="old" := by
 rcases rW h with e|e|e<;>rw[e]at hx<;>simp only[aN,bN,or_false]at hx
 ·exact .inl hx
 ·rcases hx with h|h
  ·exact .inl h
  ·exact .inr (.inl h)
 ·rcases hx with h|h|h
  ·exact .inl h
  ·exact .inr (.inr h)
  ·exact .inr (.inl h)
theorem QY{x:Str}(h:Nm x):x≠"red" /\ x≠"old" := by have:=Nh h;exact⟨λz=>this (by rw[z];decide),λz=>this (by rw[z];decide)⟩
theorem Fh(h:qR t):xm [.tup (t.w.map D.str)]=some (.bl true):=by
 have hn:=h.1;obtain⟨n1,n2⟩:=QY hn;have len:1<=t.w.length/\t.w.length<=4:=by rcases rW h with e|e|e<;>rw[e]<;>simp
 have nd:t.w.Nodup:=by
  rcases rW h with e|e|e<;>rw[e]
  ·simp
  ·simp[n1]
  ·simp[n1,n2];decide
 let ρ:aW:=[.im (.tup (t.w.map D.str))];refine oI (ρ:=ρ) rfl ?_;unfold xl;have e1:rM uO uO aG (c1 p5 ae) (cC vY) ρ=some (.bl true,ρ):=zK (x:=1) (y:=t.w.length) (z:=4) rfl (pD rfl (by show some (D.int _)=_;rw[ah])) rfl (by omega) (by omega);refine(oe (ρ':=ρ) ((ox (ρ':=ρ) (yE (ρ1:=ρ) rfl (zd (pG e1)))).trans rfl)).trans ?_;refine oO ((pC (uy D.str t.w (ρ1:=ρ) rfl (by omega) λx hx=>⟨_,_,rfl,oi rfl ?_,rfl⟩)).trans (oi rfl (HX nd (by omega))));rcases Am h hx with rfl|rfl|rfl
 ·exact HW hn
 ·exact GA
 ·exact GB
theorem Ia(t u:Th)(ht:qR t)(hu:qR u)(hne:u.n≠t.n):xT [.tup (u.w.map D.str),.tup (t.w.map D.str)]=some (.bl false):=by
 obtain⟨n1,n2⟩:=QY ht.1;have hl:t.w.length<=1000:=by rcases rW ht with e|e|e<;>rw[e]<;>simp
 let ρ:aW:=[.im (.tup (u.w.map D.str)),.im (.tup (t.w.map D.str))];refine oI (ρ:=ρ) rfl ?_;refine oO (pD (pB (xF D.str (λx=>.bl (decide (x∈u.w))) t.w (ρ1:=ρ) rfl hl λx _=>⟨_,_,rfl,oo rfl rfl (Gj false x u.w),rfl⟩)) ?_);rw[Jk];have:t.w.all (λx=>decide (x∈u.w))=false:=by
  rw[ig];intro z;have:=bj (bD.mp z t.n (by rcases rW ht with e|e|e<;>rw[e]<;>simp));rcases Am hu this with h|h|h
  ·exact hne h.symm
  ·exact n1 h
  ·exact n2 h
 rw[this]
theorem Ds(P:List Th)(hl:P.length<=900)(hw:∀t∈P,qR t)(t:Th)(ht:qR t):tK [TD P,thD t]=some (.bl true):=by
 let O:=P.filter λu=>!decide (u.n=t.n);let ρ:aW:=[.im (TD P),.im (thD t),.im (TD O)];have hO:O.length<=900:=bI (eA _ _) hl;refine oI (ρ:=ρ) rfl ?_;unfold tJ;refine(oe (ρ':=ρ) ((oM (pB (sP thD thD (λu=>!decide (u.n=t.n)) P (ρ1:=[.im (TD P),.im (thD t),.un]) rfl (by omega) λu _=>⟨[.im (thD u),.im (thD t)],[.im (thD u),.im (thD t)],rfl,pG (oo (pD rfl (uY u)) (pD rfl (uY t)) (ro true u.n t.n)),λ_=>⟨_,rfl,rfl⟩,λ_=>rfl⟩))).trans rfl)).trans ?_;have e:c1 Bk (cL (oW 1 [1] (iL ar) (gN 0) pR (om xT (oa (c1 (oX qJ "words") ae) (oa (c1 (oX qJ "words") ag) oJ))))) ρ=some (.bl false,ρ):=
  Nf thD O rfl (by omega) λu hu=>⟨[.im (thD u),.im (thD t)],[.im (thD u),.im (thD t)],rfl,oi (og (pD rfl (Fb u)) (og (pD rfl (Fb t)) rfl)) (Ia t u ht (hw u (bO.mp hu).1) (by simpa using (bO.mp hu).2)),rfl⟩
 refine oO ?_;unfold EL;rw[e];rfl
theorem CN(T:List Th)(hl:T.length<=900)(hw:∀t∈T,qR t):qq [TD T]=some .non:=by let P:=T.filter λt=>t.k.pl;have hP:P.length<=900:=bI (eA _ _) hl;have hwP:∀t∈P,qR t:=λt ht=>hw t (bO.mp ht).1;let ρ:aW:=[.im (TD T),.im (TD P)];refine vX (ρ:=ρ) rfl ?_;unfold qp;refine(oe (qt (ρ1:=[.im (TD T),.un]) (uy thD T rfl (by omega) λt ht=>⟨[.im (thD t)],[.im (thD t)],rfl,oi (og (pD rfl (Fb t)) rfl) (Fh (hw t ht)),rfl⟩))).trans ?_;refine(oe (ρ':=ρ) ((oM (pB (oi rfl (uZ T (by omega))))).trans rfl)).trans ?_;exact qt (ρ1:=ρ) (uy thD P rfl (by omega) λt ht=>⟨[.im (thD t),.im (TD P)],[.im (thD t),.im (TD P)],rfl,oi rfl (Ds P hP hwP t (hwP t ht)),rfl⟩)
def yt(n f:Str)(j:L4.D):L4.D:=.obj 2 ["name", "others", "form", "joining"] [.str n,.tup [],.str f,j]
def pN:List L4.D:=[yt "take" "one" .non,yt "drop" "one" .non,yt "open" "one" .non,yt "shut" "one" .non,yt "light" "one" .non,yt "douse" "one" .non,yt "put" "two" (.str "in"),yt "go" "way" .non,yt "wait" "alone" .non]
theorem GH:qr []=some pN:=by kernel_rfl
def vN:aC:=["take", "drop", "open", "shut", "light", "douse", "put", "go", "wait"]
def vI:aC:=["take", "drop", "open", "shut", "light", "douse", "put", "go", "wait", "in", "north", "up"]
variable{e:FE}{ρ1:aW}
theorem Qe{b:Bool}(h:e ρ=some (.bl b,ρ1)):EL e ρ=some (.bl !b,ρ1):=by unfold EL;rw[h]
theorem Nj{l m:aC}(hd:d=.lst (m.map D.str)\/d=.tup (m.map D.str))(hl:l.length<=900)(h:∀x∈l,x∉m):tq [.lst (l.map D.str),d]=some (.bl true):=by
 let ρ:aW:=[.im (.lst (l.map D.str)),.im d];refine oI (ρ:=ρ) rfl ?_;have e:c1 Bk (cL (oW 1 [1] (iL ae) (gN 0) pR (c2 (dIn false) ae ag))) ρ=some (.bl false,ρ):=Nf D.str l rfl (by omega) λx hx=>⟨[.im (.str x),.im d],[.im (.str x),.im d],rfl,oo rfl rfl (by
  rcases hd with rfl|rfl
  ·rw[rF];simp[h x hx]
  ·rw[Gj];simp[h x hx]),rfl⟩
 exact oO (Qe e)
theorem KP(h:qR t):t.w.length<=3:=by rcases rW h with e|e|e<;>rw[e]<;>simp
theorem CO{a b c s5 s6 s7:Sl}:∀(P:List Th) (acc:aC) (s:Sl),acc.length+3 * P.length<=900->(∀t∈P,qR t)->
  ∃s',forL (gN 4) (o9 (AB 3 (c1 (oX qJ "words") aw))) (P.map thD) [a,b,c,.ls (acc.map D.str),s,s5,s6,s7]=some (.nx [a,b,c,.ls ((acc++P.flatMap Th.w).map D.str),s',s5,s6,s7])
 |[],acc,s,_,_=>⟨s,by simp;rfl⟩
 |t::P,acc,s,hl,hw=>by
  have h3:=KP (hw t aV);rw[aK]at hl;obtain⟨s',e⟩:=CO P (acc++t.w) (.im (thD t)) (by rw[aD];omega) λu hu=>hw u (bh _ hu);refine⟨s',?_⟩;rw[ay];unfold forL;have e1:o9 (AB 3 (c1 (oX qJ "words") aw)) [a,b,c,.ls (acc.map D.str),.im (thD t),s5,s6,s7]=some (.nx [a,b,c,.ls ((acc++t.w).map D.str),.im (thD t),s5,s6,s7]):=by refine(pP (d:=.non) (ρ':=[a,b,c,.ls ((acc++t.w).map D.str),.im (thD t),s5,s6,s7]) ?_);unfold AB;show (if (acc.map D.str).length+(t.w.map D.str).length<=1000 then some (D.non,[a,b,c,.ls (acc.map D.str++t.w.map D.str),.im (thD t),s5,s6,s7])else none)=_;rw[ai (by rw[ah,ah];omega),aX]
  rw[show gN 4 (thD t) [a,b,c,.ls (acc.map D.str),s,s5,s6,s7]=some [a,b,c,.ls (acc.map D.str),.im (thD t),s5,s6,s7] from rfl];simp only[e1];rw[e,List.flatMap_cons,bA]
def wyD(r0 r1:Str):List L4.D:=[.tup [.str r0,.str "north", .str r1,.non],.tup [.str r0,.str "up", .str r0,.non]]
def wyT(T:List Th):List L4.D:=wyD ((rmN T).headD "") ((rmN T).getLastD "")
theorem Va(h:1<=(T.filter λt=>decide (t.k=.room)).length):(rmN T).headD "" ∈ rmN T:=by
 have:1<=(rmN T).length:=by unfold rmN;rw[ah];exact h
 cases e:rmN T with
 |nil=>rw[e]at this;cases this
 |cons a r=>exact aV ..
theorem Vb(h:1<=(T.filter λt=>decide (t.k=.room)).length):(rmN T).getLastD "" ∈ rmN T:=by
 have:1<=(rmN T).length:=by unfold rmN;rw[ah];exact h
 have hn:rmN T≠[]:=λe=>by rw[e]at this;cases this
 rw[lr,List.getLast?_eq_some_getLast hn];exact List.getLast_mem hn
theorem Ib(r0:Str):pS [.lst [.tup [.str r0,.str "north"],.tup [.str r0,.str "up"]]]=some (.bl true):=by refine oI (ρ:=[.im (.lst [.tup [.str r0,.str "north"],.tup [.str r0,.str "up"]])]) rfl (oO (oo (x:=.int 2) (y:=.int 2) (pD rfl ?_) rfl rfl));show (if ([Sum.inr r0,Sum.inr "north"]:List Key)=[Sum.inr r0,Sum.inr "up"]then none else some (D.int 2))=_;rw[aj λe=>aq (iG (jU (jU e).2).1) (by decide:¬(("north" : Str)="up"))]
theorem KQ{a b x:Str}{R:aC}{mn:List L4.D}(h0:a∈R)(h1:b∈R)(hx:rR [.str x]=some (.bl true)):CA [.tup [.str a,.str x,.str b,.non],.lst (R.map D.str),.lst mn]=some (.bl true):=by let ρ:aW:=[.im (.tup [.str a,.str x,.str b,.non]),.im (.lst (R.map D.str)),.im (.lst mn),.im (.bl true)];refine oI (ρ:=ρ) rfl ?_;unfold Cy;refine(oe (ρ':=[.im (.tup [.str a,.str x,.str b,.non]),.im (.lst (R.map D.str)),.im (.lst mn),.un]) rfl).trans ?_;refine(oe (ρ':=ρ) rfl).trans ?_;exact oO ((pC (oi (ρ1:=ρ) rfl (vz h0))).trans ((pC (oi (ρ1:=ρ) rfl hx)).trans ((pC (oi (ρ1:=ρ) rfl (vz h1))).trans rfl)))
theorem Dt{r0 r1:Str}(R:aC)(mn:List L4.D)(h0:r0∈R)(h1:r1∈R):tT [.lst (wyD r0 r1),.lst (R.map D.str),.lst mn]=some .non:=by
 let ρ0:aW:=[.im (.lst (wyD r0 r1)),.im (.lst (R.map D.str)),.im (.lst mn),.un];let ρ:aW:=[.im (.lst (wyD r0 r1)),.im (.lst (R.map D.str)),.im (.lst mn),.im (.bl true)];refine vX (ρ:=ρ) rfl ?_;unfold v8;rw[oe (show _=some (Out.nx ρ) from(oM ((pC (ρ1:=ρ0) rfl).trans (uy (λz:Str×Str=>D.tup [.str r0,.str z.1,.str z.2,.non]) [("north", r1),("up", r0)] (ρ1:=ρ0) rfl (bU rfl) λz hz=>
  ⟨[.im (.tup [.str r0,.str z.1,.str z.2,.non]),.im (.lst (R.map D.str)),.im (.lst mn)],[.im (.tup [.str r0,.str z.1,.str z.2,.non]),.im (.lst (R.map D.str)),.im (.lst mn)],rfl,oi rfl (KQ h0 (by
   rcases aN.mp hz with rfl|hz
   ·exact h1
   ·rw[aR.mp hz];exact h0) (by
   rcases aN.mp hz with rfl|hz
   ·kernel_rfl
   ·rw[aR.mp hz];kernel_rfl)),rfl⟩))).trans rfl)]
 refine(oe (qt (ρ1:=ρ) rfl)).trans ?_;exact qt (ρ1:=ρ) (oi (ds:=[.lst [.tup [.str r0,.str "north"],.tup [.str r0,.str "up"]]]) (og (by kernel_rfl) rfl) (Ib r0))
theorem CP(T:List Th)(hl:T.length<=200)(hw:∀t∈T,qR t):qB [TD T,.lst (wyT T),.lst pN]=some .non:=by
 let P:=T.filter λt=>t.k.pl;have hP:P.length<=200:=bI (eA _ _) hl;have hwP:∀t∈P,qR t:=λt ht=>hw t (bO.mp ht).1;obtain⟨s',e1⟩:=CO (a:=.im (TD T)) (b:=.im (.lst (wyT T))) (c:=.im (.lst pN)) (s5:=.un) (s6:=.un) (s7:=.un) P [] .un (by simp;omega) hwP;let O:=P.flatMap Th.w;let m1:Sl:=.ls (O.map D.str);let z:Sl:=.im (yt "wait" "alone" .non);refine vX (ρ:=[.im (TD T),.im (.lst (wyT T)),.im (.lst pN),.im (.lst (O.map D.str)),s',.im (.lst (vN.map D.str)),z,.im (.lst [.str "in", .str "north", .str "up"])]) rfl ?_;unfold rP;refine(oe (ρ':=[.im (TD T),.im (.lst (wyT T)),.im (.lst pN),.ls [],.un,.un,.un,.un]) rfl).trans ?_;refine(oe (ρ':=[.im (TD T),.im (.lst (wyT T)),.im (.lst pN),m1,s',.un,.un,.un]) ((qa (ds:=P.map thD) (ρ1:=[.im (TD T),.im (.lst (wyT T)),.im (.lst pN),.ls [],.un,.un,.un,.un]) ?_).trans e1)).trans ?_
 ·unfold iL;rw[pB (oi (g:=rq) (ds:=[TD T]) (ρ1:=[.im (TD T),.im (.lst (wyT T)),.im (.lst pN),.ls [],.un,.un,.un,.un]) rfl (uZ T (by omega)))]
 refine(oe (ρ':=[.im (TD T),.im (.lst (wyT T)),.im (.lst pN),m1,s',.ls [],.un,.un]) rfl).trans ?_;refine(oe (ρ':=[.im (TD T),.im (.lst (wyT T)),.im (.lst pN),m1,s',.ls (vN.map D.str),z,.un]) (by kernel_rfl)).trans ?_;refine(oe (ρ':=[.im (TD T),.im (.lst (wyT T)),.im (.lst pN),m1,s',.ls (vN.map D.str),z,.im (.lst [.str "in", .str "north", .str "up"])]) (by kernel_rfl)).trans ?_;refine(oe (qt (ρ1:=[.im (TD T),.im (.lst (wyT T)),.im (.lst pN),m1,s',.im (.lst (vN.map D.str)),z,.im (.lst [.str "in", .str "north", .str "up"])]) (by kernel_rfl))).trans ?_;have no:∀x∈vI,x∉O:=λx hx ho=>by
  obtain⟨t,ht,hxt⟩:=List.mem_flatMap.mp ho;have hn:=(hwP t ht).1;rcases Am (hwP t ht) hxt with rfl|rfl|rfl
  ·have sub:∀x∈vI,x∈(["red", "old", "take", "drop", "open", "shut", "light", "douse", "put", "go", "wait", "in", "north", "up", "the", "a", "undo", "restart"]:aC):=by decide
   exact Nh hn (sub _ hx)
  ·exact aq hx (by decide)
  ·exact aq hx (by decide)
 have a1:=Nj (l:=vI) (m:=O) (.inl rfl) (by decide) no;refine(oe (qt (ρ1:=[.im (TD T),.im (.lst (wyT T)),.im (.lst pN),.im (.lst (O.map D.str)),s',.im (.lst (vN.map D.str)),z,.im (.lst [.str "in", .str "north", .str "up"])]) (oi (og (d:=.lst (vI.map D.str)) (ρ1:=[.im (TD T),.im (.lst (wyT T)),.im (.lst pN),m1,s',.im (.lst (vN.map D.str)),z,.im (.lst [.str "in", .str "north", .str "up"])]) (by kernel_rfl) (og rfl rfl)) a1))).trans ?_;refine(oe (qt (ρ1:=[.im (TD T),.im (.lst (wyT T)),.im (.lst pN),.im (.lst (O.map D.str)),s',.im (.lst (vN.map D.str)),z,.im (.lst [.str "in", .str "north", .str "up"])]) (by kernel_rfl))).trans ?_;exact qt (by kernel_rfl)
structure Good(T:List Th)(M:List Mk)(dk:aC):Prop where
 len:T.length<=200
 r1:1<=(T.filter λt=>decide (t.k=.room)).length
 r5:(T.filter λt=>decide (t.k=.room)).length<=5
 y1:(T.filter λt=>decide (t.k=.you)).length=1
 p7:(T.filter λt=>t.k.pl).length<=7
 m4:M.length<=4
 mo:∀m∈M,m.ok
 nm:∀x∈T.map Th.n++M.map Mk.n,Nm x
 nd:(T.map Th.n++M.map Mk.n).Nodup
 st:∀t∈T,Fg T t
 rk:∃r,HZ T r
 wd:∀t∈T,qR t
 d0:dk.length<=5
 d1:dk.Nodup
 d2:∀x∈dk,x∈rmN T
variable{M:List Mk}{dk:aC}
theorem Good.ndT(g:Good T M dk):(T.map Th.n).Nodup:=(bV.mp g.nd).1
theorem Du(T:List Th)(M:List Mk)(hl:T.length<=200)(hM:M.length<=4):∃l,tS [TD T,MD M]=some l:=by
 let ρ:aW:=[.im (TD T),.im (MD M)];refine⟨_,vR (ρ:=ρ) rfl (vO (sI (pB (sP thD (λt=>D.str t.n) (λt=>t.k.mk) T (ρ1:=ρ) rfl (by omega) λt _=>⟨[.im (thD t)],[.im (thD t)],rfl,pG (qA (xs:=[.str t.n,.tup (t.w.map D.str),.str t.k.s,oS t.s]) (ys:=[]) rfl rfl rfl rfl (Jp t)),λ_=>⟨_,pD rfl (uY t),rfl⟩,λ_=>rfl⟩))
  (pB (xF mkD (λt=>D.str t.n) M rfl (by omega) λt _=>⟨_,_,rfl,pD rfl (Fd t),rfl⟩)) ?_))⟩
 have:=eA (λt:Th=>t.k.mk) T;rw[ah,ah];omega
theorem CQ(g:Good T M dk):uV [TD T,MD M,.lst (dk.map D.str),.lst (wyT T),.lst [],.lst pN]=some .non:=by
 have hl:=g.len;have hdk:dk.length<=1000:=by have:=g.d0;omega
 obtain⟨r,hr⟩:=g.rk;obtain⟨mn,emn⟩:=Du T M hl g.m4;let ρ0:aW:=[.im (TD T),.im (MD M),.im (.lst (dk.map D.str)),.im (.lst (wyT T)),.im (.lst []),.im (.lst pN),.un];let ρ:aW:=[.im (TD T),.im (MD M),.im (.lst (dk.map D.str)),.im (.lst (wyT T)),.im (.lst []),.im (.lst pN),.im (.lst ((rmN T).map D.str))];refine vX (ρ:=ρ) rfl ?_;unfold uU;refine(oe (pP (ρ':=ρ0) (oi rfl (Bm T (by omega) g.r1 g.r5 g.y1 g.p7)))).trans ?_;refine(oe (pP (ρ':=ρ0) (oi rfl (CJ M g.m4 g.mo)))).trans ?_;refine(oe (pP (ρ':=ρ0) (oi rfl (CL T M (by omega) (by have:=g.m4;omega) g.nm g.nd)))).trans ?_;refine(oe (pP (ρ':=ρ0) (oi rfl (Bn T (by omega) g.ndT r hr g.st)))).trans ?_;refine(oe (pP (ρ':=ρ0) (oi rfl (CN T (by omega) g.wd)))).trans ?_;refine(oe (ρ':=ρ) ((oM (pB (GE T (by omega) rfl))).trans rfl)).trans ?_;refine(oe (pP (ρ':=ρ) (oi rfl (Dr dk (rmN T) hdk g.d1 g.d2)))).trans ?_;have cw:tT [.lst (wyT T),.lst ((rmN T).map D.str),.lst mn]=some .non:=Dt (rmN T) mn (Va g.r1) (Vb g.r1);refine(oe (pP (ρ':=ρ) (oi (og rfl (og rfl (og (pB (oi (g:=tS) (ds:=[TD T,MD M]) rfl emn)) rfl))) cw))).trans ?_;refine(oe (pP (ρ':=ρ) (oi (g:=uT) (ds:=[.lst []]) (r:=.non) rfl (by kernel_rfl)))).trans ?_;exact pP (ρ':=ρ) (oi (g:=qB) (ds:=[TD T,.lst (wyT T),.lst pN]) rfl (CP T hl g.wd))
theorem Ie(T:List Th)(hl:T.length<=900)(nd:(T.map Th.n).Nodup):Aj [TD T]=some (.dic (nK T) (T.map thD)):=by
 obtain⟨s',e1⟩:=vA (g:=gN 2) (i:=1) (fk:=c1 (oX o6 "name") ar) (fv:=cV 2) thD Th.n thD (λks ds s=>[.im (TD T),.dk ks ds,s])
  (λt ks ds s=>⟨[.im (TD T),.dk ks ds,.im (thD t)],rfl,rfl,rfl,pD rfl (uY t),λks' ds'=>⟨_,rfl⟩⟩) T [] [] .un (by rw[bH];exact Jq nd) (by simp;omega) rfl
 refine oI (ρ:=[.im (TD T),.im (.dic (nK T) (T.map thD)),s']) rfl ?_;unfold Ai;refine(oe (ρ':=[.im (TD T),.dk [] [],.un]) rfl).trans ?_;refine(oe ((qa rfl).trans e1)).trans ?_;rw[bH,bH];rfl
theorem Qf(m:Mk):oX ug "most" (mkD m)=some (.int m.mo):=rfl
theorem CS(T:List Th)(hl:T.length<=1000)(ns:aC)(rest:List L4.D)(k:Kd):tM [.obj 14 ("kept_things" ::ns) (TD T::rest),.str k.s]=some (.lst ((T.filter λt=>decide (t.k=k)).map λt=>D.str t.n)):=by let ρ:aW:=[.im (.obj 14 ("kept_things" ::ns) (TD T::rest)),.im (.str k.s)];refine S9 (ρ:=ρ) rfl ?_;exact vO (sP thD (λt=>D.str t.n) (λt=>decide (t.k=k)) T (ρ1:=ρ) rfl hl λt _=>⟨[.im (thD t),.im (.str k.s)],[.im (thD t),.im (.str k.s)],rfl,pG (oo (pD rfl (yS t)) rfl (CI t.k k)),λ_=>⟨_,pD rfl (uY t),rfl⟩,λ_=>rfl⟩)
def shD(T:List Th)(y:Str):List L4.D:=(q9 [.str y,.lst (wyT T)]).getD []
theorem WS(T:List Th)(y:Str):q9 [.str y,.lst (wyT T)]=some (shD T y):=by kernel_rfl
def vwD:L4.D:=(qI [.lst pN]).getD .non
def rbD(T:List Th)(y:Str):L4.D:=(vp [.lst (shD T y)]).getD .non
def wNs:aC:=["kept_things", "kept_marks", "kept_dark", "kept_ways", "kept_verbs", "shared_verbs", "your_name", "things_by_name", "mosts_by_name", "verbs_by_word", "kept_rules", "shared_rules", "copied_rules", "rules_by_verb"]
def wDs(T:List Th)(M:List Mk)(dk:aC)(y:Str)(mo:L4.D):List L4.D:=[TD T,MD M,.lst (dk.map D.str),.lst (wyT T),.lst [],.lst pN,.str y,.dic (nK T) (T.map thD),mo,vwD,.lst [],.lst (shD T y),.lst [],rbD T y]
abbrev wR(T:List Th)(M:List Mk)(dk:aC)(ns:aC)(ds:List L4.D)(q:Sl):aW:=[.ob 14 ns ds,.im (TD T),.im (MD M),.im (.lst (dk.map D.str)),.im (.lst (wyT T)),.im (.lst []),.im (.lst []),q]
abbrev wL(T:List Th)(M:List Mk)(dk:aC)(ns:aC)(ds:List L4.D)(q:Sl):aW:=[.im (.obj 14 ns ds),.im (TD T),.im (MD M),.im (.lst (dk.map D.str)),.im (.lst (wyT T)),.im (.lst []),.im (.lst []),yH q]
variable{nm:Str}{ns:aC}
section
variable{T:List Th}{M:List Mk}{dk:aC}
theorem WT{q:Sl}(h1:e (wR T M dk ns ds q)=some (d,wR T M dk ns ds q))(h2:ns.contains nm=false)(h3:ds.length=ns.length)(h4:ns.length<900):pA 14 0 nm e (wR T M dk ns ds q)=some (.nx (wR T M dk (ns++[nm]) (ds++[d]) q)):=by unfold pA;rw[h1];show (if 14=14 then if ns.contains nm=true then none else if ds.length=ns.length then if ns.length<900 then some (Out.nx (wR T M dk (ns++[nm]) (ds++[d]) q))else none else none else none)=_;rw[ai rfl,h2,aj bq,ai h3,ai h4]
theorem Nk{q:Sl}{r:aW}(h1:e (wL T M dk ns ds q)=some (d,r))(h2:noC 16 14 d=true):uE 16 e (wR T M dk ns ds q)=some (d,wR T M dk ns ds q):=by
 unfold uE;show (match e (wL T M dk ns ds q)with
  |some (d,_)=>if (decide (14<16)&&noC 16 14 d)=true then some (d,wR T M dk ns ds q)else none
  |none=>none)=_
 rw[h1];simp only[h2];rfl
abbrev d6(T:List Th)(M:List Mk)(dk:aC):List L4.D:=[TD T,MD M,.lst (dk.map D.str),.lst (wyT T),.lst [],.lst pN]
abbrev n6:aC:=["kept_things", "kept_marks", "kept_dark", "kept_ways", "kept_verbs", "shared_verbs"]
theorem WU(y:Str)(hl:T.length<=1000)(hy:(T.filter λt=>decide (t.k=.you)).map Th.n=[y]):uE 16 (c2 dIx (pH qK "of_kind" ae (oa dS oJ)) bb) (wR T M dk n6 (d6 T M dk) .un)=some (.str y,wR T M dk n6 (d6 T M dk) .un):=by
 refine Nk (r:=wL T M dk n6 (d6 T M dk) .un) (oo (qA (xs:=d6 T M dk) (ys:=[.str Kd.you.s]) (hh:=tM) rfl rfl rfl rfl (CS T hl _ _ .you)) rfl ?_) rfl;have:((T.filter λt=>decide (t.k=.you)).map λt=>D.str t.n)=[.str y]:=by rw[show (λt:Th=>D.str t.n)=D.str∘Th.n from rfl,<- aU,hy];rfl
 rw[this];rfl
end
variable{mo:L4.D}
section
variable{T:List Th}{M:List Mk}{dk:aC}
theorem WV:qI [.lst pN]=some vwD:=by kernel_rfl
theorem WW(y:Str):vp [.lst (shD T y)]=some (rbD T y):=by kernel_rfl
theorem Vc:noC 16 14 vwD=true:=by kernel_rfl
theorem Vd(y:Str):noC 16 14 (rbD T y)=true:=by kernel_rfl
theorem Ve(y:Str):noC 16 14 (.lst (shD T y))=true:=by kernel_rfl
theorem Vf(y:Str):(shD T y).length<=900:=bU (by kernel_rfl)
abbrev n7:aC:=["kept_things", "kept_marks", "kept_dark", "kept_ways", "kept_verbs", "shared_verbs", "your_name"]
abbrev d7(T:List Th)(M:List Mk)(dk:aC)(y:Str):List L4.D:=[TD T,MD M,.lst (dk.map D.str),.lst (wyT T),.lst [],.lst pN,.str y]
theorem WX(ns:aC)(ds:List L4.D):sf [.obj 14 (n6++ns) (d6 T M dk++ds)]=some (.lst pN):=by kernel_rfl
theorem Qg(ns:aC)(ds:List L4.D)(q:Sl)(hc:(n6++ns).contains "all_verbs" = false):uE 16 (om qI (oa (pH rL "all_verbs" ae oJ) oJ)) (wR T M dk (n6++ns) (d6 T M dk++ds) q)=some (vwD,wR T M dk (n6++ns) (d6 T M dk++ds) q):=
 Nk (r:=wL T M dk (n6++ns) (d6 T M dk++ds) q) (oi (og (qA (xs:=d6 T M dk++ds) (ys:=[]) (hh:=sf) rfl rfl hc rfl (WX ns ds)) rfl) WV) Vc
abbrev kW:=(oa aw oJ)
theorem Nl(y:Str)(ns:aC)(ds:List L4.D)(q:Sl):uE 16 (cL (pb q9 (oa (c1 (oX sR "your_name") ae) kW))) (wR T M dk (n7++ns) (d7 T M dk y++ds) q)=some (.lst (shD T y),wR T M dk (n7++ns) (d7 T M dk y++ds) q):=
 Nk (r:=wL T M dk (n7++ns) (d7 T M dk y++ds) q) (pB (oi (ds:=[.str y,.lst (wyT T)]) rfl (WS T y))) (Ve (T:=T) y)
abbrev n13:aC:=["kept_things", "kept_marks", "kept_dark", "kept_ways", "kept_verbs", "shared_verbs", "your_name", "things_by_name", "mosts_by_name", "verbs_by_word", "kept_rules", "shared_rules", "copied_rules"]
theorem Xq(y:Str)(a b c d:L4.D)(q:Sl):uE 16 (om vp (oa (cL (qO (c1 (oX sN "copied_rules") ae) (c1 (oX sO "shared_rules") ae))) oJ)) (wR T M dk n13 [TD T,MD M,.lst (dk.map D.str),.lst (wyT T),.lst [],.lst pN,.str y,a,b,c,d,.lst (shD T y),.lst []] q)=some (rbD T y,wR T M dk n13 [TD T,MD M,.lst (dk.map D.str),.lst (wyT T),.lst [],.lst pN,.str y,a,b,c,d,.lst (shD T y),.lst []] q):=
 Nk (r:=wL T M dk n13 [TD T,MD M,.lst (dk.map D.str),.lst (wyT T),.lst [],.lst pN,.str y,a,b,c,d,.lst (shD T y),.lst []] q) (oi (og (pB (sI (xs:=[]) (ys:=shD T y) rfl rfl (by have:=Vf (T:=T) y;simp;omega))) rfl) (WW (T:=T) y)) (Vd (T:=T) y)
theorem Fi{q:Sl}{g:FS}{r:Option Out}(h1:e (wR T M dk ns ds q)=some (d,wR T M dk ns ds q))(h2:ns.contains nm=false)(h3:ds.length=ns.length)(h4:ns.length<900)(h:g (wR T M dk (ns++[nm]) (ds++[d]) q)=r):oj (pA 14 0 nm e) g (wR T M dk ns ds q)=r:=(oe (WT h1 h2 h3 h4)).trans h
theorem Nn(g:Good T M dk)(y:Str)(hy:(T.filter λt=>decide (t.k=.you)).map Th.n=[y])(emo:qH [TD T,MD M]=some mo):sk [TD T,MD M,.lst (dk.map D.str),.lst (wyT T),.lst [],.lst []]=some (wNs,wDs T M dk y mo):=by
 have hl:=g.len;have e:sj (wR T M dk [] [] .un)=some (.nx (wR T M dk wNs (wDs T M dk y mo) (.im (.bl true)))):=by
  unfold sj;refine(oe (pP (ρ':=wR T M dk [] [] .un) (oi (og rfl (og rfl (og rfl (og rfl (og rfl (og (pB (oi (g:=qr) (ds:=[]) rfl GH)) rfl)))))) (CQ g)))).trans ?_
  iterate 5 refine Fi rfl rfl rfl (by decide) ?_
  refine Fi (pB (oi (g:=qr) (ds:=[]) rfl GH)) rfl rfl (by decide) (Fi (WU y (by omega) hy) rfl rfl (by decide) (Fi (oi (ds:=[TD T]) rfl (Ie T (by omega) g.ndT)) rfl rfl (by decide) (Fi (oi (ds:=[TD T,MD M]) rfl emo) rfl rfl (by decide)
   (Fi (Qg ["your_name", "things_by_name", "mosts_by_name"] [.str y,.dic (nK T) (T.map thD),mo] .un rfl) rfl rfl (by decide) ?_))))
  refine(oe ((oM (i:=7) (Nk (d:=.bl true) (T:=T) (M:=M) (dk:=dk) rfl rfl)).trans rfl)).trans ((oe (qt (ρ1:=_) rfl)).trans ?_);refine Fi rfl rfl rfl (by decide) (Fi (Nl y ["things_by_name", "mosts_by_name", "verbs_by_word", "kept_rules"] [.dic (nK T) (T.map thD),mo,vwD,.lst []] (.im (.bl true))) rfl rfl (by decide) (Fi rfl rfl rfl (by decide) ?_));exact WT (Xq y _ _ _ _ (.im (.bl true))) rfl rfl (by decide)
 unfold sk fnI;rw[ai (show [TD T,MD M,D.lst (dk.map D.str),D.lst (wyT T),D.lst [],D.lst []].length=6 from rfl)];rw[show sj (stI 14 8 [TD T,MD M,.lst (dk.map D.str),.lst (wyT T),.lst [],.lst []])=some (.nx (wR T M dk wNs (wDs T M dk y mo) (.im (.bl true)))) from e];rfl
end
def IL(ds:List L4.D):Prop:=∃xs:List Int,ds=xs.map D.int
theorem IL.nil:IL []:=⟨[],rfl⟩
theorem IL.snoc{ds:List L4.D}(h:IL ds)(i:Int):IL (ds++[.int i]):=by obtain⟨xs,rfl⟩:=h;exact⟨xs++[i],by rw[aX];rfl⟩
variable{es:List L4.D}
theorem IL.sub(h:IL ds)(hs:∀d∈es,d∈ds):IL es:=by
 induction es with
 |nil=>exact IL.nil
 |cons d es ih=>obtain⟨ys,rfl⟩:=ih λd hd=>hs d (bh _ hd);obtain⟨xs,rfl⟩:=h;obtain⟨i,_,rfl⟩:=aL.mp (hs d aV);exact⟨i::ys,rfl⟩
theorem Qh{lo hi:Option Int}:∀d∈cutD ds lo hi,d∈ds:=λd hd=>by unfold cutD at hd;exact jr (lV hd)
def Js:FS:=(oj (o9 (sE 2 (c2 qW av (c2 Ax dY cH))))
 (oV 3 (c2 ye av (c2 Ax dY cH))))
def Np:FT:=yf (sW (cT (c2 Dl av bb)) (cT (c2 yC (c1 p5 ar) ag)))
theorem Bd(c:Int)(m:Nat)(hm:m<=110):∀(n:Nat) (ds:List L4.D) (r:Int),IL ds->ds.length<=m->m - ds.length<n->∃ds' r',IL ds'/\ds'.length<=m/\
  whL Np Js n [.im (.int c),.im (.int m),.ls ds,.im (.int r),.un,.un,.un]=some (.nx [.im (.int c),.im (.int m),.ls ds',.im (.int r'),.un,.un,.un])
 |0,ds,r,_,_,h=>aq h (mW _)
 |n+1,ds,r,hi,hl,hn=>by
  have ht:Np [.im (.int c),.im (.int m),.ls ds,.im (.int r),.un,.un,.un]=some (decide (0<r)&&decide (ds.length<m),[.im (.int c),.im (.int m),.ls ds,.im (.int r),.un,.un,.un]):=by
   refine EO (ρ1:=[.im (.int c),.im (.int m),.im (.lst ds),.im (.int r),.un,.un,.un]) ?_;show sW _ _ [.im (.int c),.im (.int m),.im (.lst ds),.im (.int r),.un,.un,.un]=_;unfold sW;rw[show cT (c2 Dl av bb) [.im (.int c),.im (.int m),.im (.lst ds),.im (.int r),.un,.un,.un]=some (decide (0<r),[.im (.int c),.im (.int m),.im (.lst ds),.im (.int r),.un,.un,.un]) from rfl];cases decide (0<r)with
   |false=>rfl
   |true=>show cT (c2 yC (c1 p5 ar) ag) _=some (decide (ds.length<m),_);rw[show cT (c2 yC (c1 p5 ar) ag) [.im (.int c),.im (.int m),.im (.lst ds),.im (.int r),.un,.un,.un]=some (decide ((ds.length:Int)<m),[.im (.int c),.im (.int m),.im (.lst ds),.im (.int r),.un,.un,.un]) from rfl];simp only[Int.ofNat_lt]
  unfold whL;rw[ht];cases hq:(decide (0<r)&&decide (ds.length<m))with
  |false=>exact⟨ds,r,hi,hl,rfl⟩
  |true=>
   rw[bf,bB,bB]at hq;have e1:Js [.im (.int c),.im (.int m),.ls ds,.im (.int r),.un,.un,.un]=some (.nx [.im (.int c),.im (.int m),.ls (ds++[.int (r % 1000000)]),.im (.int (r / 1000000)),.un,.un,.un]):=by unfold Js;refine(oe (ρ':=[.im (.int c),.im (.int m),.ls (ds++[.int (r % 1000000)]),.im (.int r),.un,.un,.un]) ((pP (vP (es0:=ds) (es:=ds) (ρ1:=[.im (.int c),.im (.int m),.ls ds,.im (.int r),.un,.un,.un]) rfl (oo rfl rfl (tP (by decide))) rfl (by omega))).trans rfl)).trans ?_;exact(oM (oo rfl rfl (div_pos (by decide) (by decide)))).trans rfl
   simp only[e1];exact Bd c m hm n _ _ (hi.snoc _) (by rw[aD,aZ];omega) (by rw[aD,aZ];omega)
def fBody:FS:=(oj (oV 4 (c2 qW (c2 sY (c2 pI (c2 pI aw (c2 sY (cC (.int 7919)) aJ)) aG) ja) dU))
 (oj (oV 6 (c2 qW (c2 sY aw (c2 pI (c2 ye aw (cC (.int 1009))) (cC (.int 69621)))) dU))
 (o9 (sE 2 (c2 qW (c2 sY aY (c2 pI (c2 ye aY (cC (.int 2003))) (cC (.int 40692)))) (cC (.int 2147483399)))))))
theorem modS(a:Int):0<=a % 2147483647/\a % 2147483647<2147483647:=⟨jK _ (by decide),jC _ (by decide)⟩
theorem Ej(a b r:Sl):∀(l:List Int) (ds:List L4.D) (x:Int) (s5 s6:Sl),IL ds->ds.length+l.length<=900->∃ds' x' t5 t6,IL ds'/\
  forL (gN 5) fBody (l.map D.int) [a,b,.ls ds,r,.im (.int x),s5,s6]=some (.nx [a,b,.ls ds',r,.im (.int x'),t5,t6])
 |[],ds,x,s5,s6,hi,_=>⟨ds,x,s5,s6,hi,rfl⟩
 |k::l,ds,x,s5,s6,hi,hl=>by
  rw[aK]at hl;let y:=(x+7919 * k+1) * 48271 % 2147483647;let z:=y * (y / 1009+69621) % 2147483647;let v:=z * (z / 2003+40692) % 2147483399;have hy:=modS ((x+7919 * k+1) * 48271);have hz:=modS (y * (y / 1009+69621));have e1:fBody [a,b,.ls ds,r,.im (.int x),.im (.int k),s6]=some (.nx [a,b,.ls (ds++[.int v]),r,.im (.int y),.im (.int k),.im (.int z)]):=by unfold fBody;refine(oe (ρ':=[a,b,.ls ds,r,.im (.int y),.im (.int k),s6]) ((oM (oo (oo (oo (oo rfl (oo rfl rfl (ua (.inl (by decide)))) rfl) rfl rfl) rfl (ua (.inr (by decide)))) rfl (tP (by decide)))).trans rfl)).trans ?_;refine(oe (ρ':=[a,b,.ls ds,r,.im (.int y),.im (.int k),.im (.int z)]) ((oM (oo (oo rfl (oo (oo rfl rfl (div_pos (by decide) (by decide))) rfl rfl) (ua (.inl (F0 hy.1 hy.2)))) rfl (tP (by decide)))).trans rfl)).trans ?_;exact(pP (vP (es0:=ds) (es:=ds) (ρ1:=[a,b,.ls ds,r,.im (.int y),.im (.int k),.im (.int z)]) rfl (oo (oo rfl (oo (oo rfl rfl (div_pos (by decide) (by decide))) rfl rfl) (ua (.inl (F0 hz.1 hz.2)))) rfl (tP (by decide))) rfl (by omega))).trans rfl
  obtain⟨ds',x',t5,t6,h1,h2⟩:=Ej a b r l (ds++[.int v]) y (.im (.int k)) (.im (.int z)) (hi.snoc _) (by rw[aD,aZ];omega);refine⟨ds',x',t5,t6,h1,?_⟩;rw[ay];unfold forL;rw[show gN 5 (.int k) [a,b,.ls ds,r,.im (.int x),s5,s6]=some [a,b,.ls ds,r,.im (.int x),.im (.int k),s6] from rfl];simp only[e1];exact h2
theorem GI(c:Int)(m:Nat)(hm:m<=110):∃ds,IL ds/\sv [.int c,.int m]=some ds:=by
 have fin:∀r0:Int,∃ds,IL ds/\∃ρ,oj (whL Np Js 200) (oj (oV 4 (c2 qW (c2 sY (c2 pI (c2 qW ae dU) aG) ja) dU)) (oj (r6 (iR1 ag) (gN 5) fBody) (qk (tQ (cFz 2) oNo (oAt ag))))) [.im (.int c),.im (.int m),.ls [],.im (.int r0),.un,.un,.un]=some (.rn ds ρ):=λr0=>by obtain⟨ds,r,h1,h2,h3⟩:=Bd c m hm 200 [] r0 IL.nil (cf _) (by simp;omega);let x:=(c % 2147483647+1) * 48271 % 2147483647;obtain⟨ds',x',t5,t6,h4,h5⟩:=Ej (.im (.int c)) (.im (.int m)) (.im (.int r)) ((bC m).map λ(i:Nat)=>(0:Int)+(i:Int)) ds x .un .un h1 (by rw[ah,f6];omega);refine⟨cutD ds' none (some m),h4.sub Qh,[.im (.int c),.im (.int m),.im (.lst ds'),.im (.int r),.im (.int x'),t5,t6],?_⟩;refine(oe h3).trans ?_;refine(oe (ρ':=[.im (.int c),.im (.int m),.ls ds,.im (.int r),.im (.int x),.un,.un]) ((oM (oo (oo (oo (oo rfl rfl (tP (by decide))) rfl rfl) rfl (ua (.inr (by decide)))) rfl (tP (by decide)))).trans rfl)).trans ?_;refine(oe ((qa (ds:=((bC m).map λ(i:Nat)=>(0:Int)+(i:Int)).map D.int) (ρ1:=[.im (.int c),.im (.int m),.ls ds,.im (.int r),.im (.int x),.un,.un]) ?_).trans h5)).trans rfl;unfold iR1;show (if -1000000<=(m:Int)/\(m:Int)<=1000000 then some (BY 0 (m:Int).toNat,_)else none)=_;rw[ai (by omega),ic];unfold BY;rw[aU];rfl
 by_cases hc:(1000000000000000000:Int)<=c
 ·obtain⟨ds,h1,ρ,h2⟩:=fin (c - 1000000000000000000);refine⟨ds,h1,vR (ρ:=ρ) rfl ?_⟩;refine(oe (ρ':=[.im (.int c),.im (.int m),.ls [],.un,.un,.un,.un]) rfl).trans ((oe (ρ':=[.im (.int c),.im (.int m),.ls [],.im (.int 0),.un,.un,.un]) rfl).trans ((oe (ρ':=[.im (.int c),.im (.int m),.ls [],.im (.int (c - 1000000000000000000)),.un,.un,.un]) ((o5 (ρ':=[.im (.int c),.im (.int m),.ls [],.im (.int 0),.un,.un,.un]) ?_).trans rfl)).trans h2));refine pG (oo (y:=.int 1000000000000000000) rfl rfl ?_);show some (D.bl (decide _))=_;rw[bg hc]
 ·obtain⟨ds,h1,ρ,h2⟩:=fin 0;refine⟨ds,h1,vR (ρ:=ρ) rfl ?_⟩;refine(oe (ρ':=[.im (.int c),.im (.int m),.ls [],.un,.un,.un,.un]) rfl).trans ((oe (ρ':=[.im (.int c),.im (.int m),.ls [],.im (.int 0),.un,.un,.un]) rfl).trans ((oe (ρ':=[.im (.int c),.im (.int m),.ls [],.im (.int 0),.un,.un,.un]) ((ox (ρ':=[.im (.int c),.im (.int m),.ls [],.im (.int 0),.un,.un,.un]) ?_).trans rfl)).trans h2));refine pG (oo (y:=.int 1000000000000000000) rfl rfl ?_);show some (D.bl (decide _))=_;rw[aQ hc]
theorem Ek:∀xs:List Int,zY (xs.map D.int)=some (xs.map L3.Dq.int)
 |[]=>rfl
 |x::xs=>by rw[ay];unfold zY;rw[Ek xs];rfl
theorem GK(x:Int)(xs:List Int):dEq false (.lst ((x::xs).map D.int)) (.lst [])=some (.bl false):=by
 have e0:za false (.lst ((x::xs).map D.int)) (.lst [])=none:=rfl;have e1:toD (.lst ((x::xs).map D.int))=some (.lst ((x::xs).map L3.Dq.int)):=by unfold toD;rw[Ek]
 have e2:∀ys:List Int,qu (ys.map L3.Dq.int)=0:=λys=>by
  induction ys with
  |nil=>rfl
  |cons y ys ih=>rw[ay];unfold qu;rw[ih];unfold dpt;rfl
 have e3:dpt (.lst ((x::xs).map L3.Dq.int))=1:=by rw[dpt,e2]
 unfold dEq;rw[e0];show zb false _ _=_;unfold zb;rw[e1,show toD (.lst [])=some (.lst []) from rfl];show (if DJ (.lst ((x::xs).map L3.Dq.int)) (.lst [])&&decide (dpt (.lst ((x::xs).map L3.Dq.int))<=20)&&decide (dpt (.lst [])<=20)then some (D.bl (eqD (.lst ((x::xs).map L3.Dq.int)) (.lst [])))else none)=_;rw[e3];rfl
theorem qh(h:IL es)(n:Int)(hn:0<n):∃r es',IL es'/\0<=r/\r<n/\oh es [.int n]=some (.int r,es'):=by
 obtain⟨xs,rfl⟩:=h;cases xs with
 |nil=>exact⟨0,[],IL.nil,Int.le_refl _,hn,rfl⟩
 |cons x xs=>refine⟨x % n,xs.map D.int,⟨xs,rfl⟩,jK _ (by omega),jC _ hn,?_⟩;refine SL (ρ:=[.pm (xs.map D.int),.im (.int n)]) rfl ?_ rfl;refine(oe (ρ':=[.pm ((x::xs).map D.int),.im (.int n)]) ((ox (ρ':=[.pm ((x::xs).map D.int),.im (.int n)]) (EO (ρ1:=[.im (.lst ((x::xs).map D.int)),.im (.int n)]) (pG (oo (x:=.lst ((x::xs).map D.int)) (y:=.lst []) rfl rfl (GK x xs))))).trans rfl)).trans ?_;exact oO (oo (x:=.int x) (ρ1:=[.pm (xs.map D.int),.im (.int n)]) rfl rfl (tP hn))
def lets:Str:="bcdefghijklmnopqrstuvwxyz"
theorem Vg(i:Nat)(h:i<25):dIx (.str lets) (.int i)=some (.str ⟨#[98+i]⟩):=by
 have q:((bC 25).all λi=>match dIx (.str lets) (.int i)with|some (.str x)=>decide (x=⟨#[98+i]⟩)|_=>false)=true:=by kernel_rfl
 have:=bD.mp q i (cv.mpr h);revert this;split
 ·rename_i x e;intro z;rw[e,bj z]
 ·intro z;cases z
abbrev eR:=(oa (cC (.int 8)) oJ)
def WY:FE:=(c2 F2 (c2 dIx ag (c2 qW (c2 pI av (c2 sY c6 ae)) jc)) (c2 pI aG (pf oh 2 eR)))
theorem Qi(h:IL es)(s k:Nat):∃c es',c<8/\IL es'/\WY [.im (.int k),.im (.str lets),.pm es,.im (.int s)]=some (.str (nmS ((s+7 * k) % 25) c),[.im (.int k),.im (.str lets),.pm es',.im (.int s)]):=by
 obtain⟨r,es',h1,h2,h3,h4⟩:=qh h 8 (by decide);obtain⟨c,rfl⟩:=cq h2;refine⟨c,es',by omega,h1,?_⟩;have hm:(s+7 * k) % 25<25:=Nat.mod_lt _ (by decide);let ρ:aW:=[.im (.int k),.im (.str lets),.pm es,.im (.int s)];let ρ':aW:=[.im (.int k),.im (.str lets),.pm es',.im (.int s)];have e1:c2 dIx ag (c2 qW (c2 pI av (c2 sY c6 ae)) jc) ρ=some (.str ⟨#[98+(s+7 * k) % 25]⟩,ρ):=by
  refine oo (y:=.int (((s+7 * k) % 25:Nat):Int)) rfl (oo (oo rfl (oo rfl rfl (ua (.inl (by decide)))) rfl) rfl ((tP (by decide)).trans ?_)) (Vg _ hm);have:((s:Int)+7 * k) % 25=(((s+7 * k) % 25:Nat):Int):=by omega
  rw[this]
 have e2:c2 pI aG (pf oh 2 eR) ρ=some (.int (1+(c:Int)),ρ'):=oo rfl ((qX (es0:=es) (es:=es) (ρ1:=ρ) rfl rfl rfl h4).trans rfl) rfl;refine oo e1 e2 ?_;show (if 0<=1+(c:Int)/\1+(c:Int)<=1000/\Str.length ⟨#[98+(s+7 * k) % 25]⟩<=100 then some (D.str (gu ⟨#[98+(s+7 * k) % 25]⟩ (1+(c:Int))))else none)=_;rw[ai ⟨by omega,by omega,by show 1<=100;decide⟩];rfl
theorem GL(s:Nat):∀(l:List Nat) (es:List L4.D),IL es->∃cs es',cs.length=l.length/\(∀c∈cs,c<8)/\IL es'/\
  sF 1 [2,0,1] (gN 0) pR WY (l.map λ(k:Nat)=>D.int k) [.pm es,.im (.int s),.im (.str lets)]=some (cY (λ(k c:Nat)=>D.str (nmS ((s+7 * k) % 25) c)) l cs,[.pm es',.im (.int s),.im (.str lets)])
 |[],es,h=>⟨[],es,rfl,λc hc=>(bN hc).elim,h,rfl⟩
 |k::l,es,h=>by
  obtain⟨c,es1,h1,h2,h3⟩:=Qi h s k;obtain⟨cs,es',h4,h5,h6,h7⟩:=GL s l es1 h2;refine⟨c::cs,es',by rw[aK,aK,h4],λx hx=>?_,h6,?_⟩
  ·rcases aN.mp hx with rfl|hx
   ·exact h1
   ·exact h5 x hx
  ·rw[ay];unfold sF;rw[show gN 0 (.int k) (xZ 1 [2,0,1] [.pm es,.im (.int s),.im (.str lets)])=some [.im (.int k),.im (.str lets),.pm es,.im (.int s)] from rfl];simp only[pR,h3];rw[show rE [2,0,1] (([.im (.int k),.im (.str lets),.pm es1,.im (.int s)]:aW).drop 1) [.pm es,.im (.int s),.im (.str lets)]=some [.pm es1,.im (.int s),.im (.str lets)] from rfl];simp only[h7];rfl
theorem Nq(s:Nat)(hs:s<25):∀(l cs:List Nat),cs.length=l.length->(∀c∈cs,c<8)->(l.map λk=>(s+7 * k) % 25).Nodup->∃N:aC,N.length=l.length/\(∀x∈N,Nm x)/\N.Nodup/\(∀x∈N,∃k∈l,sg x=98+(s+7 * k) % 25)/\cY (λ(k c:Nat)=>D.str (nmS ((s+7 * k) % 25) c)) l cs=N.map D.str
 |[],[],_,_,_=>⟨[],rfl,λx h=>(bN h).elim,gd,λx h=>(bN h).elim,rfl⟩
 |[],c::cs,h,_,_=>by cases h
 |k::l,[],h,_,_=>by cases h
 |k::l,c::cs,h,hc,nd=>by
  rw[ay,bY]at nd;obtain⟨N,h1,h2,h3,h4,h5⟩:=Nq s hs l cs (by simpa using h) (λx hx=>hc x (bh _ hx)) nd.2;have hm:(s+7 * k) % 25<25:=Nat.mod_lt _ (by decide);have hsg:=WR hm (hc c aV);refine⟨nmS ((s+7 * k) % 25) c::N,by rw[aK,aK,h1],λx hx=>?_,?_,λx hx=>?_,?_⟩
  ·rcases aN.mp hx with rfl|hx
   ·exact⟨_,_,hm,hc c aV,rfl⟩
   ·exact h2 x hx
  ·rw[bY];refine⟨λz=>?_,h3⟩;obtain⟨j,hj,e⟩:=h4 _ z;rw[hsg]at e;exact nd.1 (aL.mpr ⟨j,hj,by omega⟩)
  ·rcases aN.mp hx with rfl|hx
   ·exact⟨k,aV,hsg⟩
   ·obtain⟨j,hj,e⟩:=h4 x hx;exact⟨j,bh _ hj,e⟩
  ·rw[eh,h5];rfl
structure Nms(N:aC):Prop where
 len:N.length=17
 nm:∀x∈N,Nm x
 nd:N.Nodup
theorem Nr(h:IL es):∃N es',Nms N/\IL es'/\we es []=some (.lst (N.map D.str),es'):=by
 obtain⟨r,es1,h1,h2,h3,h4⟩:=qh h 25 (by decide);obtain⟨s,rfl⟩:=cq h2;have hs:s<25:=by omega
 obtain⟨cs,es2,h5,h6,h7,h8⟩:=GL s (bC 17) es1 h1;have nd:((bC 17).map λk=>(s+7 * k) % 25).Nodup:=by
  have q:((bC 25).all λs=>decide ((bC 17).map λk=>(s+7 * k) % 25).Nodup)=true:=by decide +kernel
  exact bj (bD.mp q s (cv.mpr hs))
 obtain⟨N,n1,n2,n3,_,n5⟩:=Nq s hs (bC 17) cs h5 h6 nd;refine⟨N,es2,⟨by rw[n1,f6],n2,n3⟩,h7,SM (ρ:=[.pm es2,.im (.int s),.im (.str lets)]) rfl ?_ rfl⟩;unfold wc;refine(oe (ρ':=[.pm es1,.im (.int s),.un]) ((oM (qX (es0:=es) (es:=es) (ρ1:=[.pm es,.un,.un]) rfl rfl rfl h4)).trans rfl)).trans ?_;refine(oe (ρ':=[.pm es1,.im (.int s),.im (.str lets)]) rfl).trans ?_;refine vO ((vQ (ds:=(bC 17).map λ(k:Nat)=>D.int k) (ρ1:=[.pm es1,.im (.int s),.im (.str lets)]) ?_ (by simp)).trans (by rw[<-n5];exact h8));unfold iR1;show (if _ then some (BY 0 17,_)else none)=_;rw[ai (by decide)];unfold BY;simp only[Int.zero_add]
structure Rw where
 n:Str
 k:Kd
 s:Option Str
def oY(r:Rw):L4.D:=.tup [.str r.n,.str r.k.s,oS r.s]
def Fj(l:List Rw)(r:Rw):Prop:=(r.k=.room/\r.s=none)\/(r.k=.you/\∃u∈l,r.s=some u.n/\u.k=.room)\/(r.k.pl=true/\∃u∈l,r.s=some u.n/\u.k.hd=true)
inductive Ord:List Rw->Prop
 |nil:Ord []
 |snoc {l:List Rw} {r:Rw} (h:Ord l) (h':Fj l r):Ord (l++[r])
theorem Fj.mono{l l':List Rw}{r:Rw}(h:Fj l r)(hs:∀u∈l,u∈l'):Fj l' r:=by
 rcases h with h|⟨h1,u,h2,h3⟩|⟨h1,u,h2,h3⟩
 ·exact .inl h
 ·exact .inr (.inl ⟨h1,u,hs u h2,h3⟩)
 ·exact .inr (.inr ⟨h1,u,hs u h2,h3⟩)
theorem Ord.all{l:List Rw}(h:Ord l):∀r∈l,Fj l r:=by
 induction h with
 |nil=>exact λr hr=>(bN hr).elim
 |snoc h h' ih=>
  intro r hr;rcases bw.mp hr with hr|hr
  ·exact(ih r hr).mono λu hu=>bG _ hu
  ·rw[aR]at hr;subst hr;exact h'.mono λu hu=>bG _ hu
theorem Fj.start{l:List Rw}{r:Rw}(h:Fj l r){p:Str}(hp:r.s=some p):∃u∈l,u.n=p:=by
 rcases h with ⟨_,h⟩|⟨_,u,h2,h3,_⟩|⟨_,u,h2,h3,_⟩
 ·rw[h]at hp;cases hp
 ·rw[h3]at hp;cases hp;exact⟨u,h2,rfl⟩
 ·rw[h3]at hp;cases hp;exact⟨u,h2,rfl⟩
theorem Ord.rank{l:List Rw}(h:Ord l):(l.map Rw.n).Nodup->∃rk:Str->Nat,∀t∈l,rk t.n<l.length/\∀p,t.s=some p->rk p<rk t.n/\∃u∈l,u.n=p:=by
 induction h with
 |nil=>exact λ_=>⟨λ_=>0,λt ht=>(bN ht).elim⟩
 |@snoc l r h h' ih=>
  intro nd;rw[aX,bV]at nd;obtain⟨rk,hk⟩:=ih nd.1;have ne:∀u∈l,u.n≠r.n:=λu hu z=>nd.2.2 _ (cu hu) _ (by simp) z;refine⟨λx=>if x=r.n then l.length else rk x,λt ht=>?_⟩;rw[aD,aZ];dsimp only;rcases bw.mp ht with ht|ht
  ·obtain⟨h1,h2⟩:=hk t ht;rw[aj (ne t ht)];refine⟨by omega,λp hp=>?_⟩;obtain⟨h3,u,hu,rfl⟩:=h2 p hp;rw[aj (ne u hu)];exact⟨h3,u,bG _ hu,rfl⟩
  ·rw[aR]at ht;subst ht;rw[ai rfl];refine⟨by omega,λp hp=>?_⟩;obtain⟨u,hu,rfl⟩:=h'.start hp;rw[aj (ne u hu)];exact⟨(hk u hu).1,u,bG _ hu,rfl⟩
variable{j:Nat}
theorem rJ{l:aC}{x:Str}(h:l[j]?=some x):atI (l.map D.str) (j:Int)=some (.str x):=IG (by rw[bu,h];rfl)
def kT:List Kd:=[.plain,.box,.lamp,.fixed,.box,.lamp,.box,.plain]
theorem WZ(j:Nat)(h:j<8):∃k,k∈kT/\dIx (.lst [.str "plain", .str "box", .str "lamp", .str "fixed", .str "box", .str "lamp", .str "box", .str "plain"]) (.int j)=some (.str (Kd.s k)):=by
 match j,h with
 |0,_=>exact⟨.plain,by decide,rfl⟩
 |1,_=>exact⟨.box,by decide,rfl⟩
 |2,_=>exact⟨.lamp,by decide,rfl⟩
 |3,_=>exact⟨.fixed,by decide,rfl⟩
 |4,_=>exact⟨.box,by decide,rfl⟩
 |5,_=>exact⟨.lamp,by decide,rfl⟩
 |6,_=>exact⟨.box,by decide,rfl⟩
 |7,_=>exact⟨.plain,by decide,rfl⟩
abbrev dW:=(cC (.str "box"))
abbrev kA:=(cC (.str "plain"))
abbrev je:=(oa (zc (c1 p5 aw)) oJ)
abbrev kP:=(cC (.str "lamp"))
def Nt:FS:=(oj (oV 6 (c2 dIx (cL (oU (oa kA (oa dW (oa kP (oa (cC (.str "fixed")) (oa dW (oa kP (oa dW (oa kA oJ)))))))))) (pf oh 2 eR)))
 (oj (o9 (sE 3 (pE (oa aJ (oa aY (oa (zV 4 (pf oh 2 je)) oJ))))))
 (sIf (cT (c2 (dEq false) aY dW)) (o9 (sE 4 aJ)) oQ)))
variable{Hs:aC}
theorem Fk(h:IL es)(h0:Hs≠[])(hi:pX ρ i=some es)(hj:pX ρ j=some (Hs.map D.str))(hb:cV j (ρ.map Sl.bor)=some (.lst (Hs.map D.str),ρ.map Sl.bor))(hne:∀es',pX (putAt ρ i es') j=some (Hs.map D.str)):
  ∃x es',x∈Hs/\IL es'/\zV j (pf oh i (oa (zc (c1 p5 (cV j))) oJ)) ρ=some (.str x,putAt ρ i es'):=by
 have hp:0<Hs.length:=l3.mpr h0;obtain⟨r,es',h1,h2,h3,h4⟩:=qh h Hs.length (by omega);obtain⟨m,rfl⟩:=cq h2;have hm:m<Hs.length:=by omega
 refine⟨Hs[m],es',dA hm,h1,?_⟩;have e1:zc (c1 p5 (cV j)) ρ=some (.int Hs.length,ρ):=Mm (pD hb (by show some (D.int _)=_;rw[ah])) rfl;have e2:pf oh i (oa (zc (c1 p5 (cV j))) oJ) ρ=some (.int m,putAt ρ i es'):=qX hi (og e1 rfl) hi h4;unfold zV;rw[hj];simp only[e2,hne es'];rw[show atI (Hs.map D.str) (m:Int)=some (.str Hs[m]) from rJ (aP hm)]
theorem Be(a b:Sl)(B:List Rw):∀(l:aC) (es:List L4.D) (O:List Rw) (Hs:aC) (s5 s6:Sl),IL es->Hs≠[]->(∀x∈Hs,∃u∈B++O,u.n=x/\u.k.hd=true)->Ord (B++O)->O.length+l.length<=900->Hs.length+l.length<=900->
  ∃(es':List L4.D) (O':List Rw) (Hs':aC) (t5 t6:Sl),IL es'/\Ord (B++(O++O'))/\O'.map Rw.n=l/\(∀r∈O',r.k.pl=true)/\
   forL (gN 5) Nt (l.map D.str) [a,b,.pm es,.ls (O.map oY),.ls (Hs.map D.str),s5,s6]=some (.nx [a,b,.pm es',.ls ((O++O').map oY),.ls (Hs'.map D.str),t5,t6])
 |[],es,O,Hs,s5,s6,hi,_,_,ho,_,_=>⟨es,[],Hs,s5,s6,hi,by rw[br];exact ho,rfl,λr hr=>(bN hr).elim,by rw[br];rfl⟩
 |x::l,es,O,Hs,s5,s6,hi,h0,hH,ho,hl,hl'=>by
  rw[aK]at hl hl';obtain⟨r,es1,h1,h2,h3,h4⟩:=qh hi 8 (by decide);obtain⟨j,rfl⟩:=cq h2;obtain⟨k,hk,ek⟩:=WZ j (by omega);let ρ1:aW:=[a,b,.pm es1,.ls (O.map oY),.ls (Hs.map D.str),.im (.str x),.im (.str k.s)];obtain⟨p,es2,hp,h5,e2⟩:=Fk (ρ:=ρ1) (i:=2) (j:=4) h1 h0 rfl rfl rfl (λ_=>rfl);have hpl:k.pl=true:=by
   have:∀k∈kT,Kd.pl k=true:=by decide
   exact this k hk
  let rw0:Rw:=⟨x,k,some p⟩;obtain⟨u,hu,hun,huk⟩:=hH p hp;have ok:Fj (B++O) rw0:=.inr (.inr ⟨hpl,u,hu,by rw[hun],huk⟩);let Hs1:aC:=if k=.box then Hs++[x]else Hs
  have e3:Nt [a,b,.pm es,.ls (O.map oY),.ls (Hs.map D.str),.im (.str x),s6]=some (.nx [a,b,.pm es2,.ls ((O++[rw0]).map oY),.ls (Hs1.map D.str),.im (.str x),.im (.str k.s)]):=by
   unfold Nt;refine(oe (ρ':=ρ1) ((oM (oo (x:=.lst [.str "plain", .str "box", .str "lamp", .str "fixed", .str "box", .str "lamp", .str "box", .str "plain"]) (ρ1:=[a,b,.pm es,.ls (O.map oY),.ls (Hs.map D.str),.im (.str x),s6]) rfl (qX (es0:=es) (es:=es) (ρ1:=[a,b,.pm es,.ls (O.map oY),.ls (Hs.map D.str),.im (.str x),s6]) rfl rfl rfl h4) ek)).trans rfl)).trans ?_;let ρ2:aW:=[a,b,.pm es2,.ls (O.map oY),.ls (Hs.map D.str),.im (.str x),.im (.str k.s)];let ρ3:aW:=[a,b,.pm es2,.ls ((O++[rw0]).map oY),.ls (Hs.map D.str),.im (.str x),.im (.str k.s)];refine(oe (ρ':=ρ3) ((pP (vP (es0:=O.map oY) (es:=O.map oY) (ρ1:=ρ2) (d:=oY rw0) rfl (r9 (og rfl (og rfl (og e2 rfl))) (by show 3<=1000;decide)) rfl (by rw[ah];omega))).trans ?_)).trans ?_
   ·show some (Out.nx [a,b,.pm es2,.ls (O.map oY++[oY rw0]),.ls (Hs.map D.str),.im (.str x),.im (.str k.s)])=_;rw[show O.map oY++[oY rw0]=(O++[rw0]).map oY by rw[aX];rfl]
   ·have et:cT (c2 (dEq false) aY dW) ρ3=some (decide (k=.box),ρ3):=pG (oo rfl rfl (CI k .box));by_cases hb:k=.box
    ·rw[bg hb]at et;refine(o5 et).trans ((pP (vP (es0:=Hs.map D.str) (es:=Hs.map D.str) (ρ1:=ρ3) (d:=.str x) rfl rfl rfl (by rw[ah];omega))).trans ?_);show some (Out.nx [a,b,.pm es2,.ls ((O++[rw0]).map oY),.ls (Hs.map D.str++[.str x]),.im (.str x),.im (.str k.s)])=_;rw[show Hs1.map D.str=Hs.map D.str++[.str x] by rw[show Hs1=Hs++[x] from ai hb,aX];rfl]
    ·rw[aQ hb]at et;refine(ox et).trans ?_;rw[show Hs1=Hs from aj hb];rfl
  have ho1:Ord (B++(O++[rw0])):=by rw[<-bA];exact ho.snoc ok
  have hH1:∀y∈Hs1,∃u∈B++(O++[rw0]),u.n=y/\u.k.hd=true:=λy hy=>by
   have old:y∈Hs->∃u∈B++(O++[rw0]),u.n=y/\u.k.hd=true:=λhy=>by obtain⟨v,hv,h⟩:=hH y hy;exact⟨v,by rw[<-bA];exact bG _ hv,h⟩
   by_cases hb:k=.box
   ·rw[show Hs1=Hs++[x] from ai hb]at hy;rcases bw.mp hy with hy|hy
    ·exact old hy
    ·rw[aR]at hy;refine⟨rw0,by simp,hy.symm,?_⟩;show k.hd=true;rw[hb];rfl
   ·rw[show Hs1=Hs from aj hb]at hy;exact old hy
  have h01:Hs1≠[]:=by
   by_cases hb:k=.box
   ·rw[show Hs1=Hs++[x] from ai hb];simp
   ·rw[show Hs1=Hs from aj hb];exact h0
  have hl1:Hs1.length<=Hs.length+1:=by
   by_cases hb:k=.box
   ·rw[show Hs1=Hs++[x] from ai hb];simp
   ·rw[show Hs1=Hs from aj hb];omega
  obtain⟨es',O',Hs',t5,t6,g1,g2,g3,g4,g5⟩:=Be a b B l es2 (O++[rw0]) Hs1 (.im (.str x)) (.im (.str k.s)) h5 h01 hH1 ho1 (by rw[aD,aZ];omega) (by omega);refine⟨es',rw0::O',Hs',t5,t6,g1,by rw[bA]at g2;exact g2,by rw[ay,g3],λr hr=>?_,?_⟩
  ·rcases aN.mp hr with rfl|hr
   ·exact hpl
   ·exact g4 r hr
  ·rw[ay];unfold forL;rw[show gN 5 (.str x) [a,b,.pm es,.ls (O.map oY),.ls (Hs.map D.str),s5,s6]=some [a,b,.pm es,.ls (O.map oY),.ls (Hs.map D.str),.im (.str x),s6] from rfl];simp only[e3];rw[g5,bA];rfl
theorem Nu(k:Nat)(h:k<=ds.length):cutD ds none (some (k:Int))=ds.take k:=by unfold cutD;rw[HT.BE,HT.yW,dG h,m7,Nat.sub_zero]
theorem Vh(k:Nat)(h:k<=ds.length):cutD ds (some (k:Int)) none=ds.drop k:=by unfold cutD;rw[HT.BE,HT.yW,dG h,lG (by rw[bX];omega)]
theorem Jt(k m:Nat)(h:k+m<=ds.length):cutD ds (some (k:Int)) (some ((k+m:Nat):Int))=(ds.drop k).take m:=by unfold cutD;rw[HT.yW,HT.yW,dG h,dG (show k<=ds.length by omega)];congr 1;omega
variable{N:aC}
theorem KR{rooms:aC}(hN:Nms N)(B:List Rw)(h:IL es)(hB:Ord B)(hr:rooms.length<=100)(hH:∀x∈rooms++[N[5]'(by rw[hN.len];decide)],∃u∈B,u.n=x/\u.k.hd=true):
  ∃(q:Nat) (es':List L4.D) (O:List Rw),q<8/\IL es'/\Ord (B++O)/\O.map Rw.n=(N.drop 6).take q/\(∀r∈O,r.k.pl=true)/\qL es [.lst (N.map D.str),.lst (rooms.map D.str)]=some (.lst (O.map oY),es'):=by
 have h5:5<N.length:=by rw[hN.len];decide
 obtain⟨r,es1,h1,h2,h3,h4⟩:=qh h 8 (by decide);obtain⟨q,rfl⟩:=cq h2;let Hs:=rooms++[N[5]];obtain⟨es',O,Hs',t5,t6,g1,g2,g3,g4,g5⟩:=Be (.im (.lst (N.map D.str))) (.im (.lst (rooms.map D.str))) B ((N.drop 6).take q) es1 [] Hs .un .un h1 (by simp[Hs]) (λx hx=>by rw[br];exact hH x hx) (by rw[br];exact hB) (by rw[bo,bX,hN.len];simp;omega) (by rw[bo,bX,hN.len];simp[Hs];omega);rw[bH]at g2 g5;refine⟨q,es',O,by omega,g1,g2,g3,g4,?_⟩;have run:sT (stL 7 es [.lst (N.map D.str),.lst (rooms.map D.str)])=some (.rn (O.map oY) [.im (.lst (N.map D.str)),.im (.lst (rooms.map D.str)),.pm es',.un,.ls (Hs'.map D.str),t5,t6]):=by
  unfold sT;refine(oe (ρ':=[.im (.lst (N.map D.str)),.im (.lst (rooms.map D.str)),.pm es,.ls [],.un,.un,.un]) rfl).trans ?_;refine(oe (ρ':=[.im (.lst (N.map D.str)),.im (.lst (rooms.map D.str)),.pm es,.ls [],.ls (Hs.map D.str),.un,.un]) ((vM (sI (xs:=rooms.map D.str) (ys:=[.str N[5]]) rfl (pB (wX (og (oo rfl rfl (rJ (j:=5) (aP h5))) rfl) (by show 1<=1000;decide))) (by rw[ah];simp;omega))).trans ?_)).trans ?_
  ·show some (Out.nx [_,_,_,_,.ls (rooms.map D.str++[.str N[5]]),_,_])=_;rw[show rooms.map D.str++[.str N[5]]=Hs.map D.str by simp[Hs]]
  ·refine(oe ((qa (ds:=((N.drop 6).take q).map D.str) (ρ1:=[.im (.lst (N.map D.str)),.im (.lst (rooms.map D.str)),.pm es1,.ls [],.ls (Hs.map D.str),.un,.un]) ?_).trans g5)).trans rfl;have e:tQ ae (oAt cH) (oAt (c2 pI cH (pf oh 2 eR))) [.im (.lst (N.map D.str)),.im (.lst (rooms.map D.str)),.pm es,.ls [],.ls (Hs.map D.str),.un,.un]=some (((N.drop 6).take q).map D.str,[.im (.lst (N.map D.str)),.im (.lst (rooms.map D.str)),.pm es1,.ls [],.ls (Hs.map D.str),.un,.un]):=by
    have e1:c2 pI cH (pf oh 2 eR) [.im (.lst (N.map D.str)),.im (.lst (rooms.map D.str)),.pm es,.ls [],.ls (Hs.map D.str),.un,.un]=some (.int ((6+q:Nat):Int),[.im (.lst (N.map D.str)),.im (.lst (rooms.map D.str)),.pm es1,.ls [],.ls (Hs.map D.str),.un,.un]):=oo rfl ((qX (es0:=es) (es:=es) (ρ1:=[.im (.lst (N.map D.str)),.im (.lst (rooms.map D.str)),.pm es,.ls [],.ls (Hs.map D.str),.un,.un]) rfl rfl rfl h4).trans rfl) (by show some (D.int (6+(q:Int)))=_;congr 2);have e2:oAt (c2 pI cH (pf oh 2 eR)) [.im (.lst (N.map D.str)),.im (.lst (rooms.map D.str)),.pm es,.ls [],.ls (Hs.map D.str),.un,.un]=some (some ((6+q:Nat):Int),[.im (.lst (N.map D.str)),.im (.lst (rooms.map D.str)),.pm es1,.ls [],.ls (Hs.map D.str),.un,.un]):=by unfold oAt;rw[e1]
    unfold tQ;show (match oAt (c2 pI cH (pf oh 2 eR)) [.im (.lst (N.map D.str)),.im (.lst (rooms.map D.str)),.pm es,.ls [],.ls (Hs.map D.str),.un,.un]with
     |some (h,ρ3)=>some (cutD (N.map D.str) (some 6) h,ρ3)
     |none=>none)=_
    rw[e2];show some (cutD (N.map D.str) (some ((6:Nat):Int)) (some ((6+q:Nat):Int)),_)=_;rw[Jt 6 q (by rw[ah,hN.len];omega),eK,fz]
   unfold iL;rw[pB e]
 unfold qL fnL;rw[ai (show [D.lst (N.map D.str),D.lst (rooms.map D.str)].length=2 from rfl),run];rfl
def Vi:FS:=(oj (oV 7 (pf oh 1 (oa (c2 pI (c1 p5 aJ) aG) oJ)))
 (oV 5 (cL (qO (cL (qO (cL (tQ aJ oNo (oAt bZ))) (cL (oU (oa aY oJ))))) (cL (tQ aJ (oAt bZ) oNo))))))
theorem GN{a b c d x8 x9 x10 x11 x12 x13:Sl}:∀(l:List Rw) (es:List L4.D) (R:List Rw) (s6 s7:Sl),IL es->R.length+l.length<=900->∃(es':List L4.D) (R':List Rw) (t6 t7:Sl),IL es'/\R'.Perm (R++l)/\
  forL (gN 6) Vi (l.map oY) [a,.ls es,b,c,d,.im (.lst (R.map oY)),s6,s7,x8,x9,x10,x11,x12,x13]=some (.nx [a,.ls es',b,c,d,.im (.lst (R'.map oY)),t6,t7,x8,x9,x10,x11,x12,x13])
 |[],es,R,s6,s7,hi,_=>⟨es,R,s6,s7,hi,by rw[br],rfl⟩
 |r::l,es,R,s6,s7,hi,hl=>by
  rw[aK]at hl;obtain⟨v,es1,h1,h2,h3,h4⟩:=qh hi ((R.map oY).length+1:Int) (by omega);obtain⟨k,rfl⟩:=cq h2;have hk:k<=(R.map oY).length:=by omega
  let R1:=R.take k++r::R.drop k;have p1:R1.Perm (R++[r]):=by have:=(List.perm_middle (a:=r) (l₁:=R.take k) (l₂:=R.drop k));rw[List.take_append_drop]at this;exact this.trans (List.perm_append_singleton r R).symm
  have hR1:R1.length=R.length+1:=p1.length_eq.trans (by simp);let ρ1:aW:=[a,.ls es1,b,c,d,.im (.lst (R.map oY)),.im (oY r),.im (.int k),x8,x9,x10,x11,x12,x13];have e1:Vi [a,.ls es,b,c,d,.im (.lst (R.map oY)),.im (oY r),s7,x8,x9,x10,x11,x12,x13]=some (.nx [a,.ls es1,b,c,d,.im (.lst (R1.map oY)),.im (oY r),.im (.int k),x8,x9,x10,x11,x12,x13]):=by
   unfold Vi;refine(oe (ρ':=ρ1) ((oM (i:=7) (qX (i:=1) (es0:=es) (es:=es) (ρ1:=[a,.ls es,b,c,d,.im (.lst (R.map oY)),.im (oY r),s7,x8,x9,x10,x11,x12,x13]) rfl (show oa (c2 pI (c1 p5 aJ) aG) oJ _=some ([.int ((R.map oY).length+1)],_) from rfl) rfl h4)).trans rfl)).trans ?_;have c1:tQ aJ oNo (oAt bZ) ρ1=some ((R.map oY).take k,ρ1):=by show some (cutD (R.map oY) none (some (k:Int)),ρ1)=_;rw[Nu k hk]
   have c2:tQ aJ (oAt bZ) oNo ρ1=some ((R.map oY).drop k,ρ1):=by show some (cutD (R.map oY) (some (k:Int)) none,ρ1)=_;rw[Vh k hk]
   refine(oM (pB (sI (pB (sI (pB c1) (pB (wX (ds:=[oY r]) rfl (by show 1<=1000;decide))) ?_)) (pB c2) ?_))).trans ?_
   ·rw[bo,ah];simp;omega
   ·rw[aD,bo,bX,ah];simp;omega
   ·show some (Out.nx [a,.ls es1,b,c,d,.im (.lst ((R.map oY).take k++[oY r]++(R.map oY).drop k)),.im (oY r),.im (.int k),x8,x9,x10,x11,x12,x13])=_;rw[show (R.map oY).take k++[oY r]++(R.map oY).drop k=R1.map oY by simp[R1,eK,fz]]
  obtain⟨es',R',t6,t7,g1,g2,g3⟩:=GN (a:=a) (b:=b) (c:=c) (d:=d) (x8:=x8) (x9:=x9) (x10:=x10) (x11:=x11) (x12:=x12) (x13:=x13) l es1 R1 (.im (oY r)) (.im (.int k)) h1 (by omega);refine⟨es',R',t6,t7,g1,g2.trans ((p1.append_right l).trans (by rw[bA];exact jM _)),?_⟩;rw[ay];unfold forL;rw[show gN 6 (oY r) [a,.ls es,b,c,d,.im (.lst (R.map oY)),s6,s7,x8,x9,x10,x11,x12,x13]=some [a,.ls es,b,c,d,.im (.lst (R.map oY)),.im (oY r),s7,x8,x9,x10,x11,x12,x13] from rfl];simp only[e1];exact g3
def mkT(m:Mk):L4.D:=.tup [.str m.n,.int m.st,.int m.mo]
abbrev kM:=(oa dX oJ)
def mkB:FS:=(oj (oV 10 (c2 pI aG (pf oh 1 kM)))
 (o9 (sE 8 (pE (oa (cV 9) (oa (pf oh 1 (oa (c2 pI eW aG) oJ)) (oa eW oJ)))))))
theorem Ju{a b c d x5 x6 x7 x11 x12 x13:Sl}:∀(l:aC) (es:List L4.D) (M:List Mk) (s9 s10:Sl),IL es->M.length+l.length<=900->∃(es':List L4.D) (M':List Mk) (t9 t10:Sl),IL es'/\M'.map Mk.n=l/\(∀m∈M',m.ok)/\
  forL (gN 9) mkB (l.map D.str) [a,.ls es,b,c,d,x5,x6,x7,.ls (M.map mkT),s9,s10,x11,x12,x13]=some (.nx [a,.ls es',b,c,d,x5,x6,x7,.ls ((M++M').map mkT),t9,t10,x11,x12,x13])
 |[],es,M,s9,s10,hi,_=>⟨es,[],s9,s10,hi,rfl,λm hm=>(bN hm).elim,by rw[br];rfl⟩
 |x::l,es,M,s9,s10,hi,hl=>by
  rw[aK]at hl;obtain⟨v,es1,h1,h2,h3,h4⟩:=qh hi 3 (by decide);obtain⟨w,es2,h5,h6,h7,h8⟩:=qh h1 (1+v+1) (by omega);let m:Mk:=⟨x,w,1+v⟩;let ρ1:aW:=[a,.ls es1,b,c,d,x5,x6,x7,.ls (M.map mkT),.im (.str x),.im (.int (1+v)),x11,x12,x13];let ρ2:aW:=[a,.ls es2,b,c,d,x5,x6,x7,.ls (M.map mkT),.im (.str x),.im (.int (1+v)),x11,x12,x13];have e1:mkB [a,.ls es,b,c,d,x5,x6,x7,.ls (M.map mkT),.im (.str x),s10,x11,x12,x13]=some (.nx [a,.ls es2,b,c,d,x5,x6,x7,.ls ((M++[m]).map mkT),.im (.str x),.im (.int (1+v)),x11,x12,x13]):=by unfold mkB;refine(oe (ρ':=ρ1) ((oM (oo rfl (qX (es0:=es) (es:=es) (ρ1:=[a,.ls es,b,c,d,x5,x6,x7,.ls (M.map mkT),.im (.str x),s10,x11,x12,x13]) rfl rfl rfl h4) rfl)).trans rfl)).trans ?_;refine(pP (vP (es0:=M.map mkT) (es:=M.map mkT) (ρ1:=ρ2) (d:=mkT m) rfl (r9 (og rfl (og ((qX (es0:=es1) (es:=es1) (ρ1:=ρ1) rfl (og (oo rfl rfl rfl) rfl) rfl h8).trans rfl) rfl)) (by show 3<=1000;decide)) rfl (by rw[ah];omega))).trans ?_;show some (Out.nx [a,.ls es2,b,c,d,x5,x6,x7,.ls (M.map mkT++[mkT m]),.im (.str x),.im (.int (1+v)),x11,x12,x13])=_;rw[show M.map mkT++[mkT m]=(M++[m]).map mkT by rw[aX];rfl]
  obtain⟨es',M',t9,t10,g1,g2,g3,g4⟩:=Ju (a:=a) (b:=b) (c:=c) (d:=d) (x5:=x5) (x6:=x6) (x7:=x7) (x11:=x11) (x12:=x12) (x13:=x13) l es2 (M++[m]) (.im (.str x)) (.im (.int (1+v))) h5 (by rw[aD,aZ];omega);refine⟨es',m::M',t9,t10,g1,by rw[ay,g2],λy hy=>?_,?_⟩
  ·rcases aN.mp hy with rfl|hy
   ·exact⟨by show 1<=1+v;omega,by show 1+v<=3;omega,h6,by show w<=1+v;omega⟩
   ·exact g3 y hy
  ·rw[ay];unfold forL;rw[show gN 9 (.str x) [a,.ls es,b,c,d,x5,x6,x7,.ls (M.map mkT),s9,s10,x11,x12,x13]=some [a,.ls es,b,c,d,x5,x6,x7,.ls (M.map mkT),.im (.str x),s10,x11,x12,x13] from rfl];simp only[e1];rw[g4,bA];rfl
abbrev kX:=(oa bE oJ)
abbrev kF:=kX
theorem El{a b c d x5 x6 x7 x8 x9 x10 x11 x12 x13:Sl}:∀(l:aC) (es:List L4.D),IL es->∃(dk:aC) (es':List L4.D),dk.Sublist l/\IL es'/\
  sF 1 [1] (gN 0) (cT (c2 (dEq false) (pf oh 1 kF) aG)) ae (l.map D.str) [a,.ls es,b,c,d,x5,x6,x7,x8,x9,x10,x11,x12,x13]=some (dk.map D.str,[a,.ls es',b,c,d,x5,x6,x7,x8,x9,x10,x11,x12,x13])
 |[],es,h=>⟨[],es,eF _,h,rfl⟩
 |x::l,es,h=>by
  obtain⟨v,es1,h1,h2,h3,h4⟩:=qh h 2 (by decide);obtain⟨dk,es',g1,g2,g3⟩:=El (a:=a) (b:=b) (c:=c) (d:=d) (x5:=x5) (x6:=x6) (x7:=x7) (x8:=x8) (x9:=x9) (x10:=x10) (x11:=x11) (x12:=x12) (x13:=x13) l es1 h1;have et:cT (c2 (dEq false) (pf oh 1 kF) aG) [.im (.str x),.pm es]=some (decide (v=1),[.im (.str x),.pm es1]):=pG (oo ((qX (es0:=es) (es:=es) (ρ1:=[.im (.str x),.pm es]) rfl rfl rfl h4).trans rfl) rfl (se false v 1));have st:sF 1 [1] (gN 0) (cT (c2 (dEq false) (pf oh 1 kF) aG)) ae ((x::l).map D.str) [a,.ls es,b,c,d,x5,x6,x7,x8,x9,x10,x11,x12,x13]=some ((if v=1 then x::dk else dk).map D.str,[a,.ls es',b,c,d,x5,x6,x7,x8,x9,x10,x11,x12,x13]):=by
   rw[ay];unfold sF;rw[show gN 0 (.str x) (xZ 1 [1] [a,.ls es,b,c,d,x5,x6,x7,x8,x9,x10,x11,x12,x13])=some [.im (.str x),.pm es] from rfl];simp only[et];have un:rE [1] (([.im (.str x),.pm es1]:aW).drop 1) [a,.ls es,b,c,d,x5,x6,x7,x8,x9,x10,x11,x12,x13]=some [a,.ls es1,b,c,d,x5,x6,x7,x8,x9,x10,x11,x12,x13]:=rfl;by_cases hv:v=1
   ·rw[ai hv,bg hv];simp only;simp only[show cV 0 [.im (.str x),.pm es1]=some (.str x,[.im (.str x),.pm es1]) from rfl,un,g3];rfl
   ·rw[aj hv,aQ hv];simp only[un,g3]
  by_cases hv:v=1
  ·rw[ai hv]at st;exact⟨x::dk,es',g1.cons_cons x,g2,st⟩
  ·rw[aj hv]at st;exact⟨dk,es',g1.cons x,g2,st⟩
def moD:L4.D:=.lst [.tup [],.tup [.str "red"],.tup [.str "old", .str "red"]]
theorem Qj(j:Nat)(h:j<3):∃m∈Ei,dIx moD (.int j)=some (.tup (m.map D.str)):=by
 match j,h with
 |0,_=>exact⟨[],by decide,rfl⟩
 |1,_=>exact⟨["red"],by decide,rfl⟩
 |2,_=>exact⟨["old", "red"],by decide,rfl⟩
def Th.rw(t:Th):Rw:=⟨t.n,t.k,t.s⟩
def wdD(t:Th):L4.D:=.tup (t.w.map D.str)
abbrev kH:=(oa ae oJ)
def Vj:FE:=(AA (pE kH) (c2 dIx av (pf oh 4 kM)))
theorem CT{a b c d x5 x6 x7 x8 x9 x10 x11 x13:Sl}:∀(R:List Rw) (es:List L4.D),IL es->∃(T:List Th) (es':List L4.D),T.map Th.rw=R/\(∀t∈T,∃m∈Ei,t.w=t.n::m)/\IL es'/\
  sF 3 [12,1] (gT (oK (gN 0) (oK (gN 1) (oK (gN 2) qj))) 3) pR Vj (R.map oY) [a,.ls es,b,c,d,x5,x6,x7,x8,x9,x10,x11,.im moD,x13]=some (T.map wdD,[a,.ls es',b,c,d,x5,x6,x7,x8,x9,x10,x11,.im moD,x13])
 |[],es,h=>⟨[],es,rfl,λt ht=>(bN ht).elim,h,rfl⟩
 |r::R,es,h=>by
  obtain⟨v,es1,h1,h2,h3,h4⟩:=qh h 3 (by decide);obtain⟨j,rfl⟩:=cq h2;obtain⟨m,hm,em⟩:=Qj j (by omega);obtain⟨T,es',g1,g2,g3,g4⟩:=CT (a:=a) (b:=b) (c:=c) (d:=d) (x5:=x5) (x6:=x6) (x7:=x7) (x8:=x8) (x9:=x9) (x10:=x10) (x11:=x11) (x13:=x13) R es1 h1;let t:Th:=⟨r.n,r.n::m,r.k,r.s⟩;have hml:m.length<=2:=by
   have:∀m∈Ei,bS m<=2:=by decide
   exact this m hm
  refine⟨t::T,es',by rw[ay,g1];rfl,λu hu=>?_,g3,?_⟩
  ·rcases aN.mp hu with rfl|hu
   ·exact⟨m,hm,rfl⟩
   ·exact g2 u hu
  ·let ρ2:aW:=[.im (.str r.n),.im (.str r.k.s),.im (oS r.s),.im moD,.pm es];have e1:Vj ρ2=some (wdD t,[.im (.str r.n),.im (.str r.k.s),.im (oS r.s),.im moD,.pm es1]):=by have e2:c2 dIx av (pf oh 4 kM) ρ2=some (.tup (m.map D.str),[.im (.str r.n),.im (.str r.k.s),.im (oS r.s),.im moD,.pm es1]):=oo rfl ((qX (es0:=es) (es:=es) (ρ1:=ρ2) rfl rfl rfl h4).trans rfl) em;unfold Vj AA;rw[show pE kH ρ2=some (.tup [.str r.n],ρ2) from rfl];simp only[e2];rw[ai (by rw[ah];simp;omega)];rfl
   rw[ay];unfold sF;rw[show gT (oK (gN 0) (oK (gN 1) (oK (gN 2) qj))) 3 (oY r) (xZ 3 [12,1] [a,.ls es,b,c,d,x5,x6,x7,x8,x9,x10,x11,.im moD,x13])=some ρ2 from rfl];simp only[pR,e1];rw[show rE [12,1] (([.im (.str r.n),.im (.str r.k.s),.im (oS r.s),.im moD,.pm es1]:aW).drop 3) [a,.ls es,b,c,d,x5,x6,x7,x8,x9,x10,x11,.im moD,x13]=some [a,.ls es1,b,c,d,x5,x6,x7,x8,x9,x10,x11,.im moD,x13] from rfl];simp only[g4];rfl
def sG(x:Str):Rw:=⟨x,.room,none⟩
theorem Qk:∀N:aC,N.length=17->∃x,N[5]?=some x/\N.take 5++([x]++((N.drop 6).take 7++N.drop 13))=N
 |[a0,a1,a2,a3,a4,a5,a6,a7,a8,a9,a10,a11,a12,a13,a14,a15,a16],_=>⟨a5,rfl,rfl⟩
theorem GO{α:Type}(l:List α){a b:Nat}(h:a<=b):(l.take a).Sublist (l.take b):=by
 have:l.take a=(l.take b).take a:=by rw[List.take_take,dG h]
 rw[this];exact ib _ _
variable{y:Str}{r:Nat}
theorem KU(h:N.length=17)(hy:N[5]?=some y){q p:Nat}(hr:r<5)(hq:q<8):((N.take (1+r)++([y]++(N.drop 6).take q))++(N.drop 13).take p).Sublist N:=by obtain⟨x,h1,h2⟩:=Qk N h;rw[hy]at h1;cases h1;rw[bA,bA];have:=(GO N (show 1+r<=5 by omega)).append ((eF [y]).append ((GO (N.drop 6) (show q<=7 by omega)).append (ib p (N.drop 13))));rw[h2]at this;exact this
theorem Vk{R:List Rw}(h:T.map Th.rw=R){u:Rw}(hu:u∈R):∃t∈T,t.rw=u:=by rw[<-h]at hu;exact aL.mp hu
theorem Ql(T:List Th)(p:Kd->Bool):(T.filter λt=>p t.k).map Th.rw=(T.map Th.rw).filter λr=>p r.k:=by rw[mX];rfl
theorem Qm(hN:Nms N)(hy:N[5]?=some y){q p:Nat}(hr:r<5)(hq:q<8)(hp:p<5){z:Str}(hz:z∈N.take (1+r)){O:List Rw}
  (ho:Ord (((N.take (1+r)).map sG++[⟨y,.you,some z⟩])++O)) (hO:O.map Rw.n=(N.drop 6).take q) (hOp:∀u∈O,u.k.pl=true) (hT:(T.map Th.rw).Perm (((N.take (1+r)).map sG++[⟨y,.you,some z⟩])++O)) (hw:∀t∈T,∃m∈Ei,t.w=t.n::m)
  (hM:M.map Mk.n=(N.drop 13).take p) (hMo:∀m∈M,m.ok) (hd:dk.Sublist (N.take (1+r))):Good T M dk/\(T.filter λt=>decide (t.k=.you)).map Th.n=[y]:=by
 let B:List Rw:=((N.take (1+r)).map sG++[⟨y,.you,some z⟩])++O;have hl:(N.take (1+r)).length=1+r:=by rw[bo,hN.len];omega
 have hOl:O.length=q:=by have:=aS bS hO;rw[ah,bo,bX,hN.len]at this;omega
 have hMl:M.length=min p 4:=by have:=aS bS hM;rw[ah,bo,bX,hN.len]at this;exact this
 have hBl:B.length=1+r+1+q:=by simp only[B,aD,ah,hl,hOl,aZ]
 have hTl:T.length=B.length:=by have:=hT.length_eq;rw[ah]at this;exact this
 have hBn:B.map Rw.n=N.take (1+r)++([y]++(N.drop 6).take q):=by simp only[B,aX,hO,aU,bA];rw[show (Rw.n∘sG)=id from rfl,List.map_id];rfl
 have hTn:T.map Th.n=(T.map Th.rw).map Rw.n:=by rw[aU];rfl
 have perm:(T.map Th.n++M.map Mk.n).Perm ((N.take (1+r)++([y]++(N.drop 6).take q))++(N.drop 13).take p):=by rw[hTn,hM,<- hBn];exact(hT.map Rw.n).append_right _
 have sub:=KU hN.len hy hr hq (p:=p);have nd:(T.map Th.n++M.map Mk.n).Nodup:=perm.nodup_iff.mpr (hN.nd.sublist sub);have nm:∀x∈T.map Th.n++M.map Mk.n,Nm x:=λx hx=>hN.nm x (sub.subset (perm.subset hx));have back:∀u∈B,∃t∈T,t.rw=u:=λu hu=>Vk rfl (hT.mem_iff.mpr hu);have fwd:∀t∈T,Fj B t.rw:=λt ht=>ho.all _ (hT.mem_iff.mp (cu ht));have filt:∀pp:Kd->Bool,((T.filter λt=>pp t.k).map Th.rw).Perm (B.filter λu=>pp u.k):=λpp=>by rw[Ql];exact hT.filter _
 have fl:∀pp:Kd->Bool,(T.filter λt=>pp t.k).length=(B.filter λu=>pp u.k).length:=λpp=>by have:=(filt pp).length_eq;rw[ah]at this;exact this
 have allF:∀(pp:Kd->Bool) (l:List Rw),(∀u∈l,pp u.k=false)->(l.filter λu=>pp u.k)=[]:=λpp l h=>lI.mpr λu hu=>by rw[h u hu];exact bq
 have rooms:∀(pp:Kd->Bool),∀u∈(N.take (1+r)).map sG,pp u.k=pp .room:=λpp u hu=>by obtain⟨x,_,rfl⟩:=aL.mp hu;rfl
 have oth:∀u∈O,decide (u.k=.room)=false/\decide (u.k=.you)=false:=λu hu=>by have:=hOp u hu;refine⟨aQ λh=>?_,aQ λh=>?_⟩<;>rw[h]at this<;>cases this
 have fB:∀pp:Kd->Bool,(B.filter λu=>pp u.k)=((N.take (1+r)).map sG).filter (λu=>pp u.k)++([⟨y,.you,some z⟩]:List Rw).filter (λu=>pp u.k)++O.filter (λu=>pp u.k):=λpp=>by simp only[B,mj]
 have one:∀(pp:Kd->Bool) (b:Bool),pp .you=b->([⟨y,.you,some z⟩]:List Rw).filter (λu=>pp u.k)=if b then [⟨y,.you,some z⟩]else []:=λpp b h=>by rw[c9,iw];show (if pp .you=true then _ else _)=_;rw[h]
 have gr:∀pp:Kd->Bool,pp .room=true->pp .you=false->(∀u∈O,pp u.k=false)->(B.filter λu=>pp u.k)=(N.take (1+r)).map sG:=λpp h1 h2 h3=>by rw[fB pp,allF pp O h3,jw.mpr λu hu=>(rooms pp u hu).trans h1,one pp false h2];simp
 have gy:∀pp:Kd->Bool,pp .room=false->pp .you=true->(∀u∈O,pp u.k=false)->(B.filter λu=>pp u.k)=[⟨y,.you,some z⟩]:=λpp h1 h2 h3=>by rw[fB pp,allF pp O h3,allF pp _ λu hu=>(rooms pp u hu).trans h1,one pp true h2];rfl
 have gp:∀pp:Kd->Bool,pp .room=false->pp .you=false->(∀u∈O,pp u.k=true)->(B.filter λu=>pp u.k)=O:=λpp h1 h2 h3=>by rw[fB pp,jw.mpr h3,allF pp _ λu hu=>(rooms pp u hu).trans h1,one pp false h2];rfl
 have fr:=gr (λk=>decide (k=.room)) rfl rfl λu hu=>(oth u hu).1;have fy:=gy (λk=>decide (k=.you)) rfl rfl λu hu=>(oth u hu).2;have fp:=gp Kd.pl rfl rfl hOp;have ndT:(T.map Th.n).Nodup:=(bV.mp nd).1;obtain⟨rk,hk⟩:=ho.rank ((hT.map Rw.n).nodup_iff.mp (by rw[<-hTn];exact ndT));have inR:∀x∈N.take (1+r),x∈rmN T:=λx hx=>by obtain⟨t,ht,e⟩:=back (sG x) (bG _ (bG _ (cu hx)));have h1:t.n=x:=aS Rw.n e;have h2:t.k=.room:=aS Rw.k e;exact aL.mpr ⟨t,bO.mpr ⟨ht,bg h2⟩,h1⟩
 refine⟨{
  len:=by omega
  r1:=by have:=fl λk=>decide (k=.room);rw[fr,ah,hl]at this;omega
  r5:=by have:=fl λk=>decide (k=.room);rw[fr,ah,hl]at this;omega
  y1:=by have:=fl λk=>decide (k=.you);rw[fy]at this;exact this
  p7:=by have:=fl Kd.pl;rw[fp,hOl]at this;omega
  m4:=by omega
  mo:=hMo
  nm:=nm
  nd:=nd
  st:=λt ht=>?_
  rk:=⟨rk,λt ht=>?_⟩
  wd:=λt ht=>⟨nm _ (bG _ (cu ht)),hw t ht⟩
  d0:=by have:=hd.length_le;omega
  d1:=(hN.nd.sublist (ib _ _)).sublist hd
  d2:=λx hx=>inR x (hd.subset hx) },?_⟩
 ·obtain⟨n,w,k,s⟩:=t;rcases fwd _ ht with ⟨h1,h2⟩|⟨h1,u,hu,h2,h3⟩|⟨h1,u,hu,h2,h3⟩
  ·cases h1;cases h2;trivial
  ·cases h1;cases h2;obtain⟨t',ht',e⟩:=back u hu;refine aL.mpr ⟨t',bO.mpr ⟨ht',bg ?_⟩,aS Rw.n e⟩;rw[<-h3];exact aS Rw.k e
  ·obtain⟨t',ht',e⟩:=back u hu;have mem:u.n∈hdN T:=aL.mpr ⟨t',bO.mpr ⟨ht',by rw[<-h3];exact aS Kd.hd (aS Rw.k e)⟩,aS Rw.n e⟩;have h2':s=some u.n:=h2;subst h2';have h1':k.pl=true:=h1;cases k with
   |room=>cases h1'
   |you=>cases h1'
   |plain=>exact mem
   |fixed=>exact mem
   |box=>exact mem
   |lamp=>exact mem
 ·obtain⟨h1,h2⟩:=hk t.rw (hT.mem_iff.mp (cu ht));refine⟨by rw[hTl];exact h1,λpq hpq=>?_⟩;obtain⟨h3,u,hu,h4⟩:=h2 pq hpq;obtain⟨t',ht',e⟩:=back u hu;exact⟨h3,t',ht',by rw[<-h4,<- e];rfl⟩
 ·have h:=filt λk=>decide (k=.you);rw[fy]at h;have e:=List.perm_singleton.mp h;have:=aS (List.map Rw.n) e;rw[aU]at this;exact this
def pz(T:List Th)(M:List Mk)(dk:aC)(y:Str):L4.D:=.dic [kS "rows", kS "marks", kS "dark", kS "words", kS "you"] [.lst (T.map λt=>oY t.rw),.lst (M.map mkT),.lst (dk.map D.str),.lst (T.map wdD),.str y]
theorem KW:∀l:aC,Ord (l.map sG):=λl=>by
 suffices h:∀(l k:aC),Ord (k.map sG)->Ord ((k++l).map sG) from h l [] .nil
 intro l
 induction l with
 |nil=>intro k h;rw[br];exact h
 |cons x l ih=>
  intro k h;have:=ih (k++[x]) (by rw[aX];exact h.snoc (.inl ⟨rfl,rfl⟩))
  rwa [bA]at this
theorem xH(h:e ρ=some (.lst ds,ρ1)):iL e ρ=some (ds,ρ1):=by unfold iL;rw[h]
variable{ρ2:aW}
theorem Bf{x:Str}{f:FE}{r:List (Str×FE)}(h1:f ρ=some (d,ρ1))(h2:sJ r ρ1=some (ds,ρ2)):sJ ((x,f)::r) ρ=some (d::ds,ρ2):=by unfold sJ;rw[h1];simp only[h2]
theorem Jv{kfs:List (Str×FE)}(h:sJ kfs ρ=some (ds,ρ1)):vc kfs ρ=some (.dic (kfs.map λq=>kS q.1) ds,ρ1):=by unfold vc;rw[h];rfl
variable{es':List L4.D}
theorem W0{n v:Int}{a b2 b3 b4 b5 b6 b7 b8 b9 b10 b11 b12 b13:Sl}(h:oh es [.int n]=some (.int v,es')):pf oh 1 (oa (cC (.int n)) oJ) [a,.ls es,b2,b3,b4,b5,b6,b7,b8,b9,b10,b11,b12,b13]=some (.int v,[a,.ls es',b2,b3,b4,b5,b6,b7,b8,b9,b10,b11,b12,b13]):=
 (qX (es0:=es) (es:=es) (ρ1:=[a,.ls es,b2,b3,b4,b5,b6,b7,b8,b9,b10,b11,b12,b13]) rfl rfl rfl h).trans rfl
abbrev kN:=(oa av oJ)
theorem Qn(c:Int):∃T M dk y,xw [.int c]=some (pz T M dk y)/\Good T M dk/\(T.filter λt=>decide (t.k=.you)).map Th.n=[y]:=by
 obtain⟨es0,i0,d0⟩:=GI c 110 (by decide);obtain⟨N,es1,hN,i1,d1⟩:=Nr i0;obtain⟨r,es2,i2,r0,r1,d2⟩:=qh i1 5 (by decide);obtain⟨r,rfl⟩:=cq r0;have hr:r<5:=by omega
 let rooms:=N.take (1+r);have hl:rooms.length=1+r:=by simp only[rooms];rw[bo,hN.len];omega
 obtain⟨i,es3,i3,j0,j1,d3⟩:=qh i2 rooms.length (by omega);obtain⟨i,rfl⟩:=cq j0;have hi:i<rooms.length:=by omega
 have h5:5<N.length:=by rw[hN.len];decide
 let y:=N[5];let z:=rooms[i];have hz:z∈rooms:=dA hi;let B:List Rw:=rooms.map sG++[⟨y,.you,some z⟩];have hB:Ord B:=(KW rooms).snoc (.inr (.inl ⟨rfl,sG z,cu hz,rfl,rfl⟩));obtain⟨q,es4,O,hq,i4,hO,hOn,hOp,d4⟩:=KR hN B i3 hB (rooms:=rooms) (by omega) λx hx=>by
  rcases bw.mp hx with hx|hx
  ·exact⟨sG x,bG _ (cu hx),rfl,rfl⟩
  ·rw[aR]at hx;exact⟨⟨y,.you,some z⟩,bL _ (aR.mpr rfl),hx.symm,rfl⟩
 have hOl:O.length<=7:=by have:=aS bS hOn;rw[ah,bo]at this;omega
 have hBl:B.length<=6:=by simp only[B,aD,ah,aZ];omega
 obtain⟨es5,R,t6,t7,i5,hR,d5⟩:=GN (a:=.im (.int c)) (b:=.im (.lst (N.map D.str))) (c:=.im (.lst (rooms.map D.str))) (d:=.im (.lst (B.map oY))) (x8:=.un) (x9:=.un) (x10:=.un) (x11:=.un) (x12:=.un) (x13:=.un) (B++O) es4 [] .un .un i4 (by rw[aD];simp;omega);rw[bH]at hR;obtain⟨p,es6,i6,p0,p1,d6⟩:=qh i5 5 (by decide);obtain⟨p,rfl⟩:=cq p0;obtain⟨es7,M,t9,t10,i7,hMn,hMo,d7⟩:=Ju (a:=.im (.int c)) (b:=.im (.lst (N.map D.str))) (c:=.im (.lst (rooms.map D.str))) (d:=.im (.lst (B.map oY))) (x5:=.im (.lst (R.map oY))) (x6:=t6) (x7:=t7) (x11:=.un) (x12:=.un) (x13:=.un) ((N.drop 13).take p) es6 [] .un .un i6 (by rw[bo,bX,hN.len];simp;omega);rw[bH]at d7;obtain⟨dk,es8,hdk,i8,d8⟩:=El (a:=.im (.int c)) (b:=.im (.lst (N.map D.str))) (c:=.im (.lst (rooms.map D.str))) (d:=.im (.lst (B.map oY))) (x5:=.im (.lst (R.map oY))) (x6:=t6) (x7:=t7) (x8:=.ls (M.map mkT)) (x9:=t9) (x10:=t10) (x11:=.un) (x12:=.un) (x13:=.un) rooms es7 i7;obtain⟨T,es9,hT,hw,i9,d9⟩:=CT (a:=.im (.int c)) (b:=.im (.lst (N.map D.str))) (c:=.im (.lst (rooms.map D.str))) (d:=.im (.lst (B.map oY))) (x5:=.im (.lst (R.map oY))) (x6:=t6) (x7:=t7) (x8:=.ls (M.map mkT)) (x9:=t9) (x10:=t10) (x11:=.im (.lst (dk.map D.str))) (x13:=.un) R es8 i8;obtain⟨g1,g2⟩:=Qm hN (aP h5) hr hq (by omega) hz hO hOn hOp (hT▸hR) hw hMn hMo hdk;refine⟨T,M,dk,y,oI (ρ:=[.im (.int c),.ls es9,.im (.lst (N.map D.str)),.im (.lst (rooms.map D.str)),.im (.lst (B.map oY)),.im (.lst (R.map oY)),t6,t7,.im (.lst (M.map mkT)),t9,t10,.im (.lst (dk.map D.str)),.im moD,.im (.lst (T.map wdD))]) rfl ?_,g1,g2⟩;unfold xu;refine(oe (ρ':=[.im (.int c),.ls es0,.un,.un,.un,.un,.un,.un,.un,.un,.un,.un,.un,.un]) ((vM (oi (ds:=[.int c,.int 110]) rfl d0)).trans rfl)).trans ?_;refine(oe (ρ':=[.im (.int c),.ls es1,.im (.lst (N.map D.str)),.un,.un,.un,.un,.un,.un,.un,.un,.un,.un,.un]) ((oM (qX (es0:=es0) (es:=es0) (ds:=[]) (ρ1:=[.im (.int c),.ls es0,.un,.un,.un,.un,.un,.un,.un,.un,.un,.un,.un,.un]) rfl rfl rfl d1)).trans rfl)).trans ?_;have cutE:∀{lo hi:FO} {ρ ρ1 ρ2:aW} {l h:Option Int},cV 2 ρ=some (.lst (N.map D.str),ρ)->lo ρ=some (l,ρ1)->hi ρ1=some (h,ρ2)->tQ ar lo hi ρ=some (cutD (N.map D.str) l h,ρ2):=λ{lo hi ρ ρ1 ρ2 l h} h1 h2 h3=>by unfold tQ;simp only[h1,h2,h3]
 have addE:∀{k:Nat} {v:Nat} {n:Int} {ρ ρ1:aW},pf oh 1 (oa (cC (.int n)) oJ) ρ=some (.int v,ρ1)->oAt (c2 pI (cC (.int k)) (pf oh 1 (oa (cC (.int n)) oJ))) ρ=some (some ((k+v:Nat):Int),ρ1):=λ{k v n ρ ρ1} h=>by unfold oAt;rw[oo (g:=pI) (x:=.int k) (z:=.int ((k+v:Nat):Int)) rfl h (by show some (D.int ((k:Int)+(v:Int)))=_;congr 2)]
 refine(oe (ρ':=[.im (.int c),.ls es2,.im (.lst (N.map D.str)),.im (.lst (rooms.map D.str)),.un,.un,.un,.un,.un,.un,.un,.un,.un,.un]) ((oM (pB (cutE rfl rfl (addE (k:=1) (v:=r) (W0 d2))))).trans ?_)).trans ?_
 ·rw[Nu (1+r) (by rw[ah,hN.len];omega),<- eK];rfl
 let ρ3:List L4.D->aW:=λes=>[.im (.int c),.ls es,.im (.lst (N.map D.str)),.im (.lst (rooms.map D.str)),.un,.un,.un,.un,.un,.un,.un,.un,.un,.un];refine(oe (ρ':=[.im (.int c),.ls es3,.im (.lst (N.map D.str)),.im (.lst (rooms.map D.str)),.im (.lst (B.map oY)),.un,.un,.un,.un,.un,.un,.un,.un,.un]) ((oM (pB (sI (xs:=rooms.map λx=>oY (sG x)) (ys:=[oY ⟨y,.you,some z⟩]) (ρ1:=ρ3 es2) (ρ2:=ρ3 es3)
  (pB (xF D.str (λx=>oY (sG x)) rooms rfl (by omega) λx _=>⟨_,_,rfl,rfl,rfl⟩))
  (pB (wX (og (r9 (ds:=[.str y,.str "you", .str z]) (og (oo rfl rfl (rJ (j:=5) (aP h5))) (og rfl (og (oo (ρ1:=ρ3 es2) (x:=.lst (rooms.map D.str)) (y:=.int i) rfl ((qX (i:=1) (es0:=es2) (es:=es2) (ρ1:=ρ3 es2) (ds:=[.int rooms.length]) rfl (by show some ([D.int ((rooms.map D.str).length:Nat)],_)=_;rw[ah]) rfl d3).trans rfl) (rJ (aP hi))) rfl))) (by show 3<=1000;decide)) rfl) (by show 1<=1000;decide))) (by rw[ah];simp;omega)))).trans ?_)).trans ?_
 ·show some (Out.nx [.im (.int c),.ls es3,.im (.lst (N.map D.str)),.im (.lst (rooms.map D.str)),.im (.lst ((rooms.map λx=>oY (sG x))++[oY ⟨y,.you,some z⟩])),.un,.un,.un,.un,.un,.un,.un,.un,.un])=_;rw[show (rooms.map λx=>oY (sG x))++[oY ⟨y,.you,some z⟩]=B.map oY by simp only[B,aX,aU];rfl]
 refine(oe (ρ':=[.im (.int c),.ls es3,.im (.lst (N.map D.str)),.im (.lst (rooms.map D.str)),.im (.lst (B.map oY)),.im (.lst []),.un,.un,.un,.un,.un,.un,.un,.un]) rfl).trans ?_;let ρ5:List L4.D->aW:=λes=>[.im (.int c),.ls es,.im (.lst (N.map D.str)),.im (.lst (rooms.map D.str)),.im (.lst (B.map oY)),.im (.lst []),.un,.un,.un,.un,.un,.un,.un,.un];refine(oe ((qa (ds:=(B++O).map oY) (ρ1:=ρ5 es4) ?_).trans d5)).trans ?_
 ·have em:qg qL 1 (oa ar kN) (ρ5 es3)=some (.lst (O.map oY),ρ5 es4):=by
   unfold qg;show (match qL es3 [.lst (N.map D.str),.lst (rooms.map D.str)]with
    |some (d,es')=>some (d,putAt (ρ5 es3) 1 es')
    |none=>none)=_
   rw[d4];rfl
  exact(xH (pB (sI (xs:=B.map oY) (ys:=O.map oY) rfl em (by rw[ah,ah];omega)))).trans (by rw[<-aX])
 refine(oe (ρ':=[.im (.int c),.ls es5,.im (.lst (N.map D.str)),.im (.lst (rooms.map D.str)),.im (.lst (B.map oY)),.im (.lst (R.map oY)),t6,t7,.ls [],.un,.un,.un,.un,.un]) rfl).trans ?_;refine(oe ((qa (ds:=((N.drop 13).take p).map D.str) (ρ1:=[.im (.int c),.ls es6,.im (.lst (N.map D.str)),.im (.lst (rooms.map D.str)),.im (.lst (B.map oY)),.im (.lst (R.map oY)),t6,t7,.ls [],.un,.un,.un,.un,.un]) ?_).trans d7)).trans ?_
 ·refine(xH (pB (cutE (l:=some ((13:Nat):Int)) rfl rfl (addE (k:=13) (v:=p) (W0 d6))))).trans ?_;have ec:cutD (N.map D.str) (some ((13:Nat):Int)) (some ((13+p:Nat):Int))=((N.drop 13).take p).map D.str:=by rw[Jt 13 p (by rw[ah,hN.len];omega),eK,fz]
  rw[ec]
 refine(oe (ρ':=[.im (.int c),.ls es8,.im (.lst (N.map D.str)),.im (.lst (rooms.map D.str)),.im (.lst (B.map oY)),.im (.lst (R.map oY)),t6,t7,.ls (M.map mkT),t9,t10,.im (.lst (dk.map D.str)),.un,.un]) ((oM (pB ((vQ (ds:=rooms.map D.str) (ρ1:=[.im (.int c),.ls es7,.im (.lst (N.map D.str)),.im (.lst (rooms.map D.str)),.im (.lst (B.map oY)),.im (.lst (R.map oY)),t6,t7,.ls (M.map mkT),t9,t10,.un,.un,.un]) rfl (by rw[ah];omega)).trans d8))).trans rfl)).trans ?_;refine(oe (ρ':=[.im (.int c),.ls es8,.im (.lst (N.map D.str)),.im (.lst (rooms.map D.str)),.im (.lst (B.map oY)),.im (.lst (R.map oY)),t6,t7,.ls (M.map mkT),t9,t10,.im (.lst (dk.map D.str)),.im moD,.un]) rfl).trans ?_;have hRl:R.length<=900:=by have:=hR.length_eq;rw[aD]at this;omega
 refine(oe (ρ':=[.im (.int c),.ls es9,.im (.lst (N.map D.str)),.im (.lst (rooms.map D.str)),.im (.lst (B.map oY)),.im (.lst (R.map oY)),t6,t7,.ls (M.map mkT),t9,t10,.im (.lst (dk.map D.str)),.im moD,.im (.lst (T.map wdD))]) ((oM (pB ((vQ (ds:=R.map oY) (ρ1:=[.im (.int c),.ls es8,.im (.lst (N.map D.str)),.im (.lst (rooms.map D.str)),.im (.lst (B.map oY)),.im (.lst (R.map oY)),t6,t7,.ls (M.map mkT),t9,t10,.im (.lst (dk.map D.str)),.im moD,.un]) rfl (by rw[ah];omega)).trans d9))).trans rfl)).trans ?_;refine oO ?_;have eN:c2 dIx ar dt [.im (.int c),.ls es9,.im (.lst (N.map D.str)),.im (.lst (rooms.map D.str)),.im (.lst (B.map oY)),.im (.lst (R.map oY)),t6,t7,.im (.lst (M.map mkT)),t9,t10,.im (.lst (dk.map D.str)),.im moD,.im (.lst (T.map wdD))]=some (.str y,[.im (.int c),.ls es9,.im (.lst (N.map D.str)),.im (.lst (rooms.map D.str)),.im (.lst (B.map oY)),.im (.lst (R.map oY)),t6,t7,.im (.lst (M.map mkT)),t9,t10,.im (.lst (dk.map D.str)),.im moD,.im (.lst (T.map wdD))]):=oo rfl rfl (rJ (j:=5) (aP h5));have eT:R.map oY=T.map λt=>oY t.rw:=by rw[<-hT,aU];rfl
 unfold pz;rw[<-eT];exact Jv (Bf rfl (Bf rfl (Bf rfl (Bf rfl (Bf eN rfl)))))
theorem Nv:∀T:List Th,zf (T.map λt=>oY t.rw) (T.map wdD)=T.map λt=>D.tup [oY t.rw,wdD t]
 |[]=>rfl
 |t::T=>by have:=Nv T;unfold zf at this ⊢;rw[ay,ay,eh,this];rfl
theorem Qo(g:Good T M dk):xA [pz T M dk y]=some (wyT T):=by
 have hl:=g.len;let sp:=pz T M dk y;let ρ:aW:=[.im sp,.im (.lst ((rmN T).map D.str))];have hn:1<=(rmN T).length:=by have:=g.r1;unfold rmN;rw[ah];exact this
 have h5:(rmN T).length<=5:=by have:=g.r5;unfold rmN;rw[ah];exact this
 have h0:dIx (.lst ((rmN T).map D.str)) (.int 0)=some (.str ((rmN T).headD "")):=by
  refine rJ (j:=0) ?_;cases e:rmN T with
  |nil=>rw[e]at hn;cases hn
  |cons a r=>rfl
 have h1:dIx (.lst ((rmN T).map D.str)) (.int (((rmN T).length:Int) - 1))=some (.str ((rmN T).getLastD "")):=by
  rw[show ((rmN T).length:Int) - 1=(((rmN T).length - 1:Nat):Int) by omega];refine rJ ?_;have hz:rmN T≠[]:=λe=>by rw[e]at hn;cases hn
  rw[lr,List.getLast?_eq_getElem?,aP (by omega)];rfl
 refine vR (ρ:=ρ) rfl ?_;unfold xy;have c:=sP (k:=3) (cap:=[]) (g:=gT (oK (gN 0) (oK (gN 1) (oK (gN 2) qj))) 3) (ft:=cT (c2 (dEq false) ag gA)) (fe:=cV 0) (s:=iL (c2 pd ae (cC (.str "rows")))) (λt:Th=>oY t.rw) (λt=>D.str t.n) (λt=>decide (t.k=.room)) T (ρ:=[.im sp,.un]) (ρ1:=[.im sp,.un]) rfl (by omega) λt _=>⟨[.im (.str t.n),.im (.str t.k.s),.im (oS t.s)],[.im (.str t.n),.im (.str t.k.s),.im (oS t.s)],rfl,pG (oo rfl rfl (CI t.k .room)),λ_=>⟨_,rfl,rfl⟩,λ_=>rfl⟩
 refine(oe (ρ':=ρ) ((oM (pB c)).trans ?_)).trans ?_
 ·have:((T.filter λt=>decide (t.k=.room)).map λt=>D.str t.n)=(rmN T).map D.str:=by unfold rmN;rw[aU];rfl
  rw[this];rfl
 have el:c1 p5 ag ρ=some (.int ((rmN T).length:Int),ρ):=pD rfl (by show some (D.int _)=_;rw[ah]);refine vO (wX (og (r9 (og (oo rfl rfl h0) (og rfl (og (oo (ρ1:=ρ) rfl (oo el rfl rfl) h1) (og rfl rfl)))) (bU rfl)) (og (r9 (og (oo (ρ1:=ρ) rfl rfl h0) (og rfl (og (oo rfl rfl h0) (og rfl rfl)))) (bU rfl)) rfl)) (bU rfl))
theorem Nw(g:Good T M dk)(hy:(T.filter λt=>decide (t.k=.you)).map Th.n=[y])(emo:qH [TD T,MD M]=some mo):wj [pz T M dk y]=some (.obj 14 wNs (wDs T M dk y mo)):=by
 have e:=Nn g y hy emo;have hl:=g.len;have hm:=g.m4;let sp:=pz T M dk y;refine oI (ρ:=[.im sp,.im (TD T),.im (MD M)]) rfl ?_;unfold wg;refine(oe (ρ':=[.im sp,.im (TD T),.un]) ((oM (pB (xF (λt=>D.tup [oY t.rw,wdD t]) thD T (ρ1:=[.im sp,.un,.un]) ?_ (by omega) λt _=>⟨[.im (oY t.rw),.im (wdD t)],[.im (oY t.rw),.im (wdD t)],rfl,rfl,rfl⟩))).trans rfl)).trans ?_
 ·show some (zf (T.map λt=>oY t.rw) (T.map wdD),[Sl.im sp,.un,.un])=_;rw[Nv]
 refine(oe (ρ':=[.im sp,.im (TD T),.im (MD M)]) ((oM (pB (xF mkT mkD M (ρ1:=[.im sp,.im (TD T),.un]) rfl (by omega) λm _=>⟨[.im (.str m.n),.im (.int m.st),.im (.int m.mo)],[.im (.str m.n),.im (.int m.st),.im (.int m.mo)],rfl,rfl,rfl⟩))).trans rfl)).trans ?_;exact oO (PX (g:=λds=>sk (ds++[])) (ds:=[TD T,MD M,.lst (dk.map D.str),.lst (wyT T),.lst [],.lst []]) (og rfl (og rfl (og rfl (og (pB (oi (ds:=[sp]) rfl (Qo g))) rfl)))) e)
def nmK(T:List Th)(p:Kd->Bool):aC:=(T.filter λt=>p t.k).map Th.n
theorem of_ok(hl:T.length<=900){K:L4.D}(p:Kd->Bool)(hp:∀k:Kd,dIn false (.str k.s) K=some (.bl (p k))):pO [pz T M dk y,K]=some ((nmK T p).map D.str):=by
 let sp:=pz T M dk y;refine vR (ρ:=[.im sp,.im K]) rfl ?_;have:=sP (k:=3) (cap:=[1]) (g:=gT (oK (gN 0) (oK (gN 1) (oK (gN 2) qj))) 3) (ft:=cT (c2 (dIn false) ag av)) (fe:=cV 0) (s:=iL (c2 pd ae (cC (.str "rows")))) (λt:Th=>oY t.rw) (λt=>D.str t.n) (λt=>p t.k) T (ρ:=[.im sp,.im K]) (ρ1:=[.im sp,.im K]) rfl (by omega) λt _=>⟨[.im (.str t.n),.im (.str t.k.s),.im (oS t.s),.im K],[.im (.str t.n),.im (.str t.k.s),.im (oS t.s),.im K],rfl,pG (oo rfl rfl (hp t.k)),λ_=>⟨_,rfl,rfl⟩,λ_=>rfl⟩
 refine vO (this.trans ?_);unfold nmK;rw[aU];rfl
theorem Nx(k:Kd):dIn false (.str k.s) (.lst [.str "box"])=some (.bl (decide (k=.box))):=by cases k<;>kernel_rfl
theorem W1(k:Kd):dIn false (.str k.s) (.lst [.str "box", .str "lamp"])=some (.bl k.mk):=by cases k<;>kernel_rfl
theorem W2(k:Kd):dIn false (.str k.s) (.lst [.str "room", .str "you"])=some (.bl !k.pl):=by cases k<;>kernel_rfl
theorem Qp(k:Kd):dIn false (.str k.s) (.lst [.str "room"])=some (.bl (decide (k=.room))):=by cases k<;>kernel_rfl
def Kd.ot:Kd->Bool
 |.plain=>true|.fixed=>true|.lamp=>true|_=>false
theorem W3(k:Kd):dIn false (.str k.s) (.lst [.str "plain", .str "fixed", .str "lamp"])=some (.bl k.ot):=by cases k<;>kernel_rfl
theorem pT(T:List Th)(p:Kd->Bool):(nmK T p).Sublist (T.map Th.n):=List.Sublist.map _ List.filter_sublist
abbrev dcI(V:List (Str×Int)):L4.D:=.dic (V.map λq=>kS q.1) (V.map λq=>D.int q.2)
def moL(T:List Th)(M:List Mk):List (Str×Int):=((nmK T Kd.mk).map λx=>(x,(1:Int)))++M.map λm=>(m.n,m.mo)
theorem CU(g:Good T M dk):∃V:List (Str×Int),qC [pz T M dk y]=some (dcI V)/\V.map aF=nmK T Kd.mk++M.map Mk.n/\(∀q∈V,1<=q.2)/\V=moL T M:=by
 have hl:=g.len;have hm:=g.m4;let sp:=pz T M dk y;have nd:(nmK T Kd.mk++M.map Mk.n).Nodup:=g.nd.sublist ((pT T _).append (eF _));have ndk:(((nmK T Kd.mk).map kS)++M.map λm=>kS m.n).Nodup:=by have:=sM nd;rw[aX,aU]at this;exact this
 have hln:(nmK T Kd.mk).length<=200:=by have:=(pT T Kd.mk).length_le;rw[ah]at this;omega
 obtain⟨s2,e1⟩:=vA (g:=gN 2) (i:=1) (fk:=cV 2) (fv:=cC (.int 1)) D.str id (λ_=>D.int 1) (λks ds s=>[.im sp,.dk ks ds,s,.un,.un])
  (λx ks ds s=>⟨[.im sp,.dk ks ds,.im (.str x),.un,.un],rfl,rfl,rfl,rfl,λks' ds'=>⟨_,rfl⟩⟩) (nmK T Kd.mk) [] [] .un (by rw[bH];exact(bV.mp ndk).1) (by simp;omega) rfl
 rw[bH,bH]at e1;have gen:∀(l:List Mk) (ks:List Key) (ds:List L4.D) (a b c:Sl),(ks++l.map λm=>kS m.n).Nodup->ks.length+l.length<=1000->ds.length=ks.length->∃a' b' c',forL (gT (oK (gN 2) (oK (gN 3) (oK (gN 4) qj))) 3) (pJ 1 ar aw) (l.map mkT) [.im sp,.dk ks ds,a,b,c]=some (.nx [.im sp,.dk (ks++l.map λm=>kS m.n) (ds++l.map λm=>D.int m.mo),a',b',c']):=by
  intro l
  induction l with
  |nil=>intro ks ds a b c _ _ _;exact⟨a,b,c,by rw[bJ,bJ,bJ,br,br];rfl⟩
  |cons m l ih=>
   intro ks ds a b c nd hl he;rw[aK]at hl;have hn:kS m.n∉ks:=λz=>by rw[bV]at nd;exact nd.2.2 _ z _ (by rw[ay];exact aV) rfl
   obtain⟨a',b',c',h⟩:=ih (ks++[kS m.n]) (ds++[.int m.mo]) (.im (.str m.n)) (.im (.int m.st)) (.im (.int m.mo)) (by rw[bA];exact nd) (by rw[aD,aZ];omega) (by rw[aD,aD,he,aZ,aZ]);refine⟨a',b',c',?_⟩;rw[ay];unfold forL;rw[show gT (oK (gN 2) (oK (gN 3) (oK (gN 4) qj))) 3 (mkT m) [.im sp,.dk ks ds,a,b,c]=some [.im sp,.dk ks ds,.im (.str m.n),.im (.int m.st),.im (.int m.mo)] from rfl];simp only[xG (i:=1) (fk:=cV 2) (fv:=cV 4) (ρ:=[.im sp,.dk ks ds,.im (.str m.n),.im (.int m.st),.im (.int m.mo)]) (x:=m.n) (d:=.int m.mo) rfl rfl rfl hn (by omega) he];refine h.trans ?_;rw[ay,ay,bA,bA];rfl
 obtain⟨a',b',c',e2⟩:=gen M ((nmK T Kd.mk).map kS) ((nmK T Kd.mk).map λ_=>D.int 1) s2 .un .un ndk (by rw[ah];omega) (by rw[ah,ah]);let V:List (Str×Int):=((nmK T Kd.mk).map λx=>(x,(1:Int)))++M.map λm=>(m.n,m.mo);refine⟨V,oI (ρ:=[.im sp,.im (dcI V),a',b',c']) rfl ?_,?_,λq hq=>?_,rfl⟩
 ·unfold wm;refine(oe (ρ':=[.im sp,.dk [] [],.un,.un,.un]) rfl).trans ?_;refine(oe ((qa (xH (pB (oi (og rfl (og rfl rfl)) (of_ok (by omega) Kd.mk W1))))).trans e1)).trans ?_;refine(oe ((qa rfl).trans e2)).trans ?_;have q1:V.map (λq=>kS q.1)=(nmK T Kd.mk).map kS++M.map λm=>kS m.n:=by simp only[V,aX,aU];rfl
  have q2:V.map (λq=>D.int q.2)=((nmK T Kd.mk).map λ_=>D.int 1)++M.map λm=>D.int m.mo:=by simp only[V,aX,aU];rfl
  unfold dcI;rw[q1,q2];rfl
 ·simp only[V,aX,aU];rw[show (aF∘λx:Str=>(x,(1:Int)))=id from rfl,List.map_id];rfl
 ·rcases bw.mp hq with h|h
  ·obtain⟨x,_,rfl⟩:=aL.mp h;exact Int.le_refl _
  ·obtain⟨m,h1,rfl⟩:=aL.mp h;exact(g.mo m h1).1
theorem Ig(h:e ρ=some (.dic ks ds,ρ1)):iIt e ρ=some (zf (ks.map HG) ds,ρ1):=by unfold iIt;rw[h]
theorem An:∀V:List (Str×Int),zf ((V.map λq=>kS q.1).map HG) (V.map λq=>D.int q.2)=V.map λq=>D.tup [.str q.1,.int q.2]
 |[]=>rfl
 |q::V=>by have:=An V;unfold zf at this ⊢;rw[ay,ay,ay,eh,this];rfl
abbrev kG:=(oa (c2 pI aw aG) oJ)
theorem Ny(g:Good T M dk)(hi:IL es):∃(V:List (Str×Int)) (es':List L4.D),IL es'/\sy es [pz T M dk y]=some (dcI V,es')/\V.map aF=nmK T Kd.mk++M.map Mk.n/\∀p∈V,∃q∈moL T M,p.1=q.1/\0<=p.2/\p.2<=q.2:=by
 obtain⟨V0,e0,n0,p0,w0⟩:=CU (y:=y) g;let sp:=pz T M dk y;have nd:(nmK T Kd.mk++M.map Mk.n).Nodup:=g.nd.sublist ((pT T _).append (eF _));have hln:V0.length<=204:=by have h1:=aS bS n0;have h2:=(pT T Kd.mk).length_le;have h3:=g.len;have h4:=g.m4;rw[ah,aD,ah]at h1;rw[ah]at h2;omega
 have gen:∀(l:List (Str×Int)) (es:List L4.D) (ks:List Key) (ds:List L4.D) (a b:Sl),IL es->(∀q∈l,1<=q.2)->(ks++l.map λq=>kS q.1).Nodup->ks.length+l.length<=1000->ds.length=ks.length->∃(V:List (Str×Int)) (es':List L4.D) (a' b':Sl),IL es'/\V.map aF=l.map aF/\(∀p∈V,∃q∈l,p.1=q.1/\0<=p.2/\p.2<=q.2)/\
   forL (gT (oK (gN 3) (oK (gN 4) qj)) 2) (pJ 2 av (pf oh 1 kG)) (l.map λq=>D.tup [.str q.1,.int q.2]) [.im sp,.pm es,.dk ks ds,a,b]=some (.nx [.im sp,.pm es',.dk (ks++V.map λq=>kS q.1) (ds++V.map λq=>D.int q.2),a',b']):=by
  intro l
  induction l with
  |nil=>intro es ks ds a b hi _ _ _ _;exact⟨[],es,a,b,hi,rfl,λp hp=>(bN hp).elim,by rw[bJ,bJ,bJ,br,br];rfl⟩
  |cons q l ih=>
   intro es ks ds a b hi hp nd hl he;rw[aK]at hl;have hq:=hp q aV;obtain⟨v,es1,h1,hv0,hv1,h4⟩:=qh hi (q.2+1) (by omega);have hn:kS q.1∉ks:=λz=>by rw[bV]at nd;exact nd.2.2 _ z _ (by rw[ay];exact aV) rfl
   obtain⟨V,es',a',b',g1,g2,gw,g3⟩:=ih es1 (ks++[kS q.1]) (ds++[.int v]) (.im (.str q.1)) (.im (.int q.2)) h1 (λq hq=>hp q (bh _ hq)) (by rw[bA];exact nd) (by rw[aD,aZ];omega) (by rw[aD,aD,he,aZ,aZ]);refine⟨(q.1,v)::V,es',a',b',g1,by rw[ay,ay,g2],λp hp=>?_,?_⟩
   ·rcases aN.mp hp with rfl|hp
    ·exact⟨q,aV,rfl,hv0,by show v<=q.2;omega⟩
    ·obtain⟨q',c1,c2⟩:=gw p hp;exact⟨q',bh _ c1,c2⟩
   rw[ay];unfold forL;rw[show gT (oK (gN 3) (oK (gN 4) qj)) 2 (.tup [.str q.1,.int q.2]) [.im sp,.pm es,.dk ks ds,a,b]=some [.im sp,.pm es,.dk ks ds,.im (.str q.1),.im (.int q.2)] from rfl];have ev:pf oh 1 kG [.im sp,.pm es,.dk ks ds,.im (.str q.1),.im (.int q.2)]=some (.int v,[.im sp,.pm es1,.dk ks ds,.im (.str q.1),.im (.int q.2)]):=(qX (es0:=es) (es:=es) (ρ1:=[.im sp,.pm es,.dk ks ds,.im (.str q.1),.im (.int q.2)]) rfl (og (oo rfl rfl rfl) rfl) rfl h4).trans rfl;have st:pJ 2 av (pf oh 1 kG) [.im sp,.pm es,.dk ks ds,.im (.str q.1),.im (.int q.2)]=some (.nx [.im sp,.pm es1,.dk (ks++[kS q.1]) (ds++[.int v]),.im (.str q.1),.im (.int q.2)]):=by have:=xG (i:=2) (fk:=cV 3) (fv:=cC (.int v)) (ρ:=[.im sp,.pm es1,.dk ks ds,.im (.str q.1),.im (.int q.2)]) (x:=q.1) (d:=.int v) rfl rfl rfl hn (by omega) he;unfold pJ at this ⊢;rw[ev];exact this
   simp only[st];refine g3.trans ?_;rw[ay,ay,bA,bA];rfl
 have ndV:(([]:List Key)++V0.map λq=>kS q.1).Nodup:=by have:=sM (l:=V0.map aF) (by rw[n0];exact nd);rw[aU]at this;rw[bH];exact this
 obtain⟨V,es',a',b',g1,g2,gw,g3⟩:=gen V0 es [] [] .un .un hi p0 ndV (by simp;omega) rfl;rw[bH,bH]at g3;refine⟨V,es',g1,?_,by rw[g2,n0],λp hp=>w0▸gw p hp⟩;have run:tV (stL 5 es [sp])=some (.rt (dcI V) [.im sp,.pm es',.im (dcI V),a',b']):=by unfold tV;refine(oe (ρ':=[.im sp,.pm es,.dk [] [],.un,.un]) rfl).trans ?_;refine(oe ((qa (ds:=V0.map λq=>D.tup [.str q.1,.int q.2]) (ρ1:=[.im sp,.pm es,.dk [] [],.un,.un]) ?_).trans g3)).trans rfl;exact(Ig (oi (g:=qC) (ds:=[sp]) (ρ1:=[.im sp,.pm es,.dk [] [],.un,.un]) rfl e0)).trans (by rw[An])
 unfold sy fnL;rw[ai (show [sp].length=1 from rfl),run];rfl
abbrev atD(A:List (Str×Str)):L4.D:=.dic (A.map λq=>kS q.1) (A.map λq=>D.str q.2)
structure Pl(y:Str)(rm:aC)(A:List (Str×Str))(Hs:aC)(rk:Str->Nat)(m:Nat):Prop where
 nd:(A.map aF).Nodup
 lt:∀q∈A,rk q.2<rk q.1/\rk q.1<m
 vh:∀q∈A,q.2∈Hs
 hs:∀h∈Hs,rk h<m
 ry:rk y=1
 rr:∀x∈rm,rk x=0
theorem Pl.add{rm:aC}{A:List (Str×Str)}{rk:Str->Nat}{m:Nat}(P:Pl y rm A Hs rk m){x h:Str}(hh:h∈Hs)(h1:x∉A.map aF)(h2:x∉Hs)(h3:x≠y)(h4:x∉rm)(Hs':aC)(hH:∀z∈Hs',z∈Hs\/z=x)(hS:∀z∈Hs,z∈Hs'):
  ∃rk',Pl y rm (A++[(x,h)]) Hs' rk' (m+1):=by
 have ne:∀z∈Hs,z≠x:=λz hz e=>h2 (e▸hz);refine⟨λz=>if z=x then m else rk z,?_,λq hq=>?_,λq hq=>?_,λz hz=>?_,?_,λz hz=>?_⟩
 ·rw[aX,bV];refine⟨P.nd,by simp,λa ha b hb=>?_⟩;simp only[ay,bJ,aR]at hb;subst hb;exact λe=>h1 (e▸ha)
 ·rcases bw.mp hq with hq|hq
  ·obtain⟨a,b⟩:=P.lt q hq;rw[aj (ne _ (P.vh q hq)),aj (show ¬q.1=x from λe=>h1 (e▸cu hq))];exact⟨a,by omega⟩
  ·rw[aR]at hq;subst hq;rw[aj (ne h hh),ai rfl];exact⟨P.hs h hh,by omega⟩
 ·rcases bw.mp hq with hq|hq
  ·exact hS _ (P.vh q hq)
  ·rw[aR]at hq;subst hq;exact hS _ hh
 ·by_cases e:z=x
  ·rw[ai e];omega
  ·rw[aj e];rcases hH z hz with hz|hz
   ·have:=P.hs z hz;omega
   ·exact aq hz e
 ·rw[aj (λe=>h3 e.symm)];exact P.ry
 ·rw[aj (show ¬z=x from λe=>h4 (e▸hz))];exact P.rr z hz
theorem CV{α:Type}:∀(l:List α) (j:Nat) (h:j<l.length),(l[j]::l.eraseIdx j).Perm l
 |a::l,0,_=>jM _
 |a::l,j+1,h=>(List.Perm.swap a _ _).trans ((CV l j (by simpa using h)).cons a)
theorem Em{α β:Type}(f:α->β):∀(l:List α) (j:Nat),(l.map f).eraseIdx j=(l.eraseIdx j).map f
 |[],j=>rfl
 |a::l,0=>rfl
 |a::l,j+1=>by show f a::(l.map f).eraseIdx j=_;rw[Em f l j];rfl
theorem Fl{x:Str}(h1:fv ρ=some (d,ρ1))(h2:ρ1[i]?=some (.dk ks ds))(h3:fk ρ1=some (.str x,ρ1))(hn:kS x∉ks)(hl:ks.length<1000)(he:ds.length=ks.length):
  pJ i fk fv ρ=some (.nx (ρ1.set i (.dk (ks++[kS x]) (ds++[d])))):=by
 have:=xG (i:=i) (fk:=fk) (fv:=cC d) (ρ:=ρ1) rfl h2 h3 hn hl he;unfold pJ at this ⊢;rw[h1];exact this
theorem Ih{A:List (Str×Str)}{x:Str}(h:x∉A.map aF):kS x∉A.map λq=>kS q.1:=λz=>by obtain⟨q,hq,e⟩:=aL.mp z;exact h (aL.mpr ⟨q,hq,CM e⟩)
abbrev dkA(A:List (Str×Str)):Sl:=.dk (A.map λq=>kS q.1) (A.map λq=>D.str q.2)
theorem CW(A:List (Str×Str))(x h:Str):Sl.dk ((A.map λq=>kS q.1)++[kS x]) ((A.map λq=>D.str q.2)++[.str h])=dkA (A++[(x,h)]):=by unfold dkA;rw[aX,aX];rfl
theorem xV:∀xs:aC,zY (xs.map D.str)=some (xs.map L3.Dq.str)
 |[]=>rfl
 |x::xs=>by rw[ay];unfold zY;rw[xV xs];rfl
theorem GP(x:Str)(xs:aC):dEq true (.lst ((x::xs).map D.str)) (.lst [])=some (.bl true):=by
 have e0:za true (.lst ((x::xs).map D.str)) (.lst [])=none:=rfl;have e1:toD (.lst ((x::xs).map D.str))=some (.lst ((x::xs).map L3.Dq.str)):=by unfold toD;rw[xV]
 have e3:dpt (.lst ((x::xs).map L3.Dq.str))=1:=by rw[dpt,u5]
 unfold dEq;rw[e0];show zb true _ _=_;unfold zb;rw[e1,show toD (.lst [])=some (.lst []) from rfl];show (if DJ (.lst ((x::xs).map L3.Dq.str)) (.lst [])&&decide (dpt (.lst ((x::xs).map L3.Dq.str))<=20)&&decide (dpt (.lst [])<=20)then some (D.bl !(eqD (.lst ((x::xs).map L3.Dq.str)) (.lst [])))else none)=_;rw[e3];rfl
def QZ:FT:=yf (cT (c2 (dEq true) aw (cL (oU oJ))))
abbrev kI:=(oa (zc (c1 p5 av)) oJ)
def NA:FS:=(oj (oV 5 (yI 4 (pf oh 1 je)))
 (oj (pJ 2 aJ (zV 3 (pf oh 1 kI)))
 (o9 (sE 3 aJ))))
theorem GQ(sp:L4.D)(y:Str)(rm:aC):∀(n:Nat) (bx:aC) (es:List L4.D) (A:List (Str×Str)) (Hs:aC) (rk:Str->Nat) (m f:Nat) (s5:Sl),bx.length=n->n<f->IL es->Pl y rm A Hs rk m->Hs≠[]->bx.Nodup->(∀b∈bx,b∉A.map aF/\b∉Hs/\b≠y/\b∉rm)->A.length+n<=900->Hs.length+n<=900->
  ∃(es':List L4.D) (A':List (Str×Str)) (Hs':aC) (rk':Str->Nat) (t5:Sl),IL es'/\Pl y rm A' Hs' rk' (m+n)/\(∀z∈Hs',z∈Hs\/z∈bx)/\(∀z∈Hs,z∈Hs')/\(∀z∈A'.map aF,z∈A.map aF\/z∈bx)/\A'.length=A.length+n/\Hs'.length<=Hs.length+n/\
   whL QZ NA f [.im sp,.pm es,dkA A,.ls (Hs.map D.str),.ls (bx.map D.str),s5,.un,.un]=some (.nx [.im sp,.pm es',dkA A',.ls (Hs'.map D.str),.ls [],t5,.un,.un])
 |0,bx,es,A,Hs,rk,m,f+1,s5,hb,_,hi,P,_,_,_,_,_=>by
  cases bx with
  |cons b bx=>cases hb
  |nil=>exact⟨es,A,Hs,rk,s5,hi,P,λz hz=>.inl hz,λz hz=>hz,λz hz=>.inl hz,rfl,aI _,rfl⟩
 |n+1,bx,es,A,Hs,rk,m,f+1,s5,hb,hf,hi,P,h0,nd,fr,hA,hHl=>by
  obtain⟨v,es1,i1,v0,v1,d1⟩:=qh hi bx.length (by omega);obtain⟨j,rfl⟩:=cq v0;have hj:j<bx.length:=by omega
  let b:=bx[j];let bx':=bx.eraseIdx j;have perm:(b::bx').Perm bx:=CV bx j hj;have ndb:(b::bx').Nodup:=perm.nodup_iff.mpr nd;have hbm:b∈bx:=dA hj;obtain⟨f1,f2,f3,f4⟩:=fr b hbm;have hbl:bx'.length=n:=by have:=perm.length_eq;rw[aK]at this;omega
  let ρ1:aW:=[.im sp,.pm es1,dkA A,.ls (Hs.map D.str),.ls (bx'.map D.str),.im (.str b),.un,.un];obtain⟨h,es2,hh,i2,d2⟩:=Fk (ρ:=ρ1) (i:=1) (j:=3) i1 h0 rfl rfl rfl (λ_=>rfl);obtain⟨rk1,P1⟩:=P.add hh f1 f2 f3 f4 (Hs++[b]) (λz hz=>by
   rcases bw.mp hz with hz|hz
   ·exact .inl hz
   ·exact .inr (aR.mp hz)) λz hz=>bG _ hz
  obtain⟨es',A',Hs',rk',t5,g1,g2,g3,g4,g5,g6,g7,g8⟩:=GQ sp y rm n bx' es2 (A++[(b,h)]) (Hs++[b]) rk1 (m+1) f (.im (.str b)) hbl (by omega) i2 P1 (by simp) (bY.mp ndb).2 (λc hc=>by
   obtain⟨q1,q2,q3,q4⟩:=fr c (perm.subset (bh _ hc));have ne:c≠b:=λe=>(bY.mp ndb).1 (e▸hc);refine⟨λz=>?_,λz=>?_,q3,q4⟩
   ·rw[aX]at z;rcases bw.mp z with z|z
    ·exact q1 z
    ·exact ne (by simpa using z)
   ·rcases bw.mp z with z|z
    ·exact q2 z
    ·exact ne (aR.mp z)) (by rw[aD,aZ];omega) (by rw[aD,aZ];omega)
  refine⟨es',A',Hs',rk',t5,g1,by rw[show m+(n+1)=m+1+n by omega];exact g2,λz hz=>?_,λz hz=>g4 z (bG _ hz),λz hz=>?_,by rw[g6,aD,aZ];omega,by rw[aD,aZ]at g7;omega,?_⟩
  ·rcases g3 z hz with h|h
   ·rcases bw.mp h with h|h
    ·exact .inl h
    ·exact .inr (by rw[aR.mp h];exact hbm)
   ·exact .inr (perm.subset (bh _ h))
  ·rcases g5 z hz with h|h
   ·rw[aX]at h;rcases bw.mp h with h|h
    ·exact .inl h
    ·exact .inr (by rw[show z=b by simpa using h];exact hbm)
   ·exact .inr (perm.subset (bh _ h))
  ·have et:QZ [.im sp,.pm es,dkA A,.ls (Hs.map D.str),.ls (bx.map D.str),s5,.un,.un]=some (true,[.im sp,.pm es,dkA A,.ls (Hs.map D.str),.ls (bx.map D.str),s5,.un,.un]):=by
    cases hx:bx with
    |nil=>rw[hx]at hb;cases hb
    |cons c bc=>exact EO (ρ1:=[.im sp,.im (.lst es),.un,.im (.lst (Hs.map D.str)),.im (.lst ((c::bc).map D.str)),s5.bor,.un,.un]) (pG (oo rfl rfl (GP c bc)))
   have ep:yI 4 (pf oh 1 je) [.im sp,.pm es,dkA A,.ls (Hs.map D.str),.ls (bx.map D.str),s5,.un,.un]=some (.str b,[.im sp,.pm es1,dkA A,.ls (Hs.map D.str),.ls (bx'.map D.str),s5,.un,.un]):=by have e1:zc (c1 p5 aw) [.im sp,.pm es,dkA A,.ls (Hs.map D.str),.ls (bx.map D.str),s5,.un,.un]=some (.int bx.length,[.im sp,.pm es,dkA A,.ls (Hs.map D.str),.ls (bx.map D.str),s5,.un,.un]):=Mm (ρ1:=[.im sp,.im (.lst es),.un,.im (.lst (Hs.map D.str)),.im (.lst (bx.map D.str)),s5.bor,.un,.un]) (pD (x:=.lst (bx.map D.str)) rfl (by show some (D.int _)=_;rw[ah])) rfl;have e2:pf oh 1 je [.im sp,.pm es,dkA A,.ls (Hs.map D.str),.ls (bx.map D.str),s5,.un,.un]=some (.int j,[.im sp,.pm es1,dkA A,.ls (Hs.map D.str),.ls (bx.map D.str),s5,.un,.un]):=(qX (es0:=es) (es:=es) (ρ1:=[.im sp,.pm es,dkA A,.ls (Hs.map D.str),.ls (bx.map D.str),s5,.un,.un]) rfl (og e1 rfl) rfl d1).trans rfl;unfold yI;rw[show pX [.im sp,.pm es,dkA A,.ls (Hs.map D.str),.ls (bx.map D.str),s5,.un,.un] 4=some (bx.map D.str) from rfl];simp only[e2];rw[show pX [.im sp,.pm es1,dkA A,.ls (Hs.map D.str),.ls (bx.map D.str),s5,.un,.un] 4=some (bx.map D.str) from rfl];simp only;rw[ai (by omega),ic,bu,aP hj];show (if (j:Int)<1000000 then some (D.str b,[Sl.im sp,.pm es1,dkA A,.ls (Hs.map D.str),.ls ((bx.map D.str).eraseIdx j),s5,.un,.un])else none)=_;rw[ai (by omega),Em]
   have e3:NA [.im sp,.pm es,dkA A,.ls (Hs.map D.str),.ls (bx.map D.str),s5,.un,.un]=some (.nx [.im sp,.pm es2,dkA (A++[(b,h)]),.ls ((Hs++[b]).map D.str),.ls (bx'.map D.str),.im (.str b),.un,.un]):=by
    unfold NA;refine(oe (ρ':=ρ1) ((oM ep).trans rfl)).trans ?_;refine(oe (ρ':=[.im sp,.pm es2,dkA (A++[(b,h)]),.ls (Hs.map D.str),.ls (bx'.map D.str),.im (.str b),.un,.un]) ((Fl (x:=b) d2 rfl rfl (Ih f1) (by rw[ah];omega) (by rw[ah,ah])).trans ?_)).trans ?_
    ·show some (Out.nx [.im sp,.pm es2,Sl.dk ((A.map λq=>kS q.1)++[kS b]) ((A.map λq=>D.str q.2)++[.str h]),.ls (Hs.map D.str),.ls (bx'.map D.str),.im (.str b),.un,.un])=_;rw[CW]
    ·refine(pP (vP (es0:=Hs.map D.str) (es:=Hs.map D.str) (ρ1:=[.im sp,.pm es2,dkA (A++[(b,h)]),.ls (Hs.map D.str),.ls (bx'.map D.str),.im (.str b),.un,.un]) (d:=.str b) rfl rfl rfl (by rw[ah];omega))).trans ?_;show some (Out.nx [.im sp,.pm es2,dkA (A++[(b,h)]),.ls (Hs.map D.str++[.str b]),.ls (bx'.map D.str),.im (.str b),.un,.un])=_;rw[show Hs.map D.str++[D.str b]=(Hs++[b]).map D.str by rw[aX];rfl]
   unfold whL;rw[et];simp only[e3];exact g8
theorem GR(sp:L4.D)(y:Str)(rm:aC)(s4 s5:Sl):∀(l:aC) (es:List L4.D) (A:List (Str×Str)) (Hs:aC) (rk:Str->Nat) (m:Nat) (s6:Sl),IL es->Pl y rm A Hs rk m->Hs≠[]->l.Nodup->(∀b∈l,b∉A.map aF/\b∉Hs/\b≠y/\b∉rm)->A.length+l.length<=900->
  ∃(es':List L4.D) (A':List (Str×Str)) (rk':Str->Nat) (t6:Sl),IL es'/\Pl y rm A' Hs rk' (m+l.length)/\(∀z∈A'.map aF,z∈A.map aF\/z∈l)/\A'.length=A.length+l.length/\
   forL (gN 6) (pJ 2 aY (zV 3 (pf oh 1 kI))) (l.map D.str) [.im sp,.pm es,dkA A,.ls (Hs.map D.str),s4,s5,s6,.un]=some (.nx [.im sp,.pm es',dkA A',.ls (Hs.map D.str),s4,s5,t6,.un])
 |[],es,A,Hs,rk,m,s6,hi,P,_,_,_,_=>⟨es,A,rk,s6,hi,P,λz hz=>.inl hz,rfl,rfl⟩
 |b::l,es,A,Hs,rk,m,s6,hi,P,h0,nd,fr,hA=>by
  rw[aK]at hA;obtain⟨f1,f2,f3,f4⟩:=fr b aV;let ρ1:aW:=[.im sp,.pm es,dkA A,.ls (Hs.map D.str),s4,s5,.im (.str b),.un];obtain⟨h,es2,hh,i2,d2⟩:=Fk (ρ:=ρ1) (i:=1) (j:=3) hi h0 rfl rfl rfl (λ_=>rfl);obtain⟨rk1,P1⟩:=P.add hh f1 f2 f3 f4 Hs (λz hz=>.inl hz) λz hz=>hz;obtain⟨es',A',rk',t6,g1,g2,g5,g6,g8⟩:=GR sp y rm s4 s5 l es2 (A++[(b,h)]) Hs rk1 (m+1) (.im (.str b)) i2 P1 h0 (bY.mp nd).2 (λc hc=>by
   obtain⟨q1,q2,q3,q4⟩:=fr c (bh _ hc);have ne:c≠b:=λe=>(bY.mp nd).1 (e▸hc);refine⟨λz=>?_,q2,q3,q4⟩;rw[aX]at z;rcases bw.mp z with z|z
   ·exact q1 z
   ·exact ne (by simpa using z)) (by rw[aD,aZ];omega)
  refine⟨es',A',rk',t6,g1,by rw[aK,show m+(l.length+1)=m+1+l.length by omega];exact g2,λz hz=>?_,by rw[g6,aD,aZ,aK];omega,?_⟩
  ·rcases g5 z hz with h|h
   ·rw[aX]at h;rcases bw.mp h with h|h
    ·exact .inl h
    ·exact .inr (by rw[show z=b by simpa using h];exact aV)
   ·exact .inr (bh _ h)
  ·rw[ay];unfold forL;rw[show gN 6 (.str b) [.im sp,.pm es,dkA A,.ls (Hs.map D.str),s4,s5,s6,.un]=some ρ1 from rfl];have st:pJ 2 aY (zV 3 (pf oh 1 kI)) ρ1=some (.nx [.im sp,.pm es2,dkA (A++[(b,h)]),.ls (Hs.map D.str),s4,s5,.im (.str b),.un]):=by refine(Fl (x:=b) d2 rfl rfl (Ih f1) (by rw[ah];omega) (by rw[ah,ah])).trans ?_;show some (Out.nx [.im sp,.pm es2,Sl.dk ((A.map λq=>kS q.1)++[kS b]) ((A.map λq=>D.str q.2)++[.str h]),.ls (Hs.map D.str),s4,s5,.im (.str b),.un])=_;rw[CW]
   simp only[st];exact g8
theorem Ii(nd:(T.map Th.n).Nodup){u:Th}(ht:t∈T)(hu:u∈T)(e:t.n=u.n):t=u:=by
 induction T with
 |nil=>cases ht
 |cons a T ih=>
  rw[ay,bY]at nd;rcases aN.mp ht with h1|h1<;>rcases aN.mp hu with h2|h2
  ·exact h1.trans h2.symm
  ·exact aq (show a.n∈T.map Th.n from h1▸e▸cu h2) nd.1
  ·exact aq (show a.n∈T.map Th.n from h2▸e▸cu h1) nd.1
  ·exact ih nd.2 h1 h2
variable{p:Kd->Bool}
theorem uL{x:Str}(h:x∈nmK T p):∃t∈T,t.n=x/\p t.k=true:=by obtain⟨t,h1,h2⟩:=aL.mp h;obtain⟨h3,h4⟩:=bO.mp h1;exact⟨t,h3,h2,h4⟩
variable{q:Kd->Bool}
theorem xI(nd:(T.map Th.n).Nodup)(h:∀k,p k=true->q k=true->False){x:Str}(h1:x∈nmK T p)(h2:x∈nmK T q):False:=by obtain⟨t,a1,a2,a3⟩:=uL h1;obtain⟨u,b1,b2,b3⟩:=uL h2;have:=Ii nd a1 b1 (a2.trans b2.symm);subst this;exact h _ a3 b3
theorem Ik(h:∀k,p k=true->q k=true):(nmK T p).length<=(T.filter λt=>q t.k).length:=by unfold nmK;rw[ah,<- gW,<- gW];exact lQ λt _ ht=>h _ ht
theorem Jw:∀{l L:aC},l.Nodup->(∀x∈l,x∈L)->L.length<=l.length->∀x∈L,x∈l
 |[],L,_,_,hl,x,hx=>by rw[cO,Nat.le_zero,lD]at hl;subst hl;cases hx
 |a::l,L,nd,hs,hl,x,hx=>by
  rw[bY]at nd;have ha:=hs a aV;by_cases e:x=a
  ·rw[e];exact aV
  ·refine bh _ (Jw (L:=L.erase a) nd.2 (λz hz=>(lW (show z≠a from λw=>nd.1 (w▸hz))).mpr (hs z (bh _ hz))) ?_ x ((lW e).mpr hx));rw[List.length_erase_of_mem ha];rw[aK]at hl;omega
structure vB(A:List (Str×Str))(y:Str):Prop where
 nd:(A.map aF).Nodup
 rk:∃rk:Str->Nat,∀q∈A,rk q.2<rk q.1/\rk q.1<40
 yo:∃r,(y,r)∈A
 ln:A.length<=20
theorem KY(g:Good T M dk)(hy:(T.filter λt=>decide (t.k=.you)).map Th.n=[y])(hi:IL es):∃(A:List (Str×Str)) (es':List L4.D),IL es'/\vB A y/\(∀q∈A,q.2∈T.map Th.n)/\((∀x,x∈A.map aF ↔ x∈nmK T λk=>!decide (k=.room))/\(∀q∈A,q.2∈nmK T Kd.hd)/\∀r,(y,r)∈A->r∈nmK T λk=>decide (k=.room))/\rG es [pz T M dk y]=some (atD A,es'):=by
 have hl:=g.len;have nd:=g.ndT;let sp:=pz T M dk y;let rm:=nmK T λk=>decide (k=.room);let bx:=nmK T λk=>decide (k=.box);let ot:=nmK T Kd.ot;let Hs:=nmK T λk=>!k.pl;have hyy:y∈nmK T λk=>decide (k=.you):=by unfold nmK;rw[hy];exact aR.mpr rfl
 have hyH:y∈Hs:=by obtain⟨t,h1,h2,h3⟩:=uL hyy;refine aL.mpr ⟨t,bO.mpr ⟨h1,?_⟩,h2⟩;rw[bj h3];rfl
 have yrm:∀x∈rm,x≠y:=λx hx e=>xI nd (λk h1 h2=>by rw[bj h1]at h2;cases h2) (e▸hx) hyy;have P0:Pl y rm [] Hs (λz=>if z=y then 1 else 0) 2:=⟨gd,λq hq=>(bN hq).elim,λq hq=>(bN hq).elim,λh _=>by split<;>omega,ai rfl,λx hx=>aj (yrm x hx)⟩;have fresh:∀(p:Kd->Bool),(∀k,p k=true->k.pl=true)->∀b∈nmK T p,b∉Hs/\b≠y/\b∉rm:=λp hp b hb=>⟨λz=>xI nd (λk h1 h2=>by rw[hp k h1]at h2;cases h2) hb z,λe=>xI nd (λk h1 h2=>by have:=hp k h1;rw[bj h2]at this;cases this) hb (e▸hyy),λz=>xI nd (λk h1 h2=>by have:=hp k h1;rw[bj h2]at this;cases this) hb z⟩
 have hpb:∀k:Kd,decide (k=.box)=true->k.pl=true:=λk h=>by rw[bj h];rfl
 have hpo:∀k:Kd,k.ot=true->k.pl=true:=λk h=>by cases k<;>first|rfl|cases h
 have hbl:bx.length<=7:=bI (Ik hpb) g.p7;have hol:ot.length<=7:=bI (Ik hpo) g.p7;have hHl:Hs.length<=200:=by have:=(pT T λk=>!k.pl).length_le;rw[ah]at this;exact bI this hl
 obtain⟨es1,A1,Hs1,rk1,t5,i1,P1,h3,h4,h5,h6,h7,h8⟩:=GQ sp y rm bx.length bx es [] Hs _ 2 50 .un rfl (by omega) hi P0 (λe=>by rw[e]at hyH;cases hyH) (nd.sublist (pT T _)) (λb hb=>⟨λz=>(bN z).elim,fresh _ hpb b hb⟩) (by simp;omega) (by omega);have frO:∀b∈ot,b∉bx:=λb hb z=>xI nd (λk h1 h2=>by rw[bj h2]at h1;cases h1) hb z;obtain⟨es2,A2,rk2,t6,i2,P2,q5,q6,q8⟩:=GR sp y rm (.ls []) t5 ot es1 A1 Hs1 rk1 (2+bx.length) .un i1 P1 (λe=>by have:=h4 y hyH;rw[e]at this;cases this) (nd.sublist (pT T _)) (λb hb=>by
  obtain⟨f1,f2,f3⟩:=fresh _ hpo b hb;refine⟨λz=>?_,λz=>?_,f2,f3⟩
  ·rcases h5 b z with z|z
   ·cases z
   ·exact frO b hb z
  ·rcases h3 b z with z|z
   ·exact f1 z
   ·exact frO b hb z) (by rw[h6];simp;omega)
 have hrl:0<rm.length:=by have:=g.r1;simp only[rm,nmK,ah];omega
 obtain⟨v,es3,i3,v0,v1,d3⟩:=qh i2 rm.length (by omega);obtain⟨j,rfl⟩:=cq v0;have hj:j<rm.length:=by omega
 let z:=rm[j];have hz:z∈rm:=dA hj;have hyk:y∉A2.map aF:=λw=>by
  rcases q5 y w with w|w
  ·rcases h5 y w with w|w
   ·cases w
   ·exact(fresh _ hpb y w).2.1 rfl
  ·exact(fresh _ hpo y w).2.1 rfl
 have hA2:A2.length<=14:=by rw[q6,h6];simp;omega
 refine⟨A2++[(y,z)],es3,i3,⟨?_,⟨rk2,λq hq=>?_⟩,⟨z,by simp⟩,by rw[aD,aZ];omega⟩,λq hq=>?_,⟨?K,?Hd,?Ry⟩,?_⟩
 ·rw[aX,bV];refine⟨P2.nd,by simp,λa ha b hb=>?_⟩;simp only[ay,bJ,aR]at hb;subst hb;exact λe=>hyk (e▸ha)
 ·rcases bw.mp hq with hq|hq
  ·obtain⟨a,b⟩:=P2.lt q hq;exact⟨a,by omega⟩
  ·rw[aR]at hq;subst hq;show rk2 z<rk2 y/\rk2 y<40;rw[P2.rr z hz,P2.ry];omega
 ·rcases bw.mp hq with hq|hq
  ·rcases h3 _ (P2.vh q hq)with w|w<;>exact(pT T _).subset w
  ·rw[aR]at hq;subst hq;exact(pT T _).subset hz
 case K=>
  have sub:∀x∈(A2++[(y,z)]).map aF,x∈bx++(ot++[y]):=λx hx=>by
   rw[aX]at hx;rcases bw.mp hx with hx|hx
   ·rcases q5 x hx with w|w
    ·rcases h5 x w with w|w
     ·cases w
     ·exact bG _ w
    ·exact bL _ (bG _ w)
   ·exact bL _ (bL _ hx)
  have nd2:((A2++[(y,z)]).map aF).Nodup:=by rw[aX,bV];refine⟨P2.nd,by simp,λa ha b hb=>?_⟩;simp only[ay,bJ,aR]at hb;subst hb;exact λe=>hyk (e▸ha)
  have ln:(bx++(ot++[y])).length<=((A2++[(y,z)]).map aF).length:=by rw[ah,aD,aD,aD,q6,h6,cO,aZ,aZ];omega
  have all:=Jw nd2 sub ln;have tok:∀(p:Kd->Bool),(∀k,p k=true->(!decide (k=.room))=true)->∀x∈nmK T p,x∈nmK T λk=>!decide (k=.room):=λp hp x hx=>by obtain⟨t,h1,h2,h3⟩:=uL hx;exact aL.mpr ⟨t,bO.mpr ⟨h1,hp _ h3⟩,h2⟩
  intro x;constructor
  ·intro hx;rcases bw.mp (sub x hx)with w|w
   ·exact tok _ (λk h=>by rw[bj h];rfl) x w
   ·rcases bw.mp w with w|w
    ·exact tok _ (λk h=>by cases k<;>first|rfl|cases h) x w
    ·rw[aR]at w;rw[w];exact tok _ (λk h=>by rw[bj h];rfl) y hyy
  ·intro hx;obtain⟨t,t1,t2,t3⟩:=uL hx;apply all;have mk:∀p:Kd->Bool,p t.k=true->x∈nmK T p:=λp h=>aL.mpr ⟨t,bO.mpr ⟨t1,h⟩,t2⟩;cases hk:t.k with
   |room=>rw[hk]at t3;cases t3
   |you=>have:=mk (λk=>decide (k=.you)) (by rw[hk];rfl);unfold nmK at this;rw[hy]at this;exact bL _ (bL _ this)
   |box=>exact bG _ (mk (λk=>decide (k=.box)) (by rw[hk];rfl))
   |plain=>exact bL _ (bG _ (mk Kd.ot (by rw[hk];rfl)))
   |fixed=>exact bL _ (bG _ (mk Kd.ot (by rw[hk];rfl)))
   |lamp=>exact bL _ (bG _ (mk Kd.ot (by rw[hk];rfl)))
 case Hd=>
  have toh:∀(p:Kd->Bool),(∀k,p k=true->k.hd=true)->∀x∈nmK T p,x∈nmK T Kd.hd:=λp hp x hx=>by obtain⟨t,h1,h2,h3⟩:=uL hx;exact aL.mpr ⟨t,bO.mpr ⟨h1,hp _ h3⟩,h2⟩
  intro q hq;rcases bw.mp hq with hq|hq
  ·rcases h3 _ (P2.vh q hq)with w|w
   ·exact toh _ (λk h=>by cases k<;>first|rfl|cases h) _ w
   ·exact toh _ (λk h=>by rw[bj h];rfl) _ w
  ·rw[aR]at hq;subst hq;exact toh _ (λk h=>by rw[bj h];rfl) _ hz
 case Ry=>
  intro r hr;rcases bw.mp hr with hr|hr
  ·exact aq (aL.mpr ⟨_,hr,rfl⟩) hyk
  ·rw[aR]at hr;cases hr;exact hz
 have run:sU (stL 8 es [sp])=some (.rt (atD (A2++[(y,z)])) [.im sp,.pm es3,.im (atD (A2++[(y,z)])),.ls (Hs1.map D.str),.ls [],t5,t6,.im (.lst (rm.map D.str))]):=by
  unfold sU;refine(oe (ρ':=[.im sp,.pm es,.dk [] [],.un,.un,.un,.un,.un]) rfl).trans ?_;refine(oe (ρ':=[.im sp,.pm es,.dk [] [],.ls (Hs.map D.str),.un,.un,.un,.un]) ((vM (oi (og rfl (og rfl rfl)) (of_ok (by omega) (λk=>!k.pl) W2))).trans rfl)).trans ?_;refine(oe (ρ':=[.im sp,.pm es,.dk [] [],.ls (Hs.map D.str),.ls (bx.map D.str),.un,.un,.un]) ((vM (oi (og rfl (og rfl rfl)) (of_ok (by omega) (λk=>decide (k=.box)) Nx))).trans rfl)).trans ?_;refine(oe h8).trans ?_;refine(oe ((qa (xH (pB (oi (og rfl (og rfl rfl)) (of_ok (by omega) Kd.ot W3))))).trans q8)).trans ?_;refine(oe (ρ':=[.im sp,.pm es2,dkA A2,.ls (Hs1.map D.str),.ls [],t5,t6,.im (.lst (rm.map D.str))]) ((oM (pB (oi (og rfl (og rfl rfl)) (of_ok (by omega) (λk=>decide (k=.room)) Qp)))).trans rfl)).trans ?_;have ev:c2 dIx bZ (pf oh 1 (oa (c1 p5 bZ) oJ)) [.im sp,.pm es2,dkA A2,.ls (Hs1.map D.str),.ls [],t5,t6,.im (.lst (rm.map D.str))]=some (.str z,[.im sp,.pm es3,dkA A2,.ls (Hs1.map D.str),.ls [],t5,t6,.im (.lst (rm.map D.str))]):=
   oo (x:=.lst (rm.map D.str)) (y:=.int j) (ρ1:=[.im sp,.pm es2,dkA A2,.ls (Hs1.map D.str),.ls [],t5,t6,.im (.lst (rm.map D.str))]) rfl ((qX (i:=1) (es0:=es2) (es:=es2) (ρ1:=[.im sp,.pm es2,dkA A2,.ls (Hs1.map D.str),.ls [],t5,t6,.im (.lst (rm.map D.str))]) (ds:=[.int rm.length]) rfl (by show some ([D.int ((rm.map D.str).length:Nat)],_)=_;rw[ah]) rfl d3).trans rfl) (rJ (aP hj))
  refine(oe (ρ':=[.im sp,.pm es3,dkA (A2++[(y,z)]),.ls (Hs1.map D.str),.ls [],t5,t6,.im (.lst (rm.map D.str))]) ((Fl (x:=y) ev rfl rfl (Ih hyk) (by rw[ah];omega) (by rw[ah,ah])).trans ?_)).trans rfl;show some (Out.nx [.im sp,.pm es3,Sl.dk ((A2.map λq=>kS q.1)++[kS y]) ((A2.map λq=>D.str q.2)++[.str z]),.ls (Hs1.map D.str),.ls [],t5,t6,.im (.lst (rm.map D.str))])=_;rw[CW]
 unfold rG fnL;rw[ai (show [sp].length=1 from rfl),run];rfl
theorem Il{α β:Type}{f:α->β}(hf:∀a b,f a=f b->a=b){l:List α}(h:l.Nodup):(l.map f).Nodup:=List.Pairwise.map f (λa b h e=>h (hf a b e)) h
abbrev Ky:=Str×Str
def prD(q:Ky×L4.D):L4.D:=.tup [.tup [.str q.1.1,.str q.1.2],q.2]
theorem Qq(a b c d:Str):dEq false (.tup [.str a,.str b]) (.tup [.str c,.str d])=some (.bl (decide ((a,b)=(c,d)))):=by have e0:za false (.tup [.str a,.str b]) (.tup [.str c,.str d])=none:=rfl;have e1:zb false (.tup [.str a,.str b]) (.tup [.str c,.str d])=some (.bl (L3.eqD (.tup [.str a,.str b]) (.tup [.str c,.str d]))):=rfl;unfold dEq;rw[e0];simp only;rw[e1];congr 2;rw[cD];simp[L3.eqD,L3.tG]
theorem CY(p:Sl)(k:Ky):∀(S:List (Ky×L4.D)) (s:Sl),∃s',(∃d,(k,d)∈S/\forL (gN 2) (sIf (cT (c2 (dEq false) (c2 dIx ar bb) ag)) (oG (c2 dIx ar aG)) oQ) (S.map prD) [p,.im (.tup [.str k.1,.str k.2]),s]=some (.rt d [p,.im (.tup [.str k.1,.str k.2]),s']))\/
  (k∉S.map aF/\forL (gN 2) (sIf (cT (c2 (dEq false) (c2 dIx ar bb) ag)) (oG (c2 dIx ar aG)) oQ) (S.map prD) [p,.im (.tup [.str k.1,.str k.2]),s]=some (.nx [p,.im (.tup [.str k.1,.str k.2]),s']))
 |[],s=>⟨s,.inr ⟨bN,rfl⟩⟩
 |q::S,s=>by
  have ev:cT (c2 (dEq false) (c2 dIx ar bb) ag) [p,.im (.tup [.str k.1,.str k.2]),.im (prD q)]=some (decide (q.1=k),[p,.im (.tup [.str k.1,.str k.2]),.im (prD q)]):=pG (oo (x:=.tup [.str q.1.1,.str q.1.2]) (y:=.tup [.str k.1,.str k.2]) rfl rfl (Qq _ _ _ _));rw[ay];unfold forL;rw[show gN 2 (prD q) [p,.im (.tup [.str k.1,.str k.2]),s]=some [p,.im (.tup [.str k.1,.str k.2]),.im (prD q)] from rfl];by_cases h:q.1=k
  ·rw[bg h]at ev;refine⟨.im (prD q),.inl ⟨q.2,by rw[<-h];exact aV,?_⟩⟩;simp only[o5 ev];rfl
  ·rw[aQ h]at ev;obtain⟨s',h1⟩:=CY p k S (.im (prD q));simp only[ox ev];refine⟨s',?_⟩;rcases h1 with ⟨d,h1,h2⟩|⟨h1,h2⟩
   ·exact .inl ⟨d,bh _ h1,h2⟩
   ·exact .inr ⟨λz=>by
     rw[ay]at z;rcases aN.mp z with z|z
     ·exact h z.symm
     ·exact h1 z,h2⟩
theorem zL(S:List (Ky×L4.D))(k:Ky):(∃d,(k,d)∈S/\uw [.tup (S.map prD),.tup [.str k.1,.str k.2]]=some d)\/(k∉S.map aF/\uw [.tup (S.map prD),.tup [.str k.1,.str k.2]]=some .non):=by
 obtain⟨s',h⟩:=CY (.im (.tup (S.map prD))) k S .un;rcases h with ⟨d,h1,h2⟩|⟨h1,h2⟩
 ·refine .inl ⟨d,h1,oI rfl (oR ((qa rfl).trans h2))⟩
 ·refine .inr ⟨h1,oI rfl ((oe ((qa rfl).trans h2)).trans rfl)⟩
def bas(A:List (Str×Str))(V:List (Str×Int)):List (Ky×L4.D):=(A.map λq=>((("at", q.1):Ky),D.str q.2))++V.map λq=>((("mark", q.1):Ky),D.int q.2)
theorem GT:∀B:List (Ky×L4.D),w9 (B.map prD)=some (B.map λq=>[q.1.1,q.1.2])
 |[]=>rfl
 |q::B=>by rw[ay];unfold w9;rw[GT B];rfl
theorem Im{α:Type}(d:α):∀l:List α,(bC l.length).map (λi=>l.getD i d)=l:=λl=>by
 apply List.ext_getElem
 ·rw[ah,f6]
 ·intro i h1 h2;rw[List.getElem_map,List.getElem_range,cp,aP h2];rfl
theorem Qr(B:List (Ky×L4.D))(nd:(B.map aF).Nodup)(h0:0<B.length)(h1:B.length<64):∃S:List (Ky×L4.D),S.Perm B/\DY (B.map prD)=some (S.map prD):=by
 let ks:=B.map λq=>[q.1.1,q.1.2];have hn:ks.Nodup:=by
  have:ks=(B.map aF).map λk=>[k.1,k.2]:=by rw[aU];rfl
  rw[this];exact Il (λa b h=>by injection h with a1 a2;injection a2 with a2 _;exact Prod.ext a1 a2) nd
 let c:Nat->Nat->Bool:=λi j=>w5 (ks.getD i []) (ks.getD j []);refine⟨(Gh c B.length).map λi=>B.getD i (("", ""),.non),?_,?_⟩
 ·have:=(Ab c h0).map λi=>B.getD i (("", ""),.non);rw[Im]at this;exact this
 ·unfold DY;rw[GT];simp only[ah];rw[ai ⟨hn,h0,h1⟩,aU];congr 1;refine List.map_congr_left λi hi=>?_;have hl:=EX c h0 i hi;show (B.map prD).getD i .non=prD (B.getD i (("", ""),.non));rw[cp,cp,bu,aP hl];rfl
theorem CZ:∀V:List (Str×Str),zf ((V.map λq=>kS q.1).map HG) (V.map λq=>D.str q.2)=V.map λq=>D.tup [.str q.1,.str q.2]
 |[]=>rfl
 |q::V=>by have:=CZ V;unfold zf at this ⊢;rw[ay,ay,ay,eh,this];rfl
theorem Qs(h:e ρ=some (.lst ds,ρ1))(h1:DY ds=some es):Ce e ρ=some (es,ρ1):=by unfold Ce;rw[h];simp only[h1]
structure Ao(A:List (Str×Str))(V:List (Str×Int))(S:List (Ky×L4.D)):Prop where
 i:∀q∈A,((("at", q.1):Ky),D.str q.2)∈S
 o:∀x d,((("at", x):Ky),d)∈S->∃z,d=.str z/\(x,z)∈A
 mi:∀q∈V,((("mark", q.1):Ky),D.int q.2)∈S
 mo:∀x d,((("mark", x):Ky),d)∈S->∃z,d=.int z/\(x,z)∈V
abbrev nN:=(oa (pE (oa (cC (.str "mark")) (oa ae oJ))) (oa ag oJ))
abbrev kJ:=(oa ag oJ)
theorem NB{A:List (Str×Str)}{V:List (Str×Int)}(a:vB A y)(nv:(V.map aF).Nodup)(lv:V.length<=40):∃S,Ao A V S/\tW [atD A,dcI V]=some (.tup (S.map prD)):=by
 have hl:=a.ln;have h0:0<A.length:=by obtain⟨r,h⟩:=a.yo;exact List.length_pos_of_mem h
 have nd:((bas A V).map aF).Nodup:=by
  unfold bas;rw[aX,aU,aU,bV];have e1:A.map (aF∘λq=>((("at", q.1):Ky),D.str q.2))=(A.map aF).map λx=>(("at", x):Ky):=by rw[aU];rfl
  have e2:V.map (aF∘λq=>((("mark", q.1):Ky),D.int q.2))=(V.map aF).map λx=>(("mark", x):Ky):=by rw[aU];rfl
  rw[e1,e2];refine⟨Il (λa b h=>aS iU h) a.nd,Il (λa b h=>aS iU h) nv,λx hx z hz e=>?_⟩;obtain⟨_,_,rfl⟩:=aL.mp hx;obtain⟨_,_,rfl⟩:=aL.mp hz;have:=aS aF e;exact aq this (by decide:¬(("at" : Str)="mark"))
 obtain⟨S,p,e⟩:=Qr (bas A V) nd (by unfold bas;rw[aD,ah];omega) (by unfold bas;rw[aD,ah,ah];omega);refine⟨S,⟨λq hq=>p.mem_iff.mpr (bG _ (aL.mpr ⟨q,hq,rfl⟩)),λx d h=>?_,λq hq=>p.mem_iff.mpr (bL _ (aL.mpr ⟨q,hq,rfl⟩)),λx d h=>?_⟩,?_⟩
 ·rcases bw.mp (p.mem_iff.mp h)with h|h
  ·obtain⟨q,hq,e⟩:=aL.mp h;cases e;exact⟨_,rfl,hq⟩
  ·obtain⟨q,hq,e⟩:=aL.mp h;have:=aS (λz=>z.1.1) e;exact aq this (by decide:¬(("mark" : Str)="at"))
 ·rcases bw.mp (p.mem_iff.mp h)with h|h
  ·obtain⟨q,hq,e⟩:=aL.mp h;have:=aS (λz=>z.1.1) e;exact aq this (by decide:¬(("at" : Str)="mark"))
  ·obtain⟨q,hq,e⟩:=aL.mp h;cases e;exact⟨_,rfl,hq⟩
 ·let ρ0:aW:=[.im (atD A),.im (dcI V),.un];let pa:Str×Str->L4.D:=λq=>.tup [.tup [.str "at", .str q.1],.str q.2];let pm:Str×Int->L4.D:=λq=>.tup [.tup [.str "mark", .str q.1],.int q.2];let ρ1:aW:=[.im (atD A),.im (dcI V),.im (.lst (A.map pa))];have c1:oW 2 [] (iIt ae) (gT (oK (gN 0) (oK (gN 1) qj)) 2) pR (pE (oa (pE (oa (cC (.str "at")) kH)) kJ)) ρ0=some (A.map pa,ρ0):=by refine(vQ (ds:=A.map λq=>D.tup [.str q.1,.str q.2]) (ρ1:=ρ0) ((Ig rfl).trans (by rw[CZ])) (by rw[ah];omega)).trans ?_;exact E1 (λq:Str×Str=>D.tup [.str q.1,.str q.2]) pa A λq _=>⟨[.im (.str q.1),.im (.str q.2)],_,rfl,rfl,rfl⟩
  have c2:oW 2 [] (iIt ag) (gT (oK (gN 0) (oK (gN 1) qj)) 2) pR (pE nN) ρ1=some (V.map pm,ρ1):=by refine(vQ (ds:=V.map λq=>D.tup [.str q.1,.int q.2]) (ρ1:=ρ1) ((Ig rfl).trans (by rw[An])) (by rw[ah];omega)).trans ?_;exact E1 (λq:Str×Int=>D.tup [.str q.1,.int q.2]) pm V λq _=>⟨[.im (.str q.1),.im (.int q.2)],_,rfl,rfl,rfl⟩
  have eb:(bas A V).map prD=A.map pa++V.map pm:=by unfold bas;rw[aX,aU,aU];rfl
  have c3:=Qs (e:=cL (qO ar (cL (oW 2 [] (iIt ag) (gT (oK (gN 0) (oK (gN 1) qj)) 2) pR (pE nN))))) (ρ:=ρ1) (pB (sI (xs:=A.map pa) rfl (pB c2) (by rw[ah,ah];omega))) (eb▸e);refine oI (ρ:=ρ1) rfl ((oe (ρ':=ρ1) ((oM (pB c1)).trans rfl)).trans (oO ?_));unfold FX;rw[pB c3]
inductive Ch(A:List (Str×Str)):Str->aC->Prop
 |nil {x}:x∉A.map aF->Ch A x []
 |cons {x z l}:(x,z)∈A->Ch A z l->Ch A x (z::l)
theorem Da{A:List (Str×Str)}(a:vB A y)(x:Str):∃l,Ch A x l/\l.length<=40:=by
 obtain⟨rk,hr⟩:=a.rk;have gen:∀(n:Nat) (x:Str),(x∈A.map aF->rk x<n)->∃l,Ch A x l/\l.length<=n:=by
  intro n
  induction n with
  |zero=>intro x h;exact⟨[],.nil (λz=>aq (h z) (by omega)),by simp⟩
  |succ n ih=>
   intro x h;by_cases hx:x∈A.map aF
   ·obtain⟨q,hq,rfl⟩:=aL.mp hx;have:=h hx;obtain⟨l,h1,h2⟩:=ih q.2 λ_=>by have:=(hr q hq).1;omega
    exact⟨q.2::l,.cons hq h1,by rw[aK];omega⟩
   ·exact⟨[],.nil hx,by simp⟩
 exact gen 40 x λh=>by obtain⟨q,hq,rfl⟩:=aL.mp h;exact(hr q hq).2
theorem Vl{A:List (Str×Str)}{x:Str}{l:aC}(c:Ch A x l):∀a∈l,∃q∈A,q.2=a:=by
 induction c with
 |nil _=>intro a h;cases h
 |cons h _ ih=>
  intro a ha;rcases aN.mp ha with e|ha
  ·exact⟨_,h,e.symm⟩
  ·exact ih a ha
theorem Jx{A:List (Str×Str)}(nd:(A.map aF).Nodup){x z z':Str}(h:(x,z)∈A)(h':(x,z')∈A):z=z':=by
 induction A with
 |nil=>cases h
 |cons a A ih=>
  rw[ay,bY]at nd;rcases aN.mp h with h1|h1<;>rcases aN.mp h' with h2|h2
  ·rw[<-h1]at h2;exact(aS iU h2).symm
  ·exact aq (show a.1∈A.map aF from h1▸aL.mpr ⟨_,h2,rfl⟩) nd.1
  ·exact aq (show a.1∈A.map aF from h2▸aL.mpr ⟨_,h1,rfl⟩) nd.1
  ·exact ih nd.2 h1 h2
abbrev sD(S:List (Ky×L4.D)):L4.D:=.tup (S.map prD)
abbrev wO(T:List Th)(M:List Mk)(dk:aC)(y:Str)(mo:L4.D):L4.D:=.obj 14 wNs (wDs T M dk y mo)
variable{sh:Str->Bool}
section
variable{A:List (Str×Str)}{V:List (Str×Int)}{S:List (Ky×L4.D)}{y:Str}{T:List Th}{M:List Mk}{dk:aC}{mo:L4.D}
theorem NC(g:Good T M dk):qH [TD T,MD M]=some (dcI (moL T M)):=by
 have hl:=g.len;have hm:=g.m4;have nd:(nmK T Kd.mk++M.map Mk.n).Nodup:=g.nd.sublist ((pT T _).append (eF _));have ndk:(((nmK T Kd.mk).map kS)++M.map λm=>kS m.n).Nodup:=by have:=sM nd;rw[aX,aU]at this;exact this
 have hln:(nmK T Kd.mk).length<=200:=by have:=(pT T Kd.mk).length_le;rw[ah]at this;omega
 have g1:∀(l:List Th) (ks:List Key) (ds:List L4.D) (s:Sl),(ks++(nmK l Kd.mk).map kS).Nodup->ks.length+l.length<=900->ds.length=ks.length->∃s',forL (gN 3) (sIf (cT (pH qm "has_mark" av oJ)) (pJ 2 (c1 (oX o6 "name") av) aG) oQ) (l.map thD) [.im (TD T),.im (MD M),.dk ks ds,s,.un]=some (.nx [.im (TD T),.im (MD M),.dk (ks++(nmK l Kd.mk).map kS) (ds++(nmK l Kd.mk).map λ_=>D.int 1),s',.un]):=by
  intro l
  induction l with
  |nil=>exact λks ds s _ _ _=>⟨s,by unfold nmK;simp;rfl⟩
  |cons t l ih=>
   intro ks ds s nd hk he;rw[aK]at hk;have em:cT (pH qm "has_mark" av oJ) [.im (TD T),.im (MD M),.dk ks ds,.im (thD t),.un]=some (t.k.mk,[.im (TD T),.im (MD M),.dk ks ds,.im (thD t),.un]):=pG (qA (xs:=[.str t.n,.tup (t.w.map D.str),.str t.k.s,oS t.s]) (ys:=[]) rfl rfl rfl rfl (Jp t));cases q:t.k.mk with
   |true=>
    rw[q]at em;have e0:nmK (t::l) Kd.mk=t.n::nmK l Kd.mk:=by unfold nmK;rw[c9,q,ai rfl,ay]
    rw[e0,ay]at nd;rw[e0,ay,ay];have hn:kS t.n∉ks:=λz=>by rw[bV]at nd;exact nd.2.2 _ z _ aV rfl
    obtain⟨s',h⟩:=ih (ks++[kS t.n]) (ds++[.int 1]) (.im (thD t)) (by rw[bA];exact nd) (by rw[aD,aZ];omega) (by rw[aD,aD,he,aZ,aZ]);refine⟨s',?_⟩;rw[ay];unfold forL;rw[show gN 3 (thD t) [.im (TD T),.im (MD M),.dk ks ds,s,.un]=some [.im (TD T),.im (MD M),.dk ks ds,.im (thD t),.un] from rfl];have ev:=(o5 (f:=pJ 2 (c1 (oX o6 "name") av) aG) (g:=oQ) em).trans (xG (i:=2) (fk:=c1 (oX o6 "name") av) (fv:=cC (.int 1)) (ρ:=[.im (TD T),.im (MD M),.dk ks ds,.im (thD t),.un]) (x:=t.n) (d:=.int 1) rfl rfl (pD rfl (uY t)) hn (by omega) he);simp only[ev];refine h.trans ?_;rw[bA,bA];rfl
   |false=>
    rw[q]at em;have e0:nmK (t::l) Kd.mk=nmK l Kd.mk:=by unfold nmK;rw[c9,q,aj (by decide)]
    rw[e0]at nd ⊢;obtain⟨s',h⟩:=ih ks ds (.im (thD t)) nd (by omega) he;refine⟨s',?_⟩;rw[ay];unfold forL;rw[show gN 3 (thD t) [.im (TD T),.im (MD M),.dk ks ds,s,.un]=some [.im (TD T),.im (MD M),.dk ks ds,.im (thD t),.un] from rfl];have ev:=(ox (f:=pJ 2 (c1 (oX o6 "name") av) aG) (g:=oQ) em);simp only[ev];exact h
 obtain⟨s1,e1⟩:=g1 T [] [] .un (by rw[bH];exact(bV.mp ndk).1) (by simp;omega) rfl;rw[bH,bH]at e1;obtain⟨s2,e2⟩:=vA (g:=gN 4) (i:=2) (fk:=c1 (oX o6 "name") aw) (fv:=c1 (oX ug "most") aw) mkD Mk.n (λm=>D.int m.mo) (λks ds s=>[.im (TD T),.im (MD M),.dk ks ds,s1,s])
  (λm ks ds s=>⟨[.im (TD T),.im (MD M),.dk ks ds,s1,.im (mkD m)],rfl,pD rfl (Qf m),rfl,pD rfl (Fd m),λks' ds'=>⟨_,rfl⟩⟩) M ((nmK T Kd.mk).map kS) ((nmK T Kd.mk).map λ_=>D.int 1) .un ndk (by rw[ah];omega) (by rw[ah,ah])
 refine oI (ρ:=[.im (TD T),.im (MD M),.im (dcI (moL T M)),s1,s2]) rfl ?_;unfold tL;refine(oe (ρ':=[.im (TD T),.im (MD M),.dk [] [],.un,.un]) rfl).trans ?_;refine(oe ((qa rfl).trans e1)).trans ((oe ((qa rfl).trans e2)).trans ?_);have q1:(moL T M).map (λq=>kS q.1)=(nmK T Kd.mk).map kS++M.map λm=>kS m.n:=by simp only[moL,aX,aU];rfl
 have q2:(moL T M).map (λq=>D.int q.2)=((nmK T Kd.mk).map λ_=>D.int 1)++M.map λm=>D.int m.mo:=by simp only[moL,aX,aU];rfl
 unfold dcI;rw[q1,q2];rfl
abbrev wM(T:List Th)(M:List Mk)(dk:aC)(y:Str):L4.D:=wO T M dk y (dcI (moL T M))
theorem Io{V:List (Str×Int)}(nv:(V.map aF).Nodup){x:Str}{z:Int}(h:(x,z)∈V):qf (V.map λq=>kS q.1) (V.map λq=>D.int q.2) (kS x)=some (.int z):=
 xa (by have:=sM nv;rw[aU]at this;exact this) (by rw[iC];exact aL.mpr ⟨_,h,rfl⟩)
theorem xW(a:vB A y)(o:Ao A V S){x z:Str}(h:(x,z)∈A):rA [sD S,.str x]=some (.str z):=by
 refine oI (ρ:=[.im (sD S),.im (.str x)]) rfl (oO (oi (ds:=[sD S,.tup [.str "at", .str x]]) (og rfl (og rfl rfl)) ?_));rcases zL S ("at", x)with ⟨d,h1,h2⟩|⟨h1,h2⟩
 ·obtain⟨z',rfl,h3⟩:=o.o x d h1;rw[h2,Jx a.nd h3 h]
 ·exact aq (aL.mpr ⟨_,o.i _ h,rfl⟩) h1
theorem Bw(o:Ao A V S){x:Str}(h:x∉A.map aF):rA [sD S,.str x]=some .non:=by
 refine oI (ρ:=[.im (sD S),.im (.str x)]) rfl (oO (oi (ds:=[sD S,.tup [.str "at", .str x]]) (og rfl (og rfl rfl)) ?_));rcases zL S ("at", x)with ⟨d,h1,h2⟩|⟨h1,h2⟩
 ·obtain⟨z',rfl,h3⟩:=o.o x d h1;exact aq (aL.mpr ⟨_,h3,rfl⟩) h
 ·exact h2
abbrev kE:=(oa ag kW)
theorem KZ(a:vB A y)(o:Ao A V S)(w nm:Sl){x:Str}{l:aC}(c:Ch A x l):∀(n:Nat) (hs:List L4.D) (ab:L4.D),rA [sD S,.str x]=some ab->l.length<n->hs.length+l.length<=1000->
  whL (cT (c2 u7 aw bp)) (oj (o9 (sE 3 aw)) (oV 4 (om rA kE))) n [w,.im (sD S),nm,.ls hs,.im ab]=some (.nx [w,.im (sD S),nm,.ls (hs++l.map D.str),.im .non]):=by
 induction c with
 |@nil x h=>
  intro n hs ab e hn _;rw[Bw o h]at e;cases e;cases n with
  |zero=>cases hn
  |succ n=>rw[bJ,br];rfl
 |@cons x z l h c ih=>
  intro n hs ab e hn hl;rw[xW a o h]at e;cases e;rw[aK]at hn hl;cases n with
  |zero=>cases hn
  |succ n=>
   obtain⟨ab',e'⟩:∃ab',rA [sD S,.str z]=some ab':=by
    cases c with
    |nil h=>exact⟨_,Bw o h⟩
    |cons h _=>exact⟨_,xW a o h⟩
   have ev:oj (o9 (sE 3 aw)) (oV 4 (om rA kE)) [w,.im (sD S),nm,.ls hs,.im (.str z)]=some (.nx [w,.im (sD S),nm,.ls (hs++[.str z]),.im ab']):=by refine(oe (ρ':=[w,.im (sD S),nm,.ls (hs++[.str z]),.im (.str z)]) (pP ((vP (es:=hs) rfl rfl rfl (by omega)).trans rfl))).trans ?_;exact(oM (oi (og rfl (og rfl rfl)) e')).trans rfl
   rw[ay];unfold whL;rw[show cT (c2 u7 aw bp) [w,.im (sD S),nm,.ls hs,.im (.str z)]=some (true,[w,.im (sD S),nm,.ls hs,.im (.str z)]) from rfl];simp only[ev];refine(ih n (hs++[.str z]) ab' e' (by omega) (by rw[aD,aZ];omega)).trans ?_;rw[bA];rfl
theorem Jy(a:vB A y)(o:Ao A V S)(w:L4.D){x:Str}{l:aC}(c:Ch A x l)(hl:l.length<=40):tU [w,sD S,.str x]=some (l.map D.str):=by
 obtain⟨ab,e⟩:∃ab,rA [sD S,.str x]=some ab:=by
  cases c with
  |nil h=>exact⟨_,Bw o h⟩
  |cons h _=>exact⟨_,xW a o h⟩
 refine vR (ρ:=[.im w,.im (sD S),.im (.str x),.un,.im .non]) rfl ?_;refine(oe (ρ':=[.im w,.im (sD S),.im (.str x),.ls [],.un]) rfl).trans ?_;refine(oe (ρ':=[.im w,.im (sD S),.im (.str x),.ls [],.im ab]) ((oM (oi (og rfl (og rfl rfl)) e)).trans rfl)).trans ?_;exact(oe (KZ a o (.im w) (.im (.str x)) c 50 [] ab e (by omega) (by simp;omega))).trans rfl
theorem ndk(a:vB A y):(A.map λq=>kS q.1).Nodup:=by have:=sM a.nd;rw[aU]at this;exact this
theorem xX(a:vB A y){x z:Str}(h:(x,z)∈A):qf (A.map λq=>kS q.1) (A.map λq=>D.str q.2) (kS x)=some (.str z):=
 xa (ndk a) (by rw[iC];exact aL.mpr ⟨_,h,rfl⟩)
theorem Jz{x:Str}(h:x∉A.map aF):qf (A.map λq=>kS q.1) (A.map λq=>D.str q.2) (kS x)=none:=
 xP λz=>by obtain⟨q,h1,h2⟩:=aL.mp z;exact h (aL.mpr ⟨q,h1,by injection h2⟩)
theorem ND(a:vB A y){x:Str}{l:aC}(c:Ch A x l):∀(n:Nat) (hs:List L4.D),l.length<n->hs.length+l.length<=1000->∃x',
  whL (cT (c2 (yF false) ag ae)) (oj (oV 1 (c2 pd ae ag)) (o9 (sE 2 ag))) n [.im (atD A),.im (.str x),.ls hs]=some (.nx [.im (atD A),x',.ls (hs++l.map D.str)]):=by
 induction c with
 |@nil x h=>
  intro n hs hn _;cases n with
  |zero=>cases hn
  |succ n=>have ev:cT (c2 (yF false) ag ae) [.im (atD A),.im (.str x),.ls hs]=some (false,[.im (atD A),.im (.str x),.ls hs]):=pG (oo (x:=.str x) (y:=atD A) rfl rfl (by show some (D.bl (qf _ _ (kS x)).isSome)=_;rw[Jz h];rfl));unfold whL;rw[ev];exact⟨_,by rw[bJ,br]⟩
 |@cons x z l h c ih=>
  intro n hs hn hl;rw[aK]at hn hl;cases n with
  |zero=>cases hn
  |succ n=>
   have ev:cT (c2 (yF false) ag ae) [.im (atD A),.im (.str x),.ls hs]=some (true,[.im (atD A),.im (.str x),.ls hs]):=pG (oo (x:=.str x) (y:=atD A) rfl rfl (by show some (D.bl (qf _ _ (kS x)).isSome)=_;rw[xX a h];rfl));have eb:oj (oV 1 (c2 pd ae ag)) (o9 (sE 2 ag)) [.im (atD A),.im (.str x),.ls hs]=some (.nx [.im (atD A),.im (.str z),.ls (hs++[.str z])]):=by refine(oe (ρ':=[.im (atD A),.im (.str z),.ls hs]) ((oM (oo (x:=atD A) (y:=.str x) rfl rfl (xX a h))).trans rfl)).trans ?_;exact pP ((vP (es:=hs) rfl rfl rfl (by omega)).trans rfl)
   obtain⟨x',e⟩:=ih n (hs++[.str z]) (by omega) (by rw[aD,aZ];omega);refine⟨x',?_⟩;unfold whL;rw[ev];simp only[eb];rw[e,bA];rfl
theorem GU(a:vB A y){x:Str}{l:aC}(c:Ch A x l)(hl:l.length<=40):rb [atD A,.str x]=some (l.map D.str):=by obtain⟨x',e⟩:=ND a c 50 [] (by omega) (by simp;omega);refine vR (ρ:=[.im (atD A),x',.un]) rfl ?_;refine(oe (ρ':=[.im (atD A),.im (.str x),.ls []]) rfl).trans ?_;exact(oe e).trans rfl
theorem Fm{V:List (Str×Int)}(nd:(V.map aF).Nodup){x:Str}{z z':Int}(h:(x,z)∈V)(h':(x,z')∈V):z=z':=by
 induction V with
 |nil=>cases h
 |cons a V ih=>
  rw[ay,bY]at nd;rcases aN.mp h with h1|h1<;>rcases aN.mp h' with h2|h2
  ·rw[<-h1]at h2;exact(aS iU h2).symm
  ·exact aq (show a.1∈V.map aF from h1▸aL.mpr ⟨_,h2,rfl⟩) nd.1
  ·exact aq (show a.1∈V.map aF from h2▸aL.mpr ⟨_,h1,rfl⟩) nd.1
  ·exact ih nd.2 h1 h2
theorem Fn(nv:(V.map aF).Nodup)(o:Ao A V S){x:Str}{z:Int}(h:(x,z)∈V):rS [sD S,.str x]=some (.int z):=by
 refine oI (ρ:=[.im (sD S),.im (.str x)]) rfl (oO (oi (ds:=[sD S,.tup [.str "mark", .str x]]) (og rfl (og rfl rfl)) ?_));rcases zL S ("mark", x)with ⟨d,h1,h2⟩|⟨h1,h2⟩
 ·obtain⟨z',rfl,h3⟩:=o.mo x d h1;rw[h2,Fm nv h3 h]
 ·exact aq (aL.mpr ⟨_,o.mi _ h,rfl⟩) h1
theorem Dc(nd:(T.map Th.n).Nodup)(ht:t∈T):vv [wO T M dk y mo,.str t.n]=some (thD t):=by refine oI (ρ:=[.im (wO T M dk y mo),.im (.str t.n)]) rfl (oO (oo (x:=.dic (nK T) (T.map thD)) (y:=.str t.n) rfl rfl ?_));show some ((qf (nK T) (T.map thD) (kS t.n)).getD .non)=_;rw[xa (Jq nd) (d:=thD t) (by unfold nK;rw[iC];exact aL.mpr ⟨t,ht,rfl⟩)];rfl
def shB(T:List Th)(V:List (Str×Int))(x:Str):Bool:=decide (x∈nmK T λk=>decide (k=.box))&&decide ((x,0)∈V)
theorem JA(nd:(T.map Th.n).Nodup)(ht:t∈T):t.n∈(nmK T λk=>decide (k=.box)) ↔ t.k=.box:=by
 constructor
 ·intro h;obtain⟨u,h1,h2,h3⟩:=uL h;have:=Ii nd h1 ht h2;subst this;exact bj h3
 ·intro h;exact aL.mpr ⟨t,bO.mpr ⟨ht,bg h⟩,rfl⟩
theorem NF(t:Th):dEq false (.str t.k.s) (.str "box")=some (.bl (decide (t.k=.box))):=by cases t.k<;>kernel_rfl
theorem W4(nv:(V.map aF).Nodup){x:Str}{z:Int}(h:(x,z)∈V):decide ((x,0)∈V)=decide (z=0):=by
 rw[cD,bB,bB];constructor
 ·intro h';exact Fm nv h h'
 ·intro e;rw[<-e];exact h
theorem tD{e':FE}(h1:e ρ=some (.bl false,ρ1)):pW e e' ρ=some (.bl false,ρ1):=by unfold pW;rw[h1]
abbrev gS:=(oa ar oJ)
theorem Qt(nd:(T.map Th.n).Nodup)(nv:(V.map aF).Nodup)(hv:∀x∈(nmK T λk=>decide (k=.box)),∃z,(x,z)∈V)(o:Ao A V S)(ht:t∈T):rU [wO T M dk y mo,sD S,.str t.n]=some (.bl (shB T V t.n)):=by
 let ρ:aW:=[.im (wO T M dk y mo),.im (sD S),.im (.str t.n)];have e1:c2 (dEq false) (c1 (oX pF "kind") (pH pY "thing_of" ae gS)) dW ρ=some (.bl (decide (t.k=.box)),ρ):=
  oo (pD (qA (m:="thing_of") (ns:=wNs) (xs:=wDs T M dk y mo) (ys:=[.str t.n]) rfl rfl rfl rfl (Dc nd ht)) (yS t)) rfl (NF t)
 refine oI (ρ:=ρ) rfl (oO ?_);unfold shB;by_cases h:t.k=.box
 ·have hb:=(JA nd ht).mpr h;obtain⟨z,hz⟩:=hv _ hb;rw[bg h]at e1;rw[bg hb,W4 nv hz];refine(pC e1).trans (oo (oi (og rfl (og rfl rfl)) (Fn nv o hz)) rfl ?_);rw[se];rfl
 ·rw[aQ h]at e1;rw[aQ λz=>h ((JA nd ht).mp z)];exact tD e1
def opn(sh:Str->Bool)(h:Str):aC->Bool
 |[]=>false
 |a::l=>if a=h then true else if sh a then false else opn sh h l
theorem xJ{h a:Str}{l:aC}:opn sh h (a::l)=if a=h then true else if sh a then false else opn sh h l:=rfl
theorem Vm{sh:Str->Bool}{h:Str}{r:aC}:∀{p:aC},h∉p->opn sh h (p++h::r)=p.all λa=>!sh a
 |[],_=>by rw[bH,xJ,ai rfl];rfl
 |a::p,hh=>by rw[List.cons_append,xJ,aj (show ¬a=h from λe=>hh (e▸aV)),Vm λz=>hh (bh _ z),dg];cases sh a<;>rfl
theorem NG{sh:Str->Bool}{h:Str}:∀{p:aC},h∉p->opn sh h p=false
 |[],_=>rfl
 |a::p,hh=>by rw[xJ,aj (show ¬a=h from λe=>hh (e▸aV)),NG λz=>hh (bh _ z)];cases sh a<;>rfl
abbrev kU:=(oa ae kE)
theorem En{w st x:L4.D}{sh:Str->Bool}(h:Str):∀(l:aC) (s:Sl),(∀a∈l,rU [w,st,.str a]=some (.bl (sh a)))->∃s',forL (gN 4) (oj (sIf (cT (c2 (dEq false) aw av)) (oG cz) oQ)
 (sIf (cT (om rU kU)) (oG cj) oQ)) (l.map D.str) [.im w,.im st,.im x,.im (.str h),s]=some (.rt (.bl (opn sh h l)) [.im w,.im st,.im x,.im (.str h),s'])\/(opn sh h l=false/\forL (gN 4) (oj (sIf (cT (c2 (dEq false) aw av)) (oG cz) oQ)
 (sIf (cT (om rU kU)) (oG cj) oQ)) (l.map D.str) [.im w,.im st,.im x,.im (.str h),s]=some (.nx [.im w,.im st,.im x,.im (.str h),s']))
 |[],s,_=>⟨s,.inr ⟨rfl,rfl⟩⟩
 |a::l,s,hh=>by
  let ρ:aW:=[.im w,.im st,.im x,.im (.str h),.im (.str a)];have e1:cT (c2 (dEq false) aw av) ρ=some (decide (a=h),ρ):=pG (oo (x:=.str a) (y:=.str h) rfl rfl (ro false a h));have e2:cT (om rU kU) ρ=some (sh a,ρ):=pG (oi (og rfl (og rfl (og rfl rfl))) (hh a aV));rw[ay];unfold forL;rw[show gN 4 (.str a) [.im w,.im st,.im x,.im (.str h),s]=some ρ from rfl];rw[xJ];by_cases h1:a=h
  ·rw[bg h1]at e1;rw[ai h1];refine⟨.im (.str a),.inl ?_⟩;have e3:∀f:FS,oj (sIf (cT (c2 (dEq false) aw av)) (oG cz) oQ) f ρ=some (.rt (.bl true) ρ):=λf=>oR ((o5 e1).trans rfl);simp only[e3];rfl
  ·rw[aQ h1]at e1;rw[aj h1];have e3:∀f:FS,oj (sIf (cT (c2 (dEq false) aw av)) (oG cz) oQ) f ρ=f ρ:=λf=>oe ((ox e1).trans rfl);simp only[e3];cases q:sh a with
   |true=>rw[q]at e2;refine⟨.im (.str a),.inl ?_⟩;simp only[(o5 e2).trans (rfl:oG cj ρ=some (.rt (.bl false) ρ)),if_true];rfl
   |false=>rw[q]at e2;obtain⟨s',g⟩:=En (w:=w) (st:=st) (x:=x) (sh:=sh) h l (.im (.str a)) λb hb=>hh b (bh _ hb);refine⟨s',?_⟩;simp only[(ox e2).trans (rfl:oQ ρ=some (.nx ρ)),eD,if_false];exact g
theorem Qu(a:vB A y)(o:Ao A V S){w:L4.D}{x h:Str}{l:aC}(c:Ch A x l)(hl:l.length<=40)(hh:∀a∈l,rU [w,sD S,.str a]=some (.bl (sh a))):rV [w,sD S,.str x,.str h]=some (.bl (opn sh h l)):=by
 obtain⟨s',g⟩:=En (w:=w) (st:=sD S) (x:=.str x) (sh:=sh) h l .un hh;have e0:=pB (oi (a:=oa ae (oa ag gS)) (ρ:=[.im w,.im (sD S),.im (.str x),.im (.str h),.un]) (og rfl (og rfl (og rfl rfl))) (Jy a o w c hl));rcases g with g|⟨g0,g⟩
 ·exact oI rfl (oR ((qa (xH e0)).trans g))
 ·rw[g0];exact oI rfl ((oe ((qa (xH e0)).trans g)).trans rfl)
end
theorem eq_nil(neg:Bool)(l:aC):dEq neg (.lst (l.map D.str)) (.lst [])=some (.bl (if neg then !l.isEmpty else l.isEmpty)):=by
 cases l with
 |nil=>cases neg<;>kernel_rfl
 |cons x xs=>
  have e0:za neg (.lst ((x::xs).map D.str)) (.lst [])=none:=rfl;have e1:toD (.lst ((x::xs).map D.str))=some (.lst ((x::xs).map L3.Dq.str)):=by unfold toD;rw[xV]
  have e3:dpt (.lst ((x::xs).map L3.Dq.str))=1:=by rw[dpt,u5]
  unfold dEq;rw[e0];show zb neg _ _=_;unfold zb;rw[e1,show toD (.lst [])=some (.lst []) from rfl];show (if DJ (.lst ((x::xs).map L3.Dq.str)) (.lst [])&&decide (dpt (.lst ((x::xs).map L3.Dq.str))<=20)&&decide (dpt (.lst [])<=20)then some (D.bl (if neg then !(eqD (.lst ((x::xs).map L3.Dq.str)) (.lst []))else eqD (.lst ((x::xs).map L3.Dq.str)) (.lst [])))else none)=_;rw[e3];cases neg<;>rfl
theorem Ap:∀l:aC,w6 (l.map D.str)=some l
 |[]=>rfl
 |x::l=>by rw[ay];unfold w6;rw[Ap l]
theorem GV{sh:Str->Bool}{h:Str}:∀{l:aC},h∈l->opn sh h l=(l.take (l.idxOf h)).all λa=>!sh a
 |[],hh=>(bN hh).elim
 |a::l,hh=>by
  rw[xJ];by_cases e:a=h
  ·subst e;rw[ai rfl,List.idxOf_cons_self];rfl
  ·have hl:h∈l:=by
    rcases aN.mp hh with z|z
    ·exact aq z.symm e
    ·exact z
   have hb:(a==h)=false:=by simpa using e
   rw[aj e,mU,hb,cond_false,List.take_succ_cons,dg,GV hl];cases sh a<;>rfl
section
variable{A:List (Str×Str)}{V:List (Str×Int)}{S:List (Ky×L4.D)}{y:Str}{T:List Th}{M:List Mk}{dk:aC}{mo:L4.D}
abbrev bxs(T:List Th):aC:=nmK T λk=>decide (k=.box)
abbrev lms(T:List Th):aC:=nmK T λk=>decide (k=.lamp)
theorem Qv(k:Kd):dIn false (.str k.s) (.lst [.str "lamp"])=some (.bl (decide (k=.lamp))):=by cases k<;>kernel_rfl
theorem NH(nv:(V.map aF).Nodup){x:Str}{z:Int}(k:Int)(h:(x,z)∈V):decide ((x,k)∈V)=decide (z=k):=by
 rw[cD,bB,bB];constructor
 ·intro h';exact Fm nv h h'
 ·intro e;rw[<-e];exact h
theorem GW(nv:(V.map aF).Nodup)(hT:T.length<=200)(p:Kd->Bool){K:L4.D}(hp:∀k:Kd,dIn false (.str k.s) K=some (.bl (p k)))(hk:fk ρ=some (K,ρ))(h0:ρ[0]?=some (.im (pz T M dk y)))(h2:ρ[2]?=some (.im (dcI V)))(hv:∀x∈nmK T p,∃z,(x,z)∈V)(k:Int)
  (hc:xZ 1 [2] ρ=[.un,.im (dcI V)]) (hu:rE [2] [.im (dcI V)] ρ=some ρ) (hq:cV 0 ρ=some (pz T M dk y,ρ)):
  oW 1 [2] (iL (cL (pb pO (oa ae (oa fk oJ))))) (gN 0) (cT (c2 (dEq false) (c2 pd ag ae) (cC (.int k)))) ae ρ=some (((nmK T p).filter λb=>decide ((b,k)∈V)).map D.str,ρ):=by
 have hl:(nmK T p).length<=1000:=by have:=(pT T p).length_le;rw[ah]at this;omega
 refine sP D.str D.str (λb=>decide ((b,k)∈V)) (nmK T p) (ρ1:=ρ) (xH (pB (oi (og hq (og hk rfl)) (of_ok (by omega) p hp)))) hl λb hb=>?_;obtain⟨z,hz⟩:=hv b hb;refine⟨[.im (.str b),.im (dcI V)],[.im (.str b),.im (dcI V)],by rw[hc];rfl,pG (oo (x:=.int z) (oo (x:=dcI V) (y:=.str b) rfl rfl (Io nv hz)) rfl ?_),λ_=>⟨_,rfl,hu⟩,λ_=>hu⟩;rw[se,NH nv k hz];rfl
theorem Vn(b:Str):decide (b∈(bxs T).filter λb=>decide ((b,0)∈V))=shB T V b:=by unfold shB;rw[cD,bB,bO,bf,bB,bB]
theorem NI(hT:T.length<=200)(a:vB A y)(nv:(V.map aF).Nodup)(hv:∀x∈bxs T,∃z,(x,z)∈V){x h:Str}{l:aC}(c:Ch A x l)(hl:l.length<=40):pe [pz T M dk y,atD A,dcI V,.str x,.str h]=some (.bl (opn (shB T V) h l)):=by
 let sp:=pz T M dk y;let ρ:Sl->Sl->aW:=λp q=>[.im sp,.im (atD A),.im (dcI V),.im (.str x),.im (.str h),p,q];let al:Sl:=.im (.lst (l.map D.str));have e1:oV 5 (cL (pb rb (oa ag kN))) (ρ .un .un)=some (.nx (ρ al .un)):=(oM (pB (oi (og rfl (og rfl rfl)) (GU a c hl)))).trans rfl;have e2:cT (c2 (dIn true) aw aJ) (ρ al .un)=some (!decide (h∈l),ρ al .un):=pG (oo (x:=.str h) (y:=.lst (l.map D.str)) rfl rfl (rF true h l));by_cases hh:h∈l
 ·rw[bg hh]at e2;let sl:Sl:=.im (.lst (((bxs T).filter λb=>decide ((b,0)∈V)).map D.str));have e3:=GW (T:=T) (M:=M) (dk:=dk) (y:=y) (V:=V) nv hT (λk=>decide (k=.box)) Nx (fk:=cL (oU (oa dW oJ))) (ρ:=ρ al .un) rfl rfl rfl hv 0 rfl rfl rfl;have e4:tQ aJ oNo (oAt (c2 sQ aJ aw)) (ρ al sl)=some ((l.take (l.idxOf h)).map D.str,ρ al sl):=by
   have i1:c2 sQ aJ aw (ρ al sl)=some (.int (l.idxOf h:Nat),ρ al sl):=oo (x:=.lst (l.map D.str)) (y:=.str h) rfl rfl (by
    unfold sQ;simp only[Ap];rw[ai ⟨hh,by omega⟩])
   have i2:oAt (c2 sQ aJ aw) (ρ al sl)=some (some ((l.idxOf h:Nat):Int),ρ al sl):=by unfold oAt;rw[i1]
   have i3:cutD (l.map D.str) none (some ((l.idxOf h:Nat):Int))=(l.take (l.idxOf h)).map D.str:=by unfold cutD;rw[HT.BE,HT.yW,m7,Nat.sub_zero,ah,dG (eL (lA.mpr hh)),eK]
   show (match oAt (c2 sQ aJ aw) (ρ al sl)with
    |some (h,ρ3)=>some (cutD (l.map D.str) none h,ρ3)
    |none=>none)=_
   rw[i2];show some (cutD (l.map D.str) none (some ((l.idxOf h:Nat):Int)),ρ al sl)=_;rw[i3]
  have e5:oW 1 [6] (iL (cL (tQ aJ oNo (oAt (c2 sQ aJ aw))))) (gN 0) (cT (c2 (dIn false) ae ag)) ae (ρ al sl)=some (((l.take (l.idxOf h)).filter λb=>shB T V b).map D.str,ρ al sl):=by refine sP D.str D.str (λb=>shB T V b) (l.take (l.idxOf h)) (ρ1:=ρ al sl) (xH (pB e4)) (by rw[bo];omega) λb _=>⟨[.im (.str b),sl],[.im (.str b),sl],rfl,pG (oo (x:=.str b) (y:=.lst (((bxs T).filter λb=>decide ((b,0)∈V)).map D.str)) rfl rfl ?_),λ_=>⟨_,rfl,rfl⟩,λ_=>rfl⟩;rw[rF,<- Vn];rfl
  refine oI (ρ:=ρ al sl) rfl ((oe e1).trans ((oe ((ox e2).trans rfl)).trans ((oe (ρ':=ρ al sl) ((oM (pB e3)).trans rfl)).trans (oO (oo (pB e5) (y:=.lst []) rfl ?_)))));rw[eq_nil,GV hh];congr 2
  induction l.take (l.idxOf h)with
  |nil=>rfl
  |cons b r ih=>
   rw[c9,dg];cases shB T V b
   ·exact ih
   ·rfl
 ·rw[aQ hh]at e2;rw[NG hh];exact oI rfl ((oe e1).trans (oR ((o5 e2).trans rfl)))
end
structure Sit(T:List Th)(A:List (Str×Str))(V:List (Str×Int))(S:List (Ky×L4.D))(y r:Str):Prop where
 nd:(T.map Th.n).Nodup
 hT:T.length<=200
 p7:(T.filter λt=>t.k.pl).length<=7
 a:vB A y
 pn:∀q∈A,q.2∈T.map Th.n
 nv:(V.map aF).Nodup
 hv:∀x∈nmK T Kd.mk,∃z,(x,z)∈V
 o:Ao A V S
 hr:(y,r)∈A
section
variable{A:List (Str×Str)}{V:List (Str×Int)}{S:List (Ky×L4.D)}{y r:Str}{T:List Th}{M:List Mk}{dk:aC}{mo:L4.D}
def lf(a:vB A y)(x:Str):aC:=Classical.choose (Da a x)
theorem NJ(a:vB A y)(x:Str):Ch A x (lf a x):=(lR (Da a x)).1
theorem Qw(a:vB A y)(x:Str):(lf a x).length<=40:=(lR (Da a x)).2
theorem NK(h:∀k,p k=true->q k=true){x:Str}(hx:x∈nmK T p):x∈nmK T q:=by obtain⟨t,h1,h2,h3⟩:=uL hx;exact aL.mpr ⟨t,bO.mpr ⟨h1,h _ h3⟩,h2⟩
theorem Sit.vb(s:Sit T A V S y r):∀x∈bxs T,∃z,(x,z)∈V:=λx hx=>s.hv x (NK (λk h=>by rw[bj h];rfl) hx)
theorem Sit.vl(s:Sit T A V S y r):∀x∈lms T,∃z,(x,z)∈V:=λx hx=>s.hv x (NK (λk h=>by rw[bj h];rfl) hx)
theorem Sit.op(s:Sit T A V S y r)(x h:Str):rV [wO T M dk y mo,sD S,.str x,.str h]=some (.bl (opn (shB T V) h (lf s.a x))):=
 Qu s.a s.o (NJ s.a x) (Qw s.a x) λb hb=>by obtain⟨q,hq,rfl⟩:=Vl (NJ s.a x) b hb;obtain⟨t,ht,e⟩:=aL.mp (s.pn q hq);rw[<-e];exact Qt s.nd s.nv s.vb s.o ht
theorem Sit.lop(s:Sit T A V S y r)(x h:Str):pe [pz T M dk y,atD A,dcI V,.str x,.str h]=some (.bl (opn (shB T V) h (lf s.a x))):=NI s.hT s.a s.nv s.vb (NJ s.a x) (Qw s.a x)
theorem NL:A0 [wO T M dk y mo]=some (.str y):=rfl
theorem GX(s:Sit T A V S y r):rT [wO T M dk y mo,sD S]=some (.str r):=
 oI (ρ:=[.im (wO T M dk y mo),.im (sD S)]) rfl (oO (oi (og rfl (og (qA (m:="you") (ns:=wNs) (xs:=wDs T M dk y mo) (ys:=[]) rfl rfl rfl rfl NL) rfl)) (xW s.a s.o s.hr)))
def yT(dk:aC)(s:Sit T A V S y r):Bool:=!decide (r∈dk)||(lms T).any λb=>decide ((b,1)∈V)&&opn (shB T V) r (lf s.a b)
theorem Qx:wF [wO T M dk y mo,.str r]=some (.bl (decide (r∈dk))):=
 oI (ρ:=[.im (wO T M dk y mo),.im (.str r)]) rfl (oO (oo (x:=.str r) (y:=.lst (dk.map D.str)) rfl rfl (rF false r dk)))
theorem NM(s:Sit T A V S y r){b:Str}(hb:b∈lms T):v9 [wO T M dk y mo,sD S,.str b,.str r]=some (.bl (decide ((b,1)∈V)&&opn (shB T V) r (lf s.a b))):=by
 let ρ:aW:=[.im (wO T M dk y mo),.im (sD S),.im (.str b),.im (.str r)];obtain⟨z,hz⟩:=s.vl b hb;have e1:c2 (dEq false) (om rS (oa ag gS)) aG ρ=some (.bl (decide ((b,1)∈V)),ρ):=oo (oi (og rfl (og rfl rfl)) (Fn s.nv s.o hz)) rfl (by rw[se,NH s.nv 1 hz];rfl);refine oI (ρ:=ρ) rfl (oO ?_);cases q:decide ((b,1)∈V)with
 |true=>rw[q]at e1;exact(pC e1).trans (oi (og rfl (og rfl (og rfl (og rfl rfl)))) (s.op b r))
 |false=>rw[q]at e1;exact tD e1
abbrev iY:=(oa kP oJ)
theorem NN(s:Sit T A V S y r):zA [wO T M dk y mo,sD S]=some (.bl (yT dk s)):=by
 let W:=wO T M dk y mo;let ρ:aW:=[.im W,.im (sD S),.im (.str r)];have e1:oV 2 (om rT (oa ae kJ)) [.im W,.im (sD S),.un]=some (.nx ρ):=(oM (oi (og rfl (og rfl rfl)) (GX s))).trans rfl;have e2:rQ (cT (pH sS "is_dark" ae gS)) ρ=some (!decide (r∈dk),ρ):=zd (pG (qA (m:="is_dark") (ns:=wNs) (xs:=wDs T M dk y mo) (ys:=[.str r]) rfl rfl rfl rfl Qx));unfold yT;cases q:decide (r∈dk)with
 |false=>rw[q]at e2;exact oI rfl ((oe e1).trans (oR ((o5 e2).trans rfl)))
 |true=>
  rw[q]at e2;have hl:=s.hT;have e3:oW 1 [0,1,2] (iL (pH qK "of_kind" ae iY)) (gN 0) pR (om v9 (oa ag (oa ar (oa ae kN)))) ρ=some ((lms T).map λb=>D.bl (decide ((b,1)∈V)&&opn (shB T V) r (lf s.a b)),ρ):=by
   have hlen:(lms T).length<=1000:=by have:=(pT T λk=>decide (k=.lamp)).length_le;rw[ah]at this;exact bI this (by omega)
   refine xF D.str (λb=>D.bl (decide ((b,1)∈V)&&opn (shB T V) r (lf s.a b))) (lms T) (ρ1:=ρ) ((xH (qA (m:="of_kind") (ns:=wNs) (xs:=wDs T M dk y mo) (ys:=[.str Kd.lamp.s]) rfl rfl rfl rfl (CS T (by omega) _ _ .lamp))).trans (by unfold lms nmK;rw[aU];rfl)) hlen λb hb=>⟨[.im (.str b),.im W,.im (sD S),.im (.str r)],[.im (.str b),.im W,.im (sD S),.im (.str r)],rfl,oi (og rfl (og rfl (og rfl (og rfl rfl)))) (NM s hb),rfl⟩
  exact oI rfl ((oe e1).trans ((oe ((ox e2).trans rfl)).trans (oO (pD (pB e3) (Jl _ _)))))
theorem JB(s:Sit T A V S y r):wo [pz T M dk y,atD A,dcI V]=some (.bl (yT dk s)):=by
 let sp:=pz T M dk y;let ρ:Sl->Sl->aW:=λp q=>[.im sp,.im (atD A),.im (dcI V),p,q];let rr:Sl:=.im (.str r);let ll:aC:=(lms T).filter λb=>decide ((b,1)∈V);let q4:Sl:=.im (.lst (ll.map D.str));have hl:=s.hT;have e1:oV 3 (c2 pd ag (c2 pd ae dS)) (ρ .un .un)=some (.nx (ρ rr .un)):=(oM (oo (x:=atD A) (y:=.str y) rfl (oo rfl rfl rfl) (xX s.a s.hr))).trans rfl;have e2:=GW (T:=T) (M:=M) (dk:=dk) (y:=y) (V:=V) s.nv s.hT (λk=>decide (k=.lamp)) Qv (fk:=cL (oU iY)) (ρ:=ρ rr .un) rfl rfl rfl s.vl 1 rfl rfl rfl;have e3:cT (c2 (dIn true) av (c2 pd ae (cC (.str "dark")))) (ρ rr q4)=some (!decide (r∈dk),ρ rr q4):=pG (oo (x:=.str r) (y:=.lst (dk.map D.str)) rfl (oo rfl rfl rfl) (rF true r dk));have head:∀f:FS,oj (oV 3 (c2 pd ag (c2 pd ae dS))) (oj (oV 4 (cL (oW 1 [2] (iL (cL (pb pO (oa ae (oa (cL (oU iY)) oJ))))) (gN 0) (cT (c2 (dEq false) (c2 pd ag ae) aG)) ae))) f) (ρ .un .un)=f (ρ rr q4):=λf=>(oe e1).trans (oe ((oM (pB e2)).trans rfl));unfold yT;cases q:decide (r∈dk)with
 |false=>rw[q]at e3;exact oI rfl ((head _).trans (oR ((o5 e3).trans rfl)))
 |true=>
  rw[q]at e3;have hlen:ll.length<=1000:=by have:=(pT T λk=>decide (k=.lamp)).length_le;rw[ah]at this;exact bI (eA _ _) (bI this (by omega))
  have e4:oW 1 [0,1,2,3] (iL aw) (gN 0) (cT (om pe (oa ag (oa ar (oa av (oa ae kW)))))) ae (ρ rr q4)=some ((ll.filter λb=>opn (shB T V) r (lf s.a b)).map D.str,ρ rr q4):=
   sP D.str D.str (λb=>opn (shB T V) r (lf s.a b)) ll (ρ1:=ρ rr q4) rfl hlen λb _=>⟨[.im (.str b),.im sp,.im (atD A),.im (dcI V),rr],[.im (.str b),.im sp,.im (atD A),.im (dcI V),rr],rfl,pG (oi (og rfl (og rfl (og rfl (og rfl (og rfl rfl))))) (s.lop b r)),λ_=>⟨_,rfl,rfl⟩,λ_=>rfl⟩
  refine oI rfl ((head _).trans ((oe ((ox e3).trans rfl)).trans (oO (oo (pB e4) (y:=.lst []) rfl ?_))));rw[eq_nil,ml];congr 2;show (!((lms T).filter _).isEmpty)=(false||(lms T).any _);rw[ng]
  induction lms T with
  |nil=>rfl
  |cons b l ih=>
   rw[c9,dJ,jV (opn _ _ _)];cases decide ((b,1)∈V)&&opn (shB T V) r (lf s.a b)
   ·exact ih
   ·rfl
def vC(dk:aC)(s:Sit T A V S y r)(x:Str):Bool:=(yT dk s&&opn (shB T V) r (lf s.a x))||opn (shB T V) y (lf s.a x)
theorem NO(s:Sit T A V S y r)(ht:t∈T):Al [wO T M dk y mo,sD S,.str t.n]=some (.bl (t.k.pl&&vC dk s t.n)):=by
 let W:=wO T M dk y mo;let ρ:aW:=[.im W,.im (sD S),.im (.str t.n),.im (thD t)];have e1:oV 3 (pH pY "thing_of" ae gS) [.im W,.im (sD S),.im (.str t.n),.un]=some (.nx ρ):=(oM (qA (m:="thing_of") (ns:=wNs) (xs:=wDs T M dk y mo) (ys:=[.str t.n]) rfl rfl rfl rfl (Dc s.nd ht))).trans rfl;have e2:tH (cT (c2 yD av bp)) (rQ (cT (pH qo "is_plainly" av oJ))) ρ=some (!t.k.pl,ρ):=yE rfl (zd (pG (qA (m:="is_plainly") (ns:=["name", "words", "kind", "start"]) (xs:=[.str t.n,.tup (t.w.map D.str),.str t.k.s,oS t.s]) (ys:=[]) rfl rfl rfl rfl (Gy t))));have e3:cT (om rV (oa ae (oa ag (oa ar (oa (pH vq "you" ae oJ) oJ))))) ρ=some (opn (shB T V) y (lf s.a t.n),ρ):=pG (oi (og rfl (og rfl (og rfl (og (qA (m:="you") (ns:=wNs) (xs:=wDs T M dk y mo) (ys:=[]) rfl rfl rfl rfl NL) rfl)))) (s.op t.n y));have e4:om rV (oa ae (oa ag (oa ar (oa (om rT (oa ae kJ)) oJ)))) ρ=some (.bl (opn (shB T V) r (lf s.a t.n)),ρ):=oi (og rfl (og rfl (og rfl (og (oi (og rfl (og rfl rfl)) (GX s)) rfl)))) (s.op t.n r);unfold vC;cases q1:t.k.pl with
 |false=>rw[q1]at e2;exact oI rfl ((oe e1).trans (oR ((o5 e2).trans rfl)))
 |true=>
  rw[q1]at e2;cases q2:opn (shB T V) y (lf s.a t.n)with
  |true=>rw[q2]at e3;rw[Bool.or_true];exact oI rfl ((oe e1).trans ((oe ((ox e2).trans rfl)).trans (oR ((o5 e3).trans rfl))))
  |false=>
   rw[q2]at e3;rw[m9,Bool.true_and,jV];refine oI (ρ:=ρ) rfl ((oe e1).trans ((oe ((ox e2).trans rfl)).trans ((oe ((ox e3).trans rfl)).trans (oO ?_))));cases q3:opn (shB T V) r (lf s.a t.n)with
   |true=>rw[q3]at e4;exact(pC e4).trans (oi (og rfl (og rfl rfl)) (NN s))
   |false=>rw[q3]at e4;exact tD e4
end
variable{c':FT}
section
variable{A:List (Str×Str)}{V:List (Str×Int)}{S:List (Ky×L4.D)}{y r:Str}{T:List Th}{M:List Mk}{dk:aC}{mo:L4.D}
def yu(dk:aC)(s:Sit T A V S y r):aC:=(T.filter λt=>t.k.pl&&vC dk s t.n).map Th.n
theorem K0(s:Sit T A V S y r):(yu dk s).length<64:=by
 unfold yu;rw[ah,<- gW];have h1:T.countP (λt=>t.k.pl&&vC dk s t.n)<=T.countP λt=>t.k.pl:=lQ λt _ h=>by rw[bf]at h;exact h.1
 rw[gW (p:=λt:Th=>t.k.pl)]at h1;have:=s.p7;omega
theorem NP{l:aC}(h:e ρ=some (.lst (l.map D.str),ρ1))(hl:l.length<64):Ad e ρ=some ((tN l).map D.str,ρ1):=by unfold Ad;rw[h];simp only[Ap];rw[ai hl]
theorem Q0(k:Kd):dIn false (.str k.s) (.lst [.str "plain", .str "fixed", .str "box", .str "lamp"])=some (.bl k.pl):=by cases k<;>kernel_rfl
abbrev kC:=(oa ae (oa ag (oa ar (oa aJ (oa (c2 pd ag (c2 pd ae dS)) oJ)))))
abbrev kD:=(oa ae (oa ag (oa ar (oa aJ (oa (c2 pd ae dS) oJ)))))
def NQ:FS:=(oj (oV 6 (pW aw (om pe kC)))
 (sIf (tH (cT aY) (cT (om pe kD))) (o9 (sE 3 aJ)) oQ))
theorem zM{c:FT}(h:c ρ=some (true,ρ1)):tH c c' ρ=some (true,ρ1):=by unfold tH;rw[h]
theorem Eo(s:Sit T A V S y r):∀(l:aC) (fd:aC) (p q:Sl),fd.length+l.length<=900->∃p' q',forL (gN 5) NQ (l.map D.str) [.im (pz T M dk y),.im (atD A),.im (dcI V),.ls (fd.map D.str),.im (.bl (yT dk s)),p,q]=some (.nx [.im (pz T M dk y),.im (atD A),.im (dcI V),.ls ((fd++l.filter (vC dk s)).map D.str),.im (.bl (yT dk s)),p',q'])
 |[],fd,p,q,_=>⟨p,q,by rw[iw,br];rfl⟩
 |x::l,fd,p,q,hl=>by
  rw[aK]at hl;let sp:=pz T M dk y;let nr:Bool:=yT dk s&&opn (shB T V) r (lf s.a x);let ρ:Sl->Sl->aW:=λf q=>[.im sp,.im (atD A),.im (dcI V),f,.im (.bl (yT dk s)),.im (.str x),q];let F:aC->Sl:=λfd=>.ls (fd.map D.str);have e1:pW aw (om pe kC) (ρ (F fd) q)=some (.bl nr,ρ (F fd) q):=by
   have e0:om pe kC (ρ (F fd) q)=some (.bl (opn (shB T V) r (lf s.a x)),ρ (F fd) q):=oi (og rfl (og rfl (og rfl (og rfl (og (oo (x:=atD A) (y:=.str y) rfl (oo rfl rfl rfl) (xX s.a s.hr)) rfl))))) (s.lop x r);show _=some (D.bl (yT dk s&&opn (shB T V) r (lf s.a x)),_);cases w:yT dk s with
   |true=>exact(pC (show cV 4 (ρ (F fd) q)=some (.bl true,ρ (F fd) q) by rw[<-w];rfl)).trans e0
   |false=>exact tD (show cV 4 (ρ (F fd) q)=some (.bl false,ρ (F fd) q) by rw[<-w];rfl)
  have e2:cT (om pe kD) (ρ (F fd) (.im (.bl nr)))=some (opn (shB T V) y (lf s.a x),ρ (F fd) (.im (.bl nr))):=pG (oi (og rfl (og rfl (og rfl (og rfl (og (oo rfl rfl rfl) rfl))))) (s.lop x y));have e3:tH (cT aY) (cT (om pe kD)) (ρ (F fd) (.im (.bl nr)))=some (vC dk s x,ρ (F fd) (.im (.bl nr))):=by
   show _=some (nr||_,_);cases w:nr with
   |true=>exact zM (show cT aY (ρ (F fd) (.im (.bl true)))=some (true,ρ (F fd) (.im (.bl true))) from rfl)
   |false=>rw[w]at e2;exact yE (show cT aY (ρ (F fd) (.im (.bl false)))=some (false,ρ (F fd) (.im (.bl false))) from rfl) e2
  have ev:NQ (ρ (F fd) q)=some (.nx (ρ (F (fd++[x].filter (vC dk s))) (.im (.bl nr)))):=by
   unfold NQ;refine(oe (ρ':=ρ (F fd) (.im (.bl nr))) ((oM e1).trans rfl)).trans ?_;cases w:vC dk s x with
   |true=>rw[w]at e3;rw[c9,w,ai rfl,iw];refine(o5 e3).trans (pP (d:=.non) ((vP (es:=fd.map D.str) rfl rfl rfl (by rw[ah];omega)).trans ?_));show some (D.non,ρ (.ls (fd.map D.str++[.str x])) (.im (.bl nr)))=some (_,ρ (.ls ((fd++[x]).map D.str)) (.im (.bl nr)));rw[aX];rfl
   |false=>rw[w]at e3;rw[c9,w,aj (by decide),iw,br];exact(ox e3).trans rfl
  obtain⟨p',q',g⟩:=Eo s l (fd++[x].filter (vC dk s)) (.im (.str x)) (.im (.bl nr)) (by
   have:=eA (vC dk s) [x];rw[aD];rw[aZ]at this;omega)
  refine⟨p',q',?_⟩;rw[ay];unfold forL;rw[show gN 5 (.str x) [.im sp,.im (atD A),.im (dcI V),.ls (fd.map D.str),.im (.bl (yT dk s)),p,q]=some (ρ (F fd) q) from rfl];simp only[ev];refine g.trans ?_;rw[bA,<- mj];rfl
theorem NR(s:Sit T A V S y r):xD [pz T M dk y,atD A,dcI V]=some ((tN (yu dk s)).map D.str):=by
 let sp:=pz T M dk y;have hl:=s.hT;have h7:(nmK T Kd.pl).length<=7:=by unfold nmK;rw[ah];exact s.p7
 obtain⟨p',q',g⟩:=Eo (M:=M) (dk:=dk) s (nmK T Kd.pl) [] .un .un (by simp;omega);have ef:(nmK T Kd.pl).filter (vC dk s)=yu dk s:=by unfold nmK yu;rw[mX,ml];congr 1;exact List.filter_congr λt _=>jV _ _
 rw[bH,ef]at g;refine vR (ρ:=[.im sp,.im (atD A),.im (dcI V),.im (.lst ((yu dk s).map D.str)),.im (.bl (yT dk s)),p',q']) rfl ?_;refine(oe (ρ':=[.im sp,.im (atD A),.im (dcI V),.ls [],.un,.un,.un]) rfl).trans ?_;refine(oe (ρ':=[.im sp,.im (atD A),.im (dcI V),.ls [],.im (.bl (yT dk s)),.un,.un]) ((oM (oi (og rfl (og rfl (og rfl rfl))) (JB s))).trans rfl)).trans ?_;refine(oe ((qa (xH (pB (oi (og rfl (og rfl rfl)) (of_ok (by omega) Kd.pl Q0))))).trans g)).trans ?_;exact vO (NP rfl (K0 s))
end
variable{st c a b:L4.D}
section
variable{A:List (Str×Str)}{V:List (Str×Int)}{S:List (Ky×L4.D)}{y:Str}{T:List Th}{M:List Mk}{dk:aC}{mo:L4.D}
theorem Qy(a b:L4.D):ra [wO T M dk y mo,.tup [.str "take", a,b]]=some (.tup [a,b]):=by kernel_rfl
theorem NS(a b:L4.D):ra [wO T M dk y mo,.tup [.str "put", a,b]]=some (.tup [a,b]):=by kernel_rfl
def noT(x:Str):Bool:=decide (x∉(["here", "it", "other"]:aC))
theorem NT{x:Str}(h:Nm x):x∉(["here", "it", "other"]:aC):=bj (Fe (p:=noT) (by kernel_rfl) h)
theorem JC{w:L4.D}(h:ra [w,c]=some (.tup [a,b])):sq [w,st,c,.str "it"]=some a:=by let ρ:aW:=[.im w,.im st,.im c,.im (.str "it")];refine oI (ρ:=ρ) rfl ?_;unfold xU;refine(oe (ρ':=ρ) ((ox (ρ':=ρ) (pG (oo rfl rfl (by kernel_rfl)))).trans rfl)).trans ?_;exact oR ((o5 (ρ':=ρ) (pG (oo rfl rfl (by kernel_rfl)))).trans (oO (oo (oi rfl h) rfl rfl)))
theorem Ip{w:L4.D}(h:ra [w,c]=some (.tup [a,b])):sq [w,st,c,.str "other"]=some b:=by let ρ:aW:=[.im w,.im st,.im c,.im (.str "other")];refine oI (ρ:=ρ) rfl ?_;unfold xU;refine(oe (ρ':=ρ) ((ox (ρ':=ρ) (pG (oo rfl rfl (by kernel_rfl)))).trans rfl)).trans ?_;refine(oe (ρ':=ρ) ((ox (ρ':=ρ) (pG (oo rfl rfl (by kernel_rfl)))).trans rfl)).trans ?_;exact oR ((o5 (ρ':=ρ) (pG (oo rfl rfl (by kernel_rfl)))).trans (oO (oo (oi rfl h) rfl rfl)))
theorem Qz{w:L4.D}{x:Str}(hx:Nm x):sq [w,st,c,.str x]=some (.str x):=by
 have n:=NT hx;have n1:dEq false (.str x) (.str "here")=some (.bl false):=by rw[ro,aQ λe=>n (by rw[e];simp)];rfl
 have n2:dEq false (.str x) (.str "it")=some (.bl false):=by rw[ro,aQ λe=>n (by rw[e];simp)];rfl
 have n3:dEq false (.str x) (.str "other")=some (.bl false):=by rw[ro,aQ λe=>n (by rw[e];simp)];rfl
 let ρ:aW:=[.im w,.im st,.im c,.im (.str x)];refine oI (ρ:=ρ) rfl ?_;unfold xU;refine(oe (ρ':=ρ) ((ox (ρ':=ρ) (pG (oo rfl rfl n1))).trans rfl)).trans ?_;refine(oe (ρ':=ρ) ((ox (ρ':=ρ) (pG (oo rfl rfl n2))).trans rfl)).trans ?_;refine(oe (ρ':=ρ) ((ox (ρ':=ρ) (pG (oo rfl rfl n3))).trans rfl)).trans ?_;rfl
theorem QA(a:vB A y)(o:Ao A V S){r:Str}(h:(y,r)∈A):rT [wO T M dk y mo,sD S]=some (.str r):=
 oI (ρ:=[.im (wO T M dk y mo),.im (sD S)]) rfl (oO (oi (ds:=[sD S,.str y]) rfl (xW a o h)))
theorem K1(a:vB A y)(o:Ao A V S){r:Str}(h:(y,r)∈A):sq [wO T M dk y mo,sD S,c,.str "here"]=some (.str r):=by let ρ:aW:=[.im (wO T M dk y mo),.im (sD S),.im c,.im (.str "here")];refine oI (ρ:=ρ) rfl ?_;unfold xU;exact oR ((o5 (ρ':=ρ) (pG (oo rfl rfl (by kernel_rfl)))).trans (oO (oi (ds:=[wO T M dk y mo,sD S]) rfl (QA a o h))))
end
variable{sm:aC}{f:Str}
section
variable{y:Str}{T:List Th}{M:List Mk}{dk:aC}
theorem tk{n:Int}(hn:0<n)(hi:IL es)(h0:pX ρ j=some es)(he:e ρ=some (.int n,ρ)):∃r es',IL es'/\0<=r/\r<n/\pf oh j (oa e oJ) ρ=some (.int r,putAt ρ j es'):=by obtain⟨r,es',h1,h2,h3,h4⟩:=qh hi n hn;exact⟨r,es',h1,h2,h3,qX h0 (og he rfl) h0 h4⟩
theorem pk{l:aC}(hl:l≠[])(hi:IL es)(h0:pX ρ j=some es)(hv:cV i ρ=some (.lst (l.map D.str),ρ)):∃x es',x∈l/\IL es'/\c2 dIx (cV i) (pf oh j (oa (c1 p5 (cV i)) oJ)) ρ=some (.str x,putAt ρ j es'):=by
 have hp:=l3.mpr hl;obtain⟨r,es',h1,h2,h3,h4⟩:=tk (n:=l.length) (e:=c1 p5 (cV i)) (by omega) hi h0 (pD hv (by show some (D.int _)=_;rw[ah]));obtain⟨r,rfl⟩:=cq h2;have hr:r<l.length:=by omega
 exact⟨l[r],es',dA hr,h1,oo hv h4 (rJ (aP hr))⟩
theorem Bh(x:Str)(xs:aC):dEq false (.lst ((x::xs).map D.str)) (.lst [])=some (.bl false):=by
 have e0:za false (.lst ((x::xs).map D.str)) (.lst [])=none:=rfl;have e1:toD (.lst ((x::xs).map D.str))=some (.lst ((x::xs).map L3.Dq.str)):=by unfold toD;rw[xV]
 have e3:dpt (.lst ((x::xs).map L3.Dq.str))=1:=by rw[dpt,u5]
 unfold dEq;rw[e0];show zb false _ _=_;unfold zb;rw[e1,show toD (.lst [])=some (.lst []) from rfl];show (if DJ (.lst ((x::xs).map L3.Dq.str)) (.lst [])&&decide (dpt (.lst ((x::xs).map L3.Dq.str))<=20)&&decide (dpt (.lst [])<=20)then some (D.bl (eqD (.lst ((x::xs).map L3.Dq.str)) (.lst [])))else none)=_;rw[e3];rfl
inductive Cm(sm:aC):L4.D->Str->Prop
 |go (z:Str):Cm sm (.tup [.str "go", .str z,.non]) "way"
 |wait:Cm sm (.tup [.str "wait", .non,.non]) "alone"
 |take {a:Str}:a∈sm->Cm sm (.tup [.str "take", .str a,.non]) "one"
 |put {a b:Str}:a∈sm->b∈sm->Cm sm (.tup [.str "put", .str a,.str b]) "two"
theorem QB(h:Cm sm c f):xE [c]=some (.str f):=by cases h<;>kernel_rfl
theorem Iq{r:Int}(h0:0<=r)(h1:r<2):dIx (.lst [a,b]) (.int r)=some (if r=0 then a else b):=by
 have:r=0\/r=1:=by omega
 rcases this with rfl|rfl<;>rfl
abbrev nE:=(oa (cC (.str "north")) (oa (cC (.str "up")) oJ))
abbrev nI:=(oa (pE (oa (cC (.str "go")) (oa (c2 dIx (cL (oU nE)) (pf oh 1 kX)) (oa bp oJ)))) (oa (pE (oa (cC (.str "wait")) (oa bp (oa bp oJ)))) oJ))
theorem Ir(g:Good T M dk)(hi:IL es):∃c f es',IL es'/\Cm (nmK T Kd.pl) c f/\rf es [pz T M dk y]=some (c,es'):=by
 let sp:=pz T M dk y;let sm:=nmK T Kd.pl;let L:L4.D:=.lst (sm.map D.str);have hl:=g.len;have run:∃c f es' x4,IL es'/\Cm sm c f/\∃x3,sA (stL 5 es [sp])=some (.rt c [.im sp,.pm es',.im L,x3,x4]):=by
  unfold sA;have e1:(oV 2 (cL (pb pO (oa ae (oa (cL (oU (oa kA (oa (cC (.str "fixed")) (oa dW iY))))) oJ)))):FS) (stL 5 es [sp])=some (.nx [.im sp,.pm es,.im L,.un,.un]):=(oM (pB (oi (og rfl (og rfl rfl)) (of_ok (by omega) Kd.pl Q0)))).trans rfl;rw[oe e1];obtain⟨w,es1,i1,w0,w1,h1⟩:=tk (ρ:=[.im sp,.pm es,.im L,.un,.un]) (j:=1) (e:=cC (.int 8)) (n:=8) (by decide) hi rfl rfl;rw[oe ((oM h1).trans (show _=some (Out.nx [.im sp,.pm es1,.im L,.im (.int w),.un]) from rfl))];let ρ:aW:=[.im sp,.pm es1,.im L,.im (.int w),.un];have far:∃c f es',IL es'/\Cm sm c f/\(oG (c2 dIx (cL (oU nI)) (c2 qW av bE)):FS) ρ=some (.rt c [.im sp,.pm es',.im L,.im (.int w),.un]):=by
   obtain⟨r,es2,i2,r0,r1,h2⟩:=tk (ρ:=ρ) (j:=1) (e:=cC (.int 2)) (n:=2) (by decide) i1 rfl rfl;have m0:=jK w (by decide:(2:Int)≠0);have m1:=jC w (by decide:(0:Int)<2);let z:Str:=if r=0 then "north" else "up"
   let ρ2:aW:=[.im sp,.pm es2,.im L,.im (.int w),.un];have ez:(if r=0 then D.str "north" else .str "up")=.str z:=by show _=D.str (if r=0 then "north" else "up");split<;>rfl
   have en:=oo (g:=dIx) (e:=cL (oU nE)) (ρ:=ρ) (ρ1:=ρ) rfl h2 ((Iq r0 r1).trans (aS some ez));have er:=oO (oo (g:=dIx) (e:=cL (oU nI)) (e':=c2 qW av bE) (x:=.lst [.tup [.str "go", .str z,.non],.tup [.str "wait", .non,.non]]) (y:=.int (w % 2)) (ρ:=ρ) (ρ1:=ρ2) (ρ2:=ρ2) (pB (wX (og (r9 (og rfl (og en rfl)) (bU rfl)) rfl) (bU rfl))) (oo rfl rfl (tP (by decide))) (Iq m0 m1));by_cases hw:w % 2=0
   ·rw[ai hw]at er;exact⟨_,_,es2,i2,.go z,er⟩
   ·rw[aj hw]at er;exact⟨_,_,es2,i2,.wait,er⟩
  obtain⟨c0,f0,es0,j0,k0,far⟩:=far;by_cases h0:sm=[]
  ·have et:tH (cT (c2 (dEq false) ar (cL (oU oJ)))) (cT (c2 Dl av dt)) ρ=some (true,ρ):=zM (pG (oo (x:=L) (y:=.lst []) rfl rfl (by show dEq false (.lst (sm.map D.str)) _=_;rw[h0];rfl)));exact⟨c0,f0,es0,_,j0,k0,_,oR ((o5 et).trans far)⟩
  ·have ee:cT (c2 (dEq false) ar (cL (oU oJ))) ρ=some (false,ρ):=pG (oo (x:=L) (y:=.lst []) rfl rfl (by
    show dEq false (.lst (sm.map D.str)) _=_;obtain⟨a,r,e⟩:=gY h0;rw[e];exact Bh a r))
   have et:tH (cT (c2 (dEq false) ar (cL (oU oJ)))) (cT (c2 Dl av dt)) ρ=some (decide (w > 5),ρ):=yE ee (pG (oo rfl rfl rfl));by_cases hw:w > 5
   ·rw[bg hw]at et;exact⟨c0,f0,es0,_,j0,k0,_,oR ((o5 et).trans far)⟩
   ·rw[aQ hw]at et;rw[oe ((ox et).trans (show _=some (Out.nx ρ) from rfl))];obtain⟨a,es2,ha,i2,h2⟩:=pk (ρ:=ρ) (i:=2) (j:=1) h0 i1 rfl rfl;rw[oe ((oM h2).trans (show _=some (Out.nx [.im sp,.pm es2,.im L,.im (.int w),.im (.str a)]) from rfl))];let ρ2:aW:=[.im sp,.pm es2,.im L,.im (.int w),.im (.str a)];have e2:cT (c2 yC av bE) ρ2=some (decide (w<2),ρ2):=pG (oo rfl rfl rfl);by_cases hw:w<2
    ·rw[bg hw]at e2;exact⟨_,_,es2,_,i2,.take ha,_,oR ((o5 e2).trans rfl)⟩
    ·rw[aQ hw]at e2;rw[oe ((ox e2).trans (show _=some (Out.nx ρ2) from rfl))];obtain⟨b,es3,hb,i3,h3⟩:=pk (ρ:=ρ2) (i:=2) (j:=1) h0 i2 rfl rfl;exact⟨_,_,es3,_,i3,.put ha hb,_,oO (r9 (og rfl (og rfl (og h3 rfl))) (bU rfl))⟩
 obtain⟨c,f,es',x4,i',cm,x3,run⟩:=run;refine⟨c,f,es',i',cm,?_⟩;unfold rf fnL;rw[ai (show [sp].length=1 from rfl),run];rfl
end
section
variable{y:Str}{T:List Th}{M:List Mk}{dk:aC}{A:List (Str×Str)}
inductive Tm(A:List (Str×Str)) (y:Str):L4.D->Str->Str->Prop
 |it1 (a:Str):Tm A y (.tup [.str "take", .str a,.non]) "it" a
 |it2 (a b:Str):Tm A y (.tup [.str "put", .str a,.str b]) "it" a
 |oth (a b:Str):Tm A y (.tup [.str "put", .str a,.str b]) "other" b
 |nm (c:L4.D) {x:Str}:Nm x->Tm A y c x x
 |here (c:L4.D) {r:Str}:(y,r)∈A->Tm A y c "here" r
theorem W5(k:Kd):dIn false (.str k.s) (.lst [.str "room", .str "box", .str "you"])=some (.bl k.hd):=by cases k<;>kernel_rfl
theorem NU(cm:Cm sm c f):dIn false (.str f) (.lst [.str "one", .str "two"])=some (.bl (decide (f="one" \/ f="two"))):=by cases cm<;>kernel_rfl
theorem is2(cm:Cm sm c f):dEq false (.str f) (.str "two")=some (.bl (decide (f="two"))):=by cases cm<;>kernel_rfl
theorem nmN(g:Good T M dk){x:Str}(h:x∈nmK T p):Nm x:=g.nm _ (bG _ ((pT T p).subset h))
theorem JD(cm:Cm sm c f){t:Str}(h:(t="it" /\ (f="one" \/ f="two"))\/(t="other" /\ f="two")):∃z,Tm A y c t z/\z∈sm:=by
 cases cm with
 |go z=>rcases h with ⟨_,h|h⟩|⟨_,h⟩<;>exact aq h (by decide)
 |wait=>rcases h with ⟨_,h|h⟩|⟨_,h⟩<;>exact aq h (by decide)
 |@take a ha=>
  rcases h with ⟨rfl,_⟩|⟨_,h⟩
  ·exact⟨a,.it1 a,ha⟩
  ·exact aq h (by decide)
 |@put a b ha hb=>
  rcases h with ⟨rfl,_⟩|⟨rfl,_⟩
  ·exact⟨a,.it2 a b,ha⟩
  ·exact⟨b,.oth a b,hb⟩
def itL(n:Nat)(f:Str):aC:=if f="one" \/ f="two" then dH n "it" else []
def otL(f:Str):aC:=if f="two" then ["other", "other"]else []
theorem NV(cm:Cm sm c f){n:Nat}{t:Str}(h:t∈itL n f\/t∈otL f):∃z,Tm A y c t z/\z∈sm:=by
 refine JD cm ?_;rcases h with h|h
 ·unfold itL at h;split at h
  ·rename_i e;exact .inl ⟨(List.mem_replicate.mp h).2,e⟩
  ·cases h
 ·unfold otL at h;split at h
  ·rename_i e;refine .inr ⟨?_,e⟩;rcases aN.mp h with h|h
   ·exact h
   ·exact aR.mp h
  ·cases h
abbrev iW:=(oa (cC (.str "one")) (oa (cC (.str "two")) oJ))
abbrev iX:=(cC (.str "two"))
abbrev kO:=(cC (.str "other"))
theorem NW(g:Good T M dk)(cm:Cm (nmK T Kd.pl) c f)(hr:∃r,(y,r)∈A/\r∈T.map Th.n)(hi:IL es):∃p w es',IL es'/\Tm A y c p w/\w∈T.map Th.n/\tY es [pz T M dk y,.str f]=some (.str p,es'):=by
 let sp:=pz T M dk y;let hs:=nmK T Kd.hd;let L:L4.D:=.lst (hs.map D.str);have hl:=g.len;have h0:hs≠[]:=λe=>by have:=g.r1;obtain⟨t,ht⟩:=List.exists_mem_of_length_pos (by omega:0<(T.filter λt=>decide (t.k=.room)).length);rw[bO]at ht;have hm:t.n∈hs:=aL.mpr ⟨t,bO.mpr ⟨ht.1,by rw[bj ht.2];rfl⟩,rfl⟩;rw[e]at hm;cases hm
 let ρ:List L4.D->Sl->aW:=λes s=>[.im sp,.im (.str f),.pm es,.im L,s];obtain⟨a,es1,ha,i1,e1⟩:=pk (ρ:=ρ es .un) (i:=3) (j:=2) h0 hi rfl rfl;obtain⟨b,es2,hb,i2,e2⟩:=pk (ρ:=ρ es1 .un) (i:=3) (j:=2) h0 i1 rfl rfl;let P1:aC:=[a,b,"here"]++itL 1 f;let P2:aC:=P1++otL f;have hP:∀t∈P2,∃w,Tm A y c t w/\w∈T.map Th.n:=λt ht=>by
  have sub:∀{p:Kd->Bool} {x:Str},x∈nmK T p->x∈T.map Th.n:=λh=>(pT T _).subset h;rcases bw.mp ht with ht|ht
  ·rcases bw.mp ht with ht|ht
   ·rcases aN.mp ht with rfl|ht
    ·exact⟨_,.nm c (nmN g ha),sub ha⟩
    ·rcases aN.mp ht with rfl|ht
     ·exact⟨_,.nm c (nmN g hb),sub hb⟩
     ·rw[aR.mp ht];obtain⟨r,h1,h2⟩:=hr;exact⟨r,.here c h1,h2⟩
   ·obtain⟨z,h1,h2⟩:=NV (A:=A) (y:=y) cm (.inl ht);exact⟨z,h1,sub h2⟩
  ·obtain⟨z,h1,h2⟩:=NV (n:=1) (A:=A) (y:=y) cm (.inr ht);exact⟨z,h1,sub h2⟩
 have lP:P2.length<=10:=by show (([a,b,"here"]++itL 1 f)++otL f).length<=10;unfold itL otL;split<;>split<;>simp
 have s1:(sIf (cT (c2 (dIn false) ag (cL (oU iW)))) (o9 (sE 4 (cC (.str "it")))) oQ:FS) (ρ es2 (.ls ([a,b,"here"].map D.str)))=some (.nx (ρ es2 (.ls (P1.map D.str)))):=by
  have et:cT (c2 (dIn false) ag (cL (oU iW))) (ρ es2 (.ls ([a,b,"here"].map D.str)))=some (decide (f="one" \/ f="two"),ρ es2 (.ls ([a,b,"here"].map D.str))):=pG (oo (x:=.str f) (y:=.lst [.str "one", .str "two"]) rfl rfl (NU cm));by_cases h:f="one" \/ f="two"
  ·rw[bg h]at et;show _=some (Out.nx (ρ es2 (.ls (([a,b,"here"]++itL 1 f).map D.str))));unfold itL;rw[ai h];exact(o5 et).trans rfl
  ·rw[aQ h]at et;show _=some (Out.nx (ρ es2 (.ls (([a,b,"here"]++itL 1 f).map D.str))));unfold itL;rw[aj h];exact(ox et).trans rfl
 have s2:(sIf (cT (c2 (dEq false) ag iX)) (qU 4 (qO (cFz 4) (cL (oU (oa kO (oa kO oJ)))))) oQ:FS) (ρ es2 (.ls (P1.map D.str)))=some (.nx (ρ es2 (.ls (P2.map D.str)))):=by
  have et:cT (c2 (dEq false) ag iX) (ρ es2 (.ls (P1.map D.str)))=some (decide (f="two"),ρ es2 (.ls (P1.map D.str))):=pG (oo (x:=.str f) (y:=.str "two") rfl rfl (is2 cm));by_cases h:f="two"
  ·rw[bg h]at et;have e:P2=P1++(["other", "other"]:aC):=by show P1++otL f=_;unfold otL;rw[ai h]
   rw[e]at lP ⊢;rw[aD]at lP;refine(o5 et).trans ((vM (sI (xs:=P1.map D.str) (ys:=[.str "other", .str "other"]) (ρ1:=ρ es2 (.im (.lst (P1.map D.str)))) rfl rfl (by rw[ah];simp at lP ⊢;omega))).trans ?_);rw[aX (l₁:=P1)];rfl
  ·rw[aQ h]at et;have e:P2=P1:=by show P1++otL f=_;unfold otL;rw[aj h,br]
   rw[e];exact(ox et).trans rfl
 have hne:P2≠[]:=λe=>by have:=aS bS e;simp[P2,P1]at this
 obtain⟨p,es3,hp,i3,e3⟩:=Fk (ρ:=ρ es2 (.ls (P2.map D.str))) (i:=2) (j:=4) (Hs:=P2) i2 hne rfl rfl rfl (λes'=>rfl);obtain⟨w,tm,hw⟩:=hP p hp;refine⟨p,w,es3,i3,tm,hw,?_⟩;have run:tX (stL 5 es [sp,.str f])=some (.rt (.str p) (ρ es3 (.ls (P2.map D.str)))):=by unfold tX;refine(oe (ρ':=ρ es .un) ((oM (pB (oi (ds:=[sp,.lst [.str "room", .str "box", .str "you"]]) (og rfl (og rfl rfl)) (of_ok (by omega) Kd.hd W5)))).trans rfl)).trans ?_;refine(oe (ρ':=ρ es2 (.ls ([a,b,"here"].map D.str))) ((vM (wX (og e1 (og e2 (og rfl rfl))) (bU rfl))).trans rfl)).trans ?_;refine(oe s1).trans ((oe s2).trans ?_);exact(oO e3).trans rfl
 unfold tY fnL;rw[ai (show [sp,D.str f].length=2 from rfl),run];rfl
end
section
variable{A:List (Str×Str)}{V:List (Str×Int)}{S:List (Ky×L4.D)}{y:Str}{T:List Th}{M:List Mk}{dk:aC}{mo:L4.D}
theorem Vo(h:Cm sm c f):∃k a b,c=.tup [k,a,b]:=by cases h<;>exact⟨_,_,_,rfl⟩
theorem ub(a:vB A y){t z:Str}(tm:Tm A y c t z)(hc:∃k a b,c=.tup [k,a,b]):sC [pz T M dk y,atD A,c,.str t]=some (.str z):=by
 let ρ:aW:=[.im (pz T M dk y),.im (atD A),.im c,.im (.str t)];obtain⟨r,hr⟩:=a.yo;have gen:∀k d e:L4.D,c=.tup [k,d,e]->DT (vc [("it", (c2 dIx ar aG)),("other", (c2 dIx ar bE)),("here", (c2 pd ag (c2 pd ae dS)))]) av av ρ=some ((qf [kS "it", kS "other", kS "here"] [d,e,.str r] (kS t)).getD (.str t),ρ):=λk d e ee=>by subst ee;have ed:=Jv (Bf (x:="it") (f:=c2 dIx ar aG) (ρ:=ρ) (oo (x:=.tup [k,d,e]) (y:=.int 1) rfl rfl rfl) (Bf (x:="other") (f:=c2 dIx ar bE) (oo (x:=.tup [k,d,e]) (y:=.int 2) rfl rfl rfl) (Bf (x:="here") (f:=c2 pd ag (c2 pd ae dS)) (r:=[]) (oo (x:=atD A) (y:=.str y) rfl rfl (xX a hr)) rfl)));unfold DT;rw[ed];rfl
 refine oI (ρ:=ρ) rfl (oO ?_);cases tm with
 |it1 a=>exact gen _ _ _ rfl
 |it2 a b=>exact gen _ _ _ rfl
 |oth a b=>exact gen _ _ _ rfl
 |here c h=>obtain⟨k,d,e,ee⟩:=hc;rw[Jx a.nd h hr];exact gen k d e ee
 |nm c hx=>
  obtain⟨k,d,e,ee⟩:=hc;have n:=NT hx;refine(gen k d e ee).trans ?_;rw[xP λw=>?_]
  ·rfl
  ·rcases aN.mp w with w|w
   ·exact n (by rw[CM w];simp)
   ·rcases aN.mp w with w|w
    ·exact n (by rw[CM w];simp)
    ·exact n (by rw[CM (aR.mp w)];simp)
theorem xY(a:vB A y){S:List (Ky×L4.D)}(o:Ao A V S){t z:Str}(tm:Tm A y c t z):sq [wO T M dk y mo,sD S,c,.str t]=some (.str z):=by
 cases tm with
 |it1 a=>exact JC (Qy _ _)
 |it2 a b=>exact JC (NS _ _)
 |oth a b=>exact Ip (NS _ _)
 |nm c hx=>exact Qz hx
 |here c h=>exact K1 a o h
end
section
variable{y:Str}{T:List Th}{M:List Mk}{dk:aC}{A:List (Str×Str)}
abbrev mks(T:List Th)(M:List Mk):aC:=nmK T Kd.mk++M.map Mk.n
theorem ndM(g:Good T M dk):(mks T M).Nodup:=g.nd.sublist ((pT T _).append (eF _))
theorem JE(g:Good T M dk):(mks T M).length<=11:=by
 unfold mks;rw[aD,ah];have h2:=Ik (T:=T) (p:=Kd.mk) (q:=Kd.pl) λk h=>by cases k<;>first|rfl|cases h
 have h3:=g.p7;have h4:=g.m4;omega
theorem Ep:∀V:List (Str×Int),AF (V.map λq=>kS q.1)=some (V.map aF)
 |[]=>rfl
 |q::V=>by rw[ay,ay];show (AF _).map _=_;rw[Ep V];rfl
theorem NX{V:List (Str×Int)}(h:e ρ=some (dcI V,ρ))(hl:V.length<64):Ae e ρ=some ((tN (V.map aF)).map D.str,ρ):=by unfold Ae;rw[h];simp only[Ep,ah,hl,if_true]
theorem vE{c:FT}(h:c ρ=some (true,ρ1)):sW c c' ρ=c' ρ1:=by unfold sW;rw[h]
theorem Aq{c:FT}(h:c ρ=some (false,ρ1)):sW c c' ρ=some (false,ρ1):=by unfold sW;rw[h]
abbrev nF:=(oa (cC (.str "it")) (oa kO oJ))
abbrev nH:=(oa (c2 dIx (cL (oU (oa (cC (.str "it")) (oa (c2 dIx (cL (oU nF)) (c1 Hu (c2 (dEq false) ag iX))) oJ)))) (pf oh 2 kX)) (oa (pf oh 2 (oa eU oJ)) oJ))
theorem K2(g:Good T M dk)(cm:Cm (nmK T Kd.pl) c f)(hi:IL es)(hf:f="one" \/ f="two" \/ moL T M≠[]):∃t z v es',IL es'/\Tm A y c t z/\rH es [pz T M dk y,.str f]=some (.tup [.str t,.int v],es'):=by
 let sp:=pz T M dk y;obtain⟨V,em,v1,v2,rfl⟩:=CU (y:=y) g;let N:=tN ((moL T M).map aF);let L:L4.D:=.lst (N.map D.str);have hN:∀x,x∈N ↔ x∈(moL T M).map aF:=λx=>(hZ _ leS).mem_iff;have hl:(moL T M).length<=11:=by have:=JE g;have h:=aS bS v1;rw[ah]at h;rw[h];exact this
 let ρ:List L4.D->Sl->aW:=λes s=>[.im sp,.im (.str f),.pm es,.im (dcI (moL T M)),.im L,s];have byit:∀es1,IL es1->(f="one" \/ f="two")->∃t z v es',IL es'/\Tm A y c t z/\(oG (pE nH):FS) (ρ es1 .un)=some (.rt (.tup [.str t,.int v]) (ρ es' .un)):=λes1 i1 h=>by
  obtain⟨r,es2,i2,r0,r1,h2⟩:=tk (ρ:=ρ es1 .un) (j:=2) (e:=cC (.int 2)) (n:=2) (by decide) i1 rfl rfl;obtain⟨v,es3,i3,_,_,h3⟩:=tk (ρ:=ρ es2 .un) (j:=2) (e:=cC (.int 4)) (n:=4) (by decide) i2 rfl rfl;have fin:∀b:Str,c2 dIx (cL (oU nF)) (c1 Hu (c2 (dEq false) ag iX)) (ρ es1 .un)=some (.str b,ρ es1 .un)->(oG (pE nH):FS) (ρ es1 .un)=some (.rt (.tup [.str (if r=0 then "it" else b),.int v]) (ρ es3 .un)):=λb eb=>by
   have ez:(if r=0 then D.str "it" else .str b)=.str (if r=0 then "it" else b):=by split<;>rfl
   exact oO (r9 (og (oo (x:=.lst [.str "it", .str b]) (y:=.int r) (ρ1:=ρ es1 .un) (pB (wX (og rfl (og eb rfl)) (bU rfl))) h2 ((Iq r0 r1).trans (aS some ez))) (og h3 rfl)) (bU rfl))
  cases cm with
  |go z=>rcases h with h|h<;>exact aq h (by decide)
  |wait=>rcases h with h|h<;>exact aq h (by decide)
  |@take a ha=>refine⟨_,a,v,es3,i3,?_,fin "it" (by kernel_rfl)⟩;rw[ite_self];exact .it1 a
  |@put a b ha hb=>
   by_cases hr:r=0
   ·refine⟨_,a,v,es3,i3,?_,fin "other" (by kernel_rfl)⟩;rw[ai hr];exact .it2 a b
   ·refine⟨_,b,v,es3,i3,?_,fin "other" (by kernel_rfl)⟩;rw[aj hr];exact .oth a b
 have byname:∀es1,IL es1->N≠[]->∃t z v es' s,IL es'/\Tm A y c t z/\(oj (oV 5 (c2 dIx aw (pf oh 2 (oa (c1 p5 aw) oJ))))
   (oG (pE (oa aJ (oa (pf oh 2 (oa (c2 pI (c2 pd av aJ) aG) oJ)) oJ)))):FS) (ρ es1 .un)=some (.rt (.tup [.str t,.int v]) (ρ es' s)):=λes1 i1 h=>by
  obtain⟨x,es2,hx,i2,h2⟩:=pk (ρ:=ρ es1 .un) (i:=4) (j:=2) h i1 rfl rfl;obtain⟨q,hq,rfl⟩:=aL.mp ((hN x).mp hx);have h1:=v2 q hq;have hm:q.1∈mks T M:=by show q.1∈nmK T Kd.mk++M.map Mk.n;rw[<-v1];exact aL.mpr ⟨q,hq,rfl⟩
  have nm:Nm q.1:=g.nm _ (((pT T Kd.mk).append (eF _)).subset hm);rw[oe ((oM h2).trans (show _=some (Out.nx (ρ es2 (.im (.str q.1)))) from rfl))];obtain⟨v,es3,i3,_,_,h3⟩:=tk (ρ:=ρ es2 (.im (.str q.1))) (j:=2) (e:=c2 pI (c2 pd av aJ) aG) (n:=q.2+1) (by omega) i2 rfl (oo (x:=.int q.2) (y:=.int 1) (oo (x:=dcI (moL T M)) (y:=.str q.1) rfl rfl (Io (by rw[v1];exact ndM g) (x:=q.1) (z:=q.2) hq)) rfl rfl);exact⟨q.1,q.1,v,es3,_,i3,.nm c nm,oO (r9 (og rfl (og h3 rfl)) (bU rfl))⟩
 have run:∃t z v es' s,IL es'/\Tm A y c t z/\sV (stL 6 es [sp,.str f])=some (.rt (.tup [.str t,.int v]) (ρ es' s)):=by
  unfold sV;rw[oe ((oM (oi (ds:=[sp]) (ρ1:=[.im sp,.im (.str f),.pm es,.un,.un,.un]) rfl em)).trans (show _=some (Out.nx [.im sp,.im (.str f),.pm es,.im (dcI (moL T M)),.un,.un]) from rfl))];rw[oe ((oM (pB (NX (V:=moL T M) rfl (by omega)))).trans (show _=some (Out.nx (ρ es .un)) from rfl))];by_cases h12:f="one" \/ f="two"
  ·have e1:cT (c2 (dIn false) ag (cL (oU iW))) (ρ es .un)=some (true,ρ es .un):=by rcases h12 with h|h<;>(subst h;kernel_rfl)
   by_cases h0:N=[]
   ·obtain⟨t,z,v,es',i',tm,e⟩:=byit es hi h12;exact⟨t,z,v,es',.un,i',tm,oR ((o5 ((vE e1).trans (zM (pG (oo (x:=L) (y:=.lst []) rfl rfl (by show dEq false (.lst (N.map D.str)) _=_;rw[h0];rfl)))))).trans e)⟩
   ·have e2:cT (c2 (dEq false) aw (cL (oU oJ))) (ρ es .un)=some (false,ρ es .un):=pG (oo (x:=L) (y:=.lst []) rfl rfl (by
     show dEq false (.lst (N.map D.str)) _=_;obtain⟨a,r,e⟩:=gY h0;rw[e];exact Bh a r))
    obtain⟨r,es1,i1,_,_,h1⟩:=tk (ρ:=ρ es .un) (j:=2) (e:=cC (.int 2)) (n:=2) (by decide) hi rfl rfl;have e3:=(vE e1).trans (yE e2 (pG (oo (e':=cC (.int 0)) h1 rfl (se false r 0))));by_cases hr:r=0
    ·obtain⟨t,z,v,es',i',tm,e⟩:=byit es1 i1 h12;rw[bg hr]at e3;exact⟨t,z,v,es',.un,i',tm,oR ((o5 e3).trans e)⟩
    ·obtain⟨t,z,v,es',s,i',tm,e⟩:=byname es1 i1 h0;rw[aQ hr]at e3;exact⟨t,z,v,es',s,i',tm,(oe ((ox e3).trans rfl)).trans e⟩
  ·have h0:N≠[]:=λh=>by
    rcases hf with h'|h'|h'
    ·exact h12 (.inl h')
    ·exact h12 (.inr h')
    ·obtain⟨q,r,e⟩:=gY h';have:q.1∈N:=(hN _).mpr (by rw[e];exact aV ..);rw[h]at this;cases this
   have e1:cT (c2 (dIn false) ag (cL (oU iW))) (ρ es .un)=some (false,ρ es .un):=pG (oo (x:=.str f) (y:=.lst [.str "one", .str "two"]) rfl rfl ((rF false f ["one", "two"]).trans (by simp;exact⟨λh=>h12 (.inl h),λh=>h12 (.inr h)⟩)));obtain⟨t,z,v,es',s,i',tm,e⟩:=byname es hi h0;exact⟨t,z,v,es',s,i',tm,(oe ((ox (Aq e1)).trans rfl)).trans e⟩
 obtain⟨t,z,v,es',s,i',tm,run⟩:=run;refine⟨t,z,v,es',i',tm,?_⟩;unfold rH fnL;rw[ai (show [sp,D.str f].length=2 from rfl),run];rfl
end
section
variable{y:Str}{T:List Th}{M:List Mk}{dk:aC}{A:List (Str×Str)}
theorem JF(l:aC)(lo hi:Option Int):∃l':aC,cutD (l.map D.str) lo hi=l'.map D.str/\(∀x∈l',x∈l)/\l'.length<=l.length:=
 ⟨(l.drop (HT.sIx l.length 0 lo)).take (HT.sIx l.length l.length hi - HT.sIx l.length 0 lo),by unfold cutD;rw[ah,<- fz,<- eK],λx hx=>jr (lV hx),by rw[bo,bX];omega⟩
theorem JG{ρ:Sl->aW}{c:FT}{b:Bool}{e:FA}{P ys:aC}(hs:∀d s,(ρ s).set 4 (.im d)=ρ (.im d))(h4:∀d,cV 4 (ρ (.im d))=some (d,ρ (.im d)))(hc:∀s,c (ρ s)=some (b,ρ s))(he:∀s,e (ρ s)=some (ys.map D.str,ρ s))(hl:P.length+ys.length<=900):
  (sIf c (oV 4 (cL (qO aw (cL e)))) oQ:FS) (ρ (.im (.lst (P.map D.str))))=some (.nx (ρ (.im (.lst ((P++if b then ys else []).map D.str))))):=by
 cases b with
 |false=>exact(ox (hc _)).trans (by rw[aj bq,br];rfl)
 |true=>refine(o5 (hc _)).trans ((oM (pB (sI (xs:=P.map D.str) (ys:=ys.map D.str) (h4 _) (pB (he _)) (by rw[ah,ah];omega)))).trans ?_);rw[hs,ai rfl,aX]
theorem QC(g:Good T M dk)(cm:Cm (nmK T Kd.pl) c f)(hr:∃r,(y,r)∈A/\r∈T.map Th.n)(hi:IL es):∃t z es',IL es'/\Tm A y c t z/\z∈T.map Th.n/\rg es [pz T M dk y,.str f]=some (.str t,es'):=by
 let sp:=pz T M dk y;let N:=T.map Th.n;have hl:=g.len;let ρ:List L4.D->Sl->aW:=λes s=>[.im sp,.im (.str f),.pm es,.im (.lst (N.map D.str)),s];have hN:0<N.length:=by have h1:=g.r1;have h2:=eA (λt:Th=>decide (t.k=.room)) T;show 0<(T.map Th.n).length;rw[ah];omega
 have lN:N.length=T.length:=ah _;obtain⟨r,es1,i1,_,_,e1⟩:=tk (ρ:=ρ es .un) (j:=2) (e:=c1 p5 av) (n:=N.length) (by omega) hi rfl (pD rfl (by show some (D.int ((N.map D.str).length:Nat))=_;rw[ah]));obtain⟨l1,cq1,m1,n1⟩:=JF N (some r) none;obtain⟨l2,cq2,m2,n2⟩:=JF l1 none (some 3);let P0:aC:=l2++(["here"]:aC);let P1:aC:=P0++if decide (f="one" \/ f="two")then (["it", "it", "it"]:aC)else []
 let P2:aC:=P1++if decide (f="two")then (["other", "other"]:aC)else []
 have lP0:P0.length<=300:=by show (l2++(["here"]:aC)).length<=300;rw[aD];simp;omega
 have lP1:P1.length<=303:=by show (P0++if decide (f="one" \/ f="two")then (["it", "it", "it"]:aC)else []).length<=303;rw[aD];split<;>simp<;>omega
 have hP:∀t∈P2,∃w,Tm A y c t w/\w∈T.map Th.n:=λt ht=>by
  have byc:((t="it" /\ (f="one" \/ f="two"))\/(t="other" /\ f="two"))->∃w,Tm A y c t w/\w∈T.map Th.n:=λh=>by obtain⟨z,h1,h2⟩:=JD (A:=A) (y:=y) cm h;exact⟨z,h1,(pT T _).subset h2⟩
  rcases bw.mp ht with ht|ht
  ·rcases bw.mp ht with ht|ht
   ·rcases bw.mp ht with ht|ht
    ·have h:=m1 _ (m2 _ ht);exact⟨t,.nm c (g.nm _ (bG _ h)),h⟩
    ·rw[aR.mp ht];obtain⟨r,h1,h2⟩:=hr;exact⟨r,.here c h1,h2⟩
   ·split at ht
    ·rename_i h;refine byc (.inl ⟨?_,bj h⟩);simpa using ht
    ·cases ht
  ·split at ht
   ·rename_i h;refine byc (.inr ⟨?_,bj h⟩);simpa using ht
   ·cases ht
 have hne:P2≠[]:=λe=>by have:=aS bS e;simp[P2,P1,P0]at this
 obtain⟨t,es2,ht,i2,e2⟩:=pk (ρ:=ρ es1 (.im (.lst (P2.map D.str)))) (i:=4) (j:=2) hne i1 rfl rfl;obtain⟨z,tm,hz⟩:=hP t ht;refine⟨t,z,es2,i2,tm,hz,?_⟩;have run:tu (stL 5 es [sp,.str f])=some (.rt (.str t) (ρ es2 (.im (.lst (P2.map D.str))))):=by
  unfold tu;have ec:=xF (k:=3) (cap:=[]) (s:=iL (c2 pd ae eV)) (g:=gT (oK (gN 0) (oK (gN 1) (oK (gN 2) qj))) 3) (fe:=cV 0) (λt:Th=>oY t.rw) (λt=>D.str t.n) T (ρ:=[.im sp,.im (.str f),.pm es,.un,.un]) (ρ1:=[.im sp,.im (.str f),.pm es,.un,.un]) rfl (by omega) λt _=>⟨_,_,rfl,rfl,rfl⟩;refine(oe (ρ':=ρ es .un) ((oM (pB ec)).trans ?_)).trans ?_
  ·show _=some (Out.nx [.im sp,.im (.str f),.pm es,.im (.lst ((T.map Th.n).map D.str)),.un]);rw[aU];rfl
  refine(oe (ρ':=ρ es1 (.im (.lst (P0.map D.str)))) ((oM (pB (sI (xs:=l2.map D.str) (ys:=[.str "here"]) (ρ1:=ρ es1 .un) (ρ2:=ρ es1 .un) (pB ?_) rfl (by rw[ah];simp;omega)))).trans ?_)).trans ?_
  ·have h1:tQ av (oAt (pf oh 2 gR)) oNo (ρ es .un)=some (l1.map D.str,ρ es1 .un):=by unfold tQ oAt;show (match (match pf oh 2 (oa (c1 p5 av) oJ) (ρ es .un)with|some (.int i,ρ')=>some (some i,ρ')|_=>none)with|some (l,ρ2)=>some (cutD (N.map D.str) l none,ρ2)|none=>none)=_;rw[e1];show some (cutD (N.map D.str) (some r) none,ρ es1 .un)=_;rw[cq1]
   unfold cSl;rw[pB h1];show some (cutD (l1.map D.str) none (some 3),ρ es1 .un)=_;rw[cq2]
  ·rw[show P0.map D.str=l2.map D.str++[.str "here"] from aX];rfl
  refine(oe (JG (ρ:=ρ es1) (P:=P0) (e:=oU nR) (ys:=["it", "it", "it"]) (λ_ _=>rfl) (λ_=>rfl) (λs=>pG (oo (x:=.str f) (y:=.lst [.str "one", .str "two"]) rfl rfl (NU cm))) (λ_=>rfl) (by simp;omega))).trans ?_;refine(oe (JG (ρ:=ρ es1) (P:=P1) (e:=oU kL) (ys:=["other", "other"]) (λ_ _=>rfl) (λ_=>rfl) (λs=>pG (oo (x:=.str f) (y:=.str "two") rfl rfl (is2 cm))) (λ_=>rfl) (by simp;omega))).trans ?_;exact(oO e2).trans rfl
 unfold rg fnL;rw[ai (show [sp,D.str f].length=2 from rfl)];rw[show tu (stL 5 es [pz T M dk y,.str f])=_ from run];rfl
end
section
variable{y:Str}{T:List Th}{M:List Mk}{dk:aC}{A:List (Str×Str)}
inductive Ak(T:List Th) (A:List (Str×Str)) (y:Str) (c:L4.D) (f:Str):L4.D->Prop
 |at {t p z w:Str}:Tm A y c t z->Tm A y c p w->Ak T A y c f (.tup [.str "at", .str t,.str p])
 |has {t z:Str}:Tm A y c t z->Ak T A y c f (.tup [.str "has", .str t])
 |seen {t z:Str}:Tm A y c t z->z∈T.map Th.n->Ak T A y c f (.tup [.str "seen", .str t])
 |kind {t z:Str} (k:Str):Tm A y c t z->z∈T.map Th.n->Ak T A y c f (.tup [.str "kind", .str t,.str k])
 |word (x:Str):f="way" -> Ak T A y c f (.tup [.str "word", .str x])
 |marked {t z:Str} (v:Int):Tm A y c t z->Ak T A y c f (.tup [.str "marked", .str t,.int v])
 |lit:Ak T A y c f (.tup [.str "lit"])
theorem wq{g:List L4.D->List L4.D->Option (L4.D×List L4.D)}{a:FA}(h1:a ρ=some (ds,ρ1))(h2:pX ρ1 i=some es)(h3:g es ds=some (d,es')):qg g i a ρ=some (d,putAt ρ1 i es'):=by unfold qg;rw[h1];simp only[h2,h3]
theorem Vp{f:FE}{gg:FG}(h1:f ρ=some (d,ρ1))(h2:gg d ρ1=some ρ2):Ho f gg ρ=some (.nx ρ2):=by unfold Ho;rw[h1];simp only[h2]
theorem JH{l:aC}{r:Int}(h0:0<=r)(h1:r<l.length):∃x,dIx (.lst (l.map D.str)) (.int r)=some (.str x):=by
 obtain⟨m,rfl⟩:=cq h0;have hm:m<l.length:=by omega
 exact⟨_,rJ (aP hm)⟩
theorem NY(g:Good T M dk)(cm:Cm (nmK T Kd.pl) c f)(hr:∃r,(y,r)∈A/\r∈T.map Th.n)(hi:IL es):∃d es',IL es'/\Ak T A y c f d/\qD es [pz T M dk y,.str f,.int 1]=some (d,es'):=by
 let sp:=pz T M dk y;let ρ:List L4.D->Sl->Sl->Sl->Sl->aW:=λes a b p q=>[.im sp,.im (.str f),.pm es,.im (.int 1),a,b,p,q];have suf:∀{d:L4.D} {es':List L4.D} {a b p q:Sl},rB (ρ es .un .un .un .un)=some (.rt d (ρ es' a b p q))->qD es [pz T M dk y,.str f,.int 1]=some (d,es'):=λ{d es' a b p q} run=>by unfold qD fnJ;rw[ai (show [sp,D.str f,.int 1].length=3 from rfl)];rw[show rB (stJ 2 8 es [pz T M dk y,.str f,.int 1])=_ from run];rfl
 obtain⟨r,es1,i1,r0,r1,e1⟩:=tk (ρ:=ρ es .un .un .un .un) (j:=2) (e:=c2 dIx (cL (oU (oa c6 (a1 dY)))) (c1 Hu (c2 Dl av aG))) (n:=7) (by decide) hi rfl (by kernel_rfl);have fin:(∃d es' a b p q,IL es'/\Ak T A y c f d/\rB (ρ es .un .un .un .un)=some (.rt d (ρ es' a b p q)))->∃d es',IL es'/\Ak T A y c f d/\qD es [pz T M dk y,.str f,.int 1]=some (d,es'):=λ⟨d,es',a,b,p,q,h1,h2,h3⟩=>⟨d,es',h1,h2,suf h3⟩;refine fin ?_;unfold rB;rw[oe ((oM e1).trans (show _=some (Out.nx (ρ es1 (.im (.int r)) .un .un .un)) from rfl))];have trm:∀{es0:List L4.D} (s5:Sl),IL es0->∃t z es',IL es'/\Tm A y c t z/\z∈T.map Th.n/\qg rg 2 b0 (ρ es0 (.im (.int r)) s5 .un .un)=some (.str t,ρ es' (.im (.int r)) s5 .un .un):=λ{es0} s5 h=>by obtain⟨t,z,es',h1,h2,h3,h4⟩:=QC (A:=A) (y:=y) g cm hr h;exact⟨t,z,es',h1,h2,h3,(wq (i:=2) (ds:=[sp,.str f]) (ρ1:=ρ es0 (.im (.int r)) s5 .un .un) rfl rfl h4).trans rfl⟩
 have rest:(r=4\/r=5\/r=6)->f≠"way" \/ r≠4->∀tl:FS,tl=(oj (sIf (sW (cT (c2 yC aw cH)) (tH (cT (c2 (dIn false) ag (cL (oU eQ)))) (cT (c2 P8 (om qC bF) (vc []))))) (oj (Ho (qg rH 2 b0) (gT (oK (gN 6) (oK (gN 7) qj)) 2))
   (oG (pE nS))) oQ)
   (oj (sIf (cT (c2 yC aw c6)) (oG (pE (a1 gO))) oQ)
   (oj (sIf (cT (c2 (dEq false) aw c6)) (oG (pE (oa (cS "not") (a1 vT)))) oQ)
   (oG (pE nG)))))->∃d es' a b p q,IL es'/\Ak T A y c f d/\tl (ρ es1 (.im (.int r)) .un .un .un)=some (.rt d (ρ es' a b p q)):=λh4 hw tl et=>by
  subst et;obtain⟨V,em,v1,v2,rfl⟩:=CU (y:=y) g;have lit:∀{tl:FS},(oj (sIf (cT (c2 yC aw c6)) (oG (pE (a1 gO))) oQ) tl:FS) (ρ es1 (.im (.int r)) .un .un .un)=some (.rt (.tup [.str "lit"]) (ρ es1 (.im (.int r)) .un .un .un)):=oR ((o5 (ρ':=ρ es1 (.im (.int r)) .un .un .un) (by rcases h4 with h|h|h<;>(subst h;rfl))).trans rfl);by_cases hb:r<6/\(f="one" \/ f="two" \/ moL T M≠[])
  ·obtain⟨h6,hf⟩:=hb;obtain⟨t,z,v,es',i',tm,e⟩:=K2 (A:=A) (y:=y) g cm i1 hf;refine⟨_,es',_,_,_,_,i',.marked v tm,oR ((o5 (ρ':=ρ es1 (.im (.int r)) .un .un .un) ?_).trans ((oe (Vp (wq (ds:=[sp,.str f]) rfl rfl e) rfl)).trans rfl))⟩;refine(vE (ρ1:=ρ es1 (.im (.int r)) .un .un .un) (by rcases h4 with h|h|h<;>(subst h;first|rfl|(exfalso;omega)))).trans ?_;have e0:cT (c2 (dIn false) ag (cL (oU eQ))) (ρ es1 (.im (.int r)) .un .un .un)=some (decide (f="one" \/ f="two"),ρ es1 (.im (.int r)) .un .un .un):=pG (oo (x:=.str f) (y:=.lst [.str "one", .str "two"]) rfl rfl (NU cm));by_cases h12:f="one" \/ f="two"
   ·rw[bg h12]at e0;exact zM e0
   ·rw[aQ h12]at e0;have hm:moL T M≠[]:=by
     rcases hf with h|h|h
     ·exact aq (.inl h) h12
     ·exact aq (.inr h) h12
     ·exact h
    refine(yE e0 (pG (oo (x:=dcI (moL T M)) (y:=.dic [] []) (oi (ds:=[sp]) rfl em) rfl rfl))).trans ?_;obtain⟨q,l,e⟩:=gY hm;rw[e];rfl
  ·refine⟨_,es1,_,_,_,_,i1,.lit,(oe (ρ':=ρ es1 (.im (.int r)) .un .un .un) ((ox (ρ':=ρ es1 (.im (.int r)) .un .un .un) ?_).trans rfl)).trans lit⟩;by_cases h6:r<6
   ·have hn:¬(f="one" \/ f="two" \/ moL T M≠[]):=λh=>hb ⟨h6,h⟩;have h12:¬(f="one" \/ f="two"):=λh=>hn (h.elim .inl λh=>.inr (.inl h));have hm:moL T M=[]:=hE λh=>hn (.inr (.inr h));refine(vE (ρ1:=ρ es1 (.im (.int r)) .un .un .un) (by rcases h4 with h|h|h<;>(subst h;first|rfl|(exfalso;omega)))).trans ?_;have e0:cT (c2 (dIn false) ag (cL (oU eQ))) (ρ es1 (.im (.int r)) .un .un .un)=some (decide (f="one" \/ f="two"),ρ es1 (.im (.int r)) .un .un .un):=pG (oo (x:=.str f) (y:=.lst [.str "one", .str "two"]) rfl rfl (NU cm));rw[aQ h12]at e0;refine(yE e0 (pG (oo (x:=dcI (moL T M)) (y:=.dic [] []) (oi (ds:=[sp]) rfl em) rfl rfl))).trans ?_;rw[hm];rfl
   ·have:r=6:=by omega
    subst this;exact Aq rfl
 have cs:r=0\/r=1\/r=2\/r=3\/(r=4\/r=5\/r=6):=by omega
 rcases cs with rfl|rfl|rfl|rfl|h4
 ·obtain⟨t,z,es2,i2,tz,_,e2⟩:=trm .un i1;obtain⟨p,w,es3,i3,tw,_,e3⟩:=NW (A:=A) (y:=y) g cm hr i2;exact⟨_,es3,_,_,_,_,i3,.at tz tw,oR ((o5 rfl).trans (oO (r9 (og rfl (og e2 (og (wq (ds:=[sp,.str f]) rfl rfl e3) rfl))) (bU rfl))))⟩
 ·obtain⟨t,z,es2,i2,tz,_,e2⟩:=trm .un i1;exact⟨_,es2,_,_,_,_,i2,.has tz,(oe ((ox rfl).trans rfl)).trans (oR ((o5 rfl).trans (oO (r9 (og rfl (og e2 rfl)) (bU rfl)))))⟩
 ·obtain⟨t,z,es2,i2,tz,hz,e2⟩:=trm .un i1;exact⟨_,es2,_,_,_,_,i2,.seen tz hz,(oe ((ox rfl).trans rfl)).trans ((oe ((ox rfl).trans rfl)).trans (oR ((o5 rfl).trans (oO (r9 (og rfl (og e2 rfl)) (bU rfl))))))⟩
 ·let ks:aC:=["room", "plain", "fixed", "box", "lamp", "you", "box", "lamp"];obtain⟨t,z,es2,i2,tz,hz,e2⟩:=trm (.im (.lst (ks.map D.str))) i1;obtain⟨q,es3,i3,q0,q1,e3⟩:=tk (ρ:=ρ es2 (.im (.int 3)) (.im (.lst (ks.map D.str))) .un .un) (j:=2) (e:=cC (.int 8)) (n:=8) (by decide) i2 rfl rfl;obtain⟨k,ek⟩:=JH (l:=ks) q0 q1;refine⟨_,es3,_,_,_,_,i3,.kind k tz hz,(oe ((ox rfl).trans rfl)).trans ((oe ((ox rfl).trans rfl)).trans ((oe ((ox rfl).trans rfl)).trans (oR ((o5 rfl).trans ((oe (ρ':=ρ es1 (.im (.int 3)) (.im (.lst (ks.map D.str))) .un .un) rfl).trans (oO (r9 (og rfl (og e2 (og (oo (x:=.lst (ks.map D.str)) rfl e3 ek) rfl))) (bU rfl)))))))) ⟩
 ·have n0:∀k:Int,k<4->∀{s t:FS},(oj (sIf (cT (c2 (dEq false) aw (cC (.int k)))) s oQ) t:FS) (ρ es1 (.im (.int r)) .un .un .un)=t (ρ es1 (.im (.int r)) .un .un .un):=λk hk s t=>oe ((ox (ρ':=ρ es1 (.im (.int r)) .un .un .un) (pG (oo (x:=.int r) (y:=.int k) rfl rfl ((se false r k).trans (by rw[aQ (by omega)];rfl))))).trans rfl);rw[n0 0 (by decide),n0 1 (by decide),n0 2 (by decide),n0 3 (by decide)];by_cases hw:f="way" /\ r=4
  ·obtain⟨rfl,rfl⟩:=hw;obtain⟨q,es3,i3,q0,q1,e3⟩:=tk (ρ:=ρ es1 (.im (.int 4)) .un .un .un) (j:=2) (e:=cC (.int 4)) (n:=4) (by decide) i1 rfl rfl;obtain⟨k,ek⟩:=JH (l:=["north", "up", "down", "upp"]) q0 q1;exact⟨_,es3,_,_,_,_,i3,.word k rfl,oR ((o5 (ρ':=ρ es1 (.im (.int 4)) .un .un .un) (by kernel_rfl)).trans (oO (r9 (og rfl (og (oo (x:=.lst [.str "north", .str "up", .str "down", .str "upp"]) rfl e3 ek) rfl)) (bU rfl))))⟩
  ·have ew:sW (cT (c2 (dEq false) aw eU)) (cT (c2 (dEq false) ag gK)) (ρ es1 (.im (.int r)) .un .un .un)=some (false,ρ es1 (.im (.int r)) .un .un .un):=by
    have e4:cT (c2 (dEq false) aw eU) (ρ es1 (.im (.int r)) .un .un .un)=some (decide (r=4),ρ es1 (.im (.int r)) .un .un .un):=pG (oo (x:=.int r) (y:=.int 4) rfl rfl (se false r 4));by_cases h:r=4
    ·rw[bg h]at e4;refine(vE e4).trans (pG (oo (x:=.str f) (y:=.str "way") rfl rfl ?_));cases cm with
     |go z=>exact aq ⟨rfl,h⟩ hw
     |_=>rfl
    ·rw[aQ h]at e4;exact Aq e4
   rw[oe ((ox ew).trans (show _=some (Out.nx (ρ es1 (.im (.int r)) .un .un .un)) from rfl))];exact rest h4 (hE λh=>hw ⟨hE λq=>h (.inl q),hE λq=>h (.inr q)⟩) _ rfl
end
section
variable{A:List (Str×Str)}{V:List (Str×Int)}{S:List (Ky×L4.D)}{y r:Str}{T:List Th}{M:List Mk}{dk:aC}{mo c d:L4.D}{f:Str}
theorem W6{b:L4.D}{x:L3.Dq}(e0:za false a a=none)(e1:zb false a a=some (.bl (L3.eqD x x))):dEq false a a=some (.bl true):=by unfold dEq;rw[e0];simp only;rw[e1,BP]
def Tst(T:List Th)(M:List Mk)(dk:aC)(y:Str)(mo:L4.D)(A:List (Str×Str))(V:List (Str×Int))(S:List (Ky×L4.D))(c d:L4.D):Prop:=∃k ns ds hh b,uK [d]=some (.obj k ns ds)/\uJ k=some hh/\ns.contains "holds" = false/\hh [.obj k ns ds,wO T M dk y mo,sD S,c]=some (.bl b)/\vw [pz T M dk y,atD A,dcI V,c,d]=some (.bl b)/\qM [.obj k ns ds,d]=some (.bl true)
theorem W7(s:Sit T A V S y r):Tst T M dk y mo A V S c (.tup [.str "lit"]):=by
 refine⟨15,[],[],A8,yT dk s,by kernel_rfl,rfl,rfl,?_,?_,by kernel_rfl⟩
 ·exact oI (ρ:=[.im (.obj 15 [] []),.im (wO T M dk y mo),.im (sD S),.im c]) rfl (oO (oi (ds:=[wO T M dk y mo,sD S]) rfl (NN s)))
 ·refine oI (ρ:=[.im (pz T M dk y),.im (atD A),.im (dcI V),.im c,.im (.tup [.str "lit"]),.im (.str "lit"),.un]) rfl ?_;unfold rD;exact(oe rfl).trans (oR ((o5 rfl).trans (oO (oi (ds:=[pz T M dk y,atD A,dcI V]) rfl (JB s)))))
theorem Vq(cm:Cm (nmK T Kd.pl) c f)(hf:f="way")(x:Str):Tst T M dk y mo A V S c (.tup [.str "word", .str x]):=by
 cases cm with
 |go z=>
  let c0:L4.D:=.tup [.str "go", .str z,.non];refine⟨8,["word"],[.str x],zF,decide (z=x),by kernel_rfl,rfl,rfl,?_,?_,?_⟩
  ·refine oI (ρ:=[.im (.obj 8 ["word"] [.str x]),.im (wO T M dk y mo),.im (sD S),.im c0]) rfl (oO ((pC (oi (ds:=[wO T M dk y mo,c0]) rfl (by kernel_rfl))).trans (oo (x:=.str z) (y:=.str x) rfl rfl (ro false z x))))
  ·refine oI (ρ:=[.im (pz T M dk y),.im (atD A),.im (dcI V),.im c0,.im (.tup [.str "word", .str x]),.im (.str "word"),.un]) rfl ?_;unfold rD;exact(oe rfl).trans ((oe ((ox rfl).trans rfl)).trans (oR ((o5 rfl).trans (oO ((pC rfl).trans (oo (x:=.str z) (y:=.str x) rfl rfl (ro false z x)))))))
  ·refine oI (ρ:=[.im (.obj 8 ["word"] [.str x]),.im (.tup [.str "word", .str x]),.im (.str "word")]) rfl ?_;unfold pV;refine(oe rfl).trans ((oe ((ox rfl).trans rfl)).trans ((oe ((ox rfl).trans rfl)).trans ((oe ((ox rfl).trans rfl)).trans (oR ((o5 rfl).trans (oO (oo (x:=.str x) (y:=.str x) rfl rfl ((ro false x x).trans ?_))))))));rw[bg rfl];rfl
 |_=>exact aq hf (by decide)
end
section
variable{A:List (Str×Str)}{V:List (Str×Int)}{S:List (Ky×L4.D)}{y r:Str}{T:List Th}{M:List Mk}{dk:aC}{mo c d:L4.D}{f t z:Str}
theorem eqS(t:Str):dEq false (.str t) (.str t)=some (.bl true):=(ro false t t).trans (by rw[bg rfl];rfl)
theorem W8(t p:Str):dEq false (.tup [.str t,.str p]) (.tup [.str t,.str p])=some (.bl true):=W6 (b:=.non) (x:=.tup [.str t,.str p]) rfl rfl
theorem Xr(t:Str)(v:Int):dEq false (.tup [.str t,.int v]) (.tup [.str t,.int v])=some (.bl true):=W6 (b:=.non) (x:=.tup [.str t,.int v]) rfl rfl
theorem W9(s:Sit T A V S y r)(hc:∃k a b,c=.tup [k,a,b])(tz:Tm A y c t z):Tst T M dk y mo A V S c (.tup [.str "has", .str t]):=by
 let o:L4.D:=.obj 4 ["term"] [.str t];let W:=wO T M dk y mo;let sp:=pz T M dk y;have dy:dIn false (.str y) (.lst ((lf s.a z).map D.str))=some (.bl (decide (y∈lf s.a z))):=rF false y _;refine⟨4,["term"],[.str t],A6,decide (y∈lf s.a z),by kernel_rfl,rfl,rfl,?_,?_,?_⟩
 ·refine oI (ρ:=[.im o,.im W,.im (sD S),.im c]) rfl (oO (oi (ds:=[W,sD S,.str z]) (og rfl (og rfl (og (oi (ds:=[W,sD S,c,.str t]) rfl (xY s.a s.o tz)) rfl))) ?_));exact oI (ρ:=[.im W,.im (sD S),.im (.str z)]) rfl (oO (oo (x:=.str y) rfl (pB (oi (ds:=[W,sD S,.str z]) rfl (Jy s.a s.o W (NJ s.a z) (Qw s.a z)))) dy))
 ·refine oI (ρ:=[.im sp,.im (atD A),.im (dcI V),.im c,.im (.tup [.str "has", .str t]),.im (.str "has"),.im (.str z)]) rfl ?_;unfold rD;refine(oe rfl).trans ((oe ((ox rfl).trans rfl)).trans ((oe ((ox rfl).trans rfl)).trans ((oe ((oM (oi (ds:=[sp,atD A,c,.str t]) rfl (ub s.a tz hc))).trans rfl)).trans ((oe ((ox rfl).trans rfl)).trans (oR ((o5 rfl).trans (oO (oo (x:=.str y) rfl (pB (oi (ds:=[atD A,.str z]) rfl (GU s.a (NJ s.a z) (Qw s.a z)))) dy))))))))
 ·refine oI (ρ:=[.im o,.im (.tup [.str "has", .str t]),.im (.str "has")]) rfl ?_;unfold pV;refine(oe rfl).trans ((oe ((ox rfl).trans rfl)).trans ((oe ((ox rfl).trans rfl)).trans ((oe ((ox rfl).trans rfl)).trans ((oe ((ox rfl).trans rfl)).trans (oO ?_)))));have:c2 (dEq false) (c1 (oX tf "term") ae) (c2 dIx ag aG) [.im o,.im (.tup [.str "has", .str t]),.im (.str "has")]=some (.bl true,[.im o,.im (.tup [.str "has", .str t]),.im (.str "has")]):=oo (x:=.str t) (y:=.str t) rfl rfl (eqS t);unfold cOr;exact this
theorem Vr(s:Sit T A V S y r)(hc:∃k a b,c=.tup [k,a,b])(tz:Tm A y c t z)(hz:z∈T.map Th.n):Tst T M dk y mo A V S c (.tup [.str "seen", .str t]):=by
 let o:L4.D:=.obj 5 ["term"] [.str t];let W:=wO T M dk y mo;let sp:=pz T M dk y;obtain⟨u,hu,rfl⟩:=aL.mp hz;have dy:dIn false (.str u.n) (.lst ((tN (yu dk s)).map D.str))=some (.bl (u.k.pl&&vC dk s u.n)):=by
  rw[rF];congr 2;rw[aj bq,cD,bB,show (u.n∈tN (yu dk s))=(u.n∈yu dk s) from propext (hZ _ leS).mem_iff];unfold yu;rw[aL];constructor
  ·rintro⟨x,hx,e⟩;rw[bO]at hx;rw[<-Ii s.nd hx.1 hu e];exact hx.2
  ·exact λh=>⟨u,bO.mpr ⟨hu,h⟩,rfl⟩
 refine⟨5,["term"],[.str t],zC,u.k.pl&&vC dk s u.n,by kernel_rfl,rfl,rfl,?_,?_,?_⟩
 ·exact oI (ρ:=[.im o,.im W,.im (sD S),.im c]) rfl (oO (oi (ds:=[W,sD S,.str u.n]) (og rfl (og rfl (og (oi (ds:=[W,sD S,c,.str t]) rfl (xY s.a s.o tz)) rfl))) (NO s hu)))
 ·refine oI (ρ:=[.im sp,.im (atD A),.im (dcI V),.im c,.im (.tup [.str "seen", .str t]),.im (.str "seen"),.im (.str u.n)]) rfl ?_;unfold rD;refine(oe rfl).trans ((oe ((ox rfl).trans rfl)).trans ((oe ((ox rfl).trans rfl)).trans ((oe ((oM (oi (ds:=[sp,atD A,c,.str t]) rfl (ub s.a tz hc))).trans rfl)).trans ((oe ((ox rfl).trans rfl)).trans ((oe ((ox rfl).trans rfl)).trans (oR ((o5 rfl).trans (oO (oo (x:=.str u.n) rfl (pB (oi (ds:=[sp,atD A,dcI V]) rfl (NR s))) dy)))))))))
 ·refine oI (ρ:=[.im o,.im (.tup [.str "seen", .str t]),.im (.str "seen")]) rfl ?_;unfold pV;refine(oe rfl).trans ((oe ((ox rfl).trans rfl)).trans ((oe ((ox rfl).trans rfl)).trans ((oe ((ox rfl).trans rfl)).trans ((oe ((ox rfl).trans rfl)).trans (oO ?_)))));have:c2 (dEq false) (c1 (oX tf "term") ae) (c2 dIx ag aG) [.im o,.im (.tup [.str "seen", .str t]),.im (.str "seen")]=some (.bl true,[.im o,.im (.tup [.str "seen", .str t]),.im (.str "seen")]):=oo (x:=.str t) (y:=.str t) rfl rfl (eqS t);unfold cOr;exact this
theorem Xs(s:Sit T A V S y r)(hc:∃k a b,c=.tup [k,a,b])(tz:Tm A y c t z){p w:Str}(tw:Tm A y c p w):Tst T M dk y mo A V S c (.tup [.str "at", .str t,.str p]):=by
 let o:L4.D:=.obj 3 ["term", "place"] [.str t,.str p];let W:=wO T M dk y mo;let sp:=pz T M dk y;have fl:qM [o,.tup [.str "at", .str t,.str p]]=some (.bl true):=by refine oI (ρ:=[.im o,.im (.tup [.str "at", .str t,.str p]),.im (.str "at")]) rfl ?_;unfold pV;exact(oe rfl).trans (oR ((o5 rfl).trans (oO (oo (x:=.tup [.str t,.str p]) (y:=.tup [.str t,.str p]) rfl (by kernel_rfl) (W8 t p)))))
 have hm:∀{ab:L4.D} {b:Bool},rA [sD S,.str z]=some ab->pW (c2 u7 aJ bp) (c2 (dEq false) aJ (om sq nL)) [.im o,.im W,.im (sD S),.im c,.im (.str z),.im ab]=some (.bl b,[.im o,.im W,.im (sD S),.im c,.im (.str z),.im ab])->wa [o,W,sD S,c]=some (.bl b):=λ{ab b} h1 h2=>by refine oI (ρ:=[.im o,.im W,.im (sD S),.im c,.im (.str z),.im ab]) rfl ?_;unfold yR;exact(oe ((oM (oi (ds:=[W,sD S,c,.str t]) rfl (xY s.a s.o tz))).trans rfl)).trans ((oe (ρ':=[.im o,.im W,.im (sD S),.im c,.im (.str z),.im ab]) ((oM (oi (ds:=[sD S,.str z]) rfl h1)).trans rfl)).trans (oO h2))
 have hs:∀{b:Bool},pW (c2 (yF false) aY ag) (c2 (dEq false) (c2 pd ag aY) (om sC nO)) [.im sp,.im (atD A),.im (dcI V),.im c,.im (.tup [.str "at", .str t,.str p]),.im (.str "at"),.im (.str z)]=some (.bl b,[.im sp,.im (atD A),.im (dcI V),.im c,.im (.tup [.str "at", .str t,.str p]),.im (.str "at"),.im (.str z)])->vw [sp,atD A,dcI V,c,.tup [.str "at", .str t,.str p]]=some (.bl b):=λ{b} h=>by refine oI (ρ:=[.im sp,.im (atD A),.im (dcI V),.im c,.im (.tup [.str "at", .str t,.str p]),.im (.str "at"),.im (.str z)]) rfl ?_;unfold rD;exact(oe rfl).trans ((oe ((ox rfl).trans rfl)).trans ((oe ((ox rfl).trans rfl)).trans ((oe ((oM (oi (ds:=[sp,atD A,c,.str t]) rfl (ub s.a tz hc))).trans rfl)).trans (oR ((o5 rfl).trans (oO h))))))
 by_cases hz:z∈A.map aF
 ·obtain⟨q,hq,rfl⟩:=aL.mp hz;refine⟨3,["term", "place"],[.str t,.str p],wa,decide (q.2=w),by kernel_rfl,rfl,rfl,hm (xW s.a s.o (x:=q.1) (z:=q.2) hq) ?_,hs ?_,fl⟩
  ·exact(pC rfl).trans (oo (x:=.str q.2) (y:=.str w) rfl (oi (ds:=[W,sD S,c,.str p]) rfl (xY s.a s.o tw)) (ro false _ _))
  ·have hk:=xX s.a (x:=q.1) (z:=q.2) hq;refine(pC (ρ1:=[.im sp,.im (atD A),.im (dcI V),.im c,.im (.tup [.str "at", .str t,.str p]),.im (.str "at"),.im (.str q.1)]) (oo (x:=.str q.1) (y:=atD A) rfl rfl ?_)).trans (oo (x:=.str q.2) (y:=.str w) (oo (x:=atD A) (y:=.str q.1) rfl rfl hk) (oi (ds:=[sp,atD A,c,.str p]) rfl (ub s.a tw hc)) (ro false _ _));show some (D.bl (qf (A.map λq=>kS q.1) (A.map λq=>D.str q.2) (kS q.1)).isSome)=_;rw[hk];rfl
 ·refine⟨3,["term", "place"],[.str t,.str p],wa,false,by kernel_rfl,rfl,rfl,hm (Bw s.o hz) (tD rfl),hs (tD (oo (x:=.str z) (y:=atD A) rfl rfl ?_)),fl⟩;show some (D.bl (qf (A.map λq=>kS q.1) (A.map λq=>D.str q.2) (kS z)).isSome)=_;rw[Jz hz];rfl
end
section
variable{A:List (Str×Str)}{V:List (Str×Int)}{S:List (Ky×L4.D)}{y r:Str}{T:List Th}{M:List Mk}{dk:aC}{mo c d:L4.D}{f t z:Str}
theorem mark_none(o:Ao A V S){x:Str}(h:x∉V.map aF):rS [sD S,.str x]=some .non:=by
 refine oI (ρ:=[.im (sD S),.im (.str x)]) rfl (oO (oi (ds:=[sD S,.tup [.str "mark", .str x]]) rfl ?_));rcases zL S ("mark", x)with ⟨d,h1,h2⟩|⟨h1,h2⟩
 ·obtain⟨z',rfl,h3⟩:=o.mo x d h1;exact aq (aL.mpr ⟨_,h3,rfl⟩) h
 ·exact h2
theorem NZ(s:Sit T A V S y r)(hc:∃k a b,c=.tup [k,a,b])(tz:Tm A y c t z)(v:Int):Tst T M dk y mo A V S c (.tup [.str "marked", .str t,.int v]):=by
 let o:L4.D:=.obj 6 ["term", "value"] [.str t,.int v];let W:=wO T M dk y mo;let sp:=pz T M dk y;let q4:L4.D:=.tup [.str "marked", .str t,.int v];have fl:qM [o,q4]=some (.bl true):=by refine oI (ρ:=[.im o,.im q4,.im (.str "marked")]) rfl ?_;unfold pV;exact(oe rfl).trans ((oe ((ox rfl).trans rfl)).trans (oR ((o5 rfl).trans (oO (oo (x:=.tup [.str t,.int v]) (y:=.tup [.str t,.int v]) rfl (by kernel_rfl) (Xr t v))))))
 have hm:∀{ab:L4.D} {b:Bool},rS [sD S,.str z]=some ab->pW (c2 u7 aw bp) (c2 (dEq false) aw (c1 (oX xQ "value") ae)) [.im o,.im W,.im (sD S),.im c,.im ab]=some (.bl b,[.im o,.im W,.im (sD S),.im c,.im ab])->sr [o,W,sD S,c]=some (.bl b):=λ{ab b} h1 h2=>by refine oI (ρ:=[.im o,.im W,.im (sD S),.im c,.im ab]) rfl ?_;unfold ux;exact(oe (ρ':=[.im o,.im W,.im (sD S),.im c,.im ab]) ((oM (oi (ds:=[sD S,.str z]) (og rfl (og (oi (ds:=[W,sD S,c,.str t]) rfl (xY s.a s.o tz)) rfl)) h1)).trans rfl)).trans (oO h2)
 have hs:∀{b:Bool},pW (c2 (yF false) aY ar) (c2 (dEq false) (c2 pd ar aY) (c2 dIx aw bE)) [.im sp,.im (atD A),.im (dcI V),.im c,.im q4,.im (.str "marked"),.im (.str z)]=some (.bl b,[.im sp,.im (atD A),.im (dcI V),.im c,.im q4,.im (.str "marked"),.im (.str z)])->vw [sp,atD A,dcI V,c,q4]=some (.bl b):=λ{b} h=>by refine oI (ρ:=[.im sp,.im (atD A),.im (dcI V),.im c,.im q4,.im (.str "marked"),.im (.str z)]) rfl ?_;unfold rD;exact(oe rfl).trans ((oe ((ox rfl).trans rfl)).trans ((oe ((ox rfl).trans rfl)).trans ((oe ((oM (oi (ds:=[sp,atD A,c,.str t]) rfl (ub s.a tz hc))).trans rfl)).trans ((oe ((ox rfl).trans rfl)).trans ((oe ((ox rfl).trans rfl)).trans ((oe ((ox rfl).trans rfl)).trans (oR ((o5 rfl).trans (oO h)))))))))
 by_cases hz:z∈V.map aF
 ·obtain⟨q,hq,rfl⟩:=aL.mp hz;refine⟨6,["term", "value"],[.str t,.int v],sr,decide (q.2=v),by kernel_rfl,rfl,rfl,hm (Fn s.nv s.o (x:=q.1) (z:=q.2) hq) ?_,hs ?_,fl⟩
  ·exact(pC rfl).trans (oo (x:=.int q.2) (y:=.int v) rfl rfl (se false _ _))
  ·have hk:=Io s.nv (x:=q.1) (z:=q.2) hq;refine(pC (ρ1:=[.im sp,.im (atD A),.im (dcI V),.im c,.im q4,.im (.str "marked"),.im (.str q.1)]) (oo (x:=.str q.1) (y:=dcI V) rfl rfl ?_)).trans (oo (x:=.int q.2) (y:=.int v) (oo (x:=dcI V) (y:=.str q.1) rfl rfl hk) rfl (se false _ _));show some (D.bl (qf (V.map λq=>kS q.1) (V.map λq=>D.int q.2) (kS q.1)).isSome)=_;rw[hk];rfl
 ·refine⟨6,["term", "value"],[.str t,.int v],sr,false,by kernel_rfl,rfl,rfl,hm (mark_none s.o hz) (tD rfl),hs (tD (oo (x:=.str z) (y:=dcI V) rfl rfl ?_)),fl⟩;show some (D.bl (qf (V.map λq=>kS q.1) (V.map λq=>D.int q.2) (kS z)).isSome)=_;rw[xP (λw=>hz ?_)]
  ·rfl
  ·obtain⟨q,hq,e⟩:=aL.mp w;exact aL.mpr ⟨q,hq,CM e⟩
theorem JI{u:Th}:∀{T:List Th},(T.map Th.n).Nodup->u∈T->T.filter (λt=>decide (t.n=u.n))=[u]
 |x::T,nd,h=>by
  rw[ay,bY]at nd;rcases aN.mp h with rfl|h
  ·rw[List.filter_cons_of_pos (by simp),lI.mpr λa ha e=>nd.1 (aL.mpr ⟨a,ha,bj e⟩)]
  ·rw[List.filter_cons_of_neg (by intro e;exact nd.1 (aL.mpr ⟨u,h,(bj e).symm⟩)),JI nd.2 h]
theorem Xt(a b:Str):dEq false (.lst [.str a]) (.lst [.str b])=some (.bl (decide (a=b))):=by
 have e0:za false (.lst [.str a]) (.lst [.str b])=none:=rfl;have e1:zb false (.lst [.str a]) (.lst [.str b])=some (.bl (L3.eqD (.lst [.str a]) (.lst [.str b]))):=rfl;unfold dEq;rw[e0];simp only;rw[e1];congr 2;by_cases h:a=b
 ·subst h;rw[BP,bg rfl]
 ·rw[aQ h];show (L3.eqD (.str a) (.str b)&&true)=false;rw[Bool.and_true];exact aQ h
theorem Vs(s:Sit T A V S y r)(hc:∃k a b,c=.tup [k,a,b])(tz:Tm A y c t z)(hz:z∈T.map Th.n)(k:Str):Tst T M dk y mo A V S c (.tup [.str "kind", .str t,.str k]):=by
 let o:L4.D:=.obj 7 ["term", "kind"] [.str t,.str k];let W:=wO T M dk y mo;let sp:=pz T M dk y;let q4:L4.D:=.tup [.str "kind", .str t,.str k];obtain⟨u,hu,rfl⟩:=aL.mp hz;refine⟨7,["term", "kind"],[.str t,.str k],zD,decide (u.k.s=k),by kernel_rfl,rfl,rfl,?_,?_,?_⟩
 ·refine oI (ρ:=[.im o,.im W,.im (sD S),.im c,.im (thD u)]) rfl ?_;unfold wb;exact(oe (ρ':=[.im o,.im W,.im (sD S),.im c,.im (thD u)]) ((oM (qA (m:="thing_of") (ns:=wNs) (xs:=wDs T M dk y mo) (ys:=[.str u.n]) rfl rfl rfl (og (oi (ds:=[W,sD S,c,.str t]) rfl (xY s.a s.o tz)) rfl) (Dc s.nd hu))).trans rfl)).trans (oO ((pC rfl).trans (oo (x:=.str u.k.s) (y:=.str k) rfl rfl (ro false _ _))))
 ·let ρ:aW:=[.im sp,.im (atD A),.im (dcI V),.im c,.im q4,.im (.str "kind"),.im (.str u.n)];refine oI (ρ:=ρ) rfl ?_;unfold rD;refine(oe rfl).trans ((oe ((ox rfl).trans rfl)).trans ((oe ((ox rfl).trans rfl)).trans ((oe ((oM (oi (ds:=[sp,atD A,c,.str t]) rfl (ub s.a tz hc))).trans rfl)).trans ((oe ((ox rfl).trans rfl)).trans ((oe ((ox rfl).trans rfl)).trans ((oe ((ox rfl).trans rfl)).trans ((oe ((ox rfl).trans rfl)).trans (oO (oo (x:=.lst [.str u.k.s]) (y:=.lst [.str k]) (ρ1:=ρ) (pB ?_) rfl (Xt _ _))))))))));have:=sP (k:=3) (cap:=[6]) (g:=gT (oK (gN 0) (oK (gN 1) (oK (gN 2) qj))) 3) (ft:=cT (c2 (dEq false) ae av)) (fe:=cV 1) (s:=iL (c2 pd ae eV)) (λt:Th=>oY t.rw) (λt=>D.str t.k.s) (λt=>decide (t.n=u.n)) T (ρ:=ρ) (ρ1:=ρ) rfl (by have:=s.hT;omega) λt _=>⟨[.im (.str t.n),.im (.str t.k.s),.im (oS t.s),.im (.str u.n)],[.im (.str t.n),.im (.str t.k.s),.im (oS t.s),.im (.str u.n)],rfl,pG (oo rfl rfl (ro false t.n u.n)),λ_=>⟨_,rfl,rfl⟩,λ_=>rfl⟩
  refine this.trans ?_;rw[JI s.nd hu];rfl
 ·refine oI (ρ:=[.im o,.im q4,.im (.str "kind")]) rfl ?_;unfold pV;exact(oe rfl).trans ((oe ((ox rfl).trans rfl)).trans ((oe ((ox rfl).trans rfl)).trans (oR ((o5 rfl).trans (oO (oo (x:=.tup [.str t,.str k]) (y:=.tup [.str t,.str k]) rfl (by kernel_rfl) (W8 t k)))))))
theorem Xa(s:Sit T A V S y r)(cm:Cm (nmK T Kd.pl) c f)(ak:Ak T A y c f d):Tst T M dk y mo A V S c d:=by
 have hc:=Vo cm;cases ak with
 |«at» tz tw=>exact Xs s hc tz tw
 |has tz=>exact W9 s hc tz
 |seen tz hz=>exact Vr s hc tz hz
 |kind k tz hz=>exact Vs s hc tz hz k
 |word x h=>exact Vq cm h x
 |marked v tz=>exact NZ s hc tz v
 |lit=>exact W7 s
end
theorem JJ(ns:List Int)(k:Nat):∃c,su [.fzl (ns.map D.int),.int k]=some (.int c):=by
 let ρ:aW:=[.im (.fzl (ns.map D.int)),.im (.int k)];have ev:cT (c2 yC ag (c1 p5 ae)) ρ=some (decide ((k:Int)<((ns.map D.int).length:Nat)),ρ):=rfl;rw[ah]at ev;by_cases h:k<ns.length
 ·rw[bg (by omega)]at ev;refine⟨ns[k],oI (ρ:=ρ) rfl (oR ((o5 ev).trans (oO (oo (x:=.fzl (ns.map D.int)) (y:=.int k) rfl rfl ?_))))⟩;exact IG (by rw[bu,aP h];rfl)
 ·rw[aQ (by omega)]at ev;exact⟨0,oI (ρ:=ρ) rfl ((oe ((ox ev).trans rfl)).trans rfl)⟩
theorem N0(b:Bool):tZ [.bl b,.bl b]=some (.bl true):=by cases b<;>kernel_rfl
def iB:FS:=(sIf (rQ (cT (om tZ nJ))) (oG cj) oQ)
def lB:FS:=(oj (qU 4 (pb sv nV))
 (oj (oV 5 (qg rG 4 ck))
 (oj (oV 6 (qg sy 4 ck))
 (oj (oV 7 (om tW (oa aJ gU)))
 (oj (oV 8 (qg rf 4 ck))
 (oj (oV 9 (qg qD 4 nP))
 (oj (oV 10 (om uK gG))
 (oj (r6 (iR1 bE) (gN 11) iB)
 (sIf (rQ (cT (om qM (oa eW gG)))) (oG cj) oQ)))))))))
theorem Vt(ns:List Int)(hl:ns.length<=63):QW [.fzl (ns.map D.int)]=some (.bl true):=by
 obtain⟨c0,e0⟩:=JJ ns 0;obtain⟨c1,e1⟩:=JJ ns 1;obtain⟨T,M,dk,y,es,g,hy⟩:=Qn c0;have ew:=Nw g hy (NC g);let sc:=D.fzl (ns.map D.int);let W:=wM T M dk y;let sp:=pz T M dk y;let R:aW->aW:=λs=>.im sc::.im sp::.im W::s;have loop:∀(l:List Int) (s:aW),s.length=9->∃s',s'.length=9/\forL (gN 3) lB (l.map D.int) (R s)=some (.nx (R s')):=by
  intro l
  induction l with
  |nil=>exact λs h=>⟨s,h,rfl⟩
  |cons c l ih=>
   intro s hs
   match s,hs with
   |[s3,s4,s5,s6,s7,s8,s9,s10,s11],_=>
   obtain⟨xs,ix,dx⟩:=GI c 80 (by decide);obtain⟨A,xs1,i1,a,pn,⟨pk,_,_⟩,pl⟩:=KY g hy ix;obtain⟨V,xs2,i2,mk,vn,_⟩:=Ny (y:=y) g i1;obtain⟨cm,f,xs3,i3,hc,ec⟩:=Ir (y:=y) g i2;obtain⟨r,hr⟩:=a.yo;obtain⟨q,xs4,i4,ak,em⟩:=NY (A:=A) (y:=y) g hc ⟨r,hr,pn _ hr⟩ i3;have nv:(V.map aF).Nodup:=by rw[vn];exact ndM g
   have lv:V.length<=40:=by have h1:=aS bS vn;have h2:=JE g;rw[ah]at h1;show _<=40;rw[h1];exact bI h2 (by decide)
   have hv:∀x∈nmK T Kd.mk,∃z,(x,z)∈V:=λx hx=>by
    have:x∈V.map aF:=by rw[vn];exact bG _ hx
    obtain⟨q,hq,rfl⟩:=aL.mp this;exact⟨_,hq⟩
   obtain⟨S,o,st⟩:=NB a nv lv;obtain⟨k,fs,ds,hh,b,t1,t2,t3,t4,t5,t6⟩:=Xa (M:=M) (dk:=dk) (mo:=dcI (moL T M)) ⟨g.ndT,g.len,g.p7,a,pn,nv,hv,o,hr⟩ hc ak;let Q:Sl->aW:=λs=>R [.im (.int c),.ls xs4,.im (atD A),.im (dcI V),.im (sD S),.im cm,.im q,.im (.obj k fs ds),s];have inner:∀(l:List L4.D) (s:Sl),∃s',forL (gN 11) iB l (Q s)=some (.nx (Q s')):=by
    intro l
    induction l with
    |nil=>exact λs=>⟨s,rfl⟩
    |cons x l ih=>intro s;obtain⟨s',h⟩:=ih (.im x);refine⟨s',?_⟩;unfold forL;rw[show gN 11 x (Q s)=some (Q (.im x)) from rfl];have ev:iB (Q (.im x))=some (.nx (Q (.im x))):=(ox (zd (pG (oi (og (qA (xs:=ds) (ys:=[W,sD S,cm]) (ρ1:=Q (.im x)) rfl t2 t3 rfl t4) (og (oi (ds:=[sp,atD A,dcI V,cm,q]) (ρ1:=Q (.im x)) rfl t5) rfl)) (N0 b))))).trans rfl;simp only[ev];exact h
   obtain⟨s',hin⟩:=inner [.int 0,.int 1] s11;obtain⟨s2,hs2,k'⟩:=ih [.im (.int c),.ls xs4,.im (atD A),.im (dcI V),.im (sD S),.im cm,.im q,.im (.obj k fs ds),s'] rfl;refine⟨s2,hs2,?_⟩;rw[ay];unfold forL;rw[show gN 3 (.int c) (R [s3,s4,s5,s6,s7,s8,s9,s10,s11])=some (R [.im (.int c),s4,s5,s6,s7,s8,s9,s10,s11]) from rfl];have ev:lB (R [.im (.int c),s4,s5,s6,s7,s8,s9,s10,s11])=some (.nx (Q s')):=by unfold lB;refine(oe (ρ':=R [.im (.int c),.ls xs,s5,s6,s7,s8,s9,s10,s11]) ((vM (oi (og rfl (og rfl rfl)) dx)).trans rfl)).trans ?_;refine(oe (ρ':=R [.im (.int c),.ls xs1,.im (atD A),s6,s7,s8,s9,s10,s11]) ((oM (wq (ρ1:=R [.im (.int c),.ls xs,s5,s6,s7,s8,s9,s10,s11]) rfl rfl pl)).trans rfl)).trans ?_;refine(oe (ρ':=R [.im (.int c),.ls xs2,.im (atD A),.im (dcI V),s7,s8,s9,s10,s11]) ((oM (wq (ρ1:=R [.im (.int c),.ls xs1,.im (atD A),s6,s7,s8,s9,s10,s11]) rfl rfl mk)).trans rfl)).trans ?_;refine(oe (ρ':=R [.im (.int c),.ls xs2,.im (atD A),.im (dcI V),.im (sD S),s8,s9,s10,s11]) ((oM (oi (ds:=[atD A,dcI V]) rfl st)).trans rfl)).trans ?_;refine(oe (ρ':=R [.im (.int c),.ls xs3,.im (atD A),.im (dcI V),.im (sD S),.im cm,s9,s10,s11]) ((oM (wq (ρ1:=R [.im (.int c),.ls xs2,.im (atD A),.im (dcI V),.im (sD S),s8,s9,s10,s11]) rfl rfl ec)).trans rfl)).trans ?_;refine(oe (ρ':=R [.im (.int c),.ls xs4,.im (atD A),.im (dcI V),.im (sD S),.im cm,.im q,s10,s11]) ((oM (wq (ρ1:=R [.im (.int c),.ls xs3,.im (atD A),.im (dcI V),.im (sD S),.im cm,s9,s10,s11]) (ds:=[sp,.str f,.int 1]) (og rfl (og (oi (ds:=[cm]) rfl (QB hc)) rfl)) rfl em)).trans rfl)).trans ?_;refine(oe (ρ':=Q s11) ((oM (oi (ds:=[q]) rfl t1)).trans rfl)).trans ?_;refine(oe ((qa (ds:=[.int 0,.int 1]) rfl).trans hin)).trans ?_;exact(ox (zd (pG (oi (ds:=[.obj k fs ds,q]) (ρ1:=Q s') rfl t6)))).trans rfl
   simp only[ev];exact k'
 let cs:List Int:=c1::(ns.drop (HT.sIx ns.length 0 (some 2))).take (HT.sIx ns.length ns.length (some 17) - HT.sIx ns.length 0 (some 2));have ec:[D.int c1]++cutD (ns.map D.int) (some 2) (some 17)=cs.map D.int:=by unfold cutD;rw[ah,<- fz,<- eK];rfl
 have hc:(cutD (ns.map D.int) (some 2) (some 17)).length<=63:=by unfold cutD;rw[bo,bX,ah];omega
 let un:aW:=dH 9 .un;obtain⟨s',_,e⟩:=loop cs un rfl;refine oI (ρ:=R s') rfl ?_;refine(oe (ρ':=.im sc::.im sp::.un::un) ((oM (oi (og (oi (og rfl (og rfl rfl)) e0) rfl) es)).trans rfl)).trans ?_;refine(oe (ρ':=R un) ((oM (oi (og rfl rfl) ew)).trans rfl)).trans ?_;refine(oe ((qa (ds:=cs.map D.int) (ρ1:=R un) ?_).trans e)).trans rfl;exact(xH (pB (sI (xs:=[.int c1]) (ys:=cutD (ns.map D.int) (some 2) (some 17)) (pB (wX (og (oi (og rfl (og rfl rfl)) e1) rfl) (show 1<=1000 by decide))) rfl (by show 1+_<=1000;omega)))).trans (by rw[ec])
end K21x
namespace K21x
open PySem L2 L3 L4
open PySem.W (nsIn)
structure Fx(K:au)(C0 C1 C2 C3 C4 C5 C6 C7 C8 C9 C10 C11 C12 C13 C14 C15:Addr):Prop where
 a0:nsIn K mainGlobals "Thing" = some (some (.ref C0))
 a1:nsIn K mainGlobals "Mark" = some (some (.ref C1))
 a2:nsIn K mainGlobals "Verb" = some (some (.ref C2))
 a3:nsIn K mainGlobals "At" = some (some (.ref C3))
 a4:nsIn K mainGlobals "Has" = some (some (.ref C4))
 a5:nsIn K mainGlobals "Seen" = some (some (.ref C5))
 a6:nsIn K mainGlobals "Marked" = some (some (.ref C6))
 a7:nsIn K mainGlobals "Kind" = some (some (.ref C7))
 a8:nsIn K mainGlobals "Word" = some (some (.ref C8))
 a9:nsIn K mainGlobals "Not" = some (some (.ref C9))
 a10:nsIn K mainGlobals "Both" = some (some (.ref C10))
 a11:nsIn K mainGlobals "Move" = some (some (.ref C11))
 a12:nsIn K mainGlobals "Put" = some (some (.ref C12))
 a13:nsIn K mainGlobals "Rule" = some (some (.ref C13))
 a14:nsIn K mainGlobals "World" = some (some (.ref C14))
 a15:nsIn K mainGlobals "Lit" = some (some (.ref C15))
 k0:CF K C0 ["kind", "name", "start", "words"]
 k1:CF K C1 ["most", "name", "start"]
 k2:CF K C2 ["form", "joining", "name", "others"]
 k3:CF K C3 ["place", "term"]
 k4:CF K C4 ["term"]
 k5:CF K C5 ["term"]
 k6:CF K C6 ["term", "value"]
 k7:CF K C7 ["kind", "term"]
 k8:CF K C8 ["word"]
 k9:CF K C9 ["inner"]
 k10:CF K C10 []
 k11:CF K C11 ["place", "term"]
 k12:CF K C12 ["term", "value"]
 k13:CF K C13 ["verb", "deeds", "refuses", "tests", "text"]
 k14:CF K C14 ["copied_rules", "kept_dark", "kept_things", "kept_verbs", "shared_rules", "shared_verbs", "things_by_name", "verbs_by_word", "your_name", "kept_marks", "kept_rules", "kept_ways", "mosts_by_name", "rules_by_verb"]
 k15:CF K C15 []
 i_Mark:Bu K [C0,C1,C2,C3,C4,C5,C6,C7,C8,C9,C10,C11,C12,C13,C14,C15] C1 1=true
 i_Thing:Bu K [C0,C1,C2,C3,C4,C5,C6,C7,C8,C9,C10,C11,C12,C13,C14,C15] C0 0=true
 n_Lit:cy K (.ref C15) "__init__" = some (some (.builtin "object.__init__"))
 nd:decide ([C0,C1,C2,C3,C4,C5,C6,C7,C8,C9,C10,C11,C12,C13,C14,C15]:List Addr).Nodup=true
 e:((["all", "any", "bool", "int", "isinstance", "len", "list", "range", "set", "sorted", "str", "tuple", "zip"]:aC).all λx=>match nsIn K mainGlobals x with|some none=>true|_=>false)=true
 g0:GS K "KINDS" ["room", "plain", "fixed", "box", "lamp", "you"]
 g1:GS K "KINDS_APART" ["room", "you"]
 g2:GS K "KINDS_THAT_HOLD" ["room", "box", "you"]
 g3:GS K "KINDS_WITH_MARK" ["box", "lamp"]
 g4:GC K "MOST_BESIDE" 7
 g5:GC K "MOST_IN_NAME" 8
 g6:GC K "MOST_IN_WORD" 12
 g7:GC K "MOST_MARKS" 4
 g8:GC K "MOST_OF_MARK" 3
 g9:GC K "MOST_ROOMS" 5
 g10:GC K "MOST_RULES" 20
 g11:GC K "MOST_VERBS" 6
 g12:GC K "MOST_WAYS" 10
 g13:GC K "MOST_WORDS" 4
 g14:GS K "NO_NAMES" ["it", "other", "here", "the", "a", "undo", "restart"]
 g15:GS K "NO_WORDS" ["the", "a"]
 g16:GS K "NO_WORDS_OF_ROWS" ["the", "a", "undo", "restart"]
 q17:GD K "is_small_letters" (top 6)
 q18:GD K "is_name" (top 7)
 q19:GD K "is_word" (top 8)
 q20:GD K "is_one_of" (top 10)
 q21:GD K "is_whole" (top 11)
 q22:GD K "is_list_up_to" (top 12)
 q23:GD K "own_list" (top 96)
 q24:GJ K C0 "Thing.__init__" (inClass (top 46) 0) [V.non]
 q25:GM K C1 "__init__" "Mark.__init__" (inClass (top 47) 0)
 q26:GJ K C2 "Verb.__init__" (inClass (top 48) 0) [V.non,(V.str "one"),V.non]
 q27:GM K C3 "__init__" "At.__init__" (inClass (top 28) 0)
 q28:GM K C4 "__init__" "Has.__init__" (inClass (top 29) 0)
 q29:GM K C5 "__init__" "Seen.__init__" (inClass (top 30) 0)
 q30:GM K C6 "__init__" "Marked.__init__" (inClass (top 31) 0)
 q31:GM K C7 "__init__" "Kind.__init__" (inClass (top 32) 0)
 q32:GM K C8 "__init__" "Word.__init__" (inClass (top 33) 0)
 q33:GM K C9 "__init__" "Not.__init__" (inClass (top 35) 0)
 q34:GM K C11 "__init__" "Move.__init__" (inClass (top 87) 0)
 q35:GM K C12 "__init__" "Put.__init__" (inClass (top 88) 0)
 q36:GJ K C13 "Rule.__init__" (inClass (top 95) 0) [(V.bl false)]
 q37:GM K C0 "can_hold" "Thing.can_hold" (inClass (top 46) 1)
 q38:GM K C0 "has_mark" "Thing.has_mark" (inClass (top 46) 2)
 q39:GM K C0 "is_plainly" "Thing.is_plainly" (inClass (top 46) 3)
 q40:GD K "refuse_unless" (top 61)
 q41:GD K "count_of" (top 64)
 q42:GD K "plain_ones" (top 65)
 q43:GD K "is_mark" (top 67)
 q44:GD K "check_things" (top 63)
 q45:GD K "check_marks" (top 66)
 q46:GD K "are_unlike" (top 69)
 q47:GD K "check_names" (top 68)
 q48:GD K "mark_names" (top 70)
 q49:GD K "is_start" (top 72)
 q50:GD K "comes_to_room" (top 73)
 q51:GD K "check_starts" (top 71)
 q52:GD K "are_words" (top 75)
 q53:GD K "has_all" (top 77)
 q54:GD K "is_told_apart" (top 76)
 q55:GD K "check_words_of_things" (top 74)
 q56:GD K "check_dark" (top 78)
 q57:GD K "is_way" (top 80)
 q58:GD K "check_ways" (top 79)
 q59:GD K "check_verbs" (top 81)
 q60:GD K "are_apart" (top 84)
 q61:GD K "check_vocabulary" (top 83)
 q62:GD K "check_parts" (top 62)
 q63:GD K "does" (top 119)
 q64:GD K "refuses" (top 120)
 q65:GD K "hand_rules" (top 121)
 q66:GD K "put_rules" (top 122)
 q67:GD K "lid_rules" (top 123)
 q68:GD K "flame_rules" (top 124)
 q69:GD K "way_tests" (top 126)
 q70:GD K "go_rules" (top 125)
 q71:GD K "wait_rules" (top 127)
 q72:GD K "common_rules" (top 118)
 q73:GD K "common_verbs" (top 117)
 q74:GD K "by_name" (top 131)
 q75:GD K "mosts_by_name" (top 132)
 q76:GD K "verbs_by_word" (top 133)
 q77:GD K "by_verb" (top 134)
 q78:GM K C14 "of_kind" "World.of_kind" (inClass (top 130) 3)
 q79:GM K C14 "all_verbs" "World.all_verbs" (inClass (top 130) 13)
 q80:GM K C14 "__init__" "World.__init__" (inClass (top 130) 0)
 q81:GM K C14 "you" "World.you" (inClass (top 130) 4)
 q82:GM K C14 "thing_of" "World.thing_of" (inClass (top 130) 2)
 q83:GM K C14 "is_dark" "World.is_dark" (inClass (top 130) 5)
 q84:GD K "value_of" (top 14)
 q85:GD K "at_of" (top 15)
 q86:GD K "mark_of" (top 16)
 q87:GD K "holders_of" (top 18)
 q88:GD K "room_of" (top 19)
 q89:GD K "is_shut" (top 21)
 q90:GD K "in_open" (top 20)
 q91:GD K "has" (top 22)
 q92:GD K "burns_in" (top 24)
 q93:GD K "is_lit" (top 23)
 q94:GD K "is_seen" (top 25)
 q95:GM K C14 "verb_of" "World.verb_of" (inClass (top 130) 14)
 q96:GD K "is_of_way" (top 37)
 q97:GD K "things_of" (top 38)
 q98:GD K "meant" (top 39)
 q99:GM K C3 "holds" "At.holds" (inClass (top 28) 1)
 q100:GM K C4 "holds" "Has.holds" (inClass (top 29) 1)
 q101:GM K C5 "holds" "Seen.holds" (inClass (top 30) 1)
 q102:GM K C6 "holds" "Marked.holds" (inClass (top 31) 1)
 q103:GM K C7 "holds" "Kind.holds" (inClass (top 32) 1)
 q104:GM K C8 "holds" "Word.holds" (inClass (top 33) 1)
 q105:GM K C15 "holds" "Lit.holds" (inClass (top 34) 0)
 q106:GD K "_law_cell_at" (top 136)
 q107:GD K "_law_draws" (top 137)
 q108:GD K "_law_take" (top 138)
 q109:GD K "_law_names" (top 139)
 q110:GD K "_law_others" (top 140)
 q111:GD K "_law_spec" (top 141)
 q112:GD K "_law_ways" (top 142)
 q113:GD K "_law_world" (top 143)
 q114:GD K "_law_of" (top 144)
 q115:GD K "_law_mosts" (top 145)
 q116:GD K "_law_places" (top 146)
 q117:GD K "_law_marks" (top 147)
 q118:GD K "_law_stand" (top 148)
 q119:GD K "_law_holders" (top 149)
 q120:GD K "_law_in_open" (top 150)
 q121:GD K "_law_lit" (top 151)
 q122:GD K "_law_seen" (top 152)
 q123:GD K "_law_command" (top 153)
 q124:GD K "_law_form" (top 154)
 q125:GD K "_law_term" (top 155)
 q126:GD K "_law_place" (top 156)
 q127:GD K "_law_marked" (top 157)
 q128:GD K "_law_asked" (top 158)
 q129:GD K "_law_test" (top 159)
 q130:GD K "_law_meant" (top 160)
 q131:GD K "_law_so" (top 161)
 q132:GD K "_law_truth" (top 162)
 q133:GD K "_law_fields" (top 163)
 q134:GD K "law" (top 164)
class Yx(B:Bz):Prop where
 y:Yw B.P B.w B.mg B.base B.G
 f:Fx B.G.K (B.G.ca 0) (B.G.ca 1) (B.G.ca 2) (B.G.ca 3) (B.G.ca 4) (B.G.ca 5) (B.G.ca 6) (B.G.ca 7) (B.G.ca 8) (B.G.ca 9) (B.G.ca 10) (B.G.ca 11) (B.G.ca 12) (B.G.ca 13) (B.G.ca 14) (B.G.ca 15)
section
variable{B:Bz}[Y:Yx B]
instance:Yb B:=⟨Y.y⟩
instance:Nb B "all" := ⟨Y.y.n Y.f.e 0 rfl⟩
instance:Nb B "any" := ⟨Y.y.n Y.f.e 1 rfl⟩
instance:Nb B "bool" := ⟨Y.y.n Y.f.e 2 rfl⟩
instance:Nb B "int" := ⟨Y.y.n Y.f.e 3 rfl⟩
instance:Nb B "isinstance" := ⟨Y.y.n Y.f.e 4 rfl⟩
instance:Nb B "len" := ⟨Y.y.n Y.f.e 5 rfl⟩
instance:Nb B "list" := ⟨Y.y.n Y.f.e 6 rfl⟩
instance:Nb B "range" := ⟨Y.y.n Y.f.e 7 rfl⟩
instance:Nb B "set" := ⟨Y.y.n Y.f.e 8 rfl⟩
instance:Nb B "sorted" := ⟨Y.y.n Y.f.e 9 rfl⟩
instance:Nb B "str" := ⟨Y.y.n Y.f.e 10 rfl⟩
instance:Nb B "tuple" := ⟨Y.y.n Y.f.e 11 rfl⟩
instance:Nb B "zip" := ⟨Y.y.n Y.f.e 12 rfl⟩
instance:Co B "KINDS" E9:=⟨Y.y.cs Y.f.g0⟩
instance:Co B "KINDS_APART" yj:=⟨Y.y.cs Y.f.g1⟩
instance:Co B "KINDS_THAT_HOLD" uG:=⟨Y.y.cs Y.f.g2⟩
instance:Co B "KINDS_WITH_MARK" uH:=⟨Y.y.cs Y.f.g3⟩
instance:Co B "MOST_BESIDE" yk:=⟨Y.y.ci Y.f.g4⟩
instance:Co B "MOST_IN_NAME" xf:=⟨Y.y.ci Y.f.g5⟩
instance:Co B "MOST_IN_WORD" xg:=⟨Y.y.ci Y.f.g6⟩
instance:Co B "MOST_MARKS" tR:=⟨Y.y.ci Y.f.g7⟩
instance:Co B "MOST_OF_MARK" xh:=⟨Y.y.ci Y.f.g8⟩
instance:Co B "MOST_ROOMS" zk:=⟨Y.y.ci Y.f.g9⟩
instance:Co B "MOST_RULES" zm:=⟨Y.y.ci Y.f.g10⟩
instance:Co B "MOST_VERBS" zl:=⟨Y.y.ci Y.f.g11⟩
instance:Co B "MOST_WAYS" AG:=⟨Y.y.ci Y.f.g12⟩
instance:Co B "MOST_WORDS" vY:=⟨Y.y.ci Y.f.g13⟩
instance:Co B "NO_NAMES" Cp:=⟨Y.y.cs Y.f.g14⟩
instance:Co B "NO_WORDS" Cq:=⟨Y.y.cs Y.f.g15⟩
instance:Co B "NO_WORDS_OF_ROWS" ui:=⟨Y.y.cs Y.f.g16⟩
instance:Ff B sN "copied_rules" := ⟨uf (Y.f.k14.at 0 rfl)⟩
instance:Ff B Gv "form" := ⟨uf (Y.f.k2.at 0 rfl)⟩
instance:Ff B xb "joining" := ⟨uf (Y.f.k2.at 1 rfl)⟩
instance:Ff B yi "kept_dark" := ⟨uf (Y.f.k14.at 1 rfl)⟩
instance:Ff B wx "kept_things" := ⟨uf (Y.f.k14.at 2 rfl)⟩
instance:Ff B xc "kept_verbs" := ⟨uf (Y.f.k14.at 3 rfl)⟩
instance:Ff B pF "kind" := ⟨orQ (uf (Y.f.k0.at 0 rfl)) (Y.f.k7.at 0 rfl)⟩
instance:Ff B ug "most" := ⟨uf (Y.f.k1.at 0 rfl)⟩
instance:Ff B o6 "name" := ⟨orQ (orQ (uf (Y.f.k0.at 1 rfl)) (Y.f.k1.at 1 rfl)) (Y.f.k2.at 2 rfl)⟩
instance:Ff B yM "others" := ⟨uf (Y.f.k2.at 3 rfl)⟩
instance:Ff B D5 "place" := ⟨orQ (uf (Y.f.k3.at 0 rfl)) (Y.f.k11.at 0 rfl)⟩
instance:Ff B sO "shared_rules" := ⟨uf (Y.f.k14.at 4 rfl)⟩
instance:Ff B vd "shared_verbs" := ⟨uf (Y.f.k14.at 5 rfl)⟩
instance:Ff B qb "start" := ⟨orQ (uf (Y.f.k0.at 2 rfl)) (Y.f.k1.at 2 rfl)⟩
instance:Ff B tf "term" := ⟨orQ (orQ (orQ (orQ (orQ (orQ (uf (Y.f.k3.at 1 rfl)) (Y.f.k4.at 0 rfl)) (Y.f.k5.at 0 rfl)) (Y.f.k6.at 0 rfl)) (Y.f.k7.at 1 rfl)) (Y.f.k11.at 1 rfl)) (Y.f.k12.at 0 rfl)⟩
instance:Ff B uh "things_by_name" := ⟨uf (Y.f.k14.at 6 rfl)⟩
instance:Ff B xQ "value" := ⟨orQ (uf (Y.f.k6.at 1 rfl)) (Y.f.k12.at 1 rfl)⟩
instance:Ff B Gw "verb" := ⟨uf (Y.f.k13.at 0 rfl)⟩
instance:Ff B uF "verbs_by_word" := ⟨uf (Y.f.k14.at 7 rfl)⟩
instance:Ff B Cn "word" := ⟨uf (Y.f.k8.at 0 rfl)⟩
instance:Ff B qJ "words" := ⟨uf (Y.f.k0.at 3 rfl)⟩
instance:Ff B sR "your_name" := ⟨uf (Y.f.k14.at 8 rfl)⟩
instance:Af B 0 ["kind", "name", "start", "words"]:=⟨Y.f.k0⟩
instance:Af B 1 ["most", "name", "start"]:=⟨Y.f.k1⟩
instance:Af B 2 ["form", "joining", "name", "others"]:=⟨Y.f.k2⟩
instance:Af B 3 ["place", "term"]:=⟨Y.f.k3⟩
instance:Af B 4 ["term"]:=⟨Y.f.k4⟩
instance:Af B 5 ["term"]:=⟨Y.f.k5⟩
instance:Af B 6 ["term", "value"]:=⟨Y.f.k6⟩
instance:Af B 7 ["kind", "term"]:=⟨Y.f.k7⟩
instance:Af B 8 ["word"]:=⟨Y.f.k8⟩
instance:Af B 9 ["inner"]:=⟨Y.f.k9⟩
instance:Af B 11 ["place", "term"]:=⟨Y.f.k11⟩
instance:Af B 12 ["term", "value"]:=⟨Y.f.k12⟩
instance:Af B 13 ["verb", "deeds", "refuses", "tests", "text"]:=⟨Y.f.k13⟩
instance:Af B 14 ["copied_rules", "kept_dark", "kept_things", "kept_verbs", "shared_rules", "shared_verbs", "things_by_name", "verbs_by_word", "your_name", "kept_marks", "kept_rules", "kept_ways", "mosts_by_name", "rules_by_verb"]:=⟨Y.f.k14⟩
instance:Ic B "Mark" Na:=⟨1,D4 Y.f.i_Mark rfl (P7 16 _) (KH.at ⟨Y.f.k0.ci,Y.f.k1.ci,Y.f.k2.ci,Y.f.k3.ci,Y.f.k4.ci,Y.f.k5.ci,Y.f.k6.ci,Y.f.k7.ci,Y.f.k8.ci,Y.f.k9.ci,Y.f.k10.ci,Y.f.k11.ci,Y.f.k12.ci,Y.f.k13.ci,Y.f.k14.ci,Y.f.k15.ci,trivial⟩),Y.y.g Y.f.a1⟩
instance:Ic B "Thing" Jn:=⟨0,D4 Y.f.i_Thing rfl (P7 16 _) (KH.at ⟨Y.f.k0.ci,Y.f.k1.ci,Y.f.k2.ci,Y.f.k3.ci,Y.f.k4.ci,Y.f.k5.ci,Y.f.k6.ci,Y.f.k7.ci,Y.f.k8.ci,Y.f.k9.ci,Y.f.k10.ci,Y.f.k11.ci,Y.f.k12.ci,Y.f.k13.ci,Y.f.k14.ci,Y.f.k15.ci,trivial⟩),Y.y.g Y.f.a0⟩
instance:K0f B "Lit" 15:=⟨⟨Y.f.k15.mks,Y.f.n_Lit,Y.f.k15.kp⟩,Y.y.g Y.f.a15⟩
instance:Ij B 16:=⟨Xo Y.f.nd⟩
local macro_rules|`(tactic|trivial)=>do let x:=("WQ WC WB WD WE M4 WJ Tw Uv WG Tu UB Uu Tb Tc Uw Uy Uq TF Ui TL UC Tj Tn To Tp Tf Uz WK UD Tg TB UF UH Ux US Tx Tv Tt Ta TX TY WH UJ Tr Ts UU UV Tq WL WM T7 Td Te T8 Ti UP UQ UR UG UI UK WI TH TJ UL UM T9 TM TN U4 Ud Ue Ug Uh UN UO P5 P4 P6 Uj Uk Ul Um TV Uo TZ T2 T4 T5 T6 U2 Uc Ub Ua TC Us Ut P3 UE U9 U7 U8 U6 TU U3 TQ TR UW UX UY UZ PZ UT UA".splitOn " ").toArray.map fun s=>Lean.mkIdent (.mkSimple s);`(tactic|repeat' first|(with_reducible apply eqI);(first|rfl|kernel_rfl)|((with_reducible first|apply Ur|apply zr_cpM);rotate_left 7;rfl)|(with_reducible first $[|apply $x]*)|(with_reducible intro _)|exact mY)
instance:Df B 1 "is_small_letters" (spF B.G rO):=gF4 rfl Y.f.q17 rfl (by unfold uj;trivial)
instance:Df B 2 "is_name" (spF B.G xR):=gF4 rfl Y.f.q18 rfl (by unfold D6;trivial)
instance:Df B 2 "is_word" (spF B.G rR):=gF4 rfl Y.f.q19 rfl (by unfold D7;trivial)
instance:Df B 1 "is_one_of" (spF B.G pM):=gF4 rfl Y.f.q20 rfl (by unfold AH;trivial)
instance:Df B 1 "is_whole" (spF B.G yN):=gF4 rfl Y.f.q21 rfl (by unfold Cr;trivial)
instance:Df B 1 "is_list_up_to" (spF B.G qc):=gF4 rfl Y.f.q22 rfl (by unfold wy;trivial)
instance:Df B 1 "own_list" (spF B.G yO):=gF4 rfl Y.f.q23 rfl (by unfold Cs;trivial)
instance:Kf B 1 "Thing" 0 zq []:=gJ4 (dds:=[D.non]) Y.f.k0 Y.f.a0 rfl Y.f.q24 rfl rfl (by unfold zp;trivial) 1
instance:Kf B 1 "Mark" 1 AJ []:=gI4 Y.f.k1 Y.f.a1 rfl Y.f.q25 rfl rfl (by unfold AI;trivial)
theorem wt:Bdz B (nmO (inClass (top 48) 0)) "Verb.__init__" (inClass (top 48) 0) (ph (inClass (top 48) 0)) 0 xi:=by
 unfold xi;refine M4 ?_ ?_
 all_goals trivial
instance:Kf B 1 "Verb" 2 qY [D.non,(D.str "one"),D.non]:=gJ4 (dds:=[D.non,(D.str "one"),D.non]) Y.f.k2 Y.f.a2 rfl Y.f.q26 rfl rfl wt 0
instance:Kf B 1 "Verb" 2 qY [D.non]:=gJ4 (dds:=[D.non,(D.str "one"),D.non]) Y.f.k2 Y.f.a2 rfl Y.f.q26 rfl rfl wt 2
instance:Kf B 1 "Verb" 2 qY []:=gJ4 (dds:=[D.non,(D.str "one"),D.non]) Y.f.k2 Y.f.a2 rfl Y.f.q26 rfl rfl wt 3
instance:Kf B 1 "At" 3 xS []:=gI4 Y.f.k3 Y.f.a3 rfl Y.f.q27 rfl rfl (by unfold D8;trivial)
instance:Kf B 1 "Has" 4 vZ []:=gI4 Y.f.k4 Y.f.a4 rfl Y.f.q28 rfl rfl (by unfold Ct;trivial)
instance:Kf B 1 "Seen" 5 AL []:=gI4 Y.f.k5 Y.f.a5 rfl Y.f.q29 rfl rfl (by unfold AK;trivial)
instance:Kf B 1 "Marked" 6 pU []:=gI4 Y.f.k6 Y.f.a6 rfl Y.f.q30 rfl rfl (by unfold ym;trivial)
instance:Kf B 1 "Kind" 7 qv []:=gI4 Y.f.k7 Y.f.a7 rfl Y.f.q31 rfl rfl (by unfold AM;trivial)
instance:Kf B 1 "Word" 8 xj []:=gI4 Y.f.k8 Y.f.a8 rfl Y.f.q32 rfl rfl (by unfold AN;trivial)
instance:Kf B 1 "Not" 9 qZ []:=gI4 Y.f.k9 Y.f.a9 rfl Y.f.q33 rfl rfl (by unfold Cu;trivial)
instance:Kf B 1 "Move" 11 tp []:=gI4 Y.f.k11 Y.f.a11 rfl Y.f.q34 rfl rfl (by unfold AO;trivial)
instance:Kf B 1 "Put" 12 uk []:=gI4 Y.f.k12 Y.f.a12 rfl Y.f.q35 rfl rfl (by unfold Cv;trivial)
instance:Kf B 2 "Rule" 13 xk []:=gJ4 (dds:=[(D.bl false)]) Y.f.k13 Y.f.a13 rfl Y.f.q36 rfl rfl (by unfold AQ;trivial) 1
instance:Mf B 9 "can_hold" ql:=⟨λc h e=>by
 unfold ql at e;split at e
 ·cases e;exact hF4 (k:=8) Y.f.k0 rfl Y.f.q37 rfl (by unfold ve;trivial)
 ·cases e⟩
instance:Mf B 9 "has_mark" qm:=⟨λc h e=>by
 unfold qm at e;split at e
 ·cases e;exact hF4 (k:=8) Y.f.k0 rfl Y.f.q38 rfl (by unfold vm;trivial)
 ·cases e⟩
instance:Mf B 9 "is_plainly" qo:=⟨λc h e=>by
 unfold qo at e;split at e
 ·cases e;exact hF4 (k:=8) Y.f.k0 rfl Y.f.q39 rfl (by unfold um;trivial)
 ·cases e⟩
instance:Df B 1 "refuse_unless" (spF B.G oF):=gF4 rfl Y.f.q40 rfl (by unfold wz;trivial)
instance:Df B 1 "count_of" (spF B.G v3):=gF4 rfl Y.f.q41 rfl (by unfold Cw;trivial)
instance:Df B 10 "plain_ones" (spN B.G rq):=gN4 rfl Y.f.q42 rfl (by unfold zr;trivial)
instance:Df B 2 "is_mark" (spF B.G Ah):=gF4 rfl Y.f.q43 rfl (by unfold Ag;trivial)
instance:Df B 11 "check_things" (spF B.G ur):=gF4 rfl Y.f.q44 rfl (by unfold uq;trivial)
instance:Df B 3 "check_marks" (spF B.G uQ):=gF4 rfl Y.f.q45 rfl (by unfold uP;trivial)
instance:Df B 1 "are_unlike" (spF B.G pS):=gF4 rfl Y.f.q46 rfl (by unfold zt;trivial)
instance:Df B 3 "check_names" (spF B.G uS):=gF4 rfl Y.f.q47 rfl (by unfold uR;trivial)
instance:Df B 10 "mark_names" (spN B.G tS):=gN4 rfl Y.f.q48 rfl (by unfold zu;trivial)
instance:Df B 10 "is_start" (spF B.G yQ):=gF4 rfl Y.f.q49 rfl (by unfold yP;trivial)
instance:Df B 1 "comes_to_room" (spF B.G tI):=gF4 rfl Y.f.q50 rfl (by unfold wA;trivial)
instance:Df B 11 "check_starts" (spF B.G uv):=gF5 ["things", "starts", "thing"] rfl Y.f.q51 rfl (by unfold uu;trivial)
instance:Df B 3 "are_words" (spF B.G xm):=gF4 rfl Y.f.q52 rfl (by unfold xl;trivial)
instance:Df B 1 "has_all" (spF B.G xT):=gF4 rfl Y.f.q53 rfl (by unfold D9;trivial)
instance:Df B 2 "is_told_apart" (spF B.G tK):=gF4 rfl Y.f.q54 rfl (by unfold tJ;trivial)
instance:Df B 11 "check_words_of_things" (spF B.G qq):=gF4 rfl Y.f.q55 rfl (by unfold qp;trivial)
instance:Df B 2 "check_dark" (spF B.G v7):=gF4 rfl Y.f.q56 rfl (by unfold v5;trivial)
instance:Df B 3 "is_way" (spF B.G CA):=gF4 rfl Y.f.q57 rfl (by unfold Cy;trivial)
instance:Df B 4 "check_ways" (spF B.G tT):=gF4 rfl Y.f.q58 rfl (by unfold v8;trivial)
instance:Df B 2 "check_verbs" (spF B.G uT):=gF4 rfl Y.f.q59 rfl (by unfold yn;trivial)
instance:Df B 1 "are_apart" (spF B.G tq):=gF4 rfl Y.f.q60 rfl (by unfold AR;trivial)
instance:Df B 11 "check_vocabulary" (spF B.G qB):=gF4 rfl Y.f.q61 rfl (by unfold rP;trivial)
instance:Df B 12 "check_parts" (spF B.G uV):=gF4 rfl Y.f.q62 rfl (by unfold uU;trivial)
instance:Df B 4 "does" (spF B.G uW):=gF4 rfl Y.f.q63 rfl (by unfold Nc;trivial)
instance:Df B 4 "refuses" (spF B.G pK):=gF4 rfl Y.f.q64 rfl (by unfold Ea;trivial)
instance:Df B 5 "hand_rules" (spN B.G zw):=gN4 rfl Y.f.q65 rfl (by unfold zv;trivial)
instance:Df B 5 "put_rules" (spN B.G AU):=gN4 rfl Y.f.q66 rfl (by unfold AS;trivial)
instance:Df B 5 "lid_rules" (spN B.G AW):=gN4 rfl Y.f.q67 rfl (by unfold AV;trivial)
instance:Df B 5 "flame_rules" (spN B.G yq):=gN4 rfl Y.f.q68 rfl (by unfold yp;trivial)
instance:Df B 3 "way_tests" (spN B.G AY):=gN4 rfl Y.f.q69 rfl (by unfold AX;trivial)
instance:Df B 5 "go_rules" (spN B.G CC):=gN4 rfl Y.f.q70 rfl (by unfold CB;trivial)
instance:Df B 5 "wait_rules" (spN B.G zy):=gN4 rfl Y.f.q71 rfl (by unfold zx;trivial)
instance:Df B 6 "common_rules" (spN B.G q9):=gN4 rfl Y.f.q72 rfl (by unfold xn;trivial)
instance:Df B 3 "common_verbs" (spN B.G qr):=gN4 rfl Y.f.q73 rfl (by unfold xp;trivial)
instance:Df B 1 "by_name" (spF B.G Aj):=gF4 rfl Y.f.q74 rfl (by unfold Ai;trivial)
instance:Df B 10 "mosts_by_name" (spF B.G qH):=gF4 rfl Y.f.q75 rfl (by unfold tL;trivial)
instance:Df B 1 "verbs_by_word" (spF B.G qI):=gF4 rfl Y.f.q76 rfl (by unfold wB;trivial)
instance:Df B 1 "by_verb" (spF B.G vp):=gF4 rfl Y.f.q77 rfl (by unfold Eb;refine⟨Kv (stW (by kernel_rfl) BK rfl) (Ld mY rfl (FU (FJ B.G.K (Hn (pvI (by kernel_rfl))))) (pgI (by kernel_rfl)) (Eu (Iv (LG B.G.K fm jy mf zQ (MC (pvI (by kernel_rfl)) (LU (Hn (pvI (by kernel_rfl))) (Ff.p (B:=B))) (Lm uN) ⟨rfl,rfl,rfl,rfl⟩) (qw (pvI (by kernel_rfl)) uN))))) (GZ (PE.ghost (pvI (by kernel_rfl))))⟩)
instance:Mf B 9 "of_kind" qK:=⟨λc h e=>by
 unfold qK at e;split at e
 ·cases e;exact hF4 (k:=8) Y.f.k14 rfl Y.f.q78 rfl (by unfold wC;trivial)
 ·cases e⟩
instance:Mf B 9 "all_verbs" rL:=⟨λc h e=>by
 unfold rL at e;split at e
 ·cases e;exact hF4 (k:=8) Y.f.k14 rfl Y.f.q79 rfl (by unfold uI;trivial)
 ·cases e⟩
instance:Kf B 13 "World" 14 sk []:=gI4 Y.f.k14 Y.f.a14 rfl Y.f.q80 rfl rfl (by unfold sj;trivial)
instance:Mf B 9 "you" vq:=⟨λc h e=>by
 unfold vq at e;split at e
 ·cases e;exact hF4 (k:=8) Y.f.k14 rfl Y.f.q81 rfl (by unfold AZ;trivial)
 ·cases e⟩
instance:Mf B 9 "thing_of" pY:=⟨λc h e=>by
 unfold pY at e;split at e
 ·cases e;exact hF4 (k:=8) Y.f.k14 rfl Y.f.q82 rfl (by unfold vt;trivial)
 ·cases e⟩
instance:Mf B 9 "is_dark" sS:=⟨λc h e=>by
 unfold sS at e;split at e
 ·cases e;exact hF4 (k:=8) Y.f.k14 rfl Y.f.q83 rfl (by unfold wD;trivial)
 ·cases e⟩
instance:Df B 1 "value_of" (spF B.G uw):=gF4 rfl Y.f.q84 rfl (by unfold CD;trivial)
instance:Df B 2 "at_of" (spF B.G rA):=gF4 rfl Y.f.q85 rfl (by unfold Jo;trivial)
instance:Df B 2 "mark_of" (spF B.G rS):=gF4 rfl Y.f.q86 rfl (by unfold Ec;trivial)
instance:Df B 3 "holders_of" (spN B.G tU):=gN4 rfl Y.f.q87 rfl (by unfold zz;trivial)
instance:Df B 10 "room_of" (spF B.G rT):=gF4 rfl Y.f.q88 rfl (by unfold Ed;trivial)
instance:Df B 10 "is_shut" (spF B.G rU):=gF4 rfl Y.f.q89 rfl (by unfold Ee;trivial)
instance:Df B 11 "in_open" (spF B.G rV):=gF4 rfl Y.f.q90 rfl (by unfold Ef;trivial)
instance:Df B 10 "has" (spF B.G QV):=gF4 rfl Y.f.q91 rfl (by unfold QU;trivial)
instance:Df B 12 "burns_in" (spF B.G v9):=gF4 rfl Y.f.q92 rfl (by unfold CG;trivial)
instance:Df B 13 "is_lit" (spF B.G zA):=gF4 rfl Y.f.q93 rfl (by unfold Gx;trivial)
instance:Df B 14 "is_seen" (spF B.G Al):=gF4 rfl Y.f.q94 rfl (by unfold Eg;trivial)
instance:Mf B 9 "verb_of" uX:=⟨λc h e=>by
 unfold uX at e;split at e
 ·cases e;exact hF4 (k:=8) Y.f.k14 rfl Y.f.q95 rfl (by unfold wG;trivial)
 ·cases e⟩
instance:Df B 10 "is_of_way" (spF B.G xq):=gF4 rfl Y.f.q96 rfl (by unfold A3;trivial)
instance:Df B 11 "things_of" (spF B.G ra):=gF4 rfl Y.f.q97 rfl (by unfold A4;trivial)
instance:Df B 12 "meant" (spF B.G sq):=gF4 rfl Y.f.q98 rfl (by unfold xU;trivial)
instance:Mf B 16 "holds" uJ:=⟨λc h e=>by
 unfold uJ at e;split at e
 ·cases e;exact hF4 (k:=15) Y.f.k3 rfl Y.f.q99 rfl (by unfold yR;trivial)
 ·cases e;exact hF4 (k:=15) Y.f.k4 rfl Y.f.q100 rfl (by unfold A5;trivial)
 ·cases e;exact hF4 (k:=15) Y.f.k5 rfl Y.f.q101 rfl (by unfold zB;trivial)
 ·cases e;exact hF4 (k:=15) Y.f.k6 rfl Y.f.q102 rfl (by unfold ux;trivial)
 ·cases e;exact hF4 (k:=15) Y.f.k7 rfl Y.f.q103 rfl (by unfold wb;trivial)
 ·cases e;exact hF4 (k:=15) Y.f.k8 rfl Y.f.q104 rfl (by unfold zE;trivial)
 ·cases e;exact hF4 (k:=15) Y.f.k15 rfl Y.f.q105 rfl (by unfold A7;trivial)
 ·cases e⟩
instance:Df B 1 "_law_cell_at" (spF B.G su):=gF4 rfl Y.f.q106 rfl (by unfold xt;trivial)
instance:Df B 1 "_law_draws" (spN B.G sv):=gN4 rfl Y.f.q107 rfl (by unfold zG;trivial)
instance:Df B 1 "_law_take" (spM B.G oh):=gM4 rfl Y.f.q108 rfl rfl (by unfold A9;trivial)
instance:Df B 2 "_law_names" (spM B.G we):=gM4 rfl Y.f.q109 rfl rfl (by unfold wc;trivial)
instance:Df B 2 "_law_others" (spL B.G qL):=gL4 rfl Y.f.q110 rfl (by unfold sT;trivial)
instance:Df B 3 "_law_spec" (spF B.G xw):=gF4 rfl Y.f.q111 rfl (by unfold xu;trivial)
instance:Df B 1 "_law_ways" (spN B.G xA):=gN4 rfl Y.f.q112 rfl (by unfold xy;trivial)
instance:Df B 15 "_law_world" (spF B.G wj):=gF4 rfl Y.f.q113 rfl (by unfold wg;trivial)
instance:Df B 1 "_law_of" (spN B.G pO):=gN4 rfl Y.f.q114 rfl (by unfold Eh;trivial)
instance:Df B 2 "_law_mosts" (spF B.G qC):=gF4 rfl Y.f.q115 rfl (by unfold wm;trivial)
instance:Df B 2 "_law_places" (spL B.G rG):=gL4 rfl Y.f.q116 rfl (by unfold sU;trivial)
instance:Df B 3 "_law_marks" (spL B.G sy):=gL4 rfl Y.f.q117 rfl (by unfold tV;trivial)
instance:Df B 1 "_law_stand" (spF B.G tW):=gF4 rfl Y.f.q118 rfl (by unfold zH;trivial)
instance:Df B 1 "_law_holders" (spN B.G rb):=gN4 rfl Y.f.q119 rfl (by unfold xB;trivial)
instance:Df B 2 "_law_in_open" (spF B.G pe):=gF4 rfl Y.f.q120 rfl (by unfold xC;trivial)
instance:Df B 3 "_law_lit" (spF B.G wo):=gF4 rfl Y.f.q121 rfl (by unfold CH;trivial)
instance:Df B 4 "_law_seen" (spN B.G xD):=gN4 rfl Y.f.q122 rfl (by unfold Ba;trivial)
instance:Df B 2 "_law_command" (spL B.G rf):=gL4 rfl Y.f.q123 rfl (by unfold sA;trivial)
instance:Df B 1 "_law_form" (spF B.G xE):=gF4 rfl Y.f.q124 rfl (by unfold Bb;trivial)
instance:Df B 2 "_law_term" (spL B.G rg):=gL4 rfl Y.f.q125 rfl (by unfold tu;trivial)
instance:Df B 2 "_law_place" (spL B.G tY):=gL4 rfl Y.f.q126 rfl (by unfold tX;trivial)
instance:Df B 3 "_law_marked" (spL B.G rH):=gL4 rfl Y.f.q127 rfl (by unfold sV;trivial)
instance:Dj B 4 "_law_asked" 2 qD:=⟨gJ5 rfl (by decide) Y.f.q128 rfl (by unfold rB;trivial)⟩
instance:Df B 3 "_law_test" (spF B.G uK):=gF4 rfl Y.f.q129 rfl (by unfold Bc;trivial)
instance:Df B 1 "_law_meant" (spF B.G sC):=gF4 rfl Y.f.q130 rfl (by unfold zI;trivial)
instance:Df B 5 "_law_so" (spF B.G vw):=gF4 rfl Y.f.q131 rfl (by unfold rD;trivial)
instance:Df B 1 "_law_truth" (spF B.G tZ):=gF4 rfl Y.f.q132 rfl (by unfold zJ;trivial)
instance:Df B 1 "_law_fields" (spF B.G qM):=gF4 rfl Y.f.q133 rfl (by unfold pV;trivial)
theorem N1:Bdz B (nmO (top 164)) "law" (top 164) (ph (top 164)) 16 Nd:=by
 unfold Nd;refine M4 ?_ ?_
 all_goals trivial
end
end K21x
namespace K21x
open PySem L2 L3 L4
def JK(K:au):Sp:=λvs H Q _=>∃(a:Addr) (ns:List Int),vs=[.ref a]/\SqL K H a (ns.map V.int)/\ns.length<=63/\∀H',Q (.bl true) H'
theorem Er{G:Bg}{H:Hp}:∀ns:List Int,oq G H (ns.map D.int) (ns.map V.int)
 |[]=>o8
 |n::ns=>o7 (qz n) (Er ns)
theorem QD{G:Bg}:∀vs H Q E,JK G.K vs H Q E->spF G QW vs H Q E:=λvs H Q E h=>by obtain⟨a,ns,rfl,hs,hl,k⟩:=h;refine⟨H,[.fzl (ns.map D.int)],.bl true,oE.refl _,o7 (by unfold L4.Rep;exact⟨a,_,rfl,hs,Er ns⟩) o8,Vt ns hl,λv H0' H' _ _ _ _ r=>?_⟩;unfold L4.Rep at r;subst r;exact k H'
section
variable{K:au}{x m q:Str}{st:Stmt}{f C:Addr}{oc:aa}{od:Option Addr}{kV doc pm:aa}{an:Option Addr}{cdv ct:aa}{osl:Array (Option aa)}
theorem N2(lk:K.lookup f=some ⟨oc,od,.func (dq x q (rY st) (ph st) (oP st) .none kV doc pm an cdv ct),osl⟩)(hc:fF K cdv q=true)(kp:c4 K (.ref f)=true):∃fd,Fun K x q st f fd:=⟨_,⟨_,_,_,_,_,_,_,_,_,rfl,lk,hc⟩,kp⟩
theorem gd_mk(h:gx K mainGlobals x=some (some (.ref f)))(lk:K.lookup f=some ⟨oc,od,.func (dq x x (rY st) (ph st) (oP st) .none kV doc pm an cdv ct),osl⟩)(hc:fF K cdv x=true)(kp:c4 K (.ref f)=true):GD K x st:=⟨f,(N2 lk hc kp).imp λ_ F=>⟨h,F⟩⟩
theorem gm_mk(h:cy K (.ref C) m=some (some (.ref f)))(hf:W.isFn K (.ref f)=true)(lk:K.lookup f=some ⟨oc,od,.func (dq m q (rY st) (ph st) (oP st) .none kV doc pm an cdv ct),osl⟩)(hc:fF K cdv q=true)(kp:c4 K (.ref f)=true):GM K C m q st:=⟨f,(N2 lk hc kp).imp λ_ F=>⟨h,hf,F⟩⟩
end
theorem all_mk{l:fG}{w:az}{K:au}{h:Heap}{mg:Str->Option aa}{fa:Addr}(X:K.In h)(Gn:h.Ns mainGlobals mg)(hfa:mg "law" = some (.ref fa)){C0 C1 C2 C3 C4 C5 C6 C7 C8 C9 C10 C11 C12 C13 C14 C15:Addr}(F:Fx K C0 C1 C2 C3 C4 C5 C6 C7 C8 C9 C10 C11 C12 C13 C14 C15):
  ∃fd:bM,(∀(s:af) (v:aa),fH s fd ⟨[v],[]⟩ [("_law_script", v)])/\∀base:Heap,K.In base->base.Ns mainGlobals mg->sH l.prog w K mg base CX0 17 fa fd ["_law_script"] (JK K):=by
 have gen:∃B:Bg,B.K=K/\B.ca 0=C0/\B.ca 1=C1/\B.ca 2=C2/\B.ca 3=C3/\B.ca 4=C4/\B.ca 5=C5/\B.ca 6=C6/\B.ca 7=C7/\B.ca 8=C8/\B.ca 9=C9/\B.ca 10=C10/\B.ca 11=C11/\B.ca 12=C12/\B.ca 13=C13/\B.ca 14=C14/\B.ca 15=C15:=⟨⟨K,λc=>[C0,C1,C2,C3,C4,C5,C6,C7,C8,C9,C10,C11,C12,C13,C14,C15].getD c 0⟩,rfl,rfl,rfl,rfl,rfl,rfl,rfl,rfl,rfl,rfl,rfl,rfl,rfl,rfl,rfl,rfl,rfl⟩;obtain⟨B,rfl,rfl,rfl,rfl,rfl,rfl,rfl,rfl,rfl,rfl,rfl,rfl,rfl,rfl,rfl,rfl,rfl⟩:=gen;have Z:∀base,Yx ⟨l.prog,w,mg,base,B⟩:=λbase=>⟨⟨h,X,Gn⟩,F⟩;obtain⟨f,fd,a,FF⟩:=F.q134;have e:=hfa.symm.trans (iV X Gn a);cases e;obtain⟨oc,od,kV,doc,pm,an,cdv,ct,osl,rfl,lk,hcd⟩:=FF.ex;exact⟨_,λs v=>.of_eq rfl,λbase _ _=>(Mg rfl rfl rfl FF (okk (N:=nmO (top 164)) (ps:=["_law_script"]) (np:=1) (n:=12) (by kernel_rfl)).1 ((@N1 _ (Z base)).ok rfl _)).imp (QD (G:=B))⟩
theorem walk{l:fG}{q:aE}{loose:aC}{XP:(Str->Option aa)->Heap->Prop}{YP:az->Heap->Prop}{d:DefRec}{K:gv->au}(hn:l.most=some 63)(hdf:d.params.defaults=[])
  (hY:∀(w:az) (h:Heap),YP w h->(K w.params).In h)
  (F:∀(w:az) (mg:Str->Option aa) (fa:Addr) (h:Heap),(K w.params).In h->h.Ns mainGlobals mg->mg d.name=some (.ref fa)->
   ∃fd:bM,(∀(s:af) (u:aa),fH s fd ⟨[u],[]⟩ [("_law_script", u)])/\∀base:Heap,(K w.params).In base->base.Ns mainGlobals mg->sH l.prog w (K w.params) mg base CX0 17 fa fd ["_law_script"] (JK (K w.params))):
  W.WalkO q loose XP YP l.row.toRowW d [] (λf vs=>ko f vs):=
 L2.OB (n:=63) (k:=17) (x:="_law_script") (CX:=λ_=>CX0) (sp:=λw=>JK (K w.params)) hn (by decide) hdf ⟨rfl,by decide,by decide⟩ hY F (λ_ _ a ns hl _ hS=>⟨a,ns,rfl,hS,hl,λ_=>rfl⟩) λ_ _ _ _ _ z=>z
end K21x
set_option maxHeartbeats 0
open PySem PySem.W PyProof.Rows
theorem PySem.Challenge.cw_tellworld_k21_tests_hold_holds : PySem.Challenge.rw_tellworld_k21_tests_hold.Holds := by
 refine hd ?_
 k_fill
 refine K21x.walk (l:=PySem.Challenge.rw_tellworld_k21_tests_hold) rfl rfl (λw h Y=>Y) ?F
 case F=>
  intro w mg fa h KX G hmg;refine' K21x.all_mk KX G hmg ?Q
  case Q=>
   constructor
   all_goals first
   |k_is
   |kernel_rfl
   |exact⟨⟨⟨by k_is,by k_is,by k_is,by k_is⟩,by k_is,by k_is,by k_is,by k_is⟩,by k_is,by k_is,by kernel_rfl⟩
   |exact⟨_,by k_is⟩
   |exact K21x.gd_mk (by k_is) (by k_is) (by k_is) (by k_is)
   |exact K21x.gm_mk (by k_is) (by k_is) (by k_is) (by k_is) (by k_is)
   |exact⟨_,_,_,_,by k_is,by k_is,by rfl,by rfl,by simp,by repeat' first|exact .nil|exact .cons rfl .nil|refine .cons rfl ?_⟩
   |exact⟨_,_,_,_,[_],_,by k_is,by k_is,⟨⟨_,_,_,_,_,_,_,_,_,rfl,by k_is,by k_is⟩,by k_is⟩,by k_is,by rfl,.cons (by first|rfl|exact⟨_,rfl⟩) .nil⟩
   |exact⟨_,_,_,_,[_,_,_],_,by k_is,by k_is,⟨⟨_,_,_,_,_,_,_,_,_,rfl,by k_is,by k_is⟩,by k_is⟩,by k_is,by rfl,.cons (by first|rfl|exact⟨_,rfl⟩) (.cons (by first|rfl|exact⟨_,rfl⟩) (.cons (by first|rfl|exact⟨_,rfl⟩) .nil))⟩
end
