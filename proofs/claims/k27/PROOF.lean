import PyProof.Rows.All
import Open.Pieces
import OpenK.KLine
import PySem.Challenge.RW_tellworld_k27_reads_and_changes_of_deeds
import Wide.All
import OpenK.AllK
import Wide.FinOn
import PyProof.EqAt
import PyProof.EqKinds
import PyProof.TupleCall
import PyProof.StrWalks
import PyProof.ConsumeWalk
import PyProof.NeKinds
import PyProof.Rows.SetFrom
import KE.KIsAll
import PyProof.WalksMore
import PyProof.TupleKey
import PyProof.DictWalks
import PyProof.Rows.ZipGen
import KE.KDictLaws
import PyProof.DictItems
import KE.KSortTup
import PyProof.TupleOfSeq
import PyProof.Rows.SortStr
import PyProof.Rows.StrInSeq3
import PyProof.TupleIter
import KE.KDictOf
import PyProof.CollectWalk
set_option compiler.extract_closed false
noncomputable section
open List renaming length_map->ah,getElem?_eq_getElem->az,length_append->aB,map_cons->au,length_cons->aC,size_toArray->aI,mem_singleton->aO,getElem?_map->aK,mem_cons->aD,mem_cons_self->aQ,getD_eq_getElem?_getD->bc,mem_cons_of_mem->aX,length_singleton->aZ,getElem?_eq_some_iff->bx,map_append->aS,all_eq_true->aV,range->aF,map_map->aJ,append_nil->aU,mem_map->aM,append_assoc->ba,mem_of_getElem?->bz,length_take->bf,getElem?_set->br,length_replicate->bJ,mem_range->bb,mem_append_right->bM,nil_append->bB,nodup_append->bC,mem_map_of_mem->bN,mem_append_left->bW,getElem?_append_right->cD,not_mem_nil->bD,getElem?_append_left->cE,mem_filter->bE,length_range->bO,getElem_mem->bP,mem_append->bX,length_drop->cg,filterMap_cons->cI,length->bG,nodup_cons->cq,map_nil->bS,getElem?_drop->cW,zip_cons_cons->cX,exists_cons_of_ne_nil->eV,length_pos_iff->dq,getElem?_eq_none->dR,lookup_cons->cZ,getElem?_replicate->eX,find?_cons->c4,length_set->c5,zipWith->cx,zipWith_cons_cons->eY,lookup->cj,any_eq_true->dt,perm_append_singleton->fV,pairwise_iff_getElem->fW,take_sublist->dW,getElem_of_mem->fj,replicate->dw,getElem?_set_self->fZ,length_nil->eA,length_zip->eC,any_cons->dB,length_filter_le->f9,filter_cons->fz,drop_eq_getElem_cons->gX,all_cons->eF,map_drop->eG,map_take->eI,length_eq_zero_iff->hE,any_eq_false->gd,take_of_length_le->hG,nodup_nil->fE,getElem?_toArray->hJ,contains_iff_mem->hU,getElem_inj->gn,perm_middle->gu,getElem?_set_ne->hX,mem_iff_getElem->hZ,of_mem_zip->gz,countP_eq_length_filter->jL,length_zipWith->ic,filter_eq_self->ie,mergeSort_perm->ig,toArray->fK,mem_filterMap->ik,getLastD_eq_getLast?->jQ,ext_getElem?->iy,getElem?_cons_succ->jT,nodup_range->iJ,getElem_map->iK,drop_eq_nil_of_le->jV,foldl_cons->iQ,getElem?_zipWith->jZ,filterMap_append->j7,take_append_drop->ka,mem_of_mem_drop->kh,length_eraseIdx->kl,getElem?_range->ko,zip_map'->jh,contains_cons->kC,append_of_mem->kG,map_filterMap->kH,take_add_one->kN,pairwise_map->kP,map_fst_zip->lr,le_antisymm->lu,map_id->jz,zip_append->lE,drop_nil->lS,all_map->lV,map->jK
open PySem renaming wpAny_bind->ae,Value->aa,Shared->ab,wpAny_pure->ao,Program->aq,Around->ar,World->ak,sizeLine_eq->aT,wpAny_truthy_bool->cb,wpAny_setState_of->cc,Spec->mh,wpAny_mono->bw,wpAny_Call_Name_kw->cK,wpAny_holding->bY,codeAny_builtin->cu,FuncData->bg,SetTable->bj,wpAny_newObj_type->dr,wpAny_passesOwn->dv,mem_of_lookup->fi,wpAny_call_entry->eh,tupleKind_room_in1->fm,plainId_quiet->dD,wpAny_pyIter_list->fo,wpAny_setField->eE,filterMap_getElem?_range->gZ,Builtin->bU,wpAny_updateSeq->fA,codeAny_mono->eL,NameKind->cz,isSubtype_type->fD,wpAny_execs_nil->gw,wpAny_specialOf->gA,call_meetsIn->fI,wpAny_typeOf->fJ,wpAny_Call_method->iz,Paired->dJ,wpAny_newList->gB,GenState->dM,wpAny_forIn_list->iG,wpAny_askSetting->iH,wpAny_isInstance->iM,Keyword->df,Scope->bV,wpAny_isTrue_Compare1->jY,wpAny_eqIsQuiet_tuple->j6,builtinLookup_eq_fast->j8,Result->cQ,wpAny_seqItems->iW,wpAny_runValue->iX,codeAny_extend_loopS->kj,wpAny_pyIter_tuple->kA,call_meets->gO,Within->ji,BindsTo->eS,slot_list_getitem->kJ,wpAny_pyIter_dict->kO,wpAny_storeSet_of->kW,wpAny_pyIter_slot->kZ,wpAny_setEpoch_of->la,PassesOwn->gR,wpAny_Name->jA,wpAny_load->jB,Operator->gS,wpAny_call->jC,PlainAttrs->jE,call->jF,boot_len->lL,CmpOp->dP,Fin->jI,Params->fS
open PySem.Heap renaming get?_push_of_some->av,lt_size->ay,get?_push_size->aP,get?_update_self->cG,size_push->bR,get?_update_other->di,SameBut->dF
open Nat renaming le_refl->aw,ne_of_lt->aE,le_of_ble_eq_true->bq,lt_of_lt_of_le->bA,zero_le->aY,lt_succ_self->cf,le_trans->bF,lt_succ_of_lt->cp,ne_of_gt->cM,lt_irrefl->c7,ble_eq->cy,min_eq_left->fC,le_succ->dG,le_of_lt->eJ,min_self->eM,ble->cB,succ_pos->fM,lt_of_le_of_lt->ir,mod_lt->eO,lt_trichotomy->iC,le_add_right->iI,zero_add->gE,add_right_comm->kr,le_of_eq->jj,sub_self->jm,le_of_lt_succ->kR,le_of_succ_le->lb,le_of_not_lt->lq,not_lt_zero->lI,beq->fP
open Bool renaming and_eq_true->aL,false_ne_true->aR,eq_iff_iff->c3,false_eq_true->dS,not_eq_true'->dX,eq_false_iff->gf,or_eq_false_iff->ib,or_eq_true->iP,and_false->iV,not_eq_true->ly,false_and->lK,not_true->lR,rec->jJ
open Array renaming length_toList->aW,getElem?_eq_getElem->cR,getD_eq_getD_getElem?->dh,getElem?_toList->dj,getElem?_eq_some_iff->jN,perm_iff_toList_perm->jO,size_eq_one_iff->j9,forIn_toList->kE,toList_push->kX,replicate->lG,size_map->lN,toList->lU
open PySem.W renaming Frag->aj,kia_one->bL,emptyDict->cN,kas_descPart->c9,kitOne->bZ,findIn->ck,kas_count->cO,instObj->dc,kas_asc->cn,callWith_K->fH,kas_rev->cA,kas_tail3->dH,keepIn->dN,kas_place->eQ,kas_sort->dO,kas_desc->eR,plainGet_of->je,plainGet->gH,OpenLaw->fN,cellsFrom_some->lh,methodObj->js,hasDictIn->jt,kitx_list->ju,kitx_dict->jv,methodCall_KW->lD,lookIn->gU,fnOf->eU,takerIn->jH,kas_ask->gV,mg_of->gW
open Prod renaming fst->aG,snd->bp
open Int renaming eq_ofNat_of_zero_le->b0,toNat_natCast->fq,emod_lt_of_pos->iw,emod_nonneg->iU
open PySem.SetTable.layClean renaming free->cF
open Option.some renaming inj->bQ
open PySem.Around renaming under_plainId->cH,under->jk
open PySem.SetTable renaming bits->bK,below->cv,runEnd->c6,insertAt->dY,Probe->dA,turns->eD,fits->fG,advance->iN,insertAt_perm->jX,grown->jc,fill->jg,layClean->kU,laid->lT,has->lW
open PySem.Heap.SameBut renaming update->cJ
open PySem.Calls renaming spliced_cons->cU,spliced_nil->dU,callWith_builtin->f6,evalArgs_plain->gb,call_function_entry->gY,Name_function_global->jM
open PySem.Obj renaming data_mapFields->cY,mapSeq->bH,mapFields->dE,isFreed_of_fields->f7,cls_mapFields->iE,putSet->jG
open PyProof.Rows.F renaming plain_set_update_loop->dQ,entry_set_update_loop->fY
open PySem.Builtin.List renaming listTooLong->eW,listExtendWith->fT,listLengthHint->fU,listSameRef->fX
open False renaming elim->bT
open Option renaming map_some->du,getD_some->iF,isSome_map->kK,getD_none->lp,map->l8
open PyProof.Rows renaming StrsAre->eZ,AllBare->cP,subscriptTail_builtinR->jU,entry_list_sort->iR,slot_list_sort->ja,args_list_sort->jb,listUpdate_at->jf,SortKind->fO,plain_sorted->jn,entry_sorted->jo,args_sorted1->jq,seqEpoch_at->jw,kind_sorted->jx,boot_sorted->jy,IntsAre->fQ,IsTup->dg,Subscript_->jD
open List.Sublist renaming refl->dZ
open PySem.F renaming called_set->c8,slot_dict_get->eB,plainAttrs_list->gh,plain_list_iadd->gm,entry_dict_get->gq,slot_list_append->ip,slot_list_extend->iq,plainAttrs_dict->iA,slot_dict_setdefault->jW,entry_proto_collect->j4,plain_proto_collect->j5,args_list_extend_2->kc,sub_list_frozenset->kg,entry_list_extend->km,plain_extend_loop->kq,args_tuple_add_2->kB,type_list_append->kF,entry_tuple_add->kI,args_dict_get_2->kL,args_dict_get_3->kM,entry_list_iadd->kQ,slot_tuple_add->lj,slot_list_pop->lA,type_dict_get->lC,plain_set_new->lF,slot_set_iter->lH
open Ne renaming symm->bI
open PySem.SetTable.probe renaming go->fw
open PySem.Shared renaming TypeIs->fF
open Nat.succ renaming inj->fL
open PySem.SeqAt.EqAt renaming str_str->il,of_refs->iu,same->iO,int_str->ku,str_int->kz
open Classical renaming byContradiction->jP
open PySem.AutoSeq1 renaming wpAny_loadPart'->jR
open List.Perm renaming eq_of_pairwise->jS,refl->iY
open LawfulBEq renaming eq_of_beq->eP
open Sum.inr renaming inj->gG
open PySem.Paired renaming length->jd,snoc->l3
open PySem.SeqAt renaming EqAt->gK
open PySem.Walks renaming list->gQ,dictKeys->lM
open PySem.Code renaming isFrame->jl
open PySem.SetTable.below renaming go->kY
open PySem.Str renaming ofString->jr
open List.Pairwise renaming map->lg
open PySem.Builtin.Frozenset renaming updateFrom->l9,newClass->ma,sizeOf->md,slot0->me
open PySem.PassesOwn renaming never->lJ
open PySem.Txt renaming mul->fR
open PySem.Value renaming isStrOf->lQ,isInt->lZ
open PySem.pickOrder renaming go->lX
open Prod.mk renaming inj->lY
open PySem.Moved renaming trans->l4
open PySem.ItemsOf renaming nil->l5
open PySem.Heap.IsSliceOf renaming new->mf
open PySem.W.WShape renaming has->l6
def aA:=@decide_eq_false
def af:=@if_neg
def ag:=@if_pos
def aH:=@decide_eq_true
def ai:=@absurd
def bh:=@of_decide_eq_true
def bu:=@decide_eq_true_eq
def aN:=@congrArg
set_option Elab.async false
set_option linter.all false
namespace L5
open PySem PySem.W
noncomputable def pick(l:List Obj):Nat->List Addr->List Obj:=
 @List.rec Obj (λ_=>Nat->List Addr->List Obj) (λ_ _=>[])
  (λo _ ih i as=>@List.rec Addr (λ_=>List Obj) [] (λa r _=>@jJ (λ_=>List Obj) (ih (Nat.succ i) as) (o::ih (Nat.succ i) r) (fP a i)) as) l
theorem Ip(i:Nat)(as:List Addr):pick [] i as=[]:=rfl
theorem Lr(o:Obj)(l:List Obj)(i:Nat)(r:List Addr):pick (o::l) i (i::r)=o::pick l (i+1) r:=by show @jJ (λ_=>List Obj) _ _ (fP i i)=_;rw[Nat.beq_refl];rfl
theorem Ls(o:Obj)(l:List Obj)(i a:Nat)(r:List Addr)(h:a≠i):pick (o::l) i (a::r)=pick l (i+1) (a::r):=by
 show @jJ (λ_=>List Obj) _ _ (fP a i)=_;have:fP a i=false:=by
  cases q:fP a i with
  |false=>rfl
  |true=>exact ai (Nat.eq_of_beq_eq_true q) h
 rw[this];rfl
theorem BO:∀(l:List Obj) (i:Nat) (as:List Addr),(pick l i as).length=as.length->∀j (hj:j<as.length),∃b,as[j]=i+b/\l[b]?=(pick l i as)[j]?
 |[],i,as,h,j,hj=>by rw[Ip]at h;simp at h;omega
 |o::l,i,[],h,j,hj=>by simp at hj
 |o::l,i,a::r,h,j,hj=>by
  by_cases q:a=i
  ·subst q;rw[Lr]at h ⊢;cases j with
   |zero=>exact⟨0,rfl,rfl⟩
   |succ j=>obtain⟨b,e1,e2⟩:=BO l (a+1) r (by simpa using h) j (by simpa using hj);exact⟨b+1,by rw[List.getElem_cons_succ,e1];exact kr a 1 b,by simpa using e2⟩
  ·rw[Ls _ _ _ _ _ q]at h ⊢;obtain⟨b,e1,e2⟩:=BO l (i+1) (a::r) h j hj;exact⟨b+1,by rw[e1];exact kr i 1 b,by simpa using e2⟩
def live(o:Obj):Bool:=match o with|⟨_,_,.freed,_⟩=>false|_=>true
theorem Lu{h:Heap}{as:List Addr}{K:Frag}(e:as=K.map (·.1))(x:(pick h.objs.toList 0 as,K.all λp=>live p.2)=(K.map (·.2),true)):K.In h:=by
 obtain⟨x1,x2⟩:=lY x;refine Frag.in_of e (iy λj=>?_);rw[aK,aK];by_cases hj:j<as.length
 ·have hl:(pick h.objs.toList 0 as).length=as.length:=by rw[x1,e,ah,ah]
  obtain⟨b,e1,e2⟩:=BO _ _ _ hl j hj;have hk:j<K.length:=by rw[e,ah]at hj;exact hj
  rw[az hj,az hk,du,du,e1,gE];have e3:h.objs[b]?=some (K[j].2):=by rw[<-dj,e2,x1,aK,az hk];rfl
  have lv:live K[j].2=true:=aV.mp x2 _ (bP hk);refine aN some ?_;unfold Heap.get?;rw[e3];revert lv;cases K[j].2 with
  |mk c d data sl=>cases data<;>intro lv<;>first|rfl|cases lv
 ·rw[dR (by omega),dR (by rw[e,ah]at hj;omega)];rfl
noncomputable def SH(K:fS->Frag) (as:List Addr) (e:∀P,as=(K P).map (·.1)):Hook:=
 ⟨List Obj×Bool,λs=>(pick s.heap.objs.toList 0 as,true),λw=>((K w.params).map (·.2),(K w.params).all λp=>live p.2),InK K,λw s x=>Lu (e w.params) (by
  obtain⟨x1,x2⟩:=lY x;rw[x1,<- x2]),InK.keeps⟩
end L5
section
open PySem PySem.W PyProof.Rows
local macro_rules|`(tactic|o_head ($f:ident $k $as $e))=>`(tactic|o_head ((L5.SH $k $as (fun _=>by kernel_rfl)):W.Hook))
local macro_rules|`(command|#where)=>do
 let mut r:=#[]
 for n in [43:1653] do
  let x:=Lean.mkIdent (.mkSimple s!"tw{((Lean.Name.mkSimple "hd").str s!"o_{n}").hash}")
  r:=r.push (<-`(command|noncomputable def $x:ident:=0))
 return Lean.mkNullNode r
noncomputable section
namespace PySem.W.Fast
def tw12024198038851642171:=0
def tw7542435708000544768:=0
def tw11334784238850759136:=0
def tw1484588488312774368:=0
def tw11233446548474340610:=0
def tw8679585132457308998:=0
def tw11521511281804667912:=0
def tw10374632558016547081:=0
def tw7853718676959766473:=0
def tw4048899139995576714:=0
def tw16537210909293163114:=0
def tw229164427083005643:=0
def tw938635154573522699:=0
def tw1464999790828575500:=0
def tw7774113678449685934:=0
def tw13587151598080963022:=0
def tw9126519310905630191:=0
def tw15947236926005255087:=0
def tw1746271305761443856:=0
def tw12426398369217548784:=0
def tw269370726342824818:=0
def tw861502493610598483:=0
def tw7155359931933253843:=0
def tw2591226369968008212:=0
def tw6344153461787385748:=0
def tw9300808954929066293:=0
def tw12160025435428692662:=0
def tw14174926179415627322:=0
def tw16280658162054754363:=0
def tw4142209100229140859:=0
def tw17282282480888754619:=0
def tw12594988378385778876:=0
def tw5232775305885696284:=0
def tw13192593203697643614:=0
def tw3904847129793340159:=0
def tw13865323600775035743:=0
def tw848643042161801087:=0
def tw15022549315589499887:=0
def tw4438828346075439977:=0
def tw11696348799270901333:=0
def tw11940728393700223563:=0
def tw17893444211719779076:=0
def tw6671212696848532392:=0
def tw7030352065609791462:=0
def tw8997383693586321770:=0
def tw6784737039638806343:=0
def tw10833825939047706337:=0
def tw4653942425971038394:=0
def tw12155474939609683736:=0
def tw16629204123399850450:=0
def tw4984954101795155761:=0
#where
end PySem.W.Fast
end
set_option maxRecDepth 100000 in
set_option maxHeartbeats 0 in
open_top hd for PySem.Challenge.rw_tellworld_k27_reads_and_changes_of_deeds
end
set_option maxRecDepth 100000
namespace L2
open PySem PySem.Spec PyProof.Rows
abbrev Key:=Sum Int Str
def A2:Key->aa->Bool
 |.inl k,v=>lZ k v
 |.inr x,v=>lQ x v
def UC(w:ak):Key->Int
 |.inl k=>hashInt k
 |.inr x=>hashStr w x
theorem nV:∀{k:Key} {v:aa},A2 k v=true->(∃i t,k=Sum.inl i/\v=Value.int i t)\/(∃x t,k=Sum.inr x/\v=Value.str x t)
 |.inl i,v,h=>by obtain⟨t,e⟩:=Value.isInt_shape (k:=i) (v:=v) h;exact .inl ⟨i,t,rfl,e⟩
 |.inr x,v,h=>by obtain⟨t,e⟩:=Value.isStrOf_shape (x:=x) (v:=v) h;exact .inr ⟨x,t,rfl,e⟩
theorem GT(i:Int)(t:Tok):A2 (.inl i) (.int i t)=true:=by simp[A2,lZ]
theorem GU(x:Str)(t:Tok):A2 (.inr x) (.str x t)=true:=by simp[A2,lQ]
theorem Ow(a b:Int):decide ((Sum.inl a:Key)=Sum.inl b)=(a==b):=by
 by_cases e:a=b
 ·subst e;simp
 ·have h:¬(Sum.inl a:Key)=Sum.inl b:=λq=>e (Sum.inl.inj q);rw[aA h];exact(beq_eq_false_iff_ne.mpr e).symm
theorem Ox(a b:Str):decide ((Sum.inr a:Key)=Sum.inr b)=decide (a=b):=by
 by_cases e:a=b
 ·subst e;simp
 ·have h:¬(Sum.inr a:Key)=Sum.inr b:=λq=>e (gG q);rw[aA h,aA e]
theorem Oy(a:Int)(b:Str):decide ((Sum.inl a:Key)=Sum.inr b)=false:=aA (λq=>nomatch q)
theorem Oz(a:Str)(b:Int):decide ((Sum.inr a:Key)=Sum.inl b)=false:=aA (λq=>nomatch q)
def mN(prog:aq)(w:ak):PySem.KeyKind prog w Key where
 is:=A2
 hash:=UC w
 inj:=λv a b ha hb=>by
  rcases nV ha with ⟨i,t,rfl,rfl⟩|⟨x,t,rfl,rfl⟩
  ·rcases nV hb with ⟨j,u,rfl,e⟩|⟨y,u,rfl,e⟩
   ·injection e with e1 _;rw[e1]
   ·exact nomatch e
  ·rcases nV hb with ⟨j,u,rfl,e⟩|⟨y,u,rfl,e⟩
   ·exact nomatch e
   ·injection e with e1 _;rw[e1]
 byValue:=λk v h=>by rcases nV h with ⟨i,t,rfl,rfl⟩|⟨x,t,rfl,rfl⟩<;>rfl
 pyHash:=λhv h=>by
  rcases nV hv with ⟨i,t,rfl,rfl⟩|⟨x,t,rfl,rfl⟩
  ·exact wpAny_pyHash_int h
  ·exact wpAny_pyHash_str h
 eqBool:=λhu hv h=>by
  rcases nV hu with ⟨i,t,rfl,rfl⟩|⟨x,t,rfl,rfl⟩
  ·rcases nV hv with ⟨j,u,rfl,rfl⟩|⟨y,u,rfl,rfl⟩
   ·rw[Ow]at h;exact wpAny_eqBool_int h
   ·rw[Oy]at h;exact ku i t y u _ _ _ _ h
  ·rcases nV hv with ⟨j,u,rfl,rfl⟩|⟨y,u,rfl,rfl⟩
   ·rw[Oz]at h;exact kz x t j u _ _ _ _ h
   ·rw[Ox]at h;exact wpAny_eqBool_str h
 «strs»:=λk x t v h=>by
  rcases nV h with ⟨i,u,rfl,e⟩|⟨y,u,rfl,e⟩
  ·exact nomatch e
  ·injection e with e1 _;subst e1;cases v<;>rfl
theorem CT(prog:aq)(w:ak)(i:Int)(t:Tok):(mN prog w).is (.inl i) (.int i t)=true:=GT i t
theorem CU(prog:aq)(w:ak)(x:Str)(t:Tok):(mN prog w).is (.inr x) (.str x t)=true:=GU x t
inductive V where
 |non|bl (b:Bool)|int (i:Int)|str (x:Str)|byt (b:Array UInt8)|flt (b:UInt64)|ref (a:Addr)|ty (n:String)
 deriving DecidableEq
def RelV:V->aa->Prop
 |.non,u=>u=Value.none
 |.bl b,u=>u=Value.bool b
 |.int i,u=>∃t,u=Value.int i t
 |.str x,u=>∃t,u=Value.str x t
 |.byt b,u=>∃t,u=Value.bytes b t
 |.flt b,u=>∃t,u=Value.float b t
 |.ref a,u=>u=Value.ref a
 |.ty n,u=>u=Value.type n
abbrev Vals:List V->List aa->Prop:=dJ RelV
variable{us:List aa}
theorem Vals.length{xs:List V}(r:Vals xs us):xs.length=us.length:=jd r
theorem Vals.get:∀{xs:List V} {us:List aa} {i:Nat} {x:V},Vals xs us->xs[i]?=some x->∃u,us[i]?=some u/\RelV x u
 |_,_,_,_,.nil,e=>by simp at e
 |_,_,0,_,.cons r _,e=>by simp at e;subst e;exact⟨_,rfl,r⟩
 |_,_,i+1,x,.cons _ t,e=>by obtain⟨u,h1,h2⟩:=Vals.get (i:=i) (x:=x) t (by simpa using e);exact⟨u,by simpa using h1,h2⟩
variable{u:aa}
theorem Vals.set{x:V}(r:RelV x u):∀{xs:List V} {us:List aa} (i:Nat),Vals xs us->Vals (xs.set i x) (us.set i u)
 |_,_,_,.nil=>.nil
 |_,_,0,.cons _ t=>.cons r t
 |_,_,i+1,.cons q t=>.cons q (Vals.set r i t)
theorem Vals.append:∀{xs ys:List V} {us ws:List aa},Vals xs us->Vals ys ws->Vals (xs++ys) (us++ws)
 |_,_,_,_,.nil,s=>s
 |_,_,_,_,.cons r t,s=>.cons r (Vals.append t s)
theorem Vals.take:∀{xs:List V} {us:List aa} (n:Nat),Vals xs us->Vals (xs.take n) (us.take n)
 |_,_,0,_=>.nil
 |_,_,_+1,.nil=>.nil
 |_,_,n+1,.cons r t=>.cons r (Vals.take n t)
theorem Vals.drop:∀{xs:List V} {us:List aa} (n:Nat),Vals xs us->Vals (xs.drop n) (us.drop n)
 |_,_,0,r=>r
 |_,_,_+1,.nil=>.nil
 |_,_,n+1,.cons _ t=>Vals.drop n t
def uK:Option V->Option aa->Prop
 |some v,some u=>RelV v u
 |none,none=>True
 |_,_=>False
def KV{κ:Type}:List (κ×V)->List (κ×aa)->Prop:=dJ λ(p:κ×V) (q:κ×aa)=>p.1=q.1/\RelV p.2 q.2
def kV:Key->V
 |.inl i=>.int i
 |.inr x=>.str x
inductive HO where
 |lst (xs:List V)
 |tup (xs:List V)
 |dK (kvs:List (Key×V))|dT (kvs:List (List Key×V))
 |set (S:Int->Bool) (n:Nat)
 |ins (C dx:Addr) (fs:List (Str×V))
 |own (x:Addr)
 |xd (fs:List (Str×V))
 |met (f x:Addr)
 |rng (lo hi:Int)
 |frz (o:Obj) (u:HO)
 |tbl (ps:Array aa)
 |ext (φ:Heap->Prop)
abbrev Hp:=Addr->Option HO
def upd(H:Hp)(a:Addr)(o:HO):Hp:=λb=>if b=a then some o else H b
variable{a:Addr}
theorem mF{H:Hp}{o:HO}:upd H a o a=some o:=by unfold upd;rw[ag rfl]
variable{b:Addr}
theorem mG{H:Hp}{o:HO}(h:b≠a):upd H a o b=H b:=by unfold upd;rw[af h]
theorem SI{H:Hp}{o u:HO}(h:H a=some o)(h':H b=some u)(d:o≠u):a≠b:=by intro e;subst e;rw[h]at h';exact d (bQ h')
theorem ph{H:Hp}{o:HO}(h:H a=some o)(h':H b=none):a≠b:=by intro e;subst e;rw[h]at h';cases h'
section
variable(P:aq)(w:ak)
def nS(H:Hp)(h:Heap)(a:Addr):HO->Prop
 |.lst xs=>xs.length<=sizeLine/\∃(its:List aa) (n:Nat),Vals xs its/\h.get? a=some { cls:=.type "list", data:=.seq its.toArray n }
 |.tup xs=>xs.length<=sizeLine/\∃its:List aa,Vals xs its/\dg h a its.toArray
 |.dK kvs=>kvs.length<=sizeLine/\(a==sysModules)=false/\∃vs,KV kvs vs/\h.DictOf (mN P w) a vs
 |.dT kvs=>kvs.length<=sizeLine/\(a==sysModules)=false/\∃xs:List (List Key×Addr×aa),
   dJ (λ(p:List Key×V) (q:List Key×Addr×aa)=>p.1=q.1/\H q.2.1=some (.tup (p.1.map kV))/\RelV p.2 q.2.2) kvs xs/\
   ∃o es ep,h.get? a=some o/\o.ExactDict/\o.data=.dict es ep/\es.toList=xs.map (entryOfKey (tupleKind (mN P w)))/\(xs.map (·.1)).Nodup
 |.set S n=>h.SetOf (intKind P w) a S n
 |.ins C dx fs=>H dx=some (.own a)/\fs.length<=1000/\dx≠a/\h.get? a=some (dc C dx)/\
   ∃mA,h.Ns1 dx mA/\(∀f,uK (fs.lookup f) (mA f))/\ji mA (fs.map (·.1))
 |.own _=>∃o,h.get? a=some o
 |.xd fs=>∃mA,h.Ns1 a mA/\∀f,uK (fs.lookup f) (mA f)
 |.rng lo hi=>∃t u v,h.get? a=some { cls:=.type "range", data:=.fields #[.int lo t,.int hi u,.int 1 v] }
 |.frz o u=>h.get? a=some o/\nS H h a u
 |.tbl ps=>h.get? a=some { cls:=.none,data:=.fields ps }
 |.met f x=>h.get? a=some (js (.ref f) (.ref x))
 |.ext φ=>φ h/\(∃o,h.get? a=some o)/\∀h1 h2:Heap,φ h1->(∀o,h1.get? a=some o->h2.get? a=some o)->φ h2
def HOk(H:Hp)(h:Heap):Prop:=∀a o,H a=some o->nS P w H h a o
end
section
variable{P:aq}{w:ak}{H H':Hp}{h h':Heap}{a:Addr}{o:HO}
theorem nS.lt(x:nS P w H h a o):a<h.objs.size:=by
 cases o with
 |lst xs=>obtain⟨_,_,_,_,e⟩:=x;exact ay e
 |tup xs=>obtain⟨_,_,_,p⟩:=x;exact p.lt
 |dK kvs=>obtain⟨_,_,_,_,o,_,_,e,_⟩:=x;exact ay e
 |dT kvs=>obtain⟨_,_,_,_,o,_,_,e,_⟩:=x;exact ay e
 |set S n=>obtain⟨o,_,_,_,e,_⟩:=x;exact ay e
 |ins C dx fs=>obtain⟨_,_,_,e,_⟩:=x;exact ay e
 |own y=>obtain⟨_,e⟩:=x;exact ay e
 |xd fs=>obtain⟨_,⟨_,_,_,e,_⟩,_⟩:=x;exact ay e
 |rng lo hi=>obtain⟨_,_,_,e⟩:=x;exact ay e
 |frz ob u=>obtain⟨e,_⟩:=x;exact ay e
 |tbl ps=>exact ay (show h.get? a=some _ from x)
 |met f y=>exact ay (show h.get? a=some _ from x)
 |ext φ=>obtain⟨_,⟨_,e⟩,_⟩:=x;exact ay e
theorem Paired.mapP{α β:Type}{F G:α->β->Prop}:∀{l₁:List α} {l₂:List β},dJ F l₁ l₂->(∀a b,F a b->G a b)->dJ G l₁ l₂
 |_,_,.nil,_=>.nil
 |_,_,.cons r t,f=>.cons (f _ _ r) (Paired.mapP t f)
theorem nS.stay(x:nS P w H h a o)(k:∀b u,(b=a\/H b=some (.own a))->h.get? b=some u->h'.get? b=some u)
  (ho:∀b,H b=some (.own a)->H' b=some (.own a)) (ht:∀b xs,H b=some (.tup xs)->H' b=some (.tup xs)):nS P w H' h' a o:=by
 induction o with
 |lst xs=>obtain⟨z,its,n,r,e⟩:=x;exact⟨z,its,n,r,k _ _ (.inl rfl) e⟩
 |tup xs=>obtain⟨z,its,r,ob,e,c⟩:=x;exact⟨z,its,r,ob,k _ _ (.inl rfl) e,c⟩
 |dK kvs=>obtain⟨z,y,vs,r,ob,es,ep,e,c⟩:=x;exact⟨z,y,vs,r,ob,es,ep,k _ _ (.inl rfl) e,c⟩
 |dT kvs=>obtain⟨z,y,xs,r,ob,es,ep,e,c⟩:=x;exact⟨z,y,xs,Paired.mapP r λp q z=>⟨z.1,ht _ _ z.2.1,z.2.2⟩,ob,es,ep,k _ _ (.inl rfl) e,c⟩
 |set S n=>obtain⟨ob,es,ep,t,e,c⟩:=x;exact⟨ob,es,ep,t,k _ _ (.inl rfl) e,c⟩
 |ins C dx fs=>obtain⟨d,z,ne,e,mA,⟨od,es,ep,e2,c⟩,r⟩:=x;exact⟨ho _ d,z,ne,k _ _ (.inl rfl) e,mA,⟨od,es,ep,k _ _ (.inr d) e2,c⟩,r⟩
 |own y=>obtain⟨ob,e⟩:=x;exact⟨ob,k _ _ (.inl rfl) e⟩
 |xd fs=>obtain⟨mA,⟨od,es,ep,e,c⟩,r⟩:=x;exact⟨mA,⟨od,es,ep,k _ _ (.inl rfl) e,c⟩,r⟩
 |rng lo hi=>obtain⟨t,u,v,e⟩:=x;exact⟨t,u,v,k _ _ (.inl rfl) e⟩
 |frz ob u ih=>obtain⟨e,q⟩:=x;exact⟨k _ _ (.inl rfl) e,ih q⟩
 |tbl ps=>have e:h.get? a=some { cls:=.none,data:=.fields ps }:=x;show h'.get? a=some { cls:=.none,data:=.fields ps };exact k a _ (.inl rfl) e
 |met f y=>have e:h.get? a=some (js (.ref f) (.ref y)):=x;show h'.get? a=some (js (.ref f) (.ref y));exact k a _ (.inl rfl) e
 |ext φ=>obtain⟨p,⟨o,e⟩,st⟩:=x;exact⟨st _ _ p λo q=>k _ _ (.inl rfl) q,⟨o,k _ _ (.inl rfl) e⟩,st⟩
theorem HOk.lt(x:HOk P w H h)(e:H a=some o):a<h.objs.size:=(x a o e).lt
theorem HOk.fresh(x:HOk P w H h)(e:h.objs.size<=a):H a=none:=by
 cases q:H a with
 |none=>rfl
 |some u=>exact ai (bA (x.lt q) e) (c7 _)
theorem HOk.kept(x:HOk P w H h)(k:∀b u,h.get? b=some u->h'.get? b=some u):HOk P w H h':=λa o e=>
 (x a o e).stay (λb u _ q=>k b u q) (λ_ q=>q) λ_ _ q=>q
theorem HOk.laid(x:HOk P w H h)(k:∀b u,h.get? b=some u->h'.get? b=some u)(hp:h.objs.size<=a)(new:nS P w (upd H a o) h' a o):HOk P w (upd H a o) h':=λb u e=>by
 have hn:=x.fresh hp;by_cases hb:b=a
 ·subst hb;rw[mF]at e;cases e;exact new
 ·rw[mG hb]at e;exact(x b u e).stay (λc v _ q=>k c v q) (λc q=>by rw[mG (ph q hn)];exact q) λc xs q=>by rw[mG (ph q hn)];exact q
end
def Rd(H:Hp)(a:Addr)(u:HO):Prop:=H a=some u\/∃o,H a=some (.frz o u)
theorem Rd.ok{P:aq}{w:ak}{H:Hp}{h:Heap}{u:HO}(r:Rd H a u)(x:HOk P w H h):nS P w H h a u:=by
 rcases r with r|⟨o,r⟩
 ·exact x a u r
 ·obtain⟨_,q⟩:=x a _ r;exact q
def Mut:Option HO->Prop
 |some (.lst _)=>True
 |some (.dK _)=>True
 |some (.dT _)=>True
 |some (.set _ _)=>True
 |some (.ins _ _ _)=>True
 |some (.ext _)=>True
 |_=>False
section
variable{P:aq}{w:ak}{H:Hp}{h h':Heap}{x e:Addr}{o':HO}
theorem HOk.write(ok:HOk P w H h)(mu:Mut (H x))(he:e=x\/H e=some (.own x))(k:∀b u,b≠e->h.get? b=some u->h'.get? b=some u)(heo:∃u,h'.get? e=some u)
  (new:nS P w (upd H x o') h' x o'):HOk P w (upd H x o') h':=λb u q=>by
 have nown:∀c y,H c=some (.own y)->c≠x:=λc y r z=>by subst z;rw[r]at mu;exact mu
 have ntup:∀c xs,H c=some (.tup xs)->c≠x:=λc xs r z=>by subst z;rw[r]at mu;exact mu
 by_cases hb:b=x
 ·subst hb;rw[mF]at q;cases q;exact new
 ·rw[mG hb]at q;by_cases hbe:b=e
  ·have q':H b=some (.own x):=by
    rcases he with z|z
    ·exact ai (hbe.trans z) hb
    ·rw[hbe];exact z
   rw[q]at q';cases q';obtain⟨v,hv⟩:=heo;exact⟨v,by rw[hbe];exact hv⟩
  ·refine(ok b u q).stay (λc v hc r=>k c v ?_ r) (λc r=>by rw[mG (nown c b r)];exact r) λc xs r=>by rw[mG (ntup c xs r)];exact r
   rcases hc with rfl|hc
   ·exact hbe
   ·rintro rfl;rcases he with z|z
    ·exact nown c b hc z
    ·rw[hc]at z;cases z;exact hb rfl
end
structure Un(fs ex:List Addr)(H H':Hp)(h h':Heap):Prop where
 keep:∀b o,h.get? b=some o->H b=none->b∉fs->b∉ex->h'.get? b=some o
 slot:∀b o,h.get? b=some o->H b=none->b∈fs->b∉ex->∃sl,h'.get? b=some { o with slots:=sl }
 free:∀b o,h.get? b=some o->H b=none->b∉ex->H' b=none
 there:∀b o,h.get? b=some o->b∉ex->∃o',h'.get? b=some o'
 tups:∀b xs,H b=some (.tup xs)->H' b=some (.tup xs)
 frzs:∀b o u,H b=some (.frz o u)->H' b=some (.frz o u)
 tbls:∀b ps,H b=some (.tbl ps)->∃more,H' b=some (.tbl (ps++more))
section
variable{fs fs' ex ex':List Addr}{H H1 H2:Hp}{h h1 h2 h':Heap}{a x e:Addr}{o:HO}
theorem Un.any(u:Un fs ex H H1 h h1){ob:Obj}(q:h.get? b=some ob)(n:H b=none)(hx:b∉ex):∃sl,h1.get? b=some { ob with slots:=sl }:=by
 by_cases hb:b∈fs
 ·exact u.slot b ob q n hb hx
 ·exact⟨ob.slots,u.keep b ob q n hb hx⟩
theorem Un.kept(k:∀b u,h.get? b=some u->h'.get? b=some u):Un fs ex H H h h':=
 ⟨λb ob q _ _ _=>k b ob q,λb ob q _ _ _=>⟨ob.slots,k b ob q⟩,λ_ _ _ n _=>n,λb ob q _=>⟨ob,k b ob q⟩,λ_ _ q=>q,λ_ _ _ q=>q,λ_ ps q=>⟨#[],by rw[q];simp⟩⟩
theorem Un.refl:Un fs ex H H h h:=Un.kept λ_ _ q=>q
theorem Un.laid(k:∀b u,h.get? b=some u->h'.get? b=some u)(hp:h.objs.size<=a)(hn:H a=none):Un fs ex H (upd H a o) h h' where
 keep:=λb u q _ _ _=>k b u q
 slot:=λb u q _ _ _=>⟨u.slots,k b u q⟩
 free:=λb u q n _=>by rw[mG (aE (bA (ay q) hp))];exact n
 there:=λb u q _=>⟨u,k b u q⟩
 tups:=λb xs q=>by rw[mG (ph q hn)];exact q
 frzs:=λb u xs q=>by rw[mG (ph q hn)];exact q
 tbls:=λb ps q=>⟨#[],by rw[mG (ph q hn),q];simp⟩
theorem Un.write(mu:Mut (H x))(he:e=x\/H e=some (.own x))(k:∀b u,b≠e->h.get? b=some u->h'.get? b=some u)(heo:∃u,h'.get? e=some u):Un fs ex H (upd H x o) h h':=by
 have hx:∀b,H b=none->b≠x:=λb n z=>by subst z;rw[n]at mu;exact mu
 have hb:∀b,H b=none->b≠e:=λb n z=>by
  subst z;rcases he with r|r
  ·exact hx b n r
  ·rw[n]at r;cases r
 have hm:∀b u,H b=some u->¬Mut (some u)->b≠x:=λb u q nm z=>by subst z;rw[q]at mu;exact nm mu
 refine⟨λb u q n _ _=>k b u (hb b n) q,λb u q n _ _=>⟨u.slots,k b u (hb b n) q⟩,λb u q n _=>by rw[mG (hx b n)];exact n,λb u q _=>?_,
  λb xs q=>by rw[mG (hm b _ q λz=>z)];exact q,λb u xs q=>by rw[mG (hm b _ q λz=>z)];exact q,λb ps q=>⟨#[],by rw[mG (hm b _ q λz=>z),q];simp⟩⟩
 by_cases hbe:b=e
 ·subst hbe;exact heo
 ·exact⟨u,k b u hbe q⟩
end
def trk(h:Heap)(H:Hp):List Addr:=(aF h.objs.size).filter λa=>(H a).isSome
def BP(h:Heap)(H:Hp):Heap:=W.hideAll h (trk h H)
theorem GV(h:Heap)(H:Hp):(BP h H).objs.size=h.objs.size:=W.hideAll_size _ _
theorem Iq{h:Heap}{H:Hp}{o:Obj}(e:h.get? b=some o)(n:H b=none):(BP h H).get? b=some o:=
 W.hideAll_get _ e λhm=>by have q:(H b).isSome=true:=(bE.mp hm).2;rw[n]at q;simp at q
theorem Lv{h:Heap}{H:Hp}{o:Obj}(e:(BP h H).get? b=some o):h.get? b=some o/\H b=none:=by
 have e':h.get? b=some o:=W.of_hideAll (trk h H) e;refine⟨e',?_⟩;cases q:H b with
 |none=>rfl
 |some x=>have hm:b∈trk h H:=bE.mpr ⟨bb.mpr (ay e'),by simp[q]⟩;have z:(BP h H).get? b=none:=W.hideAll_none (trk h H) hm;rw[z]at e;cases e
def Lw(g h:Heap)(L:Addr):List (Addr×Obj):=(aF h.objs.size).filterMap λa=>if a=L\/(g.get? a).isSome=true then none else (h.get? a).map λo=>(a,o)
def rest(g h:Heap)(L d:Addr):List (Addr×Obj):=(Lw g h L).filter λp=>decide (p.1≠d)
structure Mod(K:aj)(mg:Str->Option aa)(base:Heap):Prop where
 kin:K.In base
 glob:base.Ns mainGlobals mg
 blt:∃mb,base.Ns builtinsNs mb/\∀x:Str,x≠"__name__" -> mb x=bootBuiltins x
 nolimit:base.NoLimit
structure Cx where
 prog:aq
 w:ak
 K:aj
 mg:Str->Option aa
 base:Heap
 A:ar
 N:List Str
 s₀:ab
 H₀:Hp
 env:Env
 outer:List Env
 stack:List Env
 ex:List Addr
 fn:Str->Bool
 calm:Bool
 pn:List (Addr×Obj)
 xe:aa->ab->Prop
def frs(l:List Env):List Addr:=l.filterMap (·.frame)
abbrev Cx.fs(X:Cx):List Addr:=frs X.outer
def Vis(sc:bV)(x:Str):Prop:=sc.names.lookup x=some .local\/sc.names.lookup x=some .cell\/sc.names.lookup x=some .free
def Loc(sc:bV)(x:Str):Prop:=sc.names.lookup x=some .local\/sc.names.lookup x=some .cell
def Look(env:Env)(h:Heap)(m:Str->Option aa)(x:Str)(u:aa):Prop:=
 (env.kindOf x=some .local/\m x=some u)\/((env.kindOf x=some .cell\/env.kindOf x=some .free)/\∃c,env.cells.lookup x=some c/\h.IsCell c (some u))
structure Cx.Ok(X:Cx):Prop where
 mod:Mod X.K X.mg X.base
 kind:X.env.scope.kind=.function
 glob:X.env.globals=mainGlobals
 blt:X.env.builtins=builtinsNs
 above:X.s₀.heap.objs.size<=X.env.locals
 inj:∀x y c,X.env.cells.lookup x=some c->X.env.cells.lookup y=some c->x=y
 has:∀x,(X.env.kindOf x=some .cell\/X.env.kindOf x=some .free)->∃c,X.env.cells.lookup x=some c
 cab:∀x c,X.fn x=true->X.env.cells.lookup x=some c->X.s₀.heap.objs.size<=c
 hd:X.calm=true->X.A.handled=none
 frames:X.A.frames=some X.stack
 stk:X.stack=X.outer\/(X.stack=X.env::X.outer/\X.env.frame=some X.env.locals)
 exf:∀b∈X.ex,b≠X.env.locals/\∀x c,X.env.cells.lookup x=some c->c≠b
 bs:∀b o,X.base.get? b=some o->X.s₀.heap.get? b=some o/\X.H₀ b=none
 bsz:X.base.objs.size<=X.s₀.heap.objs.size
 noex:∀b o,X.base.get? b=some o->b∉X.ex
 exfs:∀b∈X.ex,b∉X.fs
 funs:X.s₀.heap.FunFrames X.base X.outer
 frf:∀b∈X.fs,X.H₀ b=none
structure Inv(X:Cx)(pins:List (Addr×Obj))(σ:List (Option V))(H:Hp)(s:ab):Prop where
 ok:X.Ok
 os:s.os=X.s₀.os
 bare:cP s.gens
 base:Un X.fs X.ex X.H₀ H X.s₀.heap s.heap
 loc:∃m,s.heap.Ns X.env.locals m/\∀(i:Nat) (x:Str) (v:V),X.N[i]?=some x->σ[i]?=some (some v)->Vis X.env.scope x->∃u,RelV v u/\Look X.env s.heap m x u
 cell:∀x c,X.env.cells.lookup x=some c->∃v,s.heap.IsCell c v
 free:H X.env.locals=none
 freeC:∀x c,X.env.cells.lookup x=some c->H c=none
 pin:∀p∈X.pn++pins,s.heap.get? p.1=some p.2/\H p.1=none/\p.1≠X.env.locals/\p.1∉X.fs/\∀v,p.2.data≠.cell v
 hok:HOk X.prog X.w H s.heap
 len:σ.length=X.N.length
variable{g':Array dM}{t' i j:Nat}{d':Drawn}{ch:List Addr}{it:Addr}{N:List Str}{x:Str}{M:Model}{E:aa->ab->Prop}{s':ab}
section
variable{X:Cx}{pins:List (Addr×Obj)}{σ:List (Option V)}{H H':Hp}{s:ab}{h':Heap}
theorem Cx.Ok.nofr(ok:X.Ok){o:Obj}(e:X.base.get? b=some o):b∉X.fs:=λhb=>by have:=(ok.funs.mem hb).1;rw[e]at this;cases this
theorem Inv.bs(I:Inv X pins σ H s):∀b o,X.base.get? b=some o->s.heap.get? b=some o/\H b=none:=λb o e=>
 ⟨I.base.keep b o (I.ok.bs b o e).1 (I.ok.bs b o e).2 (I.ok.nofr e) (I.ok.noex b o e),I.base.free b o (I.ok.bs b o e).1 (I.ok.bs b o e).2 (I.ok.noex b o e)⟩
theorem Inv.bk(I:Inv X pins σ H s):∀b o,X.base.get? b=some o->s.heap.get? b=some o:=λb o e=>(I.bs b o e).1
theorem Inv.mod(I:Inv X pins σ H s):Mod X.K X.mg X.base:=I.ok.mod
theorem Inv.kIn(I:Inv X pins σ H s):X.K.In s.heap:=I.ok.mod.kin.keeps I.bk
theorem Inv.fr(I:Inv X pins σ H s):∃m,Fr X.base X.env.locals s.heap m:=
 let ⟨m,hn,_⟩:=I.loc
 ⟨m,hn,I.bk,bF I.ok.bsz I.ok.above⟩
theorem Inv.lt(I:Inv X pins σ H s):X.env.locals<s.heap.objs.size:=let ⟨_,hn,_⟩:=I.loc;hn.lt
theorem Inv.sz(I:Inv X pins σ H s):X.s₀.heap.objs.size<=s.heap.objs.size:=bF I.ok.above (eJ I.lt)
theorem Inv.nofs(I:Inv X pins σ H s)(h:s.heap.objs.size<=a):a∉X.fs:=λhb=>by obtain⟨_,o,ho,_⟩:=I.ok.funs.mem hb;exact ai (bA (ay ho) (bF I.sz h)) (c7 _)
theorem Inv.cne(I:Inv X pins σ H s):∀x c,X.env.cells.lookup x=some c->c≠X.env.locals:=λx c e z=>by obtain⟨v,o,ho,hd⟩:=I.cell x c e;obtain⟨m,⟨o',es,ep,ho',hd',_⟩,_⟩:=I.loc;rw[z,ho']at ho;cases ho;rw[hd']at hd;cases hd
theorem Inv.funs(I:Inv X pins σ H s):s.heap.FunFrames X.base X.outer:=by
 have all:∀(l:List Env),(∀b∈frs l,b∈X.fs)->X.s₀.heap.FunFrames X.base l->s.heap.FunFrames X.base l:=by
  intro l
  induction l with
  |nil=>intro _ _;trivial
  |cons env r ih=>intro hs hl;obtain⟨hk,⟨L,o,hf,hn,ho,hd⟩,hr⟩:=hl;have hL:L∈X.fs:=hs L (by unfold frs;rw[cI,hf];exact aQ);obtain⟨sl,e⟩:=I.base.slot L o ho (I.ok.frf L hL) hL λz=>I.ok.exfs L z hL;exact⟨hk,⟨L,_,hf,hn,e,hd⟩,ih (λb hb=>hs b (by unfold frs;rw[cI,hf];exact aX _ hb)) hr⟩
 exact all X.outer (λ_ hb=>hb) I.ok.funs
theorem Inv.stack(I:Inv X pins σ H s):s.heap.FunFrames X.base X.stack:=by
 rcases I.ok.stk with e|⟨e,hf⟩
 ·rw[e];exact I.funs
 ·rw[e];obtain⟨m,hn,_⟩:=I.loc;refine .cons (by rw[I.ok.kind];decide) hf hn ?_ I.funs;exact Heap.get?_none_of_le (bF I.ok.bsz I.ok.above)
theorem Inv.stkSub(I:Inv X pins σ H s):∀b∈frs X.stack,b∈X.env.locals::X.fs:=λb hb=>by
 rcases I.ok.stk with e|⟨e,hf⟩
 ·rw[e]at hb;exact aX _ hb
 ·rw[e]at hb;unfold frs at hb;rw[cI,hf]at hb;exact hb
theorem Inv.stkFree(I:Inv X pins σ H s):∀b∈frs X.stack,H b=none:=λb hb=>by
 rcases aD.mp (I.stkSub b hb)with e|hb
 ·rw[e];exact I.free
 ·obtain⟨_,o,ho,_⟩:=I.ok.funs.mem hb;exact I.base.free b o ho (I.ok.frf b hb) λz=>I.ok.exfs b z hb
theorem Inv.step(I:Inv X pins σ H s)
  (hch:∀b∈ch,(b∈X.ex\/X.s₀.heap.objs.size<=b)/\b≠X.env.locals/\(∀x c,X.env.cells.lookup x=some c->c≠b)/\∀p∈X.pn++pins,p.1≠b)
  (keep:∀b o,b≠X.env.locals->b∉X.fs->b∉ch->s.heap.get? b=some o->H b=none->h'.get? b=some o)
  (slot:∀b o,b≠X.env.locals->b∈X.fs->b∉ch->s.heap.get? b=some o->H b=none->∃sl,h'.get? b=some { o with slots:=sl }) (free:∀b o,b∉ch->s.heap.get? b=some o->H b=none->H' b=none)
  (there:∀b o,b∉ch->s.heap.get? b=some o->∃o',h'.get? b=some o')
  (tups:∀b xs,H b=some (.tup xs)->H' b=some (.tup xs)) (frzs:∀b o u,H b=some (.frz o u)->H' b=some (.frz o u)) (tbls:∀b ps,H b=some (.tbl ps)->∃more,H' b=some (.tbl (ps++more)))
  (ns:∀m,s.heap.Ns X.env.locals m->h'.Ns X.env.locals m) (hok:HOk X.prog X.w H' h') (hg:cP g'):
  Inv X pins σ H' { s with heap:=h',gens:=g',drawn:=d',toks:=t' }:=by
 have neL:∀b o,X.s₀.heap.get? b=some o->b≠X.env.locals:=λb o e=>aE (bA (ay e) I.ok.above);have neC:∀b o,X.s₀.heap.get? b=some o->b∉X.ex->b∉ch:=λb o e hx hb=>by
  rcases(hch b hb).1 with z|z
  ·exact hx z
  ·exact ai (bA (ay e) z) (c7 _)
 have cellK:∀x c,X.env.cells.lookup x=some c->∀v,s.heap.IsCell c v->h'.IsCell c v:=λx c e v ⟨o,ho,hd⟩=>by
  have nch:c∉ch:=λz=>(hch c z).2.2.1 x c e rfl;by_cases hc:c∈X.fs
  ·obtain⟨sl,q⟩:=slot c o (I.cne x c e) hc nch ho (I.freeC x c e);exact⟨_,q,hd⟩
  ·exact⟨o,keep c o (I.cne x c e) hc nch ho (I.freeC x c e),hd⟩
 refine⟨I.ok,I.os,hg,⟨λb o e n hb hx=>?_,λb o e n hb hx=>?_,λb o e n hx=>?_,λb o e hx=>?_,λb xs e=>tups b xs (I.base.tups b xs e),λb o xs e=>frzs b o xs (I.base.frzs b o xs e),λb ps e=>?_⟩,?_,λx c e=>?_,?_,λx c e=>?_,λp hp=>?_,hok,I.len⟩
 ·exact keep b o (neL b o e) hb (neC b o e hx) (I.base.keep b o e n hb hx) (I.base.free b o e n hx)
 ·obtain⟨sl,e1⟩:=I.base.slot b o e n hb hx;obtain⟨sl',e2⟩:=slot b _ (neL b o e) hb (neC b o e hx) e1 (I.base.free b o e n hx);exact⟨sl',e2⟩
 ·obtain⟨o',e1⟩:=I.base.there b o e hx;exact free b o' (neC b o e hx) e1 (I.base.free b o e n hx)
 ·obtain⟨o',e1⟩:=I.base.there b o e hx;exact there b o' (neC b o e hx) e1
 ·obtain⟨m1,e1⟩:=I.base.tbls b ps e;obtain⟨m2,e2⟩:=tbls b _ e1;exact⟨m1++m2,by rw[e2,Array.append_assoc]⟩
 ·obtain⟨m,hn,hl⟩:=I.loc;refine⟨m,ns m hn,λi x v e1 e2 e3=>?_⟩;obtain⟨u,r,l⟩:=hl i x v e1 e2 e3;refine⟨u,r,?_⟩;rcases l with l|⟨k,c,e,z⟩
  ·exact .inl l
  ·exact .inr ⟨k,c,e,cellK x c e _ z⟩
 ·obtain⟨v,z⟩:=I.cell x c e;exact⟨v,cellK x c e v z⟩
 ·obtain⟨m,⟨o,_,_,ho,_⟩,_⟩:=I.loc;exact free _ o (λz=>(hch _ z).2.1 rfl) ho I.free
 ·obtain⟨v,o,ho,hd⟩:=I.cell x c e;exact free c o (λz=>(hch c z).2.2.1 x c e rfl) ho (I.freeC x c e)
 ·obtain⟨e,n,ne,nf,d⟩:=I.pin p hp;have nch:p.1∉ch:=λz=>(hch p.1 z).2.2.2 p hp rfl;exact⟨keep p.1 p.2 ne nf nch e n,free p.1 p.2 nch e n,ne,nf,d⟩
theorem Inv.un(I:Inv X pins σ H s)(u:Un X.fs [] H H' s.heap h')(hok:HOk X.prog X.w H' h'):Inv X pins σ H' { s with heap:=h',toks:=t' }:=by
 obtain⟨m,⟨o,es,ep,ho,r⟩,_⟩:=id I.loc;obtain⟨sl,hL⟩:=u.any ho I.free (by simp);exact I.step (g':=s.gens) (d':=s.drawn) (ch:=[]) (λ_ z=>nomatch z) (λb o _ hb _ e n=>u.keep b o e n hb (by simp)) (λb o _ hb _ e n=>u.slot b o e n hb (by simp)) (λb o _ e n=>u.free b o e n (by simp)) (λb o _ e=>u.there b o e (by simp)) u.tups u.frzs u.tbls (λm' hm=>by
  obtain⟨o',es',ep',ho',r'⟩:=hm;rw[ho]at ho';cases ho';exact⟨_,es',ep',hL,r'⟩) hok I.bare
theorem Inv.call(I:Inv X pins σ H s)(u:Un (frs X.stack) ch H H' s.heap h')(hok:HOk X.prog X.w H' h')(hg:cP g')
  (hch:∀b∈ch,(b∈X.ex\/X.s₀.heap.objs.size<=b)/\b≠X.env.locals/\(∀x c,X.env.cells.lookup x=some c->c≠b)/\∀p∈X.pn++pins,p.1≠b):
  Inv X pins σ H' { s with heap:=h',gens:=g',drawn:=d',toks:=t' }:=by
 obtain⟨m,⟨o,es,ep,ho,r⟩,_⟩:=id I.loc;obtain⟨sl,hL⟩:=u.any ho I.free λz=>(hch _ z).2.1 rfl;exact I.step (ch:=ch) hch (λb o hL hb hc e n=>u.keep b o e n (λz=>(aD.mp (I.stkSub b z)).elim hL hb) hc) (λb o _ _ hc e n=>u.any e n hc) (λb o hc e n=>u.free b o e n hc) (λb o hc e=>u.there b o e hc) u.tups u.frzs u.tbls (λm' hm=>by
  obtain⟨o',es',ep',ho',r'⟩:=hm;rw[ho]at ho';cases ho';exact⟨_,es',ep',hL,r'⟩) hok hg
theorem Inv.turned(I:Inv X pins σ H s)(k:∀b o,b≠it->s.heap.get? b=some o->h'.get? b=some o)(hn:H it=none)(hL:it≠X.env.locals)
  (h1:it∈X.ex\/X.s₀.heap.objs.size<=it) (h2:∀x c,X.env.cells.lookup x=some c->c≠it) (h3:∀p∈X.pn++pins,p.1≠it):Inv X pins σ H { s with heap:=h',toks:=t' }:=by
 have nit:∀b u,H b=some u->b≠it:=λb u e z=>by rw[z,hn]at e;cases e
 refine I.step (g':=s.gens) (d':=s.drawn) (ch:=[it]) (λb hb=>?_) (λb o _ _ hc e _=>k b o (λz=>hc (by simp[z])) e) (λb o _ _ hc e _=>⟨o.slots,k b o (λz=>hc (by simp[z])) e⟩) (λ_ _ _ _ n=>n)
  (λb o hc e=>⟨o,k b o (λz=>hc (by simp[z])) e⟩) (λ_ _ e=>e) (λ_ _ _ e=>e) (λb ps e=>⟨#[],by rw[e];simp⟩) (λm hm=>?_) (λb u e=>?_) I.bare
 ·have e:b=it:=by simpa using hb
  subst e;exact⟨h1,hL,h2,h3⟩
 ·obtain⟨o,es,ep,ho,r⟩:=hm;exact⟨o,es,ep,k _ o (bI hL) ho,r⟩
 ·refine(I.hok b u e).stay (λc v hc q=>k c v ?_ q) (λ_ q=>q) λ_ _ q=>q;rcases hc with z|z
  ·rw[z];exact nit b u e
  ·exact nit c _ z
theorem Inv.tok(I:Inv X pins σ H s)(t:Nat):Inv X pins σ H { s with toks:=t }:=I.un (h':=s.heap) (t':=t) Un.refl I.hok
theorem Inv.kept(I:Inv X pins σ H s)(k:∀b u,s.heap.get? b=some u->h'.get? b=some u):Inv X pins σ H { s with heap:=h',toks:=t' }:=I.un (Un.kept k) (I.hok.kept k)
theorem Inv.laid{o:HO}(I:Inv X pins σ H s)(k:∀b u,s.heap.get? b=some u->h'.get? b=some u)(hp:s.heap.objs.size<=a)(new:nS X.prog X.w (upd H a o) h' a o):
  Inv X pins σ (upd H a o) { s with heap:=h',toks:=t' }:=I.un (Un.laid k hp (I.hok.fresh hp)) (I.hok.laid k hp new)
theorem Inv.write{x e:Addr}{o:HO}(I:Inv X pins σ H s)(mu:Mut (H x))(he:e=x\/H e=some (.own x))(k:∀b u,b≠e->s.heap.get? b=some u->h'.get? b=some u)(heo:∃u,h'.get? e=some u)
  (new:nS X.prog X.w (upd H x o) h' x o):Inv X pins σ (upd H x o) { s with heap:=h',toks:=t' }:=I.un (Un.write mu he k heo) (I.hok.write mu he k heo new)
theorem Inv.weak{σ':List (Option V)}(I:Inv X pins σ H s)(hl:σ'.length=σ.length)(w:∀(i:Nat) v,σ'[i]?=some (some v)->σ[i]?=some (some v)):Inv X pins σ' H s:=
 ⟨I.ok,I.os,I.bare,I.base,let ⟨m,hn,hl'⟩:=I.loc;⟨m,hn,λi x v e1 e2 e3=>hl' i x v e1 (w i v e2) e3⟩,I.cell,I.free,I.freeC,I.pin,I.hok,hl.trans I.len⟩
theorem Inv.pins_of{pins':List (Addr×Obj)}(I:Inv X pins σ H s)(h:∀p∈pins',s.heap.get? p.1=some p.2/\H p.1=none/\p.1≠X.env.locals/\p.1∉X.fs/\∀v,p.2.data≠.cell v):Inv X pins' σ H s:=
 ⟨I.ok,I.os,I.bare,I.base,I.loc,I.cell,I.free,I.freeC,λp hp=>(bX.mp hp).elim (λz=>I.pin p (bW _ z)) (h p),I.hok,I.len⟩
theorem CV(hN:N.Nodup)(a:N[i]?=some x)(b:N[j]?=some x):i=j:=by obtain⟨h1,e1⟩:=bx.mp a;obtain⟨h2,e2⟩:=bx.mp b;exact(gn hN).mp (e1.trans e2.symm)
theorem GW{A:ar}{v:V}{Q:Unit->ab->Prop}(I:Inv X pins σ H s)(hN:X.N.Nodup)(hi:X.N[i]?=some x)(hx:Loc X.env.scope x)(r:RelV v u)
  (h:∀s',Inv X pins (σ.set i (some v)) H s'->(∃a,dF a s.heap s'.heap/\(a=X.env.locals\/X.env.cells.lookup x=some a))->Q () s') (hf:X.fn x=true\/X.env.scope.names.lookup x=some .local:=by first|exact .inl rfl|exact .inr rfl|assumption):wpAny M A (storeName X.env x u) Q E s:=by
 obtain⟨m,hn,hl⟩:=id I.loc;have hcls:(X.env.scope.kind==.class||(X.env.scope.kind==.module&&X.env.locals != X.env.globals))=false:=by rw[I.ok.kind];rfl
 have hiσ:i<σ.length:=by rw[I.len];exact(bx.mp hi).1
 have cne:=I.cne;have tracked:∀{a:Addr} {h':Heap},(∃o,s.heap.get? a=some o/\H a=none)->dF a s.heap h'->HOk X.prog X.w H h':=λ{a h'} ha hs b ob e=>by
  obtain⟨_,_,hfree⟩:=ha;refine(I.hok b ob e).stay (λc w' hc q=>(hs.2 c ?_).trans q) (λ_ q=>q) λ_ _ q=>q;rintro rfl;rcases hc with rfl|hc
  ·rw[hfree]at e;cases e
  ·rw[hfree]at hc;cases hc
 rcases hx with hk|hk
 ·refine wpAny_storeName_local hk hn (λh' hn' hs=>?_) hcls;obtain⟨oL,_,_,hoL,_⟩:=id hn;refine h _ ⟨I.ok,I.os,I.bare,⟨λb o e n hb hx=>?_,λb o e n hb hx=>?_,I.base.free,λb o e hx=>?_,I.base.tups,I.base.frzs,I.base.tbls⟩,⟨_,hn',λj y v' e1 e2 e3=>?_⟩,λy c e=>?_,I.free,I.freeC,λp hp=>?_,tracked ⟨oL,hoL,I.free⟩ hs,by simpa using I.len⟩ ⟨_,hs,.inl rfl⟩
  ·exact(hs.2 b (aE (bA (ay e) I.ok.above))).trans (I.base.keep b o e n hb hx)
  ·obtain⟨sl,e1⟩:=I.base.slot b o e n hb hx;exact⟨sl,(hs.2 b (aE (bA (ay e) I.ok.above))).trans e1⟩
  ·obtain⟨o',e1⟩:=I.base.there b o e hx;exact⟨o',(hs.2 b (aE (bA (ay e) I.ok.above))).trans e1⟩
  ·by_cases hj:j=i
   ·subst hj;rw[hi]at e1;cases e1;rw[fZ hiσ]at e2;cases e2;exact⟨u,r,.inl ⟨hk,by simp⟩⟩
   ·rw[hX (bI hj)]at e2;obtain⟨u',r',q⟩:=hl j y v' e1 e2 e3;refine⟨u',r',?_⟩;rcases q with ⟨k,e⟩|⟨k,c,e,z⟩
    ·refine .inl ⟨k,?_⟩;have:y≠x:=λe=>hj (CV hN e1 (e▸hi));simp[this,e]
    ·exact .inr ⟨k,c,e,z.sameBut hs (cne y c e)⟩
  ·obtain⟨w',z⟩:=I.cell y c e;exact⟨w',z.sameBut hs (cne y c e)⟩
  ·obtain⟨e,n,ne,nf,d⟩:=I.pin p hp;exact⟨(hs.2 p.1 ne).trans e,n,ne,nf,d⟩
 ·have hfn:X.fn x=true:=by
   rcases hf with z|z
   ·exact z
   ·rw[z]at hk;cases hk
  obtain⟨c,hc⟩:=I.ok.has x (.inl hk);obtain⟨w',z⟩:=I.cell x c hc;refine wpAny_storeName_cell I.ok.kind hk hc z (λh' hc' hs=>?_);obtain⟨oc,hoc,hocd⟩:=id z;refine h { s with heap:=h' } ⟨I.ok,I.os,I.bare,⟨λb o e n hb hx=>?_,λb o e n hb hx=>?_,I.base.free,λb o e hx=>?_,I.base.tups,I.base.frzs,I.base.tbls⟩,⟨m,hn.sameBut hs (bI (cne x c hc)),λj y v' e1 e2 e3=>?_⟩,λy c' e=>?_,I.free,I.freeC,λp hp=>?_,tracked ⟨oc,hoc,I.freeC x c hc⟩ hs,by simpa using I.len⟩ ⟨c,hs,.inr hc⟩
  ·exact(hs.2 b (aE (bA (ay e) (I.ok.cab x c hfn hc)))).trans (I.base.keep b o e n hb hx)
  ·obtain⟨sl,e1⟩:=I.base.slot b o e n hb hx;exact⟨sl,(hs.2 b (aE (bA (ay e) (I.ok.cab x c hfn hc)))).trans e1⟩
  ·obtain⟨o',e1⟩:=I.base.there b o e hx;exact⟨o',(hs.2 b (aE (bA (ay e) (I.ok.cab x c hfn hc)))).trans e1⟩
  ·by_cases hj:j=i
   ·subst hj;rw[hi]at e1;cases e1;rw[fZ hiσ]at e2;cases e2;exact⟨u,r,.inr ⟨.inl hk,c,hc,hc'⟩⟩
   ·rw[hX (bI hj)]at e2;obtain⟨u',r',q⟩:=hl j y v' e1 e2 e3;refine⟨u',r',?_⟩;rcases q with q|⟨k,c',e,z'⟩
    ·exact .inl q
    ·refine .inr ⟨k,c',e,z'.sameBut hs ?_⟩;rintro rfl;exact hj (CV hN e1 (I.ok.inj _ _ _ e hc▸hi))
  ·by_cases hcc:c'=c
   ·subst hcc;exact⟨_,hc'⟩
   ·obtain⟨w2,z2⟩:=I.cell y c' e;exact⟨w2,z2.sameBut hs hcc⟩
  ·obtain⟨e,n,ne,nf,d⟩:=I.pin p hp;refine⟨(hs.2 p.1 ?_).trans e,n,ne,nf,d⟩;intro q;rw[q,hoc]at e;have q':oc=p.2:=bQ e;exact d w' (by rw[<-q'];exact hocd)
theorem CW{A:ar}{v:V}{Q:Unit->ab->Prop}(I:Inv X pins σ H s)(hN:X.N.Nodup)(hi:X.N[i]?=some x)(hx:Loc X.env.scope x)(r:RelV v u)
  (h:∀s',Inv X pins (σ.set i (some v)) H s'->Q () s') (hf:X.fn x=true\/X.env.scope.names.lookup x=some .local:=by first|exact .inl rfl|exact .inr rfl|assumption):wpAny M A (storeName X.env x u) Q E s:=
 GW I hN hi hx r (λs' I' _=>h s' I') hf
theorem Inv.call'(I:Inv X pins σ H s)(ho:s'.os=s.os)(u:Un (frs X.stack) ch H H' s.heap s'.heap)(hok:HOk X.prog X.w H' s'.heap)(hg:cP s'.gens)
  (hch:∀b∈ch,(b∈X.ex\/X.s₀.heap.objs.size<=b)/\b≠X.env.locals/\(∀x c,X.env.cells.lookup x=some c->c≠b)/\∀p∈X.pn++pins,p.1≠b):Inv X pins σ H' s':=by
 obtain⟨h',g',d',t',o'⟩:=s';have e:o'=s.os:=ho;subst e;exact I.call (g':=g') (t':=t') (d':=d') u hok hg hch
end
abbrev XK:=aa->Option Addr->Hp->Prop
abbrev St:=List (Option V)
abbrev VK:=V->Hp->Prop
abbrev TE:=St->Hp->VK->Prop
abbrev TT:=St->Hp->(Bool->Hp->Prop)->Prop
abbrev TA:=St->Hp->(List V->Hp->Prop)->Prop
structure Ends where
 nx:St->Hp->Prop
 rt:VK
 bk:St->Hp->Prop:=λ_ _=>False
 ct:St->Hp->Prop:=λ_ _=>False
abbrev TS:=Ends->St->Hp->Prop
def EP(X:Cx)(pins:List (Addr×Obj))(σ:St)(Q:VK)(u:aa)(s':ab):Prop:=∃v H',Inv X pins σ H' s'/\RelV v u/\Q v H'
def TP(X:Cx)(pins:List (Addr×Obj))(σ:St)(Q:Bool->Hp->Prop)(b:Bool)(s':ab):Prop:=∃H',Inv X pins σ H' s'/\Q b H'
def AP(X:Cx)(pins:List (Addr×Obj))(σ:St)(Q:List V->Hp->Prop)(us:List aa)(s':ab):Prop:=∃vs H',Inv X pins σ H' s'/\Vals vs us/\Q vs H'
def SP(X:Cx)(pins:List (Addr×Obj))(D:Ends)(f:Flow)(s':ab):Prop:=
 match f with
 |.next=>∃σ' H',Inv X pins σ' H' s'/\D.nx σ' H'
 |.brk=>∃σ' H',Inv X pins σ' H' s'/\D.bk σ' H'
 |.cont=>∃σ' H',Inv X pins σ' H' s'/\D.ct σ' H'
 |.ret u=>∃v σ' H',Inv X pins σ' H' s'/\RelV v u/\D.rt v H'
def PE(X:Cx)(e:Expr)(t:TE):Prop:=
 ∀(pins:List (Addr×Obj)) (s:ab) (σ:St) (H:Hp) (Q:VK),Inv X pins σ H s->t σ H Q->wpAny (model X.prog X.w) X.A (eval e X.env) (EP X pins σ Q) X.xe s
def PT(X:Cx)(e:Expr)(t:TT):Prop:=
 ∀(pins:List (Addr×Obj)) (s:ab) (σ:St) (H:Hp) (Q:Bool->Hp->Prop),Inv X pins σ H s->t σ H Q->wpAny (model X.prog X.w) X.A (isTrue e X.env (eval e X.env)) (TP X pins σ Q) X.xe s
def PW(X:Cx)(e:Expr)(t:TT):Prop:=
 ∀(whole:Sem aa) (pins:List (Addr×Obj)) (s:ab) (σ:St) (H:Hp) (Q:Bool->Hp->Prop),Inv X pins σ H s->t σ H Q->wpAny (model X.prog X.w) X.A (isTrue e X.env whole) (TP X pins σ Q) X.xe s
theorem PW.pt{X:Cx}{e:Expr}{t:TT}(h:PW X e t):PT X e t:=h _
def PA(X:Cx)(es:List Expr)(t:TA):Prop:=
 ∀(pos:Pos) (pins:List (Addr×Obj)) (s:ab) (σ:St) (H:Hp) (Q:List V->Hp->Prop),Inv X pins σ H s->t σ H Q->wpAny (model X.prog X.w) X.A (spliced (backTo pos (starEach es X.env))) (AP X pins σ Q) X.xe s
def PS(X:Cx)(st:Stmt)(t:TS):Prop:=
 ∀(pins:List (Addr×Obj)) (s:ab) (σ:St) (H:Hp) (D:Ends),Inv X pins σ H s->t D σ H->wpAny (model X.prog X.w) X.A (exec st X.env) (SP X pins D) X.xe s
def PSs(X:Cx)(st:List Stmt)(t:TS):Prop:=
 ∀(pins:List (Addr×Obj)) (s:ab) (σ:St) (H:Hp) (D:Ends),Inv X pins σ H s->t D σ H->wpAny (model X.prog X.w) X.A (execs st X.env) (SP X pins D) X.xe s
theorem thn{α:Type}{t:Sem α}{Q Q':α->ab->Prop}{A:ar}{s:ab}(h:wpAny M A t Q E s)(hQ:∀a s,Q a s->Q' a s):wpAny M A t Q' E s:=bw h hQ λ_ _ x=>x
variable{pins:List (Addr×Obj)}{σ:St}{R:V->V->Hp->Prop}{pos:Pos}{Q:aa->ab->Prop}{op:dP}{t:TE}{e c:Expr}
section
variable{X:Cx}
theorem bin{a b:Expr}{ta tb:TE}(ha:PE X a ta)(hb:PE X b tb){s:ab}{H:Hp}(I:Inv X pins σ H s)(h:ta σ H λx H1=>tb σ H1 λy H2=>R x y H2)
  {α:Type} {Q:α->ab->Prop} {f:aa->aa->Sem α}
  (hf:∀v u s2 x y H2,Inv X pins σ H2 s2->RelV x v->RelV y u->R x y H2->wpAny (model X.prog X.w) X.A (f v u) Q X.xe s2):
  wpAny (model X.prog X.w) X.A (eval a X.env) (λv s₁=>wpAny (model X.prog X.w) X.A (eval b X.env) (λu s₂=>wpAny (model X.prog X.w) X.A (f v u) Q X.xe s₂) X.xe s₁) X.xe s:=by
 refine thn (ha pins s σ H _ I h) λv s1 ⟨x,H1,I1,r1,q1⟩=>?_;refine thn (hb pins s1 σ H1 _ I1 q1) λu s2 ⟨y,H2,I2,r2,q2⟩=>?_;exact hf v u s2 x y H2 I2 r1 r2 q2
def tS(i:Nat):TE:=λσ H Q=>∃v,σ[i]?=some (some v)/\Q v H
def tC(v:V):TE:=λ_ H Q=>Q v H
theorem OA(hN:X.N[i]?=some x)(hv:Vis X.env.scope x)(hd:(x==("__debug__" : Str))=false:=by decide)(hcd:(x==("__classdict__" : Str))=false:=by decide):PE X (.Name x pos) (tS i):=by
 intro pins s σ H Q I h;obtain⟨v,e,h⟩:=h;obtain⟨m,hn,hl⟩:=I.loc;obtain⟨u,r,l⟩:=hl i x v hN e hv;have fin:EP X pins σ Q u s:=⟨v,H,I,r,h⟩;rcases l with ⟨hk,hm⟩|⟨hk,c,hc,hcell⟩
 ·exact jA (wpAny_loadName_local I.ok.kind hk hn hm fin) hd
 ·rcases hk with hk|hk
  ·exact jA (wpAny_loadName_cell I.ok.kind hk hc hcell fin) hd
  ·exact jA (wpAny_loadName_free I.ok.kind hk hc hcell fin hcd) hd
theorem EE{i j pos}:PE X (.Constant (.int i) j pos) (tC (.int i)):=λ_ _ _ H _ I h=>wpAny_Constant_int ⟨.int i,H,I.tok _,⟨_,rfl⟩,h⟩
theorem SJ{b j pos}:PE X (.Constant (.bool b) j pos) (tC (.bl b)):=λ_ _ _ H _ I h=>Constant_bool ⟨.bl b,H,I,rfl,h⟩
theorem OB{j pos}:PE X (.Constant .none j pos) (tC .non):=λ_ _ _ H _ I h=>Constant_none ⟨.non,H,I,rfl,h⟩
theorem Ir{x j pos}:PE X (.Constant (.str x) j pos) (tC (.str x)):=λ_ _ _ H _ I h=>Calls.Constant_str ⟨.str x,H,I.tok _,⟨_,rfl⟩,h⟩
def Gl(X:Cx)(x:Str):Prop:=X.env.kindOf x=some .globalImplicit
theorem y9{s:ab}{H:Hp}(I:Inv X pins σ H s)(hg:Gl X x)(hm:X.mg x=some u)(h:Q u s)
  (hd:(x==("__debug__" : Str))=false:=by decide):wpAny (model X.prog X.w) X.A (eval (.Name x pos) X.env) Q E s:=
 jM I.ok.kind hg (Calls.loadGlobal_global (by rw[I.ok.glob];exact I.mod.glob.keeps I.bk) hm h) hd
theorem tT{s:ab}{H:Hp}(I:Inv X pins σ H s)(hg:Gl X x)(hm:X.mg x=none)(hv:bootBuiltins x=some u)(h:Q u s)
  (hn:x≠"__name__" := by decide) (hd:(x==("__debug__" : Str))=false:=by decide):wpAny (model X.prog X.w) X.A (eval (.Name x pos) X.env) Q E s:=by
 obtain⟨mb,h1,h2⟩:=I.mod.blt;exact jM I.ok.kind hg (Calls.loadGlobal_builtin (by rw[I.ok.glob];exact I.mod.glob.keeps I.bk) hm (by rw[I.ok.blt];exact h1.keeps I.bk) ((h2 x hn).trans hv) h) hd
theorem wz{v:V}(hg:Gl X x)(hm:X.mg x=some u)(r:RelV v u)(hd:(x==("__debug__" : Str))=false:=by decide):PE X (.Name x pos) (tC v):=
 λ_ _ _ H _ I h=>y9 I hg hm ⟨v,H,I,r,h⟩ hd
theorem Lx{v:V}(hg:Gl X x)(hm:X.mg x=none)(hv:bootBuiltins x=some u)(r:RelV v u)(hn:x≠"__name__" := by decide)(hd:(x==("__debug__" : Str))=false:=by decide):PE X (.Name x pos) (tC v):=
 λ_ _ _ H _ I h=>tT I hg hm hv ⟨v,H,I,r,h⟩ hn hd
variable{a b:Expr}{ta tb:TE}{pos:Pos}
def PC(X:Cx)(op:dP)(a b:Expr)(t:TE):Prop:=
 ∀(pins:List (Addr×Obj)) (s:ab) (σ:St) (H:Hp) (Q:VK),Inv X pins σ H s->t σ H Q->
  wpAny (model X.prog X.w) X.A (eval a X.env) (λv s₁=>wpAny (model X.prog X.w) X.A (eval b X.env) (λu s₂=>wpAny (model X.prog X.w) X.A (compareOp op v u) (EP X pins σ Q) X.xe s₂) X.xe s₁) X.xe s
def tB(t:TE):TT:=λσ H Q=>t σ H λx H1=>∃c,x=.bl c/\Q c H1
theorem OC(h:PC X op a b t)(h1:behindInMarks op b=false:=by first|exact nobehind _ (by decide) (by decide)|rfl):PT X (.Compare a [op] [b] pos) (tB t):=by intro pins s σ H Q I hw;refine jY (thn (h pins s σ H _ I hw) λv s1 h1=>thn h1 λu s2 h2=>thn h2 λc s3 ⟨x,H1,I1,r1,q1⟩=>?_) h1;obtain⟨d,rfl,q⟩:=q1;cases r1;exact cb ⟨H1,I1,q⟩
theorem OD(h:PE X e t)(he:∀whole,isTrue e X.env whole=(do let v<-whole;standAt e.pos;holding [v] (truthy v)):=by intro _;rfl):PT X e (tB t):=by intro pins s σ H Q I hw;refine isTrue_plain (thn (h pins s σ H _ I hw) λv s1 ⟨x,H1,I1,r1,q1⟩=>?_) (he _);obtain⟨d,rfl,q⟩:=q1;cases r1;exact cb ⟨H1,I1,q⟩
variable{tA tB':TT}{rest:List Expr}
def SK(t u:TT):TT:=λσ H Q=>t σ H λc H1=>if c=true then u σ H1 Q else Q false H1
def tOr(t u:TT):TT:=λσ H Q=>t σ H λc H1=>if c=true then Q true H1 else u σ H1 Q
def UD(t:TT):TT:=λσ H Q=>t σ H λc H1=>Q (!c) H1
theorem Ly(ha:PT X a tA):PW X (.BoolOp .And [a] pos) tA:=by
 intro wh pins s σ H Q I h;refine isTrue_and (thn (ha pins s σ H Q I h) λc s1 e=>?_);cases c with
 |true=>exact isTrue_and_nil e
 |false=>exact e
theorem OE(ha:PT X a tA):PW X (.BoolOp .Or [a] pos) tA:=by
 intro wh pins s σ H Q I h;refine isTrue_or (thn (ha pins s σ H Q I h) λc s1 e=>?_);cases c with
 |false=>exact isTrue_or_nil e
 |true=>exact e
theorem OF(ha:PT X a tA)(hb:PW X (.BoolOp .And (b::rest) pos) tB'):PW X (.BoolOp .And (a::b::rest) pos) (SK tA tB'):=by
 intro wh pins s σ H Q I h;refine isTrue_and (thn (ha pins s σ H _ I h) λc s1 ⟨H1,I1,q1⟩=>?_);cases c with
 |true=>exact hb wh pins s1 σ H1 Q I1 q1
 |false=>exact⟨H1,I1,q1⟩
theorem SL(ha:PT X a tA)(hb:PW X (.BoolOp .Or (b::rest) pos) tB'):PW X (.BoolOp .Or (a::b::rest) pos) (tOr tA tB'):=by
 intro wh pins s σ H Q I h;refine isTrue_or (thn (ha pins s σ H _ I h) λc s1 ⟨H1,I1,q1⟩=>?_);cases c with
 |true=>exact⟨H1,I1,q1⟩
 |false=>exact hb wh pins s1 σ H1 Q I1 q1
theorem OG(ha:PT X a tA):PT X (.UnaryOp .Not a pos) (UD tA):=by intro pins s σ H Q I h;exact isTrue_not (ha pins s σ H (λc H1=>Q (!c) H1) I h)
def SM(ta tb:TE):TE:=λσ H Q=>ta σ H λx H1=>∃c,x=.bl c/\if c=true then tb σ H1 Q else Q (.bl false) H1
def UE(ta tb:TE):TE:=λσ H Q=>ta σ H λx H1=>∃c,x=.bl c/\if c=true then Q (.bl true) H1 else tb σ H1 Q
def SN(ta:TE):TE:=λσ H Q=>ta σ H λx H1=>∃c,x=.bl c/\Q (.bl (!c)) H1
theorem OH{op}(h:PE X a t):PE X (.BoolOp op [a] pos) t:=λpins s σ H Q I hw=>BoolOp_one (h pins s σ H Q I hw)
theorem OI(ha:PE X a ta)(hb:PE X (.BoolOp .And (b::rest) pos) tb):PE X (.BoolOp .And (a::b::rest) pos) (SM ta tb):=by
 intro pins s σ H Q I h;refine BoolOp_and (thn (ha pins s σ H _ I h) λv s1 ⟨x,H1,I1,r1,q1⟩=>?_);obtain⟨c,rfl,q1⟩:=q1;cases r1;refine cb ?_;cases c with
 |true=>exact hb pins s1 σ H1 Q I1 q1
 |false=>exact⟨.bl false,H1,I1,rfl,q1⟩
theorem SO(ha:PE X a ta)(hb:PE X (.BoolOp .Or (b::rest) pos) tb):PE X (.BoolOp .Or (a::b::rest) pos) (UE ta tb):=by
 intro pins s σ H Q I h;refine BoolOp_or (thn (ha pins s σ H _ I h) λv s1 ⟨x,H1,I1,r1,q1⟩=>?_);obtain⟨c,rfl,q1⟩:=q1;cases r1;refine cb ?_;cases c with
 |false=>exact hb pins s1 σ H1 Q I1 q1
 |true=>exact⟨.bl true,H1,I1,rfl,q1⟩
theorem OJ(ha:PE X a ta):PE X (.UnaryOp .Not a pos) (SN ta):=by intro pins s σ H Q I h;refine UnaryOp_ (thn (ha pins s σ H _ I h) λv s1 ⟨x,H1,I1,r1,q1⟩=>?_);obtain⟨c,rfl,q1⟩:=q1;cases r1;exact not_of (cb ⟨.bl (!c),H1,I1,rfl,q1⟩)
def tIf(t:TT)(ta tb:TE):TE:=λσ H Q=>t σ H λc H1=>if c=true then ta σ H1 Q else tb σ H1 Q
theorem Iu(hc:PT X c tA)(ha:PE X a ta)(hb:PE X b tb):PE X (.IfExp c a b pos) (tIf tA ta tb):=by
 intro pins s σ H Q I h;refine wpAny_IfExp (thn (hc pins s σ H _ I h) λd s1 ⟨H1,I1,q1⟩=>?_);cases d with
 |true=>exact ha pins s1 σ H1 Q I1 q1
 |false=>exact hb pins s1 σ H1 Q I1 q1
end
def SqL(K:aj)(H:Hp)(a:Addr)(xs:List V):Prop:=
 Rd H a (.lst xs)\/
  ∃(o:Obj) (its:Array aa) (n:Nat),K.lookup a=some o/\o.cls=.type "list" /\ o.dict=none/\o.data=.seq its n/\its.size<=sizeLine/\Vals xs its.toList
def SqT(K:aj)(H:Hp)(a:Addr)(xs:List V):Prop:=
 Rd H a (.tup xs)\/
  ∃(o:Obj) (its:Array aa) (n:Nat),K.lookup a=some o/\o.cls=.type "tuple" /\ o.data=.seq its n/\its.size<=sizeLine/\Vals xs its.toList
def UF:aa->Option V
 |.none=>some .non
 |.bool b=>some (.bl b)
 |.int i _=>some (.int i)
 |.str x _=>some (.str x)
 |.bytes b _=>some (.byt b)
 |.float b _=>some (.flt b)
 |.ref a=>some (.ref a)
 |.type n=>some (.ty n)
 |_=>none
theorem RelV.abs{x:V}(r:RelV x u):UF u=some x:=by
 cases x with
 |non=>cases r;rfl
 |bl _=>cases r;rfl
 |int _=>obtain⟨t,rfl⟩:=r;rfl
 |str _=>obtain⟨t,rfl⟩:=r;rfl
 |byt _=>obtain⟨t,rfl⟩:=r;rfl
 |flt _=>obtain⟨t,rfl⟩:=r;rfl
 |ref _=>cases r;rfl
 |ty _=>cases r;rfl
variable{y:V}
theorem RelV.inj{x:V}(r:RelV x u)(q:RelV y u):x=y:=bQ (r.abs.symm.trans q.abs)
theorem Vals.inj:∀{xs ys:List V} {us:List aa},Vals xs us->Vals ys us->xs=ys
 |_,_,_,.nil,.nil=>rfl
 |_,_,_,.cons r t,.cons r' t'=>by rw[r.inj r',Vals.inj t t']
section
variable{X:Cx}{pins:List (Addr×Obj)}{σ:St}{H:Hp}{s:ab}{a:Addr}{xs ys:List V}
theorem SqL.of{K:aj}(h:H a=some (.lst xs)):SqL K H a xs:=.inl (.inl h)
theorem SqT.of{K:aj}(h:H a=some (.tup xs)):SqT K H a xs:=.inl (.inl h)
theorem Inv.list(I:Inv X pins σ H s)(h:SqL X.K H a xs):∃its:List aa,Vals xs its/\PlainL s.heap a its.toArray/\xs.length<=sizeLine:=by
 rcases h with h|⟨o,its,n,hk,hc,hd,hs,hz,r⟩
 ·obtain⟨z,its,n,r,e⟩:=h.ok I.hok;exact⟨its,r,⟨_,n,e,rfl,rfl,rfl⟩,z⟩
 ·refine⟨its.toList,r,⟨o,n,I.kIn a o hk,hc,hd,by simpa using hs⟩,?_⟩;have e:=r.length;simp only[aW]at e;omega
theorem Inv.tuple(I:Inv X pins σ H s)(h:SqT X.K H a xs):∃its:List aa,Vals xs its/\dg s.heap a its.toArray/\xs.length<=sizeLine:=by
 rcases h with h|⟨o,its,n,hk,hc,hs,hz,r⟩
 ·obtain⟨z,its,r,p⟩:=h.ok I.hok;exact⟨its,r,p,z⟩
 ·refine⟨its.toList,r,⟨o,I.kIn a o hk,hc,n,by simpa using hs⟩,?_⟩;have e:=r.length;simp only[aW]at e;omega
theorem Inv.list_inj(I:Inv X pins σ H s)(h:SqL X.K H a xs)(h':SqL X.K H a ys):xs=ys:=by
 obtain⟨its,r,⟨o,n,e,_,_,d⟩,_⟩:=I.list h;obtain⟨its',r',⟨o',n',e',_,_,d'⟩,_⟩:=I.list h';rw[e]at e';cases e';rw[d]at d';injection d' with d1 _;have:its=its':=by simpa using aN lU d1
 subst this;exact r.inj r'
theorem Inv.tuple_inj(I:Inv X pins σ H s)(h:SqT X.K H a xs)(h':SqT X.K H a ys):xs=ys:=by
 obtain⟨its,r,⟨o,e,_,n,d⟩,_⟩:=I.tuple h;obtain⟨its',r',⟨o',e',_,n',d'⟩,_⟩:=I.tuple h';rw[e]at e';cases e';rw[d]at d';injection d' with d1 _;have:its=its':=by simpa using aN lU d1
 subst this;exact r.inj r'
end
abbrev Cx.wish(X:Cx)(E:aa->ab->Prop):Cx:={ X with xe:=E }
abbrev Cx.nox(X:Cx):Cx:=X.wish λ_ _=>False
variable{X:Cx}
theorem Cx.Ok.wish(ok:X.Ok)(E:aa->ab->Prop):(X.wish E).Ok:=
 ⟨ok.mod,ok.kind,ok.glob,ok.blt,ok.above,ok.inj,ok.has,ok.cab,ok.hd,ok.frames,ok.stk,ok.exf,ok.bs,ok.bsz,ok.noex,ok.exfs,ok.funs,ok.frf⟩
theorem Cx.Ok.unwish(ok:(X.wish E).Ok):X.Ok:=
 ⟨ok.mod,ok.kind,ok.glob,ok.blt,ok.above,ok.inj,ok.has,ok.cab,ok.hd,ok.frames,ok.stk,ok.exf,ok.bs,ok.bsz,ok.noex,ok.exfs,ok.funs,ok.frf⟩
section
variable{X:Cx}{pins:List (Addr×Obj)}{σ:St}{H:Hp}{s:ab}{E:aa->ab->Prop}
theorem Inv.wish(I:Inv X pins σ H s)(E:aa->ab->Prop):Inv (X.wish E) pins σ H s:=⟨I.ok.wish E,I.os,I.bare,I.base,I.loc,I.cell,I.free,I.freeC,I.pin,I.hok,I.len⟩
theorem Inv.unwish(I:Inv (X.wish E) pins σ H s):Inv X pins σ H s:=⟨I.ok.unwish,I.os,I.bare,I.base,I.loc,I.cell,I.free,I.freeC,I.pin,I.hok,I.len⟩
theorem SP.unwish{D:Ends}{f:Flow}(h:SP (X.wish E) pins D f s'):SP X pins D f s':=by
 cases f with
 |next=>obtain⟨σ',H',I,q⟩:=h;exact⟨σ',H',I.unwish,q⟩
 |brk=>obtain⟨σ',H',I,q⟩:=h;exact⟨σ',H',I.unwish,q⟩
 |cont=>obtain⟨σ',H',I,q⟩:=h;exact⟨σ',H',I.unwish,q⟩
 |ret u=>obtain⟨v,σ',H',I,r,q⟩:=h;exact⟨v,σ',H',I.unwish,r,q⟩
theorem PSs.nox{st:List Stmt}{t:TS}(h:PSs X.nox st t):PSs X st t:=λpins s σ H D I hw=>
 bw (h pins s σ H D (I.wish _) hw) (λ_ _ q=>q.unwish) λ_ _ z=>bT z
end
variable{tc:TT}
section
variable{X:Cx}{st:Stmt}{rest:List Stmt}{t u:TS}{e:Expr}{te:TE}{pos:Pos}
def SQ:TS:=λD σ H=>D.nx σ H
def UG(t u:TS):TS:=λD σ H=>t { D with nx:=u D } σ H
theorem LA:PSs X [] SQ:=λ_ _ σ H _ I h=>gw ⟨σ,H,I,h⟩
theorem zk(h1:PS X st t)(h2:PSs X rest u):PSs X (st::rest) (UG t u):=by
 intro pins s σ H D I h;refine wpAny_execs_cons (thn (h1 pins s σ H { D with nx:=u D } I h) λf s1 q=>?_);cases f with
 |next=>obtain⟨σ',H',I',q⟩:=q;exact h2 pins s1 σ' H' D I' q
 |ret v=>exact q
 |brk=>exact q
 |cont=>exact q
theorem BQ(h1:PS X st t):PSs X [st] t:=by
 intro pins s σ H D I h;refine wpAny_execs_cons (thn (h1 pins s σ H D I h) λf s1 q=>?_);cases f with
 |next=>exact gw q
 |ret v=>exact q
 |brk=>exact q
 |cont=>exact q
theorem Inv.quiet{H:Hp}{s:ab}(I:Inv X pins σ H s):interactive X.env=false:=by simp[interactive,I.ok.kind]
def N7(te:TE):TS:=λD σ H=>te σ H λ_ H1=>D.nx σ H1
theorem FL(he:PE X e te)(hs:swapsWith e none pos.line X.env=pure false:=by rfl):PS X (.Expr e pos) (N7 te):=by intro pins s σ H D I h;exact wpAny_Expr_any (thn (he pins s σ H _ I h) λv s1 ⟨x,H1,I1,r1,q1⟩=>⟨σ,H1,I1,q1⟩) I.quiet hs
def SR(te:TE):TS:=λD σ H=>te σ H D.rt
theorem EF(he:PE X e te):PS X (.Return (some e) pos) (SR te):=by intro pins s σ H D I h;exact wpAny_Return_some (thn (he pins s σ H _ I h) λv s1 ⟨x,H1,I1,r1,q1⟩=>⟨x,σ,H1,I1,r1,q1⟩)
def UH(c:TT)(t u:TS):TS:=λD σ H=>c σ H λb H1=>if b=true then t D σ H1 else u D σ H1
theorem SU{a b:List Stmt}(hc:PT X c tc)(ha:PSs X a t)(hb:PSs X b u):PS X (.If c a b pos) (UH tc t u):=by
 intro pins s σ H D I h;refine wpAny_If (thn (hc pins s σ H _ I h) λd s1 ⟨H1,I1,q1⟩=>?_);cases d with
 |true=>exact ha pins s1 σ H1 D I1 q1
 |false=>exact hb pins s1 σ H1 D I1 q1
def OK:TS:=λ_ _ _=>False
theorem Iv:PS X st OK:=λ_ _ _ _ _ _ h=>h.elim
end
abbrev TG:=V->St->Hp->(St->Hp->Prop)->Prop
abbrev TGs:=List V->St->Hp->(St->Hp->Prop)->Prop
def PG(X:Cx)(target:Expr)(t:TG):Prop:=
 ∀(pins:List (Addr×Obj)) (s:ab) (σ:St) (H:Hp) (v:V) (u:aa) (Q:St->Hp->Prop),Inv X pins σ H s->RelV v u->t v σ H Q->
  wpAny (model X.prog X.w) X.A (assign target X.env u) (λ_ s'=>∃σ' H',Inv X pins σ' H' s'/\Q σ' H') X.xe s
def PGs(X:Cx)(ts:List Expr)(t:TGs):Prop:=
 ∀(pins:List (Addr×Obj)) (s:ab) (σ:St) (H:Hp) (vs:List V) (us:List aa) (Q:St->Hp->Prop),Inv X pins σ H s->Vals vs us->t vs σ H Q->
  wpAny (model X.prog X.w) X.A (assignInOrder ((assignEach ts X.env).map (·.2)) us) (λ_ s'=>∃σ' H',Inv X pins σ' H' s'/\Q σ' H') X.xe s
variable{es:List Expr}{tg:Expr}{te:TE}
section
variable{X:Cx}{pos:Pos}
def sr(i:Nat):TG:=λv σ H Q=>Q (σ.set i (some v)) H
theorem FM(hN:X.N.Nodup)(hi:X.N[i]?=some x)(hx:Loc X.env.scope x)(hf:X.fn x=true\/X.env.scope.names.lookup x=some .local:=by first|exact .inl rfl|exact .inr rfl|assumption):PG X (.Name x pos) (sr i):=by intro pins s σ H v u Q I r h;exact wpAny_assign_Name (CW I hN hi hx r (λs' I'=>⟨_,H,I',h⟩) hf)
def SV:TGs:=λvs σ H Q=>vs=[]/\Q σ H
def N8(t:TG)(u:TGs):TGs:=λvs σ H Q=>∃v r,vs=v::r/\t v σ H λσ' H'=>u r σ' H' Q
theorem LB:PGs X [] SV:=by intro pins s σ H vs us Q I r h;obtain⟨e,h⟩:=h;subst e;cases r;exact assignInOrder_nil ⟨σ,H,I,h⟩
theorem Iw{t:TG}{u:TGs}(h1:PG X e t)(h2:PGs X es u)
  (hs:(assignEach (e::es) X.env).map (·.2)=assign e X.env::(assignEach es X.env).map (·.2):=by rfl):PGs X (e::es) (N8 t u):=by
 intro pins s σ H vs us Q I r h;obtain⟨v,vr,e1,h⟩:=h;subst e1;cases r with
 |cons r rr=>rw[hs];refine assignInOrder_cons (thn (h1 pins s σ H _ _ _ I r h) λ_ s1 ⟨σ1,H1,I1,q1⟩=>?_);exact h2 pins s1 σ1 H1 _ _ Q I1 rr q1
def OL(K:aj)(n:Nat)(t:TGs):TG:=λv σ H Q=>∃a xs,v=.ref a/\SqT K H a xs/\xs.length=n/\t xs σ H Q
theorem OM{k:Nat}{t:TGs}{n:Nat}(hc:X.calm=true)(h:PGs X es t)
  (hn:(assignEach es X.env).length=n:=by rfl) (hst:(assignEach es X.env).findIdx? (·.1)=none:=by rfl):PG X (.Tuple es k pos) (OL X.K n t):=by
 intro pins s σ H v u Q I r hw;obtain⟨a,xs,e1,hq,hl,hw⟩:=hw;subst e1;cases r;obtain⟨its,rv,ht,hz⟩:=I.tuple hq;refine assign_Tuple_tuple (I.ok.hd hc) ht (by simp[hn,<- hl,rv.length]) hst λh' hx=>?_;have I1:Inv X pins σ H { s with heap:=h' }:=I.kept (t':=s.toks) λb o e=>hx b o (aE (ay e)) e;exact h pins _ σ H xs _ Q I1 (by simpa using rv) hw
def wA(te:TE)(g:TG):TS:=λD σ H=>te σ H λx H1=>g x σ H1 D.nx
theorem ON{g:TG}(he:PE X e te)(hg:PG X tg g)(hs:swapsWithSole [tg] e pos.line X.env=pure false:=by rfl)(hw:swappedStores [tg] e X.env=pure none:=by rfl)
  (h1:(assignEach [tg] X.env).map (·.2)=[assign tg X.env]:=by rfl):PS X (.Assign [tg] e pos) (wA te g):=by
 intro pins s σ H D I h;refine wpAny_Assign_stores (thn (he pins s σ H _ I h) λv s1 ⟨x,H1,I1,r1,q1⟩=>?_) hs hw;rw[h1];exact thn (hg pins s1 σ H1 x v _ I1 r1 q1) λ_ s2 q=>q
theorem OO{pos':Pos}(hN:X.N.Nodup)(hi:X.N[i]?=some x)(hx:Loc X.env.scope x)(he:PE X e te)(hs:swapsWith e (some (.Name x pos')) pos.line X.env=pure false:=by rfl)(hf:X.fn x=true\/X.env.scope.names.lookup x=some .local:=by first|exact .inl rfl|exact .inr rfl|assumption):
  PS X (.Assign [.Name x pos'] e pos) (wA te (sr i)):=by
 intro pins s σ H D I h;refine wpAny_Assign_Name (thn (he pins s σ H _ I h) λv s1 ⟨y,H1,I1,r1,q1⟩=>?_) hs;exact CW I1 hN hi hx r1 (λs2 I2=>⟨_,H1,I2,q1⟩) hf
end
variable{body:List Stmt}{tb:TS}
section
variable{X:Cx}{pos:Pos}
def Iy(c:TT)(tb:TS):TS:=λD σ H=>∃W:Nat->St->Hp->Prop,(∃m,W m σ H)/\∀m σ H,W m σ H->
 c σ H λb H1=>if b=true then ∃N:St->Hp->Prop,(∀σ' H',N σ' H'->∃m',m'<m/\W m' σ' H')/\tb { D with nx:=N,ct:=N,bk:=D.nx } σ H1 else D.nx σ H1
theorem IA(hp:gR (model X.prog X.w) X.A X.env X.xe)(hc:PT X c tc)(hb:PSs X body tb):PS X (.While c body [] pos) (Iy tc tb):=by
 intro pins s σ H D I h;obtain⟨W,⟨m0,w0⟩,turn⟩:=h;refine wpAny_While (codeAny_whileLoop (λn s'=>∃σ' H',Inv X pins σ' H' s'/\W n σ' H') ?_ m0 ⟨σ,H,I,w0⟩);rintro n s1 ⟨σ1,H1,I1,w1⟩;refine dv hp (thn (hc pins s1 σ1 H1 _ I1 (turn n σ1 H1 w1)) λb s2 ⟨H2,I2,q2⟩=>?_);cases b with
 |true=>
  obtain⟨N,hN,q2⟩:=q2;rw[ag rfl];refine dv hp (thn (hb pins s2 σ1 H2 _ I2 q2) λf s3 q3=>?_);cases f with
  |next=>obtain⟨σ3,H3,I3,n3⟩:=q3;obtain⟨m',hm,w3⟩:=hN σ3 H3 n3;exact⟨m',hm,σ3,H3,I3,w3⟩
  |cont=>obtain⟨σ3,H3,I3,n3⟩:=q3;obtain⟨m',hm,w3⟩:=hN σ3 H3 n3;exact⟨m',hm,σ3,H3,I3,w3⟩
  |brk=>exact q3
  |ret v=>exact q3
 |false=>rw[af aR];exact gw ⟨σ1,H2,I2,q2⟩
end
structure It where
 go:Nat->Hp->Prop
 yld:Nat->Hp->V->Hp->Prop
 stop:Nat->Hp->Prop
def AF(X:Cx)(pins:List (Addr×Obj))(H:Hp)(b:Addr):Prop:=
 H b=none/\b≠X.env.locals/\b∉X.fs/\(b∈X.ex\/X.s₀.heap.objs.size<=b)/\(∀x c,X.env.cells.lookup x=some c->c≠b)/\∀p∈X.pn++pins,p.1≠b
theorem Inv.fpOk{H H':Hp}{s:ab}(I:Inv X pins σ H s)(hb:s.heap.objs.size<=b)(hn:H' b=none):AF X pins H' b:=by
 refine⟨hn,cM (bA I.lt hb),I.nofs hb,.inr (bF I.sz hb),λx c e z=>?_,λp hp z=>?_⟩
 ·obtain⟨v,q⟩:=I.cell x c e;exact ai (bA q.lt (by rw[z];exact hb)) (c7 _)
 ·exact ai (bA (ay (I.pin p hp).1) (by rw[z];exact hb)) (c7 _)
structure Turn(P:aq)(w:ak)(K:aj)(tg:Expr)(J:It)(fp:List Addr)(it:Addr)(tn:Nat->Heap->Prop):Prop where
 mem:it∈fp
 obj:∀i h,tn i h->∀b∈fp,∃o,h.get? b=some o/\∀v,o.data≠.cell v
 keep:∀i h h',tn i h->(∀b∈fp,∀o,h.get? b=some o->h'.get? b=some o)->tn i h'
 item:∀(X:Cx),X.prog=P->X.w=w->X.K=K->X.calm=true->∀(i:Nat) (pins:List (Addr×Obj)) (s:ab) (σ:St) (H:Hp) (E:aa->ab->Prop),Inv X pins σ H s->(∀b∈fp,AF X pins H b)->tn i s.heap->J.go i H->
  wpAny (model P w) X.A (pyNext (.ref it)) (λr s1=>∃u,r=some u/\
   wpAny (model P w) X.A (letOwnedTupleGo tg (.ref it) u) (λ_ s2=>∃x H',Inv X pins σ H' s2/\RelV x u/\J.yld i H x H'/\tn (i+1) s2.heap/\∀b∈fp,H' b=none) E s1) E s
 done:∀(X:Cx),X.prog=P->X.w=w->X.K=K->X.calm=true->∀(i:Nat) (pins:List (Addr×Obj)) (s:ab) (σ:St) (H:Hp) (E:aa->ab->Prop),Inv X pins σ H s->(∀b∈fp,AF X pins H b)->tn i s.heap->J.stop i H->
  wpAny (model P w) X.A (pyNext (.ref it)) (λr s1=>r=none/\Inv X pins σ H s1) E s
 self:∀(A:ar) (i:Nat) (s:ab) (Q:aa->ab->Prop) (E:aa->ab->Prop),tn i s.heap->Q (.ref it) s->wpAny (model P w) A (pyIter (.ref it)) Q E s
abbrev TI:=St->Hp->(It->Hp->Prop)->Prop
def PIE(X:Cx)(pins:List (Addr×Obj))(σ:St)(tg:Expr)(R:It->Hp->Prop)(itv:aa)(s2:ab):Prop:=
 ∃(it:Addr) (fp:List Addr) (tn:Nat->Heap->Prop) (J:It) (H':Hp),itv=.ref it/\Inv X pins σ H' s2/\Turn X.prog X.w X.K tg J fp it tn/\tn 0 s2.heap/\(∀b∈fp,AF X pins H' b)/\R J H'
def PI(X:Cx)(tg iter:Expr)(wi:TI):Prop:=
 ∀(pins:List (Addr×Obj)) (s:ab) (σ:St) (H:Hp) (R:It->Hp->Prop),Inv X pins σ H s->wi σ H R->
  wpAny (model X.prog X.w) X.A (eval iter X.env) (λv s1=>wpAny (model X.prog X.w) X.A (pyIter v) (PIE X pins σ tg R) X.xe s1) X.xe s
theorem FN{A:ar}{s:ab}{o:Obj}{n:String}{vs:Array aa}{Q:Unit->ab->Prop}(ho:s.heap.get? it=some o)(hc:o.cls=.type n)(hd:o.data=.fields vs)
  (hn:["enumerate", "zip", "dict_itemiterator", "dict_reverseitemiterator", "odict_iterator", "itertools.zip_longest", "itertools.pairwise"].contains n=false) (hQ:Q () s):wpAny M A (letOwnedTupleGo tg (.ref it) u) Q E s:=by
 unfold letOwnedTupleGo;cases tg<;>first
  |exact ao hQ
  |(cases u<;>first
    |exact ao hQ
    |(refine ae (jB ho ?_)
      rw[hc,hd];show wpAny M A (if (["enumerate", "zip", "dict_itemiterator", "dict_reverseitemiterator", "odict_iterator", "itertools.zip_longest", "itertools.pairwise"].contains n&&vs[0]?==some (rawInt _))=true then _ else _) Q E s;rw[af (by intro h;rw[hn,lK]at h;cases h)];exact ao hQ))
def Itl(K:aj)(a:Addr):It:=
 ⟨λi H=>∃xs x,SqL K H a xs/\xs[i]?=some x,λi H x H'=>H'=H/\∀xs,SqL K H a xs->xs[i]?=some x,λi H=>∃xs,SqL K H a xs/\xs.length<=i⟩
def Itt(K:aj)(a:Addr):It:=
 ⟨λi H=>∃xs x,SqT K H a xs/\xs[i]?=some x,λi H x H'=>H'=H/\∀xs,SqT K H a xs->xs[i]?=some x,λi H=>∃xs,SqT K H a xs/\xs.length<=i⟩
def Itr(lo:Int)(n:Nat):It:=⟨λi _=>i<n,λi H x H'=>H'=H/\x=.int (lo+i),λi _=>n<=i⟩
theorem GX{P:aq}{w:ak}{K:aj}(a it:Addr):Turn P w K tg (Itl K a) [it] it (λi h=>h.IsListIter it a i) where
 mem:=by simp
 obj:=λi h st b hb=>by
  have e:b=it:=by simpa using hb
  subst e;obtain⟨o,e,c,d⟩:=st;exact⟨o,e,λv z=>by rw[d]at z;cases z⟩
 keep:=λi h h' st k=>st.at λo e=>k it (by simp) o e
 item:=by intro X hP hw hK hc i pins s σ H E I hf st hg;subst hP hw hK;obtain⟨xs,x,hq,hx⟩:=hg;obtain⟨its,rv,p,hz⟩:=I.list hq;obtain⟨u,hu,ru⟩:=rv.get hx;obtain⟨f0,f1,f2,f3,f4,f5⟩:=hf it (by simp);refine wpAny_pyNext_list_item st p.isList (x:=u) (by simpa using hu) λh' st' sb=>?_;have I1:Inv X pins σ H { s with heap:=h' }:=I.turned (t':=s.toks) (λb o hb e=>(sb.2 b hb).trans e) f0 f1 f3 f4 f5;obtain⟨o,e,c,d⟩:=id st';exact⟨u,rfl,FN (s:={ s with heap:=h' }) e c d (by decide) ⟨x,H,I1,ru,⟨rfl,λys hy=>by rw[I.list_inj hy hq];exact hx⟩,st',λb hb=>(hf b hb).1⟩⟩
 done:=by intro X hP hw hK hc i pins s σ H E I hf st hg;subst hP hw hK;obtain⟨xs,hq,hx⟩:=hg;obtain⟨its,rv,p,hz⟩:=I.list hq;obtain⟨f0,f1,f2,f3,f4,f5⟩:=hf it (by simp);have hl:=rv.length;exact wpAny_pyNext_list_end (I.ok.hd hc) st p.isList (by simp;omega) λh' eb=>⟨rfl,I.turned (t':=s.toks) (λb o hb e=>eb b o hb e) f0 f1 f3 f4 f5⟩
 self:=λ_ _ _ _ _ st h=>wpAny_pyIter_listiter st h
theorem EG{P:aq}{w:ak}{K:aj}(a it:Addr):Turn P w K tg (Itt K a) [it] it (λi h=>h.IsTupleIter it a i) where
 mem:=by simp
 obj:=λi h st b hb=>by
  have e:b=it:=by simpa using hb
  subst e;obtain⟨o,e,c,d⟩:=st;exact⟨o,e,λv z=>by rw[d]at z;cases z⟩
 keep:=λi h h' st k=>st.at λo e=>k it (by simp) o e
 item:=by intro X hP hw hK hc i pins s σ H E I hf st hg;subst hP hw hK;obtain⟨xs,x,hq,hx⟩:=hg;obtain⟨its,rv,p,hz⟩:=I.tuple hq;obtain⟨u,hu,ru⟩:=rv.get hx;obtain⟨f0,f1,f2,f3,f4,f5⟩:=hf it (by simp);refine wpAny_pyNext_tuple_item st (show s.heap.IsTuple a its.toArray from p) (x:=u) (by simpa using hu) λh' st' sb=>?_;have I1:Inv X pins σ H { s with heap:=h' }:=I.turned (t':=s.toks) (λb o hb e=>(sb.2 b hb).trans e) f0 f1 f3 f4 f5;obtain⟨o,e,c,d⟩:=id st';exact⟨u,rfl,FN (s:={ s with heap:=h' }) e c d (by decide) ⟨x,H,I1,ru,⟨rfl,λys hy=>by rw[I.tuple_inj hy hq];exact hx⟩,st',λb hb=>(hf b hb).1⟩⟩
 done:=by intro X hP hw hK hc i pins s σ H E I hf st hg;subst hP hw hK;obtain⟨xs,hq,hx⟩:=hg;obtain⟨its,rv,p,hz⟩:=I.tuple hq;obtain⟨f0,f1,f2,f3,f4,f5⟩:=hf it (by simp);have hl:=rv.length;exact wpAny_pyNext_tuple_end (I.ok.hd hc) st (show s.heap.IsTuple a its.toArray from p) (by simp;omega) λh' eb=>⟨rfl,I.turned (t':=s.toks) (λb o hb e=>eb b o hb e) f0 f1 f3 f4 f5⟩
 self:=λ_ _ _ _ _ st h=>wpAny_pyIter_tupleiter st h
theorem EH{P:aq}{w:ak}{K:aj}(it:Addr)(lo:Int)(n:Nat):Turn P w K tg (Itr lo n) [it] it (λi h=>IsRangeIter h it (lo+(i:Nat) * 1) ((n:Int) - (i:Nat)) 1) where
 mem:=by simp
 obj:=λi h st b hb=>by
  have e:b=it:=by simpa using hb
  subst e;exact⟨_,st,λv z=>by
   have z':Data.fields _=Data.cell v:=z;cases z'⟩
 keep:=λi h h' st k=>k it (by simp) _ st
 item:=by intro X hP hw hK hc i pins s σ H E I hf st hg;subst hP hw hK;obtain⟨f0,f1,f2,f3,f4,f5⟩:=hf it (by simp);have W:=Walks.range (prog:=X.prog) (w:=X.w) (I.ok.hd hc) it lo 1 n;refine W.item i s _ _ hg st λv h' tk hv st' kk=>?_;obtain⟨t,rfl⟩:=hv;have I1:Inv X pins σ H { s with heap:=h',toks:=tk }:=I.turned (λb o hb e=>kk b o (by simpa using hb) e) f0 f1 f3 f4 f5;refine⟨_,rfl,FN (s:={ s with heap:=h',toks:=tk }) (n:="range_iterator") st' rfl rfl (by decide) ⟨.int (lo+i),H,I1,⟨t,?_⟩,⟨rfl,rfl⟩,st',λb hb=>(hf b hb).1⟩⟩;rw[Int.mul_one]
 done:=by intro X hP hw hK hc i pins s σ H E I hf st hg;subst hP hw hK;obtain⟨f0,f1,f2,f3,f4,f5⟩:=hf it (by simp);exact wpAny_pyNext_range_end (I.ok.hd hc) st (by have:n<=i:=hg;omega) λh' eb=>⟨rfl,I.turned (t':=s.toks) (λb o hb e=>eb b o hb e) f0 f1 f3 f4 f5⟩
 self:=λ_ _ _ _ _ st h=>wpAny_pyIter_rangeiter st h
variable{l:Expr}{tl:TE}
section
variable{X:Cx}{tg:Expr}
def IB(K:aj)(tl:TE):TI:=λσ H R=>tl σ H λx H1=>∃a,x=.ref a/\(∃xs,SqL K H1 a xs)/\R (Itl K a) H1
def OP(K:aj)(tl:TE):TI:=λσ H R=>tl σ H λx H1=>∃a,x=.ref a/\(∃xs,SqT K H1 a xs)/\R (Itt K a) H1
theorem LC(hl:PE X l tl):PI X tg l (IB X.K tl):=by
 intro pins s σ H R I h;refine thn (hl pins s σ H _ I h) λv s1 ⟨x,H1,I1,r1,q1⟩=>?_;obtain⟨a,e,⟨xs,hq⟩,q⟩:=q1;subst e;cases r1;obtain⟨its,rv,p,hz⟩:=I1.list hq;refine fo p.isList ?_;refine⟨s1.heap.objs.size,[s1.heap.objs.size],_,_,H1,rfl,I1.kept (t':=s1.toks) λb o e=>av _ e,GX a _,⟨_,aP _ rfl,rfl,rfl⟩,λb hb=>?_,q⟩;have e:b=s1.heap.objs.size:=by simpa using hb
 subst e;exact I1.fpOk (aw _) (I1.hok.fresh (aw _))
theorem OQ(hl:PE X l tl):PI X tg l (OP X.K tl):=by
 intro pins s σ H R I h;refine thn (hl pins s σ H _ I h) λv s1 ⟨x,H1,I1,r1,q1⟩=>?_;obtain⟨a,e,⟨xs,hq⟩,q⟩:=q1;subst e;cases r1;obtain⟨its,rv,p,hz⟩:=I1.tuple hq;refine kA (show s1.heap.IsTuple a its.toArray from p) ?_;refine⟨s1.heap.objs.size,[s1.heap.objs.size],_,_,H1,rfl,I1.kept (t':=s1.toks) λb o e=>av _ e,EG a _,⟨_,aP _ rfl,rfl,rfl⟩,λb hb=>?_,q⟩;have e:b=s1.heap.objs.size:=by simpa using hb
 subst e;exact I1.fpOk (aw _) (I1.hok.fresh (aw _))
theorem IC{H:Hp}{s:ab}{R:It->Hp->Prop}{lo hi:Int}{t u v:Tok}{tk:Nat}(I:Inv X pins σ H s)(h1:-(2 ^ 62)<=lo)(h2:lo<2 ^ 62)(h3:-(2 ^ 62)<=hi)(h4:hi<2 ^ 62)
  (q:R (Itr lo (hi - lo).toNat) H):wpAny (model X.prog X.w) X.A (pyIter (.ref s.heap.objs.size)) (PIE X pins σ tg R) E { s with heap:=s.heap.push { cls:=.type "range", data:=.fields #[.int lo t,.int hi u,.int 1 v] },toks:=tk }:=by
 refine wpAny_pyIter_range (IsRange.new ..) (small_one h1 h2 h3 h4) ?_;have I1:Inv X pins σ H { s with heap:=s.heap.push { cls:=.type "range", data:=.fields #[.int lo t,.int hi u,.int 1 v] },toks:=tk }:=I.kept λb o e=>av _ e;refine⟨(s.heap.push { cls:=.type "range", data:=.fields #[.int lo t,.int hi u,.int 1 v] }).objs.size,[(s.heap.push { cls:=.type "range", data:=.fields #[.int lo t,.int hi u,.int 1 v] }).objs.size],_,_,H,rfl,
  I1.kept (t':=tk) λb o e=>av _ e,EH _ lo (hi - lo).toNat,?_,λb hb=>?_,q⟩
 ·have e1:lo+((0:Nat):Int) * 1=lo:=by simp
  have e2:(((hi - lo).toNat:Nat):Int) - ((0:Nat):Int)=Builtin.Range.rangeSize lo hi 1:=by rw[rangeSize_one];split<;>omega
  show IsRangeIter _ _ (lo+((0:Nat):Int) * 1) ((((hi - lo).toNat:Nat):Int) - ((0:Nat):Int)) 1;rw[e1,e2];exact aP _ rfl
 ·have e:b=(s.heap.push { cls:=.type "range", data:=.fields #[.int lo t,.int hi u,.int 1 v] }).objs.size:=by simpa using hb
  subst e;exact I1.fpOk (aw _) (I1.hok.fresh (aw _))
def N9(ta:TA):TI:=λσ H R=>ta σ H λvs H1=>∃j:Int,vs=[.int j]/\-(2 ^ 62)<=j/\j<2 ^ 62/\R (Itr 0 j.toNat) H1
theorem GY{a:Expr}{ta:TA}{p:Pos}(hg:Gl X "range")(hm:X.mg "range" = none)(ha:PA X [a] ta)(hs:starEach [a] X.env=[(false,eval a X.env)]:=by rfl):PI X tg (.Call (.Name "range" p) [a] [] pos) (N9 ta):=by
 intro pins s σ H R I h;refine Call_ (tT I hg hm boot_range (callWith_type1 (thn (ha pos pins s σ H _ I h) λus s1 ⟨vs,H1,I1,r1,q1⟩=>?_) hs rfl));obtain⟨j,e,q1,q2,q⟩:=q1;subst e;cases r1 with
 |cons r rr=>cases rr;obtain⟨t,rfl⟩:=r;exact call_range_1 (IC I1 (by omega) (by omega) q1 q2 (by simpa using q))
def OR(wi:TI)(g:TG)(tb:TS):TS:=λD σ H=>wi σ H λJ H1=>∃W:Nat->Nat->St->Hp->Prop,(∃m,W 0 m σ H1)/\∀i m σ H,W i m σ H->
 (J.stop i H/\D.nx σ H)\/(J.go i H/\∃N:St->Hp->Prop,(∀σ' H',N σ' H'->∃m',m'<m/\W (i+1) m' σ' H')/\∀x H',J.yld i H x H'->g x σ H' λσ2 H2=>tb { D with nx:=N,ct:=N,bk:=D.nx } σ2 H2)
def zl(fp:List Addr)(h:Heap):List (Addr×Obj):=fp.filterMap λb=>(h.get? b).map λo=>(b,o)
theorem rN{fp:List Addr}{h:Heap}{o:Obj}(hb:b∈fp)(e:h.get? b=some o):(b,o)∈zl fp h:=ik.mpr ⟨b,hb,by rw[e];rfl⟩
theorem GZ{fp:List Addr}{h:Heap}{p:Addr×Obj}(hp:p∈zl fp h):p.1∈fp/\h.get? p.1=some p.2:=by
 obtain⟨b,hb,e⟩:=ik.mp hp;cases q:h.get? b with
 |none=>rw[q]at e;cases e
 |some o=>rw[q]at e;have e':(b,o)=p:=bQ e;subst e';exact⟨hb,q⟩
theorem Inv.pinned{H:Hp}{s:ab}{fp:List Addr}(I:Inv X pins σ H s)(hf:∀b∈fp,AF X pins H b)(ho:∀b∈fp,∃o,s.heap.get? b=some o/\∀v,o.data≠.cell v):Inv X (pins++zl fp s.heap) σ H s:=
 I.pins_of λp hp=>(bX.mp hp).elim (λz=>I.pin p (bM _ z)) λz=>by obtain⟨hb,e⟩:=GZ z;obtain⟨f0,f1,f2,_⟩:=hf p.1 hb;obtain⟨o,e',d⟩:=ho p.1 hb;rw[e]at e';cases e';exact⟨e,f0,f1,f2,d⟩
theorem Inv.unpinned{pl:List (Addr×Obj)}{H:Hp}{s:ab}(I:Inv X (pins++pl) σ H s):Inv X pins σ H s:=I.pins_of λp hp=>I.pin p (bM _ (bW _ hp))
theorem ID{iter:Expr}{wi:TI}{g:TG}(hp:gR (model X.prog X.w) X.A X.env X.xe)(hc:X.calm=true)(hi:PI X tg iter wi)(hg:PG X tg g)(hb:PSs X body tb)
  (hs:∀x,foldedSetIterable iter X.env x=pure x:=by intro _;rfl):PS X (.For tg iter body [] pos) (OR wi g tb):=by
 intro pins s σ H D I h;refine wpAny_For (thn (hi pins s σ H _ I h) λv s1 h1=>thn h1 λitv s2 h2=>?_) hs;obtain⟨it,fp,tn,J,H2,e,I2,T,st2,f2,W,⟨m0,w0⟩,turn⟩:=h2;subst e;have stat:∀{H':Hp},(∀b∈fp,H' b=none)->∀b∈fp,AF X pins H' b:=λhn b hb=>⟨hn b hb,(f2 b hb).2⟩;refine codeAny_forLoop_any (λn s'=>∃i σ' H',Inv X pins σ' H' s'/\tn i s'.heap/\(∀b∈fp,H' b=none)/\W i n σ' H') ?_ m0 ⟨0,σ,H2,I2,st2,λb hb=>(f2 b hb).1,w0⟩;rintro n s3 ⟨i,σ3,H3,I3,st3,fr3,w3⟩;rcases turn i n σ3 H3 w3 with ⟨stop,qn⟩|⟨go,N,hN,step⟩
 ·refine dv hp (thn (T.done X rfl rfl rfl hc i pins s3 σ3 H3 X.xe I3 (stat fr3) st3 stop) λr s4 ⟨hr,I4⟩=>?_);subst hr;exact gw ⟨σ3,H3,I4,qn⟩
 ·refine dv hp (thn (T.item X rfl rfl rfl hc i pins s3 σ3 H3 X.xe I3 (stat fr3) st3 go) λr s4 ⟨u,hr,h4⟩=>?_);subst hr;refine dv hp (thn h4 λ_ s5 ⟨x,H5,I5,r5,y5,st5,fr5⟩=>?_);have I5':=I5.pinned (stat fr5) (T.obj _ _ st5);refine dv hp (thn (hg _ s5 σ3 H5 x u _ I5' r5 (step x H5 y5)) λ_ s6 ⟨σ6,H6,I6,q6⟩=>?_);refine dv hp (thn (hb _ s6 σ6 H6 _ I6 q6) λf s7 q7=>?_);have again:∀{σ7:St} {H7:Hp},Inv X (pins++zl fp s5.heap) σ7 H7 s7->N σ7 H7->∃m,m<n/\∃i σ' H',Inv X pins σ' H' s7/\tn i s7.heap/\(∀b∈fp,H' b=none)/\W i m σ' H':=λ{σ7 H7} I7 n7=>by obtain⟨m',hm,w7⟩:=hN σ7 H7 n7;refine⟨m',hm,i+1,σ7,H7,I7.unpinned,T.keep _ _ _ st5 λb hb o e=>(I7.pin (b,o) (bM _ (bM _ (rN hb e)))).1,λb hb=>?_,w7⟩;obtain⟨o,e,d⟩:=T.obj _ _ st5 b hb;exact(I7.pin (b,o) (bM _ (bM _ (rN hb e)))).2.1
  cases f with
  |next=>obtain⟨σ7,H7,I7,n7⟩:=q7;exact again I7 n7
  |cont=>obtain⟨σ7,H7,I7,n7⟩:=q7;exact again I7 n7
  |brk=>obtain⟨σ7,H7,I7,q7⟩:=q7;exact⟨σ7,H7,I7.unpinned,q7⟩
  |ret v=>obtain⟨x7,σ7,H7,I7,r7,q7⟩:=q7;exact⟨x7,σ7,H7,I7.unpinned,r7,q7⟩
end
abbrev R2:=V->V->Hp->VK->Prop
def OpR(X:Cx)(f:aa->aa->Sem aa)(r:R2):Prop:=
 ∀(pins:List (Addr×Obj)) (s:ab) (σ:St) (H:Hp) (x y:V) (v u:aa) (Q:VK),Inv X pins σ H s->RelV x v->RelV y u->r x y H Q->
  wpAny (model X.prog X.w) X.A (f v u) (EP X pins σ Q) X.xe s
def oa(X:Cx)(f:aa)(r:List V->Hp->VK->Prop):Prop:=
 ∀(pins:List (Addr×Obj)) (s:ab) (σ:St) (H:Hp) (xs:List V) (us:List aa) (Q:VK),Inv X pins σ H s->Vals xs us->r xs H Q->
  wpAny (model X.prog X.w) X.A (call f us) (EP X pins σ Q) X.xe s
def tOp(r:R2)(ta tb:TE):TE:=λσ H Q=>ta σ H λx H1=>tb σ H1 λy H2=>r x y H2 Q
def rI(C:Int->Int->Prop)(g:Int->Int->V):R2:=λx y H Q=>∃i j,x=.int i/\y=.int j/\C i j/\Q (g i j) H
def rI0(g:Int->Int->V):R2:=λx y H Q=>∃i j,x=.int i/\y=.int j/\Q (g i j) H
variable{f:aa->aa->Sem aa}{r:R2}
section
variable{X:Cx}{a b c:Expr}{ta tb tc:TE}{pos:Pos}
theorem OS(ha:PE X a ta)(hb:PE X b tb){s:ab}{H:Hp}(I:Inv X pins σ H s)
  (h:ta σ H λx H1=>tb σ H1 λy H2=>R x y H2)
  (hf:∀v u s2 x y H2,Inv X pins σ H2 s2->RelV x v->RelV y u->R x y H2->wpAny (model X.prog X.w) X.A (f v u) Q X.xe s2):
  wpAny (model X.prog X.w) X.A (eval a X.env) (λv s₁=>wpAny (model X.prog X.w) X.A (eval b X.env) (λu s₂=>wpAny (model X.prog X.w) X.A (f v u) Q X.xe s₂) X.xe s₁) X.xe s:=by
 refine thn (ha pins s σ H _ I h) λv s1 ⟨x,H1,I1,r1,q1⟩=>?_;refine thn (hb pins s1 σ H1 _ I1 q1) λu s2 ⟨y,H2,I2,r2,q2⟩=>?_;exact hf v u s2 x y H2 I2 r1 r2 q2
theorem IE{op:gS}(ho:OpR X (binaryOp op) r)(ha:PE X a ta)(hb:PE X b tb):PE X (.BinOp a op b pos) (tOp r ta tb):=by intro pins s σ H Q I h;exact wpAny_BinOp (OS ha hb I h λv u s2 x y H2 I2 rx ry q=>ho pins s2 σ H2 x y v u Q I2 rx ry q)
theorem opI{C:Int->Int->Prop}{g:Int->Int->Int}
  (rule:∀(i j:Int) (t u:Tok) (s:ab) (Q:aa->ab->Prop) (E:aa->ab->Prop),C i j->Q (.int (g i j) s.toks) { s with toks:=s.toks+1 }->wpAny (model X.prog X.w) X.A (f (.int i t) (.int j u)) Q E s):
  OpR X f (rI C λi j=>.int (g i j)):=by
 intro pins s σ H x y v u Q I rx ry h;obtain⟨i,j,rfl,rfl,hc,q⟩:=h;obtain⟨t,rfl⟩:=rx;obtain⟨t',rfl⟩:=ry;exact rule i j t t' s _ _ hc ⟨.int (g i j),H,I.tok _,⟨_,rfl⟩,q⟩
theorem SW{g:Int->Int->Int}
  (rule:∀(i j:Int) (t u:Tok) (s:ab) (Q:aa->ab->Prop) (E:aa->ab->Prop),Q (.int (g i j) s.toks) { s with toks:=s.toks+1 }->wpAny (model X.prog X.w) X.A (f (.int i t) (.int j u)) Q E s):
  OpR X f (rI0 λi j=>.int (g i j)):=by
 intro pins s σ H x y v u Q I rx ry h;obtain⟨i,j,rfl,rfl,q⟩:=h;obtain⟨t,rfl⟩:=rx;obtain⟨t',rfl⟩:=ry;exact rule i j t t' s _ _ ⟨.int (g i j),H,I.tok _,⟨_,rfl⟩,q⟩
theorem LD{g:Int->Int->Bool}
  (rule:∀(i j:Int) (t u:Tok) (s:ab) (Q:aa->ab->Prop) (E:aa->ab->Prop),Q (.bool (g i j)) s->wpAny (model X.prog X.w) X.A (f (.int i t) (.int j u)) Q E s):
  OpR X f (rI0 λi j=>.bl (g i j)):=by
 intro pins s σ H x y v u Q I rx ry h;obtain⟨i,j,rfl,rfl,q⟩:=h;obtain⟨t,rfl⟩:=rx;obtain⟨t',rfl⟩:=ry;exact rule i j t t' s _ _ ⟨.bl (g i j),H,I,rfl,q⟩
def OT(i j:Int):Prop:=0<j/\j<1073741824
def SX(i j:Int):Prop:=0<=j/\j<=1000000/\i.natAbs<2 ^ 64
def LF(i j:Int):Prop:=(-(2 ^ 64)<i/\i<2 ^ 64)\/(-(2 ^ 64)<j/\j<2 ^ 64)
theorem LF.ok{i j:Int}(h:LF i j):IntMulOk i j:=by
 rcases h with ⟨h1,h2⟩|⟨h1,h2⟩
 ·exact .of_left (intBits_le_64 h1 h2)
 ·exact .of_right (intBits_le_64 h1 h2)
theorem OU:OpR X (binaryOp .Add) (rI0 λi j=>.int (i+j)):=SW λ_ _ _ _ _ _ _ q=>add_int q
theorem OV:OpR X (binaryOp .Sub) (rI0 λi j=>.int (i - j)):=SW λ_ _ _ _ _ _ _ q=>sub_int q
theorem OW:OpR X (binaryOp .Mult) (rI LF λi j=>.int (i * j)):=opI λ_ _ _ _ _ _ _ hc q=>mul_int q hc.ok
theorem LG:OpR X (binaryOp .FloorDiv) (rI OT λi j=>.int (i / j)):=opI λi j _ _ _ _ _ hc q=>by have h1:(0:Int)<j:=hc.1;have h2:j<1073741824:=hc.2;exact floordiv_int (by omega) (by rw[Int.fdiv_eq_ediv_of_nonneg i (by omega)];exact q) (.inl (PyProof.noPylong_small (by omega)))
theorem OX:OpR X (binaryOp .Mod) (rI (λ_ j=>0<j) λi j=>.int (i % j)):=opI λi j _ _ _ _ _ hc q=>by have h1:(0:Int)<j:=hc;exact mod_int' (by omega) (by rw[Int.fmod_eq_emod_of_nonneg i (by omega)];exact q)
theorem OY:OpR X (binaryOp .Pow) (rI SX λi j=>.int (i ^ j.toNat)):=opI λ_ _ _ _ _ _ _ hc q=>pow_int_small hc.1 hc.2.1 hc.2.2 q
end
def IF:V->V->Bool
 |.non,.non=>true|.non,.int _=>true|.int _,.non=>true|.non,.bl _=>true|.bl _,.non=>true|.non,.str _=>true|.str _,.non=>true
 |.int _,.int _=>true|.bl _,.bl _=>true|.str _,.str _=>true|.byt _,.byt _=>true
 |.int _,.str _=>true|.str _,.int _=>true|.bl _,.str _=>true|.str _,.bl _=>true
 |_,_=>false
def rEq:R2:=λx y H Q=>IF x y=true/\Q (.bl (decide (x=y))) H
def rNe:R2:=λx y H Q=>IF x y=true/\Q (.bl (!decide (x=y))) H
theorem FP{i j:Int}:decide (V.int i=V.int j)=(i==j):=by rw[c3];simp
theorem IG{i j:Bool}:decide (V.bl i=V.bl j)=(i==j):=by rw[c3];simp
theorem FQ{i j:Str}:decide (V.str i=V.str j)=(i==j):=by rw[c3];simp
theorem FR{i j:Array UInt8}:decide (V.byt i=V.byt j)=(i.toList==j.toList):=by rw[c3];cases i;cases j;simp
variable{op':dP}{r':R2}
section
variable{X:Cx}{a b c:Expr}{ta tb tc:TE}{pos:Pos}
theorem ng{H:Hp}{s:ab}{Q:VK}{k k':Bool}(I:Inv X pins σ H s)(q:Q (.bl k) H)(e:k=k'):EP X pins σ Q (.bool k') s:=by subst e;exact⟨.bl k,H,I,rfl,q⟩
theorem SY:OpR X (compareOp .Eq) rEq:=by
 intro pins s σ H x y v u Q I rx ry h;obtain⟨hs,q⟩:=h;cases x with
 |non=>
  cases rx;cases y with
  |non=>cases ry;exact PySem.EqNone.eq_none_none (ng I q (by simp))
  |bl j=>cases ry;exact PySem.EqNone.eq_none_bool (ng I q (by simp))
  |int j=>obtain⟨t',rfl⟩:=ry;exact PySem.EqNone.eq_none_int (ng I q (by simp))
  |str j=>obtain⟨t',rfl⟩:=ry;exact PySem.EqNone.eq_none_str (ng I q (by simp))
  |_=>exact ai (show false=true from hs) aR
 |bl i=>
  cases rx;cases y with
  |non=>cases ry;exact PySem.EqNone.eq_bool_none (ng I q (by simp))
  |bl j=>cases ry;exact eq_bool (ng I q IG)
  |str j=>obtain⟨t',rfl⟩:=ry;exact PySem.EqMixed.eq_bool_str (ng I q (by simp))
  |_=>exact ai (show false=true from hs) aR
 |int i=>
  obtain⟨t,rfl⟩:=rx;cases y with
  |non=>cases ry;exact PySem.EqNone.eq_int_none (ng I q (by simp))
  |int j=>obtain⟨t',rfl⟩:=ry;exact eq_int (ng I q FP)
  |str j=>obtain⟨t',rfl⟩:=ry;exact PySem.EqMixed.eq_int_str (ng I q (by simp))
  |_=>exact ai (show false=true from hs) aR
 |str i=>
  obtain⟨t,rfl⟩:=rx;cases y with
  |non=>cases ry;exact PySem.EqNone.eq_str_none (ng I q (by simp))
  |bl j=>cases ry;exact PySem.EqMixed.eq_str_bool (ng I q (by simp))
  |int j=>obtain⟨t',rfl⟩:=ry;exact PySem.EqMixed.eq_str_int (ng I q (by simp))
  |str j=>obtain⟨t',rfl⟩:=ry;exact eq_str (ng I q FQ)
  |_=>exact ai (show false=true from hs) aR
 |byt i=>
  obtain⟨t,rfl⟩:=rx;cases y with
  |byt j=>obtain⟨t',rfl⟩:=ry;exact W.eq_bytes (ng I q FR)
  |_=>exact ai (show false=true from hs) aR
 |_=>cases y<;>exact ai (show false=true from hs) aR
theorem SZ:OpR X (compareOp .NotEq) rNe:=by
 intro pins s σ H x y v u Q I rx ry h;obtain⟨hs,q⟩:=h;cases x with
 |non=>
  cases rx;cases y with
  |non=>cases ry;exact PySem.EqNone.ne_none_none (ng I q (by simp))
  |bl j=>cases ry;exact PySem.EqNone.ne_none_bool (ng I q (by simp))
  |int j=>obtain⟨t',rfl⟩:=ry;exact PySem.EqNone.ne_none_int (ng I q (by simp))
  |str j=>obtain⟨t',rfl⟩:=ry;exact PySem.EqNone.ne_none_str (ng I q (by simp))
  |_=>exact ai (show false=true from hs) aR
 |bl i=>
  cases rx;cases y with
  |non=>cases ry;exact PySem.EqNone.ne_bool_none (ng I q (by simp))
  |bl j=>cases ry;exact ne_bool (ng I q (aN not IG))
  |str j=>obtain⟨t',rfl⟩:=ry;exact PySem.EqMixed.ne_bool_str (ng I q (by simp))
  |_=>exact ai (show false=true from hs) aR
 |int i=>
  obtain⟨t,rfl⟩:=rx;cases y with
  |non=>cases ry;exact PySem.EqNone.ne_int_none (ng I q (by simp))
  |int j=>obtain⟨t',rfl⟩:=ry;exact ne_int (ng I q (aN not FP))
  |str j=>obtain⟨t',rfl⟩:=ry;exact PySem.EqMixed.ne_int_str (ng I q (by simp))
  |_=>exact ai (show false=true from hs) aR
 |str i=>
  obtain⟨t,rfl⟩:=rx;cases y with
  |non=>cases ry;exact PySem.EqNone.ne_str_none (ng I q (by simp))
  |bl j=>cases ry;exact PySem.EqMixed.ne_str_bool (ng I q (by simp))
  |int j=>obtain⟨t',rfl⟩:=ry;exact PySem.EqMixed.ne_str_int (ng I q (by simp))
  |str j=>obtain⟨t',rfl⟩:=ry;exact ne_str (ng I q (aN not FQ))
  |_=>exact ai (show false=true from hs) aR
 |byt i=>
  obtain⟨t,rfl⟩:=rx;cases y with
  |byt j=>obtain⟨t',rfl⟩:=ry;exact W.ne_bytes (ng I q (aN not FR))
  |_=>exact ai (show false=true from hs) aR
 |_=>cases y<;>exact ai (show false=true from hs) aR
theorem S0:OpR X (compareOp .Lt) (rI0 λi j=>.bl (decide (i<j))):=LD λ_ _ _ _ _ _ _ q=>lt_int q
theorem S4:OpR X (compareOp .LtE) (rI0 λi j=>.bl (decide (i<=j))):=LD λ_ _ _ _ _ _ _ q=>le_int q
theorem S5:OpR X (compareOp .Gt) (rI0 λi j=>.bl (decide (j<i))):=LD λ_ _ _ _ _ _ _ q=>gt_int q
theorem S6:OpR X (compareOp .GtE) (rI0 λi j=>.bl (decide (j<=i))):=LD λ_ _ _ _ _ _ _ q=>ge_int q
theorem OZ:OpR X (compareOp .Is) (λx y H Q=>y=.non/\Q (.bl (decide (x=.non))) H):=by
 intro pins s σ H x y v u Q I rx ry h;obtain⟨rfl,q⟩:=h;cases ry;refine is_none_gen (ng I q ?_);cases x<;>first
  |(cases rx;rfl)
  |(obtain⟨t,rfl⟩:=rx;rfl)
theorem LH:OpR X (compareOp .IsNot) (λx y H Q=>y=.non/\Q (.bl (!decide (x=.non))) H):=by
 intro pins s σ H x y v u Q I rx ry h;obtain⟨rfl,q⟩:=h;cases ry;refine isnot_none_gen (ng I q ?_);cases x<;>first
  |(cases rx;rfl)
  |(obtain⟨t,rfl⟩:=rx;rfl)
theorem LI(ho:OpR X (compareOp op) r)(ha:PE X a ta)(hb:PE X b tb)(hm:behindInMarks op b=false):PE X (.Compare a [op] [b] pos) (tOp r ta tb):=by intro pins s σ H Q I h;exact wpAny_Compare1 (OS ha hb I h λv u s2 x y H2 I2 rx ry q=>ho pins s2 σ H2 x y v u Q I2 rx ry q) hm
def IH(t:TE):TT:=λσ H Q=>t σ H λx H'=>∃k,x=.bl k/\Q k H'
theorem LJ(ho:OpR X (compareOp op) r)(ha:PE X a ta)(hb:PE X b tb)(hm:behindInMarks op b=false):PT X (.Compare a [op] [b] pos) (IH (tOp r ta tb)):=by
 intro pins s σ H Q I h;refine jY (thn (ha pins s σ H _ I h) λv s1 ⟨x,H1,I1,r1,q1⟩=>thn (hb pins s1 σ H1 _ I1 q1) λu s2 ⟨y,H2,I2,r2,q2⟩=>
  thn (ho pins s2 σ H2 x y v u _ I2 r1 r2 q2) λc s3 ⟨z,H3,I3,r3,k,e,q3⟩=>?_) hm
 subst e;cases r3;exact cb ⟨H3,I3,q3⟩
def EI(r r':R2)(ta tb tc:TE):TE:=λσ H Q=>ta σ H λx H1=>tb σ H1 λy H2=>r x y H2 λz H3=>∃k,z=.bl k/\
 (if k=true then tc σ H3 λw' H4=>r' y w' H4 Q else Q (.bl false) H3)
theorem II(ho:OpR X (compareOp op) r)(ho':OpR X (compareOp op') r')(ha:PE X a ta)(hb:PE X b tb)(hc:PE X c tc)
  (hm:lastMarks [op,op'] [b,c]=false:=by with_unfolding_all rfl):PE X (.Compare a [op,op'] [b,c] pos) (EI r r' ta tb tc):=by
 intro pins s σ H Q I h;refine Compare_chain (thn (ha pins s σ H _ I h) λv s1 ⟨x,H1,I1,r1,q1⟩=>chain_link (thn (hb pins s1 σ H1 _ I1 q1) λu s2 ⟨y,H2,I2,r2,q2⟩=>
  thn (ho pins s2 σ H2 x y v u _ I2 r1 r2 q2) λd s3 ⟨z,H3,I3,r3,k,e,q3⟩=>?_)) hm
 subst e;cases r3;refine cb ?_;cases k with
 |false=>exact ite_ff ⟨.bl false,H3,I3,rfl,q3⟩
 |true=>exact ite_tt (chain_last (thn (hc pins s3 σ H3 _ I3 q3) λw' s4 ⟨z',H4,I4,r4,q4⟩=>ho' pins s4 σ H4 y z' u w' Q I4 r2 r4 q4))
theorem IJ(ho:OpR X (compareOp op) r)(ho':OpR X (compareOp op') r')(ha:PE X a ta)(hb:PE X b tb)(hc:PE X c tc)
  (hm:lastMarks [op,op'] [b,c]=false:=by with_unfolding_all rfl):PT X (.Compare a [op,op'] [b,c] pos) (IH (EI r r' ta tb tc)):=by
 intro pins s σ H Q I h;refine isTrue_chain (thn (ha pins s σ H _ I h) λv s1 ⟨x,H1,I1,r1,q1⟩=>test_link (thn (hb pins s1 σ H1 _ I1 q1) λu s2 ⟨y,H2,I2,r2,q2⟩=>
  thn (ho pins s2 σ H2 x y v u _ I2 r1 r2 q2) λd s3 ⟨z,H3,I3,r3,k,e,q3⟩=>?_)) hm
 subst e;cases r3;refine cb ?_;cases k with
 |false=>obtain⟨k',e',q'⟩:=q3;cases e';exact ite_ff ⟨H3,I3,q'⟩
 |true=>refine ite_tt (test_last (thn (hc pins s3 σ H3 _ I3 q3) λw' s4 ⟨z',H4,I4,r4,q4⟩=>thn (ho' pins s4 σ H4 y z' u w' _ I4 r2 r4 q4) λd' s5 ⟨z2,H5,I5,r5,k2,e2,q5⟩=>?_));subst e2;cases r5;exact cb ⟨H5,I5,q5⟩
theorem zm:(sizeLine:Nat)<2 ^ 63:=by rw[aT];decide
theorem vals1{x:V}(r:Vals [x] us):∃u,us=[u]/\RelV x u:=by
 cases r with
 |cons r1 r2=>cases r2;exact⟨_,rfl,r1⟩
theorem vals2{x:V}(r:Vals [x,y] us):∃u w',us=[u,w']/\RelV x u/\RelV y w':=by
 cases r with
 |cons r1 r2=>
  cases r2 with
  |cons r3 r4=>cases r4;exact⟨_,_,rfl,r1,r3⟩
theorem G0:oa X (.type "int") (λxs H Q=>(∃i,xs=[.int i]/\Q (.int i) H)\/∃k,xs=[.bl k]/\Q (.int (if k then 1 else 0)) H):=by
 intro pins s σ H xs us Q I r h;rcases h with ⟨i,rfl,q⟩|⟨k,rfl,q⟩
 ·obtain⟨u,rfl,t,rfl⟩:=vals1 r;exact call_int_int ⟨.int i,H,I,⟨_,rfl⟩,q⟩
 ·obtain⟨u,rfl,r1⟩:=vals1 r;cases r1;exact call_int_bool ⟨.int (if k then 1 else 0),H,I.tok _,⟨_,rfl⟩,q⟩
end
structure EJ(h:Heap)(x dx C:Addr)(mA:Str->Option aa):Prop where
 obj:h.get? x=some (dc C dx)
 ns:h.Ns1 dx mA
 ne:dx≠x
variable{dx:Addr}{mA:Str->Option aa}
theorem G1{h:Heap}(n:h.Ns1 dx mA):∃od,h.get? dx=some od/\∀name,gU name od=some (mA name):=by
 obtain⟨o,es,ep,ho,hd,hk,_,hm⟩:=n;refine⟨o,ho,λname=>?_⟩;have e:=hm name;unfold nsFind findBy at e;rw[<-Array.find?_toList]at e;unfold gU;rw[hd];dsimp only;split
 ·rename_i y q;rw[q]at e;exact aN some e
 ·rename_i q;rw[q]at e;have a:es.toList.any (·.refKey)=false:=by rw[gd];intro y hy;obtain⟨z,t,hkey⟩:=hk y (Array.mem_toList_iff.mp hy);simp[DictEntry.refKey,hkey]
  have a':¬es.toList.any (·.refKey)=true:=by rw[a];exact aR
  rw[af a'];exact aN some e
variable{C:Addr}
theorem EJ.look{h:Heap}{x:Addr}(I:EJ h x dx C mA):∃od,W.InstAt h x (dc C dx) C (some od)/\∀name,gU name od=some (mA name):=
 let ⟨od,ho,hl⟩:=G1 I.ns
 ⟨od,⟨I.obj,rfl,rfl,ho⟩,hl⟩
variable{kw:List (Str×aa)}
section
variable{prog:aq}{w:ak}{A:ar}{E:aa->ab->Prop}{s:ab}{K:aj}{x dx C f:Addr}{mA:Str->Option aa}{name:Str}{v:aa}
theorem get_map{expr:Bool}(X:K.In s.heap)(I:EJ s.heap x dx C mA)(hg:gH K C name=true)(hh:jt K C=true)
  (ha:ck K (.ref C) name=some none) (hv:mA name=some v) (hv':W.handedIn v=true) (h:Q v { s with toks:=s.toks+1 }):
  wpAny (model prog w) A (getAttr (.ref x) name expr) Q E s:=by
 obtain⟨od,J,hl⟩:=I.look;exact W.get_value X J (je hg).1 (W.findObj_own hh ha rfl (by rw[hl,hv])) hv' h
theorem IK{pl:Sem Bool}{Q:aa×List aa->ab->Prop}(X:K.In s.heap)(I:EJ s.heap x dx C mA)(hg:gH K C name=true)
  (hf:ck K (.ref C) name=some (some (.ref f))) (ht:W.isFn K (.ref f)=true) (hv:mA name=none) (h:Q (.ref f,[.ref x]) s):
  wpAny (model prog w) A (getMethod (.ref x) name pl) Q E s:=by
 obtain⟨od,J,hl⟩:=I.look;exact W.method_fn X J (je hg).1 (je hg).2 hf (beq_iff_eq.mp ht) (by show (gU name od).map (·.isSome)=some false;rw[hl,hv];rfl) h
theorem LK{ns:List Str}{Q:Unit->ab->Prop}(X:K.In s.heap)(I:EJ s.heap x dx C mA)
  (hs:ck K (.ref C) "__setattr__" = some (some (.builtin "object.__setattr__"))) (hp:W.plainOver K C=true) (ht:jH K C name=some none) (hh:jt K C=true)
  (hw:ji mA ns) (hsz:ns.length<=sizeLine)
  (h:∀h',EJ h' x dx C (λy=>if y=name then some v else mA y)->dF dx s.heap h'->Q () { s with heap:=h',toks:=s.toks+2 }):
  wpAny (model prog w) A (setAttr (.ref x) name v) Q E s:=by
 obtain⟨od,J,hl⟩:=I.look;refine W.set_plain X J hs (W.osa_open (s:={ s with toks:=s.toks+1 }) (r:=none) X J hp ht λb=>?_);obtain⟨cd,hc,hd'⟩:=W.any_some hh;have hx:s.heap.get? x=some ⟨.ref C,some dx,.plain,#[]⟩:=I.obj;refine ae (ao (ae (ae (wpAny_loadPart hx (ae (W.Looks.here (s:={ s with toks:=s.toks+1 }) (W.looks_clsIn X hc) ?_))))));rw[hd'];refine ao (a:=some dx) (ae (ao (ae ?_)));refine wpAny_nsSet1 (s:={ s with toks:=s.toks+1 }) I.ns λh' hn2 hs2=>?_;obtain⟨oD,esD,epD,hoD,hdD,hcD⟩:=hn2.count (PySem.Within.cons name v hw);refine ae (wpAny_lookBehind hoD (by rw[hdD];exact pastItsLine_dict (bF hcD (by rw[aC];omega))) ?_);exact ao (h _ ⟨(hs2.2 _ (bI I.ne)).trans I.obj,hn2,I.ne⟩ hs2)
theorem IM{R:cQ->ab->Prop}{vs:List aa}(X:K.In s.heap)(hm:W.makesIn K C=true)
  (hi:ck K (.ref C) "__init__" = some (some (.ref f))) (hf:W.typeIn K (.ref f)=some (.type "function"))
  (h:codeAny (model prog w) (A.under (.builtin "type.__call__" ⟨.ref C::vs,kw⟩)) (.call (.ref f) ⟨.ref (s.heap.objs.size+1)::vs,kw⟩) (W.InitBack (s.heap.objs.size+1) R)
   { s with heap:=(s.heap.push cN).push (dc C s.heap.objs.size) }):
  codeAny (model prog w) A (.call (.ref C) ⟨vs,kw⟩) R s:=by
 obtain⟨hh,g,d,t,os⟩:=s;exact W.make_core (W.makes_of X hm) (W.looks_findIn X hi) (λself=>W.bind_fn X self hf) (.inl rfl) h
end
def sX(f:Str)(v:V):List (Str×V)->List (Str×V)
 |[]=>[(f,v)]
 |(g,x)::r=>if g=f then (g,v)::r else (g,x)::sX f v r
theorem ye(f g:Str)(v:V):∀fs:List (Str×V),(sX f v fs).lookup g=if g=f then some v else fs.lookup g
 |[]=>by
  show cj g [(f,v)]=_;by_cases h:g=f
  ·have hb:(g==f)=true:=beq_iff_eq.mpr h;simp only[cj,hb,ag h]
  ·have hb:(g==f)=false:=beq_eq_false_iff_ne.mpr h;simp only[cj,hb,af h]
 |(k,x)::r=>by
  have ih:=ye f g v r;rw[show sX f v ((k,x)::r)=(if k=f then (k,v)::r else (k,x)::sX f v r) from rfl];by_cases hk:k=f
  ·rw[ag hk];by_cases h:g=k
   ·have hb:(g==k)=true:=beq_iff_eq.mpr h;simp only[cj,hb,ag (h.trans hk)]
   ·have hb:(g==k)=false:=beq_eq_false_iff_ne.mpr h;simp only[cj,hb,af (λe:g=f=>h (e.trans hk.symm))]
  ·rw[af hk];by_cases h:g=k
   ·have hb:(g==k)=true:=beq_iff_eq.mpr h;simp only[cj,hb,af (λe:g=f=>hk (h.symm.trans e))]
   ·have hb:(g==k)=false:=beq_eq_false_iff_ne.mpr h;simp only[cj,hb];exact ih
theorem xx(f:Str)(v:V):∀fs:List (Str×V),f∈(sX f v fs).map (·.1)/\∀g,g∈fs.map (·.1)->g∈(sX f v fs).map (·.1)
 |[]=>⟨by simp[sX],λg h=>by simp at h⟩
 |(k,x)::r=>by
  obtain⟨i1,i2⟩:=xx f v r;rw[show sX f v ((k,x)::r)=(if k=f then (k,v)::r else (k,x)::sX f v r) from rfl];by_cases hk:k=f
  ·rw[ag hk];subst hk;exact⟨by simp,λg h=>by simpa using h⟩
  ·rw[af hk];refine⟨?_,λg h=>?_⟩
   ·rw[au];exact aX _ i1
   ·rw[au]at h ⊢;rcases aD.mp h with e|e
    ·exact aD.mpr (.inl e)
    ·exact aX _ (i2 g e)
theorem yf(f:Str)(v:V):∀fs:List (Str×V),(sX f v fs).length<=fs.length+1
 |[]=>by simp[sX]
 |(k,x)::r=>by
  have ih:=yf f v r;rw[show sX f v ((k,x)::r)=(if k=f then (k,v)::r else (k,x)::sX f v r) from rfl];by_cases hk:k=f
  ·rw[ag hk,aC,aC];omega
  ·rw[af hk,aC,aC];omega
theorem uK.some_of{v:V}{o:Option aa}(r:uK (some v) o):∃u,o=some u/\RelV v u:=by
 cases o with
 |none=>exact(show False from r).elim
 |some u=>exact⟨u,rfl,r⟩
theorem uK.none_of{o:Option aa}(r:uK none o):o=none:=by
 cases o with
 |none=>rfl
 |some u=>exact(show False from r).elim
theorem G2{v:V}(r:RelV v u):W.handedIn u=true:=by
 cases v with
 |non=>cases (show u=Value.none from r);rfl
 |bl b=>cases (show u=Value.bool b from r);rfl
 |int i=>obtain⟨t,e⟩:=(show ∃t,u=Value.int i t from r);cases e;rfl
 |str x=>obtain⟨t,e⟩:=(show ∃t,u=Value.str x t from r);cases e;rfl
 |byt b=>obtain⟨t,e⟩:=(show ∃t,u=Value.bytes b t from r);cases e;rfl
 |flt b=>obtain⟨t,e⟩:=(show ∃t,u=Value.float b t from r);cases e;rfl
 |ref a=>cases (show u=Value.ref a from r);rfl
 |ty n=>cases (show u=Value.type n from r);rfl
section
variable{P:aq}{w:ak}{H H':Hp}{h h':Heap}{a C dx:Addr}{fs fs':List (Str×V)}
theorem za(hok:HOk P w H h)(e:H a=some (.ins C dx fs)):∃mA,EJ h a dx C mA/\(∀f,uK (fs.lookup f) (mA f))/\ji mA (fs.map (·.1))/\fs.length<=1000/\H dx=some (.own a):=by obtain⟨d,z,ne,ob,mA,n,r,q⟩:=(show nS P w H h a (.ins C dx fs) from hok a _ e);exact⟨mA,⟨ob,n,ne⟩,r,q,z,d⟩
end
structure Cls(K:aj)(C:Addr):Prop where
 pg:gH K C Str.empty=true
 hd:jt K C=true
 po:W.plainOver K C=true
 sa:ck K (.ref C) "__setattr__" = some (some (.builtin "object.__setattr__"))
theorem Cls.get{K:aj}(c:Cls K C)(f:Str):gH K C f=true:=c.pg
def rO(K:aj)(C:Addr)(f:Str):Prop:=ck K (.ref C) f=some none
theorem rO.taker{K:aj}{f:Str}(n:rO K C f):jH K C f=some none:=by unfold jH;rw[show ck K (.ref C) f=some none from n];rfl
structure Meth(K:aj)(C:Addr)(m:Str)(f:Addr):Prop where
 at_:ck K (.ref C) m=some (some (.ref f))
 fn:W.isFn K (.ref f)=true
 kp:dN K (.ref f)=true
section
variable{X:Cx}{pins:List (Addr×Obj)}{σ:St}{H:Hp}{s:ab}{a C dx:Addr}{fs:List (Str×V)}{f:Str}{v:V}{A:ar}{E:aa->ab->Prop}
theorem EK{b:Bool}(I:Inv X pins σ H s)(e:H a=some (.ins C dx fs))(c:Cls X.K C)(n:rO X.K C f)(l:fs.lookup f=some v)
  (h:∀u s',Inv X pins σ H s'->RelV v u->Q u s'):wpAny (model X.prog X.w) A (getAttr (.ref a) f b) Q E s:=by
 obtain⟨mA,O,r,_,_,_⟩:=za I.hok e;obtain⟨u,hu,ru⟩:=uK.some_of (v:=v) (o:=mA f) (by rw[<-l];exact r f);exact get_map I.kIn O (c.get f) c.hd n hu (G2 ru) (h u _ (I.tok _) ru)
theorem zp{m:Str}{g:Addr}{pl:Sem Bool}{Q:aa×List aa->ab->Prop}(I:Inv X pins σ H s)(e:H a=some (.ins C dx fs))(c:Cls X.K C)(k:Meth X.K C m g)(l:fs.lookup m=none)
  (h:Q (.ref g,[.ref a]) s):wpAny (model X.prog X.w) A (getMethod (.ref a) m pl) Q E s:=by
 obtain⟨mA,O,r,_,_,_⟩:=za I.hok e;have hn:mA m=none:=uK.none_of (by rw[<-l];exact r m);exact IK I.kIn O (c.get m) k.at_ k.fn hn h
theorem EL{Q:Unit->ab->Prop}(I:Inv X pins σ H s)(e:H a=some (.ins C dx fs))(c:Cls X.K C)(n:rO X.K C f)(hl:fs.length<1000)(ry:RelV y u)
  (h:∀s',Inv X pins σ (upd H a (.ins C dx (sX f y fs))) s'->Q () s'):wpAny (model X.prog X.w) A (setAttr (.ref a) f u) Q E s:=by
 obtain⟨mA,O,r,wi,_,ho⟩:=za I.hok e;have hz:(fs.map (·.1)).length<=sizeLine:=by rw[ah,aT];omega
 refine LK I.kIn O c.sa c.po n.taker c.hd wi hz λh' O' sb=>h _ ?_;have hd:∃o,h'.get? dx=some o:=let ⟨o,_,_,e',_⟩:=O'.ns;⟨o,e'⟩;refine I.write (x:=a) (e:=dx) (by rw[e];exact True.intro) (.inr ho) (λb q hb z=>(sb.2 b hb).trans z) hd ?_;refine⟨by rw[mG O.ne];exact ho,?_,O.ne,O'.obj,_,O'.ns,λg=>?_,λg hg=>?_⟩
 ·have:=yf f y fs;omega
 ·show uK ((sX f y fs).lookup g) (if g=f then some u else mA g);rw[ye];by_cases q:g=f
  ·rw[ag q,ag q];exact ry
  ·rw[af q,af q];exact r g
 ·by_cases q:g=f
  ·rw[q];exact(xx f y fs).1
  ·refine(xx f y fs).2 g (wi g λz=>hg ?_);show (if g=f then some u else mA g)=none;rw[af q];exact z
theorem Inv.made(I:Inv X pins σ H s):Inv X pins σ (upd (upd H s.heap.objs.size (.own (s.heap.objs.size+1))) (s.heap.objs.size+1) (.ins C s.heap.objs.size []))
  { s with heap:=(s.heap.push cN).push (dc C s.heap.objs.size) }:=by
 have e1:(s.heap.push cN).get? s.heap.objs.size=some cN:=aP s.heap rfl;have e2:((s.heap.push cN).push (dc C s.heap.objs.size)).get? (s.heap.objs.size+1)=some (dc C s.heap.objs.size):=by
  have:=aP (s.heap.push cN) (o:=dc C s.heap.objs.size) rfl
  rwa [bR]at this
 have e3:(s.heap.push cN).Ns s.heap.objs.size (λ_=>none):=⟨cN,#[],_,e1,rfl,(λe he=>ai he (by simp)),λ_=>rfl⟩;have I1:=I.laid (a:=s.heap.objs.size) (o:=.own (s.heap.objs.size+1)) (h':=s.heap.push cN) (t':=s.toks) (λb u q=>av _ q) (aw _) ⟨_,e1⟩;refine I1.laid (a:=s.heap.objs.size+1) (o:=.ins C s.heap.objs.size []) (t':=s.toks) (λb u q=>av _ q) (jj (bR _ _)) ?_;have ne:s.heap.objs.size≠s.heap.objs.size+1:=aE (cf _);refine⟨by rw[mG ne,mF],aY _,ne,e2,λ_=>none,(Heap.Ns1.of_empty e3).at λo q=>av _ q,λ_=>True.intro,λy hy=>ai rfl hy⟩
theorem LL{prog:aq}{w:ak}{env:Env}{f:Str}{s:ab}(hb:attributeBase e f env (eval e env)=eval e env)
  (h:wpAny (model prog w) A (eval e env) (λo s₁=>wpAny (model prog w) A (getAttr o f true) Q E s₁) E s):wpAny (model prog w) A (eval (.Attribute e f pos) env) Q E s:=
 Attribute_any_ h (by rw[arm_eval_Attribute,hb])
end
def UI(K:aj)(ta:TE)(f:Str):TE:=λσ H Q=>ta σ H λx H1=>∃a C dx fs v,x=.ref a/\H1 a=some (.ins C dx fs)/\Cls K C/\rO K C f/\fs.lookup f=some v/\Q v H1
def S7(K:aj)(ta tv:TE)(f:Str):TS:=λD σ H=>tv σ H λy H1=>ta σ H1 λx H2=>∃a C dx fs,x=.ref a/\H2 a=some (.ins C dx fs)/\Cls K C/\rO K C f/\fs.length<1000/\
 D.nx σ (upd H2 a (.ins C dx (sX f y fs)))
section
variable{X:Cx}{o e value:Expr}{f:Str}{pos pos' tpos:Pos}{ta tv:TE}
theorem O0(he:PE X e ta)(hb:attributeBase e f X.env (eval e X.env)=eval e X.env):PE X (.Attribute e f pos) (UI X.K ta f):=by intro pins s σ H Q I h;refine LL hb (thn (he pins s σ H _ I h) λu s1 ⟨x,H1,I1,rx,a,C,dx,fs,v,ex,ea,c,n,l,q⟩=>?_);subst ex;obtain rfl:u=Value.ref a:=rx;exact EK I1 ea c n l λu' s2 I2 ru=>⟨v,H1,I2,ru,q⟩
theorem O1(ha:PE X o ta)(hv:PE X value tv)(hs:swapsWith value (some (.Attribute o f pos')) pos.line X.env=pure false):PS X (.Assign [.Attribute o f pos'] value pos) (S7 X.K ta tv f):=by intro pins s σ H D I h;refine plainObj_wpAny_Assign_Attribute (thn (hv pins s σ H _ I h) λu s1 ⟨y,H1,I1,ry,q⟩=>thn (ha pins s1 σ H1 _ I1 q) λov s2 ⟨x,H2,I2,rx,a,C,dx,fs,ex,ea,c,n,l,q2⟩=>?_) hs;subst ex;obtain rfl:ov=Value.ref a:=rx;exact EL I2 ea c n l ry λs3 I3=>⟨σ,_,I3,q2⟩
end
section
variable{X:Cx}{pins:List (Addr×Obj)}{σ:St}{H:Hp}{s:ab}{A:ar}{E:aa->ab->Prop}{Q:aa->ab->Prop}{c:aa}{b:Bool}
inductive yZ(K:aj) (H:Hp):V->aa->Prop where
 |non:yZ K H .non (.type "NoneType")
 |bl (x:Bool):yZ K H (.bl x) (.type "bool")
 |int (i:Int):yZ K H (.int i) (.type "int")
 |str (x:Str):yZ K H (.str x) (.type "str")
 |flt (x:UInt64):yZ K H (.flt x) (.type "float")
 |lst {a:Addr} {xs:List V} (e:H a=some (.lst xs)):yZ K H (.ref a) (.type "list")
 |frz {a:Addr} {o:Obj} {xs:List V} (e:H a=some (.frz o (.lst xs))):yZ K H (.ref a) (.type "list")
 |tup {a:Addr} {xs:List V} (e:H a=some (.tup xs)):yZ K H (.ref a) (.type "tuple")
 |dK {a:Addr} {kvs:List (Key×V)} (e:H a=some (.dK kvs)):yZ K H (.ref a) (.type "dict")
 |dT {a:Addr} {kvs:List (List Key×V)} (e:H a=some (.dT kvs)):yZ K H (.ref a) (.type "dict")
 |ins {a C dx:Addr} {fs:List (Str×V)} (e:H a=some (.ins C dx fs)) (cl:Cls K C) (ha:ck K (.ref C) "__class__" = some (some (.builtin "object.__class__")))
   (hn:W.specialIn K (.builtin "object.__class__") "__get__" = some (some (.builtin "getset_descriptor.__get__"))) (htk:W.takesIn K (.builtin "object.__class__")=some true)
   (hm:W.mroIn K C (.type "object")=some true):yZ K H (.ref a) (.ref C)
theorem rK{x:V}{t:aa}(I:Inv X pins σ H s)(rx:RelV x u)(ty:yZ X.K H x t)(e:bZ X.K t c=some b)(h:∀tk,Q (.bool b) { s with toks:=tk }):
  wpAny (model X.prog X.w) A (call (.builtin "isinstance") [u,c]) Q E s:=by
 cases ty with
 |non=>cases (show u=Value.none from rx);exact bL W.kitx_none I.kIn True.intro e (λz=>nomatch z) h
 |bl y=>cases (show u=Value.bool y from rx);exact bL W.kitx_bool I.kIn True.intro e (λz=>nomatch z) h
 |int i=>obtain⟨t,q⟩:=(show ∃t,u=Value.int i t from rx);cases q;exact bL W.kitx_int I.kIn True.intro e (λz=>nomatch z) h
 |str y=>obtain⟨t,q⟩:=(show ∃t,u=Value.str y t from rx);cases q;exact bL W.kitx_str I.kIn True.intro e (λz=>nomatch z) h
 |flt y=>obtain⟨t,q⟩:=(show ∃t,u=Value.float y t from rx);cases q;exact bL W.kitx_float I.kIn True.intro e (λz=>nomatch z) h
 |@lst a xs ea=>cases (show u=Value.ref a from rx);obtain⟨_,_,n,_,h1⟩:=(show nS X.prog X.w H s.heap a (.lst xs) from I.hok a _ ea);exact bL ju I.kIn ⟨_,h1,rfl⟩ e (λz=>nomatch z) h
 |@frz a ob xs ea=>cases (show u=Value.ref a from rx);obtain⟨_,_,_,n,_,h1⟩:=(show nS X.prog X.w H s.heap a (.frz ob (.lst xs)) from I.hok a _ ea);exact bL ju I.kIn ⟨_,h1,rfl⟩ e (λz=>nomatch z) h
 |@tup a xs ea=>cases (show u=Value.ref a from rx);obtain⟨_,_,_,p⟩:=(show nS X.prog X.w H s.heap a (.tup xs) from I.hok a _ ea);obtain⟨o,h1,h2,_⟩:=p;exact bL W.kitx_tuple I.kIn ⟨o,h1,h2⟩ e (λz=>nomatch z) h
 |@dK a kvs ea=>cases (show u=Value.ref a from rx);obtain⟨_,_,vs,_,p⟩:=(show nS X.prog X.w H s.heap a (.dK kvs) from I.hok a _ ea);obtain⟨o,es,ep,h1,h2,_⟩:=p;exact bL jv I.kIn ⟨o,h1,h2.1⟩ e (λz=>nomatch z) h
 |@dT a kvs ea=>cases (show u=Value.ref a from rx);obtain⟨_,_,xs,_,o,es,ep,h1,h2,_⟩:=(show nS X.prog X.w H s.heap a (.dT kvs) from I.hok a _ ea);exact bL jv I.kIn ⟨o,h1,h2.1⟩ e (λz=>nomatch z) h
 |@ins a C dx fs ea cl ha hn htk hm=>cases (show u=Value.ref a from rx);obtain⟨mA,O,_⟩:=za I.hok ea;obtain⟨od,J,_⟩:=O.look;exact bL (W.kitx_own (cl.get _) cl.hd ha hn htk hm) I.kIn J e (λz=>nomatch z) h
end
structure om(k:Nat)(A:ar):Prop where
 hd:A.handled=none
 dp:A.depth+3 * k+5<recursionLimit
 un:A.units+16 * k+200<cLine
theorem om.mono{k:Nat}{A:ar}(r:om k A)(h:j<=k):om j A:=⟨r.hd,by have:=r.dp;omega,by have:=r.un;omega⟩
theorem om.deeper{k:Nat}{A:ar}(r:om (k+1) A)(env:Env):om k (A.deeper env):=
 ⟨r.hd,by have:=r.dp;show A.depth+1+3 * k+5<_;omega,by have:=r.un;show A.units+3+16 * k+200<_;omega⟩
theorem EM{A:ar}:(A.under (.builtin "type.__call__" ⟨.ref C::us,kw⟩)).depth=A.depth+1:=by
 first|rfl|simp[jk,Code.weight,Code.isCreation,Code.isGuard,Code.isCaller,Code.frames,jl,guardIds]
theorem EN{A:ar}:(A.under (.builtin "type.__call__" ⟨.ref C::us,kw⟩)).units=A.units+1:=by
 first|rfl|simp[jk,Code.cUnits,Code.frames,jl]
theorem om.make{k:Nat}{A:ar}(r:om (k+1) A)(C:Addr)(us:List aa)(kw:List (Str×aa)):om k (A.under (.builtin "type.__call__" ⟨.ref C::us,kw⟩)):=
 ⟨r.hd,by have:=r.dp;rw[EM];omega,by have:=r.un;rw[EN];omega⟩
theorem om.depth{k:Nat}{A:ar}(r:om k A):A.depth<recursionLimit:=by have:=r.dp;omega
theorem om.units{k:Nat}{A:ar}(r:om k A):A.units+64<cLine:=by have:=r.un;omega
def AG:TA:=λ_ H Q=>Q [] H
def sY(ta:TE)(tr:TA):TA:=λσ H Q=>ta σ H λx H1=>tr σ H1 λxs H2=>Q (x::xs) H2
section
variable{X:Cx}{e:Expr}{es:List Expr}{te:TE}{t:TA}{pos:Pos}
theorem rP:PA X [] AG:=λ_ _ _ _ H Q I h=>dU ⟨[],H,I,.nil,h⟩
theorem oH(ha:PE X e te)(hr:PA X es t)(hs:starEach (e::es) X.env=(false,eval e X.env)::starEach es X.env:=by rfl):PA X (e::es) (sY te t):=by intro pos pins s σ H Q I h;rw[hs];show wpAny _ _ (spliced ((false,eval e X.env)::backTo pos (starEach es X.env))) _ _ s;refine cU (thn (ha pins s σ H _ I h) λu s1 ⟨x,H1,I1,r1,q1⟩=>?_);exact thn (hr pos pins s1 σ H1 _ I1 q1) λus s2 ⟨xs,H2,I2,r2,q2⟩=>⟨x::xs,H2,I2,.cons r1 r2,q2⟩
def UJ(t:TA):TE:=λσ H Q=>t σ H λxs H1=>xs.length<=sizeLine/\∀p,H1 p=none->Q (.ref p) (upd H1 p (.tup xs))
def LM(t:TA):TE:=λσ H Q=>t σ H λxs H1=>xs.length<=sizeLine/\∀p,H1 p=none->Q (.ref p) (upd H1 p (.lst xs))
theorem O2{x1}(h:PA X es t):PE X (.Tuple es x1 pos) (UJ t):=by intro pins s σ H Q I hq;refine wpAny_Tuple_spliced (thn (h pos pins s σ H _ I hq) λus s1 ⟨xs,H1,I1,r,z,q⟩=>⟨by rw[<-r.length];exact z,?_⟩);have hf:H1 s1.heap.objs.size=none:=I1.hok.fresh (aw _);refine⟨.ref s1.heap.objs.size,upd H1 s1.heap.objs.size (.tup xs),I1.laid (t':=s1.toks) (λb u e=>av _ e) (aw _) ?_,rfl,q _ hf⟩;exact⟨z,us,r,⟨_,aP _ rfl,rfl,_,rfl⟩⟩
theorem EO(h:PA X es t):PE X (.List es pos) (LM t):=by intro pins s σ H Q I hq;refine wpAny_List_spliced (thn (h pos pins s σ H _ I hq) λus s1 ⟨xs,H1,I1,r,z,q⟩=>⟨by rw[<-r.length];exact z,?_⟩);have hf:H1 s1.heap.objs.size=none:=I1.hok.fresh (aw _);refine⟨.ref s1.heap.objs.size,upd H1 s1.heap.objs.size (.lst xs),I1.laid (t':=s1.toks) (λb u e=>av _ e) (aw _) ?_,rfl,q _ hf⟩;exact⟨z,us,0,r,aP _ rfl⟩
end
abbrev Sp:=List V->Hp->VK->XK->Prop
abbrev CXT:=List Env->Hp->ab->XK->aa->ab->Prop
structure ER(P:aq)(w:ak)(K:aj)(mg:Str->Option aa)(base:Heap)(A:ar)(outer:List Env)(s:ab)(H:Hp):Prop where
 frames:A.frames=some outer
 mod:Mod K mg base
 bs:∀b o,base.get? b=some o->s.heap.get? b=some o/\H b=none
 bsz:base.objs.size<=s.heap.objs.size
 funs:s.heap.FunFrames base outer
 frf:∀b∈frs outer,H b=none
 hok:HOk P w H s.heap
 bare:cP s.gens
def CE(outer:List Env)(P:aq)(w:ak)(H:Hp)(s:ab)(Q:VK)(u:aa)(s':ab):Prop:=
 ∃v H',s'.os=s.os/\cP s'.gens/\Un (frs outer) [] H H' s.heap s'.heap/\HOk P w H' s'.heap/\RelV v u/\Q v H'
def CR(CX:CXT)(outer:List Env)(P:aq)(w:ak)(H:Hp)(s:ab)(Q:VK)(E:XK)(r:cQ)(s':ab):Prop:=
 match r with
 |.ok (.ret u)=>CE outer P w H s Q u s'
 |.ok _=>False
 |.error e=>CX outer H s E e s'
structure qU(P:aq)(w:ak)(K:aj)(mg:Str->Option aa)(base:Heap)(CX:CXT)(k:Nat)(f:Addr)(fd:bg)(ps:List Str)(sp:Sp):Prop where
 len:∀vs H Q E,sp vs H Q E->vs.length=ps.length
 run:∀(A:ar) (outer:List Env) (s:ab) (H:Hp) (args:Args) (us:List aa) (vs:List V) (Q:VK) (E:XK),om k A->ER P w K mg base A outer s H->eS s fd args (ps.zip us)->Vals vs us->sp vs H Q E->
  codeAny (model P w) A (.call (.ref f) args) (CR CX outer P w H s Q E) s
variable{mg:Str->Option aa}{base:Heap}{CX:CXT}{fd:bg}{ps:List Str}{sp:Sp}
theorem qU.imp{P:aq}{w:ak}{K:aj}{k:Nat}{f:Addr}{sp':Sp}(F:qU P w K mg base CX k f fd ps sp)
  (h:∀vs H Q E,sp' vs H Q E->sp vs H Q E):qU P w K mg base CX k f fd ps sp':=
 ⟨λvs H Q E q=>F.len vs H Q E (h _ _ _ _ q),λA outer s H args us vs Q E hr he hb hv hs=>F.run A outer s H args us vs Q E hr he hb hv (h _ _ _ _ hs)⟩
variable{outer:List Env}
theorem ER.make{P:aq}{w:ak}{K:aj}{A:ar}{s:ab}{H:Hp}(e:ER P w K mg base A outer s H)(C:Addr)(us:List aa)(kw:List (Str×aa)):
  ER P w K mg base (A.under (.builtin "type.__call__" ⟨.ref C::us,kw⟩)) outer s H:=⟨by first|exact e.frames|(simpa [jk,Code.envs,jl,pushEnvs]using e.frames),e.mod,e.bs,e.bsz,e.funs,e.frf,e.hok,e.bare⟩
section
variable{X:Cx}{pins:List (Addr×Obj)}{σ:St}{H:Hp}{s s':ab}
theorem Inv.env0(I:Inv X pins σ H s):ER X.prog X.w X.K X.mg X.base X.A X.stack s H:=
 ⟨I.ok.frames,I.ok.mod,I.bs,bF I.ok.bsz I.sz,I.stack,I.stkFree,I.hok,I.bare⟩
theorem Inv.after{Q:VK}(I:Inv X pins σ H s)(h:CE X.stack X.prog X.w H s Q u s'):EP X pins σ Q u s':=by obtain⟨v,H',os,bare,un,hok,r,q⟩:=h;obtain⟨hh,g,d,t,os'⟩:=s';obtain rfl:os'=s.os:=os;exact⟨v,H',I.call (h':=hh) (g':=g) (d':=d) (t':=t) (ch:=[]) un hok bare (λb z=>ai z (by simp)),r,q⟩
end
def qV(sp:Sp)(dvs:List V)(E:XK)(t:TA):TE:=λσ H Q=>t σ H λvs H1=>sp (vs++dvs) H1 Q E
def Oa(C:Addr)(sp:Sp)(dvs:List V)(E:XK)(t:TA):TE:=λσ H Q=>t σ H λvs H1=>∀x dx,H1 x=none->H1 dx=none->dx≠x->
 sp (.ref x::(vs++dvs)) (upd (upd H1 dx (.own x)) x (.ins C dx [])) (λv H2=>v=.non/\Q (.ref x) H2) E
def Binds(K:aj)(fd:bg)(ps:List Str)(ds:List aa):Prop:=
 ∀(s:ab) (us:List aa),K.In s.heap->(us++ds).length=ps.length->eS s fd ⟨us,[]⟩ (ps.zip (us++ds))
theorem Binds.all{K:aj}(h:∀us:List aa,us.length=ps.length->bindArgs fd ⟨us,[]⟩=pure (ps.zip us)):Binds K fd ps []:=λs us _ hl=>by rw[aU]at hl ⊢;exact .of_eq (h us hl)
def Passes(CX:CXT)(X:Cx)(E:XK):Prop:=∀(pins:List (Addr×Obj)) (σ:St) (H:Hp) (s:ab) (e:aa) (s':ab),Inv X pins σ H s->CX X.stack H s E e s'->X.xe e s'
variable{vs:List V}
section
variable{X:Cx}{CX:CXT}{k:Nat}{f C:Addr}{fd:bg}{ps:List Str}{sp:Sp}{dvs:List V}{ds:List aa}{E:XK}{x m:Str}{p pos apos:Pos}{e o:Expr}{es:List Expr}{ta:TE}{t:TA}
theorem xy{H:Hp}{s:ab}{Q:VK}(F:qU X.prog X.w X.K X.mg X.base CX k f fd ps sp)(hr:om k X.A)(hb:Binds X.K fd ps ds)(hd:Vals dvs ds)(hx:Passes CX X E)
  (I:Inv X pins σ H s) (r:Vals vs us) (h:sp (vs++dvs) H Q E):wpAny (model X.prog X.w) X.A (call (.ref f) us) (EP X pins σ Q) X.xe s:=by
 have r2:Vals (vs++dvs) (us++ds):=r.append hd;have hl:(us++ds).length=ps.length:=by rw[<-r2.length];exact F.len _ _ _ _ h
 refine jC (eL (F.run X.A X.stack s H ⟨us,[]⟩ (us++ds) (vs++dvs) Q E hr I.env0 (hb s us I.kIn hl) r2 h) λr s' hq=>?_);cases r with
 |error e=>exact hx pins σ H s e s' I hq
 |ok fl=>
  cases fl with
  |ret u=>exact I.after hq
  |next=>exact bT hq
  |brk=>exact bT hq
  |cont=>exact bT hq
theorem zb(F:qU X.prog X.w X.K X.mg X.base CX k f fd ps sp)(hr:om k X.A)(hg:Gl X x)(hm:X.mg x=some (.ref f))(hk:dN X.K (.ref f)=true)(hb:Binds X.K fd ps ds)(hd:Vals dvs ds)(hx:Passes CX X E)
  (ha:PA X (e::es) t) (hdb:(x==("__debug__" : Str))=false:=by decide) (he:starEach (e::es) X.env=(false,eval e X.env)::starEach es X.env:=by rfl) (hpl:(backTo pos (starEach es X.env)).any (·.1)=false:=by rfl):
  PE X (.Call (.Name x p) (e::es) [] pos) (qV sp dvs E t):=by
 intro pins s σ H Q I h;refine cK (y9 I hg hm ?_ hdb);refine fH (h₀:=X.base) I.ok.mod.kin hk (thn (ha pos pins s σ H _ I h) λus s1 ⟨vs,H1,I1,r,q⟩=>⟨I1.kIn,?_⟩) he hpl;exact xy F hr hb hd hx I1 r q
theorem IP(F:qU X.prog X.w X.K X.mg X.base CX k f fd ps sp)(hr:om k X.A)(hg:Gl X x)(hm:X.mg x=some (.ref f))(hk:dN X.K (.ref f)=true)(hb:Binds X.K fd ps ds)(hd:Vals dvs ds)(hx:Passes CX X E)
  (hdb:(x==("__debug__" : Str))=false:=by decide):PE X (.Call (.Name x p) [] [] pos) (qV sp dvs E AG):=by
 intro pins s σ H Q I h;refine cK (y9 I hg hm ?_ hdb);exact W.callWith_K0 I.kIn hk (xy (us:=[]) F hr hb hd hx I .nil h)
structure Mk(K:aj)(C f:Addr):Prop where
 makes:W.makesIn K C=true
 init:ck K (.ref C) "__init__" = some (some (.ref f))
 fn:W.isFn K (.ref f)=true
 kp:dN K (.ref C)=true
theorem IQ{H:Hp}{s:ab}{Q:VK}(M:Mk X.K C f)(F:qU X.prog X.w X.K X.mg X.base CX k f fd ps sp)(hr:om (k+1) X.A)(hb:Binds X.K fd ps ds)(hd:Vals dvs ds)
  (hx:Passes CX X E) (I:Inv X pins σ H s) (r:Vals vs us)
  (h:∀x dx,H x=none->H dx=none->dx≠x->sp (.ref x::(vs++dvs)) (upd (upd H dx (.own x)) x (.ins C dx [])) (λv H2=>v=.non/\Q (.ref x) H2) E):
  wpAny (model X.prog X.w) X.A (call (.ref C) us) (EP X pins σ Q) X.xe s:=by
 have hq:=h (s.heap.objs.size+1) s.heap.objs.size (I.hok.fresh (dG _)) (I.hok.fresh (aw _)) (aE (cf _));have I2:=Inv.made (C:=C) I;have r2:Vals (V.ref (s.heap.objs.size+1)::(vs++dvs)) (Value.ref (s.heap.objs.size+1)::(us++ds)):=.cons rfl (r.append hd);have hl:(Value.ref (s.heap.objs.size+1)::us++ds).length=ps.length:=by have e:=r2.length;rw[F.len _ _ _ _ hq]at e;exact e.symm
 refine jC (IM (f:=f) I.kIn M.makes M.init (beq_iff_eq.mp M.fn) (eL (F.run _ X.stack _ _ ⟨Value.ref (s.heap.objs.size+1)::us,[]⟩ (Value.ref (s.heap.objs.size+1)::(us++ds)) _ _ E (hr.make C us [])
  (I2.env0.make C us []) (hb _ (Value.ref (s.heap.objs.size+1)::us) I2.kIn hl) r2 hq) λr s' hq'=>?_))
 cases r with
 |error e=>exact hx pins σ _ _ e s' I2 hq'
 |ok fl=>
  cases fl with
  |ret u=>obtain⟨v,H',I3,rv,ev,q3⟩:=I2.after hq';subst ev;exact⟨rv,⟨V.ref (s.heap.objs.size+1),H',I3,rfl,q3⟩⟩
  |next=>exact bT hq'
  |brk=>exact bT hq'
  |cont=>exact bT hq'
theorem LN(M:Mk X.K C f)(F:qU X.prog X.w X.K X.mg X.base CX k f fd ps sp)(hr:om (k+1) X.A)(hg:Gl X x)(hm:X.mg x=some (.ref C))(hb:Binds X.K fd ps ds)(hd:Vals dvs ds)(hx:Passes CX X E)
  (ha:PA X (e::es) t) (hdb:(x==("__debug__" : Str))=false:=by decide) (he:starEach (e::es) X.env=(false,eval e X.env)::starEach es X.env:=by rfl) (hpl:(backTo pos (starEach es X.env)).any (·.1)=false:=by rfl):
  PE X (.Call (.Name x p) (e::es) [] pos) (Oa C sp dvs E t):=by
 intro pins s σ H Q I h;refine cK (y9 I hg hm ?_ hdb);refine fH (h₀:=X.base) I.ok.mod.kin M.kp (thn (ha pos pins s σ H _ I h) λus s1 ⟨vs,H1,I1,r,q⟩=>⟨I1.kIn,?_⟩) he hpl;exact IQ M F hr hb hd hx I1 r q
end
structure oA(N P:List Str)(sc:bV):Prop where
 kind:sc.kind=.function
 co:sc.isCoroutine=false
 gen:sc.isGenerator=false
 nd:N.Nodup
 pre:N.take P.length=P
 par:∀x∈P,sc.names.lookup x=some .local\/sc.names.lookup x=some .cell
 nofree:∀y∈sc.names,y.2≠.free
theorem A3{kindOf:Str->Option cz}{x:Str}:∀{binds:List (Str×aa)} {m:Str->Option aa},(∀v,(x,v)∉binds)->bindL kindOf binds m x=m x
 |[],_,_=>rfl
 |(n,v)::r,m,h=>by
  unfold bindL;rw[A3 λw hw=>h w (aX _ hw)];split
  ·have:x≠n:=by rintro rfl;exact h v aQ
   simp[this]
  ·rfl
theorem A4{kindOf:Str->Option cz}{x:Str}:∀{binds:List (Str×aa)} {m:Str->Option aa},(∀v,(x,v)∉binds)->bindC kindOf binds m x=m x
 |[],_,_=>rfl
 |(n,v)::r,m,h=>by
  unfold bindC;rw[A4 λw hw=>h w (aX _ hw)];split
  ·rfl
  ·have:x≠n:=by rintro rfl;exact h v aQ
   simp[this]
theorem A5{kindOf:Str->Option cz}{x:Str}{v:aa}:∀{P:List Str} {vs:List aa} {i:Nat} {m:Str->Option aa},P.Nodup->P[i]?=some x->vs[i]?=some v->kindOf x=some .local->
  bindL kindOf (P.zip vs) m x=some v
 |[],_,_,_,_,h,_,_=>by simp at h
 |_::_,[],_,_,_,_,h,_=>by simp at h
 |p::P,w::vs,0,m,nd,h1,h2,hk=>by simp at h1 h2;subst h1;subst h2;show bindL kindOf ((p,w)::P.zip vs) m p=_;unfold bindL;rw[A3 λv hv=>(cq.mp nd).1 (gz hv).1,ag hk];simp
 |p::P,w::vs,i+1,m,nd,h1,h2,hk=>by show bindL kindOf ((p,w)::P.zip vs) m x=_;unfold bindL;exact A5 (i:=i) (cq.mp nd).2 (by simpa using h1) (by simpa using h2) hk
theorem A6{kindOf:Str->Option cz}{x:Str}{v:aa}:∀{P:List Str} {vs:List aa} {i:Nat} {m:Str->Option aa},P.Nodup->P[i]?=some x->vs[i]?=some v->kindOf x≠some .local->
  bindC kindOf (P.zip vs) m x=some v
 |[],_,_,_,_,h,_,_=>by simp at h
 |_::_,[],_,_,_,_,h,_=>by simp at h
 |p::P,w::vs,0,m,nd,h1,h2,hk=>by simp at h1 h2;subst h1;subst h2;show bindC kindOf ((p,w)::P.zip vs) m p=_;unfold bindC;rw[A4 λv hv=>(cq.mp nd).1 (gz hv).1,af hk];simp
 |p::P,w::vs,i+1,m,nd,h1,h2,hk=>by show bindC kindOf ((p,w)::P.zip vs) m x=_;unfold bindC;exact A6 (i:=i) (cq.mp nd).2 (by simpa using h1) (by simpa using h2) hk
def start(N:List Str)(vs:List V):St:=vs.map some++dw (N.length - vs.length) none
def CY(CX:CXT)(P:aq)(w:ak)(K:aj)(mg:Str->Option aa)(base:Heap)(N:List Str)(qual:Str)(scope:bV)(f:Addr)(cd:aa)(A:ar)(outer:List Env)(s:ab)(H:Hp)(E:XK):Cx where
 prog:=P
 w:=w
 K:=K
 mg:=mg
 base:=base
 A:=A.deeper (envOfC qual scope s.heap.objs.size f cd)
 N:=N
 s₀:=s
 H₀:=H
 env:=envOfC qual scope s.heap.objs.size f cd
 outer:=outer
 stack:=envOfC qual scope s.heap.objs.size f cd::outer
 ex:=[]
 calm:=true
 fn:=λ_=>true
 pn:=[]
 xe:=λe s'=>wpAny (model P w) (A.deeper (envOfC qual scope s.heap.objs.size f cd)) (leaving (envOfC qual scope s.heap.objs.size f cd) e) (λ_ s''=>CX outer H s E e s'') (λe' s''=>CX outer H s E e' s'') s'
theorem CZ{sc:bV}{n:Nat}(h:sc.names.lookup x=some .cell):∃c,(cellsFrom n sc.names []).lookup x=some c:=by have q:=lh sc.names n [] (.inl h);exact Option.isSome_iff_exists.mp q
variable{qual:Str}{scope:bV}
theorem G3{P:aq}{w:ak}{K:aj}{f:Addr}{cd:aa}{A:ar}{s s1:ab}{H:Hp}{E:XK}
  (S:oA N ps scope) (hd:A.handled=none) (e0:ER P w K mg base A outer s H) (hl:vs.length=ps.length) (r:Vals vs us)
  (x:InCallC s s.heap.objs.size (bindL (envOfC qual scope s.heap.objs.size f cd).kindOf (ps.zip us) λ_=>none) (cellsFrom (s.heap.objs.size+1) scope.names []) (bindC (envOfC qual scope s.heap.objs.size f cd).kindOf (ps.zip us) λ_=>none) s1):
  Inv (CY CX P w K mg base N qual scope f cd A outer s H E) [] (start N vs) H s1:=by
 have hpl:ps.length<=N.length:=by have:=aN bG S.pre;rw[bf]at this;omega
 obtain⟨h1,tk,rfl,hk⟩:=x.done;have noA:∀b:Addr,b∉(CY CX P w K mg base N qual scope f cd A outer s H E).ex:=λb z=>ai (show b∈([]:List Addr) from z) (by simp);refine⟨⟨e0.mod,S.kind,rfl,rfl,aw _,λy z c h1 h2=>?_,λy hy=>?_,λy c _ h=>?_,λ_=>hd,Around.frames_deeper e0.frames,.inr ⟨rfl,rfl⟩,λb z=>ai z (noA b),e0.bs,e0.bsz,λb _ _=>noA b,λb z=>ai z (noA b),e0.funs,e0.frf⟩,
  rfl,e0.bare,Un.kept hk,⟨_,x.toInCall.ns,λi y v h1 h2 h3=>?_⟩,λy c h=>⟨_,x.cell y c h⟩,e0.hok.fresh (aw _),λy c h=>?_,λp hp=>ai (show p∈([]:List (Addr×Obj)) from hp) (by simp),e0.hok.kept hk,?_⟩
 ·exact name_of_addr x.apart (fi h1) (fi h2)
 ·have hy:scope.names.lookup y=some .cell\/scope.names.lookup y=some .free:=hy;rcases hy with hy|hy
  ·exact CZ hy
  ·exact ai rfl (S.nofree _ (fi hy))
 ·exact eJ (x.above y c (fi h))
 ·have hi:i<vs.length:=by
   unfold start at h2;by_cases hi:i<vs.length
   ·exact hi
   ·rw[cD (by simpa using hi)]at h2;rw[eX]at h2;split at h2<;>cases h2
  have ha:vs[i]?=some v:=by
   unfold start at h2;rw[cE (by simpa using hi),aK]at h2;cases e:vs[i]? with
   |none=>rw[e]at h2;cases h2
   |some a=>rw[e]at h2;cases h2;rfl
  obtain⟨u,hu,rv⟩:=r.get ha;have hp:ps[i]?=some y:=by rw[<-S.pre,List.getElem?_take_of_lt (by omega)];exact h1
  have ndP:ps.Nodup:=by rw[<-S.pre];exact S.nd.sublist (dW _ _)
  refine⟨u,rv,?_⟩;rcases S.par y (bz hp)with k|k
  ·exact .inl ⟨k,A5 ndP hp hu k⟩
  ·obtain⟨c,e⟩:=CZ (n:=s.heap.objs.size+1) k;refine .inr ⟨.inl k,c,e,?_⟩;have q:=x.cell y c e;rw[A6 ndP hp hu (by show scope.names.lookup y≠_;rw[k];decide)]at q;exact q
 ·exact e0.hok.fresh (eJ (x.above y c (fi h)))
 ·unfold start;show _=N.length;rw[aB,ah,bJ];omega
theorem Ob{P:aq}{w:ak}{K:aj}{k:Nat}{f:Addr}{name:Str}{params:Arguments}{dV kV doc pm cdv ct oc:aa}{an od:Option Addr}
  {osl:Array (Option aa)} (lk:K.lookup f=some ⟨oc,od,.func (eU name qual params body scope dV kV doc pm an cdv ct),osl⟩) (hcd:W.codeIn K cdv qual=true) (S:oA N ps scope)
  (len:∀vs H Q E,sp vs H Q E->vs.length=ps.length)
  (hbody:∀(A:ar) (outer:List Env) (s:ab) (H:Hp) (vs:List V) (Q:VK) (E:XK),om k (A.deeper (envOfC qual scope s.heap.objs.size f cdv))->sp vs H Q E->
   ∃t,PSs (CY CX P w K mg base N qual scope f cdv A outer s H E) body t/\t { nx:=λ_ H'=>Q .non H',rt:=Q } (start N vs) H):
  qU P w K mg base CX (k+1) f (eU name qual params body scope dV kV doc pm an cdv ct) ps sp:=by
 refine⟨len,λA outer s H args us vs Q E hr e0 hb r hsp=>?_⟩;have hl:=len _ _ _ _ hsp;have KX:K.In s.heap:=e0.mod.kin.keeps λb o e=>(e0.bs b o e).1;have lim:s.heap.NoLimit:=e0.mod.nolimit.keeps λb o e=>(e0.bs b o e).1;have hkind:∀y∈ps.zip us,scope.names.lookup y.1=some .local\/(scope.names.lookup y.1=some .cell/\((cellsFrom (s.heap.objs.size+1) scope.names []).lookup y.1).isSome=true):=λ⟨n,v⟩ hy=>by
  rcases S.par n (gz hy).1 with q|q
  ·exact .inl q
  ·exact .inr ⟨q,lh _ _ _ (.inl q)⟩
 refine codeAny_call_function hr.depth (KX _ _ lk) rfl S.co S.gen rfl (W.codeRec_of KX hcd) (hb _ _ _ _ ?_);refine wpAny_newFunctionEnv_cells S.kind hkind λenv he s1 x=>?_;subst he;refine⟨lim.keeps x.toInCall.keep,codeAny_func ?_⟩;obtain⟨t,ht,hq⟩:=hbody A outer s H vs Q E (hr.deeper _) hsp;have I:Inv (CY CX P w K mg base N qual scope f cdv A outer s H E) [] (start N vs) H s1:=G3 S hr.hd e0 hl r x;refine bw (ht [] s1 (start N vs) H _ I hq) (λfl s' hs=>?_) λe s' hs=>hs;have fin:∀{σ':St} {H':Hp} {v:V} {u:aa},Inv (CY CX P w K mg base N qual scope f cdv A outer s H E) [] σ' H' s'->RelV v u->Q v H'->CE outer P w H s Q u s':=
  λ{σ' H' v u} J rv q=>⟨v,H',J.os,J.bare,J.base,J.hok,rv,q⟩
 cases fl with
 |ret u=>obtain⟨v,σ',H',J,rv,q⟩:=hs;exact fin J rv q
 |next=>obtain⟨σ',H',J,q⟩:=hs;exact fin (v:=V.non) (u:=Value.none) J rfl q
 |brk=>obtain⟨_,_,_,q⟩:=hs;exact bT q
 |cont=>obtain⟨_,_,_,q⟩:=hs;exact bT q
section
variable{X:Cx}{x:Str}{p pos:Pos}{e:Expr}{es:List Expr}{t:TA}{id T:String}{r:List V->Hp->VK->Prop}
def tCB(r:List V->Hp->VK->Prop)(t:TA):TE:=λσ H Q=>t σ H λvs H1=>r vs H1 Q
theorem zq(hc:oa X (.builtin id) r)(hg:Gl X x)(hm:X.mg x=none)(hv:bootBuiltins x=some (.builtin id))(ha:PA X (e::es) t)(hn:x≠"__name__" := by decide)(hdb:(x==("__debug__" : Str))=false:=by decide)
  (he:starEach (e::es) X.env=(false,eval e X.env)::starEach es X.env:=by rfl) (hpl:(backTo pos (starEach es X.env)).any (·.1)=false:=by rfl):PE X (.Call (.Name x p) (e::es) [] pos) (tCB r t):=by
 intro pins s σ H Q I h;refine cK (tT I hg hm hv ?_ hn hdb);exact callWith_builtin1 (thn (ha pos pins s σ H _ I h) λus s1 ⟨vs,H1,I1,r1,q1⟩=>hc pins s1 σ H1 vs us Q I1 r1 q1) he hpl
theorem G4(hc:oa X (.type T) r)(hg:Gl X x)(hm:X.mg x=none)(hv:bootBuiltins x=some (.type T))(ha:PA X (e::es) t)(hn:x≠"__name__" := by decide)(hdb:(x==("__debug__" : Str))=false:=by decide)
  (he:starEach (e::es) X.env=(false,eval e X.env)::starEach es X.env:=by rfl) (hpl:(backTo pos (starEach es X.env)).any (·.1)=false:=by rfl):PE X (.Call (.Name x p) (e::es) [] pos) (tCB r t):=by
 intro pins s σ H Q I h;refine cK (tT I hg hm hv ?_ hn hdb);exact callWith_type1 (thn (ha pos pins s σ H _ I h) λus s1 ⟨vs,H1,I1,r1,q1⟩=>hc pins s1 σ H1 vs us Q I1 r1 q1) he hpl
end
end L2
namespace HT
open PySem PyProof.Rows
section
variable{prog:aq}{w:ak}{A:ar}{E:aa->ab->Prop}{s:ab}
theorem LO{t b:Addr}{vs ws:List aa}{Q:aa->ab->Prop}(ht:dg s.heap t vs.toArray)(hb:dg s.heap b ws.toArray)(hv:vs≠[])
  (h1:ws=[]->Q (.ref t) s) (h2:ws≠[]->Q (.ref s.heap.objs.size) { s with heap:=s.heap.push { cls:=.type "tuple", data:=.seq (vs++ws).toArray } })
  (hsz:vs.length+ws.length<=sizeLine):wpAny (model prog w) A (binaryOp .Add (.ref t) (.ref b)) Q E s:=by
 obtain⟨⟨cls,dd,data,sl⟩,ho,hc,n,hd⟩:=id ht;obtain⟨⟨cls2,dd2,data2,sl2⟩,ho2,hc2,n2,hd2⟩:=id hb;simp only at hc hd hc2 hd2;subst hc hd hc2 hd2;have e:vs.toArray++ws.toArray=(vs++ws).toArray:=by simp
 by_cases hw:ws=[]
 ·exact concat_meets ⟨_,ho,rfl⟩ ⟨_,ho2,rfl⟩ noFill_tuple_add seq_tuple_add lj kI (kB _ _)
   (tuple_addW1 t b vs.toArray ws.toArray n n2 dd dd2 sl sl2 (by simpa using hv) (by simp[hw])) ⟨ho,ho2,h1 hw⟩
 ·refine concat_meets ⟨_,ho,rfl⟩ ⟨_,ho2,rfl⟩ noFill_tuple_add seq_tuple_add lj kI (kB _ _)
   (tuple_addW2 t b vs.toArray ws.toArray n n2 dd dd2 sl sl2 (by simpa using hv) (by simpa using hw) (by rw[aI,aI];exact hsz)) ⟨ho,ho2,?_⟩
  rw[e];exact h2 hw
def sIx(n d:Nat):Option Int->Nat
 |none=>d
 |some v=>if v<0 then (v+(n:Int)).toNat else min v.toNat n
theorem Da(n d:Nat):sIx n d none=d:=rfl
theorem zc(n d k:Nat):sIx n d (some (k:Int))=min k n:=by show (if (k:Int)<0 then ((k:Int)+(n:Int)).toNat else min (k:Int).toNat n)=min k n;rw[af (by omega),fq]
end
end HT
namespace L2
open PySem PySem.Spec PyProof.Rows
abbrev TO:=St->Hp->(Option Int->Hp->Prop)->Prop
def PO(X:Cx)(e:Option Expr)(t:TO):Prop:=
 ∀(pins:List (Addr×Obj)) (s:ab) (σ:St) (H:Hp) (Q:Option Int->Hp->Prop),Inv X pins σ H s->t σ H Q->
  wpAny (model X.prog X.w) X.A (evalPart e X.env) (λu s'=>∃o H',Inv X pins σ H' s'/\IsPart u o/\Q o H') X.xe s
def LP:TO:=λ_ H Q=>Q none H
def S8(t:TE):TO:=λσ H Q=>t σ H λx H1=>∃i,x=.int i/\Q (some i) H1
section
variable{X:Cx}{e:Expr}{te:TE}{lo hi:Option Expr}{tl th:TO}{pos p2:Pos}
theorem LQ:PO X none LP:=by intro pins s σ H Q I h;rw[evalPart_none];exact ao ⟨none,H,I,.none,h⟩
theorem FU(h:PE X e te):PO X (some e) (S8 te):=by intro pins s σ H Q I hw;rw[evalPart_some];refine thn (h pins s σ H _ I hw) λu s1 ⟨x,H1,I1,r1,q1⟩=>?_;obtain⟨i,rfl,q⟩:=q1;obtain⟨t,rfl⟩:=r1;exact⟨some i,H1,I1,.int i t,q⟩
def SlR(X:Cx)(r:V->Option Int->Option Int->Hp->VK->Prop):Prop:=
 ∀(pins:List (Addr×Obj)) (s:ab) (σ:St) (H:Hp) (x:V) (v vl vu:aa) (lo hi:Option Int) (sl:Addr) (Q:VK),Inv X pins σ H s->RelV x v->s.heap.IsSliceOf sl vl vu .none->IsPart vl lo->IsPart vu hi->r x lo hi H Q->
  ∃T id,typeLookup (.type T) "__getitem__" = pure (some (.builtin id))/\s.TypeIs v T/\wpAny (model X.prog X.w) X.A (getItem v (.ref sl)) (EP X pins σ Q) X.xe s
def tSl(r:V->Option Int->Option Int->Hp->VK->Prop)(te:TE)(tl th:TO):TE:=λσ H Q=>te σ H λx H1=>tl σ H1 λl H2=>th σ H2 λu H3=>r x l u H3 Q
theorem Dc{r:V->Option Int->Option Int->Hp->VK->Prop}(hr:SlR X r)(he:PE X e te)(hl:PO X lo tl)(hu:PO X hi th):PE X (.Subscript e (.Slice lo hi none p2) pos) (tSl r te tl th):=by intro pins s σ H Q I h;refine jD (thn (he pins s σ H _ I h) λv s1 ⟨x,H1,I1,r1,q1⟩=>?_);refine wpAny_Slice (thn (hl pins s1 σ H1 _ I1 q1) λvl s2 ⟨l,H2,I2,pl,q2⟩=>thn (hu pins s2 σ H2 _ I2 q2) λvu s3 ⟨u,H3,I3,pu,q3⟩=>?_);rw[evalPart_none];refine ao ?_;have I4:Inv X pins σ H3 { s3 with heap:=s3.heap.push { cls:=.type "slice", data:=.fields #[vl,vu,.none] } }:=I3.kept (t':=s3.toks) λb ob q=>av _ q;obtain⟨T,id,hT,ht,hg⟩:=hr pins { s3 with heap:=s3.heap.push { cls:=.type "slice", data:=.fields #[vl,vu,.none] } } σ H3 x v vl vu l u s3.heap.objs.size Q I4 r1 (mf ..) pl pu q3;show wpAny (model X.prog X.w) X.A (subscriptTail e (.Slice lo hi none p2) v (.ref s3.heap.objs.size)) (EP X pins σ Q) X.xe { s3 with heap:=s3.heap.push { cls:=.type "slice", data:=.fields #[vl,vu,.none] } };exact tail_any (ops:=[.ref s3.heap.objs.size,v]) ht hT hg (by with_unfolding_all rfl)
def G5(xs:List V)(lo hi:Option Int):List V:=(xs.drop (HT.sIx xs.length 0 lo)).take (HT.sIx xs.length xs.length hi - HT.sIx xs.length 0 lo)
theorem De(xs:List V)(lo hi:Option Int):(G5 xs lo hi).length<=xs.length:=by unfold G5;rw[bf,cg];omega
def S9(K:aj):R2:=λx y H Q=>∃a b xs ys,x=.ref a/\y=.ref b/\SqT K H a xs/\SqT K H b ys/\xs≠[]/\xs.length+ys.length<=sizeLine/\
 (ys=[]->Q (.ref a) H)/\(ys≠[]->∀p,H p=none->Q (.ref p) (upd H p (.tup (xs++ys))))
theorem Vals.nil_iff{xs:List V}{us:List aa}(r:Vals xs us):us=[] ↔ xs=[]:=by
 cases r with
 |nil=>simp
 |cons _ _=>simp
theorem LR:OpR X (binaryOp .Add) (S9 X.K):=by intro pins s σ H x y v u Q I rx ry h;obtain⟨a,b,xs,ys,rfl,rfl,ha,hb,hx,hz,q1,q2⟩:=h;cases rx;cases ry;obtain⟨its,r1,p1,_⟩:=I.tuple ha;obtain⟨its2,r2,p2,_⟩:=I.tuple hb;refine HT.LO p1 p2 (λz=>hx (r1.nil_iff.mp z)) (λz=>⟨.ref a,H,I,rfl,q1 (r2.nil_iff.mp z)⟩) (λz=>?_) (by rw[<-r1.length,<- r2.length];exact hz);refine⟨.ref s.heap.objs.size,_,I.laid (t':=s.toks) (o:=.tup (xs++ys)) (λb ob q=>av _ q) (aw _) ?_,rfl,q2 (λw=>z (r2.nil_iff.mpr w)) _ (I.hok.fresh (aw _))⟩;exact⟨by rw[aB];exact hz,_,r1.append r2,IsTup.new _ _⟩
end
def ixN(n:Nat)(i:Int):Option Nat:=if 0<=i then (if i<n then some i.toNat else none)else if -(n:Int)<=i then some (i+n).toNat else none
def atI{α:Type}(xs:List α)(i:Int):Option α:=(ixN xs.length i).bind λj=>xs[j]?
variable{j:Nat}
theorem LS{n:Nat}{i:Int}(h:ixN n i=some j):seqIndex? i n=some j/\j<n/\-(n:Int)<=i/\i<n:=by
 unfold ixN at h;by_cases h0:0<=i
 ·rw[ag h0]at h;by_cases h1:i<n
  ·rw[ag h1]at h;have e:i.toNat=j:=bQ h;exact⟨by rw[seqIndex_of h0 h1,e],by omega,by omega,h1⟩
  ·rw[af h1]at h;cases h
 ·rw[af h0]at h;by_cases h1:-(n:Int)<=i
  ·rw[ag h1]at h;have e:(i+n).toNat=j:=bQ h;exact⟨by rw[seqIndex_neg (by omega) h1,e],by omega,h1,by omega⟩
  ·rw[af h1]at h;cases h
theorem BR{α:Type}{xs:List α}{i:Int}{v:α}(h:atI xs i=some v):∃j,seqIndex? i xs.length=some j/\xs[j]?=some v/\j<xs.length/\-(xs.length:Int)<=i/\i<xs.length:=by
 unfold atI at h;cases e:ixN xs.length i with
 |none=>rw[e]at h;cases h
 |some j=>rw[e]at h;obtain⟨h1,h2,h3,h4⟩:=LS e;exact⟨j,h1,h,h2,h3,h4⟩
theorem FV{α:Type}{xs:List α}{v:α}(h:xs[j]?=some v):atI xs (j:Int)=some v:=by
 have hj:j<xs.length:=(bx.mp h).1;have e:ixN xs.length (j:Int)=some j:=by unfold ixN;rw[ag (by omega),ag (by omega)];simp
 unfold atI;rw[e];exact h
def BS(b:Expr):Prop:=∀o i,subscripted b false o i=operate [o,i] (getItem o i)
def IxR(X:Cx)(r:R2):Prop:=
 ∀(value slice:Expr) (pins:List (Addr×Obj)) (s:ab) (σ:St) (H:Hp) (x y:V) (v u:aa) (Q:VK),Inv X pins σ H s->RelV x v->RelV y u->r x y H Q->
  subscripted slice false v u=operate [v,u] (getItem v u)->wpAny (model X.prog X.w) X.A (subscriptTail value slice v u) (EP X pins σ Q) X.xe s
def MtR(X:Cx)(id:String)(r:V->List V->Hp->VK->Prop):Prop:=
 ∀(pins:List (Addr×Obj)) (s:ab) (σ:St) (H:Hp) (x:V) (xs:List V) (v:aa) (us:List aa) (Q:VK),Inv X pins σ H s->RelV x v->Vals xs us->r x xs H Q->
  wpAny (model X.prog X.w) X.A (call (.builtin id) (v::us)) (EP X pins σ Q) X.xe s
variable{r:R2}{y:V}{u:aa}{pins:List (Addr×Obj)}{σ:St}{T:String}
section
variable{X:Cx}{a b:Expr}{ta tb:TE}{pos:Pos}
theorem IxR.or{r':R2}(h:IxR X r)(h':IxR X r'):IxR X (λx y H Q=>r x y H Q\/r' x y H Q):=by
 intro value slice pins s σ H x y v u Q I rx ry q hs;rcases q with q|q
 ·exact h value slice pins s σ H x y v u Q I rx ry q hs
 ·exact h' value slice pins s σ H x y v u Q I rx ry q hs
theorem IR(hr:IxR X r)(ha:PE X a ta)(hb:PE X b tb)(hs:BS b):PE X (.Subscript a b pos) (tOp r ta tb):=by intro pins s σ H Q I h;exact jD (OS ha hb I h λv u s2 x y H2 I2 rx ry q=>hr a b pins s2 σ H2 x y v u Q I2 rx ry q (hs _ _))
def G6(K:aj):R2:=λx y H Q=>∃p xs i v,x=.ref p/\y=.int i/\SqL K H p xs/\atI xs i=some v/\Q v H
def Ta(K:aj):R2:=λx y H Q=>∃p xs i v,x=.ref p/\y=.int i/\SqT K H p xs/\atI xs i=some v/\Q v H
def Tc:R2:=λx y H Q=>∃z i c,x=.str z/\y=.int i/\z.length<=sizeLine/\atI z.cps.toList i=some c/\Q (.str ⟨#[c]⟩) H
theorem BU:IxR X (G6 X.K):=by
 intro value slice pins s σ H x y v u Q I rx ry h hs;obtain⟨p,xs,i,z,rfl,rfl,hq,he,q⟩:=h;cases rx;obtain⟨t,rfl⟩:=ry;obtain⟨its,r,pl,hz⟩:=I.list hq;obtain⟨j,h1,h2,h3,h4,h5⟩:=BR he;obtain⟨w,ew,rw'⟩:=r.get h2;have hl:=r.length;have hn:=zm;have fin:EP X pins σ Q w s:=⟨z,H,I,rw',q⟩;by_cases h0:0<=i
 ·have hj:i.toNat=j:=by rw[seqIndex_of h0 h5]at h1;exact bQ h1
  exact item_listR pl.isList h0 (by omega) (by rw[hj];simpa using ew) fin hs
 ·have hj:(i+(its.toArray.size:Int)).toNat=j:=by rw[seqIndex_neg (by omega) h4]at h1;rw[aI,<- hl];exact bQ h1
  exact jU (x:=w) pl.isList.typeIs kJ.lookup
   (wpAny_getItem_list_neg (Q:=λr s'=>r=w/\EP X pins σ Q r s') pl.isList (by omega) (by rw[aI]<;>omega) (by omega) (by rw[hj];simpa using ew) ⟨rfl,fin⟩) hs
theorem O3:IxR X (Ta X.K):=by
 intro value slice pins s σ H x y v u Q I rx ry h hs;obtain⟨p,xs,i,z,rfl,rfl,hq,he,q⟩:=h;cases rx;obtain⟨t,rfl⟩:=ry;obtain⟨its,r,pl,hz⟩:=I.tuple hq;obtain⟨j,h1,h2,h3,h4,h5⟩:=BR he;obtain⟨w,ew,rw'⟩:=r.get h2;have hl:=r.length;have hn:=zm;have fin:EP X pins σ Q w s:=⟨z,H,I,rw',q⟩;exact jU (x:=w) pl.typeIs slot_tuple_getitem.lookup
  (getItem_tuple (j:=j) (Q:=λr s'=>r=w/\EP X pins σ Q r s') pl (by omega) (by omega) (by rw[aI,<- hl];exact h1) (by simpa using ew) ⟨rfl,fin⟩) hs
theorem O4:IxR X Tc:=by
 intro value slice pins s σ H x y v u Q I rx ry h hs;obtain⟨z,i,c,rfl,rfl,hz,he,q⟩:=h;obtain⟨t,rfl⟩:=rx;obtain⟨t',rfl⟩:=ry;obtain⟨j,h1,h2,h3,h4,h5⟩:=BR he;have hl:z.cps.toList.length=z.length:=by simp[Str.length]
 rw[hl]at h1 h4 h5;have hn:=zm;exact tail_any (typeIs_str s z t) slot_str_getitem.lookup (getItem_str (c:=c) (by
  have e1:decide (i < -(2 ^ 63:Int))=false:=aA (by omega);have e2:decide (i >= 2 ^ 63)=false:=aA (by omega);rw[e1,e2,Bool.or_false]) (by rw[h1];simpa using h2) ⟨.str ⟨#[c]⟩,H,I.tok _,⟨_,rfl⟩,q⟩) hs
def rIx(K:aj):R2:=λx y H Q=>G6 K x y H Q\/Ta K x y H Q\/Tc x y H Q
theorem O5:IxR X (rIx X.K):=BU.or (O3.or O4)
theorem BV(lo hi:Option Int)(n:Nat):(sliceBounds lo hi none n).1=((HT.sIx n 0 lo:Nat):Int)/\(sliceBounds lo hi none n).2.1=((HT.sIx n n hi:Nat):Int)/\(sliceBounds lo hi none n).2.2=1:=by
 refine⟨?_,?_,rfl⟩
 ·cases lo with
  |none=>simp[sliceBounds,HT.sIx]
  |some i=>
   simp only[sliceBounds,HT.sIx,lp,show (1:Int) > 0 by decide,if_true];by_cases h:i<0
   ·simp only[h,if_true]<;>omega
   ·simp only[h,if_false]<;>omega
 ·cases hi with
  |none=>simp[sliceBounds,HT.sIx]
  |some i=>
   simp only[sliceBounds,HT.sIx,lp,show (1:Int) > 0 by decide,if_true];by_cases h:i<0
   ·simp only[h,if_true]<;>omega
   ·simp only[h,if_false]<;>omega
theorem AH(its:List aa)(lo hi:Option Int):slicePick its.toArray lo hi none=((its.drop (HT.sIx its.length 0 lo)).take (HT.sIx its.length its.length hi - HT.sIx its.length 0 lo)).toArray:=by obtain⟨h1,h2,h3⟩:=BV lo hi its.toArray.size;unfold slicePick;rw[h1,h2,h3];simp only[sliceRange_one,pick_run,aI]<;>rfl
def G7(K:aj):V->Option Int->Option Int->Hp->VK->Prop:=λx lo hi H Q=>∃a xs,x=.ref a/\SqL K H a xs/\∀p,H p=none->Q (.ref p) (upd H p (.lst (G5 xs lo hi)))
theorem LU:SlR X (G7 X.K):=by intro pins s σ H x v vl vu lo hi sl Q I rx hs pl pu h;obtain⟨a,xs,rfl,hx,q⟩:=h;cases rx;obtain⟨its,r,ht,hz⟩:=I.list hx;have hlen:=r.length;refine⟨"list", _,kJ.lookup,ht.isList.typeIs,?_⟩;refine wpAny_getItem_list_slice ht.isList hs pl pu .none (by simp) ?_ (by rw[aI]<;>omega);rw[AH,<- hlen];refine⟨.ref s.heap.objs.size,_,I.laid (t':=s.toks) (o:=.lst (G5 xs lo hi)) (λb ob q=>av _ q) (aw _) ?_,rfl,q _ (I.hok.fresh (aw _))⟩;exact⟨bF (De xs lo hi) hz,_,0,(r.drop (HT.sIx xs.length 0 lo)).take (HT.sIx xs.length xs.length hi - HT.sIx xs.length 0 lo),aP _ rfl⟩
def vM:V->Bool
 |.non=>true
 |.bl _=>true
 |.int _=>true
 |.str _=>true
 |_=>false
def eqV:V->V->Bool
 |.non,.non=>true
 |.bl a,.bl b=>a==b
 |.bl a,.int b=>(if a then 1 else 0)==b
 |.int a,.bl b=>a==(if b then 1 else 0)
 |.int a,.int b=>a==b
 |.str a,.str b=>a==b
 |_,_=>false
theorem zr{A:ar}{s:ab}{x:V}{v:aa}(ry:RelV y u)(rx:RelV x v)(fy:vM y=true)(fx:vM x=true):gK A s u v (eqV y x):=by
 cases y with
 |non=>
  cases ry;cases x with
  |non=>cases rx;exact iO _
  |bl b=>cases rx;exact SeqAt.EqAt.none_bool b
  |int b=>obtain⟨t,rfl⟩:=rx;exact SeqAt.EqAt.none_int b t
  |str b=>obtain⟨t,rfl⟩:=rx;exact SeqAt.EqAt.none_str b t
  |_=>exact ai (show false=true from fx) aR
 |bl a=>
  cases ry;cases x with
  |non=>cases rx;exact SeqAt.EqAt.bool_none a
  |bl b=>cases rx;exact SeqAt.EqAt.bool_bool a b
  |int b=>obtain⟨t,rfl⟩:=rx;exact SeqAt.EqAt.bool_int a b t
  |str b=>obtain⟨t,rfl⟩:=rx;exact SeqAt.EqAt.bool_str a b t
  |_=>exact ai (show false=true from fx) aR
 |int a=>
  obtain⟨t',rfl⟩:=ry;cases x with
  |non=>cases rx;exact SeqAt.EqAt.int_none a t'
  |bl b=>cases rx;exact SeqAt.EqAt.int_bool a t' b
  |int b=>obtain⟨t,rfl⟩:=rx;exact SeqAt.EqAt.int_int a t' b t
  |str b=>obtain⟨t,rfl⟩:=rx;exact ku a t' b t
  |_=>exact ai (show false=true from fx) aR
 |str a=>
  obtain⟨t',rfl⟩:=ry;cases x with
  |non=>cases rx;exact SeqAt.EqAt.str_none a t'
  |bl b=>cases rx;exact SeqAt.EqAt.str_bool a t' b
  |int b=>obtain⟨t,rfl⟩:=rx;exact kz a t' b t
  |str b=>obtain⟨t,rfl⟩:=rx;exact il a t' b t
  |_=>exact ai (show false=true from fx) aR
 |_=>exact ai (show false=true from fy) aR
def eqU(x:V)(u:aa):Bool:=match u with
 |.none=>eqV .non x
 |.bool b=>eqV (.bl b) x
 |.int i _=>eqV (.int i) x
 |.str z _=>eqV (.str z) x
 |_=>false
theorem IS{x:V}(r:RelV y u)(f:vM y=true):eqU x u=eqV y x:=by
 cases y with
 |non=>cases r;rfl
 |bl b=>cases r;rfl
 |int i=>obtain⟨t,rfl⟩:=r;rfl
 |str z=>obtain⟨t,rfl⟩:=r;rfl
 |_=>exact ai (show false=true from f) aR
theorem wB{x:V}:∀{xs:List V} {us:List aa},Vals xs us->xs.all vM=true->us.any (eqU x)=xs.any λy=>eqV y x
 |_,_,.nil,_=>rfl
 |y::xs,u::us,.cons r t,f=>by rw[eF,aL]at f;rw[dB,dB,IS r f.1,wB t f.2]
theorem uN{A:ar}{s:ab}{x:V}{v:aa}(rx:RelV x v)(fx:vM x=true):∀{xs:List V} {us:List aa},Vals xs us->xs.all vM=true->∀u∈us,gK A s u v (eqU x u)
 |_,_,.nil,_=>λu hu=>by cases hu
 |y::xs,u::us,.cons r t,f=>λu' hu=>by
  rw[eF,aL]at f;rcases aD.mp hu with rfl|hu
  ·rw[IS r f.1];exact zr r rx f.1 fx
  ·exact uN rx fx t f.2 u' hu
def inV(x:V)(xs:List V):Bool:=xs.any λy=>eqV y x
def rIn(K:aj)(neg:Bool):R2:=λx y H Q=>∃p xs,y=.ref p/\(SqL K H p xs\/SqT K H p xs)/\vM x=true/\xs.all vM=true/\Q (.bl (if neg then !inV x xs else inV x xs)) H
theorem G8:OpR X (compareOp .In) (rIn X.K false):=by
 intro pins s σ H x y v u Q I rx ry h;obtain⟨p,xs,rfl,hq,fx,fs,q⟩:=h;cases ry;rcases hq with hq|hq
 ·obtain⟨its,r,pl,hz⟩:=I.list hq;refine SeqAt.in_listAt (eqU x) pl.isList (λw hw=>uN rx fx r fs w (by simpa using hw)) ⟨.bl _,H,I,rfl,?_⟩;rw[show its.toArray.any (eqU x)=its.any (eqU x) by simp,wB r fs];exact q
 ·obtain⟨its,r,pl,hz⟩:=I.tuple hq;refine SeqAt.in_tupleAt (eqU x) pl (λw hw=>uN rx fx r fs w (by simpa using hw)) ⟨.bl _,H,I,rfl,?_⟩;rw[show its.toArray.any (eqU x)=its.any (eqU x) by simp,wB r fs];exact q
theorem BW:OpR X (compareOp .NotIn) (rIn X.K true):=by
 intro pins s σ H x y v u Q I rx ry h;obtain⟨p,xs,rfl,hq,fx,fs,q⟩:=h;cases ry;rcases hq with hq|hq
 ·obtain⟨its,r,pl,hz⟩:=I.list hq;refine SeqAt.notIn_listAt (eqU x) pl.isList (λw hw=>uN rx fx r fs w (by simpa using hw)) ⟨.bl _,H,I,rfl,?_⟩;rw[show its.toArray.any (eqU x)=its.any (eqU x) by simp,wB r fs];exact q
 ·obtain⟨its,r,pl,hz⟩:=I.tuple hq;refine SeqAt.notIn_tupleAt (eqU x) pl (λw hw=>uN rx fx r fs w (by simpa using hw)) ⟨.bl _,H,I,rfl,?_⟩;rw[show its.toArray.any (eqU x)=its.any (eqU x) by simp,wB r fs];exact q
theorem BX:oa X (.builtin "len") (λxs H Q=>∃p ys,xs=[.ref p]/\(SqL X.K H p ys\/SqT X.K H p ys)/\Q (.int ys.length) H):=by
 intro pins s σ H xs us Q I r h;obtain⟨p,ys,rfl,hq,q⟩:=h;obtain⟨u,rfl,rx⟩:=vals1 r;cases rx;have hn:=zm;rcases hq with hq|hq
 ·obtain⟨its,r',pl,hz⟩:=I.list hq;have hlen:=r'.length;exact Calls.call_len_list pl.isList (by simp only[aI]<;>omega) ⟨.int ys.length,H,I.tok _,⟨s.toks+1,by rw[aI,hlen]⟩,q⟩
 ·obtain⟨its,r',pl,hz⟩:=I.tuple hq;have hlen:=r'.length;exact len_tuple pl (by simp only[aI]<;>omega) ⟨.int ys.length,H,I.tok _,⟨s.toks+1,by rw[aI,hlen]⟩,q⟩
theorem BY:oa X (.builtin "len") (λxs H Q=>∃z,xs=[.str z]/\z.length<=sizeLine/\Q (.int z.length) H):=by intro pins s σ H xs us Q I r h;obtain⟨z,rfl,hz,q⟩:=h;obtain⟨u,rfl,t,rfl⟩:=vals1 r;have hn:=zm;exact len_str (by omega) ⟨.int z.length,H,I.tok _,⟨_,rfl⟩,q⟩
theorem BZ:oa X (.type "list") (λxs H Q=>∃p ys,xs=[.ref p]/\(SqL X.K H p ys\/SqT X.K H p ys)/\∀l,H l=none->Q (.ref l) (upd H l (.lst ys))):=by
 intro pins s σ H xs us Q I r h;obtain⟨p,ys,rfl,hq,q⟩:=h;obtain⟨u,rfl,rx⟩:=vals1 r;cases rx;have fin:∀(its:List aa),Vals ys its->ys.length<=sizeLine->∀(h':Heap) (c':Nat),(∀b o',s.heap.get? b=some o'->h'.get? b=some o')->
   h'.get? s.heap.objs.size=some { cls:=.type "list", dict:=none,data:=.seq its.toArray c',slots:=#[] }->EP X pins σ Q (.ref s.heap.objs.size) { s with heap:=h' }:=λits r' hz h' c' kp e=>
  ⟨.ref s.heap.objs.size,_,I.laid (t':=s.toks) kp (aw _) (show nS X.prog X.w _ h' _ (.lst ys) from⟨hz,its,c',r',e⟩),rfl,q _ (I.hok.fresh (aw _))⟩
 rcases hq with hq|hq
 ·obtain⟨its,r',pl,hz⟩:=I.list hq;have hlen:=r'.length;obtain⟨o,ho,hc,n,hd⟩:=pl.isList;exact call_list_seq p (.inl rfl) ho hc hd (λh' c' kp e=>fin its r' hz h' c' kp e) (by simp only[aI]<;>omega)
 ·obtain⟨its,r',pl,hz⟩:=I.tuple hq;have hlen:=r'.length;obtain⟨o,ho,hc,n,hd⟩:=pl;exact call_list_seq p (.inr rfl) ho hc hd (λh' c' kp e=>fin its r' hz h' c' kp e) (by simp only[aI]<;>omega)
theorem AI:oa X (.type "tuple") (λxs H Q=>∃p ys,xs=[.ref p]/\((SqL X.K H p ys/\∀l,H l=none->Q (.ref l) (upd H l (.tup ys)))\/(SqT X.K H p ys/\Q (.ref p) H))):=by
 intro pins s σ H xs us Q I r h;obtain⟨p,ys,rfl,h⟩:=h;obtain⟨u,rfl,rx⟩:=vals1 r;cases rx;rcases h with ⟨hq,q⟩|⟨hq,q⟩
 ·obtain⟨its,r',pl,hz⟩:=I.list hq;have hlen:=r'.length;refine call_tuple_list pl.isList (λh' kp=>?_) (by simp only[aI]<;>omega);have I1:Inv X pins σ H { s with heap:=h' }:=I.kept (t':=s.toks) kp;have I2:Inv X pins σ (upd H h'.objs.size (.tup ys)) { s with heap:=h'.push { cls:=.type "tuple", data:=.seq its.toArray } }:=
   I1.laid (t':=s.toks) (λb o e=>av _ e) (aw _) (show nS X.prog X.w _ _ _ (.tup ys) from⟨hz,its,r',IsTup.new _ _⟩)
  exact⟨.ref h'.objs.size,_,I2,rfl,q _ (I1.hok.fresh (aw _))⟩
 ·obtain⟨its,r',pl,hz⟩:=I.tuple hq;exact call_tuple_same pl ⟨.ref p,H,I,rfl,q⟩
def tyV(K:aj)(T:String)(x:V)(H:Hp):Prop:=match x with
 |.str _=>T="str"
 |.int _=>T="int"
 |.ref p=>(T="list" /\ ∃xs,SqL K H p xs)\/(T="tuple" /\ ∃o,K.lookup p=some o/\o.cls=.type "tuple" /\ o.dict=none)\/
   (T="dict" /\ ((∃kvs,H p=some (.dK kvs))\/∃kvs,H p=some (.dT kvs)))\/(T="set" /\ ∃S n,H p=some (.set S n))
 |_=>False
theorem O6{H:Hp}{s:ab}{x:V}{v:aa}(I:Inv X pins σ H s)(r:RelV x v)(ty:tyV X.K T x H):
  s.TypeIs v T/\∀a,v=.ref a->∃ob,s.heap.get? a=some ob/\ob.dict=none:=by
 cases x with
 |str z=>obtain⟨t,rfl⟩:=r;cases (show T="str" from ty);exact⟨typeIs_str s z t,λ_ e=>nomatch e⟩
 |int i=>obtain⟨t,rfl⟩:=r;cases (show T="int" from ty);exact⟨typeIs_int s i t,λ_ e=>nomatch e⟩
 |ref p=>
  cases r;rcases ty with ⟨rfl,xs,hq⟩|⟨rfl,o,hk,hc,hd⟩|⟨rfl,hk⟩|⟨rfl,S,n,hk⟩
  ·obtain⟨its,_,pl,_⟩:=I.list hq;refine⟨pl.isList.typeIs,λa e=>?_⟩;cases e;obtain⟨o,n,e,c,hd,_⟩:=pl;exact⟨o,e,hd⟩
  ·refine⟨⟨o,I.kIn p o hk,hc⟩,λa e=>?_⟩;cases e;exact⟨o,I.kIn _ o hk,hd⟩
  ·have z:∃o,s.heap.get? p=some o/\o.ExactDict:=by
    rcases hk with ⟨kvs,hk⟩|⟨kvs,hk⟩
    ·obtain⟨_,_,_,_,o,_,_,e,ex,_⟩:=I.hok p _ hk;exact⟨o,e,ex⟩
    ·obtain⟨_,_,_,_,o,_,_,e,ex,_⟩:=I.hok p _ hk;exact⟨o,e,ex⟩
   obtain⟨o,e,ex⟩:=z;refine⟨⟨o,e,ex.1⟩,λa e2=>?_⟩;cases e2;exact⟨o,e,ex.2.1⟩
  ·obtain⟨o,_,_,_,e,ex,_⟩:=I.hok p _ hk;refine⟨⟨o,e,ex.1⟩,λa e2=>?_⟩;cases e2;exact⟨o,e,ex.2.1⟩
 |_=>exact bT ty
def tBM(K:aj)(T:String)(r:V->List V->Hp->VK->Prop)(to:TE)(t:TA):TE:=λσ H Q=>to σ H λx H1=>tyV K T x H1/\t σ H1 λxs H2=>r x xs H2 Q
variable{o e:Expr}{es:List Expr}{to:TE}{t:TA}{name:Str}{apos cpos:Pos}{T id:String}{r:V->List V->Hp->VK->Prop}
theorem Te(pa:jE T)(slot:Slot T name id)(hty:typeOf (.builtin id)=pure (.type "method_descriptor"))(hm:MtR X id r)(ho:PE X o to)(ha:PA X (e::es) t)
  (hbase:attributeBase o name X.env (eval o X.env)=eval o X.env:=by rfl)
  (hfew:((backTo cpos (starEach (e::es) X.env)).all (λx=>!x.1)&&(backToKw cpos (keywordEach [] X.env)).all (λx=>x.1.isSome)
   && decide ((e::es).length+([]:List df).length+(if ([]:List df).isEmpty then 0 else 1)<30))=true:=by rfl)
  (hline:(apos.endLine==cpos.line)=true:=by rfl) (hs:starEach (e::es) X.env=(false,eval e X.env)::starEach es X.env:=by rfl) (hplain:(backTo cpos (starEach es X.env)).any (·.1)=false:=by rfl):
  PE X (.Call (.Attribute o name apos) (e::es) [] cpos) (tBM X.K T r to t):=by
 intro pins s σ H Q I h;refine wpAny_Call_method_late hbase hfew hline rfl (thn (ho pins s σ H _ I h) λv s1 ⟨x,H1,I1,r1,ty,q1⟩=>?_);obtain⟨h1,h2⟩:=O6 I1 r1 ty;refine⟨T,id,pa,slot,hty,h1,h2,?_⟩;have hA:=ha cpos pins s1 σ H1 _ I1 q1;rw[hs]at hA ⊢;refine f6 (by show (false||(backTo cpos (starEach es X.env)).any (·.1))=false;rw[hplain]<;>rfl) (gb ?_)
 exact thn hA λus s2 ⟨vs,H2,I2,r2,q2⟩=>hm pins s2 σ H2 x vs v us Q I2 r1 r2 q2
end
def MtM(X:Cx)(id:String)(r:V->List V->Hp->VK->Prop):Prop:=
 ∀(pins:List (Addr×Obj)) (s:ab) (σ:St) (H:Hp) (x:V) (xs:List V) (v:aa) (us:List aa) (Q:VK),Inv X pins σ H s->RelV x v->Vals xs us->r x xs H Q->
  wpAny (model X.prog X.w) X.A (call (.builtin id) (v::us)) (EP X pins σ Q) X.xe s
theorem Vals.one:∀{x:V} {us:List aa},Vals [x] us->∃u,us=[u]/\RelV x u
 |_,_,.cons r .nil=>⟨_,rfl,r⟩
theorem Vals.eraseIdx:∀{xs:List V} {us:List aa} (i:Nat),Vals xs us->Vals (xs.eraseIdx i) (us.eraseIdx i)
 |_,_,_,.nil=>.nil
 |_,_,0,.cons _ t=>t
 |_,_,i+1,.cons r t=>.cons r (Vals.eraseIdx i t)
theorem A7{α:Type}:∀(l:List α) (i:Nat),(l.eraseIdx i).length<=l.length
 |[],_=>aw _
 |_::_,0=>dG _
 |_::r,i+1=>Nat.succ_le_succ (A7 r i)
variable{its:List aa}{t':Nat}
section
variable{X:Cx}{pins:List (Addr×Obj)}{σ:St}{H:Hp}{s:ab}{l b:Addr}{xs ys zs:List V}
theorem Inv.lset{its':List aa}{n:Nat}{f:Array aa->Array aa}(I:Inv X pins σ H s)(hH:H l=some (.lst xs))
  (e:s.heap.get? l=some { cls:=.type "list", data:=.seq its.toArray n }) (hf:f its.toArray=its'.toArray) (hv:Vals ys its') (hz:ys.length<=sizeLine):
  Inv X pins σ (upd H l (.lst ys)) { s with heap:=s.heap.update l (bH f),toks:=t' }:=by
 have q:=PySem.IsL.update e f;rw[hf]at q;refine I.write (x:=l) (e:=l) (by rw[hH];exact trivial) (.inl rfl) (λb' u hb hu=>(di s.heap (bH f) (bI hb)).trans hu) ⟨_,q⟩ ?_;exact⟨hz,its',_,hv,q⟩
theorem Inv.lnew(I:Inv X pins σ H s)(hv:Vals ys its)(hz:ys.length<=sizeLine):
  Inv X pins σ (upd H s.heap.objs.size (.lst ys)) { s with heap:=s.heap.push { cls:=.type "list", data:=.seq its.toArray },toks:=t' }:=
 I.laid (λ_ _ q=>av _ q) (aw _) ⟨hz,its,0,hv,aP _ rfl⟩
theorem Inv.fresh(I:Inv X pins σ H s):H s.heap.objs.size=none:=I.hok.fresh (aw _)
theorem Inv.lstM(I:Inv X pins σ H s)(hH:H l=some (.lst xs)):xs.length<=sizeLine/\∃(its:List aa) (n:Nat),Vals xs its/\xs.length=its.length/\s.heap.get? l=some { cls:=.type "list", data:=.seq its.toArray n }:=by obtain⟨z,its,n,r,e⟩:=I.hok l _ hH;exact⟨z,its,n,r,r.length,e⟩
theorem Dg{n:Nat}(h:n<=sizeLine):eW n=false:=by unfold eW;exact aA (by omega)
end
section
variable{X:Cx}
def B2:V->List V->Hp->VK->Prop:=λx vs H Q=>∃l xs y,x=.ref l/\vs=[y]/\H l=some (.lst xs)/\xs.length<sizeLine/\Q .non (upd H l (.lst (xs++[y])))
theorem xA:MtM X "list.append" B2:=by intro pins s σ H x vs v us Q I rx rv h;obtain⟨l,xs,y,rfl,rfl,hH,hz,q⟩:=h;cases rx;obtain⟨u,rfl,ru⟩:=rv.one;obtain⟨z,its,n,r,hl,e⟩:=I.lstM hH;refine gO ip ⟨_,e,rfl⟩ F.entry_list_append (F.args_list_append_2 _ _) (PySem.list_append l its.toArray n u (by rw[aI];omega)) ⟨e,?_⟩;refine⟨.non,_,I.lset (its':=its++[u]) hH e (by simp) (r.append (.cons ru .nil)) ?_,rfl,q⟩;rw[aB,aZ];omega
def LV:V->List V->Hp->VK->Prop:=λx vs H Q=>∃l b xs zs,x=.ref l/\vs=[.ref b]/\H l=some (.lst xs)/\H b=some (.lst zs)/\xs.length+zs.length<=sizeLine/\Q .non (upd H l (.lst (xs++zs)))
theorem SG:MtM X "list.extend" LV:=by
 intro pins s σ H x vs v us Q I rx rv h;obtain⟨l,b,xs,zs,rfl,rfl,hH,hB,hz,q⟩:=h;cases rx;obtain⟨u,rfl,ru⟩:=rv.one;cases ru;obtain⟨z,its,n,r,hl,e⟩:=I.lstM hH;obtain⟨z2,its2,n2,r2,hl2,e2⟩:=I.lstM hB;have hsz:its.toArray.size+its2.toArray.size<=sizeLine:=by rw[aI,aI];omega
 have hlong:¬(!its.toArray.isEmpty&&eW (its.toArray.size+its2.toArray.size))=true:=by rw[Dg hsz,iV];exact aR
 refine gO iq ⟨_,e,rfl⟩ km (kc _ _)
  (AutoSeq1.list_extend_list_list_0 l its.toArray n b its2.toArray n2 hlong (by rw[aI];omega) (by omega)) ⟨e,e2,?_⟩
 refine⟨.non,_,I.lset (its':=its++its2) hH e (by simp) (r.append r2) ?_,rfl,q⟩;rw[aB];omega
def IT:V->List V->Hp->VK->Prop:=λx vs H Q=>∃l xs i k y,x=.ref l/\vs=[.int i]/\H l=some (.lst xs)/\-(2 ^ 63)<=i/\i<2 ^ 63/\seqIndex? i xs.length=some k/\xs[k]?=some y/\Q y (upd H l (.lst (xs.eraseIdx k)))
theorem IU:MtM X "list.pop" IT:=by
 intro pins s σ H x vs v us Q I rx rv h;obtain⟨l,xs,i,k,y,rfl,rfl,hH,h1,h2,hk,hy,q⟩:=h;cases rx;obtain⟨u,rfl,ru⟩:=rv.one;obtain⟨t,rfl⟩:=ru;obtain⟨z,its,n,r,hl,e⟩:=I.lstM hH;obtain⟨w,hw,rw'⟩:=r.get hy;refine gO lA ⟨_,e,rfl⟩ F.entry_list_pop (F.args_list_pop_2 _ _)
  (MeetsSeq.list_pop_at l its.toArray n i t k w (fitsIndex_both h1 h2) (by rw[aI,<- hl];exact hk) (by rw[<-dj];exact hw) (by rw[aI];omega)) ⟨e,?_⟩
 refine⟨y,_,I.lset (its':=its.eraseIdx k) hH e ?_ (r.eraseIdx k) ?_,rw',q⟩
 ·show its.toArray.eraseIdxIfInBounds k=(its.eraseIdx k).toArray;rw[List.eraseIdxIfInBounds_toArray]
 ·have:=A7 xs k;omega
def UK:R2:=λx y H Q=>∃l b xs zs,x=.ref l/\y=.ref b/\H l=some (.lst xs)/\H b=some (.lst zs)/\xs.length+zs.length<=sizeLine/\∀p,H p=none->Q (.ref p) (upd H p (.lst (xs++zs)))
theorem O7:OpR X (binaryOp .Add) UK:=by
 intro pins s σ H x y v u Q I rx ry h;obtain⟨l,b,xs,zs,rfl,rfl,hH,hB,hz,q⟩:=h;cases rx;cases ry;obtain⟨z,its,n,r,hl,e⟩:=I.lstM hH;obtain⟨z2,its2,n2,r2,hl2,e2⟩:=I.lstM hB;refine PySem.P.add_list e e2 ?_ (by rw[aI,aI];omega);have ea:its.toArray++its2.toArray=(its++its2).toArray:=by simp
 rw[ea];exact⟨.ref _,_,I.lnew (t':=s.toks) (r.append r2) (by rw[aB];omega),rfl,q _ I.fresh⟩
end
section
variable{prog:aq}{w:ak}{A:ar}{E:aa->ab->Prop}{s:ab}
set_option maxRecDepth 100000 in
end
section
variable{κ:Type}[DecidableEq κ]
def qc(kvs:List (κ×V))(k:κ):Option V:=(kvs.find? λkv=>decide (kv.1=k)).map (·.2)
def putK(kvs:List (κ×V))(k:κ)(v:V):List (κ×V):=
 if (kvs.any λkv=>decide (kv.1=k))=true then kvs.map (λkv=>if kv.1=k then (kv.1,v)else kv)else kvs++[(k,v)]
theorem wC{p:κ×V}{r:List (κ×V)}{k:κ}(e:p.1=k):qc (p::r) k=some p.2:=by simp[qc,c4,e]
theorem wD{p:κ×V}{r:List (κ×V)}{k:κ}(e:¬p.1=k):qc (p::r) k=qc r k:=by simp[qc,c4,e]
theorem zt(k:κ):∀kvs:List (κ×V),(kvs.any λkv=>decide (kv.1=k))=(qc kvs k).isSome
 |[]=>rfl
 |p::r=>by
  rw[dB];by_cases e:p.1=k
  ·simp only[wC e,aH e,Bool.true_or,Option.isSome_some]
  ·rw[wD e,aA e,Bool.false_or];exact zt k r
theorem su(kvs:List (κ×V))(k:κ)(v:V):(putK kvs k v).length<=kvs.length+1:=by
 unfold putK;split
 ·rw[ah];omega
 ·rw[aB,aC,eA];omega
theorem IV{kvs:List (κ×V)}{k:κ}(v:V)(h:qc kvs k=none):putK kvs k v=kvs++[(k,v)]:=by unfold putK;rw[zt,h];exact af (by decide)
theorem uK.isSome_eq{o:Option V}{u:Option aa}(r:uK o u):o.isSome=u.isSome:=by
 cases o with
 |none=>cases u with
  |none=>rfl
  |some _=>exact(show False from r).elim
 |some _=>cases u with
  |none=>exact(show False from r).elim
  |some _=>rfl
theorem uK.getD{o:Option V}{u:Option aa}{d:V}{d':aa}(r:uK o u)(rd:RelV d d'):RelV (o.getD d) (u.getD d'):=by
 cases o with
 |none=>cases u with
  |none=>exact rd
  |some _=>exact(show False from r).elim
 |some _=>cases u with
  |none=>exact(show False from r).elim
  |some _=>exact r
theorem KV.val{kvs:List (κ×V)}{vs:List (κ×aa)}(r:KV kvs vs)(k:κ):uK (qc kvs k) (valueAt vs k):=by
 unfold KV at r
 induction r with
 |nil=>exact True.intro
 |@cons p q ps qs h t ih=>
  obtain⟨h1,h2⟩:=h;by_cases e:p.1=k
  ·have e':q.1=k:=h1.symm.trans e;have b:valueAt (q::qs) k=some q.2:=by simp[valueAt,c4,e']
   rw[wC e,b];exact h2
  ·have e':¬q.1=k:=λz=>e (h1.trans z);have b:valueAt (q::qs) k=valueAt qs k:=by simp[valueAt,c4,e']
   rw[wD e,b];exact ih
theorem KV.any{kvs:List (κ×V)}{vs:List (κ×aa)}(r:KV kvs vs)(k:κ):(kvs.any λkv=>decide (kv.1=k))=vs.any λkv=>decide (kv.1=k):=by
 unfold KV at r
 induction r with
 |nil=>rfl
 |cons h t ih=>rw[dB,dB,ih,h.1]
theorem KV.repl{kvs:List (κ×V)}{vs:List (κ×aa)}(r:KV kvs vs)(k:κ)(ry:RelV y u):
  KV (kvs.map λkv=>if kv.1=k then (kv.1,y)else kv) (vs.map λkv=>if kv.1=k then (kv.1,u)else kv):=by
 unfold KV at r ⊢
 induction r with
 |nil=>exact .nil
 |@cons p q ps qs h t ih=>
  rw[au,au];refine .cons ?_ ih;obtain⟨h1,h2⟩:=h;by_cases e:p.1=k
  ·rw[ag e,ag (h1.symm.trans e)];exact⟨h1,ry⟩
  ·rw[af e,af (λz=>e (h1.trans z))];exact⟨h1,h2⟩
theorem KV.put{kvs:List (κ×V)}{vs:List (κ×aa)}(r:KV kvs vs)(k:κ){y:V}{u:aa}(ry:RelV y u):KV (putK kvs k y) (stored vs k u):=by
 unfold putK stored;rw[r.any k];by_cases e:(vs.any λkv=>decide (kv.1=k))=true
 ·rw[ag e,ag e];exact r.repl k ry
 ·rw[af e,af e];exact l3 r ⟨rfl,ry⟩
theorem KV.length{kvs:List (κ×V)}{vs:List (κ×aa)}(r:KV kvs vs):kvs.length=vs.length:=jd r
end
theorem vO{P:aq}{w:ak}{k:Key}(r:RelV (kV k) u):(mN P w).is k u=true:=by
 cases k with
 |inl i=>obtain⟨t,e⟩:=(show ∃t,u=Value.int i t from r);subst e;exact CT P w i t
 |inr x=>obtain⟨t,e⟩:=(show ∃t,u=Value.str x t from r);subst e;exact CU P w x t
theorem A8{P:aq}{w:ak}:∀{ks:List Key} {us:List aa},Vals (ks.map kV) us->ItemsAre (mN P w) ks us
 |[],_,r=>by rw[bS]at r;cases r;exact .nil
 |k::ks,_,r=>by
  rw[au]at r;cases r with
  |cons h t=>exact .cons (vO h) (A8 t)
abbrev KT(H:Hp):List (List Key×V)->List (List Key×Addr×aa)->Prop:=dJ λp q=>p.1=q.1/\H q.2.1=some (.tup (p.1.map kV))/\RelV p.2 q.2.2
variable{kvs:List (List Key×V)}{xs:List (List Key×Addr×aa)}
theorem KT.val{H:Hp}(r:KT H kvs xs)(k:List Key):uK (qc kvs k) ((atKey xs k).map (·.2)):=by
 induction r with
 |nil=>exact True.intro
 |@cons p q ps qs h t ih=>
  obtain⟨h1,_,h2⟩:=h;by_cases e:p.1=k
  ·have e':q.1=k:=h1.symm.trans e;have b:atKey (q::qs) k=some q.2:=by simp[atKey,c4,e']
   rw[wC e,b];exact h2
  ·have e':¬q.1=k:=λz=>e (h1.trans z);have b:atKey (q::qs) k=atKey qs k:=by simp[atKey,c4,e']
   rw[wD e,b];exact ih
theorem KT.repl{H:Hp}(r:KT H kvs xs)(k:List Key)(ry:RelV y u):
  KT H (kvs.map λkv=>if kv.1=k then (kv.1,y)else kv) (xs.map (putAt k u)):=by
 induction r with
 |nil=>exact .nil
 |@cons p q ps qs h t ih=>
  rw[au,au];refine .cons ?_ ih;obtain⟨h1,h2,h3⟩:=h;unfold putAt;by_cases e:p.1=k
  ·rw[ag e,ag (h1.symm.trans e)];exact⟨h1,h2,ry⟩
  ·rw[af e,af (λz=>e (h1.trans z))];exact⟨h1,h2,h3⟩
theorem KT.put{H:Hp}{kvs:List (List Key×V)}{xs:List (List Key×Addr×aa)}(r:KT H kvs xs)(k:List Key){b:Addr}{y:V}{u:aa}(hb:H b=some (.tup (k.map kV)))(ry:RelV y u):
  KT H (putK kvs k y) (storedH xs k b u):=by
 have e:(kvs.any λkv=>decide (kv.1=k))=(atKey xs k).isSome:=by rw[zt,(r.val k).isSome_eq,kK]
 unfold putK storedH;rw[e];by_cases q:(atKey xs k).isSome=true
 ·rw[ag q,ag q];exact r.repl k ry
 ·rw[af q,af q];exact l3 r ⟨rfl,hb,ry⟩
variable{H':Hp}
theorem KT.keeps{H:Hp}(r:KT H kvs xs)(ht:∀b ys,H b=some (.tup ys)->H' b=some (.tup ys)):KT H' kvs xs:=
 Paired.mapP r λ_ _ z=>⟨z.1,ht _ _ z.2.1,z.2.2⟩
section
variable{P:aq}{w:ak}{H:Hp}{h:Heap}{a:Addr}
theorem Oc{u:HO}(ok:HOk P w H h)(e:Rd H a u):nS P w H h a u:=e.ok ok
theorem vP{kvs:List (Key×V)}(ok:HOk P w H h)(e:Rd H a (.dK kvs)):kvs.length<=sizeLine/\(a==sysModules)=false/\∃vs,KV kvs vs/\h.DictOf (mN P w) a vs:=
 show nS P w H h a (.dK kvs) from Oc ok e
theorem IW{kvs:List (Key×V)}(ok:HOk P w H h)(e:H a=some (.dK kvs)):kvs.length<=sizeLine/\(a==sysModules)=false/\∃vs,KV kvs vs/\h.DictOf (mN P w) a vs:=vP ok (.inl e)
theorem xB{ks:List Key}(ok:HOk P w H h)(e:H a=some (.tup (ks.map kV))):(tupleKind (mN P w)).is h ks a:=by obtain⟨_,its,r,o,h1,h2,n,h3⟩:=(show nS P w H h a (.tup (ks.map kV)) from ok a _ e);exact⟨o,its.toArray,n,h1,h2,h3,by simpa using A8 r⟩
theorem zu(ok:HOk P w H h)(e:Rd H a (.dT kvs)):kvs.length<=sizeLine/\(a==sysModules)=false/\
  ∃xs,KT H kvs xs/\h.DictOfH (tupleKind (mN P w)) a xs:=by
 obtain⟨z,y,xs,r,o,es,ep,h1,h2,h3,h4,h5⟩:=(show nS P w H h a (.dT kvs) from Oc ok e);refine⟨z,y,xs,r,o,es,ep,h1,h2,h3,h4,λx hx=>?_,h5⟩;have all:∀{l:List (List Key×V)} {m:List (List Key×Addr×aa)},KT H l m->∀x∈m,(tupleKind (mN P w)).is h x.1 x.2.1:=by
  intro l m q
  induction q with
  |nil=>intro x hx;exact nomatch hx
  |@cons p q ps qs hq t ih=>
   intro x hx;rcases aD.mp hx with e|hx
   ·subst e;exact xB ok (by rw[<-hq.1];exact hq.2.1)
   ·exact ih x hx
 exact all r x hx
theorem Tf(ok:HOk P w H h)(e:H a=some (.dT kvs)):kvs.length<=sizeLine/\(a==sysModules)=false/\
  ∃xs,KT H kvs xs/\h.DictOfH (tupleKind (mN P w)) a xs:=zu ok (.inl e)
end
def DGet(H:Hp)(a:Addr)(y:V)(r:Option V):Prop:=
 (∃kvs k,Rd H a (.dK kvs)/\y=kV k/\r=qc kvs k)\/∃kvs k b,Rd H a (.dT kvs)/\y=.ref b/\H b=some (.tup (k.map kV))/\r=qc kvs k
def IY(H:Hp)(a:Addr)(y v:V)(H':Hp):Prop:=
 (∃kvs k,H a=some (.dK kvs)/\y=kV k/\kvs.length<sizeLine/\H'=upd H a (.dK (putK kvs k v)))\/
 ∃kvs k b,H a=some (.dT kvs)/\y=.ref b/\H b=some (.tup (k.map kV))/\kvs.length<sizeLine/\H'=upd H a (.dT (putK kvs k v))
theorem IY.k{H:Hp}{a:Addr}{kvs:List (Key×V)}{k:Key}{v:V}(e:H a=some (.dK kvs))(hl:kvs.length<sizeLine):IY H a (kV k) v (upd H a (.dK (putK kvs k v))):=.inl ⟨kvs,k,e,rfl,hl,rfl⟩
variable{Q:aa->ab->Prop}{h':Heap}
section
variable{X:Cx}{pins:List (Addr×Obj)}{σ:St}{H:Hp}{s:ab}{a:Addr}{y v:V}{u r:aa}{o:Option V}{A:ar}{E:aa->ab->Prop}
theorem Inv.big(I:Inv X pins σ H s):sysModules<s.heap.objs.size:=by have h:mainGlobals<s.heap.objs.size:=(I.mod.glob.keeps I.bk).lt;exact Nat.lt_trans (by decide) h
theorem G9(hu:A.units+1<cLine)(I:Inv X pins σ H s)(g:DGet H a y (some v))(ry:RelV y u)(h:∀w' s',Inv X pins σ H s'->RelV v w'->Q w' s'):
  wpAny (model X.prog X.w) A (getItem (.ref a) u) Q E s:=by
 rcases g with ⟨kvs,k,e,ey,l⟩|⟨kvs,k,b,e,ey,eb,l⟩
 ·subst ey;obtain⟨z,hd,vs,rel,dd⟩:=vP I.hok e;obtain⟨w',hw,rw'⟩:=uK.some_of (v:=v) (o:=valueAt vs k) (by rw[l];exact rel.val k);exact wpAny_getItem_of (vO ry) dd.mapOf hw (h w' _ (I.tok _) rw')
 ·subst ey;cases (show u=Value.ref b from ry);obtain⟨z,hd,xs,rel,dd⟩:=zu I.hok e;obtain⟨w',hw,rw'⟩:=uK.some_of (v:=v) (o:=(atKey xs k).map (·.2)) (by rw[l];exact rel.val k)
  obtain⟨p,hp,hp2⟩:=Option.map_eq_some_iff.mp hw;refine wpAny_getItem_heap (fm hu) (xB I.hok eb) dd hp ?_;rw[hp2];exact h w' _ (I.tok _) rw'
theorem LW(hu:A.units+1<cLine)(I:Inv X pins σ H s)(g:DGet H a y o)(ry:RelV y u)(h:∀s',Inv X pins σ H s'->Q (.bool (!o.isSome)) s'):
  wpAny (model X.prog X.w) A (compareOp .NotIn u (.ref a)) Q E s:=by
 rcases g with ⟨kvs,k,e,ey,l⟩|⟨kvs,k,b,e,ey,eb,l⟩
 ·subst ey;obtain⟨z,hd,vs,rel,dd⟩:=vP I.hok e;refine wpAny_notIn_of (vO ry) hd dd.mapOf ?_;rw[<-(rel.val k).isSome_eq,<- l];exact h _ (I.tok _)
 ·subst ey;cases (show u=Value.ref b from ry);obtain⟨z,hd,xs,rel,dd⟩:=zu I.hok e;refine wpAny_notIn_heap (fm hu) (xB I.hok eb) hd dd ?_;have q:=(rel.val k).isSome_eq;rw[kK]at q;rw[<-q,<- l];exact h _ (I.tok _)
theorem zd{ob:HO}(I:Inv X pins σ H s)(mu:Mut (H a))(hs:dF a s.heap h')(he:∃q,h'.get? a=some q)(new:nS X.prog X.w (upd H a ob) h' a ob):
  Inv X pins σ (upd H a ob) { s with heap:=h',toks:=t' }:=
 I.write (x:=a) (e:=a) mu (.inl rfl) (λb q hb z=>(hs.2 b hb).trans z) he new
theorem ES{P:aq}{w:ak}{kvs:List (Key×V)}{vs:List (Key×aa)}(z:kvs.length<=sizeLine)(hd:(a==sysModules)=false)(rel:KV kvs vs)(dd:h'.DictOf (mN P w) a vs):
  nS P w H' h' a (.dK kvs):=⟨z,hd,vs,rel,dd⟩
theorem He{Q:Unit->ab->Prop}(hu:A.units+1<cLine)(I:Inv X pins σ H s)(g:IY H a y v H')(ry:RelV y u)(rv:RelV v r)(h:∀s',Inv X pins σ H' s'->Q () s'):
  wpAny (model X.prog X.w) A (setItem (.ref a) u r) Q E s:=by
 rcases g with ⟨kvs,k,e,ey,l,eH⟩|⟨kvs,k,b,e,ey,eb,l,eH⟩
 ·subst ey eH;obtain⟨z,hd,vs,rel,dd⟩:=IW I.hok e;have hz:vs.length<=sizeLine:=by rw[<-rel.length];exact z
  have hl:(putK kvs k v).length<=sizeLine:=by have:=su kvs k v;omega
  refine wpAny_setItem_pairs (hsz:=hz) (vO ry) dd λh' dd' hs=>h _ ?_;have he:∃q,h'.get? a=some q:=let ⟨q,_,_,hq,_⟩:=dd';⟨q,hq⟩;exact zd I (by rw[e];exact True.intro) hs he (ES hl hd (rel.put k rv) dd')
 ·subst ey eH;cases (show u=Value.ref b from ry);obtain⟨z,hd,xs,rel,dd⟩:=Tf I.hok e;have hz:xs.length<=sizeLine:=by rw[<-jd rel];exact z
  have hl:(putK kvs k v).length<=sizeLine:=by have:=su kvs k v;omega
  refine wpAny_setItem_heap (hsz:=hz) (fm hu) (xB I.hok eb) dd λh' dd' hs=>h _ ?_;obtain⟨q,es,ep,hq,h2,h3,h4,_,h5⟩:=dd';refine zd I (by rw[e];exact True.intro) hs ⟨q,hq⟩ ⟨hl,hd,_,(rel.put k eb rv).keeps λc ys ec=>?_,q,es,ep,hq,h2,h3,h4,h5⟩;rw[mG (SI ec e (λz=>nomatch z))];exact ec
end
section
variable{X:Cx}{pins:List (Addr×Obj)}{σ:St}{H:Hp}{s:ab}{a:Addr}{kvs:List (Key×V)}{k:Key}{u:aa}{A:ar}{E:aa->ab->Prop}
theorem Tg(I:Inv X pins σ H s)(e:Rd H a (.dK kvs))(h:∀t s',Inv X pins σ H s'->Q (.int kvs.length t) s'):wpAny (model X.prog X.w) A (call (.builtin "len") [.ref a]) Q E s:=by obtain⟨z,hd,vs,rel,dd⟩:=vP I.hok e;refine call_len_dict hd dd (by rw[<-rel.length];rw[aT]at z;omega) ?_;rw[<-rel.length];exact h _ _ (I.tok _)
end
def O8(i:Expr):Prop:=∀ov iv,subscripted i false ov iv=operate [ov,iv] (getItem ov iv)
variable{pos:Pos}
theorem LX{prog:aq}{w:ak}{A:ar}{E:aa->ab->Prop}{s:ab}{env:Env}{value slice:Expr}{id:String}
  (hl:typeLookup (.type T) "__getitem__" = pure (some (.builtin id))) (hs:O8 slice)
  (h:wpAny (model prog w) A (eval value env) (λo s₁=>wpAny (model prog w) A (eval slice env) (λi s₂=>s₂.TypeIs o T/\wpAny (model prog w) A (getItem o i) Q E s₂) E s₁) E s):
  wpAny (model prog w) A (eval (.Subscript value slice pos) env) Q E s:=by
 refine jD (bw h (λo s₁ h₁=>bw h₁ (λi s₂ h₂=>?_) λ_ _ x=>x) λ_ _ x=>x);obtain⟨hT,h₂⟩:=h₂;unfold subscriptTail;refine ae ?_;rw[getitemInPython_of_ne hT.not_modules];refine ae (gA hT hl ?_);have fin:wpAny (model prog w) A (subscripted slice false o i) (λr s₃=>wpAny (model prog w) A (letTemporaryGo value o r>>=λ_=>pure r) Q E s₃) E s₂:=by rw[hs o i];exact wpAny_operating (bw h₂ (λr s₃ h₃=>ae (wpAny_letTemporaryGo (ao h₃))) λ_ _ x=>x)
 first
  |exact ao (ae fin)
  |exact ae (ao (ae fin))
  |exact ae fin
variable{X:Cx}{a:Addr}
theorem Dh{H:Hp}{s:ab}{o:Option V}(I:Inv X pins σ H s)(g:DGet H a y o):s.TypeIs (.ref a) "dict" := by
 rcases g with ⟨kvs,k,e,_,_⟩|⟨kvs,k,b,e,_,_,_⟩
 ·obtain⟨_,_,vs,_,dd⟩:=vP I.hok e;exact dd.typeIs
 ·obtain⟨_,_,xs,_,dd⟩:=zu I.hok e;exact dd.typeIs
def Ti(td ty:TE):TE:=λσ H Q=>td σ H λx H1=>ty σ H1 λy H2=>∃a v,x=.ref a/\DGet H2 a y (some v)/\Q v H2
def FW(ty td:TE):TE:=λσ H Q=>ty σ H λy H1=>td σ H1 λx H2=>∃a o,x=.ref a/\DGet H2 a y o/\Q (.bl (!o.isSome)) H2
def Od(td ty tv:TE):TS:=λD σ H=>tv σ H λv H1=>td σ H1 λx H2=>ty σ H2 λy H3=>∃a H4,x=.ref a/\IY H3 a y v H4/\D.nx σ H4
section
variable{X:Cx}{o i e value:Expr}{pos pos' tpos:Pos}{td ty tv:TE}
theorem LY(hu:X.A.units+1<cLine)(ho:PE X o td)(hi:PE X i ty)(hs:O8 i):PE X (.Subscript o i pos) (Ti td ty):=by intro pins s σ H Q I h;refine LX F.slot_dict_getitem.lookup hs (thn (ho pins s σ H _ I h) λu s1 ⟨x,H1,I1,rx,q1⟩=>thn (hi pins s1 σ H1 _ I1 q1) λiv s2 ⟨y,H2,I2,ry,a,v,ex,g,q2⟩=>?_);subst ex;obtain rfl:u=Value.ref a:=rx;exact⟨Dh I2 g,G9 hu I2 g ry λw' s3 I3 rw'=>⟨v,H2,I3,rw',q2⟩⟩
theorem Hf(hu:X.A.units+1<cLine)(hi:PE X i ty)(ho:PE X o td):PC X .NotIn i o (FW ty td):=by intro pins s σ H Q I h;refine thn (hi pins s σ H _ I h) λiv s1 ⟨y,H1,I1,ry,q1⟩=>thn (ho pins s1 σ H1 _ I1 q1) λu s2 ⟨x,H2,I2,rx,a,ov,ex,g,q2⟩=>?_;subst ex;obtain rfl:u=Value.ref a:=rx;exact LW hu I2 g ry λs3 I3=>⟨.bl (!ov.isSome),H2,I3,rfl,q2⟩
theorem LZ(hu:X.A.units+1<cLine)(ho:PE X o td)(hi:PE X i ty)(hv:PE X value tv)(hs:swapsWith value (some (.Subscript o i pos')) pos.line X.env=pure false):
  PS X (.Assign [.Subscript o i pos'] value pos) (Od td ty tv):=by
 intro pins s σ H D I h;refine wpAny_Assign_Subscript (thn (hv pins s σ H _ I h) λr s1 ⟨v,H1,I1,rv,q1⟩=>thn (ho pins s1 σ H1 _ I1 q1) λu s2 ⟨x,H2,I2,rx,q2⟩=>thn (hi pins s2 σ H2 _ I2 q2) λiv s3 ⟨y,H3,I3,ry,a,H4,ex,g,q3⟩=>?_) hs;subst ex;obtain rfl:u=Value.ref a:=rx;exact He hu I3 g ry rv λs4 I4=>⟨σ,H4,I4,q3⟩
end
theorem Di{P:aq}{w:ak}{H:Hp}(h:Heap)(hb:sysModules<h.objs.size):nS P w H (h.push { cls:=.type "dict", data:=.dict #[] }) h.objs.size (.dK []):=
 ⟨aY _,beq_eq_false_iff_ne.mpr (bI (aE hb)),[],.nil,Heap.DictOf.new h⟩
def ET:TE:=λ_ H Q=>∀p,H p=none->Q (.ref p) (upd H p (.dK []))
section
variable{X:Cx}{pos:Pos}
theorem zv:PE X (.Dict [] [] pos) ET:=λpins s σ H Q I h=>
 wpAny_Dict_empty ⟨.ref s.heap.objs.size,_,I.laid (a:=s.heap.objs.size) (o:=.dK []) (t':=s.toks) (λ_ _ q=>av _ q) (aw _) (Di s.heap I.big),rfl,h _ (I.hok.fresh (aw _))⟩
end
def B3:List (TE×TE)->St->Hp->(List (V×V)->Hp->Prop)->Prop
 |[],_,H,Q=>Q [] H
 |(tk,tv)::r,σ,H,Q=>tk σ H λx H1=>tv σ H1 λy H2=>B3 r σ H2 λps H3=>Q ((x,y)::ps) H3
abbrev VV:List (V×V)->List (aa×aa)->Prop:=dJ λp q=>RelV p.1 q.1/\RelV p.2 q.2
def PPs(X:Cx)(pos:Pos)(keys:List (Option Expr))(values:List Expr)(trs:List (TE×TE)):Prop:=
 ∀(pins:List (Addr×Obj)) (s:ab) (σ:St) (H:Hp) (Q:List (V×V)->Hp->Prop),Inv X pins σ H s->B3 trs σ H Q->
  wpAny (model X.prog X.w) X.A (evalPairs (pairTrees keys values X.env pos)) (λvs s'=>∃ps H',Inv X pins σ H' s'/\VV ps vs/\Q ps H') X.xe s
theorem L0:PPs X pos [] [] []:=λpins s σ H Q I h=>pairTrees_nil_walk ⟨[],H,I,.nil,h⟩
variable{trs:List (TE×TE)}
theorem IZ{k v:Expr}{ks:List (Option Expr)}{vs:List Expr}{tk tv:TE}(hk:PE X k tk)(hv:PE X v tv)(hr:PPs X pos ks vs trs):
  PPs X pos (some k::ks) (v::vs) ((tk,tv)::trs):=λpins s σ H Q I h=>
 pairTrees_cons_walk (thn (hk pins s σ H _ I h) λu s1 ⟨x,H1,I1,rx,q1⟩=>thn (hv pins s1 σ H1 _ I1 q1) λw2 s2 ⟨y,H2,I2,ry,q2⟩=>
  thn (hr pins s2 σ H2 _ I2 q2) λws s3 ⟨ps,H3,I3,rel,q3⟩=>⟨(x,y)::ps,H3,I3,.cons ⟨rx,ry⟩ rel,q3⟩)
def uO(kvs more:List (Key×V)):List (Key×V):=more.foldl (λacc kv=>putK acc kv.1 kv.2) kvs
theorem KV.merge:∀{more:List (Key×V)} {rs:List (Key×aa)} {kvs:List (Key×V)} {vs:List (Key×aa)},KV more rs->KV kvs vs->KV (uO kvs more) (merged vs rs):=by
 intro more rs kvs vs r;unfold KV at r
 induction r generalizing kvs vs with
 |nil=>intro q;exact q
 |@cons p q ps qs h t ih=>
  intro r0;have e:KV (putK kvs p.1 p.2) (stored vs q.1 q.2):=by have:=r0.put p.1 h.2;rw[<-h.1];exact this
  exact ih e
theorem vQ:∀(more kvs:List (Key×V)),(uO kvs more).length<=kvs.length+more.length
 |[],kvs=>by show kvs.length<=kvs.length+0;omega
 |p::r,kvs=>by have h1:=vQ r (putK kvs p.1 p.2);have h2:=su kvs p.1 p.2;show (uO (putK kvs p.1 p.2) r).length<=_;rw[aC];omega
theorem zw{P:aq}{w:ak}:∀{kvs:List (Key×V)} {ws:List (aa×aa)},VV (kvs.map λkv=>(kV kv.1,kv.2)) ws->∃rs,Carries (mN P w) ws rs/\KV kvs rs
 |[],_,r=>by rw[bS]at r;cases r;exact⟨[],True.intro,.nil⟩
 |p::kvs,_,r=>by
  rw[au]at r;cases r with
  |@cons a b as bs h t=>obtain⟨rs,c,q⟩:=zw (P:=P) (w:=w) t;obtain⟨b1,b2⟩:=b;exact⟨(p.1,b2)::rs,⟨vO h.1,rfl,c⟩,.cons ⟨rfl,h.2⟩ q⟩
def I0(trs:List (TE×TE)):TE:=λσ H Q=>∀p,H p=none->B3 trs σ (upd H p (.dK [])) λps H2=>H2 p=some (.dK [])/\∃kvs:List (Key×V),ps=kvs.map (λkv=>(kV kv.1,kv.2))/\kvs.length<=15/\Q (.ref p) (upd H2 p (.dK (uO [] kvs)))
theorem L1{keys:List (Option Expr)}{values:List Expr}(h:PPs X pos keys values trs)(hall:keys.all (·.isSome)=true)(hl:keys.length=values.length)(h0:keys≠[])
  (h15:keys.length<=15):PE X (.Dict keys values pos) (I0 trs):=by
 intro pins s σ H Q I q;have hn:=I.hok.fresh (aw s.heap.objs.size);have I1:=I.laid (a:=s.heap.objs.size) (o:=.dK []) (h':=s.heap.push { cls:=.type "dict", data:=.dict #[] }) (t':=s.toks) (λ_ _ q=>av _ q) (aw _) (Di s.heap I.big);refine wpAny_Dict_walk (knd:=mN X.prog X.w) hall hl h0 h15 (thn (h pins _ σ _ _ I1 (q _ hn)) λws s2 ⟨ps,H2,I2,rel,e,kvs,ep,lk,q2⟩=>?_);subst ep;obtain⟨rs,c,rk⟩:=zw (P:=X.prog) (w:=X.w) rel;obtain⟨z,hd,vs0,r0,dd⟩:=IW I2.hok e;cases r0;refine⟨rs,c,dd,λh' dd' hs=>⟨.ref s.heap.objs.size,_,?_,rfl,q2⟩⟩;have hz:(uO [] kvs).length<=sizeLine:=by have h1:=vQ kvs [];rw[eA]at h1;rw[aT];omega
 have he:∃q,h'.get? s.heap.objs.size=some q:=let ⟨q,_,_,hq,_⟩:=dd';⟨q,hq⟩;exact zd I2 (by rw[e];exact True.intro) hs he (ES hz hd (rk.merge .nil) dd')
structure M1(X:Cx)(o:Expr)(m:Str)(apos:Pos)(e:Expr)(cpos:Pos):Prop where
 base:attributeBase o m X.env (eval o X.env)=eval o X.env
 few:((backTo cpos (starEach [e] X.env)).all (λx=>!x.1)&&(backToKw cpos (keywordEach [] X.env)).all (λx=>x.1.isSome)
  && decide (([e]:List Expr).length+([]:List df).length+(if ([]:List df).isEmpty then 0 else 1)<30))=true
 line:(apos.endLine==cpos.line)=true
 trees:backTo cpos (starEach [e] X.env)=[(false,eval e X.env)]
structure M2(X:Cx)(o:Expr)(m:Str)(apos:Pos)(e f:Expr)(cpos:Pos):Prop where
 base:attributeBase o m X.env (eval o X.env)=eval o X.env
 few:((backTo cpos (starEach [e,f] X.env)).all (λx=>!x.1)&&(backToKw cpos (keywordEach [] X.env)).all (λx=>x.1.isSome)
  && decide (([e,f]:List Expr).length+([]:List df).length+(if ([]:List df).isEmpty then 0 else 1)<30))=true
 line:(apos.endLine==cpos.line)=true
 trees:backTo cpos (starEach [e,f] X.env)=[(false,eval e X.env),(false,eval f X.env)]
def IsD(H:Hp)(a:Addr):Prop:=(∃kvs,Rd H a (.dK kvs))\/∃kvs,Rd H a (.dT kvs)
theorem EU{H:Hp}{s:ab}(I:Inv X pins σ H s)(d:IsD H a):
  s.TypeIs (.ref a) "dict" /\ (∀b,Value.ref a=.ref b->∃ob,s.heap.get? b=some ob/\ob.dict=none)/\(a==sysModules)=false:=by
 rcases d with ⟨kvs,e⟩|⟨kvs,e⟩
 ·obtain⟨_,hd,vs,_,dd⟩:=vP I.hok e;refine⟨dd.typeIs,λb q=>?_,hd⟩;cases q;obtain⟨ob,_,_,h1,h2,_⟩:=dd;exact⟨ob,h1,h2.2.1⟩
 ·obtain⟨_,hd,xs,_,dd⟩:=zu I.hok e;refine⟨dd.typeIs,λb q=>?_,hd⟩;cases q;obtain⟨ob,_,_,h1,h2,_⟩:=dd;exact⟨ob,h1,h2.2.1⟩
section
variable{X:Cx}{pins:List (Addr×Obj)}{σ:St}{H:Hp}{s:ab}{a:Addr}{y d:V}{u r:aa}{o:Option V}{A:ar}{E:aa->ab->Prop}
theorem O9(hu:A.units+1<cLine)(I:Inv X pins σ H s)(g:DGet H a y o)(ry:RelV y u)(h:∀w' s',Inv X pins σ H s'->RelV (o.getD .non) w'->Q w' s'):
  wpAny (model X.prog X.w) A (call (.builtin "dict.get") [.ref a,u]) Q E s:=by
 rcases g with ⟨kvs,k,e,ey,l⟩|⟨kvs,k,b,e,ey,eb,l⟩
 ·subst ey;obtain⟨z,hd,vs,rel,dd⟩:=vP I.hok e;refine fI eB dd.typeIs gq (kL _ _) (meets_dict_get (mN X.prog X.w) a (vO ry) hd) ⟨_,dd.mapOf,h _ _ (I.tok _) ?_⟩;rw[l];exact(rel.val k).getD rfl
 ·subst ey;cases (show u=Value.ref b from ry);obtain⟨z,hd,xs,rel,dd⟩:=zu I.hok e;refine fI eB dd.typeIs gq (kL _ _) (meetsH_dict_get (tupleKind (mN X.prog X.w)) a b hd) ⟨fm hu,k,xs,xB I.hok eb,dd,h _ _ (I.tok _) ?_⟩;rw[l];exact(rel.val k).getD rfl
theorem Pa(hu:A.units+1<cLine)(I:Inv X pins σ H s)(g:DGet H a y o)(ry:RelV y u)(rd:RelV d r)(h:∀w' s',Inv X pins σ H s'->RelV (o.getD d) w'->Q w' s'):
  wpAny (model X.prog X.w) A (call (.builtin "dict.get") [.ref a,u,r]) Q E s:=by
 rcases g with ⟨kvs,k,e,ey,l⟩|⟨kvs,k,b,e,ey,eb,l⟩
 ·subst ey;obtain⟨z,hd,vs,rel,dd⟩:=vP I.hok e;refine fI eB dd.typeIs gq (kM _ _ _) (meets_dict_get_default (mN X.prog X.w) a (vO ry) hd r) ⟨_,dd.mapOf,h _ _ (I.tok _) ?_⟩;rw[l];exact(rel.val k).getD rd
 ·subst ey;cases (show u=Value.ref b from ry);obtain⟨z,hd,xs,rel,dd⟩:=zu I.hok e;refine fI eB dd.typeIs gq (kM _ _ _) (meetsH_dict_get_default (tupleKind (mN X.prog X.w)) a b hd r) ⟨fm hu,k,xs,xB I.hok eb,dd,h _ _ (I.tok _) ?_⟩;rw[l];exact(rel.val k).getD rd
end
def Pb(td ty:TE):TE:=λσ H Q=>td σ H λx H1=>∃a,x=.ref a/\IsD H1 a/\ty σ H1 λy H2=>∃o,DGet H2 a y o/\Q (o.getD .non) H2
def Pc(td ty tx:TE):TE:=λσ H Q=>td σ H λx H1=>∃a,x=.ref a/\IsD H1 a/\ty σ H1 λy H2=>tx σ H2 λz H3=>∃o,DGet H3 a y o/\Q (o.getD z) H3
section
variable{X:Cx}{o e f:Expr}{apos cpos:Pos}{td ty tx:TE}
theorem Ja(hu:X.A.units+1<cLine)(ho:PE X o td)(he:PE X e ty)(m:M1 X o "get" apos e cpos):PE X (.Call (.Attribute o "get" apos) [e] [] cpos) (Pb td ty):=by intro pins s σ H Q I h;refine iz m.base m.few m.line iA eB lC (thn (ho pins s σ H _ I h) λu s1 ⟨x,H1,I1,rx,a,ex,d,q1⟩=>?_);subst ex;obtain rfl:u=Value.ref a:=rx;obtain⟨t1,t2,_⟩:=EU I1 d;refine⟨t1,t2,?_⟩;rw[m.trees];refine f6 rfl (gb (cU (thn (he pins s1 σ H1 _ I1 q1) λiv s2 ⟨y,H2,I2,ry,ov,g,q2⟩=>dU ?_)));exact O9 hu I2 g ry λw' s3 I3 rw'=>⟨_,H2,I3,rw',q2⟩
theorem Jb(hu:X.A.units+1<cLine)(ho:PE X o td)(he:PE X e ty)(hf:PE X f tx)(m:M2 X o "get" apos e f cpos):PE X (.Call (.Attribute o "get" apos) [e,f] [] cpos) (Pc td ty tx):=by
 intro pins s σ H Q I h;refine iz m.base m.few m.line iA eB lC (thn (ho pins s σ H _ I h) λu s1 ⟨x,H1,I1,rx,a,ex,d,q1⟩=>?_);subst ex;obtain rfl:u=Value.ref a:=rx;obtain⟨t1,t2,_⟩:=EU I1 d;refine⟨t1,t2,?_⟩;rw[m.trees];refine f6 rfl (gb (cU (thn (he pins s1 σ H1 _ I1 q1) λiv s2 ⟨y,H2,I2,ry,q2⟩=>
  cU (thn (hf pins s2 σ H2 _ I2 q2) λfv s3 ⟨z,H3,I3,rz,ov,g,q3⟩=>dU ?_))))
 exact Pa hu I3 g ry rz λw' s4 I4 rw'=>⟨_,H3,I4,rw',q3⟩
end
end L2
namespace Att
open PySem PySem.W PySem.Calls PyProof.Rows
theorem y6{P:fS}{h:Heap}:∀(ns:List Int) (vs:List aa),WellAll P h vs (ns.map WData.int)->fQ vs ns:=by
 intro ns
 induction ns with
 |nil=>intro vs w;rw[bS]at w;cases w;exact .nil
 |cons n ns ih=>
  intro vs w;rw[au]at w;cases w with
  |cons a b=>cases a;exact .cons _ _ (ih _ b)
variable{l:fN}
theorem Hg{n:Nat}(hn:l.most=some n){P:fS}{h:Heap}{args:List WData}{vals:List aa}
  (hpre:l.row.toRowW.claim.pre args=true) (hwl:WellAll P h vals args):
  ∃a vs ns,vals=[Value.ref a]/\args=[WData.list (ns.map WData.int)]/\h.get? a=some { cls:=.type "list", data:=.seq vs.toArray }/\fQ vs ns/\ns.length<=n:=by
 have hsh:WShape.hasAll [] args [.list .int]=true:=(pre_splitW hpre).1;have hc:l.pre.holds [] { args:=args }=true:=(pre_splitW hpre).2;obtain⟨d,r,rfl,h1,h2⟩:=hasAllW_cons hsh;obtain rfl:=hasAllW_nil h2;obtain⟨xs,rfl,h3⟩:=hasW_list h1;obtain⟨ns,rfl⟩:=items_int h3;have hlen:ns.length<=n:=by
  unfold OpenLaw.pre at hc;have h4:(WTm.not (.lt (.lit (.int (n:Int))) (.len (.arg 0)))).holds [] { args:=[.list (ns.map .int)] }=true:=by have h4:=(holds_andW hc).1;rw[hn]at h4;exact h4
  have h5:=condW_of h4 (w_not (w_lt w_lit (w_len_list (w_arg rfl))));rw[ah]at h5;refine lq λq=>?_;have q':(n:Int)<((ns.length:Nat):Int):=by omega
  first
   |(rw[aH q']at h5;exact ai h5 (by decide))
   |(simp at h5;omega)
 cases hwl with
 |cons w1 w2=>
  cases w2;cases w1 with
  |list ho hall=>exact⟨_,_,ns,rfl,rfl,ho,y6 ns _ hall,hlen⟩
theorem Hh(l:fN)(args:List WData):l.row.toRowW.claim.post args (.bool true) args=true:=
 postW_of (r:=l.row.toRowW) (X:=(true==true))
  (show l6 [] (.bool true) .bool=true by first|rfl|decide|simp[l6,WShape.arms,WShape.armsAll])
  (show (WTm.eq .res (.lit (.bool true))).value [] { args:=args,res:=some (.bool true),after:=args }=some (.bool (true==true)) from w_eq_bool (w_res rfl) w_lit) rfl
theorem attach_call{n:Nat}{q:aq}{loose:List Str}{XP:(Str->Option aa)->Heap->Prop}{YP:ak->Heap->Prop}{d:DefRec}
  (hn:l.most=some n) (hdf:d.params.defaults=[])
  (call:∀(w:ak) (s₀ s₁:ab) (mg mb:Str->Option aa) (fa:Addr) (o:Obj) (pm cd doc:aa) (a:Addr) (vs:List aa) (ns:List Int),
   Ground q loose [] XP w s₀ mg mb s₁.heap->YP w s₁.heap->
   s₁.heap.get? fa=some o->o.data=.func (docDef d.name d.params d.body d.scope pm cd doc)->s₁.heap.CodeRec cd d.name->mg d.name=some (.ref fa)->
   s₁.heap.get? a=some { cls:=.type "list", data:=.seq vs.toArray }->fQ vs ns->ns.length<=n->s₁.gens=#[]->
   codeAny (model l.prog w) callerA (.call (.ref fa) ⟨[.ref a],[]⟩) (λr s'=>r=.ok (.ret (.bool true))/\OldK s₁.heap s'.heap/\s'.os=s₁.os/\cP s'.gens) s₁):
  WalkO q loose XP YP l.row.toRowW d [] (λf vs=>jF f vs):=by
 intro w s₀ s₁ mg mb G Y fa o pm cd doc dV kV ho hd hcd hD hmg hg args vals as hpre hlay hrd hwl hlo;obtain rfl:dV=.none:=Dflts.none hD hdf;obtain rfl:kV=.none:=Dflts.noKw hD;obtain⟨a,vs,ns,rfl,rfl,hobj,hints,hlen⟩:=Hg hn hpre hwl;refine enter_call (eL (call w s₀ s₁ mg mb fa o pm cd doc a vs ns G Y ho (fd_plain hd) hcd hmg hobj hints hlen hg) λr s' hq=>?_);obtain⟨rfl,h2,h3,h4⟩:=hq;exact⟨.inl ⟨.bool true,.bool true,[],rfl,λ_=>rfl,.bool true,Hh l _,λ_=>⟨List.Pairwise.nil,λ_ hm=>(nomatch hm)⟩⟩,h2,h3,h4⟩
end Att
namespace L2
open PySem PySem.Spec PyProof.Rows
theorem A9:∀{vs:List aa} {ns:List Int},fQ vs ns->Vals (ns.map V.int) vs
 |_,_,.nil=>.nil
 |_,_,.cons n t h=>.cons ⟨t,rfl⟩ (A9 h)
def Pd(H:Hp):Prop:=∀b,H b=none\/∃o xs,H b=some (.frz o (.lst xs))
variable{a:Addr}{fd:bg}{x:Str}{sp:Sp}
theorem Jc{P:aq}{w:ak}{K:aj}{mg mb:Str->Option aa}{CX:CXT}{k:Nat}{fa:Addr}{s₁:ab}{vs:List aa}{ns:List Int}
  (KX:K.In s₁.heap) (hns:s₁.heap.Ns mainGlobals mg) (hb:s₁.heap.Ns builtinsNs mb) (hbb:∀x:Str,x≠"__name__" -> mb x=bootBuiltins x) (hlim:s₁.heap.NoLimit) (hg:s₁.gens=#[])
  (ha:s₁.heap.get? a=some { cls:=.type "list", data:=.seq vs.toArray }) (hi:fQ vs ns) (hl:ns.length<=sizeLine) (hr:om k callerA)
  (F:∀base:Heap,K.In base->base.Ns mainGlobals mg->qU P w K mg base CX k fa fd [x] sp) (hbind:∀(s:ab) (u:aa),eS s fd ⟨[u],[]⟩ [(x,u)])
  (hsp:∀H:Hp,Pd H->SqL K H a (ns.map V.int)->sp [.ref a] H (λv _=>v=.bl true) λ_ _ _=>False)
  (hCX:∀H e s',CX [] H s₁ (λ_ _ _=>False) e s'->False):
  codeAny (model P w) callerA (.call (.ref fa) ⟨[.ref a],[]⟩) (λr s'=>r=.ok (.ret (.bool true))/\OldK s₁.heap s'.heap/\s'.os=s₁.os/\cP s'.gens) s₁:=by
 have rv:=A9 hi;have lenV:=hi.length;have core:∀H:Hp,Pd H->SqL K H a (ns.map V.int)->HOk P w H s₁.heap->(∀b,H b≠none->b=a)->(H a≠none->K.lookup a=none)->
   codeAny (model P w) callerA (.call (.ref fa) ⟨[.ref a],[]⟩) (λr s'=>r=.ok (.ret (.bool true))/\OldK s₁.heap s'.heap/\s'.os=s₁.os/\cP s'.gens) s₁:=by
  intro H hO hS hok hA hK;have base_of:∀{b:Addr} {o:Obj},s₁.heap.get? b=some o->H b=none->(BP s₁.heap H).get? b=some o:=λe n=>Iq e n;have noA:∀{b:Addr} {o:Obj} {es:Array DictEntry} {ep:Nat},s₁.heap.get? b=some o->o.data=.dict es ep->H b=none:=λ{b o es ep} e d=>by
   cases q:H b with
   |none=>rfl
   |some u=>have e':b=a:=hA b (by rw[q];simp);subst e';rw[ha]at e;cases e;have d':Data.seq vs.toArray _=Data.dict es ep:=d;cases d'
  have nsK:∀{b:Addr} {m:Str->Option aa},s₁.heap.Ns b m->(BP s₁.heap H).Ns b m:=λ{b m} ⟨o,es,ep,e,d,r⟩=>⟨o,es,ep,base_of e (noA e d),d,r⟩;have hKb:K.In (BP s₁.heap H):=λb o e=>base_of (KX b o e) (by
   cases q:H b with
   |none=>rfl
   |some u=>
    have e':b=a:=hA b (by rw[q];simp);subst e';rw[hK (by rw[q];simp)]at e;cases e)
  have hM:Mod K mg (BP s₁.heap H):=⟨hKb,nsK hns,⟨mb,nsK hb,hbb⟩,let ⟨mc,h1,h2⟩:=hlim;⟨mc,nsK h1,h2⟩⟩;have e0:ER P w K mg (BP s₁.heap H) callerA [] s₁ H:=⟨rfl,hM,λb o e=>Lv e,jj (GV _ _),trivial,λb hb=>ai (show b∈([]:List Addr) from hb) (by simp),hok,.of_eq hg⟩;refine eL ((F _ hKb (nsK hns)).run callerA [] s₁ H ⟨[.ref a],[]⟩ [.ref a] [.ref a] _ _ hr e0 (hbind s₁ (.ref a)) (.cons rfl .nil) (hsp H hO hS)) λr s' h=>?_;cases r with
  |error e=>exact(hCX H e s' h).elim
  |ok fl=>
   cases fl with
   |next=>exact bT h
   |brk=>exact bT h
   |cont=>exact bT h
   |ret u=>
    obtain⟨v,H',os,bare,un,hok',r',q⟩:=h;have q':v=.bl true:=q;subst q';obtain rfl:u=Value.bool true:=r';refine⟨rfl,OldK.of_keep λb o e=>?_,os,bare⟩;cases q:H b with
    |none=>exact un.keep b o e q (by intro z;exact ai (show b∈([]:List Addr) from z) (by simp)) (by simp)
    |some u=>
     rcases hO b with z|⟨ob,xs,z⟩
     ·rw[q]at z;cases z
     ·have z2:=un.frzs b ob _ z;obtain⟨e1,_⟩:=hok b _ z;obtain⟨e2,_⟩:=hok' b _ z2;rw[e]at e1;cases e1;exact e2
 cases hk:K.lookup a with
 |some o=>have e:=KX a o hk;rw[ha]at e;cases e;refine core (λ_=>none) (λ_=>.inl rfl) (.inr ⟨_,vs.toArray,_,hk,rfl,rfl,rfl,by rw[aI,lenV];exact hl,by simpa using rv⟩) (λb u z=>by have z':(none:Option HO)=some u:=z;cases z') (λb z=>ai rfl z) λz=>ai rfl z
 |none=>
  refine core (λb=>if b=a then some (.frz { cls:=.type "list", data:=.seq vs.toArray } (.lst (ns.map V.int)))else none) (λb=>?_) (.inl (.inr ⟨{ cls:=.type "list", data:=.seq vs.toArray },ag rfl⟩)) (λb u z=>?_) (λb z=>?_) λ_=>hk
  ·by_cases hb:b=a
   ·exact .inr ⟨_,_,ag hb⟩
   ·exact .inl (af hb)
  ·by_cases hb:b=a
   ·have z':=(ag hb).symm.trans z;cases z';subst hb;exact⟨ha,by rw[ah];exact hl,vs,_,rv,ha⟩
   ·have z':=(af hb).symm.trans z;cases z'
  ·by_cases hb:b=a
   ·exact hb
   ·exact ai (af hb) z
theorem L6{l:fN}{n k:Nat}{q:aq}{loose:List Str}{XP:(Str->Option aa)->Heap->Prop}{YP:ak->Heap->Prop}{d:DefRec}{K:fS->aj}{CX:ak->CXT}{sp:ak->Sp}
  (hn:l.most=some n) (hn2:n<=sizeLine) (hdf:d.params.defaults=[]) (hr:om k callerA)
  (hY:∀(w:ak) (h:Heap),YP w h->(K w.params).In h)
  (F:∀(w:ak) (mg:Str->Option aa) (fa:Addr) (h:Heap),(K w.params).In h->h.Ns mainGlobals mg->mg d.name=some (.ref fa)->
   ∃fd:bg,(∀(s:ab) (u:aa),eS s fd ⟨[u],[]⟩ [(x,u)])/\
    ∀base:Heap,(K w.params).In base->base.Ns mainGlobals mg->qU l.prog w (K w.params) mg base (CX w) k fa fd [x] (sp w))
  (hsp:∀(w:ak) (H:Hp) (a:Addr) (ns:List Int),ns.length<=n->Pd H->SqL (K w.params) H a (ns.map V.int)->sp w [.ref a] H (λv _=>v=.bl true) λ_ _ _=>False)
  (hCX:∀(w:ak) (H:Hp) (s:ab) (e:aa) (s':ab),CX w [] H s (λ_ _ _=>False) e s'->False):
  W.WalkO q loose XP YP l.row.toRowW d [] (λf vs=>jF f vs):=by
 refine Att.attach_call hn hdf λw s₀ s₁ mg mb fa o pm cd doc a vs ns G Y ho hd hcd hmg hobj hints hlen hg=>?_;have KX:=hY w _ Y;obtain⟨fd,hb,hF⟩:=F w mg fa _ KX G.T.g hmg;exact Jc KX G.T.g G.T.b G.T.builtins G.T.nolimit hg hobj hints (bF hlen hn2) hr hF hb (λH hO hS=>hsp w H a ns hlen hO hS) λH e s'=>hCX w H s₁ e s'
def inClass(s:Stmt)(j:Nat):Stmt:=match s with
 |.ClassDef _ _ _ body _ _ _ _ _ _ _=>body.getD j (.Pass ⟨0,0,0,0⟩)
 |_=>.Pass ⟨0,0,0,0⟩
def sv(s:Stmt):Arguments:=match s with
 |.FunctionDef _ a _ _ _ _ _ _ _ _=>a
 |_=>{ posonlyargs:=[],args:=[],vararg:=none,kwonlyargs:=[],kw_defaults:=[],kwarg:=none,defaults:=[] }
def nu(s:Stmt):List Stmt:=match s with
 |.FunctionDef _ _ b _ _ _ _ _ _ _=>b
 |_=>[]
def mM(s:Stmt):bV:=match s with
 |.FunctionDef _ _ _ _ _ _ sc _ _ _=>sc
 |_=>{ kind:=.function,names:=[],isGenerator:=false,isCoroutine:=false }
abbrev CX0:CXT:=λ_ _ _ _ _ _=>False
abbrev E0:XK:=λ_ _ _=>False
theorem wF{X:Cx}:Passes CX0 X E0:=λ_ _ _ _ _ _ _ h=>h.elim
structure Fun(K:aj)(x qual:Str)(st:Stmt)(f:Addr)(fd:bg):Prop where
 ex:∃(oc:aa) (od:Option Addr) (kV doc pm:aa) (an:Option Addr) (cdv ct:aa) (osl:Array (Option aa)),
  fd=eU x qual (sv st) (nu st) (mM st) .none kV doc pm an cdv ct/\K.lookup f=some ⟨oc,od,.func fd,osl⟩/\W.codeIn K cdv qual=true
 kp:dN K (.ref f)=true
variable{qual:Str}{st:Stmt}{ps:List Str}
section
variable{P:aq}{w:ak}{K:aj}{mg:Str->Option aa}{base:Heap}
theorem Fun.ok{f:Addr}{N:List Str}{k:Nat}(F:Fun K x qual st f fd)(S:oA N ps (mM st))(len:∀vs H Q E,sp vs H Q E->vs.length=ps.length)
  (hbody:∀(cdv:aa) (A:ar) (outer:List Env) (s:ab) (H:Hp) (vs:List V) (Q:VK) (E:XK),om k (A.deeper (envOfC qual (mM st) s.heap.objs.size f cdv))->sp vs H Q E->
   ∃t,PSs (CY CX0 P w K mg base N qual (mM st) f cdv A outer s H E).nox (nu st) t/\t { nx:=λ_ H'=>Q .non H',rt:=Q } (start N vs) H):qU P w K mg base CX0 (k+1) f fd ps sp:=by
 obtain⟨oc,od,kV,doc,pm,an,cdv,ct,osl,rfl,lk,hcd⟩:=F.ex;refine Ob lk hcd S len λA outer s H vs Q E hr hsp=>?_;obtain⟨t,h,q⟩:=hbody cdv A outer s H vs Q E hr hsp;exact⟨t,h.nox,q⟩
theorem Fun.binds{f:Addr}(F:Fun K x qual st f fd)
  (h:∀(kV doc pm:aa) (an:Option Addr) (cdv ct:aa) (us:List aa),us.length=ps.length->bindArgs (eU x qual (sv st) (nu st) (mM st) .none kV doc pm an cdv ct) ⟨us,[]⟩=pure (ps.zip us)):Binds K fd ps []:=by
 obtain⟨oc,od,kV,doc,pm,an,cdv,ct,osl,rfl,lk,hcd⟩:=F.ex;exact .all (h kV doc pm an cdv ct)
end
theorem Dj{A:ar}{k:Nat}(hr:om k A):A.units+1<cLine:=ir (Nat.add_le_add_left (by decide:1<=64) _) hr.units
theorem vt{n:Nat}(h:n<=1000):n<sizeLine:=ir h (by decide)
section
variable{X:Cx}
theorem pv(i:Nat){pos:Pos}(hN:X.N[i]?=some x:=by rfl)(hv:Vis X.env.scope x:=by first|exact Or.inl rfl|exact Or.inr (Or.inl rfl)|exact Or.inr (Or.inr rfl))(hd:(x==("__debug__" : Str))=false:=by decide)
  (hcd:(x==("__classdict__" : Str))=false:=by decide):PE X (.Name x pos) (tS i):=OA hN hv hd hcd
end
variable{B:Prop}
theorem B4{A:Prop}(h:B):if false=true then A else B:=by rw[af aR];exact h
theorem B5{A:Prop}(h:A):if true=true then A else B:=by rw[ag rfl];exact h
def mI(H H':Hp):Prop:=∀b o,H b=some o->H' b=some o
theorem mI.refl(H:Hp):mI H H:=λ_ _ h=>h
theorem mI.trans{H H1 H2:Hp}(a:mI H H1)(b:mI H1 H2):mI H H2:=λc o h=>b c o (a c o h)
theorem mI.seq{K:aj}{H H':Hp}{xs:List V}(e:mI H H')(h:SqL K H a xs):SqL K H' a xs:=by
 rcases h with (h|⟨o,h⟩)|h
 ·exact .inl (.inl (e _ _ h))
 ·exact .inl (.inr ⟨o,e _ _ h⟩)
 ·exact .inr h
end L2
set_option maxHeartbeats 4000000
namespace L3
open PySem PySem.Spec PyProof.Rows L2
abbrev St:=L2.St
theorem zx{α β:Type}{f:α->β->Sem (ForInStep β)}{g:β->α->β}:∀(l:List α) (b:β),(∀x∈l,∀c,f x c=pure (ForInStep.yield (g c x)))->(forIn l b f:Sem β)=pure (l.foldl g b)
 |[],b,_=>by simp
 |x::r,b,h=>by rw[List.forIn_cons,h x aQ b];show (forIn r (g b x) f:Sem β)=_;rw[zx r (g b x) λy hy c=>h y (aX _ hy) c];rfl
def uB(cells:List (Str×Addr))(cs:List (Str×Addr))(x:Str×cz):List (Str×Addr):=if (x.2==NameKind.free)=true then (x.1,(cells.lookup x.1).getD 0)::cs else cs
def ra(cells:List (Str×Addr))(names:List (Str×cz)):List (Str×Addr):=names.foldl (uB cells) []
variable{scope:bV}{env:Env}
theorem AJ(h:∀x∈scope.names,x.2=.free->∃c,env.cells.lookup x.1=some c):
  closureFor scope env=pure (ra env.cells scope.names):=by
 simp only[closureFor];rw[zx (g:=uB env.cells) scope.names [] λx hx c=>by
  obtain⟨n,k⟩:=x;by_cases hk:k=.free
  ·subst hk;obtain⟨a,e⟩:=h _ hx rfl;have e':env.cells.lookup n=some a:=e;simp only[uB,cellOf,e',beq_self_eq_true,if_true,iF];rfl
  ·have hb:(k==NameKind.free)=false:=by simpa using hk
   simp only[uB,hb,dS,if_false]]
 rfl
theorem Dk{cells:List (Str×Addr)}:∀(names:List (Str×cz)) (acc:List (Str×Addr)),(∀x∈names,x.2=.free->∃c,cells.lookup x.1=some c)->(∀x c,acc.lookup x=some c->cells.lookup x=some c)->
  ∀x c,(names.foldl (uB cells) acc).lookup x=some c->cells.lookup x=some c
 |[],acc,_,ha,x,c,e=>ha x c e
 |y::r,acc,h,ha,x,c,e=>by
  refine Dk r (uB cells acc y) (λz hz=>h z (aX _ hz)) (λz d ez=>?_) x c e;obtain⟨n,k⟩:=y;unfold uB at ez;split at ez
  ·rename_i hk;obtain⟨a,ea⟩:=h (n,k) aQ (by simpa using hk);have ea':cells.lookup n=some a:=ea;rw[cZ]at ez;cases hb:z==n with
   |true=>rw[hb]at ez;have ez':some ((cells.lookup n).getD 0)=some d:=ez;rw[ea']at ez';rw[eP hb,ea'];exact ez'
   |false=>rw[hb]at ez;exact ha z d ez
  ·exact ha z d ez
theorem Ba{cells:List (Str×Addr)}:∀(names:List (Str×cz)) (acc:List (Str×Addr)) (x:Str),(∃c,acc.lookup x=some c)->∃c,(names.foldl (uB cells) acc).lookup x=some c
 |[],_,_,h=>h
 |y::r,acc,x,h=>by
  refine Ba r (uB cells acc y) x ?_;unfold uB;split
  ·rw[cZ];cases x==y.1 with
   |true=>exact⟨_,rfl⟩
   |false=>exact h
  ·exact h
theorem zy{cells:List (Str×Addr)}:∀(names:List (Str×cz)) (acc:List (Str×Addr)) (x:Str),(x,NameKind.free)∈names->∃c,(names.foldl (uB cells) acc).lookup x=some c
 |[],_,_,h=>by cases h
 |y::r,acc,x,h=>by
  rcases aD.mp h with e|h
  ·subst e;refine Ba r _ x ?_;unfold uB;rw[ag (by simp),cZ];simp
  ·exact zy r _ x h
theorem tU{env:Env}(x:Str):∀(names:List (Str×cz)),
  (names.map λ(n,k)=>if (k==NameKind.free&&env.scope.kind==.function&&env.kindOf n==some .cell)then (n,NameKind.cell)else (n,k)).lookup x=
   (names.lookup x).map λk=>if (k==NameKind.free&&env.scope.kind==.function&&env.kindOf x==some .cell)=true then NameKind.cell else k
 |[]=>rfl
 |(n,k)::r=>by
  have ih:=tU (env:=env) x r;rw[au,cZ (k:=n)];show cj x ((if (k==NameKind.free&&env.scope.kind==.function&&env.kindOf n==some .cell)=true then (n,NameKind.cell)else (n,k))::_)=_;cases hx:x==n with
  |true=>
   have e:=eP hx;subst e;split
   ·rename_i hc;simp only[cZ,hx,du,hc,if_true]
   ·rename_i hc;simp only[cZ,hx,du];rw[af hc]
  |false=>
   rw[<-ih];split
   ·simp only[cZ,hx]
   ·simp only[cZ,hx]
variable{x:Str}
theorem EV(hcell:∀y∈scope.names,y.2≠.cell)(h:(relabel scope env).names.lookup x=some .cell\/(relabel scope env).names.lookup x=some .free):(x,NameKind.free)∈scope.names:=by
 have e:=tU (env:=env) x scope.names;have h':(scope.names.lookup x).map (λk=>if (k==NameKind.free&&env.scope.kind==.function&&env.kindOf x==some .cell)=true then NameKind.cell else k)=some .cell\/
   (scope.names.lookup x).map (λk=>if (k==NameKind.free&&env.scope.kind==.function&&env.kindOf x==some .cell)=true then NameKind.cell else k)=some .free:=by
  rw[<-e];exact h
 cases q:scope.names.lookup x with
 |none=>rw[q]at h';rcases h' with z|z<;>cases z
 |some k=>
  rw[q]at h';have hm:=mem_of_lookup q;have hc:=hcell _ hm;cases k with
  |free=>exact hm
  |cell=>exact ai rfl hc
  |_=>rcases h' with z|z<;>cases z
theorem AK(h:scope.names.lookup x=some .free):(relabel scope env).names.lookup x=some .cell\/(relabel scope env).names.lookup x=some .free:=by
 have e:=tU (env:=env) x scope.names;have e':(relabel scope env).names.lookup x=(scope.names.lookup x).map λk=>if (k==NameKind.free&&env.scope.kind==.function&&env.kindOf x==some .cell)=true then NameKind.cell else k:=e
 rw[e',h,du];split
 ·exact .inl rfl
 ·exact .inr rfl
def oo(X:Cx)(N':List Str)(scope:bV)(cl:List (Str×Addr))(C:Addr)(fp:List Addr)(s:ab)(H:Hp):Cx:=
 { X with N:=N',s₀:=s,H₀:=H,env:=compEnvC scope cl C X.env,outer:=X.stack,ex:=fp,fn:=λ_=>false,pn:=[],xe:=λ_ _=>False }
def PIf(X:Cx)(ifs:List Expr)(t:TT):Prop:=
 ∀(pins:List (Addr×Obj)) (s:ab) (σ:St) (H:Hp) (Q:Bool->Hp->Prop),Inv X pins σ H s->t σ H Q->
  wpAny (model X.prog X.w) X.A (forIn ifs true λc r=>if r=true then do let ok<-isTrue c X.env (eval c X.env);pure (ForInStep.yield ok)else pure (ForInStep.yield r)) (TP X pins σ Q) X.xe s
def UL:TT:=λ_ H Q=>Q true H
variable{X:Cx}
theorem L7:PIf X [] UL:=λ_ _ _ H _ I h=>wpAny_tests_nil ⟨H,I,h⟩
theorem L8{c:Expr}{t:TT}(h:PT X c t):PIf X [c] t:=λpins s σ H Q I hq=>wpAny_tests_one (h pins s σ H Q I hq)
variable{elt iter:Expr}{ifs:List Expr}{pos:Pos}
section
variable{prog:aq}{w:ak}{A:ar}{R:cQ->ab->Prop}{s:ab}
theorem B6{target:Expr}{it acc:aa}(J:Nat->ab->Prop)
  (turn:∀n s,J n s->wpAny (model prog w) A (pyNext it) (λr s₁=>match r with
   |none=>R (.ok .next) s₁
   |some v=>wpAny (model prog w) A (letOwnedTupleGo target it v) (λ_ s₁'=>wpAny (model prog w) A (assign target env v) (λ_ s₂=>
     wpAny (model prog w) A (forIn ifs true λc r=>if r=true then do let ok<-isTrue c env (eval c env);pure (ForInStep.yield ok)else pure (ForInStep.yield r)) (λok s₃=>
      if ok=true then wpAny (model prog w) A (eval elt env) (λx s₄=>
       wpAny (model prog w) A (call (.builtin "list.append") [acc,x]) (λ_ s₅=>∃m,m<n/\J m s₅) (notedBy (model prog w) A env λe s'=>R (.error e) s') s₄) (notedBy (model prog w) A env λe s'=>R (.error e) s') s₃
      else ∃m,m<n/\J m s₃) (notedBy (model prog w) A env λe s'=>R (.error e) s') s₂) (notedBy (model prog w) A env λe s'=>R (.error e) s') s₁')
      (notedBy (model prog w) A env λe s'=>R (.error e) s') s₁) (notedBy (model prog w) A env λe s'=>R (.error e) s') s)
  (n:Nat) (h:J n s):
  codeAny (model prog w) A (.compLoop (.ListComp elt [⟨target,iter,ifs,0⟩] scope pos) 0 it acc env) R s:=by
 refine codeAny_loop rfl J (λn s hI=>?_) n h;show wpAny _ A ((compTurn (.ListComp elt [⟨target,iter,ifs,0⟩] scope pos) 0 it acc env).onRaise (λx=>do noteFrame x env;theTreesLotGoes x)) _ _ s;refine wpAny_noted ?_;rw[compTurn_list];refine ae (wpAny_standAt (ae (bw (turn n s hI) (λr s₁ h₁=>?_) λ_ _ h'=>h')));cases r with
 |none=>exact ao h₁
 |some v=>
  refine ae (bw h₁ (λ_ s₁' h₁'=>?_) λ_ _ h'=>h');refine ae (bw h₁' (λ_ s₂ h₂=>ae (bw h₂ (λok s₃ h₃=>?_) λ_ _ h'=>h')) λ_ _ h'=>h');cases ok with
  |false=>exact ao ⟨rfl,h₃⟩
  |true=>exact ae (ae (bw h₃ (λx s₄ h₄=>ae (bw h₄ (λ_ s₅ h₅=>ao (ao ⟨rfl,h₅⟩)) λ_ _ h'=>h')) λ_ _ h'=>h'))
end
def qd(k:Nat)(cap:List Nat)(σ:St):St:=dw k none++cap.map λj=>(σ[j]?).join
variable{σ:St}{i:Nat}
theorem Bb{k:Nat}{cap:List Nat}{v:V}(h:(qd k cap σ)[i]?=some (some v)):k<=i:=by
 by_cases hi:k<=i
 ·exact hi
 ·unfold qd at h;rw[cE (by rw[bJ];omega),eX]at h;split at h<;>cases h
variable{N N':List Str}
theorem Hk{k:Nat}{cap:List Nat}{v:V}(hcap:(N'.drop k).map some=cap.map λj=>N[j]?)(hx:N'[i]?=some x)(h:(qd k cap σ)[i]?=some (some v)):
  ∃j:Nat,N[j]?=some x/\σ[j]?=some (some v)/\x∈N'.drop k:=by
 have hi:=Bb h;unfold qd at h;rw[cD (by rw[bJ];exact hi),bJ,aK]at h;have hd:(N'.drop k)[i - k]?=some x:=by rw[cW,show k+(i - k)=i by omega];exact hx
 have e:=aN (λl=>l[i - k]?) hcap;simp only[aK,hd,du]at e;cases q:cap[i - k]? with
 |none=>rw[q]at h;cases h
 |some j=>
  rw[q]at h e;simp only[du,Option.some.injEq]at h e;refine⟨j,e.symm,?_,bz hd⟩;cases z:σ[j]? with
  |none=>rw[z]at h;cases h
  |some o=>rw[z]at h;have h':o=some v:=h;rw[h']
def yg(wi:TI)(g:TG)(tt:TT)(te:TE)(k:Nat)(cap:List Nat):TE:=λσ H Q=>wi σ H λJ H1=>∀p,H1 p=none->
 ∃W:Nat->Nat->List V->Hp->Prop,(∃m,W 0 m [] (upd H1 p (.lst [])))/\∀i m acc H2,W i m acc H2->
  (J.stop i H2/\Q (.ref p) H2)\/
   (J.go i H2/\∀x H3,J.yld i H2 x H3->g x (qd k cap σ) H3 λσ4 H4=>σ4.drop k=(qd k cap σ).drop k/\tt σ4 H4 λb H5=>
    if b=true then te σ4 H5 λy H6=>∃acc',H6 p=some (.lst acc')/\acc'.length<sizeLine/\∃m',m'<m/\W (i+1) m' (acc'++[y]) (upd H6 p (.lst (acc'++[y])))
    else ∃m',m'<m/\W (i+1) m' acc H5)
variable{tg:Expr}{wi:TI}{tt:TT}{te:TE}
theorem Bc{pins:List (Addr×Obj)}{s:ab}{H:Hp}{use:Option (aa->Sem Unit)}{P:aa->ab->Prop}{Q:V->Hp->Prop}{k:Nat}{cap:List Nat}{g:TG}
  (hc:X.calm=true) (hi:PI X tg iter wi)
  (body:∀(cl:List (Str×Addr)) (C:Addr) (fp:List Addr) (s:ab) (H:Hp),PG (oo X N' scope cl C fp s H) tg g/\PIf (oo X N' scope cl C fp s H) ifs tt/\PE (oo X N' scope cl C fp s H) elt te)
  (hkind:scope.kind=.function) (hcell:(scope.names.all λy=>y.2 != .cell)=true)
  (hloc:(scope.names.all λy=>y.2 != .local||scope.names.lookup y.1==some .local)=true)
  (hfree:(scope.names.all λy=>y.2 != .free||(X.env.kindOf y.1==some .cell||X.env.kindOf y.1==some .free))=true)
  (hlen:N'.length=k+cap.length) (hcap:(N'.drop k).map some=cap.map λj=>X.N[j]?)
  (hcf:((N'.drop k).all λx=>scope.names.lookup x==some .free)=true)
  (hs:∀x,foldedSetIterable iter X.env x=pure x)
  (I:Inv X pins σ H s) (h:yg wi g tt te k cap σ H Q)
  (fin:∀a C m u s4 H3,s4.heap.Ns C m->Inv X pins σ H3 s4->AF X pins H3 C->Q (.ref a) H3->compPost (model X.prog X.w) X.A X.xe use P (.ref a) C (.ok u) s4):
  wpAny (model X.prog X.w) X.A (comprehension (.ListComp elt [⟨tg,iter,ifs,0⟩] scope pos) scope X.env (firstIterPos [⟨tg,iter,ifs,0⟩] pos) (newList []) false (eval iter X.env) use) P X.xe s:=by
 have hcell':∀y∈scope.names,y.2≠.cell:=λy hy e=>by have z:=aV.mp hcell y hy;rw[e]at z;exact ai z (by decide)
 have hloc':∀y∈scope.names,y.2=.local->scope.names.lookup y.1=some .local:=λy hy e=>by have z:=aV.mp hloc y hy;rw[e]at z;simpa using z
 have hfree':∀y∈scope.names,y.2=.free->X.env.kindOf y.1=some .cell\/X.env.kindOf y.1=some .free:=λy hy e=>by have z:=aV.mp hfree y hy;rw[e]at z;simpa using z
 have hcl:∀y∈scope.names,y.2=.free->∃c,X.env.cells.lookup y.1=some c:=λy hy e=>I.ok.has y.1 (hfree' y hy e);refine wpAny_comprehension_free rfl hs (AJ hcl) hkind hloc' (thn (hi pins s σ H _ I h) λxv s₁ h₁=>thn h₁ λit s₂ h₂=>?_);obtain⟨ita,fp,tn,J,H2,e,I2,T,st2,f2,R2⟩:=h₂;subst e;obtain⟨W,⟨m0,w0⟩,turn⟩:=R2 s₂.heap.objs.size (I2.hok.fresh (aw _));refine dr (wpAny_newFunctionEnv hcell' (by intro y hy;simp at hy) (λh₁ hns₁ hsb₁=>?_) hkind);dsimp only at hns₁ hsb₁ ⊢;generalize hp:s₂.heap.push { cls:=.type "list", dict:=none,data:=.seq ([]:List aa).toArray }=hpL at hns₁ hsb₁ ⊢;have hsz:hpL.objs.size=s₂.heap.objs.size+1:=by rw[<-hp,bR]
 have I3:Inv X pins σ (upd H2 s₂.heap.objs.size (.lst [])) { s₂ with heap:=hpL }:=by rw[<-hp];exact I2.laid (t':=s₂.toks) (λb u e=>av _ e) (aw _) ⟨aY _,[],0,.nil,aP _ rfl⟩
 have old:∀b o,hpL.get? b=some o->h₁.get? b=some o:=λb o e=>hsb₁.extBut b o (aE (ay e)) (av _ e);have older:∀b o,s₂.heap.get? b=some o->hpL.get? b=some o:=λb o e=>by rw[<-hp];exact av _ e
 have hfpS:∀b∈fp,b<s₂.heap.objs.size:=λb hb=>let ⟨o,e,_⟩:=T.obj _ _ st2 b hb;ay e;have sub:∀x c,(ra X.env.cells scope.names).lookup x=some c->X.env.cells.lookup x=some c:=Dk scope.names [] hcl (λx c e=>by cases e);have ok':(oo X N' scope (ra X.env.cells scope.names) hpL.objs.size fp { s₂ with heap:=hpL } (upd H2 s₂.heap.objs.size (.lst []))).Ok:={
  mod:=I3.ok.mod
  kind:=hkind
  glob:=I3.ok.glob
  blt:=I3.ok.blt
  above:=aw _
  inj:=λx y c h1 h2=>I3.ok.inj x y c (sub x c h1) (sub y c h2)
  has:=λx hx=>zy scope.names [] x (EV hcell' hx)
  cab:=λx c hf _=>ai (show false=true from hf) aR
  hd:=I3.ok.hd
  frames:=I3.ok.frames
  stk:=.inl rfl
  exf:=λb hb=>⟨(by
   show b≠hpL.objs.size;rw[hsz];exact aE (cp (hfpS b hb))),λx c e=>(f2 b hb).2.2.2.2.1 x c (sub x c e)⟩
  bs:=I3.bs
  bsz:=bF I3.ok.bsz I3.sz
  noex:=λb o e hb=>by
   rcases(f2 b hb).2.2.2.1 with z|z
   ·exact I3.ok.noex b o e z
   ·exact ai (bA (ay e) (bF I3.ok.bsz z)) (c7 _)
  exfs:=λb hb z=>(aD.mp (I3.stkSub b z)).elim (f2 b hb).2.1 (f2 b hb).2.2.1
  funs:=I3.stack
  frf:=I3.stkFree }
 have IX:Inv (oo X N' scope (ra X.env.cells scope.names) hpL.objs.size fp { s₂ with heap:=hpL } (upd H2 s₂.heap.objs.size (.lst []))) [] (qd k cap σ) (upd H2 s₂.heap.objs.size (.lst []))
   { s₂ with heap:=h₁,toks:=s₂.toks+([]:List (Str×aa)).length }:={
  ok:=ok'
  os:=rfl
  bare:=I3.bare
  base:=Un.kept old
  loc:=⟨_,hns₁,λi x v e1 e2 _=>by
   obtain⟨j,hj,hσ,hm⟩:=Hk hcap e1 e2;have hx:scope.names.lookup x=some .free:=by simpa using aV.mp hcf x hm
   have hk:=hfree' (x,.free) (mem_of_lookup hx) rfl;obtain⟨m,hn,hl⟩:=I3.loc;obtain⟨u,r,lk⟩:=hl j x v hj hσ (hk.elim (λz=>.inr (.inl z)) λz=>.inr (.inr z));refine⟨u,r,.inr ⟨AK hx,?_⟩⟩;rcases lk with ⟨z,_⟩|⟨_,c,e,o,ho,hd⟩
   ·rcases hk with y|y
    ·rw[y]at z;cases z
    ·rw[y]at z;cases z
   ·obtain⟨c',e'⟩:=zy (cells:=X.env.cells) scope.names [] x (mem_of_lookup hx);have ec:=sub x c' e';rw[e]at ec;have ec':c=c':=bQ ec;subst ec';exact⟨c,e',o,old _ _ ho,hd⟩⟩
  cell:=λx c e=>by obtain⟨v,o,ho,hd⟩:=I3.cell x c (sub x c e);exact⟨v,o,old _ _ ho,hd⟩
  free:=I3.hok.fresh (aw _)
  freeC:=λx c e=>I3.freeC x c (sub x c e)
  pin:=λp hp=>ai (show p∈([]:List (Addr×Obj)) from hp) (by simp)
  hok:=I3.hok.kept old
  len:=by
   show (qd k cap σ).length=N'.length;rw[hlen];unfold qd;rw[aB,bJ,ah] }
 have stat:∀{H':Hp},(∀b∈fp,H' b=none)->∀b∈fp,AF (oo X N' scope (ra X.env.cells scope.names) hpL.objs.size fp { s₂ with heap:=hpL } (upd H2 s₂.heap.objs.size (.lst []))) [] H' b:=λhn b hb=>⟨hn b hb,(ok'.exf b hb).1,ok'.exfs b hb,.inl hb,(ok'.exf b hb).2,λp hp=>ai (show p∈([]:List (Addr×Obj)) from hp) (by simp)⟩
 have st4:tn 0 h₁:=T.keep _ _ _ st2 λb _ o e=>old b o (older b o e);have loop:codeAny (model X.prog X.w) X.A (.compLoop (.ListComp elt [⟨tg,iter,ifs,0⟩] scope pos) 0 (.ref ita) (.ref s₂.heap.objs.size) (compEnvC scope (ra X.env.cells scope.names) hpL.objs.size X.env))
   (compPost (model X.prog X.w) X.A X.xe use P (.ref s₂.heap.objs.size) hpL.objs.size) { s₂ with heap:=h₁,toks:=s₂.toks+([]:List (Str×aa)).length }:=by
  refine B6 (λn s'=>∃i acc H',Inv (oo X N' scope (ra X.env.cells scope.names) hpL.objs.size fp { s₂ with heap:=hpL } (upd H2 s₂.heap.objs.size (.lst []))) [] (qd k cap σ) H' s'/\tn i s'.heap/\(∀b∈fp,H' b=none)/\W i n acc H')
   ?_ m0 ⟨0,[],_,IX,st4,λb hb=>?_,w0⟩
  ·rintro n s3 ⟨i,acc,H3,I4,st3,fr3,w3⟩;rcases turn i n acc H3 w3 with ⟨stop,qn⟩|⟨go,step⟩
   ·refine thn (T.done (oo X N' scope (ra X.env.cells scope.names) hpL.objs.size fp { s₂ with heap:=hpL } (upd H2 s₂.heap.objs.size (.lst []))) rfl rfl rfl hc i [] s3 _ H3 _ I4 (stat fr3) st3 stop) λr s4 ⟨hr,I5⟩=>?_;subst hr;obtain⟨m,hn,_⟩:=id I5.loc;have U:=I5.base;refine fin _ _ m _ _ _ hn (I3.call' (s':=s4) (ch:=fp) I5.os ⟨λb o e n hb hx=>U.keep b o e n hb hx,λb o e n hb hx=>U.slot b o e n hb hx,U.free,λb o e hx=>U.there b o e hx,U.tups,U.frzs,U.tbls⟩ I5.hok I5.bare
     λb hb=>⟨(f2 b hb).2.2.2.1,(f2 b hb).2.1,(f2 b hb).2.2.2.2.1,(f2 b hb).2.2.2.2.2⟩) (I3.fpOk (aw _) I5.free) qn
   ·refine thn (T.item (oo X N' scope (ra X.env.cells scope.names) hpL.objs.size fp { s₂ with heap:=hpL } (upd H2 s₂.heap.objs.size (.lst []))) rfl rfl rfl hc i [] s3 _ H3 _ I4 (stat fr3) st3 go) λr s4 ⟨u,hr,h4⟩=>?_;subst hr;refine thn h4 λ_ s5 ⟨x,H5,I5,r5,y5,st5,fr5⟩=>?_;have I5':=I5.pinned (stat fr5) (T.obj _ _ st5);have again:∀{H8:Hp} {s8:ab} {σ8:St} {acc8:List V} {m':Nat},Inv (oo X N' scope (ra X.env.cells scope.names) hpL.objs.size fp { s₂ with heap:=hpL } (upd H2 s₂.heap.objs.size (.lst []))) ([]++zl fp s5.heap) σ8 H8 s8->σ8.drop k=(qd k cap σ).drop k->m'<n->W (i+1) m' acc8 H8->
      ∃m,m<n/\∃i acc H',Inv (oo X N' scope (ra X.env.cells scope.names) hpL.objs.size fp { s₂ with heap:=hpL } (upd H2 s₂.heap.objs.size (.lst []))) [] (qd k cap σ) H' s8/\tn i s8.heap/\(∀b∈fp,H' b=none)/\W i m acc H':=λ{H8 s8 σ8 acc8 m'} I8 hd8 hm8 w8=>by
     refine⟨m',hm8,i+1,acc8,H8,I8.unpinned.weak (IX.len.trans I8.len.symm) (λj v e=>?_),T.keep _ _ _ st5 λb hb o e=>(I8.pin (b,o) (bM _ (bM _ (rN hb e)))).1,λb hb=>?_,w8⟩
     ·have hj:=Bb e;have q:(σ8.drop k)[j - k]?=((qd k cap σ).drop k)[j - k]?:=by rw[hd8]
      rw[cW,cW,show k+(j - k)=j by omega]at q;rw[q];exact e
     ·obtain⟨o,e,d⟩:=T.obj _ _ st5 b hb;exact(I8.pin (b,o) (bM _ (bM _ (rN hb e)))).2.1
    refine bw ((body _ _ _ _ _).1 _ s5 _ H5 x u _ I5' r5 (step x H5 y5)) (λ_ s6 h6=>?_) λ_ _ f=>f.elim;obtain⟨σ6,H6,I6,hd6,q6⟩:=h6;refine bw ((body _ _ _ _ _).2.1 _ s6 σ6 H6 _ I6 q6) (λb s7 h7=>?_) λ_ _ f=>f.elim;obtain⟨H7,I7,q7⟩:=h7;cases b with
    |false=>rw[af aR]at q7;rw[af aR];obtain⟨m',hm',w7⟩:=q7;exact again I7 hd6 hm' w7
    |true=>rw[ag rfl]at q7;rw[ag rfl];refine bw ((body _ _ _ _ _).2.2 _ s7 σ6 H7 _ I7 q7) (λyv s8 h8=>?_) λ_ _ f=>f.elim;obtain⟨y,H8,I8,r8,acc',hp8,hl8,m',hm',w8⟩:=h8;refine bw (xA (X:=oo X N' scope (ra X.env.cells scope.names) hpL.objs.size fp { s₂ with heap:=hpL } (upd H2 s₂.heap.objs.size (.lst []))) _ s8 σ6 H8 (.ref s₂.heap.objs.size) [y] (.ref s₂.heap.objs.size) [yv] (λ_ Hx=>Hx=upd H8 s₂.heap.objs.size (.lst (acc'++[y]))) I8 rfl (.cons r8 .nil) ⟨_,acc',y,rfl,rfl,hp8,hl8,rfl⟩) (λ_ s9 h9=>?_) λ_ _ f=>f.elim;obtain⟨_,H9,I9,_,e9⟩:=h9;subst e9;exact again I9 hd6 hm' w8
  ·have z:b≠s₂.heap.objs.size:=aE (hfpS b hb);rw[mG z];exact(f2 b hb).1
 exact codeAny_compStart_list loop (T.self _ 0 _ _ _ st4 loop)
theorem L9{k:Nat}{cap:List Nat}{g:TG}
  (hc:X.calm=true) (hi:PI X tg iter wi)
  (body:∀(cl:List (Str×Addr)) (C:Addr) (fp:List Addr) (s:ab) (H:Hp),PG (oo X N' scope cl C fp s H) tg g/\PIf (oo X N' scope cl C fp s H) ifs tt/\PE (oo X N' scope cl C fp s H) elt te)
  (hkind:scope.kind=.function:=by rfl) (hcell:(scope.names.all λy=>y.2 != .cell)=true:=by rfl)
  (hloc:(scope.names.all λy=>y.2 != .local||scope.names.lookup y.1==some .local)=true:=by rfl)
  (hfree:(scope.names.all λy=>y.2 != .free||(X.env.kindOf y.1==some .cell||X.env.kindOf y.1==some .free))=true:=by rfl)
  (hlen:N'.length=k+cap.length:=by rfl) (hcap:(N'.drop k).map some=cap.map λj=>X.N[j]?:=by rfl)
  (hcf:((N'.drop k).all λx=>scope.names.lookup x==some .free)=true:=by rfl)
  (hs:∀x,foldedSetIterable iter X.env x=pure x:=by intro _;rfl):
  PE X (.ListComp elt [⟨tg,iter,ifs,0⟩] scope pos) (yg wi g tt te k cap):=by
 intro pins s σ H Q I h;exact Bc hc hi body hkind hcell hloc hfree hlen hcap hcf hs I h λa C m u s4 H3 hn back fpC qn=>⟨m,hn,λh' hs'=>⟨.ref a,H3,back.turned (t':=s4.toks) (λb o hb e=>(hs'.2 b hb).trans e) fpC.1 fpC.2.1 fpC.2.2.2.1 fpC.2.2.2.2.1 fpC.2.2.2.2.2,rfl,qn⟩⟩
def Its(x:Str):It:=⟨λi _=>i<x.cps.size,λi H v H'=>H'=H/\∃c,x.cps[i]?=some c/\v=.str ⟨#[c]⟩,λi _=>i=x.cps.size⟩
theorem Pe{M:Model}{A:ar}{E:aa->ab->Prop}{s:ab}{it:Addr}{c:Str}{t:Tok}{Q:Unit->ab->Prop}(hQ:Q () s):wpAny M A (letOwnedTupleGo tg (.ref it) (.str c t)) Q E s:=by unfold letOwnedTupleGo;cases tg<;>exact ao hQ
theorem Dl{P:aq}{w:ak}{K:aj}(it:Addr)(ty:String)(x:Str)(t:Tok)
  (hW:∀A:ar,A.handled=none->Walks P w A it [it] [it] x.cps.size (SignAt x) (λi h=>h.IsStrIter it ty x t i))
  (hS:∀(A:ar) (i:Nat) (s:ab) (Q:aa->ab->Prop) (E:aa->ab->Prop),s.heap.IsStrIter it ty x t i->Q (.ref it) s->wpAny (model P w) A (pyIter (.ref it)) Q E s):
  Turn P w K tg (Its x) [it] it (λi h=>h.IsStrIter it ty x t i) where
 mem:=by simp
 obj:=λi h st b hb=>by
  have e:b=it:=by simpa using hb
  subst e;obtain⟨o,e,c,d⟩:=st;exact⟨o,e,λv z=>by rw[d]at z;cases z⟩
 keep:=λi h h' st k=>by obtain⟨o,e,r⟩:=st;exact⟨o,k it (by simp) o e,r⟩
 item:=by intro X hP hw hK hc i pins s σ H E I hf st hg;subst hP hw hK;obtain⟨f0,f1,f2,f3,f4,f5⟩:=hf it (by simp);refine(hW _ (I.ok.hd hc)).item i s _ _ hg st λv h' tk hv st' kk=>?_;obtain⟨c,t',hc',rfl⟩:=hv;have I1:Inv X pins σ H { s with heap:=h',toks:=tk }:=I.turned (λb o hb e=>kk b o (by simpa using hb) e) f0 f1 f3 f4 f5;exact⟨_,rfl,Pe ⟨.str ⟨#[c]⟩,H,I1,⟨t',rfl⟩,⟨rfl,c,hc',rfl⟩,st',λb hb=>(hf b hb).1⟩⟩
 done:=by intro X hP hw hK hc i pins s σ H E I hf st hg;subst hP hw hK;obtain⟨f0,f1,f2,f3,f4,f5⟩:=hf it (by simp);have hg':i=x.cps.size:=hg;subst hg';exact(hW _ (I.ok.hd hc)).done s _ _ st λh' tk kk=>⟨rfl,I.turned (λb o hb e=>kk b o (by simpa using hb) e) f0 f1 f3 f4 f5⟩
 self:=hS
variable{l:Expr}{tl:TE}
section
variable{X:Cx}{tg:Expr}
def Tj(tl:TE):TI:=λσ H R=>tl σ H λv H1=>∃x,v=.str x/\R (Its x) H1
theorem Pf(hl:PE X l tl):PI X tg l (Tj tl):=by
 intro pins s σ H R I h;refine thn (hl pins s σ H _ I h) λv s1 ⟨x,H1,I1,r1,q1⟩=>?_;obtain⟨z,e,q⟩:=q1;subst e;obtain⟨t,rfl⟩:=r1;have fp:∀b∈[s1.heap.objs.size],AF X pins H1 b:=λb hb=>by
  have e:b=s1.heap.objs.size:=by simpa using hb
  subst e;exact I1.fpOk (aw _) (I1.hok.fresh (aw _))
 cases ha:z.cps.all (· < 128)
 ·refine wpAny_pyIter_wide ha ⟨s1.heap.objs.size,[s1.heap.objs.size],_,_,H1,rfl,I1.kept (t':=s1.toks) λb o e=>av _ e,Dl _ "str_iterator" z t (λA hA=>Walks.strWide hA _ z t) (λA i s Q E st hQ=>wpAny_pyIter_striter_wide st hQ),⟨_,aP _ rfl,rfl,rfl⟩,fp,q⟩
 ·refine wpAny_pyIter_ascii ha ⟨s1.heap.objs.size,[s1.heap.objs.size],_,_,H1,rfl,I1.kept (t':=s1.toks) λb o e=>av _ e,Dl _ "str_ascii_iterator" z t (λA hA=>Walks.strAscii hA _ z t) (λA i s Q E st hQ=>wpAny_pyIter_striter_ascii st hQ),⟨_,aP _ rfl,rfl,rfl⟩,fp,q⟩
end
section
variable{X:Cx}
theorem Hl:OpR X (compareOp .LtE) (λx y H Q=>∃i j,x=.str i/\y=.str j/\Q (.bl (!decide (j.cps.toList<i.cps.toList))) H):=by intro pins s σ H x y v u Q I rx ry h;obtain⟨i,j,rfl,rfl,q⟩:=h;obtain⟨t,rfl⟩:=rx;obtain⟨t',rfl⟩:=ry;exact PySem.P.le_str (ng I q rfl)
theorem Jd(hc:X.calm=true):oa X (.builtin "all") (λxs H Q=>∃(p:Addr) (bs:List Bool),xs=[.ref p]/\SqL X.K H p (bs.map V.bl)/\Q (.bl (bs.all id)) H):=by
 intro pins s σ H xs us Q I r h;obtain⟨p,bs,rfl,hq,q⟩:=h;obtain⟨u,rfl,ru⟩:=vals1 r;cases ru;obtain⟨its,rv,pl,hz⟩:=I.list hq;have hlt:p<s.heap.objs.size:=by obtain⟨o,ho,_⟩:=pl.isList;exact ay ho
 have hl:bs.length=its.length:=by have:=rv.length;rw[ah]at this;exact this
 refine call_all_walk (fo pl.isList ⟨s.heap.objs.size,_,_,_,_,_,λi=>(bs[i]?).getD true,rfl,gQ (show X.A.in1.handled=none from I.ok.hd hc) _ p (aE hlt) its.toArray,⟨⟨_,aP _ rfl,rfl,rfl⟩,?_⟩,?_,λh' tk hk=>?_⟩)
 ·exact pl.isList.at λo e=>av _ e
 ·intro i v s' Q' E' hv hQ';have hv':its[i]?=some v:=by simpa using hv
  have hi:i<its.length:=(bx.mp hv').1;have hb:(bs.map V.bl)[i]?=some (.bl (bs[i]'(by omega))):=by simp[show i<bs.length by omega]
  obtain⟨u,hu,ru⟩:=rv.get hb;rw[hv']at hu;cases hu;cases ru;refine cb ?_;have e:(bs[i]?).getD true=bs[i]'(by omega):=by simp[show i<bs.length by omega]
  rw[<-e];exact hQ'
 ·refine⟨.bl (bs.all id),H,?_,?_,q⟩
  ·exact I.kept (t':=tk) λb o e=>hk b o (by simp;exact aE (ay e)) (av _ e)
  ·show Value.bool _=Value.bool _;congr 1;rw[aI,<- hl];rw[c3];simp only[aV,bb,id];constructor
   ·intro hh b hb;obtain⟨i,hi,rfl⟩:=hZ.mp hb;have:=hh i hi;simpa [hi]using this
   ·intro hh i hi;simp only[az hi,iF];exact hh _ (bP hi)
end
inductive Dq where
 |non|bl (b:Bool)|int (i:Int)|str (x:Str)|tup (ds:List Dq)|lst (ds:List Dq)
mutual
def Rep(K:aj)(H:Hp):Dq->V->Prop
 |.non,v=>v=.non
 |.bl b,v=>v=.bl b
 |.int i,v=>v=.int i
 |.str x,v=>v=.str x
 |.tup ds,v=>∃a xs,v=.ref a/\SqT K H a xs/\mB K H ds xs
 |.lst ds,v=>∃a xs,v=.ref a/\SqL K H a xs/\mB K H ds xs
def mB(K:aj)(H:Hp):List Dq->List V->Prop
 |[],xs=>xs=[]
 |d::ds,xs=>∃v r,xs=v::r/\Rep K H d v/\mB K H ds r
end
mutual
def eqD:Dq->Dq->Bool
 |.non,.non=>true
 |.bl a,.bl b=>a==b
 |.bl a,.int b=>(if a then 1 else 0)==b
 |.int a,.bl b=>a==(if b then 1 else 0)
 |.int a,.int b=>a==b
 |.str a,.str b=>a==b
 |.tup a,.tup b=>tV a b
 |.lst a,.lst b=>tV a b
 |_,_=>false
def tV:List Dq->List Dq->Bool
 |[],[]=>true
 |a::r,b::q=>eqD a b&&tV r q
 |_,_=>false
end
mutual
def dpt:Dq->Nat
 |.tup ds=>oe ds+1
 |.lst ds=>oe ds+1
 |_=>0
def oe:List Dq->Nat
 |[]=>0
 |d::r=>max (dpt d) (oe r)
end
mutual
theorem Dm:∀d:Dq,eqD d d=true
 |.non=>by unfold eqD;rfl
 |.bl b=>by unfold eqD;simp
 |.int i=>by unfold eqD;simp
 |.str x=>by unfold eqD;simp
 |.tup ds=>by unfold eqD;exact xC ds
 |.lst ds=>by unfold eqD;exact xC ds
theorem xC:∀ds:List Dq,tV ds ds=true
 |[]=>by unfold tV;rfl
 |d::r=>by unfold tV;rw[Dm d,xC r];rfl
end
theorem mE{K:aj}{H:Hp}:∀{ds:List Dq} {xs:List V},mB K H ds xs->ds.length=xs.length
 |[],xs,h=>by unfold mB at h;subst h;rfl
 |d::ds,xs,h=>by unfold mB at h;obtain⟨v,r,rfl,_,h2⟩:=h;rw[aC,aC,mE h2]
def eAt(ds ds':List Dq)(j:Nat):Bool:=match ds[j]?,ds'[j]? with
 |some a,some b=>eqD a b
 |_,_=>true
theorem zz:∀(ds ds':List Dq),tV ds ds'=true ↔ ds.length=ds'.length/\∀j,j<ds.length->eAt ds ds' j=true
 |[],[]=>by simp[tV]
 |[],b::q=>by simp[tV]
 |a::r,[]=>by simp[tV]
 |a::r,b::q=>by
  have ih:=zz r q;unfold tV;rw[aL,ih,aC,aC];constructor
  ·rintro⟨h1,h2,h3⟩;refine⟨by omega,λj hj=>?_⟩;cases j with
   |zero=>exact h1
   |succ j=>exact h3 j (by omega)
  ·rintro⟨h1,h2⟩;exact⟨h2 0 (by omega),by omega,λj hj=>h2 (j+1) (by omega)⟩
variable{ds ds':List Dq}
theorem tW{n m:Nat}(hn:ds.length=n)(hm:ds'.length=m):((aF (min n m)).all (eAt ds ds')&&n==m)=tV ds ds':=by
 rw[c3,zz,aL,aV];subst hn hm;constructor
 ·rintro⟨h1,h2⟩;have e:ds.length=ds'.length:=by simpa using h2
  exact⟨e,λj hj=>h1 j (bb.mpr (by omega))⟩
 ·rintro⟨e,h⟩;exact⟨λj hj=>h j (by have:=bb.mp hj;omega),by simpa using e⟩
theorem uP{n:Nat}(hn:ds.length=n)(hm:ds'.length=n):(aF n).all (eAt ds ds')=tV ds ds':=by rw[<-tW hn hm];simp
theorem zA(h:ds.length≠ds'.length):tV ds ds'=false:=by
 cases e:tV ds ds' with
 |false=>rfl
 |true=>exact ai ((zz ds ds').mp e).1 h
section
variable{X:Cx}{pins:List (Addr×Obj)}{σ:St}{H:Hp}{s:ab}
theorem Oe(I:Inv X pins σ H s){a:Addr}{xs ys:List V}(h:SqL X.K H a xs)(h':SqT X.K H a ys):False:=by obtain⟨its,_,p,_⟩:=I.list h;obtain⟨its',_,p',_⟩:=I.tuple h';exact SeqAt.ne_of_list_tuple p.isList (show s.heap.IsTuple a its'.toArray from p') rfl
mutual
theorem zB(I:Inv X pins σ H s):∀(d d':Dq) (v:V),Rep X.K H d v->Rep X.K H d' v->eqD d d'=true
 |.non,d',v,h,h'=>by unfold Rep at h;subst h;cases d'<;>unfold Rep at h'<;>first|rfl|(exact nomatch h')|(obtain⟨_,_,e,_⟩:=h';exact nomatch e)
 |.bl b,d',v,h,h'=>by unfold Rep at h;subst h;cases d'<;>unfold Rep at h'<;>first|(obtain⟨_,_,e,_⟩:=h';cases e)|(cases h'<;>simp[eqD])
 |.int b,d',v,h,h'=>by unfold Rep at h;subst h;cases d'<;>unfold Rep at h'<;>first|(obtain⟨_,_,e,_⟩:=h';cases e)|(cases h'<;>simp[eqD])
 |.str b,d',v,h,h'=>by unfold Rep at h;subst h;cases d'<;>unfold Rep at h'<;>first|(obtain⟨_,_,e,_⟩:=h';cases e)|(cases h'<;>simp[eqD])
 |.tup ds,d',v,h,h'=>by
  unfold Rep at h;obtain⟨a,xs,rfl,hq,hr⟩:=h;cases d' with
  |tup ds'=>unfold Rep at h';obtain⟨a',xs',e,hq',hr'⟩:=h';cases e;have ex:=I.tuple_inj hq hq';subst ex;unfold eqD;exact xD I ds ds' xs hr hr'
  |lst ds'=>unfold Rep at h';obtain⟨a',xs',e,hq',hr'⟩:=h';cases e;exact(Oe I hq' hq).elim
  |_=>unfold Rep at h';exact nomatch h'
 |.lst ds,d',v,h,h'=>by
  unfold Rep at h;obtain⟨a,xs,rfl,hq,hr⟩:=h;cases d' with
  |lst ds'=>unfold Rep at h';obtain⟨a',xs',e,hq',hr'⟩:=h';cases e;have ex:=I.list_inj hq hq';subst ex;unfold eqD;exact xD I ds ds' xs hr hr'
  |tup ds'=>unfold Rep at h';obtain⟨a',xs',e,hq',hr'⟩:=h';cases e;exact(Oe I hq hq').elim
  |_=>unfold Rep at h';exact nomatch h'
theorem xD(I:Inv X pins σ H s):∀(ds ds':List Dq) (xs:List V),mB X.K H ds xs->mB X.K H ds' xs->tV ds ds'=true
 |[],ds',xs,h,h'=>by
  unfold mB at h;subst h;cases ds' with
  |nil=>rfl
  |cons d r=>unfold mB at h';obtain⟨_,_,e,_⟩:=h';exact nomatch e
 |d::ds,ds',xs,h,h'=>by
  unfold mB at h;obtain⟨v,r,rfl,h1,h2⟩:=h;cases ds' with
  |nil=>unfold mB at h';exact nomatch h'
  |cons d' r'=>unfold mB at h';obtain⟨v',q,e,h1',h2'⟩:=h';cases e;unfold tV;rw[zB I d d' v h1 h1',xD I ds r' r h2 h2'];rfl
end
mutual
theorem Pg(I:Inv X pins σ H s):∀(d d':Dq) (x y:V) (u v:aa) (A:ar),Rep X.K H d x->Rep X.K H d' y->RelV x u->RelV y v->A.units+dpt d+dpt d'<cLine->gK A s u v (eqD d d')
 |.tup ds,d',x,y,u,v,A,hx,hy,ru,rv,hu=>by
  unfold Rep at hx;obtain⟨a,xs,rfl,hq,hr⟩:=hx;cases ru;obtain⟨its,rx,p,_⟩:=I.tuple hq;have p:s.heap.IsTuple a its.toArray:=p;cases d' with
  |non=>unfold Rep at hy;subst hy;cases rv;exact SeqAt.EqAt.tuple_none p (by omega)
  |bl b=>unfold Rep at hy;subst hy;cases rv;exact SeqAt.EqAt.tuple_bool b p (by omega)
  |int b=>unfold Rep at hy;subst hy;obtain⟨t,rfl⟩:=rv;exact SeqAt.EqAt.tuple_int b t p (by omega)
  |str b=>unfold Rep at hy;subst hy;obtain⟨t,rfl⟩:=rv;exact SeqAt.EqAt.tuple_str b t p (by omega)
  |lst ds'=>unfold Rep at hy;obtain⟨b,ys,rfl,hq',hr'⟩:=hy;cases rv;obtain⟨its',ry,p',_⟩:=I.list hq';exact SeqAt.EqAt.tuple_list p p'.isList (by omega)
  |tup ds'=>
   have hy0:=hy;unfold Rep at hy;obtain⟨b,ys,rfl,hq',hr'⟩:=hy;cases rv;obtain⟨its',ry,p',_⟩:=I.tuple hq';have p':s.heap.IsTuple b its'.toArray:=p';by_cases hab:a=b
   ·subst hab;have e:eqD (.tup ds) (.tup ds')=true:=zB I _ _ (.ref a) (by unfold Rep;exact⟨a,xs,rfl,hq,hr⟩) hy0;rw[e];exact iO _
   ·have hd:dpt (.tup ds)=oe ds+1:=by rw[dpt]
    have hd':dpt (.tup ds')=oe ds'+1:=by rw[dpt]
    have q:=SeqAt.RcAt.tuples (A:=A) (e:=eAt ds ds') p p' (by omega) λj h1 h2=>by have z:=tX I ds ds' xs ys its its' A.in1 hr hr' rx ry (by show A.units+1+oe ds+oe ds'<cLine;omega) j (by simpa using h1) (by simpa using h2);simpa using z
    rw[tW (by rw[mE hr,rx.length];simp) (by rw[mE hr',ry.length];simp)]at q;exact iu hab (by unfold eqD;exact q)
 |.lst ds,d',x,y,u,v,A,hx,hy,ru,rv,hu=>by
  unfold Rep at hx;obtain⟨a,xs,rfl,hq,hr⟩:=hx;cases ru;obtain⟨its,rx,p,_⟩:=I.list hq;have p:=p.isList;cases d' with
  |non=>unfold Rep at hy;subst hy;cases rv;exact SeqAt.EqAt.list_none p (by omega)
  |bl b=>unfold Rep at hy;subst hy;cases rv;exact SeqAt.EqAt.list_bool b p (by omega)
  |int b=>unfold Rep at hy;subst hy;obtain⟨t,rfl⟩:=rv;exact SeqAt.EqAt.list_int b t p (by omega)
  |str b=>unfold Rep at hy;subst hy;obtain⟨t,rfl⟩:=rv;exact SeqAt.EqAt.list_str b t p (by omega)
  |tup ds'=>unfold Rep at hy;obtain⟨b,ys,rfl,hq',hr'⟩:=hy;cases rv;obtain⟨its',ry,p',_⟩:=I.tuple hq';exact SeqAt.EqAt.list_tuple p (show s.heap.IsTuple b its'.toArray from p') (by omega)
  |lst ds'=>
   have hy0:=hy;unfold Rep at hy;obtain⟨b,ys,rfl,hq',hr'⟩:=hy;cases rv;obtain⟨its',ry,p',_⟩:=I.list hq';have p':=p'.isList;by_cases hab:a=b
   ·subst hab;have e:eqD (.lst ds) (.lst ds')=true:=zB I _ _ (.ref a) (by unfold Rep;exact⟨a,xs,rfl,hq,hr⟩) hy0;rw[e];exact iO _
   ·have hd:dpt (.lst ds)=oe ds+1:=by rw[dpt]
    have hd':dpt (.lst ds')=oe ds'+1:=by rw[dpt]
    by_cases hl:its.length=its'.length
    ·have q:=SeqAt.RcAt.lists (A:=A) (e:=eAt ds ds') p p' (by simpa using hl) (by omega) λj h1 h2=>by have z:=tX I ds ds' xs ys its its' A.in1 hr hr' rx ry (by show A.units+1+oe ds+oe ds'<cLine;omega) j (by simpa using h1) (by simpa using h2);simpa using z
     rw[uP (by rw[mE hr,rx.length];simp) (by rw[mE hr',ry.length,<- hl];simp)]at q;exact iu hab (by unfold eqD;exact q)
    ·have e:eqD (.lst ds) (.lst ds')=false:=by unfold eqD;exact zA (by rw[mE hr,mE hr',rx.length,ry.length];exact hl)
     rw[e];exact iu hab (SeqAt.RcAt.lists_lengths p p' (by simpa using hl) (by omega))
 |.non,d',x,y,u,v,A,hx,hy,ru,rv,hu=>by
  unfold Rep at hx;subst hx;cases d' with
  |tup ds'=>unfold Rep at hy;obtain⟨b,ys,rfl,hq',hr'⟩:=hy;cases rv;cases ru;obtain⟨its',ry,p',_⟩:=I.tuple hq';exact SeqAt.EqAt.none_tuple (show s.heap.IsTuple b its'.toArray from p') (by omega)
  |lst ds'=>unfold Rep at hy;obtain⟨b,ys,rfl,hq',hr'⟩:=hy;cases rv;cases ru;obtain⟨its',ry,p',_⟩:=I.list hq';exact SeqAt.EqAt.none_list p'.isList (by omega)
  |_=>unfold Rep at hy;subst hy;exact zr ru rv rfl rfl
 |.bl c,d',x,y,u,v,A,hx,hy,ru,rv,hu=>by
  unfold Rep at hx;subst hx;cases d' with
  |tup ds'=>unfold Rep at hy;obtain⟨b,ys,rfl,hq',hr'⟩:=hy;cases rv;cases ru;obtain⟨its',ry,p',_⟩:=I.tuple hq';exact SeqAt.EqAt.bool_tuple c (show s.heap.IsTuple b its'.toArray from p') (by omega)
  |lst ds'=>unfold Rep at hy;obtain⟨b,ys,rfl,hq',hr'⟩:=hy;cases rv;cases ru;obtain⟨its',ry,p',_⟩:=I.list hq';exact SeqAt.EqAt.bool_list c p'.isList (by omega)
  |_=>unfold Rep at hy;subst hy;exact zr ru rv rfl rfl
 |.int c,d',x,y,u,v,A,hx,hy,ru,rv,hu=>by
  unfold Rep at hx;subst hx;cases d' with
  |tup ds'=>unfold Rep at hy;obtain⟨b,ys,rfl,hq',hr'⟩:=hy;cases rv;obtain⟨t,rfl⟩:=ru;obtain⟨its',ry,p',_⟩:=I.tuple hq';exact SeqAt.EqAt.int_tuple c t (show s.heap.IsTuple b its'.toArray from p') (by omega)
  |lst ds'=>unfold Rep at hy;obtain⟨b,ys,rfl,hq',hr'⟩:=hy;cases rv;obtain⟨t,rfl⟩:=ru;obtain⟨its',ry,p',_⟩:=I.list hq';exact SeqAt.EqAt.int_list c t p'.isList (by omega)
  |_=>unfold Rep at hy;subst hy;exact zr ru rv rfl rfl
 |.str c,d',x,y,u,v,A,hx,hy,ru,rv,hu=>by
  unfold Rep at hx;subst hx;cases d' with
  |tup ds'=>unfold Rep at hy;obtain⟨b,ys,rfl,hq',hr'⟩:=hy;cases rv;obtain⟨t,rfl⟩:=ru;obtain⟨its',ry,p',_⟩:=I.tuple hq';exact SeqAt.EqAt.str_tuple c t (show s.heap.IsTuple b its'.toArray from p') (by omega)
  |lst ds'=>unfold Rep at hy;obtain⟨b,ys,rfl,hq',hr'⟩:=hy;cases rv;obtain⟨t,rfl⟩:=ru;obtain⟨its',ry,p',_⟩:=I.list hq';exact SeqAt.EqAt.str_list c t p'.isList (by omega)
  |_=>unfold Rep at hy;subst hy;exact zr ru rv rfl rfl
theorem tX(I:Inv X pins σ H s):∀(ds ds':List Dq) (xs ys:List V) (us vs:List aa) (A:ar),mB X.K H ds xs->mB X.K H ds' ys->Vals xs us->Vals ys vs->A.units+oe ds+oe ds'<cLine->
  ∀(j:Nat) (h1:j<us.length) (h2:j<vs.length),gK A s us[j] vs[j] (eAt ds ds' j)
 |[],ds',xs,ys,us,vs,A,hx,hy,ru,rv,hu,j,h1,h2=>by
  have:=mE hx;have:=ru.length;simp only[eA]at *
  omega
 |d::ds,[],xs,ys,us,vs,A,hx,hy,ru,rv,hu,j,h1,h2=>by
  have:=mE hy;have:=rv.length;simp only[eA]at *
  omega
 |d::ds,d'::ds',xs,ys,us,vs,A,hx,hy,ru,rv,hu,j,h1,h2=>by
  unfold mB at hx hy;obtain⟨x,xr,rfl,hx1,hx2⟩:=hx;obtain⟨y,yr,rfl,hy1,hy2⟩:=hy;have e1:oe (d::ds)=max (dpt d) (oe ds):=by rw[oe]
  have e2:oe (d'::ds')=max (dpt d') (oe ds'):=by rw[oe]
  cases ru with
  |cons r1 r2=>
   cases rv with
   |cons q1 q2=>
    cases j with
    |zero=>exact Pg I d d' x y _ _ A hx1 hy1 r1 q1 (by omega)
    |succ j=>exact tX I ds ds' xr yr _ _ A hx2 hy2 r2 q2 (by omega) j (by simpa using h1) (by simpa using h2)
end
def Dn:Dq->Dq->Bool
 |.tup _,.tup _=>true
 |.lst _,.lst _=>true
 |_,_=>false
def EW(K:aj)(neg:Bool):R2:=λx y H Q=>∃d d',Rep K H d x/\Rep K H d' y/\Dn d d'=true/\dpt d<=20/\dpt d'<=20/\Q (.bl (if neg then !eqD d d' else eqD d d')) H
theorem Ph(hu:X.A.units+64<cLine):OpR X (compareOp .Eq) (EW X.K false):=by
 intro pins s σ H x y u v Q I ru rv h;obtain⟨d,d',hx,hy,hd,h1,h2,q⟩:=h;cases d with
 |tup ds=>
  cases d' with
  |tup ds'=>
   have hd1:dpt (.tup ds)=oe ds+1:=by rw[dpt]
   have hd2:dpt (.tup ds')=oe ds'+1:=by rw[dpt]
   unfold Rep at hx hy;obtain⟨a,xs,rfl,hq,hr⟩:=hx;obtain⟨b,ys,rfl,hq',hr'⟩:=hy;cases ru;cases rv;obtain⟨its,rx,p,_⟩:=I.tuple hq;obtain⟨its',ry,p',_⟩:=I.tuple hq';refine SeqAt.eq_tupleAt (e:=eAt ds ds') (show s.heap.IsTuple a its.toArray from p) (show s.heap.IsTuple b its'.toArray from p') (by omega) (λj h1 h2=>?_) ?_
   ·have z:=tX I ds ds' xs ys its its' X.A.in1 hr hr' rx ry (by show X.A.units+1+oe ds+oe ds'<cLine;omega) j (by simpa using h1) (by simpa using h2);simpa using z
   ·rw[tW (by rw[mE hr,rx.length];simp) (by rw[mE hr',ry.length];simp)];unfold eqD at q;exact ng I q rfl
  |_=>exact nomatch hd
 |lst ds=>
  cases d' with
  |lst ds'=>
   have hd1:dpt (.lst ds)=oe ds+1:=by rw[dpt]
   have hd2:dpt (.lst ds')=oe ds'+1:=by rw[dpt]
   unfold Rep at hx hy;obtain⟨a,xs,rfl,hq,hr⟩:=hx;obtain⟨b,ys,rfl,hq',hr'⟩:=hy;cases ru;cases rv;obtain⟨its,rx,p,_⟩:=I.list hq;obtain⟨its',ry,p',_⟩:=I.list hq';by_cases hl:its.length=its'.length
   ·refine SeqAt.eq_listAt (e:=eAt ds ds') p.isList p'.isList (by simpa using hl) (by omega) (λj h1 h2=>?_) ?_
    ·have z:=tX I ds ds' xs ys its its' X.A.in1 hr hr' rx ry (by show X.A.units+1+oe ds+oe ds'<cLine;omega) j (by simpa using h1) (by simpa using h2);simpa using z
    ·rw[uP (by rw[mE hr,rx.length];simp) (by rw[mE hr',ry.length,<- hl];simp)];unfold eqD at q;exact ng I q rfl
   ·refine SeqAt.eq_list_lengthsAt p.isList p'.isList (by simpa using hl) (by omega) ?_;have e:tV ds ds'=false:=zA (by rw[mE hr,mE hr',rx.length,ry.length];exact hl);unfold eqD at q;rw[e]at q;exact ng I q rfl
  |_=>exact nomatch hd
 |_=>exact nomatch hd
theorem Pi(hu:X.A.units+64<cLine):OpR X (compareOp .NotEq) (EW X.K true):=by
 intro pins s σ H x y u v Q I ru rv h;obtain⟨d,d',hx,hy,hd,h1,h2,q⟩:=h;cases d with
 |tup ds=>
  cases d' with
  |tup ds'=>
   have hd1:dpt (.tup ds)=oe ds+1:=by rw[dpt]
   have hd2:dpt (.tup ds')=oe ds'+1:=by rw[dpt]
   unfold Rep at hx hy;obtain⟨a,xs,rfl,hq,hr⟩:=hx;obtain⟨b,ys,rfl,hq',hr'⟩:=hy;cases ru;cases rv;obtain⟨its,rx,p,_⟩:=I.tuple hq;obtain⟨its',ry,p',_⟩:=I.tuple hq';have w:=SeqAt.RcNeAt.tuples (A:=X.A) (e:=eAt ds ds') (show s.heap.IsTuple a its.toArray from p) (show s.heap.IsTuple b its'.toArray from p') (by omega) (λj h1 h2=>by
    have z:=tX I ds ds' xs ys its its' X.A.in1 hr hr' rx ry (by show X.A.units+1+oe ds+oe ds'<cLine;omega) j (by simpa using h1) (by simpa using h2);simpa using z)
   rw[tW (by rw[mE hr,rx.length];simp) (by rw[mE hr',ry.length];simp)]at w;unfold eqD at q;exact w X.prog X.w X.xe _ (ng I q rfl)
  |_=>exact nomatch hd
 |lst ds=>
  cases d' with
  |lst ds'=>
   have hd1:dpt (.lst ds)=oe ds+1:=by rw[dpt]
   have hd2:dpt (.lst ds')=oe ds'+1:=by rw[dpt]
   unfold Rep at hx hy;obtain⟨a,xs,rfl,hq,hr⟩:=hx;obtain⟨b,ys,rfl,hq',hr'⟩:=hy;cases ru;cases rv;obtain⟨its,rx,p,_⟩:=I.list hq;obtain⟨its',ry,p',_⟩:=I.list hq';by_cases hl:its.length=its'.length
   ·have w:=SeqAt.RcNeAt.lists (A:=X.A) (e:=eAt ds ds') p.isList p'.isList (by simpa using hl) (by omega) (λj h1 h2=>by
     have z:=tX I ds ds' xs ys its its' X.A.in1 hr hr' rx ry (by show X.A.units+1+oe ds+oe ds'<cLine;omega) j (by simpa using h1) (by simpa using h2);simpa using z)
    rw[uP (by rw[mE hr,rx.length];simp) (by rw[mE hr',ry.length,<- hl];simp)]at w;unfold eqD at q;exact w X.prog X.w X.xe _ (ng I q rfl)
   ·have e:tV ds ds'=false:=zA (by rw[mE hr,mE hr',rx.length,ry.length];exact hl);unfold eqD at q;rw[e]at q;exact SeqAt.RcNeAt.lists_lengths p.isList p'.isList (by simpa using hl) (by omega) X.prog X.w X.xe _ (ng I q rfl)
  |_=>exact nomatch hd
 |_=>exact nomatch hd
end
theorem Hm{K:aj}{H:Hp}:∀l:List Str,mB K H (l.map Dq.str) (l.map V.str)
 |[]=>by rw[bS,bS];unfold mB;rfl
 |x::r=>by rw[au,au];unfold mB;exact⟨_,_,rfl,(by unfold Rep;rfl),Hm r⟩
theorem xE:∀l:List Str,oe (l.map Dq.str)=0
 |[]=>by rw[bS,oe]
 |x::r=>by rw[au];unfold oe;rw[xE r];unfold dpt;rfl
inductive StrsAre:List Expr->List V->Prop
 |nil:StrsAre [] []
 |cons {x:Str} {j:Nat} {pos:Pos} {es:List Expr} {vs:List V} (h:StrsAre es vs):StrsAre (.Constant (.str x) j pos::es) (.str x::vs)
theorem rQ{n:Nat}(h:n<=1000):n<=sizeLine:=eJ (vt h)
theorem mI.new{p:Addr}{H H1:Hp}(x:mI H H1)(hp:H1 p=none)(o:HO):mI H (upd H1 p o):=λb u e=>by have z:=x b u e;rw[mG (ph z hp)];exact z
structure Hn(K:aj)(x qual:Str)(st:Stmt)(f:Addr)(fd:bg)(T:Addr):Prop where
 ex:∃(oc:aa) (od:Option Addr) (kV doc pm:aa) (an:Option Addr) (cdv ct:aa) (osl:Array (Option aa)),
  fd=eU x qual (sv st) (nu st) (mM st) (.ref T) kV doc pm an cdv ct/\K.lookup f=some ⟨oc,od,.func fd,osl⟩/\W.codeIn K cdv qual=true
 kp:dN K (.ref f)=true
variable{qual:Str}{st:Stmt}{f T:Addr}{fd:bg}{ps:List Str}
section
variable{P:aq}{w:ak}{K:aj}{mg:Str->Option aa}{base:Heap}
theorem Hn.ok{k:Nat}{sp:Sp}(F:Hn K x qual st f fd T)(S:oA N ps (mM st))(len:∀vs H Q E,sp vs H Q E->vs.length=ps.length)
  (hbody:∀(cdv:aa) (A:ar) (outer:List Env) (s:ab) (H:Hp) (vs:List V) (Q:VK) (E:XK),om k (A.deeper (envOfC qual (mM st) s.heap.objs.size f cdv))->sp vs H Q E->
   ∃t,PSs (CY CX0 P w K mg base N qual (mM st) f cdv A outer s H E).nox (nu st) t/\t { nx:=λ_ H'=>Q .non H',rt:=Q } (L2.start N vs) H):qU P w K mg base CX0 (k+1) f fd ps sp:=by
 obtain⟨oc,od,kV,doc,pm,an,cdv,ct,osl,rfl,lk,hcd⟩:=F.ex;refine Ob lk hcd S len λA outer s H vs Q E hr hsp=>?_;obtain⟨t,h,q⟩:=hbody cdv A outer s H vs Q E hr hsp;exact⟨t,h.nox,q⟩
end
theorem Hn.binds{K:aj}{ds:List aa}{o:Obj}{items:Array aa}{n:Nat}(F:Hn K x qual st f fd T)(ho:K.lookup T=some o)(hs:o.data=.seq items n)
  (h:∀(kV doc pm:aa) (an:Option Addr) (cdv ct:aa) (us:List aa),us.length=ps.length - ds.length->∃k,bindArgs (eU x qual (sv st) (nu st) (mM st) (.ref T) kV doc pm an cdv ct) ⟨us,[]⟩=seqItems? (.ref T)>>=k/\k (some items)=pure (ps.zip (us++ds))):Binds K fd ps ds:=by
 obtain⟨oc,od,kV,doc,pm,an,cdv,ct,osl,rfl,lk,hcd⟩:=F.ex;intro s us KX hl;obtain⟨k,h1,h2⟩:=h kV doc pm an cdv ct us (by rw[aB]at hl;omega);exact BindsTo.of_defaults (k:=k) rfl (KX _ _ ho) hs h1 h2
section
variable{X:Cx}
theorem EX:OpR X (binaryOp .Mult) (λx y H Q=>∃z n,x=.str z/\y=.int n/\MulOk z n/\Q (.str (fR z n)) H):=by intro pins s σ H x y v u Q I rx ry h;obtain⟨z,n,rfl,rfl,hm,q⟩:=h;obtain⟨t,rfl⟩:=rx;obtain⟨t',rfl⟩:=ry;exact SB.mul hm λt2 k=>⟨.str _,H,I.tok _,⟨t2,rfl⟩,q⟩
end
section
variable{X:Cx}(K:aj)
theorem Je(hK:X.K=K:=by rfl):IxR X (G6 K):=by subst hK;exact BU
theorem Do(hl:PE X l tl)(hK:X.K=K:=by rfl):PI X tg l (IB K tl):=by subst hK;exact LC hl
theorem Ma(hl:PE X l tl)(hK:X.K=K:=by rfl):PI X tg l (OP K tl):=by subst hK;exact OQ hl
theorem Mb{es:List Expr}{k:Nat}{t:TGs}{n:Nat}(hc:X.calm=true)(h:PGs X es t)(hn:(assignEach es X.env).length=n:=by rfl)(hst:(assignEach es X.env).findIdx? (·.1)=none:=by rfl)(hK:X.K=K:=by rfl):PG X (.Tuple es k pos) (OL K n t):=by subst hK;exact OM hc h hn hst
variable{o e:Expr}{es:List Expr}{to:TE}{t:TA}{name:Str}{apos cpos:Pos}{T id:String}{r:V->List V->Hp->VK->Prop}
theorem Jf(pa:jE T)(slot:Slot T name id)(hty:typeOf (.builtin id)=pure (.type "method_descriptor"))(hm:MtR X id r)(ho:PE X o to)(ha:PA X (e::es) t)
  (hbase:attributeBase o name X.env (eval o X.env)=eval o X.env:=by rfl)
  (hfew:((backTo cpos (starEach (e::es) X.env)).all (λx=>!x.1)&&(backToKw cpos (keywordEach [] X.env)).all (λx=>x.1.isSome)
   && decide ((e::es).length+([]:List df).length+(if ([]:List df).isEmpty then 0 else 1)<30))=true:=by rfl)
  (hline:(apos.endLine==cpos.line)=true:=by rfl) (hs:starEach (e::es) X.env=(false,eval e X.env)::starEach es X.env:=by rfl) (hplain:(backTo cpos (starEach es X.env)).any (·.1)=false:=by rfl) (hK:X.K=K:=by rfl):
  PE X (.Call (.Attribute o name apos) (e::es) [] cpos) (tBM K T r to t):=by subst hK;exact Te pa slot hty hm ho ha hbase hfew hline hs hplain
end
end L3
namespace L2
open PySem PySem.Spec PyProof.Rows
variable{a:Addr}
section
variable{X:Cx}{pins:List (Addr×Obj)}{σ:St}{H:Hp}{s:ab}
theorem sZ{H:Hp}{c:Addr}{u v:HO}(e:H a=some u)(q:H c=some v)(d:u≠v)(n:HO):upd H a n c=some v:=by rw[mG (λz=>by subst z;rw[e]at q;exact d (bQ q))];exact q
theorem Inv.freeze{kvs:List (Key×V)}(I:Inv X pins σ H s)(e:H a=some (.dK kvs)):∃o,Inv X pins σ (upd H a (.frz o (.dK kvs))) s:=by
 obtain⟨z,y,vs,r,ob,es,ep,e1,c⟩:=(show nS X.prog X.w H s.heap a (.dK kvs) from I.hok a _ e);refine⟨ob,?_⟩;have I':=I.step (H':=upd H a (.frz ob (.dK kvs))) (h':=s.heap) (g':=s.gens) (d':=s.drawn) (t':=s.toks) (ch:=[]) (λ_ z=>nomatch z) (λb o _ _ _ q _=>q) (λb o _ _ _ q _=>⟨o.slots,q⟩)
  (λb o _ _ n=>by rw[mG (λz=>by subst z;rw[e]at n;cases n)];exact n) (λb o _ q=>⟨o,q⟩) (λb xs q=>sZ e q (λz=>nomatch z) _) (λb o u q=>sZ e q (λz=>nomatch z) _)
  (λb ps q=>⟨#[],by rw[sZ e q (λz=>nomatch z) _];simp⟩) (λm q=>q) ?_ I.bare
 ·obtain⟨h,g,d,t,os⟩:=s;exact I'
 ·intro b u q;have st:∀{b:Addr} {u:HO},nS X.prog X.w H s.heap b u->nS X.prog X.w (upd H a (.frz ob (.dK kvs))) s.heap b u:=λ{b u} x=>x.stay (λ_ _ _ q=>q) (λc q=>sZ e q (λz=>nomatch z) _) λc xs q=>sZ e q (λz=>nomatch z) _
  by_cases hb:b=a
  ·subst hb;rw[mF]at q;cases q;exact⟨e1,st (I.hok b _ e)⟩
  ·rw[mG hb]at q;exact st (I.hok b u q)
theorem PE.ghost{e:Expr}{t:TE}(h:PE X e t):PE X e (λσ H Q=>t σ H λx H1=>Q x H1\/∃a kvs,H1 a=some (.dK kvs)/\∀o,Q x (upd H1 a (.frz o (.dK kvs)))):=λpins s σ H Q I hq=>
 thn (h pins s σ H _ I hq) λu s1 ⟨x,H1,I1,r1,q1⟩=>by
  rcases q1 with q|⟨a,kvs,e,q⟩
  ·exact⟨x,H1,I1,r1,q⟩
  ·obtain⟨o,I2⟩:=I1.freeze e;exact⟨x,_,I2,r1,q o⟩
end
end L2
namespace L4
open PySem PySem.Spec PyProof.Rows L2 L3
abbrev St:=L2.St
inductive D where
 |non|bl (b:Bool)|int (i:Int)|str (x:Str)
 |tup (ds:List D)|lst (ds:List D)
 |fzl (ds:List D)
 |obj (c:Nat) (ns:List Str) (ds:List D)
 |dic (ks:List Key) (ds:List D)
structure Bg where
 K:aj
 ca:Nat->Addr
mutual
def Rep(G:Bg)(H:Hp):D->V->Prop
 |.non,v=>v=.non
 |.bl b,v=>v=.bl b
 |.int i,v=>v=.int i
 |.str x,v=>v=.str x
 |.tup ds,v=>∃a xs,v=.ref a/\SqT G.K H a xs/\mB G H ds xs
 |.lst ds,v=>∃a xs,v=.ref a/\H a=some (.lst xs)/\mB G H ds xs
 |.fzl ds,v=>∃a xs,v=.ref a/\SqL G.K H a xs/\mB G H ds xs
 |.obj c ns ds,v=>∃a dx xs,v=.ref a/\H a=some (.ins (G.ca c) dx (ns.zip xs))/\ns.length=xs.length/\mB G H ds xs
 |.dic ks ds,v=>∃a o xs,v=.ref a/\H a=some (.frz o (.dK (ks.zip xs)))/\ks.length=xs.length/\mB G H ds xs
def mB(G:Bg)(H:Hp):List D->List V->Prop
 |[],xs=>xs=[]
 |d::ds,xs=>∃v r,xs=v::r/\Rep G H d v/\mB G H ds r
end
variable{H':Hp}{a:Addr}{xs:List V}
theorem SqT.mono{K:aj}{H:Hp}(e:mI H H')(h:SqT K H a xs):SqT K H' a xs:=by
 rcases h with (h|⟨o,h⟩)|h
 ·exact .inl (.inl (e _ _ h))
 ·exact .inl (.inr ⟨o,e _ _ h⟩)
 ·exact .inr h
mutual
theorem Rep.mono{G:Bg}{H H':Hp}(e:mI H H'):∀(d:D) (v:V),Rep G H d v->Rep G H' d v
 |.non,v,h=>by unfold Rep at h ⊢;exact h
 |.bl b,v,h=>by unfold Rep at h ⊢;exact h
 |.int i,v,h=>by unfold Rep at h ⊢;exact h
 |.str x,v,h=>by unfold Rep at h ⊢;exact h
 |.tup ds,v,h=>by unfold Rep at h ⊢;obtain⟨a,xs,rfl,h1,h2⟩:=h;exact⟨a,xs,rfl,SqT.mono e h1,mB.mono e ds xs h2⟩
 |.lst ds,v,h=>by unfold Rep at h ⊢;obtain⟨a,xs,rfl,h1,h2⟩:=h;exact⟨a,xs,rfl,e _ _ h1,mB.mono e ds xs h2⟩
 |.fzl ds,v,h=>by unfold Rep at h ⊢;obtain⟨a,xs,rfl,h1,h2⟩:=h;exact⟨a,xs,rfl,e.seq h1,mB.mono e ds xs h2⟩
 |.obj c ns ds,v,h=>by unfold Rep at h ⊢;obtain⟨a,dx,xs,rfl,h1,h2,h3⟩:=h;exact⟨a,dx,xs,rfl,e _ _ h1,h2,mB.mono e ds xs h3⟩
 |.dic ks ds,v,h=>by unfold Rep at h ⊢;obtain⟨a,o,xs,rfl,h1,h2,h3⟩:=h;exact⟨a,o,xs,rfl,e _ _ h1,h2,mB.mono e ds xs h3⟩
theorem mB.mono{G:Bg}{H H':Hp}(e:mI H H'):∀(ds:List D) (xs:List V),mB G H ds xs->mB G H' ds xs
 |[],xs,h=>by unfold mB at h ⊢;exact h
 |d::ds,xs,h=>by unfold mB at h ⊢;obtain⟨v,r,rfl,h1,h2⟩:=h;exact⟨v,r,rfl,Rep.mono e d v h1,mB.mono e ds r h2⟩
end
variable{d:D}{ds:List D}
section
variable{G:Bg}{H:Hp}
theorem mV:mB G H [] []:=by unfold mB;rfl
theorem mW{v:V}(h:Rep G H d v)(r:mB G H ds xs):mB G H (d::ds) (v::xs):=by unfold mB;exact⟨v,xs,rfl,h,r⟩
theorem mE:∀{ds:List D} {xs:List V},mB G H ds xs->ds.length=xs.length
 |[],xs,h=>by unfold mB at h;subst h;rfl
 |d::ds,xs,h=>by unfold mB at h;obtain⟨v,r,rfl,_,h2⟩:=h;rw[aC,aC,mE h2]
theorem oX:∀{ds es:List D} {xs ys:List V},mB G H ds xs->mB G H es ys->mB G H (ds++es) (xs++ys)
 |[],es,xs,ys,h,h'=>by unfold mB at h;subst h;exact h'
 |d::ds,es,xs,ys,h,h'=>by unfold mB at h;obtain⟨v,r,rfl,h1,h2⟩:=h;exact mW h1 (oX h2 h')
theorem pj:∀{ds:List D} {xs:List V} {i:Nat} {d:D},mB G H ds xs->ds[i]?=some d->∃v,xs[i]?=some v/\Rep G H d v
 |[],xs,i,d,h,e=>by simp at e
 |d'::ds,xs,i,d,h,e=>by
  unfold mB at h;obtain⟨v,r,rfl,h1,h2⟩:=h;cases i with
  |zero=>simp at e;subst e;exact⟨v,rfl,h1⟩
  |succ i=>simpa using pj (i:=i) (d:=d) h2 (by simpa using e)
theorem Bd:∀{ds:List D} {xs:List V} (n:Nat),mB G H ds xs->mB G H (ds.drop n) (xs.drop n)
 |ds,xs,0,h=>h
 |[],xs,n+1,h=>by unfold mB at h;subst h;exact mV
 |d::ds,xs,n+1,h=>by unfold mB at h;obtain⟨v,r,rfl,h1,h2⟩:=h;exact Bd n h2
theorem Be:∀{ds:List D} {xs:List V} (n:Nat),mB G H ds xs->mB G H (ds.take n) (xs.take n)
 |ds,xs,0,h=>mV
 |[],xs,n+1,h=>by unfold mB at h;subst h;exact mV
 |d::ds,xs,n+1,h=>by unfold mB at h;obtain⟨v,r,rfl,h1,h2⟩:=h;exact mW h1 (Be n h2)
theorem vv(h:SqT G.K H a xs)(r:mB G H ds xs):Rep G H (.tup ds) (.ref a):=by unfold Rep;exact⟨a,xs,rfl,h,r⟩
theorem sy(h:H a=some (.lst xs))(r:mB G H ds xs):Rep G H (.lst ds) (.ref a):=by unfold Rep;exact⟨a,xs,rfl,h,r⟩
theorem pd(i:Int):Rep G H (.int i) (.int i):=by unfold Rep;rfl
theorem o9(i:Bool):Rep G H (.bl i) (.bl i):=by unfold Rep;rfl
theorem rl(i:Str):Rep G H (.str i) (.str i):=by unfold Rep;rfl
theorem wG:Rep G H .non .non:=by unfold Rep;rfl
end
inductive Sl where
 |un
 |im (d:D)
 |ls (ds:List D)
 |pm (ds:List D)
 |dk (ks:List Key) (ds:List D)
 |ob (c:Nat) (ns:List Str) (ds:List D)
def Sl.own:Sl->Bool
 |.ls _=>true
 |.pm _=>true
 |.dk _ _=>true
 |.ob _ _ _=>true
 |_=>false
structure Fr where
 B0:Hp
 B:Hp
 A:List Addr
def v5(G:Bg)(F:Fr)(H0 H:Hp)(o:Option V):Sl->Prop
 |.un=>True
 |.im d=>∃v,o=some v/\Rep G H0 d v
 |.ls ds=>∃a xs,o=some (.ref a)/\H a=some (.lst xs)/\H0 a=none/\F.B a=none/\mB G H0 ds xs
 |.pm ds=>∃a xs,o=some (.ref a)/\H a=some (.lst xs)/\H0 a=none/\a∈F.A/\mB G H0 ds xs
 |.dk ks ds=>∃a xs,o=some (.ref a)/\H a=some (.dK (ks.zip xs))/\H0 a=none/\F.B a=none/\ks.length=xs.length/\mB G H0 ds xs
 |.ob c ns ds=>∃a dx xs,o=some (.ref a)/\H a=some (.ins (G.ca c) dx (ns.zip xs))/\H0 a=none/\a∈F.A/\ns.length=xs.length/\mB G H0 ds xs
structure mJ(G:Bg)(F:Fr)(σ:St)(ρ:List Sl)(H0 H:Hp):Prop where
 sub:mI H0 H
 g0:mI F.B0 H0
 keep:∀b o,F.B b=some o->b∉F.A->H b=some o
 fr:∀b o,H0 b=some o->F.B0 b=some o\/F.B b=none
 am:∀a∈F.A,∃o,H a=some o
 len:σ.length=ρ.length
 sl:∀(i:Nat) (s:Sl),ρ[i]?=some s->v5 G F H0 H (σ[i]?).join s
 ap:∀(i j:Nat) (s t:Sl) (a:Addr),i≠j->ρ[i]?=some s->ρ[j]?=some t->s.own=true->t.own=true->(σ[i]?).join=some (.ref a)->(σ[j]?).join=some (.ref a)->False
variable{G:Bg}{F:Fr}{H0:Hp}
theorem v5.at{H:Hp}{o:Option V}{s:Sl}(h:v5 G F H0 H o s)(e:s.own=true):∃a u,o=some (.ref a)/\H a=some u/\H0 a=none/\(F.B a=none\/a∈F.A):=by
 cases s with
 |un=>cases e
 |im d=>cases e
 |ls ds=>obtain⟨a,xs,h1,h2,h3,h4,_⟩:=h;exact⟨a,_,h1,h2,h3,.inl h4⟩
 |pm ds=>obtain⟨a,xs,h1,h2,h3,h4,_⟩:=h;exact⟨a,_,h1,h2,h3,.inr h4⟩
 |dk ks ds=>obtain⟨a,xs,h1,h2,h3,h4,_⟩:=h;exact⟨a,_,h1,h2,h3,.inl h4⟩
 |ob c ns ds=>obtain⟨a,dx,xs,h1,h2,h3,h4,_⟩:=h;exact⟨a,_,h1,h2,h3,.inr h4⟩
variable{H0':Hp}
theorem v5.grow{H:Hp}{o:Option V}{s:Sl}(h:v5 G F H0 H o s)(h0:mI H0 H0')(hk:∀a u,o=some (.ref a)->s.own=true->H a=some u->H' a=some u)
  (hn:∀a u,o=some (.ref a)->s.own=true->H a=some u->H0 a=none->H0' a=none):v5 G F H0' H' o s:=by
 cases s with
 |un=>trivial
 |im d=>obtain⟨v,h1,h2⟩:=h;exact⟨v,h1,Rep.mono h0 _ _ h2⟩
 |ls ds=>obtain⟨a,xs,h1,h2,h3,h4,h5⟩:=h;exact⟨a,xs,h1,hk _ _ h1 rfl h2,hn _ _ h1 rfl h2 h3,h4,mB.mono h0 _ _ h5⟩
 |pm ds=>obtain⟨a,xs,h1,h2,h3,h4,h5⟩:=h;exact⟨a,xs,h1,hk _ _ h1 rfl h2,hn _ _ h1 rfl h2 h3,h4,mB.mono h0 _ _ h5⟩
 |dk ks ds=>obtain⟨a,xs,h1,h2,h3,h4,h5,h6⟩:=h;exact⟨a,xs,h1,hk _ _ h1 rfl h2,hn _ _ h1 rfl h2 h3,h4,h5,mB.mono h0 _ _ h6⟩
 |ob c ns ds=>obtain⟨a,dx,xs,h1,h2,h3,h4,h5,h6⟩:=h;exact⟨a,dx,xs,h1,hk _ _ h1 rfl h2,hn _ _ h1 rfl h2 h3,h4,h5,mB.mono h0 _ _ h6⟩
variable{i j:Nat}
section
variable{G:Bg}{F:Fr}{σ:St}{ρ:List Sl}{H0 H H0' H':Hp}
theorem mJ.bNone(R:mJ G F σ ρ H0 H){b:Addr}(h:H b=none):F.B b=none:=by
 cases e:F.B b with
 |none=>rfl
 |some o=>
  by_cases ha:b∈F.A
  ·obtain⟨xs,q⟩:=R.am b ha;rw[q]at h;cases h
  ·have q:=R.keep b o e ha;rw[q]at h;cases h
theorem mJ.grow(R:mJ G F σ ρ H0 H)(hs:mI H H')(h0:mI H0 H0')(sub':mI H0' H')(hf:∀b o,H0' b=some o->H0 b=some o\/H b=none):mJ G F σ ρ H0' H' where
 sub:=sub'
 g0:=R.g0.trans h0
 keep:=λb o e n=>hs _ _ (R.keep b o e n)
 fr:=λb o e=>by
  rcases hf b o e with q|q
  ·exact R.fr b o q
  ·exact .inr (R.bNone q)
 am:=λa ha=>let ⟨xs,q⟩:=R.am a ha;⟨xs,hs _ _ q⟩
 len:=R.len
 sl:=λi s e=>(R.sl i s e).grow h0 (λa u _ _ q=>hs _ _ q) λa u _ _ q q0=>by
  cases z:H0' a with
  |none=>rfl
  |some o=>
   rcases hf a o z with y|y
   ·rw[y]at q0;cases q0
   ·rw[y]at q;cases q
 ap:=R.ap
theorem mL{H:Hp}{p:Addr}(hp:H p=none)(o:HO):mI H (upd H p o):=mI.new (mI.refl H) hp o
theorem mJ.h0none(R:mJ G F σ ρ H0 H){p:Addr}(hp:H p=none):H0 p=none:=by
 cases e:H0 p with
 |none=>rfl
 |some o=>have:=R.sub _ _ e;rw[this]at hp;cases hp
theorem Jg{H0 H:Hp}(s:mI H0 H)(p:Addr)(o:HO):mI (upd H0 p o) (upd H p o):=λb u e=>by
 by_cases hb:b=p
 ·subst hb;rw[mF]at e ⊢;exact e
 ·rw[mG hb]at e ⊢;exact s _ _ e
theorem mJ.newIm(R:mJ G F σ ρ H0 H){p:Addr}(hp:H p=none)(o:HO):mJ G F σ ρ (upd H0 p o) (upd H p o):=
 R.grow (mL hp o) (mL (R.h0none hp) o) (Jg R.sub p o) λb u e=>by
  by_cases hb:b=p
  ·subst hb;exact .inr hp
  ·rw[mG hb]at e;exact .inl e
theorem mJ.newOwn(R:mJ G F σ ρ H0 H){p:Addr}(hp:H p=none)(o:HO):mJ G F σ ρ H0 (upd H p o):=
 R.grow (mL hp o) (mI.refl _) (λb u e=>by rw[mG (ph (R.sub _ _ e) hp)];exact R.sub _ _ e) λb u e=>.inl e
def Apart(σ:St)(ρ:List Sl)(p:Addr):Prop:=∀(i:Nat) (s:Sl),ρ[i]?=some s->s.own=true->(σ[i]?).join≠some (.ref p)
theorem mJ.apart(R:mJ G F σ ρ H0 H){p:Addr}(hp:H p=none):Apart σ ρ p:=λi s e so z=>by obtain⟨a,u,h1,h2,_⟩:=(R.sl i s e).at so;rw[z]at h1;cases h1;rw[hp]at h2;cases h2
theorem mJ.freeze(R:mJ G F σ ρ H0 H){p:Addr}{o:HO}(hp:H p=some o)(h0:H0 p=none)(hb:F.B p=none)(ap:Apart σ ρ p):mJ G F σ ρ (upd H0 p o) H where
 sub:=λb u e=>by
  by_cases hb:b=p
  ·subst hb;rw[mF]at e;cases e;exact hp
  ·rw[mG hb]at e;exact R.sub _ _ e
 g0:=R.g0.trans (mL h0 o)
 keep:=R.keep
 fr:=λb u e=>by
  by_cases hb':b=p
  ·subst hb';exact .inr hb
  ·rw[mG hb']at e;exact R.fr _ _ e
 am:=R.am
 len:=R.len
 sl:=λi s e=>(R.sl i s e).grow (mL h0 o) (λa u _ _ q=>q) λa u z so q q0=>by rw[mG (λy=>ap i s e so (by rw[z,y]))];exact q0
 ap:=R.ap
theorem Dp{σ:St}{v:Option V}(hi:i<σ.length):((σ.set i v)[j]?).join=if j=i then v else (σ[j]?).join:=by
 rw[br];by_cases h:i=j
 ·subst h;simp[hi]
 ·rw[af h,af (λz=>h z.symm)]
theorem mJ.set(R:mJ G F σ ρ H0 H){v:V}{s:Sl}(hs:v5 G F H0 H (some v) s)(ap:s.own=true->∀a,v=.ref a->∀(j:Nat) (t:Sl),j≠i->ρ[j]?=some t->t.own=true->(σ[j]?).join≠some (.ref a)):
  mJ G F (σ.set i (some v)) (ρ.set i s) H0 H where
 sub:=R.sub
 g0:=R.g0
 keep:=R.keep
 fr:=R.fr
 am:=R.am
 len:=by rw[c5,c5,R.len]
 sl:=λj t e=>by
  rw[br]at e;by_cases h:i=j
  ·subst h;rw[ag rfl]at e;split at e
   ·rename_i hi;cases e;rw[Dp (by rw[R.len];exact hi),ag rfl];exact hs
   ·cases e
  ·rw[af h]at e;have hh:=R.sl j t e;rw[br,af h];exact hh
 ap:=λj k t u a hjk ej ek tj tk vj vk=>by
  have gen:∀{m:Nat} {x:Sl},(ρ.set i s)[m]?=some x->m≠i->ρ[m]?=some x/\((σ.set i (some v))[m]?).join=(σ[m]?).join:=λ{m x} e hm=>by rw[br,af (λz=>hm z.symm)]at e;exact⟨e,by rw[br,af (λz=>hm z.symm)]⟩
  have self:∀{x:Sl},(ρ.set i s)[i]?=some x->x=s/\((σ.set i (some v))[i]?).join=some v:=λ{x} e=>by
   rw[br,ag rfl]at e;split at e
   ·rename_i hi;cases e;exact⟨rfl,by rw[Dp (by rw[R.len];exact hi),ag rfl]⟩
   ·cases e
  by_cases hj:j=i
  ·subst hj;obtain⟨rfl,ev⟩:=self ej;rw[ev]at vj;cases vj;obtain⟨e2,e3⟩:=gen ek (λz=>hjk z.symm);rw[e3]at vk;exact ap tj a rfl k u (λz=>hjk z.symm) e2 tk vk
  ·obtain⟨e2,e3⟩:=gen ej hj;by_cases hk:k=i
   ·subst hk;obtain⟨rfl,ev⟩:=self ek;rw[ev]at vk;cases vk;rw[e3]at vj;exact ap tk a rfl j t hj e2 tj vj
   ·obtain⟨e4,e5⟩:=gen ek hk;rw[e3]at vj;rw[e5]at vk;exact R.ap j k t u a hjk e2 e4 tj tk vj vk
theorem mJ.setIm(R:mJ G F σ ρ H0 H)(i:Nat){v:V}(h:Rep G H0 d v):mJ G F (σ.set i (some v)) (ρ.set i (.im d)) H0 H:=R.set ⟨v,rfl,h⟩ λz=>by cases z
theorem mJ.setLs(R:mJ G F σ ρ H0 H)(i:Nat){p:Addr}(hp:H p=some (.lst xs))(h0:H0 p=none)(hb:F.B p=none)(ap:Apart σ ρ p)(h:mB G H0 ds xs):mJ G F (σ.set i (some (.ref p))) (ρ.set i (.ls ds)) H0 H:=
 R.set ⟨p,xs,rfl,hp,h0,hb,h⟩ λ_ a e j t _ ej tj=>by cases e;exact ap j t ej tj
theorem mJ.mut(R:mJ G F σ ρ H0 H){s s':Sl}{o:HO}(hi:ρ[i]?=some s)(so:s.own=true)(ha:(σ[i]?).join=some (.ref a))(ok:∀H',H' a=some o->v5 G F H0 H' (some (.ref a)) s')
  (so':s'.own=true):mJ G F σ (ρ.set i s') H0 (upd H a o):=by
 obtain⟨a',u,e1,e2,e3,e4⟩:=(R.sl i s hi).at so;rw[ha]at e1;cases e1;exact {
  sub:=λb w e=>by rw[mG (λz=>by rw[z,e3]at e;cases e)];exact R.sub _ _ e
  g0:=R.g0
  keep:=λb w e n=>by
   have nb:b≠a:=λz=>by
    subst z;rcases e4 with q|q
    ·rw[q]at e;cases e
    ·exact n q
   rw[mG nb];exact R.keep b w e n
  fr:=R.fr
  am:=λb hb=>by
   by_cases z:b=a
   ·subst z;exact⟨o,mF⟩
   ·rw[mG z];exact R.am b hb
  len:=by rw[c5];exact R.len
  sl:=λj t e=>by
   rw[br]at e;by_cases h:i=j
   ·subst h;rw[ag rfl]at e;split at e
    ·cases e;rw[ha];exact ok _ mF
    ·cases e
   ·rw[af h]at e;refine(R.sl j t e).grow (mI.refl _) (λb w z to q=>?_) λb w _ _ _ q=>q;rw[mG (λy=>by subst y;exact R.ap j i t s b (λy=>h y.symm) e hi to so z ha)];exact q
  ap:=λj k t u b hjk ej ek tj tk vj vk=>by
   have gen:∀{m:Nat} {x:Sl},(ρ.set i s')[m]?=some x->∃y,ρ[m]?=some y/\(x.own=true->y.own=true):=λ{m x} e=>by
    rw[br]at e;by_cases h:i=m
    ·subst h;exact⟨s,hi,λ_=>so⟩
    ·rw[af h]at e;exact⟨x,e,λq=>q⟩
   obtain⟨y,ey,oy⟩:=gen ej;obtain⟨z,ez,oz⟩:=gen ek;exact R.ap j k y z b hjk ey ez (oy tj) (oz tk) vj vk }
end
abbrev FE:=List Sl->Option (D×List Sl)
abbrev FT:=List Sl->Option (Bool×List Sl)
abbrev FA:=List Sl->Option (List D×List Sl)
def tF(G:Bg)(f:FE):TE:=λσ H Q=>∃F ρ H0 d ρ',mJ G F σ ρ H0 H/\f ρ=some (d,ρ')/\∀v H0' H',mI H0 H0'->mJ G F σ ρ' H0' H'->Rep G H0' d v->Q v H'
def tFT(G:Bg)(f:FT):TT:=λσ H Q=>∃F ρ H0 d ρ',mJ G F σ ρ H0 H/\f ρ=some (d,ρ')/\∀H0' H',mI H0 H0'->mJ G F σ ρ' H0' H'->Q d H'
def tFA(G:Bg)(f:FA):TA:=λσ H Q=>∃F ρ H0 ds ρ',mJ G F σ ρ H0 H/\f ρ=some (ds,ρ')/\∀xs H0' H',mI H0 H0'->mJ G F σ ρ' H0' H'->mB G H0' ds xs->Q xs H'
def tFN(G:Bg)(f:FA):TE:=λσ H Q=>∃F ρ H0 ds ρ',mJ G F σ ρ H0 H/\f ρ=some (ds,ρ')/\∀p xs H0' H',mI H0 H0'->mJ G F σ ρ' H0' H'->H' p=some (.lst xs)->H0' p=none->F.B p=none->Apart σ ρ' p->mB G H0' ds xs->Q (.ref p) H'
variable{X:Cx}{e:Expr}
theorem PE.weak{t t':TE}(h:PE X e t)(w:∀σ H Q,t' σ H Q->t σ H Q):PE X e t':=λpins s σ H Q I hq=>h pins s σ H Q I (w _ _ _ hq)
variable{t':TT}
theorem PT.weak{t:TT}(h:PT X e t)(w:∀σ H Q,t' σ H Q->t σ H Q):PT X e t':=λpins s σ H Q I hq=>h pins s σ H Q I (w _ _ _ hq)
theorem PW.weak{t:TT}(h:PW X e t)(w:∀σ H Q,t' σ H Q->t σ H Q):PW X e t':=λwh pins s σ H Q I hq=>h wh pins s σ H Q I (w _ _ _ hq)
theorem PA.weak{e:List Expr}{t t':TA}(h:PA X e t)(w:∀σ H Q,t' σ H Q->t σ H Q):PA X e t':=λpos pins s σ H Q I hq=>h pos pins s σ H Q I (w _ _ _ hq)
noncomputable def cC(d:D):FE:=λρ=>some (d,ρ)
noncomputable def cV(i:Nat):FE:=λρ=>match ρ[i]? with
 |some (.im d)=>some (d,ρ)
 |_=>none
noncomputable def c1(g:D->Option D) (f:FE):FE:=λρ=>match f ρ with
 |some (d,ρ')=>match g d with
  |some x=>some (x,ρ')
  |none=>none
 |none=>none
noncomputable def c2(g:D->D->Option D) (f f':FE):FE:=λρ=>match f ρ with
 |some (x,ρ1)=>match f' ρ1 with
  |some (y,ρ2)=>match g x y with
   |some z=>some (z,ρ2)
   |none=>none
  |none=>none
 |none=>none
variable{f:FE}{ρ ρ':List Sl}{z:D}
theorem ze{g:D->Option D}(h:c1 g f ρ=some (z,ρ')):∃d,f ρ=some (d,ρ')/\g d=some z:=by
 unfold c1 at h;cases e:f ρ with
 |none=>rw[e]at h;cases h
 |some p=>
  obtain⟨d,ρ1⟩:=p;rw[e]at h;cases e2:g d with
  |none=>simp only[e2]at h;cases h
  |some x=>simp only[e2]at h;cases h;exact⟨d,rfl,e2⟩
variable{f':FE}
theorem zf{g:D->D->Option D}(h:c2 g f f' ρ=some (z,ρ')):∃x y ρ1,f ρ=some (x,ρ1)/\f' ρ1=some (y,ρ')/\g x y=some z:=by
 unfold c2 at h;cases e:f ρ with
 |none=>rw[e]at h;cases h
 |some p=>
  obtain⟨x,ρ1⟩:=p;simp only[e]at h;cases e2:f' ρ1 with
  |none=>simp only[e2]at h;cases h
  |some q=>
   obtain⟨y,ρ2⟩:=q;simp only[e2]at h;cases e3:g x y with
   |none=>simp only[e3]at h;cases h
   |some w=>simp only[e3]at h;cases h;exact⟨x,y,ρ1,rfl,e2,e3⟩
variable{b:Expr}{pos:Pos}{op:dP}{es:List Expr}
section
variable{X:Cx}{G:Bg}
theorem Pj{i j pos}:PE X (.Constant (.int i) j pos) (tF G (cC (.int i))):=PE.weak EE λσ H Q h=>by obtain⟨F,ρ,H0,d,ρ',R,e,k⟩:=h;cases e;exact k _ _ _ (mI.refl _) R (pd i)
theorem Tn{i j pos}:PE X (.Constant (.bool i) j pos) (tF G (cC (.bl i))):=PE.weak SJ λσ H Q h=>by obtain⟨F,ρ,H0,d,ρ',R,e,k⟩:=h;cases e;exact k _ _ _ (mI.refl _) R (o9 i)
theorem Pk{i j pos}:PE X (.Constant (.str i) j pos) (tF G (cC (.str i))):=PE.weak Ir λσ H Q h=>by obtain⟨F,ρ,H0,d,ρ',R,e,k⟩:=h;cases e;exact k _ _ _ (mI.refl _) R (rl i)
theorem Pl{j pos}:PE X (.Constant .none j pos) (tF G (cC .non)):=PE.weak OB λσ H Q h=>by obtain⟨F,ρ,H0,d,ρ',R,e,k⟩:=h;cases e;exact k _ _ _ (mI.refl _) R wG
theorem Mc(h:cV i ρ=some (d,ρ')):ρ[i]?=some (.im d)/\ρ'=ρ:=by
 unfold cV at h;split at h
 ·rename_i e;cases h;exact⟨e,rfl⟩
 ·cases h
theorem px{α:Type}{o:Option (Option α)}{v:α}(h:o.join=some v):o=some (some v):=by
 cases o with
 |none=>cases h
 |some u=>cases u with
  |none=>cases h
  |some w=>cases h;rfl
theorem EY(h:PE X e (tS i)):PE X e (tF G (cV i)):=PE.weak h λσ H Q hh=>by obtain⟨F,ρ,H0,d,ρ',R,e,k⟩:=hh;obtain⟨e1,rfl⟩:=Mc e;obtain⟨v,e2,e3⟩:=R.sl i _ e1;exact⟨v,px e2,k _ _ _ (mI.refl _) R e3⟩
theorem Me{v:V}(h:PE X e (tC v))(r:∀H,Rep G H d v):PE X e (tF G (cC d)):=PE.weak h λσ H Q hh=>by obtain⟨F,ρ,H0,d',ρ',R,e,k⟩:=hh;cases e;exact k _ _ _ (mI.refl _) R (r _)
def OpD(G:Bg)(r:R2)(g:D->D->Option D):Prop:=∀x y z H0 H v u (Q:VK),g x y=some z->mI H0 H->Rep G H0 x v->Rep G H0 y u->(∀w,(∀H0',mI H0 H0'->Rep G H0' z w)->Q w H)->r v u H Q
theorem FX{r:R2}{g:D->D->Option D}(ho:OpD G r g):∀σ H Q,tF G (c2 g f f') σ H Q->tOp r (tF G f) (tF G f') σ H Q:=λσ H Q hh=>by obtain⟨F,ρ,H0,d,ρ',R,e,k⟩:=hh;obtain⟨x,y,ρ1,e1,e2,e3⟩:=zf e;refine⟨F,ρ,H0,x,ρ1,R,e1,λv H1 H1' s1 R1 r1=>⟨F,ρ1,H1,y,ρ',R1,e2,λu H2 H2' s2 R2 r2=>?_⟩⟩;exact ho x y d H2 H2' v u Q e3 R2.sub (Rep.mono s2 _ _ r1) r2 λw hw=>k w H2 H2' (s1.trans s2) R2 (hw _ (mI.refl _))
theorem To{a:Expr}{op:gS}{r:R2}{g:D->D->Option D}(hr:OpR X (binaryOp op) r)(ho:OpD G r g)(ha:PE X a (tF G f))(hb:PE X b (tF G f')):PE X (.BinOp a op b pos) (tF G (c2 g f f')):=PE.weak (IE hr ha hb) (FX ho)
theorem Pm{a:Expr}{r:R2}{g:D->D->Option D}(hr:OpR X (compareOp op) r)(ho:OpD G r g)(ha:PE X a (tF G f))(hb:PE X b (tF G f'))(hm:behindInMarks op b=false):PE X (.Compare a [op] [b] pos) (tF G (c2 g f f')):=PE.weak (LI hr ha hb hm) (FX ho)
theorem Tq{a:Expr}{r:R2}{g:D->D->Option D}(hr:IxR X r)(ho:OpD G r g)(ha:PE X a (tF G f))(hb:PE X b (tF G f'))(hs:BS b):PE X (.Subscript a b pos) (tF G (c2 g f f')):=PE.weak (IR hr ha hb hs) (FX ho)
def cT(f:FE):FT:=λρ=>match f ρ with
 |some (.bl b,ρ')=>some (b,ρ')
 |_=>none
theorem FY{b:Bool}(h:cT f ρ=some (b,ρ')):f ρ=some (.bl b,ρ'):=by
 unfold cT at h;split at h
 ·rename_i e;cases h;exact e
 ·cases h
theorem B7:∀σ H Q,tFT G (cT f) σ H Q->IH (tF G f) σ H Q:=λσ H Q hh=>by obtain⟨F,ρ,H0,d,ρ',R,e,k⟩:=hh;refine⟨F,ρ,H0,_,ρ',R,FY e,λv H0' H' s R' r=>?_⟩;unfold Rep at r;exact⟨d,r,k _ _ s R'⟩
theorem Mg{a:Expr}{r:R2}{g:D->D->Option D}(hr:OpR X (compareOp op) r)(ho:OpD G r g)(ha:PE X a (tF G f))(hb:PE X b (tF G f'))(hm:behindInMarks op b=false):
  PT X (.Compare a [op] [b] pos) (tFT G (cT (c2 g f f'))):=PT.weak (LJ hr ha hb hm) λσ H Q hh=>by
 obtain⟨F,ρ,H0,d,ρ',R,e,k⟩:=B7 σ H Q hh;exact FX ho σ H _ ⟨F,ρ,H0,d,ρ',R,e,k⟩
theorem Mh(h:PE X e (tF G f))(he:∀whole,isTrue e X.env whole=(do let v<-whole;standAt e.pos;holding [v] (truthy v)):=by intro _;rfl):PT X e (tFT G (cT f)):=PT.weak (OD h he) λσ H Q hh=>by obtain⟨F,ρ,H0,d,ρ',R,e,k⟩:=hh;refine⟨F,ρ,H0,_,ρ',R,FY e,λv H0' H' s R' r=>?_⟩;unfold Rep at r;exact⟨d,r,k _ _ s R'⟩
def sA(f:FT):FT:=λρ=>match f ρ with
 |some (b,ρ')=>some (!b,ρ')
 |none=>none
def qW(f g:FT):FT:=λρ=>match f ρ with
 |some (true,ρ')=>g ρ'
 |r=>r
def rb(f g:FT):FT:=λρ=>match f ρ with
 |some (false,ρ')=>g ρ'
 |r=>r
theorem Mi{a:Expr}{f:FT}(h:PT X a (tFT G f)):PT X (.UnaryOp .Not a pos) (tFT G (sA f)):=PT.weak (OG h) λσ H Q hh=>by
 obtain⟨F,ρ,H0,d,ρ',R,e,k⟩:=hh;unfold sA at e;cases e1:f ρ with
 |none=>simp only[e1]at e;cases e
 |some p=>obtain⟨b,ρ1⟩:=p;simp only[e1]at e;cases e;exact⟨F,ρ,H0,b,_,R,e1,λH0' H' s R'=>k _ _ s R'⟩
theorem Pn{f g:FT}:∀σ H Q,tFT G (qW f g) σ H Q->SK (tFT G f) (tFT G g) σ H Q:=λσ H Q hh=>by
 obtain⟨F,ρ,H0,d,ρ',R,e,k⟩:=hh;unfold qW at e;cases e1:f ρ with
 |none=>simp only[e1]at e;cases e
 |some p=>
  obtain⟨b,ρ1⟩:=p;cases b with
  |true=>simp only[e1]at e;exact⟨F,ρ,H0,true,ρ1,R,e1,λH0' H' s R'=>B5 ⟨F,ρ1,H0',d,ρ',R',e,λH2 H2' s2 R2=>k _ _ (s.trans s2) R2⟩⟩
  |false=>simp only[e1]at e;cases e;exact⟨F,ρ,H0,false,_,R,e1,λH0' H' s R'=>B4 (k _ _ s R')⟩
theorem Tr{f g:FT}:∀σ H Q,tFT G (rb f g) σ H Q->tOr (tFT G f) (tFT G g) σ H Q:=λσ H Q hh=>by
 obtain⟨F,ρ,H0,d,ρ',R,e,k⟩:=hh;unfold rb at e;cases e1:f ρ with
 |none=>simp only[e1]at e;cases e
 |some p=>
  obtain⟨b,ρ1⟩:=p;cases b with
  |false=>simp only[e1]at e;exact⟨F,ρ,H0,false,ρ1,R,e1,λH0' H' s R'=>B4 ⟨F,ρ1,H0',d,ρ',R',e,λH2 H2' s2 R2=>k _ _ (s.trans s2) R2⟩⟩
  |true=>simp only[e1]at e;cases e;exact⟨F,ρ,H0,true,_,R,e1,λH0' H' s R'=>B5 (k _ _ s R')⟩
theorem Jh{a:Expr}{f:FT}(h:PT X a (tFT G f)):PW X (.BoolOp .And [a] pos) (tFT G f):=Ly h
theorem Mj{a:Expr}{f:FT}(h:PT X a (tFT G f)):PW X (.BoolOp .Or [a] pos) (tFT G f):=OE h
theorem Ml{a:Expr}{rest:List Expr}{f g:FT}(ha:PT X a (tFT G f))(hb:PW X (.BoolOp .And (b::rest) pos) (tFT G g)):PW X (.BoolOp .And (a::b::rest) pos) (tFT G (qW f g)):=PW.weak (OF ha hb) Pn
theorem Ji{a:Expr}{rest:List Expr}{f g:FT}(ha:PT X a (tFT G f))(hb:PW X (.BoolOp .Or (b::rest) pos) (tFT G g)):PW X (.BoolOp .Or (a::b::rest) pos) (tFT G (rb f g)):=PW.weak (SL ha hb) Tr
def pR(f g:FE):FE:=λρ=>match f ρ with
 |some (.bl true,ρ')=>g ρ'
 |some (.bl false,ρ')=>some (.bl false,ρ')
 |_=>none
def cOr(f g:FE):FE:=λρ=>match f ρ with
 |some (.bl false,ρ')=>g ρ'
 |some (.bl true,ρ')=>some (.bl true,ρ')
 |_=>none
def B8(f:FE):FE:=λρ=>match f ρ with
 |some (.bl b,ρ')=>some (.bl !b,ρ')
 |_=>none
def cIf(c:FT)(f g:FE):FE:=λρ=>match c ρ with
 |some (true,ρ')=>f ρ'
 |some (false,ρ')=>g ρ'
 |none=>none
theorem Po{a:Expr}{op}(h:PE X a (tF G f)):PE X (.BoolOp op [a] pos) (tF G f):=OH h
theorem Dr:(∃ρ1,f ρ=some (.bl true,ρ1))\/(∃ρ1,f ρ=some (.bl false,ρ1))\/(∀b ρ1,f ρ≠some (.bl b,ρ1)):=by
 by_cases h1:∃ρ1,f ρ=some (.bl true,ρ1)
 ·exact .inl h1
 by_cases h2:∃ρ1,f ρ=some (.bl false,ρ1)
 ·exact .inr (.inl h2)
 refine .inr (.inr λb ρ1 z=>?_);cases b with
 |true=>exact h1 ⟨ρ1,z⟩
 |false=>exact h2 ⟨ρ1,z⟩
theorem Ho{g:FE}(h:∀b ρ1,f ρ≠some (.bl b,ρ1)):pR f g ρ=none:=by
 unfold pR;split
 ·rename_i e;exact ai e (h _ _)
 ·rename_i e;exact ai e (h _ _)
 ·rfl
theorem Jj{g:FE}(h:∀b ρ1,f ρ≠some (.bl b,ρ1)):cOr f g ρ=none:=by
 unfold cOr;split
 ·rename_i e;exact ai e (h _ _)
 ·rename_i e;exact ai e (h _ _)
 ·rfl
theorem Pp{a:Expr}{rest:List Expr}{g:FE}(ha:PE X a (tF G f))(hb:PE X (.BoolOp .And (b::rest) pos) (tF G g)):PE X (.BoolOp .And (a::b::rest) pos) (tF G (pR f g)):=PE.weak (OI ha hb) λσ H Q hh=>by
 obtain⟨F,ρ,H0,d,ρ',R,e,k⟩:=hh;rcases Dr (f:=f) (ρ:=ρ)with ⟨ρ1,e1⟩|⟨ρ1,e1⟩|e1
 ·have e':g ρ1=some (d,ρ'):=by unfold pR at e;simp only[e1]at e;exact e
  refine⟨F,ρ,H0,_,ρ1,R,e1,λv H1 H1' s R' r=>?_⟩;unfold Rep at r;refine⟨true,r,?_⟩;exact B5 ⟨F,ρ1,H1,d,ρ',R',e',λv H2 H2' s2 R2 r2=>k _ _ _ (s.trans s2) R2 r2⟩
 ·have e':some (D.bl false,ρ1)=some (d,ρ'):=by unfold pR at e;simp only[e1]at e;exact e
  cases e';refine⟨F,ρ,H0,_,_,R,e1,λv H1 H1' s R' r=>?_⟩;have r':=r;unfold Rep at r';refine⟨false,r',?_⟩;exact B4 (k _ _ _ s R' (o9 false))
 ·rw[Ho e1]at e;cases e
theorem Ts{a:Expr}{rest:List Expr}{g:FE}(ha:PE X a (tF G f))(hb:PE X (.BoolOp .Or (b::rest) pos) (tF G g)):PE X (.BoolOp .Or (a::b::rest) pos) (tF G (cOr f g)):=PE.weak (SO ha hb) λσ H Q hh=>by
 obtain⟨F,ρ,H0,d,ρ',R,e,k⟩:=hh;rcases Dr (f:=f) (ρ:=ρ)with ⟨ρ1,e1⟩|⟨ρ1,e1⟩|e1
 ·have e':some (D.bl true,ρ1)=some (d,ρ'):=by unfold cOr at e;simp only[e1]at e;exact e
  cases e';refine⟨F,ρ,H0,_,_,R,e1,λv H1 H1' s R' r=>?_⟩;unfold Rep at r;refine⟨true,r,?_⟩;exact B5 (k _ _ _ s R' (o9 true))
 ·have e':g ρ1=some (d,ρ'):=by unfold cOr at e;simp only[e1]at e;exact e
  refine⟨F,ρ,H0,_,ρ1,R,e1,λv H1 H1' s R' r=>?_⟩;unfold Rep at r;refine⟨false,r,?_⟩;exact B4 ⟨F,ρ1,H1,d,ρ',R',e',λv H2 H2' s2 R2 r2=>k _ _ _ (s.trans s2) R2 r2⟩
 ·rw[Jj e1]at e;cases e
theorem Pq{a:Expr}(ha:PE X a (tF G f)):PE X (.UnaryOp .Not a pos) (tF G (B8 f)):=PE.weak (OJ ha) λσ H Q hh=>by
 obtain⟨F,ρ,H0,d,ρ',R,e,k⟩:=hh;unfold B8 at e;split at e
 ·rename_i b ρ1 e1;cases e;refine⟨F,ρ,H0,_,_,R,e1,λv H1 H1' s R' r=>?_⟩;unfold Rep at r;exact⟨b,r,k _ _ _ s R' (o9 _)⟩
 ·cases e
theorem Tt{c a:Expr}{h:FT}{g:FE}(hc:PT X c (tFT G h))(ha:PE X a (tF G f))(hb:PE X b (tF G g)):PE X (.IfExp c a b pos) (tF G (cIf h f g)):=PE.weak (Iu hc ha hb) λσ H Q hh=>by
 obtain⟨F,ρ,H0,d,ρ',R,e,k⟩:=hh;unfold cIf at e;cases e1:h ρ with
 |none=>simp only[e1]at e;cases e
 |some p=>
  obtain⟨b,ρ1⟩:=p;refine⟨F,ρ,H0,b,ρ1,R,e1,λH1 H1' s R'=>?_⟩;cases b with
  |true=>simp only[e1]at e;exact B5 ⟨F,ρ1,H1,d,ρ',R',e,λv H2 H2' s2 R2 r2=>k _ _ _ (s.trans s2) R2 r2⟩
  |false=>simp only[e1]at e;exact B4 ⟨F,ρ1,H1,d,ρ',R',e,λv H2 H2' s2 R2 r2=>k _ _ _ (s.trans s2) R2 r2⟩
noncomputable def mw:FA:=λρ=>some ([],ρ)
noncomputable def mi(f:FE) (g:FA):FA:=λρ=>match f ρ with
 |some (d,ρ1)=>match g ρ1 with
  |some (ds,ρ2)=>some (d::ds,ρ2)
  |none=>none
 |none=>none
theorem zC{g:FA}(h:mi f g ρ=some (ds,ρ')):∃d r ρ1,f ρ=some (d,ρ1)/\g ρ1=some (r,ρ')/\ds=d::r:=by
 unfold mi at h;cases e:f ρ with
 |none=>rw[e]at h;cases h
 |some p=>
  obtain⟨x,ρ1⟩:=p;simp only[e]at h;cases e2:g ρ1 with
  |none=>simp only[e2]at h;cases h
  |some q=>obtain⟨y,ρ2⟩:=q;simp only[e2]at h;cases h;exact⟨x,y,ρ1,rfl,e2,rfl⟩
theorem rp:PA X [] (tFA G mw):=PA.weak rP λσ H Q hh=>by obtain⟨F,ρ,H0,d,ρ',R,e,k⟩:=hh;cases e;exact k _ _ _ (mI.refl _) R mV
theorem qe{g:FA}(ha:PE X e (tF G f))(hr:PA X es (tFA G g))(hs:starEach (e::es) X.env=(false,eval e X.env)::starEach es X.env:=by rfl):PA X (e::es) (tFA G (mi f g)):=PA.weak (oH ha hr hs) λσ H Q hh=>by obtain⟨F,ρ,H0,d,ρ',R,e,k⟩:=hh;obtain⟨x,r,ρ1,e1,e2,rfl⟩:=zC e;exact⟨F,ρ,H0,x,ρ1,R,e1,λv H1 H1' s R' rv=>⟨F,ρ1,H1,r,ρ',R',e2,λxs H2 H2' s2 R2 rs=>k _ _ _ (s.trans s2) R2 (mW (Rep.mono s2 _ _ rv) rs)⟩⟩
def nz(g:FA):FE:=λρ=>match g ρ with
 |some (ds,ρ')=>if ds.length<=1000 then some (.tup ds,ρ')else none
 |none=>none
def mK(g:FA):FA:=λρ=>match g ρ with
 |some (ds,ρ')=>if ds.length<=1000 then some (ds,ρ')else none
 |none=>none
theorem Pr{x1}{g:FA}(h:PA X es (tFA G g)):PE X (.Tuple es x1 pos) (tF G (nz g)):=PE.weak (O2 h) λσ H Q hh=>by
 obtain⟨F,ρ,H0,d,ρ',R,e,k⟩:=hh;unfold nz at e;cases e1:g ρ with
 |none=>simp only[e1]at e;cases e
 |some p=>
  obtain⟨ds,ρ1⟩:=p;simp only[e1]at e;split at e
  ·rename_i hl;cases e;refine⟨F,ρ,H0,_,_,R,e1,λxs H1 H1' s R' rs=>⟨by rw[<-mE rs];exact rQ hl,λp hp=>?_⟩⟩;exact k _ _ _ (s.trans (mL (R'.h0none hp) _)) (R'.newIm hp _) (vv (SqT.of mF) (mB.mono (mL (R'.h0none hp) _) _ _ rs))
  ·cases e
theorem Mm{g:FA}(h:PA X es (tFA G g)):PE X (.List es pos) (tFN G (mK g)):=PE.weak (EO h) λσ H Q hh=>by
 obtain⟨F,ρ,H0,d,ρ',R,e,k⟩:=hh;unfold mK at e;cases e1:g ρ with
 |none=>simp only[e1]at e;cases e
 |some p=>
  obtain⟨ds,ρ1⟩:=p;simp only[e1]at e;split at e
  ·rename_i hl;cases e;refine⟨F,ρ,H0,_,_,R,e1,λxs H1 H1' s R' rs=>⟨by rw[<-mE rs];exact rQ hl,λp hp=>?_⟩⟩;exact k _ _ _ _ s (R'.newOwn hp _) mF (R'.h0none hp) (R'.bNone hp) (R'.apart hp) rs
  ·cases e
def cL(g:FA):FE:=λρ=>match g ρ with
 |some (ds,ρ')=>some (.lst ds,ρ')
 |none=>none
theorem Mn{g:FA}(h:cL g ρ=some (d,ρ')):∃ds,g ρ=some (ds,ρ')/\d=.lst ds:=by
 unfold cL at h;cases e:g ρ with
 |none=>simp only[e]at h;cases h
 |some p=>obtain⟨ds,ρ1⟩:=p;simp only[e]at h;cases h;exact⟨ds,rfl,rfl⟩
theorem Tu{g:FA}:∀σ H Q,tF G (cL g) σ H Q->tFN G g σ H Q:=λσ H Q hh=>by obtain⟨F,ρ,H0,d,ρ',R,e,k⟩:=hh;obtain⟨ds,e1,rfl⟩:=Mn e;refine⟨F,ρ,H0,ds,ρ',R,e1,λp xs H1 H1' s R' hp h0 hb ap rs=>?_⟩;exact k _ _ _ (s.trans (mL h0 _)) (R'.freeze hp h0 hb ap) (sy mF (mB.mono (mL h0 _) _ _ rs))
theorem Pt{g:FA}(h:PE X e (tFN G g)):PE X e (tF G (cL g)):=PE.weak h Tu
end
inductive Out where
 |nx (ρ:List Sl)|bk (ρ:List Sl)|ct (ρ:List Sl)
 |rt (d:D) (ρ:List Sl)
 |rn (ds:List D) (ρ:List Sl)
abbrev FS:=List Sl->Option Out
def FZ(G:Bg)(F:Fr)(H0:Hp)(E:Ends):Out->Prop
 |.nx ρ'=>∀σ' H0' H',mI H0 H0'->mJ G F σ' ρ' H0' H'->E.nx σ' H'
 |.bk ρ'=>∀σ' H0' H',mI H0 H0'->mJ G F σ' ρ' H0' H'->E.bk σ' H'
 |.ct ρ'=>∀σ' H0' H',mI H0 H0'->mJ G F σ' ρ' H0' H'->E.ct σ' H'
 |.rt d ρ'=>∀v σ' H0' H',mI H0 H0'->mJ G F σ' ρ' H0' H'->Rep G H0' d v->E.rt v H'
 |.rn ds ρ'=>∀p xs σ' H0' H',mI H0 H0'->mJ G F σ' ρ' H0' H'->H' p=some (.lst xs)->H0' p=none->F.B p=none->Apart σ' ρ' p->mB G H0' ds xs->E.rt (.ref p) H'
def tFS(G:Bg)(f:FS):TS:=λE σ H=>∃F ρ H0 o,mJ G F σ ρ H0 H/\f ρ=some o/\FZ G F H0 E o/\(∀p,E.rt p=E.rt p)
variable{H1:Hp}
theorem FZ.back{E:Ends}{o:Out}(h:FZ G F H0 E o)(s:mI H0 H1):FZ G F H1 E o:=by
 cases o with
 |nx ρ=>exact λσ' H0' H' s' R=>h σ' H0' H' (s.trans s') R
 |bk ρ=>exact λσ' H0' H' s' R=>h σ' H0' H' (s.trans s') R
 |ct ρ=>exact λσ' H0' H' s' R=>h σ' H0' H' (s.trans s') R
 |rt d ρ=>exact λv σ' H0' H' s' R=>h v σ' H0' H' (s.trans s') R
 |rn ds ρ=>exact λp xs σ' H0' H' s' R=>h p xs σ' H0' H' (s.trans s') R
theorem PS.weak{e:Stmt}{t t':TS}(h:PS X e t)(w:∀E σ H,t' E σ H->t E σ H):PS X e t':=λpins s σ H D I hq=>h pins s σ H D I (w _ _ _ hq)
theorem PSs.weak{e:List Stmt}{t t':TS}(h:PSs X e t)(w:∀E σ H,t' E σ H->t E σ H):PSs X e t':=λpins s σ H D I hq=>h pins s σ H D I (w _ _ _ hq)
def m3:FS:=λρ=>some (.nx ρ)
noncomputable def mx(f g:FS):FS:=λρ=>match f ρ with
 |some (.nx ρ')=>g ρ'
 |r=>r
variable{σ:St}{st:Stmt}{tg:Expr}{gs:List D->List Sl->Option (List Sl)}{N:List Str}{vs:List V}{np:Nat}
section
variable{X:Cx}{G:Bg}
theorem Pu{E:Ends}{H:Hp}(h:tFS G m3 E σ H):E.nx σ H:=by obtain⟨F,ρ,H0,o,R,e,k,_⟩:=h;cases e;exact k _ _ _ (mI.refl _) R
theorem Mo:PSs X [] (tFS G m3):=PSs.weak LA λE σ H h=>Pu h
theorem Jk{rest:List Stmt}{f g:FS}(h1:PS X st (tFS G f))(h2:PSs X rest (tFS G g)):PSs X (st::rest) (tFS G (mx f g)):=PSs.weak (zk h1 h2) λE σ H h=>by
 obtain⟨F,ρ,H0,o,R,e,k,k2⟩:=h;unfold mx at e;cases e1:f ρ with
 |none=>simp only[e1]at e;cases e
 |some o1=>
  cases o1 with
  |nx ρ1=>simp only[e1]at e;exact⟨F,ρ,H0,_,R,e1,λσ' H0' H' s R'=>⟨F,ρ1,H0',o,R',e,k.back s,k2⟩,k2⟩
  |bk ρ1=>simp only[e1]at e;cases e;exact⟨F,ρ,H0,_,R,e1,k,k2⟩
  |ct ρ1=>simp only[e1]at e;cases e;exact⟨F,ρ,H0,_,R,e1,k,k2⟩
  |rt d ρ1=>simp only[e1]at e;cases e;exact⟨F,ρ,H0,_,R,e1,k,k2⟩
  |rn d ρ1=>simp only[e1]at e;cases e;exact⟨F,ρ,H0,_,R,e1,k,k2⟩
theorem Mp{f:FS}(h1:PS X st (tFS G f)):PSs X [st] (tFS G f):=BQ h1
noncomputable def mX(f:FE):FS:=λρ=>match f ρ with
 |some (d,ρ')=>some (.rt d ρ')
 |none=>none
noncomputable def oY(f:FA):FS:=λρ=>match f ρ with
 |some (d,ρ')=>some (.rn d ρ')
 |none=>none
theorem mR{α:Type}{f:List Sl->Option (α×List Sl)}:f ρ=none\/∃d ρ',f ρ=some (d,ρ'):=by
 cases e:f ρ with
 |none=>exact .inl rfl
 |some p=>exact .inr ⟨p.1,p.2,rfl⟩
theorem Mq(h:PE X e (tF G f)):PS X (.Return (some e) pos) (tFS G (mX f)):=PS.weak (EF h) λE σ H hh=>by
 obtain⟨F,ρ,H0,o,R,e,k,k2⟩:=hh;unfold mX at e;rcases mR (f:=f) (ρ:=ρ)with e1|⟨d,ρ',e1⟩<;>simp only[e1]at e
 ·cases e
 ·cases e;exact⟨F,ρ,H0,d,ρ',R,e1,λv H0' H' s R' r=>k _ _ _ _ s R' r⟩
theorem Jl{f:FA}(h:PE X e (tFN G f)):PS X (.Return (some e) pos) (tFS G (oY f)):=PS.weak (EF h) λE σ H hh=>by
 obtain⟨F,ρ,H0,o,R,e,k,k2⟩:=hh;unfold oY at e;rcases mR (f:=f) (ρ:=ρ)with e1|⟨d,ρ',e1⟩<;>simp only[e1]at e
 ·cases e
 ·cases e;exact⟨F,ρ,H0,d,ρ',R,e1,λp xs H0' H' s R' h1 h2 h3 h4 h5=>k _ _ _ _ _ s R' h1 h2 h3 h4 h5⟩
noncomputable def m5(f:FE):FS:=λρ=>match f ρ with
 |some (_,ρ')=>some (.nx ρ')
 |none=>none
theorem Jm(h:PE X e (tF G f))(hs:swapsWith e none pos.line X.env=pure false:=by rfl):PS X (.Expr e pos) (tFS G (m5 f)):=PS.weak (FL h hs) λE σ H hh=>by
 obtain⟨F,ρ,H0,o,R,e,k,k2⟩:=hh;unfold m5 at e;rcases mR (f:=f) (ρ:=ρ)with e1|⟨d,ρ',e1⟩<;>simp only[e1]at e
 ·cases e
 ·cases e;exact⟨F,ρ,H0,d,ρ',R,e1,λv H0' H' s R' r=>k _ _ _ s R'⟩
noncomputable def sIf(c:FT) (f g:FS):FS:=λρ=>match c ρ with
 |some (true,ρ')=>f ρ'
 |some (false,ρ')=>g ρ'
 |none=>none
theorem Pw{c:Expr}{a b:List Stmt}{h:FT}{f g:FS}(hc:PT X c (tFT G h))(ha:PSs X a (tFS G f))(hb:PSs X b (tFS G g)):PS X (.If c a b pos) (tFS G (sIf h f g)):=PS.weak (SU hc ha hb) λE σ H hh=>by
 obtain⟨F,ρ,H0,o,R,e,k,k2⟩:=hh;unfold sIf at e;rcases mR (f:=h) (ρ:=ρ)with e1|⟨d,ρ',e1⟩
 ·simp only[e1]at e;cases e
 ·refine⟨F,ρ,H0,d,ρ',R,e1,λH0' H' s R'=>?_⟩;cases d with
  |true=>simp only[e1]at e;exact B5 ⟨F,ρ',H0',o,R',e,k.back s,k2⟩
  |false=>simp only[e1]at e;exact B4 ⟨F,ρ',H0',o,R',e,k.back s,k2⟩
abbrev FG:=D->List Sl->Option (List Sl)
def tFG(G:Bg)(n:Nat)(g:FG):TG:=λv σ H Q=>∃F ρ H0 d ρ',mJ G F σ ρ H0 H/\Rep G H0 d v/\g d ρ=some ρ'/\∀σ',σ'.drop n=σ.drop n->mJ G F σ' ρ' H0 H->Q σ' H
def Jn(G:Bg)(n:Nat)(g:List D->List Sl->Option (List Sl)):TGs:=λvs σ H Q=>∃F ρ H0 ds ρ',mJ G F σ ρ H0 H/\mB G H0 ds vs/\g ds ρ=some ρ'/\∀σ',σ'.drop n=σ.drop n->mJ G F σ' ρ' H0 H->Q σ' H
theorem PG.weak{t t':TG}(h:PG X e t)(w:∀v σ H Q,t' v σ H Q->t v σ H Q):PG X e t':=λpins s σ H x u Q I r hq=>h pins s σ H x u Q I r (w _ _ _ _ hq)
theorem PGs.weak{e:List Expr}{t t':TGs}(h:PGs X e t)(w:∀v σ H Q,t' v σ H Q->t v σ H Q):PGs X e t':=λpins s σ H x u Q I r hq=>h pins s σ H x u Q I r (w _ _ _ _ hq)
def gN(i:Nat):FG:=λd ρ=>some (ρ.set i (.im d))
theorem Ds{α:Type}{l:List α}{n:Nat}{x:α}(h:i<n):(l.set i x).drop n=l.drop n:=by apply iy;intro j;rw[cW,cW,br,af (by omega)]
theorem Jo(n:Nat)(h:PG X tg (sr i))(hi:i<n):PG X tg (tFG G n (gN i)):=PG.weak h λv σ H Q hh=>by obtain⟨F,ρ,H0,d,ρ',R,r,e,k⟩:=hh;cases e;exact k _ (Ds hi) (R.setIm i r)
def qX:List D->List Sl->Option (List Sl):=λds ρ=>match ds with
 |[]=>some ρ
 |_=>none
def mY(g:FG)(gs:List D->List Sl->Option (List Sl)):List D->List Sl->Option (List Sl):=λds ρ=>match ds with
 |d::r=>match g d ρ with
  |some ρ'=>gs r ρ'
  |none=>none
 |[]=>none
theorem Mr{n:Nat}(h:PGs X [] SV):PGs X [] (Jn G n qX):=PGs.weak h λv σ H Q hh=>by
 obtain⟨F,ρ,H0,ds,ρ',R,r,e,k⟩:=hh;cases ds with
 |nil=>cases e;unfold mB at r;exact⟨r,k _ rfl R⟩
 |cons d ds=>cases e
theorem Jp{n:Nat}{g:FG}(h:PGs X (e::es) (N8 (tFG G n g) (Jn G n gs))):PGs X (e::es) (Jn G n (mY g gs)):=PGs.weak h λv σ H Q hh=>by
 obtain⟨F,ρ,H0,ds,ρ',R,r,e,k⟩:=hh;cases ds with
 |nil=>cases e
 |cons d ds=>
  unfold mB at r;obtain⟨v1,r1,rfl,q1,q2⟩:=r;unfold mY at e;cases e1:g d ρ with
  |none=>simp only[e1]at e;cases e
  |some ρ1=>simp only[e1]at e;exact⟨v1,r1,rfl,F,ρ,H0,d,ρ1,R,q1,e1,λσ' s R'=>⟨F,ρ1,H0,ds,ρ',R',q2,e,λσ'' s' R''=>k _ (s'.trans s) R''⟩⟩
def gT(gs:List D->List Sl->Option (List Sl))(n:Nat):FG:=λd ρ=>match d with
 |.tup ds=>if ds.length=n then gs ds ρ else none
 |_=>none
theorem Ms{n m:Nat}{k:Nat}(h:PG X (.Tuple es k pos) (OL G.K m (Jn G n gs))):PG X (.Tuple es k pos) (tFG G n (gT gs m)):=PG.weak h λv σ H Q hh=>by
 obtain⟨F,ρ,H0,d,ρ',R,r,e,k⟩:=hh;cases d with
 |tup ds=>
  unfold gT at e;simp only at e;split at e
  ·rename_i hl;unfold Rep at r;obtain⟨a,xs,rfl,h1,h2⟩:=r;exact⟨a,xs,rfl,SqT.mono R.sub h1,by rw[<-mE h2];exact hl,F,ρ,H0,ds,ρ',R,h2,e,k⟩
  ·cases e
 |_=>cases e
def Dt(f:FE)(g:FG):FS:=λρ=>match f ρ with
 |some (d,ρ')=>match g d ρ' with
  |some ρ2=>some (.nx ρ2)
  |none=>none
 |none=>none
theorem Mt{g:FG}{n:Nat}(h:PS X st (wA (tF G f) (tFG G n g))):PS X st (tFS G (Dt f g)):=PS.weak h λE σ H hh=>by
 obtain⟨F,ρ,H0,o,R,e,k,k2⟩:=hh;unfold Dt at e;rcases mR (f:=f) (ρ:=ρ)with e1|⟨d,ρ',e1⟩<;>simp only[e1]at e
 ·cases e
 ·cases e2:g d ρ' with
  |none=>simp only[e2]at e;cases e
  |some ρ2=>simp only[e2]at e;cases e;exact⟨F,ρ,H0,d,ρ',R,e1,λv H0' H' s R' r=>⟨F,ρ',H0',d,ρ2,R',r,e2,λσ' _ R2=>k _ _ _ s R2⟩⟩
def mT(i:Nat)(f:FE):FS:=λρ=>match f ρ with
 |some (d,ρ')=>some (.nx (ρ'.set i (.im d)))
 |none=>none
theorem F0(h:PS X st (wA (tF G f) (sr i))):PS X st (tFS G (mT i f)):=PS.weak h λE σ H hh=>by
 obtain⟨F,ρ,H0,o,R,e,k,k2⟩:=hh;unfold mT at e;rcases mR (f:=f) (ρ:=ρ)with e1|⟨d,ρ',e1⟩<;>simp only[e1]at e
 ·cases e
 ·cases e;exact⟨F,ρ,H0,d,ρ',R,e1,λv H0' H' s R' r=>k _ _ _ s (R'.setIm i r)⟩
def pz(i:Nat)(f:FA):FS:=λρ=>match f ρ with
 |some (d,ρ')=>some (.nx (ρ'.set i (.ls d)))
 |none=>none
theorem Du{f:FA}(h:PS X st (wA (tFN G f) (sr i))):PS X st (tFS G (pz i f)):=PS.weak h λE σ H hh=>by
 obtain⟨F,ρ,H0,o,R,e,k,k2⟩:=hh;unfold pz at e;rcases mR (f:=f) (ρ:=ρ)with e1|⟨d,ρ',e1⟩<;>simp only[e1]at e
 ·cases e
 ·cases e;exact⟨F,ρ,H0,d,ρ',R,e1,λp xs H0' H' s R' h1 h2 h3 h4 h5=>k _ _ _ s (R'.setLs i h1 h2 h3 h4 h5)⟩
def stE(n:Nat)(ds:List D):List Sl:=ds.map Sl.im++dw (n - ds.length) .un
def fnD(np n:Nat)(f:FS):List D->Option D:=λds=>if ds.length=np then match f (stE n ds)with
 |some (.rt d _)=>some d
 |some (.rn ds _)=>some (.lst ds)
 |some (.nx _)=>some .non
 |_=>none
 else none
def fnN(np n:Nat)(f:FS):List D->Option (List D):=λds=>if ds.length=np then match f (stE n ds)with
 |some (.rn ds _)=>some ds
 |_=>none
 else none
def spF(G:Bg)(g:List D->Option D):Sp:=λvs H Q _=>∃H0 ds d,mI H0 H/\mB G H0 ds vs/\g ds=some d/\
 ∀v H0' H',mI H0 H0'->mI H0' H'->mI H H'->(∀b o,H0' b=some o->H0 b=some o\/H b=none)->Rep G H0' d v->Q v H'
def spN(G:Bg)(g:List D->Option (List D)):Sp:=λvs H Q _=>∃H0 ds d,mI H0 H/\mB G H0 ds vs/\g ds=some d/\
 ∀p xs H0' H',mI H0 H0'->mI H0' H'->mI H H'->(∀b o,H0' b=some o->H0 b=some o\/H b=none)->H p=none->H' p=some (.lst xs)->H0' p=none->mB G H0' d xs->Q (.ref p) H'
theorem zg{n:Nat}{s:Sl}(h:(stE n ds)[i]?=some s):s=.un\/∃d,ds[i]?=some d/\s=.im d:=by
 unfold stE at h;by_cases hi:i<ds.length
 ·rw[cE (by simpa using hi),aK,az hi]at h;cases h;exact .inr ⟨_,az hi,rfl⟩
 ·rw[cD (by simpa using hi),eX]at h;split at h
  ·cases h;exact .inl rfl
  ·cases h
theorem qC{v:V}(h:vs[i]?=some v):((L2.start N vs)[i]?).join=some v:=by unfold L2.start;have hi:=(bx.mp h).1;rw[cE (by simpa using hi),aK,h];rfl
theorem Bf{H:Hp}(s:mI H0 H)(r:mB G H0 ds vs)(hl:vs.length<=N.length):mJ G ⟨H0,H,[]⟩ (L2.start N vs) (stE N.length ds) H0 H where
 sub:=s
 g0:=mI.refl _
 keep:=λb o e _=>e
 fr:=λb o e=>.inl e
 am:=λa h=>by cases h
 len:=by unfold L2.start stE;rw[aB,aB,ah,ah,bJ,bJ,mE r]
 sl:=λi t e=>by
  rcases zg e with rfl|⟨d,e1,rfl⟩
  ·trivial
  ·obtain⟨v,e2,e3⟩:=pj r e1;exact⟨v,qC e2,e3⟩
 ap:=λi j t u a _ e _ ht=>by rcases zg e with rfl|⟨d,_,rfl⟩<;>cases ht
theorem Dv{n:Nat}{f:FS}(h:fnD np n f ds=some d):ds.length=np/\((∃ρ,f (stE n ds)=some (.rt d ρ))\/(∃xs ρ,f (stE n ds)=some (.rn xs ρ)/\d=.lst xs)\/∃ρ,f (stE n ds)=some (.nx ρ)/\d=.non):=by
 unfold fnD at h;split at h
 ·rename_i hl;refine⟨hl,?_⟩;split at h
  ·rename_i e;cases h;exact .inl ⟨_,e⟩
  ·rename_i e;cases h;exact .inr (.inl ⟨_,_,e,rfl⟩)
  ·rename_i e;cases h;exact .inr (.inr ⟨_,e,rfl⟩)
  ·cases h
 ·cases h
theorem Dw{n:Nat}{f:FS}{xs:List D}(h:fnN np n f ds=some xs):ds.length=np/\∃ρ,f (stE n ds)=some (.rn xs ρ):=by
 unfold fnN at h;split at h
 ·rename_i hl;refine⟨hl,?_⟩;split at h
  ·rename_i e;cases h;exact⟨_,e⟩
  ·cases h
 ·cases h
end
variable{E:XK}
theorem Mu{f:FS}{H:Hp}{Q:VK}(hN:np<=N.length)(h:spF G (fnD np N.length f) vs H Q E):tFS G f { nx:=λ_ H'=>Q .non H',rt:=Q } (L2.start N vs) H:=by
 obtain⟨H0,ds,d,s,r,e,k⟩:=h;obtain⟨hl,e'⟩:=Dv e;clear e;have R:=Bf (N:=N) s r (by rw[<-mE r,hl];exact hN);have fin:∀{σ':St} {ρ':List Sl} {H0' H':Hp},mJ G ⟨H0,H,[]⟩ σ' ρ' H0' H'->mI H H'/\mI H0' H'/\∀b o,H0' b=some o->H0 b=some o\/H b=none:=λR'=>⟨λb o e=>R'.keep b o e (by simp),R'.sub,R'.fr⟩;rcases e' with ⟨ρ,e⟩|⟨xs,ρ,e,rfl⟩|⟨ρ,e,rfl⟩
 ·refine⟨_,_,H0,_,R,e,λv σ' H0' H' s' R' rv=>?_,λ_=>rfl⟩;obtain⟨h1,h2,h3⟩:=fin R';exact k v H0' H' s' h2 h1 h3 rv
 ·refine⟨_,_,H0,_,R,e,λp ys σ' H0' H' s' R' hp h0 hb ap rs=>?_,λ_=>rfl⟩;have R2:=R'.freeze hp h0 hb ap;obtain⟨h1,h2,h3⟩:=fin R2;exact k _ _ H' (s'.trans (mL h0 _)) h2 h1 h3 (sy mF (mB.mono (mL h0 _) _ _ rs))
 ·refine⟨_,_,H0,_,R,e,λσ' H0' H' s' R'=>?_,λ_=>rfl⟩;obtain⟨h1,h2,h3⟩:=fin R';exact k _ H0' H' s' h2 h1 h3 wG
theorem Mw{f:FS}{H:Hp}{Q:VK}(hN:np<=N.length)(h:spN G (fnN np N.length f) vs H Q E):tFS G f { nx:=λ_ H'=>Q .non H',rt:=Q } (L2.start N vs) H:=by obtain⟨H0,ds,d,s,r,e,k⟩:=h;obtain⟨hl,ρ,e⟩:=Dw e;have R:=Bf (N:=N) s r (by rw[<-mE r,hl];exact hN);refine⟨_,_,H0,_,R,e,λp ys σ' H0' H' s' R' hp h0 hb ap rs=>?_,λ_=>rfl⟩;exact k p ys H0' H' s' R'.sub (λb o e=>R'.keep b o e (by simp)) R'.fr hb hp h0 rs
theorem Tv{g:List D->Option D}(hg:∀ds d,g ds=some d->ds.length=np):∀vs H Q E,spF G g vs H Q E->vs.length=np:=λvs H Q E h=>by obtain⟨H0,ds,d,_,r,e,_⟩:=h;rw[<-mE r];exact hg _ _ e
theorem Tw{g:List D->Option (List D)}(hg:∀ds d,g ds=some d->ds.length=np):∀vs H Q E,spN G g vs H Q E->vs.length=np:=λvs H Q E h=>by obtain⟨H0,ds,d,_,r,e,_⟩:=h;rw[<-mE r];exact hg _ _ e
theorem Mx{n:Nat}{f:FS}:∀ds d,fnD np n f ds=some d->ds.length=np:=λ_ _ h=>(Dv h).1
theorem My{n:Nat}{f:FS}:∀ds d,fnN np n f ds=some d->ds.length=np:=λ_ _ h=>(Dw h).1
def xF{α:Type}(g:List D->Option α)(a:FA):List Sl->Option (α×List Sl):=λρ=>match a ρ with
 |some (ds,ρ')=>match g ds with
  |some d=>some (d,ρ')
  |none=>none
 |none=>none
abbrev mr(g:List D->Option D)(a:FA):FE:=xF g a
abbrev m6(g:List D->Option (List D))(a:FA):FA:=xF g a
theorem v7{α:Type}{g:List D->Option α}{a:FA}{d:α}(h:xF g a ρ=some (d,ρ')):∃ds,a ρ=some (ds,ρ')/\g ds=some d:=by
 unfold xF at h;rcases mR (f:=a) (ρ:=ρ)with e1|⟨ds,ρ1,e1⟩<;>simp only[e1]at h
 ·cases h
 ·cases e2:g ds with
  |none=>simp only[e2]at h;cases h
  |some x=>simp only[e2]at h;cases h;exact⟨ds,e1,e2⟩
variable{dvs:List V}{dds:List D}
section
variable{X:Cx}{G:Bg}
theorem Mz{g:List D->Option D}{a:FA}(hd:∀H,mB G H dds dvs):∀σ H Q,tF G (mr (λds=>g (ds++dds)) a) σ H Q->qV (spF G g) dvs E (tFA G a) σ H Q:=λσ H Q hh=>by obtain⟨F,ρ,H0,d,ρ',R,e,k⟩:=hh;obtain⟨ds,e1,e2⟩:=v7 e;refine⟨F,ρ,H0,ds,ρ',R,e1,λxs H1 H1' s R' rs=>⟨H1,ds++dds,d,R'.sub,oX rs (hd _),e2,λv H2 H2' s1 s2 s3 fr rv=>?_⟩⟩;exact k v H2 H2' (s.trans s1) (R'.grow s3 s1 s2 fr) rv
theorem MA{g:List D->Option (List D)}{a:FA}(hd:∀H,mB G H dds dvs):∀σ H Q,tFN G (m6 (λds=>g (ds++dds)) a) σ H Q->qV (spN G g) dvs E (tFA G a) σ H Q:=λσ H Q hh=>by obtain⟨F,ρ,H0,d,ρ',R,e,k⟩:=hh;obtain⟨ds,e1,e2⟩:=v7 e;refine⟨F,ρ,H0,ds,ρ',R,e1,λxs H1 H1' s R' rs=>⟨H1,ds++dds,d,R'.sub,oX rs (hd _),e2,λp ys H2 H2' s1 s2 s3 fr hn hp h0 rv=>?_⟩⟩;exact k p ys H2 H2' (s.trans s1) (R'.grow s3 s1 s2 fr) hp h0 (R'.bNone hn) (R'.apart hn) rv
end
variable{ff:FE}{m:Str}{ta:TE}{apos:Pos}{c:Nat}
section
variable{X:Cx}{G:Bg}
theorem MB{g:List D->Option D}{a:FA}(hd:∀H,mB G H dds dvs)(h:PE X e (qV (spF G g) dvs E (tFA G a))):PE X e (tF G (mr (λds=>g (ds++dds)) a)):=PE.weak h (Mz hd)
theorem Jq{g:List D->Option (List D)}{a:FA}(hd:∀H,mB G H dds dvs)(h:PE X e (qV (spN G g) dvs E (tFA G a))):PE X e (tFN G (m6 (λds=>g (ds++dds)) a)):=PE.weak h (MA hd)
theorem Hr{g:List D->Option (List D)}(h:PE X e (qV (spN G g) [] E AG)):PE X e (tFN G (m6 g mw)):=PE.weak h λσ H Q hh=>by obtain⟨F,ρ,H0,d,ρ',R,e,k⟩:=hh;obtain⟨ds,e1,e2⟩:=v7 e;cases e1;exact⟨H0,[],d,R.sub,mV,e2,λp ys H2 H2' s1 s2 s3 fr hn hp h0 rv=>k p ys H2 H2' s1 (R.grow s3 s1 s2 fr) hp h0 (R.bNone hn) (R.apart hn) rv⟩
def Ht:List Str->List D->Str->Option D
 |n::ns,d::ds,f=>if n=f then some d else Ht ns ds f
 |_,_,_=>none
theorem Bh{H:Hp}:∀{ns:List Str} {ds:List D} {xs:List V} {f:Str} {d:D},mB G H ds xs->Ht ns ds f=some d->∃v,(ns.zip xs).lookup f=some v/\Rep G H d v
 |[],ds,xs,f,d,r,e=>by simp[Ht]at e
 |n::ns,[],xs,f,d,r,e=>by simp[Ht]at e
 |n::ns,d'::ds,xs,f,d,r,e=>by
  unfold mB at r;obtain⟨v,q,rfl,h1,h2⟩:=r;unfold Ht at e;by_cases hn:n=f
  ·rw[ag hn]at e;cases e;subst hn;exact⟨v,by simp[cj],h1⟩
  ·rw[af hn]at e;obtain⟨w,e1,e2⟩:=Bh h2 e;refine⟨w,?_,e2⟩;have hb:(f==n)=false:=beq_eq_false_iff_ne.mpr λz=>hn z.symm;simp only[cX,cj,hb];exact e1
def mP(ok:Nat->Bool)(f:Str):D->Option D
 |.obj c ns ds=>if ok c=true then Ht ns ds f else none
 |_=>none
theorem Jr{f:Str}{ok:Nat->Bool}(he:PE X e (tF G ff))(hc:∀c,ok c=true->Cls X.K (G.ca c)/\rO X.K (G.ca c) f)(hb:attributeBase e f X.env (eval e X.env)=eval e X.env:=by rfl):PE X (.Attribute e f pos) (tF G (c1 (mP ok f) ff)):=PE.weak (O0 he hb) λσ H Q hh=>by
 obtain⟨F,ρ,H0,d,ρ',R,e,k⟩:=hh;obtain⟨x,e1,e2⟩:=ze e;cases x with
 |obj c ns ds=>
  unfold mP at e2;simp only at e2;split at e2
  ·rename_i hk;refine⟨F,ρ,H0,_,ρ',R,e1,λv H1 H1' s R' r=>?_⟩;unfold Rep at r;obtain⟨a,dx,xs,rfl,h1,h2,h3⟩:=r;obtain⟨w,l1,l2⟩:=Bh h3 e2;exact⟨a,_,dx,_,w,rfl,R'.sub _ _ h1,(hc c hk).1,(hc c hk).2,l1,k _ _ _ s R' l2⟩
  ·cases e2
 |_=>cases e2
def MOk(X:Cx)(C:Addr)(m:Str)(sp:Sp)(dvs:List V)(E:XK):Prop:=∃(k:Nat) (f:Addr) (fd:bg) (ps:List Str) (ds:List aa),Cls X.K C/\Meth X.K C m f/\qU X.prog X.w X.K X.mg X.base CX0 k f fd ps sp/\om k X.A/\Binds X.K fd ps ds/\Vals dvs ds/\Passes CX0 X E
def ni(g:Nat->Option (List D->Option D))(m:Str)(f:FE)(a:FA):FE:=λρ=>match f ρ with
 |some (.obj c ns ds,ρ1)=>match g c with
  |some h=>if ns.contains m=true then none else match a ρ1 with
   |some (es,ρ2)=>match h (.obj c ns ds::es)with
    |some d=>some (d,ρ2)
    |none=>none
   |none=>none
  |none=>none
 |_=>none
theorem zD{g:Nat->Option (List D->Option D)}{a:FA}(h:ni g m f a ρ=some (d,ρ')):
  ∃c ns ds ρ1 hh es,f ρ=some (.obj c ns ds,ρ1)/\g c=some hh/\ns.contains m=false/\a ρ1=some (es,ρ')/\hh (.obj c ns ds::es)=some d:=by
 unfold ni at h;split at h
 ·rename_i c ns ds ρ1 e1;cases e2:g c with
  |none=>simp only[e2]at h;cases h
  |some hh=>
   simp only[e2]at h;cases e3:ns.contains m with
   |true=>simp only[e3,if_true]at h;cases h
   |false=>
    simp only[e3,dS,if_false]at h;rcases mR (f:=a) (ρ:=ρ1)with e4|⟨es,ρ2,e4⟩<;>simp only[e4]at h
    ·cases h
    ·cases e5:hh (.obj c ns ds::es)with
     |none=>simp only[e5]at h;cases h
     |some x=>simp only[e5]at h;cases h;exact⟨c,ns,ds,ρ1,hh,es,e1,e2,e3,e4,e5⟩
 ·cases h
theorem v8{m:Str}:∀{ns:List Str} {xs:List V},ns.contains m=false->(ns.zip xs).lookup m=none
 |[],xs,h=>rfl
 |n::ns,[],h=>rfl
 |n::ns,x::xs,h=>by rw[kC,ib]at h;simp only[cX,cj,h.1];exact v8 h.2
theorem Js{o:Expr}{t:TA}{pl:Sem Bool}(T:Addr->Sp->Prop)(hT:∀C sp,T C sp->MOk X C m sp dvs E)(he:PE X o ta)(ha:PA X (e::es) t)
  (hst:starEach (e::es) X.env=(false,eval e X.env)::starEach es X.env:=by rfl) (hpl:(backTo pos (starEach es X.env)).any (·.1)=false:=by rfl)
  (ht:eval (.Call (.Attribute o m apos) (e::es) [] pos) X.env=(do
   let ov<-eval o X.env
   standAt apos.atName
   let (f,first)<-holding [ov] (getMethod ov m pl)
   callWith pos f first (backTo pos (starEach (e::es) X.env)) (backToKw pos (keywordEach [] X.env))):=by rfl):
  PE X (.Call (.Attribute o m apos) (e::es) [] pos) (λσ H Q=>ta σ H λx H1=>∃a C dx fs sp,x=.ref a/\H1 a=some (.ins C dx fs)/\T C sp/\fs.lookup m=none/\t σ H1 λvs H2=>sp (x::(vs++dvs)) H2 Q E):=by
 intro pins s σ H Q I h;refine lD (pl:=pl) (thn (he pins s σ H _ I h) λu s1 ⟨x,H1,I1,rx,a,C,dx,fs,sp,ex,ea,ht,l,q⟩=>?_) ht;obtain⟨k,f,fd,ps,ds,c,hm,F,hr,hb,hd,hx⟩:=hT C sp ht;subst ex;obtain rfl:u=Value.ref a:=rx;refine zp I1 ea c hm l ?_;refine fH (first:=[.ref a]) (h₀:=X.base) I.ok.mod.kin hm.kp (thn (ha pos pins s1 σ H1 _ I1 q) λus s2 ⟨vs,H2,I2,r,q2⟩=>⟨I2.kIn,?_⟩) hst hpl;exact xy (us:=.ref a::us) (vs:=.ref a::vs) F hr hb hd hx I2 (.cons rfl r) q2
theorem Hu{o:Expr}{pl:Sem Bool}(T:Addr->Sp->Prop)(hT:∀C sp,T C sp->MOk X C m sp dvs E)(he:PE X o ta)
  (ht:eval (.Call (.Attribute o m apos) [] [] pos) X.env=(do
   let ov<-eval o X.env
   standAt apos.atName
   let (f,first)<-holding [ov] (getMethod ov m pl)
   callWith pos f first (backTo pos (starEach [] X.env)) (backToKw pos (keywordEach [] X.env))):=by rfl):
  PE X (.Call (.Attribute o m apos) [] [] pos) (λσ H Q=>ta σ H λx H1=>∃a C dx fs sp,x=.ref a/\H1 a=some (.ins C dx fs)/\T C sp/\fs.lookup m=none/\sp (x::dvs) H1 Q E):=by
 intro pins s σ H Q I h;refine lD (pl:=pl) (thn (he pins s σ H _ I h) λu s1 ⟨x,H1,I1,rx,a,C,dx,fs,sp,ex,ea,ht,l,q⟩=>?_) ht;obtain⟨k,f,fd,ps,ds,c,hm,F,hr,hb,hd,hx⟩:=hT C sp ht;subst ex;obtain rfl:u=Value.ref a:=rx;refine zp I1 ea c hm l ?_;exact W.callWith_K0 (first:=[.ref a]) I1.kIn hm.kp (xy (us:=[.ref a]) (vs:=[.ref a]) F hr hb hd hx I1 (.cons rfl .nil) q)
def MT(G:Bg)(g:Nat->Option (List D->Option D)):Addr->Sp->Prop:=λC sp=>∃c h,g c=some h/\C=G.ca c/\sp=spF G h
theorem MC{o:Expr}{a:FA}{g:Nat->Option (List D->Option D)}(h:PE X (.Call (.Attribute o m apos) (e::es) [] pos) (λσ H Q=>tF G f σ H λx H1=>∃a' C dx fs sp,x=.ref a'/\H1 a'=some (.ins C dx fs)/\MT G g C sp/\fs.lookup m=none/\tFA G a σ H1 λvs H2=>sp (x::(vs++[])) H2 Q E)):
  PE X (.Call (.Attribute o m apos) (e::es) [] pos) (tF G (ni g m f a)):=PE.weak h λσ H Q hh=>by
 obtain⟨F,ρ,H0,d,ρ',R,e,k⟩:=hh;obtain⟨c,ns,ds,ρ1,hh,es',e1,e2,e3,e4,e5⟩:=zD e;refine⟨F,ρ,H0,_,ρ1,R,e1,λv H1 H1' s R' r=>?_⟩;have r0:=r;unfold Rep at r;obtain⟨a',dx,xs,rfl,h1,h2,h3⟩:=r;refine⟨a',_,dx,_,_,rfl,R'.sub _ _ h1,⟨c,hh,e2,rfl,rfl⟩,v8 e3,F,ρ1,H1,es',ρ',R',e4,λys H2 H2' s2 R2 rs=>?_⟩;show spF G hh (V.ref a'::(ys++[])) H2' Q E;rw[aU];exact⟨H2,_,d,R2.sub,mW (Rep.mono s2 _ _ r0) rs,e5,λv H3 H3' t1 t2 t3 fr rv=>k v H3 H3' (s.trans (s2.trans t1)) (R2.grow t3 t1 t2 fr) rv⟩
theorem Jt{o:Expr}{g:Nat->Option (List D->Option D)}(h:PE X (.Call (.Attribute o m apos) [] [] pos) (λσ H Q=>tF G f σ H λx H1=>∃a' C dx fs sp,x=.ref a'/\H1 a'=some (.ins C dx fs)/\MT G g C sp/\fs.lookup m=none/\sp (x::[]) H1 Q E)):
  PE X (.Call (.Attribute o m apos) [] [] pos) (tF G (ni g m f mw)):=PE.weak h λσ H Q hh=>by
 obtain⟨F,ρ,H0,d,ρ',R,e,k⟩:=hh;obtain⟨c,ns,ds,ρ1,hh,es',e1,e2,e3,e4,e5⟩:=zD e;cases e4;refine⟨F,ρ,H0,_,_,R,e1,λv H1 H1' s R' r=>?_⟩;have r0:=r;unfold Rep at r;obtain⟨a',dx,xs,rfl,h1,h2,h3⟩:=r;refine⟨a',_,dx,_,_,rfl,R'.sub _ _ h1,⟨c,hh,e2,rfl,rfl⟩,v8 e3,?_⟩;exact⟨H1,_,d,R'.sub,mW r0 mV,e5,λv H3 H3' t1 t2 t3 fr rv=>k v H3 H3' (s.trans t1) (R'.grow t3 t1 t2 fr) rv⟩
def spI(G:Bg)(c:Nat)(g:List D->Option (List Str×List D)):Sp:=λvs H Q _=>∃(p dx:Addr) (us:List V) (H0:Hp) (ds:List D) (ns:List Str) (es:List D),vs=.ref p::us/\H p=some (.ins (G.ca c) dx [])/\H0 p=none/\mI H0 H/\mB G H0 ds us/\g ds=some (ns,es)/\
 ∀ys dx' H0' H',mI H0 H0'->mI H0' H'->(∀b o,H b=some o->b≠p->H' b=some o)->(∀b o,H0' b=some o->H0 b=some o\/H b=none)->H0' p=none->H' p=some (.ins (G.ca c) dx' (ns.zip ys))->ns.length=ys.length->mB G H0' es ys->Q .non H'
def m9(c:Nat)(g:List D->Option (List Str×List D))(a:FA):FE:=λρ=>match a ρ with
 |some (ds,ρ')=>match g ds with
  |some (ns,es)=>some (.obj c ns es,ρ')
  |none=>none
 |none=>none
theorem ME{g:List D->Option (List Str×List D)}{a:FA}(hd:∀H,mB G H dds dvs)(h:PE X e (Oa (G.ca c) (spI G c g) dvs E (tFA G a))):PE X e (tF G (m9 c (λds=>g (ds++dds)) a)):=PE.weak h λσ H Q hh=>by
 obtain⟨F,ρ,H0,d,ρ',R,e,k⟩:=hh;unfold m9 at e;rcases mR (f:=a) (ρ:=ρ)with e1|⟨ds,ρ1,e1⟩<;>simp only[e1]at e
 ·cases e
 ·cases e2:g (ds++dds)with
  |none=>simp only[e2]at e;cases e
  |some q=>
   obtain⟨ns,es⟩:=q;simp only[e2]at e;cases e;refine⟨F,ρ,H0,ds,ρ',R,e1,λxs H1 H1' s R' rs x dx hx hdx ne=>?_⟩;have hx2:(upd H1' dx (.own x)) x=none:=by rw[mG (λz=>ne z.symm)];exact hx
   have sx:mI H1' (upd (upd H1' dx (.own x)) x (.ins (G.ca c) dx [])):=(mL hdx _).trans (mL hx2 _);refine⟨x,dx,_,H1,ds++dds,ns,es,rfl,mF,R'.h0none hx,R'.sub.trans sx,oX rs (hd _),e2,λys dx' H2 H2' t1 t2 t3 fr h0 hp hl ry=>⟨rfl,?_⟩⟩;have t4:mI H1' H2':=λb o e=>t3 b o (sx b o e) (ph e hx);have fr1:∀b o,H2 b=some o->H1 b=some o\/H1' b=none:=λb o e=>by
    rcases fr b o e with q|q
    ·exact .inl q
    ·cases z:H1' b with
     |none=>exact .inr rfl
     |some u=>rw[sx b u z]at q;cases q
   have R2:=R'.grow t4 t1 t2 fr1;have hb:F.B x=none:=R'.bNone hx;have R3:=R2.freeze hp h0 hb (λi t ei to z=>R'.apart hx i t ei to z);refine k _ _ _ (s.trans (t1.trans (mL h0 _))) R3 ?_;unfold Rep;exact⟨x,dx',ys,rfl,mF,hl,mB.mono (mL h0 _) _ _ ry⟩
def nh(c0:Nat)(i:Nat)(f:Str)(ff:FE):FS:=λρ=>match ff ρ with
 |some (d,ρ1)=>match ρ1[i]? with
  |some (.ob c ns ds)=>if c=c0 then if ns.contains f=true then none else if ds.length=ns.length then if ns.length<900 then some (.nx (ρ1.set i (.ob c (ns++[f]) (ds++[d]))))else none else none else none
  |_=>none
 |none=>none
theorem DA{f:Str}{v:V}:∀{ns:List Str} {xs:List V},ns.contains f=false->ns.length=xs.length->sX f v (ns.zip xs)=(ns++[f]).zip (xs++[v])
 |[],[],h,l=>rfl
 |[],x::xs,h,l=>by cases l
 |n::ns,[],h,l=>by cases l
 |n::ns,x::xs,h,l=>by
  rw[kC,ib]at h;have hn:¬n=f:=λz=>by rw[z]at h;simp at h
  have ih:=DA (f:=f) (v:=v) (ns:=ns) (xs:=xs) h.2 (by simpa using l);show sX f v ((n,x)::ns.zip xs)=_;rw[show sX f v ((n,x)::ns.zip xs)=(if n=f then (n,v)::ns.zip xs else (n,x)::sX f v (ns.zip xs)) from rfl,af hn,ih];rfl
theorem MF{c0:Nat}{f:Str}(h:PS X st (S7 X.K (tS i) (tF G ff) f))(hc:Cls X.K (G.ca c0)/\rO X.K (G.ca c0) f):PS X st (tFS G (nh c0 i f ff)):=PS.weak h λE σ H hh=>by
 obtain⟨F,ρ,H0,o,R,e,k,k2⟩:=hh;unfold nh at e;rcases mR (f:=ff) (ρ:=ρ)with e1|⟨d,ρ1,e1⟩<;>simp only[e1]at e
 ·cases e
 ·split at e
  ·rename_i c ns ds e2;split at e
   ·rename_i hcc;subst hcc;split at e
    ·cases e
    rename_i hnc;split at e
    ·rename_i hl;split at e
     ·rename_i h9;cases e;refine⟨F,ρ,H0,d,ρ1,R,e1,λv H1 H1' s R' r=>?_⟩;obtain⟨a,dx,xs,e3,e4,e5,e6,e7,e8⟩:=R'.sl i _ e2;refine⟨_,px e3,a,_,dx,_,rfl,e4,hc.1,hc.2,by rw[eC];omega,?_⟩;have hnf:ns.contains f=false:=by simpa using hnc
      rw[DA hnf e7];refine k _ _ _ s (R'.mut e2 rfl e3 (λH' hH=>?_) rfl);exact⟨a,dx,xs++[v],rfl,hH,e5,e6,by rw[aB,aB,e7];rfl,oX e8 (mW r mV)⟩
     ·cases e
    ·cases e
   ·cases e
  ·cases e
def stI(c n:Nat)(ds:List D):List Sl:=.ob c [] []::stE (n - 1) ds
def fnI(c np n:Nat)(f:FS):List D->Option (List Str×List D):=λds=>if ds.length=np then match f (stI c n ds)with
 |some (.nx ρ)=>match (ρ:List Sl)[0]? with
  |some (Sl.ob c' ns es)=>if c'=c then if ns.length=es.length then some (ns,es)else none else none
  |_=>none
 |_=>none
 else none
theorem zE{n:Nat}{f:FS}{q:List Str×List D}(h:fnI c np n f ds=some q):ds.length=np/\∃ρ,f (stI c n ds)=some (.nx ρ)/\ρ[0]?=some (.ob c q.1 q.2)/\q.1.length=q.2.length:=by
 unfold fnI at h;split at h
 ·rename_i hl;refine⟨hl,?_⟩;split at h
  ·rename_i ρ e;split at h
   ·rename_i c' ns es e2;split at h
    ·rename_i hc;split at h
     ·rename_i h3;subst hc;cases h;exact⟨ρ,e,e2,h3⟩
     ·cases h
    ·cases h
   ·cases h
  ·cases h
 ·cases h
theorem F1{f:FS}{H:Hp}{Q:VK}(hN:np+1<=N.length)(h:spI G c (fnI c np N.length f) vs H Q E):tFS G f { nx:=λ_ H'=>Q .non H',rt:=Q } (L2.start N vs) H:=by
 obtain⟨p,dx,us,H0,ds,ns,es,rfl,hp,h0,s,r,e,k⟩:=h;obtain⟨hl,ρ,e1,e2,e3⟩:=zE e;have hul:us.length=np:=by rw[<-mE r];exact hl
 have gets:∀{i:Nat} {t:Sl},(stI c N.length ds)[i]?=some t->(i=0/\t=.ob c [] [])\/t=.un\/∃(j:Nat) (d:D),i=j+1/\ds[j]?=some d/\t=.im d:=λ{i t} e=>by
  cases i with
  |zero=>cases e;exact .inl ⟨rfl,rfl⟩
  |succ j=>
   have e':(stE (N.length - 1) ds)[j]?=some t:=e;rcases zg e' with rfl|⟨d,e1,rfl⟩
   ·exact .inr (.inl rfl)
   ·exact .inr (.inr ⟨j,d,rfl,e1,rfl⟩)
 have R:mJ G ⟨H0,H,[p]⟩ (L2.start N (.ref p::us)) (stI c N.length ds) H0 H:={
  sub:=s
  g0:=mI.refl _
  keep:=λb o e _=>e
  fr:=λb o e=>.inl e
  am:=λa ha=>by
   have ea:a=p:=by simpa using ha
   subst ea;exact⟨_,hp⟩
  len:=by unfold L2.start stI stE;simp only[aB,ah,bJ,aC];have:=mE r;omega
  sl:=λi t e=>by
   rcases gets e with ⟨rfl,rfl⟩|rfl|⟨j,d,rfl,e1,rfl⟩
   ·exact⟨p,dx,[],qC rfl,hp,h0,by simp,rfl,mV⟩
   ·trivial
   ·obtain⟨v,e2,e3⟩:=pj r e1;exact⟨v,qC (by simpa using e2),e3⟩
  ap:=λi j t u a hij ei ej ht hu=>by
   rcases gets ei with ⟨rfl,rfl⟩|rfl|⟨_,_,_,_,rfl⟩
   ·rcases gets ej with ⟨rfl,rfl⟩|rfl|⟨_,_,_,_,rfl⟩
    ·exact ai rfl hij
    ·cases hu
    ·cases hu
   ·cases ht
   ·cases ht }
 refine⟨_,_,H0,_,R,e1,λσ' H0' H' s' R'=>?_,λ_=>rfl⟩;obtain⟨a,dx',ys,q1,q2,q3,q4,q5,q6⟩:=R'.sl 0 _ e2;have ea:a=p:=by simpa using q4
 subst ea;exact k ys dx' H0' H' s' R'.sub (λb o e n=>R'.keep b o e (by simpa using n)) R'.fr q3 q2 q5 q6
end
def Sl.L:Sl->Option (List D)
 |.ls ds=>some ds
 |.pm ds=>some ds
 |_=>none
def Sl.putL:Sl->List D->Sl
 |.pm _,ds=>.pm ds
 |_,ds=>.ls ds
theorem Sl.L_own{s:Sl}(h:s.L=some ds):s.own=true:=by cases s<;>first|rfl|cases h
theorem Sl.putL_L{s:Sl}:(s.putL ds).L=some ds:=by cases s<;>rfl
section
variable{G:Bg}{F:Fr}{σ:St}{ρ:List Sl}{H0 H:Hp}
theorem v5.lst{o:Option V}{s:Sl}{ds:List D}(h:v5 G F H0 H o s)(e:s.L=some ds):∃a xs,o=some (.ref a)/\H a=some (.lst xs)/\H0 a=none/\mB G H0 ds xs:=by
 cases s with
 |ls ds'=>cases e;obtain⟨a,xs,h1,h2,h3,h4,h5⟩:=h;exact⟨a,xs,h1,h2,h3,h5⟩
 |pm ds'=>cases e;obtain⟨a,xs,h1,h2,h3,h4,h5⟩:=h;exact⟨a,xs,h1,h2,h3,h5⟩
 |_=>cases e
theorem mJ.mutL(R:mJ G F σ ρ H0 H){s:Sl}{ds':List D}{xs':List V}(hi:ρ[i]?=some s)(hs:s.L=some ds)(ha:(σ[i]?).join=some (.ref a))(r:mB G H0 ds' xs'):
  mJ G F σ (ρ.set i (s.putL ds')) H0 (upd H a (.lst xs')):=by
 have ok:=R.sl i s hi;rw[ha]at ok;refine R.mut hi (Sl.L_own hs) ha (λH' hH=>?_) (Sl.L_own Sl.putL_L);cases s with
 |ls ds0=>obtain⟨b,xs,h1,h2,h3,h4,h5⟩:=ok;cases h1;exact⟨a,xs',rfl,hH,h3,h4,r⟩
 |pm ds0=>obtain⟨b,xs,h1,h2,h3,h4,h5⟩:=ok;cases h1;exact⟨a,xs',rfl,hH,h3,h4,r⟩
 |_=>cases hs
end
def oO(ρ:List Sl)(i:Nat):Option (List D):=match ρ[i]? with
 |some s=>s.L
 |none=>none
theorem pI(h:oO ρ i=some ds):∃s,ρ[i]?=some s/\s.L=some ds:=by
 unfold oO at h;cases e:ρ[i]? with
 |none=>rw[e]at h;cases h
 |some s=>rw[e]at h;exact⟨s,rfl,h⟩
def putAt(ρ:List Sl)(i:Nat)(ds:List D):List Sl:=match ρ[i]? with
 |some s=>ρ.set i (s.putL ds)
 |none=>ρ
def tY(i:Nat)(f:FE):FE:=λρ=>match oO ρ i with
 |some _=>match f ρ with
  |some (d,ρ1)=>match oO ρ1 i with
   |some ds=>if ds.length<1000 then some (.non,putAt ρ1 i (ds++[d]))else none
   |none=>none
  |none=>none
 |none=>none
section
variable{X:Cx}{G:Bg}
theorem qf{H:Hp}(R:mJ G F σ ρ H0 H)(h:oO ρ i=some ds):∃a xs,σ[i]?=some (some (.ref a))/\H a=some (.lst xs)/\mB G H0 ds xs/\
  (∀ds' xs',mB G H0 ds' xs'->mJ G F σ (putAt ρ i ds') H0 (upd H a (.lst xs'))):=by
 obtain⟨s,e1,e2⟩:=pI h;obtain⟨a,xs,e3,e4,e5,e6⟩:=(R.sl i s e1).lst e2;refine⟨a,xs,px e3,e4,e6,λds' xs' r=>?_⟩;unfold putAt;rw[e1];exact R.mutL e1 e2 e3 r
theorem Hv(h:PE X e (tBM G.K "list" B2 (tS i) (tFA G (mi f mw)))):PE X e (tF G (tY i f)):=PE.weak h λσ H Q hh=>by
 obtain⟨F,ρ,H0,d,ρ',R,e,k⟩:=hh;unfold tY at e;cases e0:oO ρ i with
 |none=>simp only[e0]at e;cases e
 |some ds0=>
  simp only[e0]at e;rcases mR (f:=f) (ρ:=ρ)with e1|⟨x,ρ1,e1⟩<;>simp only[e1]at e
  ·cases e
  ·cases e2:oO ρ1 i with
   |none=>simp only[e2]at e;cases e
   |some ds=>
    simp only[e2]at e;split at e
    ·rename_i hl;cases e;obtain⟨a,xs,s1,s2,s3,_⟩:=qf R e0;refine⟨.ref a,s1,.inl ⟨rfl,xs,SqL.of s2⟩,F,ρ,H0,[x],ρ1,R,by unfold mi;rw[e1];rfl,λys H1 H1' s R' rs=>?_⟩;unfold mB at rs;obtain⟨v,r0,rfl,rv,rn⟩:=rs;unfold mB at rn;subst rn;obtain⟨a',xs',t1,t2,t3,t4⟩:=qf R' e2;rw[s1]at t1;cases t1;exact⟨a,xs',v,rfl,rfl,t2,by rw[<-mE t3];exact vt (by omega),k _ _ _ s (t4 _ _ (oX t3 (mW rv mV))) wG⟩
    ·cases e
def F2(i:Nat):FE:=λρ=>match oO ρ i with
 |some (d::ds)=>some (d,putAt ρ i ds)
 |_=>none
theorem MG(h:PE X e (tBM G.K "list" IT (tS i) (sY (tC (.int 0)) AG))):PE X e (tF G (F2 i)):=PE.weak h λσ H Q hh=>by
 obtain⟨F,ρ,H0,d,ρ',R,e,k⟩:=hh;unfold F2 at e;split at e
 ·rename_i d' ds e0;cases e;obtain⟨a,xs,s1,s2,s3,s4⟩:=qf R e0;unfold mB at s3;obtain⟨v,r,rfl,r1,r2⟩:=s3;refine⟨.ref a,s1,.inl ⟨rfl,_,SqL.of s2⟩,a,v::r,0,0,v,rfl,rfl,s2,by decide,by decide,?_,rfl,?_⟩
  ·unfold seqIndex?;simp
  ·exact k _ _ _ (mI.refl _) (s4 _ _ r2) r1
 ·cases e
theorem wH{i:Int}(r:mB G H0 ds xs)(h:atI ds i=some d):∃v,atI xs i=some v/\Rep G H0 d v:=by
 unfold atI at h ⊢;rw[<-mE r];cases e:ixN ds.length i with
 |none=>rw[e]at h;cases h
 |some j=>rw[e]at h;exact pj r h
def DB(i:Nat)(f:FE):FE:=λρ=>match oO ρ i with
 |some _=>match f ρ with
  |some (.int j,ρ1)=>match oO ρ1 i with
   |some ds=>match atI ds j with
    |some d=>some (d,ρ1)
    |none=>none
   |none=>none
  |_=>none
 |none=>none
theorem Px(h:PE X e (tOp (G6 G.K) (tS i) (tF G f))):PE X e (tF G (DB i f)):=PE.weak h λσ H Q hh=>by
 obtain⟨F,ρ,H0,d,ρ',R,e,k⟩:=hh;unfold DB at e;cases e9:oO ρ i with
 |none=>simp only[e9]at e;cases e
 |some ds9=>
  simp only[e9]at e;obtain⟨a9,xs9,ev,_⟩:=qf R e9;split at e
  ·rename_i j ρ1 e1;cases e0:oO ρ1 i with
   |none=>simp only[e0]at e;cases e
   |some ds=>
    simp only[e0]at e;cases e2:atI ds j with
    |none=>simp only[e2]at e;cases e
    |some x=>simp only[e2]at e;cases e;refine⟨.ref a9,ev,F,ρ,H0,_,_,R,e1,λu H1 H1' s R' r=>?_⟩;unfold Rep at r;subst r;obtain⟨a,xs,s1,s2,s3,s4⟩:=qf R' e0;rw[ev]at s1;cases s1;obtain⟨w,w1,w2⟩:=wH s3 e2;exact⟨_,xs,j,w,rfl,rfl,SqL.of s2,w1,k _ _ _ s R' w2⟩
  ·cases e
def cFz(i:Nat):FE:=λρ=>match ρ[i]? with
 |some (.ls ds)=>some (.lst ds,ρ.set i (.im (.lst ds)))
 |some (.dk ks ds)=>some (.dic ks ds,ρ.set i (.im (.dic ks ds)))
 |some (.im d)=>some (d,ρ)
 |_=>none
theorem mJ.toIm{H:Hp}(R:mJ G F σ ρ H0 H){s:Sl}{p:Addr}{o:HO}(hi:ρ[i]?=some s)(hs:(σ[i]?).join=some (.ref p))(so:s.own=true)(hp:H p=some o)(h0:H0 p=none)(hb:F.B p=none)(r:Rep G (upd H0 p o) d (.ref p)):
  mJ G F σ (ρ.set i (.im d)) (upd H0 p o) H where
 sub:=λb u e=>by
  by_cases hb:b=p
  ·subst hb;rw[mF]at e;cases e;exact hp
  ·rw[mG hb]at e;exact R.sub _ _ e
 g0:=R.g0.trans (mL h0 o)
 keep:=R.keep
 fr:=λb u e=>by
  by_cases hb':b=p
  ·subst hb';exact .inr hb
  ·rw[mG hb']at e;exact R.fr _ _ e
 am:=R.am
 len:=by rw[c5];exact R.len
 sl:=λj t e=>by
  rw[br]at e;by_cases h:i=j
  ·subst h;rw[ag rfl]at e;split at e
   ·cases e;exact⟨_,hs,r⟩
   ·cases e
  ·rw[af h]at e;refine(R.sl j t e).grow (mL h0 o) (λa u _ _ q=>q) λa u z to q q0=>?_;rw[mG (λy=>by subst y;exact R.ap j i t s a (λy=>h y.symm) e hi to so z hs)];exact q0
 ap:=λj k t u b hjk ej ek tj tk vj vk=>by
  have gen:∀{m:Nat} {x:Sl},(ρ.set i (.im d))[m]?=some x->x.own=true->ρ[m]?=some x:=λ{m x} e xo=>by
   rw[br]at e;by_cases h:i=m
   ·subst h;rw[ag rfl]at e;split at e
    ·cases e;cases xo
    ·cases e
   ·rw[af h]at e;exact e
  exact R.ap j k t u b hjk (gen ej tj) (gen ek tk) tj tk vj vk
theorem mJ.toImD{H:Hp}(R:mJ G F σ ρ H0 H){s:Sl}{p:Addr}{o:HO}(hi:ρ[i]?=some s)(hs:(σ[i]?).join=some (.ref p))(so:s.own=true)(h0:H0 p=none)(hb:F.B p=none)(r:Rep G (upd H0 p o) d (.ref p)):
  mJ G F σ (ρ.set i (.im d)) (upd H0 p o) (upd H p o) where
 sub:=λb u e=>by
  by_cases hb:b=p
  ·subst hb;rw[mF]at e ⊢;exact e
  ·rw[mG hb]at e ⊢;exact R.sub _ _ e
 g0:=R.g0.trans (mL h0 o)
 keep:=λb u e n=>by rw[mG (λz=>by subst z;rw[hb]at e;cases e)];exact R.keep b u e n
 fr:=λb u e=>by
  by_cases hb':b=p
  ·subst hb';exact .inr hb
  ·rw[mG hb']at e;exact R.fr _ _ e
 am:=λb hm=>by
  by_cases hb':b=p
  ·subst hb';exact⟨o,mF⟩
  ·rw[mG hb'];exact R.am b hm
 len:=by rw[c5];exact R.len
 sl:=λj t e=>by
  rw[br]at e;by_cases h:i=j
  ·subst h;rw[ag rfl]at e;split at e
   ·cases e;exact⟨_,hs,r⟩
   ·cases e
  ·rw[af h]at e;refine(R.sl j t e).grow (mL h0 o) (λa u z to q=>?_) λa u z to q q0=>?_
   ·rw[mG (λy=>by subst y;exact R.ap j i t s a (λy=>h y.symm) e hi to so z hs)];exact q
   ·rw[mG (λy=>by subst y;exact R.ap j i t s a (λy=>h y.symm) e hi to so z hs)];exact q0
 ap:=λj k t u b hjk ej ek tj tk vj vk=>by
  have gen:∀{m:Nat} {x:Sl},(ρ.set i (.im d))[m]?=some x->x.own=true->ρ[m]?=some x:=λ{m x} e xo=>by
   rw[br]at e;by_cases h:i=m
   ·subst h;rw[ag rfl]at e;split at e
    ·cases e;cases xo
    ·cases e
   ·rw[af h]at e;exact e
  exact R.ap j k t u b hjk (gen ej tj) (gen ek tk) tj tk vj vk
theorem Tx(h:PE X e (tS i)):PE X e (tF G (cFz i)):=PE.weak (PE.ghost h) λσ H Q hh=>by
 obtain⟨F,ρ,H0,d,ρ',R,e,k⟩:=hh;unfold cFz at e;split at e
 ·rename_i ds e0;cases e;obtain⟨a,xs,h1,h2,h3,h4,h5⟩:=R.sl i _ e0;have rr:Rep G (upd H0 a (.lst xs)) (.lst ds) (.ref a):=sy mF (mB.mono (mL h3 _) _ _ h5);exact⟨_,px h1,.inl (k _ _ _ (mL h3 _) (R.toIm e0 h1 rfl h2 h3 h4 rr) rr)⟩
 ·rename_i ks ds e0;cases e;obtain⟨a,xs,h1,h2,h3,h4,h5,h6⟩:=R.sl i _ e0;refine⟨_,px h1,.inr ⟨a,_,h2,λo=>?_⟩⟩;have rr:Rep G (upd H0 a (.frz o (.dK (ks.zip xs)))) (.dic ks ds) (.ref a):=by unfold Rep;exact⟨a,o,xs,rfl,mF,h5,mB.mono (mL h3 _) _ _ h6⟩
  exact k _ _ _ (mL h3 _) (R.toImD e0 h1 rfl h3 h4 rr) rr
 ·rename_i d' e0;cases e;obtain⟨v,e2,e3⟩:=R.sl i _ e0;exact⟨v,px e2,.inl (k _ _ _ (mI.refl _) R e3)⟩
 ·cases e
def Ju(i:Nat):FA:=λρ=>match ρ[i]? with
 |some (.ls ds)=>some (ds,ρ.set i .un)
 |_=>none
theorem MH(h:PE X e (tS i)):PE X e (tFN G (Ju i)):=PE.weak h λσ H Q hh=>by
 obtain⟨F,ρ,H0,d,ρ',R,e,k⟩:=hh;unfold Ju at e;split at e
 ·rename_i ds e0;cases e;obtain⟨a,xs,h1,h2,h3,h4,h5⟩:=R.sl i _ e0;have gen:∀{m:Nat} {x:Sl},(ρ.set i .un)[m]?=some x->x.own=true->m≠i/\ρ[m]?=some x:=λ{m x} e xo=>by
   rw[br]at e;by_cases h:i=m
   ·subst h;rw[ag rfl]at e;split at e
    ·cases e;cases xo
    ·cases e
   ·rw[af h]at e;exact⟨λz=>h z.symm,e⟩
  have R':mJ G F σ (ρ.set i .un) H0 H:={
   sub:=R.sub,g0:=R.g0,keep:=R.keep,fr:=R.fr,am:=R.am
   len:=by rw[c5];exact R.len
   sl:=λj t e=>by
    rw[br]at e;by_cases h:i=j
    ·subst h;rw[ag rfl]at e;split at e
     ·cases e;trivial
     ·cases e
    ·rw[af h]at e;exact R.sl j t e
   ap:=λj k t u b hjk ej ek tj tk vj vk=>R.ap j k t u b hjk (gen ej tj).2 (gen ek tk).2 tj tk vj vk }
  refine⟨_,px h1,k a xs _ _ (mI.refl _) R' h2 h3 h4 (λj t ej to z=>?_) h5⟩;obtain⟨nj,ej'⟩:=gen ej to;exact R.ap j i t _ a nj ej' e0 to rfl z h1
 ·cases e
end
def spM(G:Bg)(g:List D->List D->Option (D×List D)):Sp:=λvs H Q _=>∃(a:Addr) (us xs:List V) (H0:Hp) (es ds:List D) (d:D) (es':List D),vs=.ref a::us/\H a=some (.lst xs)/\H0 a=none/\mI H0 H/\mB G H0 es xs/\mB G H0 ds us/\g es ds=some (d,es')/\
 ∀v xs' H0' H',mI H0 H0'->mI H0' H'->(∀b o,H b=some o->b≠a->H' b=some o)->(∀b o,H0' b=some o->H0 b=some o\/H b=none)->H0' a=none->H' a=some (.lst xs')->mB G H0' es' xs'->Rep G H0' d v->Q v H'
def stM(n:Nat)(es ds:List D):List Sl:=.pm es::stE (n - 1) ds
def yh(ρ:List Sl):Option (List D):=match ρ with
 |.pm es::_=>some es
 |_=>none
def fnM(np n:Nat)(f:FS):List D->List D->Option (D×List D):=λes ds=>if ds.length=np then match f (stM n es ds)with
 |some (.rt d ρ)=>match yh ρ with
  |some es'=>some (d,es')
  |none=>none
 |some (.rn xs ρ)=>match yh ρ with
  |some es'=>some (.lst xs,es')
  |none=>none
 |_=>none
 else none
theorem zF{es:List D}(h:yh ρ=some es):ρ[0]?=some (.pm es):=by
 unfold yh at h;split at h
 ·cases h;rfl
 ·cases h
variable{es':List D}
theorem DC{n:Nat}{f:FS}{es:List D}(h:fnM np n f es ds=some (d,es')):ds.length=np/\((∃ρ,f (stM n es ds)=some (.rt d ρ)/\ρ[0]?=some (.pm es'))\/∃xs ρ,f (stM n es ds)=some (.rn xs ρ)/\ρ[0]?=some (.pm es')/\d=.lst xs):=by
 unfold fnM at h;split at h
 ·rename_i hl;refine⟨hl,?_⟩;split at h
  ·rename_i x ρ e;cases e2:yh ρ with
   |none=>simp only[e2]at h;cases h
   |some q=>simp only[e2]at h;cases h;exact .inl ⟨ρ,e,zF e2⟩
  ·rename_i x ρ e;cases e2:yh ρ with
   |none=>simp only[e2]at h;cases h
   |some q=>simp only[e2]at h;cases h;exact .inr ⟨x,ρ,e,zF e2,rfl⟩
  ·cases h
 ·cases h
section
variable{X:Cx}{G:Bg}
theorem MI{f:FS}{H:Hp}{Q:VK}(hN:np+1<=N.length)(h:spM G (fnM np N.length f) vs H Q E):tFS G f { nx:=λ_ H'=>Q .non H',rt:=Q } (L2.start N vs) H:=by
 obtain⟨a,us,xs,H0,es,ds,d,es',rfl,ha,h0,s,r1,r,e,k⟩:=h;obtain⟨hl,e1⟩:=DC e;have hul:us.length=np:=by rw[<-mE r];exact hl
 have gets:∀{i:Nat} {t:Sl},(stM N.length es ds)[i]?=some t->(i=0/\t=.pm es)\/t=.un\/∃(j:Nat) (d:D),i=j+1/\ds[j]?=some d/\t=.im d:=λ{i t} e=>by
  cases i with
  |zero=>cases e;exact .inl ⟨rfl,rfl⟩
  |succ j=>
   have e':(stE (N.length - 1) ds)[j]?=some t:=e;rcases zg e' with rfl|⟨d,e1,rfl⟩
   ·exact .inr (.inl rfl)
   ·exact .inr (.inr ⟨j,d,rfl,e1,rfl⟩)
 have R:mJ G ⟨H0,H,[a]⟩ (L2.start N (.ref a::us)) (stM N.length es ds) H0 H:={
  sub:=s
  g0:=mI.refl _
  keep:=λb o e _=>e
  fr:=λb o e=>.inl e
  am:=λb hb=>by
   have eb:b=a:=by simpa using hb
   subst eb;exact⟨_,ha⟩
  len:=by unfold L2.start stM stE;simp only[aB,ah,bJ,aC];have:=mE r;omega
  sl:=λi t e=>by
   rcases gets e with ⟨rfl,rfl⟩|rfl|⟨j,d,rfl,e1,rfl⟩
   ·exact⟨a,xs,qC rfl,ha,h0,by simp,r1⟩
   ·trivial
   ·obtain⟨v,e2,e3⟩:=pj r e1;exact⟨v,qC (by simpa using e2),e3⟩
  ap:=λi j t u b hij ei ej ht hu=>by
   rcases gets ei with ⟨rfl,rfl⟩|rfl|⟨_,_,_,_,rfl⟩
   ·rcases gets ej with ⟨rfl,rfl⟩|rfl|⟨_,_,_,_,rfl⟩
    ·exact ai rfl hij
    ·cases hu
    ·cases hu
   ·cases ht
   ·cases ht }
 have fin:∀{v:V} {σ':St} {ρ':List Sl} {H0' H':Hp},mI H0 H0'->mJ G ⟨H0,H,[a]⟩ σ' ρ' H0' H'->ρ'[0]?=some (.pm es')->Rep G H0' d v->Q v H':=λs' R' e2 rv=>by
  obtain⟨a',ys,q1,q2,q3,q4,q5⟩:=R'.sl 0 _ e2;have ea:a'=a:=by simpa using q4
  subst ea;exact k _ ys _ _ s' R'.sub (λb o e n=>R'.keep b o e (by simpa using n)) R'.fr q3 q2 q5 rv
 rcases e1 with ⟨ρ,e1,e2⟩|⟨zs,ρ,e1,e2,rfl⟩
 ·exact⟨_,_,H0,_,R,e1,λv σ' H0' H' s' R' rv=>fin s' R' e2 rv,λ_=>rfl⟩
 ·refine⟨_,_,H0,_,R,e1,λp ys σ' H0' H' s' R' hp hp0 hb ap rs=>?_,λ_=>rfl⟩;exact fin (s'.trans (mL hp0 _)) (R'.freeze hp hp0 hb ap) e2 (sy mF (mB.mono (mL hp0 _) _ _ rs))
theorem Of{g:List D->List D->Option (D×List D)}(hg:∀es ds d,g es ds=some d->ds.length=np):∀vs H Q E,spM G g vs H Q E->vs.length=np+1:=λvs H Q E h=>by obtain⟨a,us,xs,H0,es,ds,d,es',rfl,_,_,_,_,r,e,_⟩:=h;rw[aC,<- mE r,hg _ _ _ e]
theorem MJ{n:Nat}{f:FS}:∀es ds d,fnM np n f es ds=some d->ds.length=np:=λ_ _ d h=>(DC (d:=d.1) (es':=d.2) h).1
theorem mJ.call1{H:Hp}(R:mJ G F σ ρ H0 H){s:Sl}{es:List D}{b:Addr}{zs:List V}(hi:ρ[i]?=some s)(hs:s.L=some es)(hb:(σ[i]?).join=some (.ref b))
  (s1:mI H0 H0') (s2:mI H0' H') (s3:∀c o,H c=some o->c≠b->H' c=some o) (fr:∀c o,H0' c=some o->H0 c=some o\/H c=none) (h0:H0' b=none) (hz:H' b=some (.lst zs)) (r:mB G H0' es' zs):
  mJ G F σ (ρ.set i (s.putL es')) H0' H':=by
 have so:=Sl.L_own hs;obtain⟨b',u,e1,e2,e3,e4⟩:=(R.sl i s hi).at so;rw[hb]at e1;cases e1;exact {
  sub:=s2
  g0:=R.g0.trans s1
  keep:=λc o e n=>by
   refine s3 c o (R.keep c o e n) λz=>?_;subst z;rcases e4 with q|q
   ·rw[q]at e;cases e
   ·exact n q
  fr:=λc o e=>by
   rcases fr c o e with q|q
   ·exact R.fr c o q
   ·exact .inr (R.bNone q)
  am:=λc hc=>by
   by_cases z:c=b
   ·subst z;exact⟨_,hz⟩
   ·obtain⟨o,q⟩:=R.am c hc;exact⟨o,s3 c o q z⟩
  len:=by rw[c5];exact R.len
  sl:=λj t e=>by
   rw[br]at e;by_cases h:i=j
   ·subst h;rw[ag rfl]at e;split at e
    ·cases e;rw[hb];have ok:=R.sl i s hi;rw[hb]at ok;cases s with
     |ls ds0=>obtain⟨c,xs,h1,h2,h3,h4,h5⟩:=ok;cases h1;exact⟨b,zs,rfl,hz,h0,h4,r⟩
     |pm ds0=>obtain⟨c,xs,h1,h2,h3,h4,h5⟩:=ok;cases h1;exact⟨b,zs,rfl,hz,h0,h4,r⟩
     |_=>cases hs
    ·cases e
   ·rw[af h]at e;refine(R.sl j t e).grow s1 (λc w z to q=>s3 c w q λy=>?_) λc w z to q q0=>?_
    ·subst y;exact R.ap j i t s c (λy=>h y.symm) e hi to so z hb
    ·cases y:H0' c with
     |none=>rfl
     |some o=>
      rcases fr c o y with x|x
      ·rw[x]at q0;cases q0
      ·rw[x]at q;cases q
  ap:=λj k t u c hjk ej ek tj tk vj vk=>by
   have gen:∀{m:Nat} {x:Sl},(ρ.set i (s.putL es'))[m]?=some x->∃y,ρ[m]?=some y/\(x.own=true->y.own=true):=λ{m x} e=>by
    rw[br]at e;by_cases h:i=m
    ·subst h;exact⟨s,hi,λ_=>so⟩
    ·rw[af h]at e;exact⟨x,e,λq=>q⟩
   obtain⟨y,ey,oy⟩:=gen ej;obtain⟨z,ez,oz⟩:=gen ek;exact R.ap j k y z c hjk ey ez (oy tj) (oz tk) vj vk }
def nD(g:List D->List D->Option (D×List D))(i:Nat)(a:FA):FE:=λρ=>match oO ρ i with
 |some _=>match a ρ with
  |some (ds,ρ1)=>match oO ρ1 i with
   |some es=>match g es ds with
    |some (d,es')=>some (d,putAt ρ1 i es')
    |none=>none
   |none=>none
  |none=>none
 |none=>none
theorem Py{g:List D->List D->Option (D×List D)}{a:FA}(h:PE X e (qV (spM G g) [] E (sY (tS i) (tFA G a)))):PE X e (tF G (nD g i a)):=PE.weak h λσ H Q hh=>by
 obtain⟨F,ρ,H0,d,ρ',R,e,k⟩:=hh;unfold nD at e;cases e0:oO ρ i with
 |none=>simp only[e0]at e;cases e
 |some ds0=>
  simp only[e0]at e;rcases mR (f:=a) (ρ:=ρ)with e1|⟨ds,ρ1,e1⟩<;>simp only[e1]at e
  ·cases e
  ·cases e2:oO ρ1 i with
   |none=>simp only[e2]at e;cases e
   |some es=>
    simp only[e2]at e;cases e3:g es ds with
    |none=>simp only[e3]at e;cases e
    |some q=>
     obtain⟨d1,es'⟩:=q;simp only[e3]at e;cases e;obtain⟨b,xs,s1,s2,s3,_⟩:=qf R e0;refine⟨.ref b,s1,F,ρ,H0,ds,ρ1,R,e1,λys H1 H1' s R' rs=>?_⟩;obtain⟨s,es0,es1⟩:=pI e2;obtain⟨b',xs',t1,t2,t3,t4⟩:=(R'.sl i s es0).lst es1;rw[px t1]at s1;cases s1;refine⟨b,ys,xs',H1,es,ds,d,es',?_,t2,t3,R'.sub,t4,rs,e3,λv zs H2 H2' u1 u2 u3 fr w0 w1 w2 w3=>?_⟩
     ·show V.ref b::ys++[]=_;rw[aU]
     ·refine k _ _ _ (mI.trans ‹mI H0 H1› u1) ?_ w3;unfold putAt;rw[es0];exact R'.call1 es0 es1 t1 u1 u2 u3 fr w0 w1 w2
def Walk(G:Bg)(J:It)(ds:List D)(H0:Hp):Prop:=∀(i:Nat) (H1 H1':Hp),mI H0 H1->mI H1 H1'->
 (∀d,ds[i]?=some d->J.go i H1'/\∀x H2',J.yld i H1' x H2'->∃H2,mI H1 H2/\mI H2 H2'/\mI H1' H2'/\(∀b o,H2 b=some o->H1 b=some o\/H1' b=none)/\Rep G H2 d x)/\(i=ds.length->J.stop i H1')
def tFI(G:Bg)(f:FA):TI:=λσ H R=>∃F ρ H0 ds ρ',mJ G F σ ρ H0 H/\f ρ=some (ds,ρ')/\∀J H0' H',mI H0 H0'->mJ G F σ ρ' H0' H'->Walk G J ds H0'->R J H'
theorem PI.weak{t t':TI}(h:PI X tg e t)(w:∀σ H R,t' σ H R->t σ H R):PI X tg e t':=λpins s σ H R I hq=>h pins s σ H R I (w _ _ _ hq)
theorem zG(h:SqL G.K H0 a xs)(r:mB G H0 ds xs):Walk G (Itl G.K a) ds H0:=λi H1 H1' s s'=>by have h1:SqL G.K H1' a xs:=(s.trans s').seq h;refine⟨λd e=>?_,λhl=>⟨xs,h1,by rw[<-mE r,hl];exact aw _⟩⟩;obtain⟨v,e1,e2⟩:=pj r e;refine⟨⟨xs,v,h1,e1⟩,λx H2' y=>?_⟩;obtain⟨e3,e4⟩:=y;have e5:=e4 xs h1;rw[e1]at e5;cases e5;subst e3;exact⟨H1,mI.refl _,s',mI.refl _,λb o e=>.inl e,Rep.mono s _ _ e2⟩
theorem Jv(h:SqT G.K H0 a xs)(r:mB G H0 ds xs):Walk G (Itt G.K a) ds H0:=λi H1 H1' s s'=>by have h1:SqT G.K H1' a xs:=SqT.mono (s.trans s') h;refine⟨λd e=>?_,λhl=>⟨xs,h1,by rw[<-mE r,hl];exact aw _⟩⟩;obtain⟨v,e1,e2⟩:=pj r e;refine⟨⟨xs,v,h1,e1⟩,λx H2' y=>?_⟩;obtain⟨e3,e4⟩:=y;have e5:=e4 xs h1;rw[e1]at e5;cases e5;subst e3;exact⟨H1,mI.refl _,s',mI.refl _,λb o e=>.inl e,Rep.mono s _ _ e2⟩
def iL(f:FE):FA:=λρ=>match f ρ with
 |some (.lst ds,ρ')=>some (ds,ρ')
 |some (.fzl ds,ρ')=>some (ds,ρ')
 |_=>none
def iT(f:FE):FA:=λρ=>match f ρ with
 |some (.tup ds,ρ')=>some (ds,ρ')
 |_=>none
theorem DE(h:PI X tg e (IB G.K (tF G f))):PI X tg e (tFI G (iL f)):=PI.weak h λσ H R hh=>by
 obtain⟨F,ρ,H0,ds,ρ',R,e,k⟩:=hh;unfold iL at e;split at e
 ·rename_i ds' ρ1 e1;cases e;refine⟨F,ρ,H0,_,_,R,e1,λv H1 H1' s R' r=>?_⟩;unfold Rep at r;obtain⟨a,xs,rfl,r1,r2⟩:=r;exact⟨a,rfl,⟨xs,R'.sub.seq (SqL.of r1)⟩,k _ _ _ s R' (zG (SqL.of r1) r2)⟩
 ·rename_i ds' ρ1 e1;cases e;refine⟨F,ρ,H0,_,_,R,e1,λv H1 H1' s R' r=>?_⟩;unfold Rep at r;obtain⟨a,xs,rfl,r1,r2⟩:=r;exact⟨a,rfl,⟨xs,R'.sub.seq r1⟩,k _ _ _ s R' (zG r1 r2)⟩
 ·cases e
theorem MK(h:PI X tg e (OP G.K (tF G f))):PI X tg e (tFI G (iT f)):=PI.weak h λσ H R hh=>by
 obtain⟨F,ρ,H0,ds,ρ',R,e,k⟩:=hh;unfold iT at e;split at e
 ·rename_i ds' ρ1 e1;cases e;refine⟨F,ρ,H0,_,_,R,e1,λv H1 H1' s R' r=>?_⟩;unfold Rep at r;obtain⟨a,xs,rfl,r1,r2⟩:=r;exact⟨a,rfl,⟨xs,SqT.mono R'.sub r1⟩,k _ _ _ s R' (Jv r1 r2)⟩
 ·cases e
def zH(lo:Int)(n:Nat):List D:=(aF n).map λ(i:Nat)=>D.int (lo+(i:Int))
theorem Jw{lo:Int}{n:Nat}:Walk G (Itr lo n) (zH lo n) H0:=λi H1 H1' s s'=>by
 refine⟨λd e=>?_,λhl=>by show n<=i;rw[hl];simp[zH]⟩;unfold zH at e;rw[aK]at e;by_cases hi:i<n
 ·rw[ko hi]at e;cases e;refine⟨hi,λx H2' y=>?_⟩;obtain⟨e3,rfl⟩:=y;subst e3;exact⟨H1,mI.refl _,s',mI.refl _,λb o e=>.inl e,pd _⟩
 ·rw[dR (by simpa using hi)]at e;cases e
def iR1(f:FE):FA:=λρ=>match f ρ with
 |some (.int n,ρ')=>if -1000000<=n/\n<=1000000 then some (zH 0 n.toNat,ρ')else none
 |_=>none
theorem EZ(h:PI X tg e (N9 (tFA G (mi f mw)))):PI X tg e (tFI G (iR1 f)):=PI.weak h λσ H R hh=>by
 obtain⟨F,ρ,H0,ds,ρ',R,e,k⟩:=hh;unfold iR1 at e;split at e
 ·rename_i n ρ1 e1;split at e
  ·rename_i hn;cases e;refine⟨F,ρ,H0,[.int n],_,R,by unfold mi;rw[e1];rfl,λxs H1 H1' s R' rs=>?_⟩;unfold mB at rs;obtain⟨v,r0,rfl,rv,rn⟩:=rs;unfold mB at rn;unfold Rep at rv;subst rn rv;exact⟨n,rfl,by omega,by omega,k _ _ _ s R' Jw⟩
  ·cases e
 ·cases e
def forL(g:FG)(b:FS):List D->FS
 |[],ρ=>some (.nx ρ)
 |d::r,ρ=>match g d ρ with
  |none=>none
  |some ρ1=>match b ρ1 with
   |some (.nx ρ2)=>forL g b r ρ2
   |some (.ct ρ2)=>forL g b r ρ2
   |some (.bk ρ2)=>some (.nx ρ2)
   |some (.rt d ρ2)=>some (.rt d ρ2)
   |some (.rn d ρ2)=>some (.rn d ρ2)
   |none=>none
def rq(s:FA)(g:FG)(b:FS):FS:=λρ=>match s ρ with
 |some (ds,ρ')=>forL g b ds ρ'
 |none=>none
theorem ML{n:Nat}{s:FA}{g:FG}{b:FS}(h:PS X st (OR (tFI G s) (tFG G n g) (tFS G b))):PS X st (tFS G (rq s g b)):=PS.weak h λE σ H hh=>by
 obtain⟨F,ρ,H0,o,R,e,k,k2⟩:=hh;unfold rq at e;rcases mR (f:=s) (ρ:=ρ)with e1|⟨ds,ρ1,e1⟩<;>simp only[e1]at e
 ·cases e
 ·refine⟨F,ρ,H0,ds,ρ1,R,e1,λJ H1 H1' s1 R1 wk=>?_⟩;refine⟨λi m σ H=>m=ds.length - i/\i<=ds.length/\∃ρi Hi,mI H1 Hi/\mJ G F σ ρi Hi H/\forL g b (ds.drop i) ρi=some o,⟨_,rfl,aY _,ρ1,H1,mI.refl _,R1,e⟩,?_⟩;rintro i m σi Hi' ⟨rfl,hi,ρi,Hi,si,Ri,ei⟩;by_cases hlt:i<ds.length
  ·have ed:ds.drop i=ds[i]::ds.drop (i+1):=gX hlt;rw[ed]at ei;unfold forL at ei;obtain⟨go,yl⟩:=(wk i Hi Hi' si Ri.sub).1 ds[i] (az hlt);refine .inr ⟨go,λσ' H'=>∃ρi Hi,mI H1 Hi/\mJ G F σ' ρi Hi H'/\forL g b (ds.drop (i+1)) ρi=some o,λσ' H' q=>⟨ds.length - (i+1),by omega,rfl,hlt,q⟩,λx H' y=>?_⟩;obtain⟨H2,t1,t2,t3,t4,t5⟩:=yl x H' y;have R2:=Ri.grow t3 t1 t2 t4;cases e2:g ds[i] ρi with
   |none=>simp only[e2]at ei;cases ei
   |some ρ2=>
    simp only[e2]at ei;refine⟨F,ρi,H2,_,ρ2,R2,t5,e2,λσ3 _ R3=>?_⟩;have kk:=k.back (s1.trans (si.trans t1));cases e3:b ρ2 with
    |none=>simp only[e3]at ei;cases ei
    |some q=>
     refine⟨F,ρ2,H2,q,R3,e3,?_,λ_=>rfl⟩;cases q with
     |nx ρ3=>simp only[e3]at ei;exact λσ' H0' H' s' R'=>⟨ρ3,H0',si.trans (t1.trans s'),R',ei⟩
     |ct ρ3=>simp only[e3]at ei;exact λσ' H0' H' s' R'=>⟨ρ3,H0',si.trans (t1.trans s'),R',ei⟩
     |bk ρ3=>simp only[e3]at ei;cases ei;exact kk
     |rt d ρ3=>simp only[e3]at ei;cases ei;exact kk
     |rn d ρ3=>simp only[e3]at ei;cases ei;exact kk
  ·have ez:ds.drop i=[]:=jV (by omega);rw[ez]at ei;unfold forL at ei;cases ei;exact .inl ⟨(wk i Hi Hi' si Ri.sub).2 (by omega),k _ _ _ (s1.trans si) Ri⟩
def whL(c:FT)(b:FS):Nat->FS
 |0,_=>none
 |n+1,ρ=>match c ρ with
  |some (false,ρ1)=>some (.nx ρ1)
  |some (true,ρ1)=>match b ρ1 with
   |some (.nx ρ2)=>whL c b n ρ2
   |some (.ct ρ2)=>whL c b n ρ2
   |some (.bk ρ2)=>some (.nx ρ2)
   |some (.rt d ρ2)=>some (.rt d ρ2)
   |some (.rn d ρ2)=>some (.rn d ρ2)
   |none=>none
  |none=>none
theorem Hw{c:FT}{b:FS}(n:Nat)(h:PS X st (Iy (tFT G c) (tFS G b))):PS X st (tFS G (whL c b n)):=PS.weak h λE σ H hh=>by
 obtain⟨F,ρ,H0,o,R,e,k,k2⟩:=hh;refine⟨λm σ H=>∃ρi Hi,mI H0 Hi/\mJ G F σ ρi Hi H/\whL c b m ρi=some o,⟨n,ρ,H0,mI.refl _,R,e⟩,?_⟩;rintro m σi Hi' ⟨ρi,Hi,si,Ri,ei⟩;cases m with
 |zero=>cases ei
 |succ m=>
  unfold whL at ei;rcases mR (f:=c) (ρ:=ρi)with e1|⟨t,ρ1,e1⟩
  ·simp only[e1]at ei;cases ei
  ·refine⟨F,ρi,Hi,t,ρ1,Ri,e1,λH1 H1' s1 R1=>?_⟩;cases t with
   |false=>simp only[e1]at ei;cases ei;exact B4 (k _ _ _ (si.trans s1) R1)
   |true=>
    simp only[e1]at ei;refine B5 ⟨λσ' H'=>∃ρi Hi,mI H0 Hi/\mJ G F σ' ρi Hi H'/\whL c b m ρi=some o,λσ' H' q=>⟨m,cf m,q⟩,?_⟩;have kk:=k.back (si.trans s1);cases e3:b ρ1 with
    |none=>simp only[e3]at ei;cases ei
    |some q=>
     refine⟨F,ρ1,H1,q,R1,e3,?_,λ_=>rfl⟩;cases q with
     |nx ρ3=>simp only[e3]at ei;exact λσ' H0' H' s' R'=>⟨ρ3,H0',si.trans (s1.trans s'),R',ei⟩
     |ct ρ3=>simp only[e3]at ei;exact λσ' H0' H' s' R'=>⟨ρ3,H0',si.trans (s1.trans s'),R',ei⟩
     |bk ρ3=>simp only[e3]at ei;cases ei;exact kk
     |rt d ρ3=>simp only[e3]at ei;cases ei;exact kk
     |rn d ρ3=>simp only[e3]at ei;cases ei;exact kk
end
def Sl.cap:Sl->Sl
 |.im d=>.im d
 |.ls ds=>.pm ds
 |.pm ds=>.pm ds
 |_=>.un
def v9(k:Nat)(cap:List Nat)(ρ:List Sl):List Sl:=dw k .un++cap.map λj=>((ρ[j]?).getD .un).cap
def pT:List Nat->List Sl->List Sl->Option (List Sl)
 |[],_,ρ=>some ρ
 |j::cap,t::ts,ρ=>match oO ρ j with
  |some _=>match t with
   |.pm ds=>pT cap ts (putAt ρ j ds)
   |_=>none
  |none=>pT cap ts ρ
 |_::_,[],_=>none
def qz(k:Nat)(cap:List Nat)(g:FG)(ft:FT)(fe:FE):List D->List Sl->Option (List D×List Sl)
 |[],ρ=>some ([],ρ)
 |d::r,ρ=>match g d (v9 k cap ρ)with
  |none=>none
  |some ρ1=>match ft ρ1 with
   |some (true,ρ2)=>match fe ρ2 with
    |some (x,ρ3)=>match pT cap (ρ3.drop k) ρ with
     |some ρ'=>match qz k cap g ft fe r ρ' with
      |some (xs,ρ'')=>some (x::xs,ρ'')
      |none=>none
     |none=>none
    |none=>none
   |some (false,ρ2)=>match pT cap (ρ2.drop k) ρ with
    |some ρ'=>qz k cap g ft fe r ρ'
    |none=>none
   |none=>none
def mU(k:Nat)(cap:List Nat)(s:FA)(g:FG)(ft:FT)(fe:FE):FA:=λρ=>match s ρ with
 |some (ds,ρ')=>if ds.length<=1000 then qz k cap g ft fe ds ρ' else none
 |none=>none
def og:FT:=λρ=>some (true,ρ)
theorem tZ:∀{cap:List Nat} {ts ρ ρ':List Sl},pT cap ts ρ=some ρ'->ρ'.length=ρ.length/\
  (∀(j:Nat) (s':Sl),ρ'[j]?=some s'->∃s,ρ[j]?=some s/\((s'=s/\(s.L≠none->j∉cap))\/∃(m:Nat) (ds ds0:List D),cap[m]?=some j/\ts[m]?=some (Sl.pm ds)/\s.L=some ds0/\s'=s.putL ds))
 |[],ts,ρ,ρ',h=>by cases h;exact⟨rfl,λj s' e=>⟨s',e,.inl ⟨rfl,λ_ z=>by cases z⟩⟩⟩
 |j0::cap,[],ρ,ρ',h=>by cases h
 |j0::cap,t::ts,ρ,ρ',h=>by
  unfold pT at h;cases e0:oO ρ j0 with
  |none=>
   simp only[e0]at h;obtain⟨h1,h2⟩:=tZ h;refine⟨h1,λj s' e=>?_⟩;obtain⟨s,e1,q⟩:=h2 j s' e;refine⟨s,e1,?_⟩;rcases q with ⟨rfl,q⟩|⟨m,ds,ds0,q1,q2,q3,q4⟩
   ·refine .inl ⟨rfl,λz y=>?_⟩;rcases aD.mp y with y|y
    ·subst y;unfold oO at e0;rw[e1]at e0;exact z e0
    ·exact q z y
   ·exact .inr ⟨m+1,ds,ds0,q1,q2,q3,q4⟩
  |some ds1=>
   simp only[e0]at h;cases t with
   |pm ds=>
    simp only at h;obtain⟨s0,e1,e2⟩:=pI e0;unfold putAt at h;rw[e1]at h;simp only at h;obtain⟨h1,h2⟩:=tZ h;refine⟨by rw[h1,c5],λj s' e=>?_⟩;obtain⟨s,e3,q⟩:=h2 j s' e;by_cases hj:j0=j
    ·subst hj;rw[br,ag rfl]at e3;split at e3
     ·cases e3;refine⟨s0,e1,.inr ?_⟩;rcases q with ⟨rfl,q⟩|⟨m,ds',ds0,q1,q2,q3,q4⟩
      ·exact⟨0,ds,ds1,rfl,rfl,e2,rfl⟩
      ·refine⟨m+1,ds',ds1,q1,q2,e2,?_⟩;rw[q4];cases s0<;>rfl
     ·cases e3
    ·rw[br,af hj]at e3;refine⟨s,e3,?_⟩;rcases q with ⟨rfl,q⟩|⟨m,ds',ds0,q1,q2,q3,q4⟩
     ·refine .inl ⟨rfl,λz y=>?_⟩;rcases aD.mp y with y|y
      ·exact hj y.symm
      ·exact q z y
     ·exact .inr ⟨m+1,ds',ds0,q1,q2,q3,q4⟩
   |_=>cases h
def AL(cap:List Nat)(σ:St)(ρ:List Sl):List Addr:=cap.filterMap λj=>match oO ρ j,(σ[j]?).join with
 |some _,some (.ref a)=>some a
 |_,_=>none
theorem uQ{cap:List Nat}:a∈AL cap σ ρ ↔ ∃j∈cap,(∃ds,oO ρ j=some ds)/\(σ[j]?).join=some (.ref a):=by
 unfold AL;rw[ik];constructor
 ·rintro⟨j,hj,e⟩;refine⟨j,hj,?_⟩;split at e
  ·rename_i ds a' e1 e2;cases e;exact⟨⟨ds,e1⟩,e2⟩
  ·cases e
 ·rintro⟨j,hj,⟨ds,e1⟩,e2⟩;refine⟨j,hj,?_⟩;rw[e1,e2]
variable{H1':Hp}{ft:FT}{fe:FE}
section
variable{X:Cx}{G:Bg}{F:Fr}{σ:St}{ρ:List Sl}{H0 H:Hp}
theorem zI{k:Nat}{cap:List Nat}{s:Sl}(h:(v9 k cap ρ)[i]?=some s):s=.un\/∃m j,i=k+m/\cap[m]?=some j/\s=((ρ[j]?).getD .un).cap:=by
 unfold v9 at h;by_cases hi:i<k
 ·rw[cE (by simpa using hi),eX,ag hi]at h;cases h;exact .inl rfl
 ·rw[cD (by simpa using lq hi),bJ,aK]at h;cases e:cap[i - k]? with
  |none=>rw[e]at h;cases h
  |some j=>rw[e]at h;cases h;exact .inr ⟨i - k,j,by omega,e,rfl⟩
theorem wI{k:Nat}{cap:List Nat}{m:Nat}(h:cap[m]?=some j):((qd k cap σ)[k+m]?).join=(σ[j]?).join:=by unfold qd;rw[cD (by simp),bJ,show k+m - k=m by omega,aK,h];rfl
theorem mJ.cap(R:mJ G F σ ρ H0 H)(k:Nat)(cap:List Nat)(nd:cap.Nodup):mJ G ⟨H0,H,AL cap σ ρ⟩ (qd k cap σ) (v9 k cap ρ) H0 H where
 sub:=R.sub
 g0:=mI.refl _
 keep:=λb o e _=>e
 fr:=λb o e=>.inl e
 am:=λa ha=>by obtain⟨j,hj,⟨ds,e1⟩,e2⟩:=uQ.mp ha;obtain⟨s,e3,e4⟩:=pI e1;obtain⟨a',xs,h1,h2,_⟩:=(R.sl j s e3).lst e4;rw[e2]at h1;cases h1;exact⟨_,h2⟩
 len:=by unfold qd v9;rw[aB,aB,bJ,bJ,ah,ah]
 sl:=λi s e=>by
  rcases zI e with rfl|⟨m,j,rfl,e1,rfl⟩
  ·trivial
  ·rw[wI e1];cases e2:ρ[j]? with
   |none=>trivial
   |some s=>
    have ok:=R.sl j s e2;have mem:∀{a:Addr} {ds:List D},s.L=some ds->(σ[j]?).join=some (.ref a)->a∈AL cap σ ρ:=λh1 h2=>uQ.mpr ⟨j,bz e1,⟨_,by unfold oO;rw[e2];exact h1⟩,h2⟩;cases s with
    |un=>trivial
    |im d=>exact ok
    |ls ds=>obtain⟨a,xs,h1,h2,h3,h4,h5⟩:=ok;exact⟨a,xs,h1,h2,h3,mem rfl h1,h5⟩
    |pm ds=>obtain⟨a,xs,h1,h2,h3,h4,h5⟩:=ok;exact⟨a,xs,h1,h2,h3,mem rfl h1,h5⟩
    |dk ks ds=>trivial
    |ob c ns ds=>trivial
 ap:=λi i' s t a hii e e' so to v v'=>by
  rcases zI e with rfl|⟨m,j,rfl,e1,rfl⟩
  ·cases so
  rcases zI e' with rfl|⟨m',j',rfl,e1',rfl⟩
  ·cases to
  rw[wI e1]at v;rw[wI e1']at v';have own:∀{j:Nat},(((ρ[j]?).getD Sl.un).cap).own=true->∃s,ρ[j]?=some s/\s.own=true:=λ{j} h=>by
   cases z:ρ[j]? with
   |none=>rw[z]at h;cases h
   |some s=>rw[z]at h;refine⟨s,rfl,?_⟩;cases s<;>first|rfl|cases h
  obtain⟨s,z,zo⟩:=own so;obtain⟨s',z',zo'⟩:=own to;by_cases hj:j=j'
  ·subst hj;have:m=m':=(List.getElem?_inj (bx.mp e1).1 nd).mp (e1.trans e1'.symm);exact hii (by rw[this])
  ·exact R.ap j j' s s' a hj z z' zo zo' v v'
theorem mJ.uncap(R:mJ G F σ ρ H0 H){k:Nat}{cap:List Nat}{σ4:St}{ρ4:List Sl}(R4:mJ G ⟨H0,H,AL cap σ ρ⟩ σ4 ρ4 H1 H1')(hd:σ4.drop k=(qd k cap σ).drop k)(hu:pT cap (ρ4.drop k) ρ=some ρ'):mJ G F σ ρ' H1 H1':=by
 obtain⟨hl,hc⟩:=tZ hu;have at4:∀{m j:Nat},cap[m]?=some j->(σ4[k+m]?).join=(σ[j]?).join:=λ{m j} e=>by
  have q:(σ4.drop k)[m]?=((qd k cap σ).drop k)[m]?:=by rw[hd]
  rw[cW,cW]at q;rw[q];exact wI e
 have nA:∀{j:Nat} {s:Sl} {a:Addr},ρ[j]?=some s->s.own=true->(σ[j]?).join=some (.ref a)->(s.L≠none->j∉cap)->a∉AL cap σ ρ:=λ{j s a} e so z hn ha=>by
  obtain⟨i,hi,⟨ds,e1⟩,e2⟩:=uQ.mp ha;obtain⟨t,e3,e4⟩:=pI e1;by_cases hij:i=j
  ·subst hij;rw[e]at e3;cases e3;exact hn (by rw[e4];simp) hi
  ·exact R.ap i j t s a hij e3 e (Sl.L_own e4) so e2 z
 have hA:∀a∈AL cap σ ρ,F.B a=none\/a∈F.A:=λa ha=>by obtain⟨i,hi,⟨ds,e1⟩,e2⟩:=uQ.mp ha;obtain⟨t,e3,e4⟩:=pI e1;obtain⟨a',u,h1,h2,h3,h4⟩:=(R.sl i t e3).at (Sl.L_own e4);rw[e2]at h1;cases h1;exact h4
 have own':∀{j:Nat} {s':Sl},ρ'[j]?=some s'->s'.own=true->∃s,ρ[j]?=some s/\s.own=true:=λ{j s'} e so=>by
  obtain⟨s,e1,q⟩:=hc j s' e;rcases q with ⟨rfl,q⟩|⟨m,ds,ds0,q1,q2,q3,q4⟩
  ·exact⟨s',e1,so⟩
  ·exact⟨s,e1,Sl.L_own q3⟩
 exact {
  sub:=R4.sub
  g0:=R.g0.trans R4.g0
  keep:=λb o e n=>by
   refine R4.keep b o (R.keep b o e n) λha=>?_;rcases hA b ha with q|q
   ·rw[q]at e;cases e
   ·exact n q
  fr:=λb o e=>by
   rcases R4.fr b o e with q|q
   ·exact R.fr b o q
   ·exact .inr (R.bNone q)
  am:=λa ha=>by
   obtain⟨o,q⟩:=R.am a ha;by_cases z:a∈AL cap σ ρ
   ·exact R4.am a z
   ·exact⟨o,R4.keep a o q z⟩
  len:=by rw[hl];exact R.len
  sl:=λj s' e=>by
   obtain⟨s,e1,q⟩:=hc j s' e;rcases q with ⟨rfl,q⟩|⟨m,ds,ds0,q1,q2,q3,q4⟩
   ·refine(R.sl j s' e1).grow R4.g0 (λa u z so y=>R4.keep a u y (nA e1 so z q)) λa u z so y y0=>?_;cases w:H1 a with
    |none=>rfl
    |some o=>
     rcases R4.fr a o w with x|x
     ·have x':H0 a=some o:=x;rw[x']at y0;cases y0
     ·have x':H a=none:=x;rw[x']at y;cases y
   ·rw[cW]at q2;obtain⟨a,xs,h1,h2,h3,h4,h5⟩:=R4.sl _ _ q2;rw[at4 q1]at h1;have ok:=R.sl j s e1;subst q4;cases s with
    |ls ds1=>obtain⟨a',xs',g1,g2,g3,g4,g5⟩:=ok;rw[h1]at g1;cases g1;exact⟨a,xs,h1,h2,h3,g4,h5⟩
    |pm ds1=>obtain⟨a',xs',g1,g2,g3,g4,g5⟩:=ok;rw[h1]at g1;cases g1;exact⟨a,xs,h1,h2,h3,g4,h5⟩
    |_=>cases q3
  ap:=λi j s t a hij ei ej so to v v'=>by
   obtain⟨s0,z,zo⟩:=own' ei so;obtain⟨t0,y,yo⟩:=own' ej to;exact R.ap i j s0 t0 a hij z y zo yo v v' }
theorem uR{k:Nat}{cap:List Nat}{ts:List Sl}{p:Addr}(h:Apart σ ρ p)(hu:pT cap ts ρ=some ρ'):Apart σ ρ' p:=λi s' e so=>by
 obtain⟨s,e1,q⟩:=(tZ hu).2 i s' e;rcases q with ⟨rfl,q⟩|⟨m,ds,ds0,q1,q2,q3,q4⟩
 ·exact h i s' e1 so
 ·exact h i s e1 (Sl.L_own q3)
theorem B9{k:Nat}{cap:List Nat}{s:FA}{g:FG}(nd:cap.Nodup):∀σ H Q,tFN G (mU k cap s g ft fe) σ H Q->yg (tFI G s) (tFG G k g) (tFT G ft) (tF G fe) k cap σ H Q:=λσ H Q hh=>by
 obtain⟨F,ρ,H0,es,ρ',R,e,kk⟩:=hh;unfold mU at e;rcases mR (f:=s) (ρ:=ρ)with e1|⟨ds,ρ1,e1⟩<;>simp only[e1]at e
 ·cases e
 ·split at e
  ·rename_i hlen;refine⟨F,ρ,H0,ds,ρ1,R,e1,λJ H1 H1' s1 R1 wk p hp=>?_⟩;refine⟨λi m acc H2=>m=ds.length - i/\i<=ds.length/\∃ρi Hi dn rest,mI H1 Hi/\mJ G F σ ρi Hi H2/\H2 p=some (.lst acc)/\Hi p=none/\Apart σ ρi p/\mB G Hi dn acc/\dn.length<=i/\qz k cap g ft fe (ds.drop i) ρi=some (rest,ρ')/\es=dn++rest,
    ⟨_,rfl,aY _,ρ1,H1,[],es,mI.refl _,R1.newOwn hp _,mF,R1.h0none hp,R1.apart hp,mV,aw _,e,rfl⟩,?_⟩
   rintro i m acc H2 ⟨rfl,hi,ρi,Hi,dn,rest,si,Ri,hp2,hp0,apt,rs,hdn,ei,rfl⟩;by_cases hlt:i<ds.length
   ·have ed:ds.drop i=ds[i]::ds.drop (i+1):=gX hlt;rw[ed]at ei;unfold qz at ei;obtain⟨go,yl⟩:=(wk i Hi H2 si Ri.sub).1 ds[i] (az hlt);refine .inr ⟨go,λx H3 y=>?_⟩;obtain⟨Hj,t1,t2,t3,t4,t5⟩:=yl x H3 y;have R2:=Ri.grow t3 t1 t2 t4;have hp3:H3 p=some (.lst acc):=t3 _ _ hp2;have hpj:Hj p=none:=by
     cases w:Hj p with
     |none=>rfl
     |some o=>
      rcases t4 p o w with z|z
      ·rw[hp0]at z;cases z
      ·rw[hp2]at z;cases z
    have RC:=R2.cap k cap nd;have npA:p∉AL cap σ ρi:=λz=>by obtain⟨j,_,⟨ds',q1⟩,q2⟩:=uQ.mp z;obtain⟨t,q3,q4⟩:=pI q1;exact apt j t q3 (Sl.L_own q4) q2
    cases e2:g ds[i] (v9 k cap ρi)with
    |none=>simp only[e2]at ei;cases ei
    |some ρ2=>
     simp only[e2]at ei;refine⟨_,_,Hj,ds[i],ρ2,RC,t5,e2,λσ4 hd4 R4=>⟨hd4,?_⟩⟩;rcases mR (f:=ft) (ρ:=ρ2)with e3|⟨b,ρ3,e3⟩
     ·simp only[e3]at ei;cases ei
     ·refine⟨_,ρ2,Hj,b,ρ3,R4,e3,λH5 H5' s5 R5=>?_⟩;have keepP:∀{σ':St} {ρ'':List Sl} {Ha Ha':Hp},mJ G ⟨Hj,H3,AL cap σ ρi⟩ σ' ρ'' Ha Ha'->Ha' p=some (.lst acc)/\Ha p=none:=λRz=>by
       refine⟨Rz.keep p _ hp3 npA,?_⟩;refine Option.eq_none_iff_forall_ne_some.mpr λo w2=>?_;rcases Rz.fr p o w2 with z|z
       ·have z':Hj p=some o:=z;rw[hpj]at z';cases z'
       ·have z':H3 p=none:=z;rw[hp3]at z';cases z'
      cases b with
      |false=>
       simp only[e3]at ei;refine B4 ?_;cases e4:pT cap (ρ3.drop k) ρi with
       |none=>simp only[e4]at ei;cases ei
       |some ρn=>simp only[e4]at ei;obtain⟨w1,w2⟩:=keepP R5;exact⟨ds.length - (i+1),by omega,rfl,hlt,ρn,H5,dn,rest,si.trans (t1.trans s5),R2.uncap R5 hd4 e4,w1,w2,uR (k:=k) apt e4,mB.mono (t1.trans s5) _ _ rs,by omega,ei,rfl⟩
      |true=>
       simp only[e3]at ei;refine B5 ?_;rcases mR (f:=fe) (ρ:=ρ3)with e5|⟨x5,ρ5,e5⟩
       ·simp only[e5]at ei;cases ei
       ·simp only[e5]at ei;refine⟨_,ρ3,H5,x5,ρ5,R5,e5,λv H6 H6' s6 R6 rv=>?_⟩;obtain⟨w1,w2⟩:=keepP R6;cases e4:pT cap (ρ5.drop k) ρi with
        |none=>simp only[e4]at ei;cases ei
        |some ρn=>
         simp only[e4]at ei;cases e6:qz k cap g ft fe (ds.drop (i+1)) ρn with
         |none=>simp only[e6]at ei;cases ei
         |some q=>
          obtain⟨rest',ρz⟩:=q;simp only[e6]at ei;cases ei;have Rn:=R2.uncap R6 hd4 e4;have lacc:acc.length=dn.length:=(mE rs).symm;refine⟨acc,w1,vt (by omega),ds.length - (i+1),by omega,rfl,hlt,ρn,H6,dn++[x5],rest',si.trans (t1.trans (s5.trans s6)),?_,mF,w2,uR (k:=k) apt e4,oX (mB.mono (t1.trans (s5.trans s6)) _ _ rs) (mW rv mV),by rw[aB,aZ];omega,e6,by rw[ba];rfl⟩;exact {
           sub:=λb o e=>by rw[mG (λz=>by rw[z,w2]at e;cases e)];exact Rn.sub b o e
           g0:=Rn.g0
           keep:=λb o e n=>by rw[mG (λz=>by subst z;rw[R1.bNone hp]at e;cases e)];exact Rn.keep b o e n
           fr:=Rn.fr
           am:=λb hb=>by
            by_cases z:b=p
            ·subst z;exact⟨_,mF⟩
            ·rw[mG z];exact Rn.am b hb
           len:=Rn.len
           sl:=λj t ej=>(Rn.sl j t ej).grow (mI.refl _) (λb u z to q=>by rw[mG (λy=>uR (k:=k) apt e4 j t ej to (by rw[z,y]))];exact q) λb u _ _ _ q=>q
           ap:=Rn.ap }
   ·have ez:ds.drop i=[]:=jV (by omega);rw[ez]at ei;unfold qz at ei;cases ei;rw[aU]at kk;exact .inl ⟨(wk i Hi H2 si Ri.sub).2 (by omega),kk p acc Hi H2 (s1.trans si) Ri hp2 hp0 (R1.bNone hp) apt rs⟩
  ·cases e
theorem Jx{k:Nat}{cap:List Nat}{s:FA}{g:FG}(nd:cap.Nodup)(h:PE X e (yg (tFI G s) (tFG G k g) (tFT G ft) (tF G fe) k cap)):PE X e (tFN G (mU k cap s g ft fe)):=PE.weak h (B9 nd)
theorem Jy:PIf X [] (tFT G og):=λpins s σ H Q I h=>by obtain⟨F,ρ,H0,b,ρ',R,e,k⟩:=h;cases e;exact L7 pins s σ H Q I (k _ _ (mI.refl _) R)
end
def pA:D->Bool
 |.non=>true|.bl _=>true|.int _=>true|.str _=>true|_=>false
def vD:D->V
 |.non=>.non|.bl b=>.bl b|.int i=>.int i|.str x=>.str x|_=>.non
variable{r':R2}{g':D->D->Option D}{neg:Bool}{r:List V->Hp->VK->Prop}
section
variable{X:Cx}{G:Bg}{H:Hp}
theorem qY{v:V}(h:Rep G H d v)(f:pA d=true):v=vD d:=by cases d<;>first|(unfold Rep at h;exact h)|cases f
theorem wJ(f:pA d=true):∀H,Rep G H d (vD d):=λH=>by cases d<;>first|(unfold Rep;rfl)|cases f
theorem xG:∀{ds:List D} {xs:List V},mB G H ds xs->ds.all pA=true->xs=ds.map vD
 |[],xs,h,f=>by unfold mB at h;exact h
 |d::ds,xs,h,f=>by unfold mB at h;obtain⟨v,r,rfl,h1,h2⟩:=h;rw[eF,aL]at f;rw[au,qY h1 f.1,xG h2 f.2]
theorem DF(f:pA d=true):vM (vD d)=true:=by cases d<;>first|rfl|cases f
theorem Bi:∀{ds:List D},ds.all pA=true->(ds.map vD).all vM=true
 |[],_=>rfl
 |d::ds,f=>by rw[eF,aL]at f;rw[au,eF,DF f.1,Bi f.2];rfl
theorem OpR.or{f:aa->aa->Sem aa}{r:R2}(h:OpR X f r)(h':OpR X f r'):OpR X f (λx y H Q=>r x y H Q\/r' x y H Q):=λpins s σ H x y v u Q I rx ry q=>q.elim (h pins s σ H x y v u Q I rx ry) (h' pins s σ H x y v u Q I rx ry)
theorem OpD.or{r:R2}{g:D->D->Option D}(h:OpD G r g)(h':OpD G r' g'):OpD G (λx y H Q=>r x y H Q\/r' x y H Q) (λx y=>match g x y with|some z=>some z|none=>g' x y):=λx y z H0 H v u Q e s rx ry k=>by
 cases e1:g x y with
 |some w=>simp only[e1]at e;cases e;exact .inl (h x y _ H0 H v u Q e1 s rx ry k)
 |none=>simp only[e1]at e;exact .inr (h' x y z H0 H v u Q e s rx ry k)
def dI(C:Int->Int->Bool)(g:Int->Int->D):D->D->Option D
 |.int a,.int b=>if C a b=true then some (g a b)else none
 |_,_=>none
theorem F3{C:Int->Int->Bool}{C':Int->Int->Prop}{g:Int->Int->D}{g':Int->Int->V}(hC:∀a b,C a b=true->C' a b)(hf:∀a b,pA (g a b)=true/\vD (g a b)=g' a b):OpD G (rI C' g') (dI C g):=λx y z H0 H v u Q e s rx ry k=>by
 unfold dI at e;split at e
 ·rename_i a b;split at e
  ·rename_i hc;cases e;unfold Rep at rx ry;exact⟨a,b,rx,ry,hC _ _ hc,by rw[<-(hf a b).2];exact k _ λH0' _=>wJ (hf a b).1 H0'⟩
  ·cases e
 ·cases e
theorem xH{g:Int->Int->D}{g':Int->Int->V}(hf:∀a b,pA (g a b)=true/\vD (g a b)=g' a b):OpD G (rI0 g') (dI (λ_ _=>true) g):=λx y z H0 H v u Q e s rx ry k=>by
 unfold dI at e;split at e
 ·rename_i a b;split at e
  ·cases e;unfold Rep at rx ry;exact⟨a,b,rx,ry,by rw[<-(hf a b).2];exact k _ λH0' _=>wJ (hf a b).1 H0'⟩
  ·cases e
 ·cases e
def nQ:=dI (λ_ _=>true) λa b=>.int (a+b)
def F4:=dI (λ_ _=>true) λa b=>.int (a - b)
def wa(a:Int):Bool:=decide (-(2 ^ 64)<a)&&decide (a<2 ^ 64)
def qZ:=dI (λa b=>wa a||wa b) λa b=>.int (a * b)
def oP:=dI (λ_ b=>decide (0<b)) λa b=>.int (a % b)
def vR:=dI (λ_ b=>decide (0<b)&&decide (b<1073741824)) λa b=>.int (a / b)
def yi:=dI (λa b=>decide (0<=b)&&decide (b<=1000000)&&decide (a.natAbs<2 ^ 64)) λa b=>.int (a ^ b.toNat)
def AM:=dI (λ_ _=>true) λa b=>.bl (decide (a<b))
def sj:=dI (λ_ _=>true) λa b=>.bl (decide (a<=b))
def AN:=dI (λ_ _=>true) λa b=>.bl (decide (b<a))
def Pz:=dI (λ_ _=>true) λa b=>.bl (decide (b<=a))
theorem PB:OpD G (rI0 λi j=>.int (i+j)) nQ:=xH λ_ _=>⟨rfl,rfl⟩
theorem PD:OpD G (rI0 λi j=>.int (i - j)) F4:=xH λ_ _=>⟨rfl,rfl⟩
theorem PF:OpD G (rI LF λi j=>.int (i * j)) qZ:=F3 (λa b h=>by
 unfold wa at h;simp only[iP,aL,bu]at h;exact h) λ_ _=>⟨rfl,rfl⟩
theorem PH:OpD G (rI (λ_ j=>0<j) λi j=>.int (i % j)) oP:=F3 (λa b h=>by simpa using h) λ_ _=>⟨rfl,rfl⟩
theorem PJ:OpD G (rI OT λi j=>.int (i / j)) vR:=F3 (λa b h=>by unfold OT;simpa using h) λ_ _=>⟨rfl,rfl⟩
theorem PK:OpD G (rI SX λi j=>.int (i ^ j.toNat)) yi:=F3 (λa b h=>by
 simp only[aL,bu]at h;exact⟨h.1.1,h.1.2,h.2⟩) λ_ _=>⟨rfl,rfl⟩
theorem TB:OpD G (rI0 λi j=>.bl (decide (i<j))) AM:=xH λ_ _=>⟨rfl,rfl⟩
theorem TC:OpD G (rI0 λi j=>.bl (decide (i<=j))) sj:=xH λ_ _=>⟨rfl,rfl⟩
theorem TF:OpD G (rI0 λi j=>.bl (decide (j<i))) AN:=xH λ_ _=>⟨rfl,rfl⟩
theorem TH:OpD G (rI0 λi j=>.bl (decide (j<=i))) Pz:=xH λ_ _=>⟨rfl,rfl⟩
def UQ:D->D->Option D
 |.str a,.str b=>if a.length+b.length<=100000 then some (.str (a++b))else none
 |_,_=>none
theorem DG{n:Nat}(h:n<=100000):n<=sizeLine:=bF h (by rw[aT];decide)
def Jz:D->D->Option D
 |.str a,.str b=>some (.bl (!decide (b.cps.toList<a.cps.toList)))
 |_,_=>none
theorem PL:OpD G (λx y H Q=>∃i j,x=.str i/\y=.str j/\Q (.bl (!decide (j.cps.toList<i.cps.toList))) H) Jz:=λx y z H0 H v u Q e s rx ry k=>by
 unfold Jz at e;split at e
 ·rename_i a b;cases e;unfold Rep at rx ry;exact⟨a,b,rx,ry,k _ λ_ _=>o9 _⟩
 ·cases e
def wb:D->D->Option D
 |.non,.non=>some (.bl true)
 |_,.non=>some (.bl false)
 |_,_=>none
def DH:D->D->Option D
 |.non,.non=>some (.bl false)
 |_,.non=>some (.bl true)
 |_,_=>none
theorem F5{v:V}(h:Rep G H d v):decide (v=.non)=(match d with|.non=>true|_=>false):=by
 cases d<;>unfold Rep at h
 ·subst h;rfl
 ·subst h;rfl
 ·subst h;rfl
 ·subst h;rfl
 ·obtain⟨a,xs,rfl,_⟩:=h;rfl
 ·obtain⟨a,xs,rfl,_⟩:=h;rfl
 ·obtain⟨a,xs,rfl,_⟩:=h;rfl
 ·obtain⟨a,dx,xs,rfl,_⟩:=h;rfl
 ·obtain⟨a,ob,xs,rfl,_⟩:=h;rfl
theorem PM:OpD G (λx y H Q=>y=.non/\Q (.bl (decide (x=.non))) H) wb:=λx y z H0 H v u Q e s rx ry k=>by
 have e0:=F5 rx;cases y<;>first|(cases x<;>cases e)|skip
 all_goals (unfold Rep at ry;refine⟨ry,?_⟩;rw[e0];exact k _ λ_ _=>o9 _)
theorem MM:OpD G (λx y H Q=>y=.non/\Q (.bl (!decide (x=.non))) H) DH:=λx y z H0 H v u Q e s rx ry k=>by
 have e0:=F5 rx;cases y<;>first|(cases x<;>cases e)|skip
 all_goals (unfold Rep at ry;refine⟨ry,?_⟩;rw[e0];exact k _ λ_ _=>o9 _)
def UB:D->D->Option D
 |.bl a,.bl b=>some (.bl (a != b))
 |_,_=>none
mutual
def toD:D->Option L3.Dq
 |.non=>some .non
 |.bl b=>some (.bl b)
 |.int i=>some (.int i)
 |.str x=>some (.str x)
 |.tup ds=>match uL ds with
  |some l=>some (.tup l)
  |none=>none
 |.lst ds=>match uL ds with
  |some l=>some (.lst l)
  |none=>none
 |.fzl _=>none
 |.obj _ _ _=>none
 |.dic _ _=>none
def uL:List D->Option (List L3.Dq)
 |[]=>some []
 |d::ds=>match toD d with
  |some x=>match uL ds with
   |some l=>some (x::l)
   |none=>none
  |none=>none
end
mutual
theorem Ca:∀(d:D) (v:V) (x:L3.Dq),Rep G H d v->toD d=some x->L3.Rep G.K H x v
 |.non,v,x,h,e=>by unfold toD at e;cases e;unfold Rep at h;unfold L3.Rep;exact h
 |.bl b,v,x,h,e=>by unfold toD at e;cases e;unfold Rep at h;unfold L3.Rep;exact h
 |.int b,v,x,h,e=>by unfold toD at e;cases e;unfold Rep at h;unfold L3.Rep;exact h
 |.str b,v,x,h,e=>by unfold toD at e;cases e;unfold Rep at h;unfold L3.Rep;exact h
 |.tup ds,v,x,h,e=>by
  unfold toD at e;cases e1:uL ds with
  |none=>simp only[e1]at e;cases e
  |some l=>simp only[e1]at e;cases e;unfold Rep at h;obtain⟨a,xs,rfl,h1,h2⟩:=h;unfold L3.Rep;exact⟨a,xs,rfl,h1,zJ ds xs l h2 e1⟩
 |.lst ds,v,x,h,e=>by
  unfold toD at e;cases e1:uL ds with
  |none=>simp only[e1]at e;cases e
  |some l=>simp only[e1]at e;cases e;unfold Rep at h;obtain⟨a,xs,rfl,h1,h2⟩:=h;unfold L3.Rep;exact⟨a,xs,rfl,SqL.of h1,zJ ds xs l h2 e1⟩
 |.fzl _,v,x,h,e=>by unfold toD at e;cases e
 |.obj _ _ _,v,x,h,e=>by unfold toD at e;cases e
 |.dic _ _,v,x,h,e=>by unfold toD at e;cases e
theorem zJ:∀(ds:List D) (xs:List V) (l:List L3.Dq),mB G H ds xs->uL ds=some l->L3.mB G.K H l xs
 |[],xs,l,h,e=>by unfold uL at e;cases e;unfold mB at h;unfold L3.mB;exact h
 |d::ds,xs,l,h,e=>by
  unfold uL at e;cases e1:toD d with
  |none=>simp only[e1]at e;cases e
  |some x=>
   simp only[e1]at e;cases e2:uL ds with
   |none=>simp only[e2]at e;cases e
   |some l'=>simp only[e2]at e;cases e;unfold mB at h;obtain⟨v,r,rfl,h1,h2⟩:=h;unfold L3.mB;exact⟨v,r,rfl,Ca d v x h1 e1,zJ ds r l' h2 e2⟩
end
def AO(neg:Bool):D->D->Option D:=λx y=>match pA x&&pA y&&IF (vD x) (vD y)with
 |true=>some (.bl (if neg then !decide (vD x=vD y)else decide (vD x=vD y)))
 |false=>none
def DI(neg:Bool):D->D->Option D:=λx y=>match toD x,toD y with
 |some a,some b=>if Dn a b&&decide (dpt a<=20)&&decide (dpt b<=20)then some (.bl (if neg then !eqD a b else eqD a b))else none
 |_,_=>none
def dEq(neg:Bool):D->D->Option D:=λx y=>match AO neg x y with
 |some z=>some z
 |none=>DI neg x y
theorem PN:OpD G rEq (AO false):=λx y z H0 H v u Q e s rx ry k=>by
 unfold AO at e;cases e1:pA x&&pA y&&IF (vD x) (vD y)with
 |false=>simp only[e1]at e;cases e
 |true=>simp only[e1]at e;cases e;simp only[aL]at e1;rw[qY rx e1.1.1,qY ry e1.1.2];exact⟨e1.2,k _ λ_ _=>o9 _⟩
theorem PQ:OpD G rNe (AO true):=λx y z H0 H v u Q e s rx ry k=>by
 unfold AO at e;cases e1:pA x&&pA y&&IF (vD x) (vD y)with
 |false=>simp only[e1]at e;cases e
 |true=>simp only[e1]at e;cases e;simp only[aL]at e1;rw[qY rx e1.1.1,qY ry e1.1.2];exact⟨e1.2,k _ λ_ _=>o9 _⟩
theorem JA:OpD G (EW G.K neg) (DI neg):=λx y z H0 H v u Q e s rx ry k=>by
 unfold DI at e;cases e1:toD x with
 |none=>simp only[e1]at e;cases e
 |some a=>
  cases e2:toD y with
  |none=>simp only[e1,e2]at e;cases e
  |some b=>
   simp only[e1,e2]at e;split at e
   ·rename_i hc;cases e;simp only[aL,bu]at hc;exact⟨a,b,Ca x v a (Rep.mono s _ _ rx) e1,Ca y u b (Rep.mono s _ _ ry) e2,hc.1.1,hc.1.2,hc.2,k _ λ_ _=>o9 _⟩
   ·cases e
theorem PR(hu:X.A.units+64<cLine)(hK:X.K=G.K:=by rfl):OpR X (compareOp .Eq) (λx y H Q=>rEq x y H Q\/EW G.K false x y H Q):=by rw[<-hK];exact OpR.or SY (Ph hu)
theorem PU(hu:X.A.units+64<cLine)(hK:X.K=G.K:=by rfl):OpR X (compareOp .NotEq) (λx y H Q=>rNe x y H Q\/EW G.K true x y H Q):=by rw[<-hK];exact OpR.or SZ (Pi hu)
theorem TJ:OpD G (λx y H Q=>rEq x y H Q\/EW G.K false x y H Q) (dEq false):=OpD.or PN JA
theorem TL:OpD G (λx y H Q=>rNe x y H Q\/EW G.K true x y H Q) (dEq true):=OpD.or PQ JA
def JB:D->Option (List D)
 |.tup ds=>some ds
 |.lst ds=>some ds
 |.fzl ds=>some ds
 |_=>none
theorem F6{v:V}(h:Rep G H d v)(e:JB d=some ds):∃p xs,v=.ref p/\(SqL G.K H p xs\/SqT G.K H p xs)/\mB G H ds xs:=by
 cases d with
 |tup l=>cases e;unfold Rep at h;obtain⟨a,xs,rfl,h1,h2⟩:=h;exact⟨a,xs,rfl,.inr h1,h2⟩
 |lst l=>cases e;unfold Rep at h;obtain⟨a,xs,rfl,h1,h2⟩:=h;exact⟨a,xs,rfl,.inl (SqL.of h1),h2⟩
 |fzl l=>cases e;unfold Rep at h;obtain⟨a,xs,rfl,h1,h2⟩:=h;exact⟨a,xs,rfl,.inl h1,h2⟩
 |_=>cases e
def dIn(neg:Bool):D->D->Option D:=λx y=>match JB y with
 |some ds=>if pA x&&ds.all pA then some (.bl (if neg then !inV (vD x) (ds.map vD)else inV (vD x) (ds.map vD)))else none
 |none=>none
theorem F7{K:aj}{H:Hp}{p:Addr}(s:mI H H')(h:SqL K H p xs\/SqT K H p xs):SqL K H' p xs\/SqT K H' p xs:=h.imp s.seq (SqT.mono s)
theorem Og:OpD G (rIn G.K neg) (dIn neg):=λx y z H0 H v u Q e s rx ry k=>by
 unfold dIn at e;cases e1:JB y with
 |none=>simp only[e1]at e;cases e
 |some ds=>
  simp only[e1]at e;split at e
  ·rename_i hc;cases e;simp only[aL]at hc;obtain⟨p,xs,rfl,h1,h2⟩:=F6 ry e1;refine⟨p,xs,rfl,F7 s h1,?_,?_,?_⟩
   ·rw[qY rx hc.1];exact DF hc.1
   ·rw[xG h2 hc.2];exact Bi hc.2
   ·rw[qY rx hc.1,xG h2 hc.2];exact k _ λ_ _=>o9 _
  ·cases e
theorem PV(hK:X.K=G.K:=by rfl):OpR X (compareOp .In) (rIn G.K false):=by rw[<-hK];exact G8
theorem Hy(hK:X.K=G.K:=by rfl):OpR X (compareOp .NotIn) (rIn G.K true):=by rw[<-hK];exact BW
def dIx:D->D->Option D
 |.tup ds,.int i=>atI ds i
 |.lst ds,.int i=>atI ds i
 |.fzl ds,.int i=>atI ds i
 |.str x,.int i=>if x.length<=100000 then (atI x.cps.toList i).map λc=>.str ⟨#[c]⟩else none
 |_,_=>none
theorem TM:OpD G (rIx G.K) dIx:=λx y z H0 H v u Q e s rx ry k=>by
 cases y with
 |int i=>
  unfold Rep at ry;subst ry;cases x with
  |tup ds=>unfold Rep at rx;obtain⟨a,xs,rfl,h1,h2⟩:=rx;obtain⟨w,w1,w2⟩:=wH h2 (show atI ds i=some z from e);exact .inr (.inl ⟨a,xs,i,w,rfl,rfl,SqT.mono s h1,w1,k _ λH0' s'=>Rep.mono s' _ _ w2⟩)
  |lst ds=>unfold Rep at rx;obtain⟨a,xs,rfl,h1,h2⟩:=rx;obtain⟨w,w1,w2⟩:=wH h2 (show atI ds i=some z from e);exact .inl ⟨a,xs,i,w,rfl,rfl,s.seq (SqL.of h1),w1,k _ λH0' s'=>Rep.mono s' _ _ w2⟩
  |fzl ds=>unfold Rep at rx;obtain⟨a,xs,rfl,h1,h2⟩:=rx;obtain⟨w,w1,w2⟩:=wH h2 (show atI ds i=some z from e);exact .inl ⟨a,xs,i,w,rfl,rfl,s.seq h1,w1,k _ λH0' s'=>Rep.mono s' _ _ w2⟩
  |str t=>
   unfold Rep at rx;subst rx;unfold dIx at e;simp only at e;split at e
   ·rename_i hl;cases e1:atI t.cps.toList i with
    |none=>rw[e1]at e;cases e
    |some c=>rw[e1]at e;cases e;exact .inr (.inr ⟨t,i,c,rfl,rfl,DG hl,e1,k _ λ_ _=>rl _⟩)
   ·cases e
  |_=>cases e
 |_=>cases x<;>cases e
theorem UM(hK:X.K=G.K:=by rfl):IxR X (rIx G.K):=by rw[<-hK];exact O5
def Bj(G:Bg)(r:List V->Hp->VK->Prop)(g:D->Option D):Prop:=∀x z H0 H v (Q:VK),g x=some z->mI H0 H->Rep G H0 x v->(∀w,(∀H0',mI H0 H0'->Rep G H0' z w)->Q w H)->r [v] H Q
theorem Oh{g:D->Option D}(hr:Bj G r g)(h:PE X e (tCB r (tFA G (mi f mw)))):PE X e (tF G (c1 g f)):=PE.weak h λσ H Q hh=>by obtain⟨F,ρ,H0,d,ρ',R,e,k⟩:=hh;obtain⟨x,e1,e2⟩:=ze e;refine⟨F,ρ,H0,[x],ρ',R,by unfold mi;rw[e1];rfl,λys H1 H1' s R' rs=>?_⟩;unfold mB at rs;obtain⟨v,r0,rfl,rv,rn⟩:=rs;unfold mB at rn;subst rn;exact hr x d H1 H1' v Q e2 R'.sub rv λw hw=>k _ _ _ s R' (hw _ (mI.refl _))
theorem oa.or{f:aa}{r':List V->Hp->VK->Prop}(h:oa X f r)(h':oa X f r'):oa X f (λx H Q=>r x H Q\/r' x H Q):=λpins s σ H xs us Q I rv q=>q.elim (h pins s σ H xs us Q I rv) (h' pins s σ H xs us Q I rv)
def oB:D->Option D
 |.tup ds=>some (.int ds.length)
 |.lst ds=>some (.int ds.length)
 |.fzl ds=>some (.int ds.length)
 |.str x=>if x.length<=100000 then some (.int x.length)else none
 |.dic ks ds=>some (.int ks.length)
 |_=>none
theorem Hz:oa X (.builtin "len") (λxs H Q=>∃a kvs,xs=[V.ref a]/\Rd H a (.dK kvs)/\Q (.int kvs.length) H):=by intro pins s σ H xs us Q I r h;obtain⟨a,kvs,rfl,ha,q⟩:=h;obtain⟨u,rfl,ru⟩:=vals1 r;cases ru;exact Tg I ha λt s' I'=>⟨.int kvs.length,H,I',⟨t,rfl⟩,q⟩
def Oi(K:aj):List V->Hp->VK->Prop:=λxs H Q=>(∃p ys,xs=[.ref p]/\(SqL K H p ys\/SqT K H p ys)/\Q (.int ys.length) H)\/((∃z,xs=[.str z]/\z.length<=sizeLine/\Q (.int z.length) H)\/(∃a kvs,xs=[V.ref a]/\Rd H a (.dK kvs)/\Q (.int kvs.length) H))
theorem HA(hK:X.K=G.K:=by rfl):oa X (.builtin "len") (Oi G.K):=by rw[<-hK];exact oa.or BX (oa.or BY Hz)
theorem PX:Bj G (Oi G.K) oB:=λx z H0 H v Q e s rx k=>by
 cases x with
 |tup ds=>cases e;unfold Rep at rx;obtain⟨a,xs,rfl,h1,h2⟩:=rx;refine .inl ⟨a,xs,rfl,.inr (SqT.mono s h1),?_⟩;rw[<-mE h2];exact k _ λ_ _=>pd _
 |lst ds=>cases e;unfold Rep at rx;obtain⟨a,xs,rfl,h1,h2⟩:=rx;refine .inl ⟨a,xs,rfl,.inl (s.seq (SqL.of h1)),?_⟩;rw[<-mE h2];exact k _ λ_ _=>pd _
 |fzl ds=>cases e;unfold Rep at rx;obtain⟨a,xs,rfl,h1,h2⟩:=rx;refine .inl ⟨a,xs,rfl,.inl (s.seq h1),?_⟩;rw[<-mE h2];exact k _ λ_ _=>pd _
 |str t=>
  unfold oB at e;simp only at e;split at e
  ·rename_i hl;cases e;unfold Rep at rx;exact .inr (.inl ⟨t,by rw[rx],DG hl,k _ λ_ _=>pd _⟩)
  ·cases e
 |dic ks ds=>cases e;unfold Rep at rx;obtain⟨a,o,xs,rfl,h1,h2,h3⟩:=rx;refine .inr (.inr ⟨a,_,rfl,.inr ⟨o,s _ _ h1⟩,?_⟩);rw[eC,<- h2,eM];exact k _ λ_ _=>pd _
 |_=>cases e
def HB:D->Option D
 |.int i=>some (.int i)
 |.bl b=>some (.int (if b then 1 else 0))
 |_=>none
theorem PY:Bj G (λxs H Q=>(∃i,xs=[.int i]/\Q (.int i) H)\/∃k,xs=[.bl k]/\Q (.int (if k then 1 else 0)) H) HB:=λx z H0 H v Q e s rx k=>by
 cases x with
 |int i=>cases e;unfold Rep at rx;subst rx;exact .inl ⟨i,rfl,k _ λ_ _=>pd _⟩
 |bl b=>cases e;unfold Rep at rx;subst rx;exact .inr ⟨b,rfl,k _ λ_ _=>pd _⟩
 |_=>cases e
def AQ:List D->Option (List Bool)
 |[]=>some []
 |.bl b::r=>(AQ r).map (b::·)
 |_=>none
theorem zK:∀{ds:List D} {xs:List V} {bs:List Bool},mB G H ds xs->AQ ds=some bs->xs=bs.map V.bl
 |[],xs,bs,h,e=>by cases e;unfold mB at h;exact h
 |.bl b::r,xs,bs,h,e=>by
  unfold mB at h;obtain⟨v,q,rfl,h1,h2⟩:=h;unfold AQ at e;cases e1:AQ r with
  |none=>rw[e1]at e;cases e
  |some l=>rw[e1]at e;cases e;unfold Rep at h1;subst h1;rw[zK h2 e1];rfl
 |.non::r,xs,bs,h,e=>by cases e
 |.int _::r,xs,bs,h,e=>by cases e
 |.str _::r,xs,bs,h,e=>by cases e
 |.tup _::r,xs,bs,h,e=>by cases e
 |.lst _::r,xs,bs,h,e=>by cases e
 |.fzl _::r,xs,bs,h,e=>by cases e
 |.obj _ _ _::r,xs,bs,h,e=>by cases e
 |.dic _ _::r,xs,bs,h,e=>by cases e
def sk:D->Option D
 |.lst ds=>(AQ ds).map λbs=>.bl (bs.all id)
 |_=>none
theorem PZ:Bj G (λxs H Q=>∃(p:Addr) (bs:List Bool),xs=[.ref p]/\SqL G.K H p (bs.map V.bl)/\Q (.bl (bs.all id)) H) sk:=λx z H0 H v Q e s rx k=>by
 cases x with
 |lst ds=>
  unfold sk at e;simp only at e;cases e1:AQ ds with
  |none=>rw[e1]at e;cases e
  |some bs=>rw[e1]at e;cases e;unfold Rep at rx;obtain⟨a,xs,rfl,h1,h2⟩:=rx;rw[zK h2 e1]at h1;exact⟨a,bs,rfl,s.seq (SqL.of h1),k _ λ_ _=>o9 _⟩
 |_=>cases e
theorem HC(hc:X.calm=true)(hK:X.K=G.K:=by rfl):oa X (.builtin "all") (λxs H Q=>∃(p:Addr) (bs:List Bool),xs=[.ref p]/\SqL G.K H p (bs.map V.bl)/\Q (.bl (bs.all id)) H):=by rw[<-hK];exact Jd hc
inductive Ty where
 |b (n:String)|c (k:Nat)
def Ty.val(G:Bg):Ty->aa
 |.b n=>.type n
 |.c k=>.ref (G.ca k)
def Ty.v(G:Bg):Ty->V
 |.b n=>.ty n
 |.c k=>.ref (G.ca k)
def tyD:D->Ty
 |.non=>.b "NoneType" |.bl _=>.b "bool" |.int _=>.b "int" |.str _=>.b "str" |.tup _=>.b "tuple" |.lst _=>.b "list" |.fzl _=>.b "list" |.dic _ _=>.b "dict" |.obj c _ _=>.c c
structure HD(K:aj)(C:Addr):Prop where
 cl:Cls K C
 ha:ck K (.ref C) "__class__" = some (some (.builtin "object.__class__"))
 hn:W.specialIn K (.builtin "object.__class__") "__get__" = some (some (.builtin "getset_descriptor.__get__"))
 htk:W.takesIn K (.builtin "object.__class__")=some true
 hm:W.mroIn K C (.type "object")=some true
theorem JC{pins:List (Addr×Obj)}{s:ab}{A:ar}{E:aa->ab->Prop}{Q:aa->ab->Prop}{c:aa}{b:Bool}{v:V}{u:aa}(I:Inv X pins σ H s)(hK:X.K=G.K)(hd:Rep G H d v)(rv:RelV v u)(hc:∀k ns ds,d=.obj k ns ds->HD X.K (G.ca k))
  (e:bZ X.K ((tyD d).val G) c=some b) (h:∀tk,Q (.bool b) { s with toks:=tk }):wpAny (model X.prog X.w) A (call (.builtin "isinstance") [u,c]) Q E s:=by
 cases d with
 |non=>unfold Rep at hd;subst hd;exact rK I rv .non e h
 |bl x=>unfold Rep at hd;subst hd;exact rK I rv (.bl x) e h
 |int x=>unfold Rep at hd;subst hd;exact rK I rv (.int x) e h
 |str x=>unfold Rep at hd;subst hd;exact rK I rv (.str x) e h
 |tup ds=>unfold Rep at hd;obtain⟨a,xs,rfl,h1,h2⟩:=hd;cases rv;rw[<-hK]at h1;obtain⟨its,_,p,_⟩:=I.tuple h1;obtain⟨o,q1,q2,_⟩:=p;exact bL W.kitx_tuple I.kIn ⟨o,q1,q2⟩ e (λz=>nomatch z) h
 |lst ds=>unfold Rep at hd;obtain⟨a,xs,rfl,h1,h2⟩:=hd;exact rK I rv (.lst h1) e h
 |fzl ds=>unfold Rep at hd;obtain⟨a,xs,rfl,h1,h2⟩:=hd;cases rv;rw[<-hK]at h1;obtain⟨its,_,p,_⟩:=I.list h1;obtain⟨o,n,q1,q2,_⟩:=p;exact bL ju I.kIn ⟨o,q1,q2⟩ e (λz=>nomatch z) h
 |dic ks ds=>unfold Rep at hd;obtain⟨a,o,xs,rfl,h1,h2,h3⟩:=hd;cases rv;obtain⟨q0,_,_,vs,_,ob,es,ep,q1,q2,_⟩:=(show nS X.prog X.w H s.heap a (.frz o (.dK (ks.zip xs))) from I.hok a _ h1);exact bL jv I.kIn ⟨ob,q1,q2.1⟩ e (λz=>nomatch z) h
 |obj k ns ds=>have ci:=hc k ns ds rfl;unfold Rep at hd;obtain⟨a,dx,xs,rfl,h1,h2,h3⟩:=hd;exact rK I rv (.ins h1 ci.cl ci.ha ci.hn ci.htk ci.hm) e h
def qg(t:Ty->Option Bool):D->Option D:=λd=>(t (tyD d)).map .bl
theorem Bk(c:Ty){t:Ty->Option Bool}(ht:∀y b,t y=some b->bZ X.K (y.val G) (c.val G)=some b)(hc:∀k b,t (.c k)=some b->HD X.K (G.ca k))(hK:X.K=G.K:=by rfl):
  oa X (.builtin "isinstance") (λxs H Q=>∃d x b,xs=[x,c.v G]/\Rep G H d x/\t (tyD d)=some b/\Q (.bl b) H):=by
 intro pins s σ H xs us Q I r h;obtain⟨d,x,b,rfl,hd,e,q⟩:=h;obtain⟨u,w',rfl,ru,rw'⟩:=vals2 r;have ew:w'=c.val G:=by cases c<;>exact rw'
 subst ew;exact JC I hK hd ru (λk ns ds z=>by subst z;exact hc k b e) (ht _ _ e) λtk=>⟨.bl b,H,I.tok _,rfl,q⟩
theorem F8{c:Ty}{t:Ty->Option Bool}(h:PE X e (tCB (λxs H Q=>∃d x b,xs=[x,c.v G]/\Rep G H d x/\t (tyD d)=some b/\Q (.bl b) H) (sY (tF G f) (sY (tC (c.v G)) AG)))):PE X e (tF G (c1 (qg t) f)):=PE.weak h λσ H Q hh=>by
 obtain⟨F,ρ,H0,d,ρ',R,e,k⟩:=hh;obtain⟨x,e1,e2⟩:=ze e;unfold qg at e2;cases e3:t (tyD x)with
 |none=>rw[e3]at e2;cases e2
 |some b=>rw[e3]at e2;cases e2;exact⟨F,ρ,H0,x,ρ',R,e1,λv H1 H1' s R' r=>⟨x,v,b,rfl,Rep.mono R'.sub _ _ r,e3,k _ _ _ s R' (o9 b)⟩⟩
def pb(f g:FE):FA:=λρ=>match f ρ with
 |some (.lst xs,ρ1)=>match g ρ1 with
  |some (.lst ys,ρ2)=>if xs.length+ys.length<=1000 then some (xs++ys,ρ2)else none
  |_=>none
 |_=>none
theorem MN{a:Expr}{g:FE}(ha:PE X a (tF G f))(hb:PE X b (tF G g)):PE X (.BinOp a .Add b pos) (tFN G (pb f g)):=PE.weak (IE O7 ha hb) λσ H Q hh=>by
 obtain⟨F,ρ,H0,d,ρ',R,e,k⟩:=hh;unfold pb at e;split at e
 ·rename_i xs ρ1 e1;split at e
  ·rename_i ys ρ2 e2;split at e
   ·rename_i hl;cases e;refine⟨F,ρ,H0,_,ρ1,R,e1,λv H1 H1' s R' r=>⟨F,ρ1,H1,_,_,R',e2,λu H2 H2' s2 R2 r2=>?_⟩⟩;have r':=Rep.mono s2 _ _ r;unfold Rep at r' r2;obtain⟨a1,xs1,rfl,h1,h2⟩:=r';obtain⟨a2,xs2,rfl,h3,h4⟩:=r2;refine⟨a1,a2,xs1,xs2,rfl,rfl,R2.sub _ _ h1,R2.sub _ _ h3,by rw[<-mE h2,<- mE h4];exact rQ hl,λp hp=>?_⟩;exact k p _ _ _ (s.trans s2) (R2.newOwn hp _) mF (R2.h0none hp) (R2.bNone hp) (R2.apart hp) (oX h2 h4)
   ·cases e
  ·cases e
 ·cases e
def uS(f:FE):FA:=λρ=>match f ρ with
 |some (d,ρ1)=>match JB d with
  |some ds=>some (ds,ρ1)
  |none=>none
 |none=>none
theorem JD(h:PE X e (tCB (λxs H Q=>∃p ys,xs=[.ref p]/\(SqL G.K H p ys\/SqT G.K H p ys)/\∀l,H l=none->Q (.ref l) (upd H l (.lst ys))) (tFA G (mi f mw)))):PE X e (tFN G (uS f)):=PE.weak h λσ H Q hh=>by
 obtain⟨F,ρ,H0,ds,ρ',R,e,k⟩:=hh;unfold uS at e;rcases mR (f:=f) (ρ:=ρ)with e1|⟨d,ρ1,e1⟩<;>simp only[e1]at e
 ·cases e
 ·cases e2:JB d with
  |none=>simp only[e2]at e;cases e
  |some ds'=>simp only[e2]at e;cases e;refine⟨F,ρ,H0,[d],_,R,by unfold mi;rw[e1];rfl,λys H1 H1' s R' rs=>?_⟩;unfold mB at rs;obtain⟨v,r0,rfl,rv,rn⟩:=rs;unfold mB at rn;subst rn;obtain⟨p,xs,rfl,h1,h2⟩:=F6 rv e2;exact⟨p,xs,rfl,F7 R'.sub h1,λl hl=>k l _ _ _ s (R'.newOwn hl _) mF (R'.h0none hl) (R'.bNone hl) (R'.apart hl) h2⟩
theorem E1(hK:X.K=G.K:=by rfl):oa X (.type "list") (λxs H Q=>∃p ys,xs=[.ref p]/\(SqL G.K H p ys\/SqT G.K H p ys)/\∀l,H l=none->Q (.ref l) (upd H l (.lst ys))):=by rw[<-hK];exact BZ
def uC(f:FE):FE:=λρ=>match f ρ with
 |some (.lst ds,ρ1)=>some (.tup ds,ρ1)
 |some (.tup ds,ρ1)=>some (.tup ds,ρ1)
 |_=>none
theorem JE(h:PE X e (tCB (λxs H Q=>∃p ys,xs=[.ref p]/\((SqL G.K H p ys/\∀l,H l=none->Q (.ref l) (upd H l (.tup ys)))\/(SqT G.K H p ys/\Q (.ref p) H))) (tFA G (mi f mw)))):PE X e (tF G (uC f)):=PE.weak h λσ H Q hh=>by
 obtain⟨F,ρ,H0,ds,ρ',R,e,k⟩:=hh;unfold uC at e;split at e
 ·rename_i xs ρ1 e1;cases e;refine⟨F,ρ,H0,[_],_,R,by unfold mi;rw[e1];rfl,λys H1 H1' s R' rs=>?_⟩;unfold mB at rs;obtain⟨v,r0,rfl,rv,rn⟩:=rs;unfold mB at rn;subst rn;unfold Rep at rv;obtain⟨p,zs,rfl,h1,h2⟩:=rv;refine⟨p,zs,rfl,.inl ⟨SqL.of (R'.sub _ _ h1),λl hl=>?_⟩⟩;exact k _ _ _ (s.trans (mL (R'.h0none hl) _)) (R'.newIm hl _) (vv (SqT.of mF) (mB.mono (mL (R'.h0none hl) _) _ _ h2))
 ·rename_i xs ρ1 e1;cases e;refine⟨F,ρ,H0,[_],_,R,by unfold mi;rw[e1];rfl,λys H1 H1' s R' rs=>?_⟩;unfold mB at rs;obtain⟨v,r0,rfl,rv,rn⟩:=rs;unfold mB at rn;subst rn;have rv0:=rv;unfold Rep at rv;obtain⟨p,zs,rfl,h1,h2⟩:=rv;exact⟨p,zs,rfl,.inr ⟨SqT.mono R'.sub h1,k _ _ _ s R' rv0⟩⟩
 ·cases e
theorem HE(hK:X.K=G.K:=by rfl):oa X (.type "tuple") (λxs H Q=>∃p ys,xs=[.ref p]/\((SqL G.K H p ys/\∀l,H l=none->Q (.ref l) (upd H l (.tup ys)))\/(SqT G.K H p ys/\Q (.ref p) H))):=by rw[<-hK];exact AI
def cutD(xs:List D)(lo hi:Option Int):List D:=(xs.drop (HT.sIx xs.length 0 lo)).take (HT.sIx xs.length xs.length hi - HT.sIx xs.length 0 lo)
theorem DJ{lo hi:Option Int}(r:mB G H0 ds xs):mB G H0 (cutD ds lo hi) (G5 xs lo hi):=by unfold cutD G5;rw[<-mE r];exact Be _ (Bd _ r)
def cSl(f:FE)(lo hi:Option Int):FA:=λρ=>match f ρ with
 |some (.lst ds,ρ1)=>some (cutD ds lo hi,ρ1)
 |some (.fzl ds,ρ1)=>some (cutD ds lo hi,ρ1)
 |_=>none
def tO(o:Option Int):TO:=λ_ H Q=>Q o H
theorem HF{lo hi:Option Int}(h:PE X e (tSl (G7 G.K) (tF G f) (tO lo) (tO hi))):PE X e (tFN G (cSl f lo hi)):=PE.weak h λσ H Q hh=>by
 obtain⟨F,ρ,H0,ds,ρ',R,e,k⟩:=hh;have gen:∀{a:Addr} {xs:List V} {ds':List D} {H1 H1':Hp},mI H0 H1->mJ G F σ ρ' H1 H1'->SqL G.K H1 a xs->mB G H1 ds' xs->ds=cutD ds' lo hi->G7 G.K (.ref a) lo hi H1' Q:=λ{a xs ds' H1 H1'} s R' h1 h2 e=>by subst e;exact⟨a,xs,rfl,R'.sub.seq h1,λp hp=>k p _ _ _ s (R'.newOwn hp _) mF (R'.h0none hp) (R'.bNone hp) (R'.apart hp) (DJ h2)⟩
 unfold cSl at e;split at e
 ·rename_i xs ρ1 e1;cases e;refine⟨F,ρ,H0,_,_,R,e1,λv H1 H1' s R' r=>?_⟩;unfold Rep at r;obtain⟨a,ys,rfl,h1,h2⟩:=r;exact gen s R' (SqL.of h1) h2 rfl
 ·rename_i xs ρ1 e1;cases e;refine⟨F,ρ,H0,_,_,R,e1,λv H1 H1' s R' r=>?_⟩;unfold Rep at r;obtain⟨a,ys,rfl,h1,h2⟩:=r;exact gen s R' h1 h2 rfl
 ·cases e
theorem JF{n:Int}{j pos}:PO X (some (.Constant (.int n) j pos)) (tO (some n)):=λpins s σ H Q I h=>FU EE pins s σ H Q I ⟨n,rfl,h⟩
theorem TN(hK:X.K=G.K:=by rfl):SlR X (G7 G.K):=by rw[<-hK];exact LU
end
def Sl.bor:Sl->Sl
 |.un=>.un
 |.im d=>.im d
 |.ls ds=>.im (.lst ds)
 |.pm ds=>.im (.lst ds)
 |.dk _ _=>.un
 |.ob c ns ds=>.im (.obj c ns ds)
variable{fa fb fc:FE}{op':dP}
section
variable{X:Cx}{G:Bg}
theorem mJ.bor{H:Hp}(R:mJ G F σ ρ H0 H):mJ G ⟨H,H,[]⟩ σ (ρ.map Sl.bor) H H where
 sub:=mI.refl _
 g0:=mI.refl _
 keep:=λb o e _=>e
 fr:=λb o e=>.inl e
 am:=λa h=>by cases h
 len:=by rw[ah];exact R.len
 sl:=λi s e=>by
  rw[aK]at e;cases e1:ρ[i]? with
  |none=>rw[e1]at e;cases e
  |some t=>
   rw[e1]at e;cases e;have ok:=R.sl i t e1;cases t with
   |un=>trivial
   |im d=>obtain⟨v,h1,h2⟩:=ok;exact⟨v,h1,Rep.mono R.sub _ _ h2⟩
   |ls ds=>obtain⟨a,xs,h1,h2,h3,h4,h5⟩:=ok;exact⟨_,h1,sy h2 (mB.mono R.sub _ _ h5)⟩
   |pm ds=>obtain⟨a,xs,h1,h2,h3,h4,h5⟩:=ok;exact⟨_,h1,sy h2 (mB.mono R.sub _ _ h5)⟩
   |dk ks ds=>trivial
   |ob c ns ds=>obtain⟨a,dx,xs,h1,h2,h3,h4,h5,h6⟩:=ok;exact⟨_,h1,by unfold Rep;exact⟨a,dx,xs,rfl,h2,h5,mB.mono R.sub _ _ h6⟩⟩
 ap:=λi j s t a _ e _ so=>by
  rw[aK]at e;cases e1:ρ[i]? with
  |none=>rw[e1]at e;cases e
  |some t=>rw[e1]at e;cases e;cases t<;>cases so
theorem mJ.unbor{σ':St}{H:Hp}(R:mJ G F σ ρ H0 H)(R':mJ G ⟨H,H,[]⟩ σ' ρ' H1 H1'):mJ G F σ ρ H0 H1':=
 R.grow (λb o e=>R'.keep b o e (by simp)) (mI.refl _) (λb o e=>R'.keep b o (R.sub _ _ e) (by simp)) λb o e=>.inl e
def zL(f:FE):FE:=λρ=>match f (ρ.map Sl.bor)with
 |some (d,_)=>if pA d=true then some (d,ρ)else none
 |none=>none
def yj(f:FT):FT:=λρ=>match f (ρ.map Sl.bor)with
 |some (d,_)=>some (d,ρ)
 |none=>none
theorem P0(h:PE X e (tF G f)):PE X e (tF G (zL f)):=PE.weak h λσ H Q hh=>by
 obtain⟨F,ρ,H0,d,ρ',R,e,k⟩:=hh;unfold zL at e;rcases mR (f:=f) (ρ:=ρ.map Sl.bor)with e1|⟨x,ρ1,e1⟩<;>simp only[e1]at e
 ·cases e
 ·split at e
  ·rename_i hf;cases e;refine⟨_,_,H,d,ρ1,R.bor,e1,λv H1 H1' s R' r=>?_⟩;rw[qY r hf];exact k _ _ _ (mI.refl _) (R.unbor R') (wJ hf _)
  ·cases e
theorem MO{f:FT}(h:PT X e (tFT G f)):PT X e (tFT G (yj f)):=PT.weak h λσ H Q hh=>by
 obtain⟨F,ρ,H0,d,ρ',R,e,k⟩:=hh;unfold yj at e;rcases mR (f:=f) (ρ:=ρ.map Sl.bor)with e1|⟨x,ρ1,e1⟩<;>simp only[e1]at e
 ·cases e
 ·cases e;exact⟨_,_,H,d,ρ1,R.bor,e1,λH1 H1' s R'=>k _ _ (mI.refl _) (R.unbor R')⟩
def pW(g g':D->D->Option D)(fa fb fc:FE):FE:=λρ=>match fa ρ with
 |some (x,ρ1)=>match fb ρ1 with
  |some (y,ρ2)=>match g x y with
   |some (.bl true)=>match fc ρ2 with
    |some (z,ρ3)=>match g' y z with
     |some w=>some (w,ρ3)
     |none=>none
    |none=>none
   |some (.bl false)=>some (.bl false,ρ2)
   |_=>none
  |none=>none
 |none=>none
theorem DK{r:R2}{g:D->D->Option D}(ho:OpD G r g)(ho':OpD G r' g'):∀σ H Q,tF G (pW g g' fa fb fc) σ H Q->EI r r' (tF G fa) (tF G fb) (tF G fc) σ H Q:=λσ H Q hh=>by
 obtain⟨F,ρ,H0,d,ρ',R,e,k⟩:=hh;unfold pW at e;rcases mR (f:=fa) (ρ:=ρ)with e1|⟨x,ρ1,e1⟩<;>simp only[e1]at e
 ·cases e
 rcases mR (f:=fb) (ρ:=ρ1)with e2|⟨y,ρ2,e2⟩<;>simp only[e2]at e
 ·cases e
 refine⟨F,ρ,H0,x,ρ1,R,e1,λv H1 H1' s1 R1 r1=>⟨F,ρ1,H1,y,ρ2,R1,e2,λu H2 H2' s2 R2 r2=>?_⟩⟩;split at e
 ·rename_i e3;refine ho x y _ H2 H2' v u _ e3 R2.sub (Rep.mono s2 _ _ r1) r2 λw hw=>?_;have hw':=hw H2 (mI.refl _);unfold Rep at hw';refine⟨true,hw',B5 ?_⟩;rcases mR (f:=fc) (ρ:=ρ2)with e4|⟨z,ρ3,e4⟩<;>simp only[e4]at e
  ·cases e
  cases e5:g' y z with
  |none=>simp only[e5]at e;cases e
  |some q=>simp only[e5]at e;cases e;refine⟨F,ρ2,H2,z,_,R2,e4,λt H3 H3' s3 R3 r3=>?_⟩;exact ho' y z _ H3 H3' u t Q e5 R3.sub (Rep.mono s3 _ _ r2) r3 λw hw=>k w H3 H3' (s1.trans (s2.trans s3)) R3 (hw _ (mI.refl _))
 ·rename_i e3;cases e;refine ho x y _ H2 H2' v u _ e3 R2.sub (Rep.mono s2 _ _ r1) r2 λw hw=>?_;have hw':=hw H2 (mI.refl _);unfold Rep at hw';exact⟨false,hw',B4 (k _ _ _ (s1.trans s2) R2 (o9 false))⟩
 ·cases e
theorem JG{a c:Expr}{r:R2}{g:D->D->Option D}(hr:OpR X (compareOp op) r)(hr':OpR X (compareOp op') r')(ho:OpD G r g)(ho':OpD G r' g')(ha:PE X a (tF G fa))(hb:PE X b (tF G fb))(hc:PE X c (tF G fc))
  (hm:lastMarks [op,op'] [b,c]=false:=by with_unfolding_all rfl):PE X (.Compare a [op,op'] [b,c] pos) (tF G (pW g g' fa fb fc)):=PE.weak (II hr hr' ha hb hc hm) (DK ho ho')
theorem HG{a c:Expr}{r:R2}{g:D->D->Option D}(hr:OpR X (compareOp op) r)(hr':OpR X (compareOp op') r')(ho:OpD G r g)(ho':OpD G r' g')(ha:PE X a (tF G fa))(hb:PE X b (tF G fb))(hc:PE X c (tF G fc))
  (hm:lastMarks [op,op'] [b,c]=false:=by with_unfolding_all rfl):PT X (.Compare a [op,op'] [b,c] pos) (tFT G (cT (pW g g' fa fb fc))):=PT.weak (IJ hr hr' ha hb hc hm) λσ H Q hh=>by
 obtain⟨F,ρ,H0,d,ρ',R,e,k⟩:=B7 σ H Q hh;exact DK ho ho' σ H _ ⟨F,ρ,H0,d,ρ',R,e,k⟩
end
def sC(P:aq)(w:ak)(K:aj)(mg:Str->Option aa)(base:Heap)(k:Nat)(x:Str)(ps:List Str)(sp:Sp):Prop:=
 ∃(f:Addr) (fd:bg),mg x=some (.ref f)/\dN K (.ref f)=true/\Binds K fd ps []/\qU P w K mg base CX0 k f fd ps sp
def Cb(G:Bg)(P:aq)(w:ak)(mg:Str->Option aa)(base:Heap)(k:Nat)(x:Str)(c:Nat)(ps:List Str)(dvs:List V)(g:List D->Option (List Str×List D)):Prop:=
 ∃(f:Addr) (fd:bg) (ds:List aa),Mk G.K (G.ca c) f/\mg x=some (.ref (G.ca c))/\Binds G.K fd ps ds/\Vals dvs ds/\qU P w G.K mg base CX0 k f fd ps (spI G c g)
def xI(G:Bg)(P:aq)(w:ak)(mg:Str->Option aa)(base:Heap)(k:Nat)(m:Str)(c:Nat)(h:List D->Option D):Prop:=
 ∃(f:Addr) (fd:bg) (ps:List Str),Cls G.K (G.ca c)/\Meth G.K (G.ca c) m f/\Binds G.K fd ps []/\qU P w G.K mg base CX0 k f fd ps (spF G h)
section
variable{X:Cx}{G:Bg}{k:Nat}{x m:Str}{p pos apos:Pos}{e o:Expr}{es:List Expr}{a:FA}{ps:List Str}
theorem yk{α:Type}(g:List D->α):(λds=>g (ds++[]))=g:=funext λds=>by rw[aU]
theorem P3{g:List D->Option D}(D:sC X.prog X.w X.K X.mg X.base k x ps (spF G g))(hr:om k X.A)(ha:PA X (e::es) (tFA G a))(hg:Gl X x:=by rfl)(hdb:(x==("__debug__" : Str))=false:=by decide)(he:starEach (e::es) X.env=(false,eval e X.env)::starEach es X.env:=by rfl)(hpl:(backTo pos (starEach es X.env)).any (·.1)=false:=by rfl):
  PE X (.Call (.Name x p) (e::es) [] pos) (tF G (mr g a)):=by
 obtain⟨f,fd,h1,h2,h3,h4⟩:=D;have q:=MB (dvs:=[]) (dds:=[]) (λ_=>mV) (zb (p:=p) (pos:=pos) h4 hr hg h1 h2 h3 .nil wF ha hdb he hpl);rw[yk]at q;exact q
theorem MP{g:List D->Option (List D)}(D:sC X.prog X.w X.K X.mg X.base k x ps (spN G g))(hr:om k X.A)(ha:PA X (e::es) (tFA G a))(hg:Gl X x:=by rfl)(hdb:(x==("__debug__" : Str))=false:=by decide)(he:starEach (e::es) X.env=(false,eval e X.env)::starEach es X.env:=by rfl)(hpl:(backTo pos (starEach es X.env)).any (·.1)=false:=by rfl):
  PE X (.Call (.Name x p) (e::es) [] pos) (tFN G (m6 g a)):=by
 obtain⟨f,fd,h1,h2,h3,h4⟩:=D;have q:=Jq (dvs:=[]) (dds:=[]) (λ_=>mV) (zb (p:=p) (pos:=pos) h4 hr hg h1 h2 h3 .nil wF ha hdb he hpl);rw[yk]at q;exact q
theorem JH{g:List D->Option (List D)}(D:sC X.prog X.w X.K X.mg X.base k x ps (spN G g))(hr:om k X.A)(hg:Gl X x:=by rfl)(hdb:(x==("__debug__" : Str))=false:=by decide):PE X (.Call (.Name x p) [] [] pos) (tFN G (m6 g mw)):=by obtain⟨f,fd,h1,h2,h3,h4⟩:=D;exact Hr (IP h4 hr hg h1 h2 h3 .nil wF hdb)
theorem MQ{g:List D->List D->Option (D×List D)}(D:sC X.prog X.w X.K X.mg X.base k x ps (spM G g))(hr:om k X.A)(hv:PE X e (tS i))(ha:PA X es (tFA G a))(hg:Gl X x:=by rfl)(hdb:(x==("__debug__" : Str))=false:=by decide)(he:starEach (e::es) X.env=(false,eval e X.env)::starEach es X.env:=by rfl)(hpl:(backTo pos (starEach es X.env)).any (·.1)=false:=by rfl):
  PE X (.Call (.Name x p) (e::es) [] pos) (tF G (nD g i a)):=by
 obtain⟨f,fd,h1,h2,h3,h4⟩:=D;exact Py (zb (p:=p) (pos:=pos) h4 hr hg h1 h2 h3 .nil wF (oH hv ha he) hdb he hpl)
theorem MR{g:List D->Option (List Str×List D)}(M:Cb G X.prog X.w X.mg X.base k x c ps dvs g)(hd:∀H,mB G H dds dvs)(hr:om (k+1) X.A)(ha:PA X (e::es) (tFA G a))(hK:X.K=G.K:=by rfl)(hg:Gl X x:=by rfl)(hdb:(x==("__debug__" : Str))=false:=by decide)
  (he:starEach (e::es) X.env=(false,eval e X.env)::starEach es X.env:=by rfl) (hpl:(backTo pos (starEach es X.env)).any (·.1)=false:=by rfl):
  PE X (.Call (.Name x p) (e::es) [] pos) (tF G (m9 c (λds=>g (ds++dds)) a)):=by
 obtain⟨f,fd,ds,h1,h2,h3,h4,h5⟩:=M;rw[<-hK]at h1 h3 h5;exact ME hd (LN (p:=p) (pos:=pos) h1 h5 hr hg h2 h3 h4 wF ha hdb he hpl)
theorem Oj{g:Nat->Option (List D->Option D)}(M:∀c h,g c=some h->xI G X.prog X.w X.mg X.base k m c h)(hr:om k X.A)(hK:X.K=G.K):∀C sp,MT G g C sp->MOk X C m sp [] E0:=λC sp h=>by obtain⟨c,h,e,rfl,rfl⟩:=h;obtain⟨f,fd,ps,q1,q2,q3,q4⟩:=M c h e;rw[<-hK]at q1 q2 q3 q4;exact⟨k,f,fd,ps,[],q1,q2,q4,hr,q3,.nil,wF⟩
theorem HH{g:Nat->Option (List D->Option D)}{pl:Sem Bool}(M:∀c h,g c=some h->xI G X.prog X.w X.mg X.base k m c h)(hr:om k X.A)(ho:PE X o (tF G f))(ha:PA X (e::es) (tFA G a))(hK:X.K=G.K:=by rfl)
  (hst:starEach (e::es) X.env=(false,eval e X.env)::starEach es X.env:=by rfl) (hpl:(backTo pos (starEach es X.env)).any (·.1)=false:=by rfl)
  (ht:eval (.Call (.Attribute o m apos) (e::es) [] pos) X.env=(do
   let ov<-eval o X.env
   standAt apos.atName
   let (f,first)<-holding [ov] (getMethod ov m pl)
   callWith pos f first (backTo pos (starEach (e::es) X.env)) (backToKw pos (keywordEach [] X.env))):=by rfl):
  PE X (.Call (.Attribute o m apos) (e::es) [] pos) (tF G (ni g m f a)):=MC (E:=E0) (Js (dvs:=[]) (MT G g) (Oj M hr hK) ho ha hst hpl ht)
theorem E2{g:Nat->Option (List D->Option D)}{pl:Sem Bool}(M:∀c h,g c=some h->xI G X.prog X.w X.mg X.base k m c h)(hr:om k X.A)(ho:PE X o (tF G f))(hK:X.K=G.K:=by rfl)
  (ht:eval (.Call (.Attribute o m apos) [] [] pos) X.env=(do
   let ov<-eval o X.env
   standAt apos.atName
   let (f,first)<-holding [ov] (getMethod ov m pl)
   callWith pos f first (backTo pos (starEach [] X.env)) (backToKw pos (keywordEach [] X.env))):=by rfl):
  PE X (.Call (.Attribute o m apos) [] [] pos) (tF G (ni g m f mw)):=Jt (E:=E0) (Hu (dvs:=[]) (MT G g) (Oj M hr hK) ho ht)
end
section
variable{P:aq}{w:ak}{K:aj}{mg:Str->Option aa}{base:Heap}{x qual:Str}{st:Stmt}{f T:Addr}{fd:bg}{N ps:List Str}{k:Nat}{G:Bg}
abbrev wK(P:aq)(w:ak)(K:aj)(mg:Str->Option aa)(base:Heap)(N:List Str)(qual:Str)(st:Stmt)(f:Addr)(cdv:aa)(A:ar)(outer:List Env)(s:ab)(H:Hp)(E:XK):Cx:=(CY CX0 P w K mg base N qual (mM st) f cdv A outer s H E).nox
theorem JI{n:Nat}{g:List D->Option D}{b:FS}(hg:g=fnD np n b)(hp:ps.length=np)(hN:N.length=n)(F:Fun K x qual st f fd)(S:oA N ps (mM st))(body:∀(cdv:aa) (A:ar) (outer:List Env) (s:ab) (H:Hp) (E:XK),om k (A.deeper (envOfC qual (mM st) s.heap.objs.size f cdv))->PSs (wK P w K mg base N qual st f cdv A outer s H E) (nu st) (tFS G b)):
  qU P w K mg base CX0 (k+1) f fd ps (spF G g):=by
 subst hg hp hN;exact F.ok S (Tv Mx) λcdv A outer s H vs Q E hr h=>⟨_,body cdv A outer s H E hr,Mu (by have:=aN bG S.pre;rw[bf]at this;omega) h⟩
theorem TQ{n:Nat}{g:List D->Option (List D)}{b:FS}(hg:g=fnN np n b)(hp:ps.length=np)(hN:N.length=n)(F:Fun K x qual st f fd)(S:oA N ps (mM st))(body:∀(cdv:aa) (A:ar) (outer:List Env) (s:ab) (H:Hp) (E:XK),om k (A.deeper (envOfC qual (mM st) s.heap.objs.size f cdv))->PSs (wK P w K mg base N qual st f cdv A outer s H E) (nu st) (tFS G b)):
  qU P w K mg base CX0 (k+1) f fd ps (spN G g):=by
 subst hg hp hN;exact F.ok S (Tw My) λcdv A outer s H vs Q E hr h=>⟨_,body cdv A outer s H E hr,Mw (by have:=aN bG S.pre;rw[bf]at this;omega) h⟩
theorem TR{n:Nat}{g:List D->List D->Option (D×List D)}{b:FS}{p:Str}{ps:List Str}(hg:g=fnM np n b)(hp:ps.length=np)(hN:N.length=n)(F:Fun K x qual st f fd)(S:oA N (p::ps) (mM st))(body:∀(cdv:aa) (A:ar) (outer:List Env) (s:ab) (H:Hp) (E:XK),om k (A.deeper (envOfC qual (mM st) s.heap.objs.size f cdv))->PSs (wK P w K mg base N qual st f cdv A outer s H E) (nu st) (tFS G b)):
  qU P w K mg base CX0 (k+1) f fd (p::ps) (spM G g):=by
 subst hg hp hN;exact F.ok S (Of MJ) λcdv A outer s H vs Q E hr h=>⟨_,body cdv A outer s H E hr,MI (by have:=aN bG S.pre;rw[bf,aC]at this;omega) h⟩
theorem Ol{g:List D->Option (List Str×List D)}(hg:∀ds q,g ds=some q->ds.length=np):∀vs H Q E,spI G c g vs H Q E->vs.length=np+1:=λvs H Q E h=>by obtain⟨p,dx,us,H0,ds,ns,es,rfl,_,_,_,r,e,_⟩:=h;rw[aC,<- mE r,hg _ _ e]
theorem TU{n:Nat}{g:List D->Option (List Str×List D)}{b:FS}{p:Str}{ps:List Str}(hg:g=fnI c np n b)(hp:ps.length=np)(hN:N.length=n)(F:Fun K x qual st f fd)(S:oA N (p::ps) (mM st))(body:∀(cdv:aa) (A:ar) (outer:List Env) (s:ab) (H:Hp) (E:XK),om k (A.deeper (envOfC qual (mM st) s.heap.objs.size f cdv))->PSs (wK P w K mg base N qual st f cdv A outer s H E) (nu st) (tFS G b)):
  qU P w K mg base CX0 (k+1) f fd (p::ps) (spI G c g):=by
 subst hg hp hN;exact F.ok S (Ol λds q h=>(zE h).1) λcdv A outer s H vs Q E hr h=>⟨_,body cdv A outer s H E hr,F1 (by have:=aN bG S.pre;rw[bf,aC]at this;omega) h⟩
theorem P4{n:Nat}{g:List D->Option (List Str×List D)}{b:FS}{p:Str}{ps:List Str}(hg:g=fnI c np n b)(hp:ps.length=np)(hN:N.length=n)(F:Hn K x qual st f fd T)(S:oA N (p::ps) (mM st))(body:∀(cdv:aa) (A:ar) (outer:List Env) (s:ab) (H:Hp) (E:XK),om k (A.deeper (envOfC qual (mM st) s.heap.objs.size f cdv))->PSs (wK P w K mg base N qual st f cdv A outer s H E) (nu st) (tFS G b)):
  qU P w K mg base CX0 (k+1) f fd (p::ps) (spI G c g):=by
 subst hg hp hN;exact F.ok S (Ol λds q h=>(zE h).1) λcdv A outer s H vs Q E hr h=>⟨_,body cdv A outer s H E hr,F1 (by have:=aN bG S.pre;rw[bf,aC]at this;omega) h⟩
end
section
variable{X:Cx}{G:Bg}
def vz(G:Bg)(mg:Str->Option aa)(x:Str)(d:D):Prop:=∃(v:V) (u:aa),mg x=some u/\RelV v u/\∀H,Rep G H d v
theorem JJ{x:Str}(h:vz G X.mg x d)(hg:Gl X x:=by rfl)(hd:(x==("__debug__" : Str))=false:=by decide):PE X (.Name x pos) (tF G (cC d)):=by obtain⟨v,u,h1,h2,h3⟩:=h;exact Me (wz hg h1 h2 hd) h3
def P5:FS:=λ_=>none
theorem MS:PS X st (tFS G P5):=PS.weak Iv λE σ H h=>by obtain⟨F,ρ,H0,o,R,e,_⟩:=h;cases e
def oQ(T:String):Ty->Option Bool
 |.b n=>if n="NoneType" then some false else if n="bool" then some (T=="bool" ||T=="int")else if n="int" then some (T=="int")else if n="str" then some (T=="str")else if n="tuple" then some (T=="tuple")else if n="list" then some (T=="list")else if n="dict" then some (T=="dict")else none
 |.c _=>none
theorem JK{T:String}:∀k b,oQ T (.c k)=some b->HD X.K (G.ca k):=λk b h=>by cases h
theorem JL:∀y b,oQ "list" y=some b->bZ X.K (y.val G) (.type "list")=some b:=λy b h=>by
 cases y with
 |c k=>cases h
 |b n=>
  unfold oQ at h;simp only at h
  iterate 7 (split at h;· rename_i e;subst e;cases h;first|rfl|kernel_rfl)
  cases h
theorem MU:∀y b,oQ "str" y=some b->bZ X.K (y.val G) (.type "str")=some b:=λy b h=>by
 cases y with
 |c k=>cases h
 |b n=>
  unfold oQ at h;simp only at h
  iterate 7 (split at h;· rename_i e;subst e;cases h;first|rfl|kernel_rfl)
  cases h
end
end L4
namespace L3
open PySem PySem.Spec PyProof.Rows L2
theorem MV{X:Cx}{i:Nat}{y:Str}{py spos:Pos}{elt iter tg:Expr}{ifs:List Expr}{scope:bV}{pos:Pos}{N':List Str}{k:Nat}{cap:List Nat}{wi:TI}{g:TG}{tt:TT}{te:TE}
  (hc:X.calm=true) (hN:X.N.Nodup) (hy:X.N[i]?=some y) (hyl:Loc X.env.scope y) (hi:PI X tg iter wi)
  (body:∀(cl:List (Str×Addr)) (C:Addr) (fp:List Addr) (s:ab) (H:Hp),PG (oo X N' scope cl C fp s H) tg g/\PIf (oo X N' scope cl C fp s H) ifs tt/\PE (oo X N' scope cl C fp s H) elt te)
  (hkind:scope.kind=.function:=by rfl) (hcell:(scope.names.all λy=>y.2 != .cell)=true:=by rfl)
  (hloc:(scope.names.all λy=>y.2 != .local||scope.names.lookup y.1==some .local)=true:=by rfl)
  (hfree:(scope.names.all λy=>y.2 != .free||(X.env.kindOf y.1==some .cell||X.env.kindOf y.1==some .free))=true:=by rfl)
  (hlen:N'.length=k+cap.length:=by rfl) (hcap:(N'.drop k).map some=cap.map λj=>X.N[j]?:=by rfl)
  (hcf:((N'.drop k).all λx=>scope.names.lookup x==some .free)=true:=by rfl)
  (hs:∀x,foldedSetIterable iter X.env x=pure x:=by intro _;rfl)
  (hsw:swapsWith (.ListComp elt [⟨tg,iter,ifs,0⟩] scope pos) (some (.Name y py)) spos.line X.env=pure true:=by rfl)
  (hfy:X.fn y=true\/X.env.scope.names.lookup y=some .local:=by first|exact .inl rfl|exact .inr rfl|assumption):
  PS X (.Assign [.Name y py] (.ListComp elt [⟨tg,iter,ifs,0⟩] scope pos) spos) (wA (yg wi g tt te k cap) (sr i)):=by
 intro pins s σ H D I h;rw[exec_Assign_Name_used _ _ _ _ hsw];refine ae (wpAny_standAt (ae ?_));show wpAny _ X.A (do let _<-comprehension (.ListComp elt [⟨tg,iter,ifs,0⟩] scope pos) scope X.env _ (newList []) false (eval iter X.env) (some (assign (.Name y py) X.env))) _ _ s;refine ae (bw (Bc (P:=λ_ s'=>SP X pins D .next s') hc hi body hkind hcell hloc hfree hlen hcap hcf hs I h λa C m u s4 H3 hn back fpC qn=>?_) (λ_ s' hq=>ao (ao hq)) λ_ _ e=>e);obtain⟨oC,esC,nC,gC,dC,rC⟩:=id hn;have I7:=back.pinned (fp:=[C]) (λb hb=>aO.mp hb▸fpC) (λb hb=>aO.mp hb▸⟨oC,gC,λv z=>by rw[dC]at z;cases z⟩);show wpAny _ X.A (assign (.Name y py) X.env (.ref a)) _ _ s4;refine thn (FM (pos:=py) hN hy hyl hfy _ s4 σ H3 (.ref a) (.ref a) (λσ' H'=>D.nx σ' H') I7 rfl qn) λ_ s6 ⟨σ6,H6,I8,q6⟩=>?_;obtain⟨p1,p2,_⟩:=I8.pin (C,oC) (bM _ (bM _ (rN (by simp) gC)));exact⟨m,⟨oC,esC,nC,p1,dC,rC⟩,λh' hs'=>⟨σ6,H6,I8.unpinned.turned (t':=s6.toks) (λb o hb e=>(hs'.2 b hb).trans e) p2 fpC.2.1 fpC.2.2.2.1 fpC.2.2.2.2.1 fpC.2.2.2.2.2,q6⟩⟩
end L3
namespace L4
open PySem PySem.Spec PyProof.Rows L2 L3
variable{st:Stmt}{te:TE}{i:Nat}{ft:FT}{fe:FE}
section
variable{X:Cx}{G:Bg}
theorem zM{te':TE}{g:TG}(h:PS X st (wA te g))(w:∀σ H Q,te' σ H Q->te σ H Q):PS X st (wA te' g):=PS.weak h λE σ H hh=>w _ _ _ hh
theorem HI{k:Nat}{cap:List Nat}{s:FA}{g:FG}(nd:cap.Nodup)(h:PS X st (wA (yg (tFI G s) (tFG G k g) (tFT G ft) (tF G fe) k cap) (sr i))):PS X st (tFS G (pz i (mU k cap s g ft fe))):=Du (zM h (B9 nd))
theorem JM{k:Nat}{cap:List Nat}{s:FA}{g:FG}(nd:cap.Nodup)(h:PS X st (wA (yg (tFI G s) (tFG G k g) (tFT G ft) (tF G fe) k cap) (sr i))):PS X st (tFS G (mT i (cL (mU k cap s g ft fe)))):=F0 (zM (zM h (B9 nd)) Tu)
end
variable{es0 es':List D}{np:Nat}
section
variable{f g h:FS}{c:FT}{e e' e2:FE}{a a':FA}{ρ ρ' ρ1 ρ2 ρ3:List Sl}{d x y z:D}{o:Out}{ds xs ys:List D}
theorem ml(h:f ρ=some (.nx ρ')):mx f g ρ=g ρ':=by unfold mx;rw[h]
theorem nR(h:f ρ=some (.rt d ρ')):mx f g ρ=some (.rt d ρ'):=by unfold mx;rw[h]
theorem nH(h:c ρ=some (true,ρ')):sIf c f g ρ=f ρ':=by unfold sIf;rw[h]
theorem m7(h:c ρ=some (false,ρ')):sIf c f g ρ=g ρ':=by unfold sIf;rw[h]
theorem mO(h:e ρ=some (d,ρ')):mT i e ρ=some (.nx (ρ'.set i (.im d))):=by unfold mT;rw[h]
theorem vA(h:a ρ=some (ds,ρ')):pz i a ρ=some (.nx (ρ'.set i (.ls ds))):=by unfold pz;rw[h]
theorem mZ(h:e ρ=some (d,ρ')):mX e ρ=some (.rt d ρ'):=by unfold mX;rw[h]
theorem t8(h:a ρ=some (ds,ρ')):oY a ρ=some (.rn ds ρ'):=by unfold oY;rw[h]
theorem oj(h:e ρ=some (d,ρ')):m5 e ρ=some (.nx ρ'):=by unfold m5;rw[h]
theorem mD{g:D->D->Option D}(h1:e ρ=some (x,ρ1))(h2:e' ρ1=some (y,ρ2))(h3:g x y=some z):c2 g e e' ρ=some (z,ρ2):=by unfold c2;rw[h1];simp only[h2,h3]
theorem nE{g:D->Option D}(h1:e ρ=some (x,ρ1))(h3:g x=some z):c1 g e ρ=some (z,ρ1):=by unfold c1;rw[h1];simp only[h3]
theorem P6(h1:e (ρ.map Sl.bor)=some (d,ρ1))(hf:pA d=true):zL e ρ=some (d,ρ):=by unfold zL;rw[h1];simp only[hf,if_true]
theorem F9{b:Bool}(h1:c (ρ.map Sl.bor)=some (b,ρ1)):yj c ρ=some (b,ρ):=by unfold yj;rw[h1]
theorem nJ{b:Bool}(h1:e ρ=some (.bl b,ρ1)):cT e ρ=some (b,ρ1):=by unfold cT;rw[h1]
theorem Ga{b:Bool}(h1:c ρ=some (b,ρ1)):sA c ρ=some (!b,ρ1):=by unfold sA;rw[h1]
theorem uT{b:Bool}{c':FT}(h1:c ρ=some (false,ρ1))(h2:c' ρ1=some (b,ρ2)):rb c c' ρ=some (b,ρ2):=by unfold rb;rw[h1];exact h2
theorem mj(h1:e ρ=some (d,ρ1))(h2:a ρ1=some (ds,ρ2)):mi e a ρ=some (d::ds,ρ2):=by unfold mi;rw[h1];simp only[h2]
theorem mC{α:Type}{g:List D->Option α}{r:α}(h1:a ρ=some (ds,ρ1))(h2:g ds=some r):xF g a ρ=some (r,ρ1):=by unfold xF;rw[h1];simp only[h2]
theorem nN(h1:a ρ=some (ds,ρ1)):cL a ρ=some (.lst ds,ρ1):=by unfold cL;rw[h1]
theorem uU(h1:a ρ=some (ds,ρ1))(hl:ds.length<=1000):mK a ρ=some (ds,ρ1):=by unfold mK;rw[h1];simp only[hl,if_true]
theorem pX(h1:a ρ=some (ds,ρ1))(hl:ds.length<=1000):nz a ρ=some (.tup ds,ρ1):=by unfold nz;rw[h1];simp only[hl,if_true]
theorem qD(h1:e ρ=some (.lst xs,ρ1))(h2:e' ρ1=some (.lst ys,ρ2))(hl:xs.length+ys.length<=1000):pb e e' ρ=some (xs++ys,ρ2):=by unfold pb;rw[h1];simp only[h2,hl,if_true]
theorem qh{g:List D->List D->Option (D×List D)}{es:List D}(h0:oO ρ i=some es0)(h1:a ρ=some (ds,ρ1))(h2:oO ρ1 i=some es)(h3:g es ds=some (d,es')):nD g i a ρ=some (d,putAt ρ1 i es'):=by unfold nD;rw[h0];simp only[h1,h2,h3]
theorem xJ{es:List D}(h0:oO ρ i=some es0)(h1:e ρ=some (d,ρ1))(h2:oO ρ1 i=some es)(hl:es.length<1000):tY i e ρ=some (.non,putAt ρ1 i (es++[d])):=by unfold tY;rw[h0];simp only[h1,h2,hl,if_true]
theorem pY{s:FA}{g:FG}(h1:s ρ=some (ds,ρ1)):rq s g f ρ=forL g f ds ρ1:=by unfold rq;rw[h1]
theorem wN{k:Nat}{cap:List Nat}{s:FA}{g:FG}(h1:s ρ=some (ds,ρ1))(hl:ds.length<=1000):mU k cap s g ft fe ρ=qz k cap g ft fe ds ρ1:=by unfold mU;rw[h1];simp only[hl,if_true]
theorem P7{n:Nat}{b:FS}{es:List D}(hl:ds.length=np)(h:b (L4.stM n es ds)=some (.rt d ρ))(h0:yh ρ=some es'):fnM np n b es ds=some (d,es'):=by unfold fnM;rw[ag hl,h];simp only[h0]
theorem P8{n:Nat}{b:FS}{es:List D}(hl:ds.length=np)(h:b (L4.stM n es ds)=some (.rn xs ρ))(h0:yh ρ=some es'):fnM np n b es ds=some (.lst xs,es'):=by unfold fnM;rw[ag hl,h];simp only[h0]
theorem xK{n:Nat}{b:FS}(hl:ds.length=np)(h:b (L4.stE n ds)=some (.rn xs ρ)):fnN np n b ds=some xs:=by unfold fnN;rw[ag hl,h]
theorem m8{n:Nat}{b:FS}(hl:ds.length=np)(h:b (L4.stE n ds)=some (.rt d ρ)):fnD np n b ds=some d:=by unfold fnD;rw[ag hl,h]
end
theorem rL{a b:Int}(h:wa a=true\/wa b=true):qZ (.int a) (.int b)=some (.int (a * b)):=by unfold qZ dI;simp only;rw[ag (by simpa using h)]
theorem qO{a b:Int}(h:0<b):oP (.int a) (.int b)=some (.int (a % b)):=by unfold oP dI;simp only;rw[ag (by simpa using h)]
theorem div_pos{a b:Int}(h:0<b)(h':b<1073741824):vR (.int a) (.int b)=some (.int (a / b)):=by unfold vR dI;simp only;rw[ag (by simp[h,h'])]
theorem DL{a:Int}(h:0<=a)(h':a<2147483647):wa a=true:=by unfold wa;simp only[aL,bu];omega
def uV:D->Option Key
 |.int i=>some (.inl i)
 |.str x=>some (.inr x)
 |_=>none
def oF:List Key->List D->Key->Option D
 |k::ks,d::ds,j=>if k=j then some d else oF ks ds j
 |_,_,_=>none
def MW(ks:List Key)(ds:List D)(k:Key)(d:D):List D:=cx (λk' d'=>if k'=k then d else d') ks ds
def zN(ks:List Key)(k:Key):Bool:=ks.any λk'=>decide (k'=k)
variable{d:D}{a:Addr}{kvs:List (Key×V)}{b tg e:Expr}{f f' fk:FE}{pos apos cpos:Pos}
section
variable{X:Cx}{G:Bg}{H:Hp}
theorem ua{v:V}{k:Key}(h:Rep G H d v)(e:uV d=some k):v=kV k:=by
 cases d<;>first|cases e|skip
 all_goals (unfold Rep at h;exact h)
theorem uW:∀{ks:List Key} {ds:List D} {xs:List V} (j:Key),mB G H ds xs->ks.length=xs.length->match oF ks ds j with
  |some d=>∃v,qc (ks.zip xs) j=some v/\Rep G H d v
  |none=>qc (ks.zip xs) j=none
 |[],ds,xs,j,r,l=>by cases ds<;>rfl
 |k::ks,ds,[],j,r,l=>by cases l
 |k::ks,[],x::xs,j,r,l=>by unfold mB at r;cases r
 |k::ks,d::ds,x::xs,j,r,l=>by
  unfold mB at r;obtain⟨v,q,e,h1,h2⟩:=r;cases e;unfold oF;by_cases hk:k=j
  ·rw[ag hk];exact⟨x,wC (p:=(k,x)) hk,h1⟩
  ·rw[af hk];have ih:=uW (ks:=ks) (ds:=ds) (xs:=xs) j h2 (by simpa using l);have e1:qc ((k::ks).zip (x::xs)) j=qc (ks.zip xs) j:=wD (p:=(k,x)) hk;rw[e1];exact ih
theorem Cc{k:Key}:∀{ks:List Key} {xs:List V},ks.length=xs.length->((ks.zip xs).any λkv=>decide (kv.1=k))=zN ks k
 |[],xs,_=>by cases xs<;>rfl
 |k'::ks,[],l=>by cases l
 |k'::ks,x::xs,l=>by unfold zN;rw[cX,dB,dB,Cc (by simpa using l)];rfl
theorem Gb{k:Key}{v:V}:∀{ks:List Key} {xs:List V},ks.length=xs.length->(ks.zip xs).map (λkv=>if kv.1=k then (kv.1,v)else kv)=ks.zip (cx (λk' x=>if k'=k then v else x) ks xs)
 |[],xs,_=>by cases xs<;>rfl
 |k'::ks,[],l=>by cases l
 |k'::ks,x::xs,l=>by
  rw[cX,au,Gb (by simpa using l),eY,cX];congr 1;by_cases hk:k'=k
  ·rw[ag hk,ag hk]
  ·rw[af hk,af hk]
theorem DM{k:Key}{d:D}{v:V}(hd:Rep G H d v):∀{ks:List Key} {ds:List D} {xs:List V},mB G H ds xs->ks.length=xs.length->mB G H (MW ks ds k d) (cx (λk' x=>if k'=k then v else x) ks xs)
 |[],ds,xs,r,l=>by unfold MW;cases ds<;>cases xs<;>exact mV
 |k'::ks,ds,[],r,l=>by cases l
 |k'::ks,[],x::xs,r,l=>by unfold mB at r;cases r
 |k'::ks,d'::ds,x::xs,r,l=>by
  unfold mB at r;obtain⟨w,q,e,h1,h2⟩:=r;cases e;unfold MW;rw[eY,eY];refine mW ?_ (DM hd h2 (by simpa using l));by_cases hk:k'=k
  ·rw[ag hk,ag hk];exact hd
  ·rw[af hk,af hk];exact h1
theorem _root_.L2.DGet.kf{H:Hp}{o:Obj}{k:Key}(e:H a=some (.frz o (.dK kvs))):DGet H a (kV k) (qc kvs k):=.inl ⟨kvs,k,.inr ⟨o,e⟩,rfl,rfl⟩
def oG:D->D->Option D:=λx y=>match x,uV y with
 |.dic ks ds,some k=>oF ks ds k
 |_,_=>none
theorem MX{a:Expr}(hu:X.A.units+1<cLine)(ha:PE X a (tF G f))(hb:PE X b (tF G f'))(hs:O8 b:=by exact λ_ _=>rfl):PE X (.Subscript a b pos) (tF G (c2 oG f f')):=PE.weak (LY hu ha hb hs) λσ H Q hh=>by
 obtain⟨F,ρ,H0,d,ρ',R,e,k⟩:=hh;obtain⟨x,y,ρ1,e1,e2,e3⟩:=zf e;refine⟨F,ρ,H0,x,ρ1,R,e1,λv H1 H1' s1 R1 r1=>⟨F,ρ1,H1,y,ρ',R1,e2,λu H2 H2' s2 R2 r2=>?_⟩⟩;have r1':=Rep.mono s2 _ _ r1;cases x with
 |dic ks ds=>
  unfold oG at e3;cases ek:uV y with
  |none=>simp only[ek]at e3;cases e3
  |some j=>simp only[ek]at e3;unfold Rep at r1';obtain⟨p,ob,xs,rfl,h1,h2,h3⟩:=r1';have lv:=uW (ks:=ks) j h3 h2;rw[e3]at lv;obtain⟨w,w1,w2⟩:=lv;refine⟨p,w,rfl,?_,k w H2 H2' (s1.trans s2) R2 w2⟩;rw[ua r2 ek,<- w1];exact DGet.kf (R2.sub _ _ h1)
 |_=>unfold oG at e3;cases e3
def Bl:D->D->Option D:=λx y=>match x,uV y with
 |.dic ks ds,some k=>some ((oF ks ds k).getD .non)
 |_,_=>none
theorem JN{a:Expr}(hu:X.A.units+1<cLine)(ha:PE X a (tF G f))(hb:PE X b (tF G f'))(m:M1 X a "get" apos b cpos):PE X (.Call (.Attribute a "get" apos) [b] [] cpos) (tF G (c2 Bl f f')):=PE.weak (Ja hu ha hb m) λσ H Q hh=>by
 obtain⟨F,ρ,H0,d,ρ',R,e,k⟩:=hh;obtain⟨x,y,ρ1,e1,e2,e3⟩:=zf e;cases x with
 |dic ks ds=>
  refine⟨F,ρ,H0,_,ρ1,R,e1,λv H1 H1' s1 R1 r1=>?_⟩;have r1':=r1;unfold Rep at r1';obtain⟨p,ob,xs,rfl,h1,h2,h3⟩:=r1';refine⟨p,rfl,.inl ⟨_,.inr ⟨_,R1.sub _ _ h1⟩⟩,F,ρ1,H1,y,ρ',R1,e2,λu H2 H2' s2 R2 r2=>?_⟩;unfold Bl at e3;cases ek:uV y with
  |none=>simp only[ek]at e3;cases e3
  |some j=>
   simp only[ek]at e3;cases e3;have lv:=uW (ks:=ks) j (mB.mono s2 _ _ h3) h2;refine⟨qc (ks.zip xs) j,?_,?_⟩
   ·rw[ua r2 ek];exact DGet.kf (R2.sub _ _ (s2 _ _ h1))
   ·cases el:oF ks ds j with
    |none=>rw[el]at lv k;rw[lv];exact k _ H2 H2' (s1.trans s2) R2 wG
    |some z=>rw[el]at lv k;obtain⟨w,w1,w2⟩:=lv;rw[w1];exact k _ H2 H2' (s1.trans s2) R2 w2
 |_=>unfold Bl at e3;cases e3
def zO(i:Nat):FS:=λρ=>some (.nx (ρ.set i (.dk [] [])))
theorem JO(h:PS X st (wA ET (sr i))):PS X st (tFS G (zO i)):=PS.weak h λE σ H hh=>by obtain⟨F,ρ,H0,o,R,e,k,k2⟩:=hh;cases e;intro p hp;have R1:=R.newOwn hp (.dK []);refine k _ _ _ (mI.refl _) (R1.set (s:=.dk [] []) ⟨p,[],rfl,mF,R.h0none hp,R.bNone hp,rfl,mV⟩ λ_ a ea j t _ ej to=>?_);cases ea;exact R.apart hp j t ej to
def pB(i:Nat)(fk fv:FE):FS:=λρ=>match fv ρ with
 |some (d,ρ1)=>match ρ1[i]? with
  |some (.dk _ _)=>match fk ρ1 with
   |some (y,ρ2)=>match uV y with
    |some k=>match ρ2[i]? with
     |some (.dk ks ds)=>if ks.length<1000 then if ds.length=ks.length then some (.nx (ρ2.set i (if zN ks k=true then .dk ks (MW ks ds k d)else .dk (ks++[k]) (ds++[d]))))else none else none
     |_=>none
    |none=>none
   |none=>none
  |_=>none
 |none=>none
theorem JP{fv:FE}(h:PS X st (Od (tS i) (tF G fk) (tF G fv))):PS X st (tFS G (pB i fk fv)):=PS.weak h λE σ H hh=>by
 obtain⟨F,ρ,H0,o,R,e,k,k2⟩:=hh;unfold pB at e;rcases mR (f:=fv) (ρ:=ρ)with e1|⟨d,ρ1,e1⟩<;>simp only[e1]at e
 ·cases e
 split at e
 ·rename_i ks0 ds0 ei;rcases mR (f:=fk) (ρ:=ρ1)with e2|⟨y,ρ2,e2⟩<;>simp only[e2]at e
  ·cases e
  cases ek:uV y with
  |none=>simp only[ek]at e;cases e
  |some j=>
   simp only[ek]at e;split at e
   ·rename_i ks ds ei2;split at e
    ·rename_i hl;split at e
     ·rename_i hl2;cases e;refine⟨F,ρ,H0,d,ρ1,R,e1,λv H1 H1' s1 R1 r1=>?_⟩;obtain⟨a0,xs0,a1,_⟩:=R1.sl i _ ei;refine⟨_,px a1,F,ρ1,H1,y,ρ2,R1,e2,λu H2 H2' s2 R2 r2=>?_⟩;obtain⟨a,xs,b1,b2,b3,b4,b5,b6⟩:=R2.sl i _ ei2;rw[a1]at b1;cases b1;refine⟨a0,upd H2' a0 (.dK (putK (ks.zip xs) j v)),rfl,?_,?_⟩
      ·rw[ua r2 ek];exact IY.k b2 (by rw[eC];exact ir (Nat.min_le_left _ _) (vt (by omega)))
      ·have rv:=Rep.mono s2 _ _ r1;refine k _ _ _ (s1.trans s2) (R2.mut ei2 rfl a1 (λH' hH=>?_) ?_)
       ·by_cases hk:zN ks j=true
        ·rw[ag hk];refine⟨a0,cx (λk' x=>if k'=j then v else x) ks xs,rfl,?_,b3,b4,by rw[ic,b5,eM],DM rv b6 b5⟩;rw[hH];unfold putK;rw[Cc b5,ag hk,Gb b5]
        ·rw[af hk];refine⟨a0,xs++[v],rfl,?_,b3,b4,by rw[aB,aB,b5];rfl,oX b6 (mW rv mV)⟩;rw[hH];unfold putK;rw[Cc b5,af hk,lE b5];rfl
       ·split<;>rfl
     ·cases e
    ·cases e
   ·cases e
 ·cases e
def zP:D->Option D
 |.lst ds=>(AQ ds).map λbs=>.bl (bs.any id)
 |_=>none
theorem HJ(hc:X.calm=true)(hK:X.K=G.K:=by rfl):oa X (.builtin "any") (λxs H Q=>∃(p:Addr) (bs:List Bool),xs=[.ref p]/\SqL G.K H p (bs.map V.bl)/\Q (.bl (bs.any id)) H):=by
 rw[<-hK];intro pins s σ H xs us Q I r h;obtain⟨p,bs,rfl,hq,q⟩:=h;obtain⟨u,rfl,ru⟩:=vals1 r;cases ru;obtain⟨its,rv,pl,hz⟩:=I.list hq;have hlt:p<s.heap.objs.size:=by obtain⟨o,ho,_⟩:=pl.isList;exact ay ho
 have hl:bs.length=its.length:=by have:=rv.length;rw[ah]at this;exact this
 refine call_any_walk (fo pl.isList ⟨s.heap.objs.size,_,_,_,_,_,λi=>(bs[i]?).getD false,rfl,gQ (show X.A.in1.handled=none from I.ok.hd hc) _ p (aE hlt) its.toArray,⟨⟨_,aP _ rfl,rfl,rfl⟩,?_⟩,?_,λh' tk hk=>?_⟩)
 ·exact pl.isList.at λo e=>av _ e
 ·intro i v s' Q' E' hv hQ';have hv':its[i]?=some v:=by simpa using hv
  have hi:i<its.length:=(bx.mp hv').1;have hb:(bs.map V.bl)[i]?=some (.bl (bs[i]'(by omega))):=by simp[show i<bs.length by omega]
  obtain⟨u,hu,ru⟩:=rv.get hb;rw[hv']at hu;cases hu;cases ru;refine cb ?_;have e:(bs[i]?).getD false=bs[i]'(by omega):=by simp[show i<bs.length by omega]
  rw[<-e];exact hQ'
 ·refine⟨.bl (bs.any id),H,?_,?_,q⟩
  ·exact I.kept (t':=tk) λb o e=>hk b o (by simp;exact aE (ay e)) (av _ e)
  ·show Value.bool _=Value.bool _;congr 1;rw[aI,<- hl];rw[c3];simp only[dt,bb,id];constructor
   ·rintro⟨i,hi,h⟩;exact⟨bs[i],bP hi,by simpa [hi]using h⟩
   ·rintro⟨b,hb,h⟩;obtain⟨i,hi,rfl⟩:=hZ.mp hb;exact⟨i,hi,by simpa [hi]using h⟩
theorem P9:Bj G (λxs H Q=>∃(p:Addr) (bs:List Bool),xs=[.ref p]/\SqL G.K H p (bs.map V.bl)/\Q (.bl (bs.any id)) H) zP:=λx z H0 H v Q e s rx k=>by
 cases x with
 |lst ds=>
  unfold zP at e;simp only at e;cases e1:AQ ds with
  |none=>rw[e1]at e;cases e
  |some bs=>rw[e1]at e;cases e;unfold Rep at rx;obtain⟨a,xs,rfl,h1,h2⟩:=rx;rw[zK h2 e1]at h1;exact⟨a,bs,rfl,s.seq (SqL.of h1),k _ λ_ _=>o9 _⟩
 |_=>cases e
def iS(f:FE):FA:=λρ=>match f ρ with
 |some (.str x,ρ')=>some (x.cps.toList.map λc=>D.str ⟨#[c]⟩,ρ')
 |_=>none
theorem MY(h:PI X tg e (Tj (tF G f))):PI X tg e (tFI G (iS f)):=PI.weak h λσ H R hh=>by
 obtain⟨F,ρ,H0,ds,ρ',R,e,k⟩:=hh;unfold iS at e;split at e
 ·rename_i x ρ1 e1;cases e;refine⟨F,ρ,H0,_,_,R,e1,λv H1 H1' s R' r=>?_⟩;unfold Rep at r;refine⟨x,r,k _ _ _ s R' λi H2 H2' t t'=>⟨λd ed=>?_,λhl=>?_⟩⟩
  ·rw[aK]at ed;cases ec:x.cps.toList[i]? with
   |none=>rw[ec]at ed;cases ed
   |some c=>
    rw[ec]at ed;cases ed;have ec':x.cps[i]?=some c:=by simpa using ec
    refine⟨(jN.mp ec').1,λz H3 y=>?_⟩;obtain⟨e3,c',hc',rfl⟩:=y;rw[ec']at hc';cases hc';subst e3;exact⟨H2,mI.refl _,t',mI.refl _,λb o e=>.inl e,rl _⟩
  ·show i=x.cps.size;rw[hl,ah];simp
 ·cases e
def ym(f g:FE):FE:=λρ=>match f ρ with
 |some (.tup (x::xs),ρ1)=>match g ρ1 with
  |some (.tup ys,ρ2)=>if xs.length+ys.length<=900 then some (.tup (x::xs++ys),ρ2)else none
  |_=>none
 |_=>none
theorem MZ{a:Expr}{g:FE}(ha:PE X a (tF G f))(hb:PE X b (tF G g))(hK:X.K=G.K:=by rfl):PE X (.BinOp a .Add b pos) (tF G (ym f g)):=PE.weak (IE LR ha hb) λσ H Q hh=>by
 rw[hK];obtain⟨F,ρ,H0,d,ρ',R,e,k⟩:=hh;unfold ym at e;split at e
 ·rename_i x xs ρ1 e1;split at e
  ·rename_i ys ρ2 e2;split at e
   ·rename_i hl;cases e;refine⟨F,ρ,H0,_,ρ1,R,e1,λv H1 H1' s R' r=>⟨F,ρ1,H1,_,_,R',e2,λu H2 H2' s2 R2 r2=>?_⟩⟩;have r':=Rep.mono s2 _ _ r;have r0:=r';unfold Rep at r' r2;obtain⟨a1,xs1,rfl,h1,h2⟩:=r';obtain⟨a2,xs2,rfl,h3,h4⟩:=r2;have l1:=mE h2;have l2:=mE h4;rw[aC]at l1;refine⟨a1,a2,xs1,xs2,rfl,rfl,SqT.mono R2.sub h1,SqT.mono R2.sub h3,(λz=>by rw[z]at l1;cases l1),by rw[<-l1,<- l2];exact rQ (by omega),λz=>?_,λ_ p hp=>?_⟩
    ·have ey:ys=[]:=by rw[z]at l2;exact hE.mp l2
     subst ey;rw[aU]at k;exact k _ _ _ (s.trans s2) R2 r0
    ·exact k _ _ _ ((s.trans s2).trans (mL (R2.h0none hp) _)) (R2.newIm hp _) (vv (SqT.of mF) (mB.mono (mL (R2.h0none hp) _) _ _ (oX h2 h4)))
   ·cases e
  ·cases e
 ·cases e
end
section
variable{X:Cx}{G:Bg}
abbrev FO:=List Sl->Option (Option Int×List Sl)
def tFO(G:Bg)(f:FO):TO:=λσ H Q=>∃F ρ H0 d ρ',mJ G F σ ρ H0 H/\f ρ=some (d,ρ')/\∀H0' H',mI H0 H0'->mJ G F σ ρ' H0' H'->Q d H'
def oNo:FO:=λρ=>some (none,ρ)
def oAt(f:FE):FO:=λρ=>match f ρ with
 |some (.int i,ρ')=>some (some i,ρ')
 |_=>none
theorem PO.weak{e:Option Expr}{t t':TO}(h:PO X e t)(w:∀σ H Q,t' σ H Q->t σ H Q):PO X e t':=λpins s σ H Q I hq=>h pins s σ H Q I (w _ _ _ hq)
theorem Qa:PO X none (tFO G oNo):=PO.weak LQ λσ H Q hh=>by obtain⟨F,ρ,H0,d,ρ',R,e,k⟩:=hh;cases e;exact k _ _ (mI.refl _) R
theorem Qb(h:PE X e (tF G f)):PO X (some e) (tFO G (oAt f)):=PO.weak (FU h) λσ H Q hh=>by
 obtain⟨F,ρ,H0,d,ρ',R,e,k⟩:=hh;unfold oAt at e;split at e
 ·rename_i i ρ1 e1;cases e;refine⟨F,ρ,H0,_,_,R,e1,λv H1 H1' s R' r=>?_⟩;unfold Rep at r;exact⟨i,r,k _ _ s R'⟩
 ·cases e
def uM(f:FE)(lo hi:FO):FA:=λρ=>match f ρ with
 |some (d,ρ1)=>match d with
  |.lst ds=>match lo ρ1 with
   |some (l,ρ2)=>match hi ρ2 with
    |some (h,ρ3)=>some (cutD ds l h,ρ3)
    |none=>none
   |none=>none
  |.fzl ds=>match lo ρ1 with
   |some (l,ρ2)=>match hi ρ2 with
    |some (h,ρ3)=>some (cutD ds l h,ρ3)
    |none=>none
   |none=>none
  |_=>none
 |none=>none
theorem E3{lo hi:FO}(h:PE X e (tSl (G7 G.K) (tF G f) (tFO G lo) (tFO G hi))):PE X e (tFN G (uM f lo hi)):=PE.weak h λσ H Q hh=>by
 obtain⟨F,ρ,H0,ds,ρ',R,e,k⟩:=hh;unfold uM at e;rcases mR (f:=f) (ρ:=ρ)with e1|⟨d,ρ1,e1⟩<;>simp only[e1]at e
 ·cases e
 have gen:∀(xs:List D),(∀{H1:Hp} {v:V},Rep G H1 d v->∃a ys,v=.ref a/\SqL G.K H1 a ys/\mB G H1 xs ys)->(match lo ρ1 with
   |some (l,ρ2)=>match hi ρ2 with
    |some (h,ρ3)=>some (cutD xs l h,ρ3)
    |none=>none
   |none=>none)=some (ds,ρ')->tSl (G7 G.K) (tF G f) (tFO G lo) (tFO G hi) σ H Q:=λxs rd e=>by
  rcases mR (f:=lo) (ρ:=ρ1)with e2|⟨l,ρ2,e2⟩<;>simp only[e2]at e
  ·cases e
  rcases mR (f:=hi) (ρ:=ρ2)with e3|⟨u,ρ3,e3⟩<;>simp only[e3]at e
  ·cases e
  cases e;refine⟨F,ρ,H0,d,ρ1,R,e1,λv H1 H1' s1 R1 r1=>⟨F,ρ1,H1,l,ρ2,R1,e2,λH2 H2' s2 R2=>⟨F,ρ2,H2,u,_,R2,e3,λH3 H3' s3 R3=>?_⟩⟩⟩;obtain⟨a,ys,rfl,q1,q2⟩:=rd (Rep.mono (s2.trans s3) _ _ r1);exact⟨a,ys,rfl,R3.sub.seq q1,λp hp=>k p _ _ _ (s1.trans (s2.trans s3)) (R3.newOwn hp _) mF (R3.h0none hp) (R3.bNone hp) (R3.apart hp) (DJ q2)⟩
 cases d with
 |lst xs=>exact gen xs (λr=>by unfold Rep at r;obtain⟨a,ys,rfl,q1,q2⟩:=r;exact⟨a,ys,rfl,SqL.of q1,q2⟩) e
 |fzl xs=>exact gen xs (λr=>by unfold Rep at r;exact r) e
 |_=>cases e
def DN:D->D->Option D
 |.str x,.int n=>if 0<=n/\n<=1000/\x.length<=100 then some (.str (fR x n))else none
 |_,_=>none
def E4(neg:Bool):D->D->Option D:=λy x=>match x,uV y with
 |.dic ks ds,some k=>some (.bl (if neg then !(oF ks ds k).isSome else (oF ks ds k).isSome))
 |_,_=>none
end
section
variable{X:Cx}{G:Bg}
def zQ:FE:=λ_=>none
theorem JQ:PE X e (tF G zQ):=λpins s σ H Q I h=>by obtain⟨F,ρ,H0,d,ρ',R,e,_⟩:=h;cases e
def vS(f f' f2:FE):FE:=λρ=>match f ρ with
 |some (.dic ks ds,ρ1)=>match f' ρ1 with
  |some (y,ρ2)=>match f2 ρ2 with
   |some (x,ρ3)=>match uV y with
    |some k=>some ((oF ks ds k).getD x,ρ3)
    |none=>none
   |none=>none
  |none=>none
 |_=>none
theorem JR{a c:Expr}{f2:FE}(hu:X.A.units+1<cLine)(ha:PE X a (tF G f))(hb:PE X b (tF G f'))(hc:PE X c (tF G f2))(m:M2 X a "get" apos b c cpos):PE X (.Call (.Attribute a "get" apos) [b,c] [] cpos) (tF G (vS f f' f2)):=PE.weak (Jb hu ha hb hc m) λσ H Q hh=>by
 obtain⟨F,ρ,H0,d,ρ',R,e,k⟩:=hh;unfold vS at e;split at e
 ·rename_i ks ds ρ1 e1;rcases mR (f:=f') (ρ:=ρ1)with e2|⟨y,ρ2,e2⟩<;>simp only[e2]at e
  ·cases e
  rcases mR (f:=f2) (ρ:=ρ2)with e3|⟨x,ρ3,e3⟩<;>simp only[e3]at e
  ·cases e
  cases ek:uV y with
  |none=>simp only[ek]at e;cases e
  |some j=>
   simp only[ek]at e;cases e;refine⟨F,ρ,H0,_,ρ1,R,e1,λv H1 H1' s1 R1 r1=>?_⟩;unfold Rep at r1;obtain⟨p,ob,xs,rfl,h1,h2,h3⟩:=r1;refine⟨p,rfl,.inl ⟨_,.inr ⟨_,R1.sub _ _ h1⟩⟩,F,ρ1,H1,y,ρ2,R1,e2,λu H2 H2' s2 R2 r2=>⟨F,ρ2,H2,x,_,R2,e3,λz H3 H3' s3 R3 r3=>?_⟩⟩;have lv:=uW (ks:=ks) j (mB.mono (s2.trans s3) _ _ h3) h2;refine⟨qc (ks.zip xs) j,?_,?_⟩
   ·rw[ua r2 ek];exact DGet.kf (R3.sub _ _ (s3 _ _ (s2 _ _ h1)))
   ·cases el:oF ks ds j with
    |none=>rw[el]at lv k;rw[lv];exact k _ H3 H3' (s1.trans (s2.trans s3)) R3 r3
    |some w=>rw[el]at lv k;obtain⟨w',w1,w2⟩:=lv;rw[w1];exact k _ H3 H3' (s1.trans (s2.trans s3)) R3 w2
 ·cases e
def E5(G:Bg)(c:Nat)(t:Ty->Option Bool):Prop:=(∀y b,t y=some b->bZ G.K (y.val G) (.ref (G.ca c))=some b)/\∀j b,t (.c j)=some b->HD G.K (G.ca j)
theorem E6{c:Nat}{t:Ty->Option Bool}(h:E5 G c t)(hK:X.K=G.K:=by rfl):oa X (.builtin "isinstance") (λxs H Q=>∃d x b,xs=[x,(Ty.c c).v G]/\Rep G H d x/\t (tyD d)=some b/\Q (.bl b) H):=
 Bk (X:=X) (.c c) (by rw[hK];exact h.1) (by rw[hK];exact h.2) hK
end
def ddp(acc:List Key)(k:Key):List Key:=if acc.any (λz=>decide (z=k))then acc else acc++[k]
def sq(ks:List Key):List Key:=ks.foldl ddp []
theorem M0(acc:List Key)(k j:Key):(ddp acc k).any (λz=>decide (z=j))=(acc.any (λz=>decide (z=j))||decide (j=k)):=by
 unfold ddp;by_cases h:acc.any (λz=>decide (z=k))=true
 ·rw[ag h];by_cases e:j=k
  ·subst e;rw[h];simp
  ·simp[e]
 ·rw[af h,List.any_append];by_cases e:j=k
  ·subst e;simp
  ·have hb:¬k=j:=λz=>e z.symm;simp[hb,e]
theorem Gc(acc:List Key)(k:Key):(ddp acc k).length=if acc.any (λz=>decide (z=k))=true then acc.length else acc.length+1:=by unfold ddp;split<;>simp
theorem Bm(ks:List Key)(i:Nat)(h:i<ks.length):sq (ks.take (i+1))=ddp (sq (ks.take i)) ks[i]:=by unfold sq;rw[kN,az h,List.foldl_append];rfl
theorem JS(ks:List Key):(sq ks).length<=ks.length:=by
 have gen:∀(l:List Key) (acc:List Key),(l.foldl ddp acc).length<=acc.length+l.length:=by
  intro l
  induction l with
  |nil=>intro acc;simp
  |cons k l ih=>
   intro acc;rw[iQ,aC];have h1:=ih (ddp acc k);have h2:(ddp acc k).length<=acc.length+1:=by rw[Gc];split<;>omega
   omega
 have:=gen ks [];simpa [sq]using this
theorem set_same{prog:aq}{w:ak}{h:Heap}{S S':Key->Bool}{n n':Nat}(hS:h.SetOf (mN prog w) a S n)(e:∀k,S k=S' k)(en:n=n'):h.SetOf (mN prog w) a S' n':=by obtain rfl:S=S':=funext e;subst en;exact hS
section
variable{prog:aq}{w:ak}{A:ar}{R:cQ->ab->Prop}{I:Addr}{fp wr:List Addr}{GG:Array dM->Array dM->Prop}{n:Nat}{PP:Nat->aa->Prop}{SS:Nat->ab->Prop}
theorem JT(W:WalksS prog w A.in1 I fp wr GG n PP SS)(S:Addr)(hSf:S∉fp)(ks:List Key)(hn:ks.length=n)
  (hval:∀i v (h:i<ks.length),PP i v->(mN prog w).is ks[i] v=true/\v.scannable=true) (hb:n+1<scanBound):∀(k i:Nat) (s:ab),n - i=k->i<=n->SS i s->
   s.heap.SetOf (mN prog w) S (λj=>(sq (ks.take i)).any (λz=>decide (z=j))) (sq (ks.take i)).length->
   (∀s',Moved (S::wr) GG s s'->s'.heap.SetOf (mN prog w) S (λj=>(sq ks).any (λz=>decide (z=j))) (sq ks).length->R (.ok (.ret .none)) s')->
   codeAny (model prog w) A (.builtin "set.update.loop" ⟨[.ref S,.ref I],[]⟩) R s:=by
 have hSw:S∉wr:=λz=>hSf (W.sub _ z);have up:∀b∈wr,b∈S::wr:=λb z=>aX _ z;intro k
 induction k with
 |zero=>
  intro i s hk hi hst hS hR;obtain rfl:i=n:=by omega
  refine cu fY ?_;rw[cH dQ _];show wpAny _ A.in1 (pyNext (.ref I)>>=_) _ _ s;refine ae (W.done s _ _ hst λs' hm=>?_);show wpAny _ A.in1 (ret Value.none) _ _ s';rw[hG (by omega)]at hS;refine ao (hR s' (hm.mono up) ?_);obtain⟨o,es,ep,t,ho,more⟩:=hS;exact⟨o,es,ep,t,hm.heap S _ hSw ho,more⟩
 |succ k ih=>
  intro i s hk hi hst hS hR;have hlt:i<n:=by omega
  have hlk:i<ks.length:=by omega
  refine cu fY ?_;rw[cH dQ _];show wpAny _ A.in1 (pyNext (.ref I)>>=_) _ _ s;refine ae (W.item i s _ _ hlt hst λv s' hP hst' hm=>?_);obtain⟨kv,sc⟩:=hval i v hlk hP;have hS':s'.heap.SetOf (mN prog w) S (λj=>(sq (ks.take i)).any (λz=>decide (z=j))) (sq (ks.take i)).length:=by obtain⟨o,es,ep,t,ho,more⟩:=hS;exact⟨o,es,ep,t,hm.heap S _ hSw ho,more⟩
  show wpAny _ A.in1 (holding [v] (setAdd S v)>>=_) _ _ s';refine ae (bY ?_);unfold setAdd;refine bY ?_;refine ae ((mN prog w).pyHash (k:=ks[i]) kv ?_);have room:(sq (ks.take i)).length+1<scanBound:=by have:=JS (ks.take i);rw[bf]at this;omega
  refine wpAny_setAddHashed_of (knd:=mN prog w) (s:={ s' with toks:=s'.toks+1 }) kv sc hS' room λh' hsb hS2=>?_;have hSi:h'.SetOf (mN prog w) S (λj=>(sq (ks.take (i+1))).any (λz=>decide (z=j))) (sq (ks.take (i+1))).length:=
   set_same hS2 (λj=>by rw[Bm ks i hlk,M0]) (by rw[Bm ks i hlk,Gc])
  refine ao ⟨dD dQ _,ih (i+1) _ (by omega) hlt (W.frame _ s' _ _ hst' (dG _) λb z o e=>?_) hSi λs'' hm'' hS''=>?_⟩
  ·rw[hsb.2 b (λy:b=S=>hSf (by rw[<-y];exact z))];exact e
  ·refine hR s'' (l4 W.gtrans ((hm.mono up).then_heap (dG _) λb o z e=>?_) hm'') hS'';rw[hsb.2 b (λy:b=S=>z (by rw[y];exact aQ))];exact e
end
theorem M4(l:Addr)(us:Array aa)(m:Nat)(b:Addr)(o:Obj)(ws:Array aa)(m2:Nat)(hc:o.cls=.type "tuple")(hd:o.data=.seq ws m2)(z0:¬(!us.isEmpty&&eW (us.size+ws.size))=true)(z1:us.size<=sizeLine)(z2:us.size+ws.size<=sizeLine+1):
  Meets (bU.«list.extend» ⟨[.ref l,.ref b],[]⟩) (λ_ R s=>s.heap.get? l=some { cls:=.type "list", data:=.seq us m }/\s.heap.get? b=some o/\R (.ok (.ret Value.none)) { s with heap:=s.heap.update l (bH λx=>x++ws),toks:=s.toks }):=by
 obtain⟨c,dd,data,sl⟩:=o;cases hc;cases hd;refine .of_wp λprog w A R s h=>?_;obtain⟨hp,g,d,tk,os⟩:=s;obtain⟨hl,hb,h⟩:=h;have f2:=AutoSeq1.sub_tuple_tuple;have f3:=AutoSeq1.sub_list_list;have f4:=AutoSeq1.sub_tuple_list;have f5:=AutoSeq1.sub_list_tuple;have z3:(us++ws).size<=sizeLine+1:=Array.size_append (xs:=us) (ys:=ws)▸z2
 wp_walk using (fA hl rfl (hz:=z1) (_hz':=z3)),jR hl,jR hb
 exact⟨_,rfl,h⟩
section
variable{X:Cx}{G:Bg}
def DO(K:aj):V->List V->Hp->VK->Prop:=λx vs H Q=>∃l b xs zs,x=.ref l/\vs=[.ref b]/\H l=some (.lst xs)/\SqT K H b zs/\xs.length+zs.length<=sizeLine/\Q .non (upd H l (.lst (xs++zs)))
theorem E7:MtM X "list.extend" (DO X.K):=by
 intro pins s σ H x vs v us Q I rx rv h;obtain⟨l,b,xs,zs,rfl,rfl,hH,hB,hz,q⟩:=h;cases rx;obtain⟨u,rfl,ru⟩:=rv.one;cases ru;obtain⟨z,its,n,r,hl,e⟩:=I.lstM hH;obtain⟨its2,r2,⟨o,e2,hc,n2,hd⟩,hz2⟩:=I.tuple hB;have hl2:=r2.length;have hsz:its.toArray.size+its2.toArray.size<=sizeLine:=by rw[aI,aI];omega
 have hlong:¬(!its.toArray.isEmpty&&eW (its.toArray.size+its2.toArray.size))=true:=by rw[Dg hsz,iV];exact aR
 refine gO iq ⟨_,e,rfl⟩ km (kc _ _)
  (M4 l its.toArray n b o its2.toArray n2 hc hd hlong (by rw[aI];omega) (by omega)) ⟨e,e2,?_⟩
 refine⟨.non,_,I.lset (its':=its++its2) hH e (by simp) (r.append r2) ?_,rfl,q⟩;rw[aB];omega
def yn(i:Nat)(f:FE):FE:=λρ=>match oO ρ i with
 |some _=>match f ρ with
  |some (.tup es,ρ1)=>match oO ρ1 i with
   |some ds=>if ds.length+es.length<=1000 then some (.non,putAt ρ1 i (ds++es))else none
   |none=>none
  |_=>none
 |none=>none
theorem E8(h:PE X e (tBM G.K "list" (DO G.K) (tS i) (sY (tF G f) AG))):PE X e (tF G (yn i f)):=PE.weak h λσ H Q hh=>by
 obtain⟨F,ρ,H0,d,ρ',R,e,k⟩:=hh;unfold yn at e;cases e0:oO ρ i with
 |none=>simp only[e0]at e;cases e
 |some ds0=>
  simp only[e0]at e;rcases mR (f:=f) (ρ:=ρ)with e1|⟨x,ρ1,e1⟩<;>simp only[e1]at e
  ·cases e
  ·cases x with
   |tup es=>
    cases e2:oO ρ1 i with
    |none=>simp only[e2]at e;cases e
    |some ds=>
     simp only[e2]at e;split at e
     ·rename_i hl;cases e;obtain⟨a,xs,s1,s2,s3,_⟩:=qf R e0;refine⟨.ref a,s1,.inl ⟨rfl,xs,SqL.of s2⟩,F,ρ,H0,_,ρ1,R,e1,λv H1 H1' s R' rs=>?_⟩;unfold Rep at rs;obtain⟨p,ys,rfl,hp,rs⟩:=rs;obtain⟨a',xs',t1,t2,t3,t4⟩:=qf R' e2;rw[s1]at t1;cases t1;refine⟨a,p,xs',ys,rfl,rfl,t2,SqT.mono R'.sub hp,?_,k _ _ _ s (t4 _ _ (oX t3 rs)) wG⟩;rw[<-mE t3,<- mE rs];exact rQ hl
     ·cases e
   |_=>cases e
end
abbrev one(j:Nat)(led pl:Bool):bj:=⟨7,#[j],#[],0,led,0,pl⟩
section
variable{prog:aq}{w:ak}{A:ar}{E:aa->ab->Prop}{s:ab}
abbrev TK(prog:aq)(w:ak):=IsTupleKey (mN prog w)
theorem cls_val(n:Nat){v:aa}(h:carriedByValue v=true):ofAClassStatement n v=pure false:=by
 cases v with
 |ref a=>simp[carriedByValue]at h
 |_=>first|rfl|simp[ofAClassStatement]|(unfold ofAClassStatement;rfl)
theorem Gd{ks:List Key}{Q:Bool->ab->Prop}(hk:TK prog w s.heap ks a)(h:Q false s):wpAny (model prog w) A (ofAClassStatement 8 (.ref a)) Q E s:=by
 have hT:=hk.typeIs;obtain⟨o,items,n,ho,_,hd,hi⟩:=hk;unfold ofAClassStatement;refine ae (fJ hT ?_);show wpAny _ _ (pure true>>=_) _ _ s;refine ae (ao ?_);simp only[lR,dS,if_false];refine ae (iW ho hd ?_);refine ae ?_;show wpAny _ _ (forIn items _ _) _ _ s;rw[<-kE];refine iG _ (λrest r s'=>r.1=none/\s'=s/\∀v∈rest,carriedByValue v=true) _ ?_ ?_ _ _ ⟨rfl,rfl,hi.byValue⟩
 ·rintro v rest r s' ⟨hr,rfl,hall⟩;rw[cls_val _ (hall v aQ)];refine ae (ao ?_);simp only[dS,if_false];exact ao ⟨rfl,rfl,λu hu'=>hall u (aX _ hu')⟩
 ·rintro⟨r1,r2⟩ s' ⟨hr,rfl,_⟩;simp only at hr;subst hr;exact ao h
end
variable{ep:Nat}
section
variable{prog:aq}{w:ak}{A:ar}{E:aa->ab->Prop}{s:ab}
theorem JU{hp:Heap}{S:Addr}{o:Obj}{es es':Array (Int×aa)}{t t':bj}(ho:hp.get? S=some o)(hd:o.data=.set es ep t):(hp.update S (jG es' t')).get? S=some { o with data:=.set es' (ep+1) t' }:=by have:=cG (jG es' t') ho (by rw[putSet_of es' t' hd];rfl);rw[putSet_of es' t' hd]at this;exact this
end
variable{h':Heap}
section
variable{prog:aq}{w:ak}{A:ar}{R:cQ->ab->Prop}{I:Addr}{fp wr:List Addr}{GG:Array dM->Array dM->Prop}{PP:Nat->aa->Prop}{SS:Nat->ab->Prop}
theorem TK.kept{h:Heap}{ks:List Key}(t:TK prog w h ks a)(e:∀o,h.get? a=some o->h'.get? a=some o):TK prog w h' ks a:=by obtain⟨o,its,n,ho,m⟩:=t;exact⟨o,its,n,e o ho,m⟩
def TV(h:Heap)(S:Addr)(n:Nat):Prop:=∃o es ep t,h.get? S=some o/\o.ExactSet/\o.data=.set es ep t/\es.size<scanBound/\t.fits es.size=true/\es.size=n
end
theorem sub_tuple_set:isSubtype (.type "tuple") (.type "set")=pure false:=by rw[fD];kernel_rfl
theorem sub_tuple_frozenset:isSubtype (.type "tuple") (.type "frozenset")=pure false:=by rw[fD];kernel_rfl
variable{ax:Addr}{itO:Obj}
section
variable{prog:aq}{w:ak}{A:ar}{E:aa->ab->Prop}{s:ab}{Q:aa->ab->Prop}
abbrev ub(led:Bool):Obj:={ cls:=.type "set", dict:=none,data:=.set #[] 0 (.fresh 0 0 led) }
abbrev inK(ks:List Key):Key->Bool:=λj=>(sq ks).any (λz=>decide (z=j))
structure TX(prog:aq)(w:ak)(h:Heap)(a:Addr)(items:Array aa)(ks:List Key):Prop where
 len:ks.length=items.size
 key:∀i v (hi:i<ks.length),items[i]?=some v->(mN prog w).is ks[i] v=true/\v.scannable=true
 bnd:items.size+1<scanBound
def M5(s:ab)(PS:Heap->Prop)(E:aa->ab->Prop):cQ->ab->Prop:=
 wants (λr s2=>r=.none/\∃h2 k2,s2={ s with heap:=h2,toks:=k2 }/\PS h2/\∀b o,b<s.heap.objs.size->s.heap.get? b=some o->h2.get? b=some o) E
theorem DP{items:Array aa}{ks:List Key}{led:Bool}{SS:Nat->Heap->Prop}(K:TX prog w s.heap ax items ks)(hlt:ax<s.heap.objs.size)
  (W:Walks prog w A.in1 (s.heap.objs.size+1) [s.heap.objs.size+1,ax] [s.heap.objs.size+1] items.size (λi v=>items[i]?=some v) SS) (st:SS 0 ((s.heap.push (ub led)).push itO)) {R:cQ->ab->Prop}
  (hR:∀h2 k2,h2.SetOf (mN prog w) s.heap.objs.size (inK ks) (sq ks).length->(∀b o,b<s.heap.objs.size->s.heap.get? b=some o->h2.get? b=some o)->R (.ok (.ret .none)) { s with heap:=h2,toks:=k2 }) (tk:Nat):
  codeAny (model prog w) A (.builtin "set.update.loop" ⟨[.ref s.heap.objs.size,.ref (s.heap.objs.size+1)],[]⟩) R { s with heap:=(s.heap.push (ub led)).push itO,toks:=tk }:=by
 have notin:s.heap.objs.size∉[s.heap.objs.size+1,ax]:=by
  intro z;rcases aD.mp z with z|z
  ·exact ai z (aE (cf _))
  ·exact ai (aO.mp z) (cM hlt)
 have e0:((s.heap.push (ub led)).push itO).get? s.heap.objs.size=some (ub led):=av _ (aP _ rfl);refine JT W.toS s.heap.objs.size notin ks K.len (λi v hi hv=>K.key i v hi hv) K.bnd (items.size - 0) 0 _ (by omega) (aY _) st ?_ λs2 mv S2=>?_
 ·exact⟨_,#[],0,_,e0,⟨rfl,rfl,rfl⟩,rfl,λe he=>by simp at he,λk=>by simp[sq],by unfold scanBound;decide,by rfl,rfl⟩
 ·obtain⟨h2,g2,d2,k2,o2⟩:=s2;have eg:g2=s.gens:=mv.gens;have ed:d2=s.drawn:=mv.drawn;have eo:o2=s.os:=mv.os;subst eg ed eo;refine hR h2 k2 S2 λb o hb e=>mv.heap b o (λz=>?_) (av _ (av _ e));rcases aD.mp z with z|z
  ·exact ai z (aE hb)
  ·exact ai (aO.mp z) (aE (cp hb))
theorem E9(a:aa){Q₁:aa->ab->Prop}(h:Q₁ (.ref s.heap.objs.size) { s with heap:=s.heap.push (ub (!w.params.followText "set-order")) }):
  codeAny (model prog w) A (.call (.builtin "set.__new__") ⟨[.type "set", a],[]⟩) (wants Q₁ E) s:=by
 refine codeAny_of_tree ?_;show wpAny _ A.in1 (do checkBuiltinCall "set.__new__" ⟨[.type "set", a],[]⟩;again (.builtin "set.__new__" ⟨[.type "set", a],[]⟩)) _ _ s;refine ae (wpAny_of_eq (F.newCall_set_1 a) (ao ⟨dD lF _,cu F.entry_set_new ?_⟩));rw[cH lF _];unfold bU.«set.__new__» ma;have hsub:=sub_set_self;obtain⟨hp,g,d,tk,os⟩:=s;dsimp only
 wp_walk
 refine iH (ao ?_);dsimp only;simp only[newObj];refine ae (wpAny_alloc (ao ?_));exact ao h
theorem zR{o:Obj}{T:String}{PS:Heap->Prop}(ho:s.heap.get? ax=some o)(hc:o.cls=.type T)
  (u1:isSubtype (.type T) (.type "set")=pure false) (u2:isSubtype (.type T) (.type "frozenset")=pure false) (u3:(Value.type T==Value.type "dict")=false)
  (itr:∀(A:ar) (Q:aa->ab->Prop) (E:aa->ab->Prop) (s1:ab),s1.heap.get? ax=some o->Q (.ref s1.heap.objs.size) { s1 with heap:=s1.heap.push itO }->wpAny (model prog w) A (pyIter (.ref ax)) Q E s1)
  (fil:∀tk (R:cQ->ab->Prop),(∀h2 k2,PS h2->(∀b o,b<s.heap.objs.size->s.heap.get? b=some o->h2.get? b=some o)->R (.ok (.ret .none)) { s with heap:=h2,toks:=k2 })->
   codeAny (model prog w) A.in1.in1 (.builtin "set.update.loop" ⟨[.ref s.heap.objs.size,.ref (s.heap.objs.size+1)],[]⟩) R { s with heap:=(s.heap.push (ub (!w.params.followText "set-order"))).push itO,toks:=tk })
  (h:∀h2 k2,PS h2->(∀b o,b<s.heap.objs.size->s.heap.get? b=some o->h2.get? b=some o)->Q (.ref s.heap.objs.size) { s with heap:=h2,toks:=k2 }):
  wpAny (model prog w) A (call (.type "set") [.ref ax]) Q E s:=by
 have hlt:ax<s.heap.objs.size:=ay ho;obtain⟨c,tl,hmro⟩:=c8.mro;have made:=c8.made;have subs:=c8.sub;refine jC (codeAny_of_tree ?_);show wpAny _ _ (callAny (.type "set") _) _ _ _;refine ao ⟨Code.quiet_builtin _ (by decide +kernel),cu F.entry_type_call ?_⟩;rw[Around.under_plain (weight_type_call_type "set" [.ref ax] []) rfl];have n1:=c8.notType;have n2:=c8.canCreate;have n3:=F.typeCall_set_1 (.ref ax)
 repeat (any_goals (first|assumption|wp_step))
 let led:Bool:=!w.params.followText "set-order";refine eL (E9 (.ref ax) (E:=E) (Q₁:=λv s1=>v=.ref s.heap.objs.size/\s1={ s with heap:=s.heap.push (ub led) }) ⟨rfl,rfl⟩) λr s1 hr=>?_;cases r with
 |error e=>exact hr
 |ok fl=>
  cases fl with
  |ret v=>
   obtain⟨rfl,rfl⟩:=hr;have e0:(s.heap.push (ub led)).get? s.heap.objs.size=some (ub led):=aP _ rfl;have ty0:fF { s with heap:=s.heap.push (ub led) } (.ref s.heap.objs.size) "set" := ⟨_,e0,rfl⟩;have l1:=c8.init.lookup;have l2:=c8.init.bind (.ref s.heap.objs.size)
   repeat (any_goals (first|assumption|wp_step))
   refine eL (codeAny_call_builtin (R:=M5 s PS E) c8.init.plain F.entry_set_init (check_set_init_1 ty0 ?_)) λr2 s2 hr2=>?_
   ·obtain⟨oc,od,oda,osl⟩:=o;cases hc;have e1:(s.heap.push (ub led)).get? ax=some { cls:=.type T,dict:=od,data:=oda,slots:=osl }:=av _ ho;unfold bU.«set.__init__» noKeywords l9;generalize gP:pyIter=PP
    wp_walk
    subst gP;refine itr _ _ _ _ e1 ?_;refine ae (iX ?_);have ez:(s.heap.push (ub led)).objs.size=s.heap.objs.size+1:=bR _ _;show codeAny _ _ (.builtin "set.update.loop" ⟨[.ref s.heap.objs.size,.ref (s.heap.push (ub led)).objs.size],[]⟩) _ _;rw[ez];refine fil _ _ λh2 k2 S2 kk=>?_;show wpAny _ _ _ _ _ _;refine ao ?_;show wpAny _ _ (ret Value.none) _ _ _;exact ao ⟨rfl,h2,k2,rfl,S2,kk⟩
   ·cases r2 with
    |error e=>exact hr2
    |ok fl2=>
     cases fl2 with
     |ret r=>
      obtain⟨rfl,h2,k2,rfl,S2,kk⟩:=hr2
      repeat (any_goals (first|assumption|wp_step))
      exact h _ _ S2 kk
     |_=>exact hr2.elim
  |_=>exact hr.elim
end
variable{S:aj->Hp->Addr->Nat->Prop}{ds:List D}
section
variable{X:Cx}{G:Bg}{H:Hp}{pins:List (Addr×Obj)}{σ:St}{s:ab}
theorem JV{P:aq}{w:ak}{k:Key}{v:aa}(h:(mN P w).is k v=true):v.scannable=true:=by rcases nV h with ⟨i,t,_,rfl⟩|⟨x,t,_,rfl⟩<;>rfl
theorem JW{ks:List Key}{its:List aa}(r:Vals (ks.map kV) its)(hb:ks.length+1<scanBound):TX X.prog X.w s.heap a its.toArray ks:=by
 have hl:ks.length=its.length:=by have:=r.length;rw[ah]at this;exact this
 refine⟨by rw[aI];exact hl,λi v hi hv=>?_,by rw[aI];omega⟩;have e:(ks.map kV)[i]?=some (kV ks[i]):=by rw[aK,az hi];rfl
 obtain⟨u,hu,ru⟩:=r.get e;have eu:v=u:=by rw[hJ]at hv;rw[hv]at hu;exact bQ hu
 subst eu;have:=vO (P:=X.prog) (w:=X.w) ru;exact⟨this,JV this⟩
theorem Om{ks:List Key}(I:Inv X pins σ H s)(h:SqT X.K H a (ks.map kV)):TK X.prog X.w s.heap ks a:=by
 obtain⟨its,r,p,_⟩:=I.tuple h;obtain⟨o,ho,hc,n,hd⟩:=p;refine⟨o,_,n,ho,hc,hd,?_⟩;have gen:∀(ks:List Key) (its:List aa),Vals (ks.map kV) its->PySem.ItemsAre (mN X.prog X.w) ks its:=λks=>by
  induction ks with
  |nil=>intro its r;cases r;exact .nil
  |cons k ks ih=>intro its r;cases r with|cons h1 h2=>exact .cons (vO h1) (ih _ h2)
 exact gen ks its r
def Qc(K:aj)(H:Hp)(a:Addr)(n:Nat):Prop:=∃ks,(SqL K H a (ks.map kV)\/SqT K H a (ks.map kV))/\ks.length+1<scanBound/\n=(sq ks).length
def Qd(X:Cx)(S:aj->Hp->Addr->Nat->Prop):Prop:=∀{pins:List (Addr×Obj)} {σ:St} {H:Hp} {s:ab} {A:ar} {E:aa->ab->Prop} {Q:aa->ab->Prop} {a:Addr} {n:Nat},Inv X pins σ H s->A.handled=none->A.units+8<cLine->S X.K H a n->
 (∀h2 k2,TV h2 s.heap.objs.size n->(∀b o,b<s.heap.objs.size->s.heap.get? b=some o->h2.get? b=some o)->Q (.ref s.heap.objs.size) { s with heap:=h2,toks:=k2 })->wpAny (model X.prog X.w) A (call (.type "set") [.ref a]) Q E s
theorem TY:Qd X (Qc):=by
 intro pins σ H s A E Q a n I hh hu hq h;have h3:A.in1.in1.in1.handled=none:=by simp[hh]
 have gt:∀{h2:Heap} {ks:List Key},h2.SetOf (mN X.prog X.w) s.heap.objs.size (inK ks) (sq ks).length->TV h2 s.heap.objs.size (sq ks).length:=λS=>by obtain⟨o,es,ep,t,ho,hex,hd,_,_,hz,hf,hn⟩:=S;exact⟨o,es,ep,t,ho,hex,hd,hz,hf,hn⟩
 have it:∀{o:Obj} {led:Bool},o.isFreed=false->((s.heap.push (ub led)).push o).get? (s.heap.objs.size+1)=some o:=λ{o led} z=>by rw[show s.heap.objs.size+1=(s.heap.push (ub led)).objs.size from(bR _ _).symm];exact aP _ z
 obtain⟨ks,hq|hq,hb,rfl⟩:=hq
 ·obtain⟨its,r,p,_⟩:=I.list hq;obtain⟨o,ho,hc,n,hd⟩:=p.isList;have hne:a≠s.heap.objs.size+1:=aE (cp (ay ho));refine zR ho hc F.sub_list_set kg (by decide) (itO:={ cls:=.type "list_iterator", data:=.fields #[.ref a,.int 0 0] })
   (λA Q E s1 e k=>fo ⟨o,e,hc,n,hd⟩ k) (λtk R hR=>DP (JW r hb) (ay ho) (gQ h3 _ a hne its.toArray) ⟨⟨_,it rfl,rfl,rfl⟩,⟨o,av _ (av _ ho),hc,n,hd⟩⟩ (λh2 k2 S=>hR h2 k2 (gt S)) tk) h
 ·obtain⟨its,r,p,_⟩:=I.tuple hq;obtain⟨o,ho,hc,n,hd⟩:=p;have hne:a≠s.heap.objs.size+1:=aE (cp (ay ho));refine zR ho hc sub_tuple_set sub_tuple_frozenset (by decide) (itO:={ cls:=.type "tuple_iterator", data:=.fields #[.ref a,.int 0 0] })
   (λA Q E s1 e k=>kA ⟨o,e,hc,n,hd⟩ k) (λtk R hR=>DP (JW r hb) (ay ho) (Walks.tuple h3 _ a hne its.toArray) ⟨⟨_,it rfl,rfl,rfl⟩,⟨o,av _ (av _ ho),hc,n,hd⟩⟩ (λh2 k2 S=>hR h2 k2 (gt S)) tk) h
def Ge(S:aj->Hp->Addr->Nat->Prop)(K:aj)(te:TE):TE:=λσ H Q=>te σ H λx H1=>∃a n,x=.ref a/\S K H1 a n/\Q (.int n) H1
theorem HK{p1 p2 p3 p4:Pos}(hV:Qd X S)(hu:X.A.units+64<cLine)(hc:X.calm=true)(g1:Gl X "len")(m1:X.mg "len" = none)(g2:Gl X "set")(m2:X.mg "set" = none)(he:PE X e te)
  (z1:starEach [Expr.Call (.Name "set" p2) [e] [] p3] X.env=[(false,eval (.Call (.Name "set" p2) [e] [] p3) X.env)]:=by rfl) (z2:starEach [e] X.env=[(false,eval e X.env)]:=by rfl):PE X (.Call (.Name "len" p1) [.Call (.Name "set" p2) [e] [] p3] [] p4) (Ge S X.K te):=by
 intro pins s σ H Q I h;refine cK (tT I g1 m1 lL ?_ (by decide) (by decide));refine callWith_builtin1 ?_ z1 rfl;rw[z1];show wpAny _ _ (spliced [(false,eval (.Call (.Name "set" p2) [e] [] p3) X.env)]) _ _ s;refine cU ?_;refine cK (tT I g2 m2 Pv.boot_set ?_ (by decide) (by decide));refine callWith_type1 (thn (oH he rP z2 p3 pins s σ H (λvs H1=>match vs with
  |[x]=>∃a n,x=.ref a/\S X.K H1 a n/\Q (.int n) H1
  |_=>False) I h) λus s1 ⟨vs,H1,I1,r1,q1⟩=>?_) z2 rfl
 match vs,r1,q1 with
 |[x],r1,q1=>
 obtain⟨a,n,e1,hq,q⟩:=q1;subst e1;obtain⟨u,rfl,ru⟩:=vals1 r1;cases ru;refine hV I1 (I1.ok.hd hc) (by omega) hq λh2 k2 S2 kk=>?_;refine dU ?_;obtain⟨o,es,ep,t,ho,hex,hd,hz,hf,hn⟩:=S2;have I2:Inv X pins σ H1 { s1 with heap:=h2,toks:=k2 }:=I1.kept λb o e=>kk b o (ay e) e;refine call_len_set ho hex hd hf (by unfold scanBound at hz;omega) ⟨.int n,H1,I2.tok _,⟨_,by rw[hn]⟩,q⟩
def yp:List D->Option (List Key)
 |[]=>some []
 |d::ds=>match uV d,yp ds with
  |some k,some ks=>some (k::ks)
  |_,_=>none
theorem Bn:∀{ds:List D} {xs:List V} {ks:List Key},mB G H ds xs->yp ds=some ks->xs=ks.map kV
 |[],xs,ks,r,e=>by cases e;unfold mB at r;exact r
 |d::ds,xs,ks,r,e=>by
  unfold yp at e;cases e1:uV d with
  |none=>rw[e1]at e;cases e
  |some k=>
   cases e2:yp ds with
   |none=>rw[e1,e2]at e;cases e
   |some ks'=>rw[e1,e2]at e;cases e;unfold mB at r;obtain⟨v,r',rfl,h1,h2⟩:=r;rw[ua h1 e1,Bn h2 e2];rfl
def qj(ds:List D):Option D:=match yp ds with
 |some ks=>if ks.length<=1000 then some (.int (sq ks).length)else none
 |none=>none
def wQ(g:List D->Option D):D->Option D
 |.lst ds=>match qj ds with
  |some r=>some r
  |none=>g ds
 |.tup ds=>qj ds
 |.fzl ds=>qj ds
 |_=>none
theorem M6{g:List D->Option D}{r:D}(h:qj ds=some r):wQ g (.lst ds)=some r:=by show (match qj ds with|some r=>some r|none=>g ds)=some r;rw[h]
theorem Fb{g:List D->Option D}(hK:X.K=G.K)(hO:∀{H a n},Qc X.K H a n->S X.K H a n)
  (hg:∀{ds d H1 H1' a xs},g ds=some d->SqL X.K H1' a xs->mB G H1 ds xs->mI H1 H1'->∃n:Nat,S X.K H1' a n/\d=.int n)
  (h:PE X e (Ge S X.K (tF G f))):PE X e (tF G (c1 (wQ g) f)):=PE.weak h λσ H Q hh=>by
 obtain⟨F,ρ,H0,d,ρ',R,e,k⟩:=hh;obtain⟨x,e1,e2⟩:=ze e;have key:∀{ds:List D} {xs:List V} {a:Addr} {H1 H1':Hp},qj ds=some d->mB G H1 ds xs->mI H0 H1->mJ G F σ ρ' H1 H1'->(SqL X.K H1' a xs\/SqT X.K H1' a xs)->
   ∃a' n,V.ref a=.ref a'/\S X.K H1' a' n/\Q (.int n) H1':=λ{ds xs a H1 H1'} ed rs s R' hq=>by
  unfold qj at ed;cases ek:yp ds with
  |none=>rw[ek]at ed;cases ed
  |some ks=>
   rw[ek]at ed;simp only at ed;split at ed
   ·rename_i hl;cases ed;rw[Bn rs ek]at hq;exact⟨a,_,rfl,hO ⟨ks,hq,by unfold scanBound;omega,rfl⟩,k _ _ _ s R' (pd _)⟩
   ·cases ed
 refine⟨F,ρ,H0,x,ρ',R,e1,λv H1 H1' s R' r=>?_⟩;cases x with
 |lst ds=>
  unfold Rep at r;obtain⟨a,xs,rfl,h1,h2⟩:=r;have hq:SqL X.K H1' a xs:=SqL.of (R'.sub _ _ h1);replace e2:(match qj ds with|some r=>some r|none=>g ds)=some d:=e2;cases e3:qj ds with
  |some r=>rw[e3]at e2;cases e2;exact key e3 h2 s R' (.inl hq)
  |none=>rw[e3]at e2;obtain⟨n,h3,rfl⟩:=hg e2 hq h2 R'.sub;exact⟨a,n,rfl,h3,k _ _ _ s R' (pd _)⟩
 |tup ds=>unfold Rep at r;obtain⟨a,xs,rfl,h1,h2⟩:=r;rw[<-hK]at h1;exact key e2 h2 s R' (.inr (SqT.mono R'.sub h1))
 |fzl ds=>unfold Rep at r;obtain⟨a,xs,rfl,h1,h2⟩:=r;rw[<-hK]at h1;exact key e2 h2 s R' (.inl (R'.sub.seq h1))
 |_=>cases e2
end
theorem wU{P:aq}{w:ak}{k:Key}{v:aa}(h:(mN P w).is k v=true):RelV (kV k) v:=by
 rcases nV h with ⟨i,t,rfl,rfl⟩|⟨x,t,rfl,rfl⟩
 ·exact⟨t,rfl⟩
 ·exact⟨t,rfl⟩
def Itd(a:Addr)(o:Obj)(kvs:List (Key×V)):It:=
 ⟨λi H=>i<kvs.length/\H a=some (.frz o (.dK kvs)),λi H x H'=>H'=H/\∃k z,kvs[i]?=some (k,z)/\x=kV k,λi H=>kvs.length<=i/\H a=some (.frz o (.dK kvs))⟩
section
variable{X:Cx}{pins:List (Addr×Obj)}{σ:St}{H:Hp}{s:ab}
theorem yq{o:Obj}{es:Array DictEntry}(I:Inv X pins σ H s)(e:H a=some (.frz o (.dK kvs)))(hd:o.data=.dict es ep):
  (a==sysModules)=false/\s.heap.get? a=some o/\∃vs,KV kvs vs/\s.heap.DictAt (mN X.prog X.w) a vs ep:=by
 obtain⟨q0,_,y,vs,r,ob,es',ep',q1,q2,q3,q4⟩:=(show nS X.prog X.w H s.heap a (.frz o (.dK kvs)) from I.hok a _ e);rw[q0]at q1;cases q1;rw[hd]at q3;cases q3;exact⟨y,q0,vs,r,o,es,q0,q2,hd,q4⟩
theorem Qe{vs:List (Key×aa)}(r:KV kvs vs){k:Key}{x:aa}(e:vs[i]?=some (k,x)):∃z,kvs[i]?=some (k,z):=by
 induction r generalizing i with
 |nil=>cases e
 |@cons p q l l' h _ ih=>
  cases i with
  |zero=>obtain⟨pk,pv⟩:=p;cases e;exact⟨pv,by rw[show pk=k from h.1];rfl⟩
  |succ i=>exact ih e
end
theorem HL{P:aq}{w:ak}{K:aj}(a it:Addr)(o:Obj)(kvs:List (Key×V)):Turn P w K tg (Itd a o kvs) [it] it (λi h=>∃es ep,o.data=.dict es ep/\h.IsKeyIter it a i kvs.length ep) where
 mem:=by simp
 obj:=λi h st b hb=>by
  have e:b=it:=by simpa using hb
  subst e;obtain⟨es,ep,hd,ob,e,c,d⟩:=st;exact⟨ob,e,λv z=>by rw[d]at z;cases z⟩
 keep:=λi h h' st k=>by obtain⟨es,ep,hd,x⟩:=st;exact⟨es,ep,hd,x.at λo e=>k it (by simp) o e⟩
 item:=by
  intro X hP hw hK hc i pins s σ H E I hf st hg;subst hP hw hK;obtain⟨hi,he⟩:=hg;obtain⟨es,ep,hd,ki⟩:=st;obtain⟨f0,f1,f2,f3,f4,f5⟩:=hf it (by simp);obtain⟨_,_,vs,r,da⟩:=yq I he hd;have hl:kvs.length=vs.length:=r.length;have hne:a≠it:=λz=>by subst z;rw[he]at f0;cases f0
  have W:=lM (knd:=mN X.prog X.w) (A:=X.A) (I.ok.hd hc) it a hne vs ep;refine W.item i s _ _ (by omega) ⟨by rw[<-hl];exact ki,da⟩ λv h' tk hv st' kk=>?_;obtain⟨k,x,hx,hk⟩:=hv;obtain⟨z,hz⟩:=Qe r hx;have I1:Inv X pins σ H { s with heap:=h',toks:=tk }:=I.turned (λb o hb e=>kk b o (by simpa using hb) e) f0 f1 f3 f4 f5;obtain⟨ki',_⟩:=st';rw[<-hl]at ki';obtain⟨ob,e,c,d⟩:=id ki';exact⟨v,rfl,FN (s:={ s with heap:=h',toks:=tk }) e c d (by decide) ⟨kV k,H,I1,wU hk,⟨rfl,k,z,hz,rfl⟩,⟨es,ep,hd,ki'⟩,λb hb=>(hf b hb).1⟩⟩
 done:=by intro X hP hw hK hc i pins s σ H E I hf st hg;subst hP hw hK;obtain⟨hi,he⟩:=hg;obtain⟨es,ep,hd,ki⟩:=st;obtain⟨f0,f1,f2,f3,f4,f5⟩:=hf it (by simp);obtain⟨_,_,vs,r,da⟩:=yq I he hd;have hl:kvs.length=vs.length:=r.length;exact wpAny_pyNext_dict_end (I.ok.hd hc) (by rw[<-hl];exact ki) da (dR (by rw[<-hl];exact hi)) λh' eb=>⟨rfl,I.turned (t':=s.toks) (λb o hb e=>eb b o hb e) f0 f1 f3 f4 f5⟩
 self:=λ_ _ _ _ _ st h=>by obtain⟨es,ep,hd,ki⟩:=st;exact wpAny_pyIter_keyiter ki h
section
variable{X:Cx}{G:Bg}{tg:Expr}
def TZ(tl:TE):TI:=λσ H R=>tl σ H λx H1=>∃a o kvs,x=.ref a/\H1 a=some (.frz o (.dK kvs))/\R (Itd a o kvs) H1
theorem M7{l:Expr}{tl:TE}(hl:PE X l tl):PI X tg l (TZ tl):=by
 intro pins s σ H R I h;refine thn (hl pins s σ H _ I h) λv s1 ⟨x,H1,I1,r1,q1⟩=>?_;obtain⟨a,o,kvs,e,he,q⟩:=q1;subst e;cases r1;obtain⟨q0,_,y,vs,r,ob,es,ep,e1,e2,e3,e4⟩:=(show nS X.prog X.w H1 s1.heap a (.frz o (.dK kvs)) from I1.hok a _ he);rw[q0]at e1;cases e1;have hl:kvs.length=vs.length:=r.length;refine kO (knd:=mN X.prog X.w) (kvs:=vs) (ep:=ep) y ⟨o,es,q0,e2,e3,e4⟩ ?_;refine⟨s1.heap.objs.size,[s1.heap.objs.size],_,_,H1,rfl,I1.kept (t':=s1.toks) λb o e=>av _ e,HL a _ o kvs,⟨es,ep,e3,⟨_,aP _ rfl,rfl,by rw[hl];rfl⟩⟩,λb hb=>?_,q⟩;have e:b=s1.heap.objs.size:=by simpa using hb
 subst e;exact I1.fpOk (aw _) (I1.hok.fresh (aw _))
def Qf:Key->D
 |.inl i=>.int i
 |.inr x=>.str x
theorem M8(k:Key){H:Hp}:Rep G H (Qf k) (kV k):=by
 cases k with
 |inl i=>exact pd i
 |inr x=>exact rl x
def iD(f:FE):FA:=λρ=>match f ρ with
 |some (.dic ks ds,ρ1)=>if ks.length=ds.length then some (ks.map Qf,ρ1)else none
 |_=>none
theorem JX{tg:Expr}(h:PI X tg e (TZ (tF G f))):PI X tg e (tFI G (iD f)):=PI.weak h λσ H R hh=>by
 obtain⟨F,ρ,H0,ds,ρ',R,e,k⟩:=hh;unfold iD at e;split at e
 ·rename_i ks ds' ρ1 e1;split at e
  ·rename_i hlen;cases e;refine⟨F,ρ,H0,_,_,R,e1,λv H1 H1' s R' r=>?_⟩;unfold Rep at r;obtain⟨a,o,xs,rfl,r1,r2,r3⟩:=r;have hz:(ks.zip xs).length=ks.length:=by rw[eC,<- r2,eM]
   refine⟨a,o,_,rfl,R'.sub _ _ r1,k _ _ _ s R' λi H2 H2' t t'=>⟨λd ed=>?_,λhl=>?_⟩⟩
   ·rw[aK]at ed;cases ek:ks[i]? with
    |none=>rw[ek]at ed;cases ed
    |some j=>
     rw[ek]at ed;cases ed;have hi:i<ks.length:=(bx.mp ek).1;refine⟨⟨by rw[hz];exact hi,t' _ _ (t _ _ r1)⟩,λz H3 y=>?_⟩;obtain⟨e3,k',z',hk',rfl⟩:=y;subst e3;have:k'=j:=by rw[List.getElem?_zip_eq_some]at hk';have:=hk'.1;rw[ek]at this;exact(bQ this).symm
     subst this;exact⟨H2,mI.refl _,t',mI.refl _,λb o e=>.inl e,M8 _⟩
   ·refine⟨by rw[hz,hl,ah];exact aw _,t' _ _ (t _ _ r1)⟩
  ·cases e
 ·cases e
end
variable{xs:List V}
section
variable{X:Cx}{pins:List (Addr×Obj)}{σ:St}{H:Hp}{s:ab}
theorem Inv.turnedLaid{T:Addr}{t':Nat}{ch:List Addr}(I:Inv X pins σ H s)(hf:∀b∈ch,AF X pins H b)(k:∀b o,b∉ch->s.heap.get? b=some o->h'.get? b=some o)
  (hT:s.heap.objs.size<=T) (new:nS X.prog X.w (upd H T (.tup xs)) h' T (.tup xs)):Inv X pins σ (upd H T (.tup xs)) { s with heap:=h',toks:=t' }:=by
 have nT:H T=none:=I.hok.fresh hT;have ne:∀{b:Addr} {u:HO},H b=some u->b≠T:=λe z=>by subst z;rw[nT]at e;cases e
 have nch:∀{b:Addr} {u:HO},H b=some u->b∉ch:=λe z=>by have:=(hf _ z).1;rw[e]at this;cases this
 have lt:∀{b:Addr} {o:Obj},s.heap.get? b=some o->b≠T:=λe z=>by subst z;exact ai (bA (ay e) hT) (c7 _)
 refine I.step (g':=s.gens) (d':=s.drawn) (ch:=ch) (λb hb=>?_) (λb o _ _ hc e _=>k b o hc e) (λb o _ _ hc e _=>⟨o.slots,k b o hc e⟩) (λb o _ e n=>by rw[mG (lt e)];exact n) (λb o hc e=>⟨o,k b o hc e⟩)
  (λb ys e=>by rw[mG (ne e)];exact e) (λb o u e=>by rw[mG (ne e)];exact e) (λb ps e=>⟨#[],by rw[mG (ne e),e];simp⟩) (λm hm=>?_) (λb u e=>?_) I.bare
 ·obtain⟨f0,f1,f2,f3,f4,f5⟩:=hf b hb;exact⟨f3,f1,f4,f5⟩
 ·exact hm.at' λo e=>k _ o (λz=>(hf _ z).2.1 rfl) e
 ·by_cases hb:b=T
  ·subst hb;rw[mF]at e;cases e;exact new
  ·rw[mG hb]at e;refine(I.hok b u e).stay (λc v hc q=>k c v ?_ q) (λc q=>by rw[mG (ne q)];exact q) λc ys q=>by rw[mG (ne q)];exact q
   rcases hc with rfl|hc
   ·exact nch e
   ·exact nch hc
def Itz(l1 l2:Addr):It:=
 ⟨λi H=>∃xs ys x y,H l1=some (.lst xs)/\H l2=some (.lst ys)/\xs[i]?=some x/\ys[i]?=some y,
  λi H v H'=>∃p x y,H p=none/\v=.ref p/\H'=upd H p (.tup [x,y])/\(∀xs,H l1=some (.lst xs)->xs[i]?=some x)/\∀ys,H l2=some (.lst ys)->ys[i]?=some y,
  λi H=>∃xs ys,H l1=some (.lst xs)/\H l2=some (.lst ys)/\(xs.length<=i\/ys.length<=i)⟩
end
structure JY(z TI TO i1 i2:Addr):Prop where
 a:TI≠z
 b:TO≠z
 c:i1≠z
 d:i2≠z
 e:TI≠TO
 f:TI≠i1
 g:TI≠i2
 h:TO≠i1
 i:TO≠i2
 j:i1≠i2
theorem Qg(n:Nat):JY (n+4) (n+2) (n+3) n (n+1) where
 a:=(by omega:(n+2:Nat)≠n+4)
 b:=(by omega:(n+3:Nat)≠n+4)
 c:=(by omega:(n:Nat)≠n+4)
 d:=(by omega:(n+1:Nat)≠n+4)
 e:=(by omega:(n+2:Nat)≠n+3)
 f:=(by omega:(n+2:Nat)≠n)
 g:=(by omega:(n+2:Nat)≠n+1)
 h:=(by omega:(n+3:Nat)≠n)
 i:=(by omega:(n+3:Nat)≠n+1)
 j:=(by omega:(n:Nat)≠n+1)
def zTn(z TI TO i1 i2 l1 l2:Addr)(i:Nat)(h:Heap):Prop:=IsZip h z TI TO .none/\IsPair h TI (.ref i1) (.ref i2)/\(∃a b,IsPair h TO a b)/\h.IsListIter i1 l1 i/\h.IsListIter i2 l2 i
theorem JZ{P:aq}{w:ak}{K:aj}{elts:List Expr}{x1}{z TI TO i1 i2 l1 l2:Addr}(D:JY z TI TO i1 i2):Turn P w K (.Tuple elts x1 pos) (Itz l1 l2) [z,TI,TO,i1,i2] z (zTn z TI TO i1 i2 l1 l2) where
 mem:=by simp
 obj:=λi h st b hb=>by
  obtain⟨hz,h1,⟨a,c,h2⟩,⟨o3,h3,_,d3⟩,⟨o4,h4,_,d4⟩⟩:=st;simp only[aD,bD,or_false]at hb;rcases hb with rfl|rfl|rfl|rfl|rfl
  ·exact⟨_,hz,λv y=>nomatch y⟩
  ·exact⟨_,h1,λv y=>nomatch y⟩
  ·exact⟨_,h2,λv y=>nomatch y⟩
  ·exact⟨o3,h3,λv y=>by rw[d3]at y;cases y⟩
  ·exact⟨o4,h4,λv y=>by rw[d4]at y;cases y⟩
 keep:=λi h h' st k=>by obtain⟨hz,h1,⟨a,c,h2⟩,h3,h4⟩:=st;exact⟨k z (by simp) _ hz,k TI (by simp) _ h1,⟨a,c,k TO (by simp) _ h2⟩,h3.at λo e=>k i1 (by simp) o e,h4.at λo e=>k i2 (by simp) o e⟩
 item:=by
  intro X hP hw hK hc i pins s σ H E I hf st hg;subst hP hw hK;obtain⟨xs,ys,x,y,q1,q2,qx,qy⟩:=hg;obtain⟨hz,hTI,⟨a,b,hTO⟩,h1,h2⟩:=st;obtain⟨its,r1,p1,_⟩:=I.list (SqL.of q1);obtain⟨jts,r2,p2,_⟩:=I.list (SqL.of q2);obtain⟨u1,hu1,ru1⟩:=r1.get qx;obtain⟨u2,hu2,ru2⟩:=r2.get qy;have nf:∀{l:Addr} {u:HO} {c:Addr},H l=some u->c∈[z,TI,TO,i1,i2]->l≠c:=λe hm w=>by subst w;have:=(hf _ hm).1;rw[e]at this;cases this
  have DD:ZipApart z TI TO i1 i2 l1 l2:=⟨D.a,D.b,D.c,D.d,D.e,D.f,D.g,D.h,D.i,D.j,nf q1 (by simp),nf q1 (by simp),nf q1 (by simp),nf q1 (by simp),nf q2 (by simp),nf q2 (by simp),nf q2 (by simp),nf q2 (by simp)⟩;refine wpAny_pyNext_zip_item DD hz hTI hTO h1 h2 p1.isList p2.isList (x:=u1) (y:=u2) (by simpa using hu1) (by simpa using hu2) λh' a1 a2 a3 a4 a5 a6 kk=>?_;refine⟨_,rfl,wpAny_letOwnedTupleGo_zip (s:={ s with heap:=h' }) a1 λh2' hz' sb=>?_⟩;have lt:∀{c:Addr} {o:Obj},s.heap.get? c=some o->s.heap.objs.size≠c:=λe w=>ai (ay e) (by rw[w];exact c7 _);have Tz:s.heap.objs.size≠z:=lt hz;have hp:IsPair h2' s.heap.objs.size u1 u2:=sb.extBut _ _ Tz a5;have ch4:∀b∈[z,TO,i1,i2],b∈[z,TI,TO,i1,i2]:=λb hb=>by simp at hb ⊢;rcases hb with rfl|rfl|rfl|rfl<;>simp
  have ok:nS X.prog X.w (upd H s.heap.objs.size (.tup [x,y])) h2' s.heap.objs.size (.tup [x,y]):=⟨by rw[aT];show 2<=16777216;decide,[u1,u2],.cons ru1 (.cons ru2 .nil),_,hp,rfl,_,rfl⟩;have I1:=Inv.turnedLaid (h':=h2') (t':=s.toks) (T:=s.heap.objs.size) (xs:=[x,y]) (ch:=[z,TO,i1,i2]) I (λb hb=>hf b (ch4 b hb))
   (λb o hb e=>sb.extBut _ _ (λw=>hb (by simp[w])) (kk b o (λw=>hb (by simp[w])) (λw=>hb (by simp[w])) (λw=>hb (by simp[w])) (λw=>hb (by simp[w])) e)) (aw _) ok
  refine⟨.ref s.heap.objs.size,_,I1,rfl,⟨_,x,y,I.hok.fresh (aw _),rfl,rfl,λxs' e=>?_,λys' e=>?_⟩,⟨hz',sb.extBut _ _ D.a (kk _ _ D.a D.e D.f D.g hTI),⟨_,_,sb.extBut _ _ D.b a2⟩,a3.extBut sb.extBut D.c,a4.extBut sb.extBut D.d⟩,λb hb=>?_⟩
  ·rw[q1]at e;cases e;exact qx
  ·rw[q2]at e;cases e;exact qy
  ·rw[mG (λw=>?_)]
   ·exact(hf b hb).1
   ·simp only[aD,bD,or_false]at hb;rcases hb with hb|hb|hb|hb|hb
    ·exact lt hz (w.symm.trans hb)
    ·exact lt hTI (w.symm.trans hb)
    ·exact lt hTO (w.symm.trans hb)
    ·obtain⟨o,e,_⟩:=h1;exact lt e (w.symm.trans hb)
    ·obtain⟨o,e,_⟩:=h2;exact lt e (w.symm.trans hb)
 done:=by
  intro X hP hw hK hc i pins s σ H E I hf st hg;subst hP hw hK;obtain⟨xs,ys,q1,q2,hend⟩:=hg;obtain⟨hz,hTI,⟨a,b,hTO⟩,h1,h2⟩:=st;obtain⟨its,r1,p1,_⟩:=I.list (SqL.of q1);obtain⟨jts,r2,p2,_⟩:=I.list (SqL.of q2);have nf:∀{l:Addr} {u:HO} {c:Addr},H l=some u->c∈[z,TI,TO,i1,i2]->l≠c:=λe hm w=>by subst w;have:=(hf _ hm).1;rw[e]at this;cases this
  have DD:ZipApart z TI TO i1 i2 l1 l2:=⟨D.a,D.b,D.c,D.d,D.e,D.f,D.g,D.h,D.i,D.j,nf q1 (by simp),nf q1 (by simp),nf q1 (by simp),nf q1 (by simp),nf q2 (by simp),nf q2 (by simp),nf q2 (by simp),nf q2 (by simp)⟩;have e1:=r1.length;have e2:=r2.length;refine wpAny_pyNext_zip_end (I.ok.hd hc) DD hz hTI hTO h1 h2 p1.isList p2.isList ?_ λh' kk=>⟨rfl,?_⟩
  ·rcases hend with w|w
   ·exact .inl (by simp;omega)
   ·exact .inr (by simp;omega)
  ·have ch4:∀b∈[z,TO,i1,i2],b∈[z,TI,TO,i1,i2]:=λb hb=>by simp at hb ⊢;rcases hb with rfl|rfl|rfl|rfl<;>simp
   have nch:∀{b:Addr} {u:HO},H b=some u->b∉[z,TO,i1,i2]:=λe w=>by have:=(hf _ (ch4 _ w)).1;rw[e]at this;cases this
   have k:∀b o,b∉[z,TO,i1,i2]->s.heap.get? b=some o->h'.get? b=some o:=λb o hb e=>kk b o (λw=>hb (by simp[w])) (λw=>hb (by simp[w])) (λw=>hb (by simp[w])) (λw=>hb (by simp[w])) e;refine I.step (g':=s.gens) (d':=s.drawn) (t':=s.toks) (ch:=[z,TO,i1,i2]) (λb hb=>?_) (λb o _ _ hc e _=>k b o hc e) (λb o _ _ hc e _=>⟨o.slots,k b o hc e⟩) (λb o _ e n=>n) (λb o hc e=>⟨o,k b o hc e⟩)
    (λb ys e=>e) (λb o u e=>e) (λb ps e=>⟨#[],by rw[e];simp⟩) (λm hm=>?_) (λb u e=>?_) I.bare
   ·obtain⟨f0,f1,f2,f3,f4,f5⟩:=hf b (ch4 b hb);exact⟨f3,f1,f4,f5⟩
   ·exact hm.at' λo e=>k _ o (λw=>(hf _ (ch4 _ w)).2.1 rfl) e
   ·refine(I.hok b u e).stay (λc v hc q=>k c v ?_ q) (λc q=>q) λc ys q=>q;rcases hc with rfl|hc
    ·exact nch e
    ·exact nch hc
 self:=λ_ _ _ _ _ st h=>wpAny_pyIter_zip st.1 h
section
variable{X:Cx}{G:Bg}{elts:List Expr}{x1:Nat}{tpos:Pos}
def T2(ta:TA):TI:=λσ H R=>ta σ H λvs H1=>∃a b xs ys,vs=[.ref a,.ref b]/\H1 a=some (.lst xs)/\H1 b=some (.lst ys)/\R (Itz a b) H1
theorem Qh{a:Expr}{ta:TA}{p:Pos}(hg:Gl X "zip")(hm:X.mg "zip" = none)(ha:PA X [a,b] ta)(hs:starEach [a,b] X.env=[(false,eval a X.env),(false,eval b X.env)]:=by rfl)(hs2:starEach [b] X.env=[(false,eval b X.env)]:=by rfl):
  PI X (.Tuple elts x1 tpos) (.Call (.Name "zip" p) [a,b] [] pos) (T2 ta):=by
 intro pins s σ H R I h;refine Call_ (tT I hg hm boot_zip (callWith_type1 (thn (ha pos pins s σ H _ I h) λus s1 ⟨vs,H1,I1,r1,q1⟩=>?_) (by rw[hs,hs2]) (by rw[hs2];rfl)));obtain⟨a',b',xs,ys,rfl,e1,e2,q⟩:=q1;obtain⟨u,v,rfl,ru,rv⟩:=vals2 r1;cases ru;cases rv;obtain⟨its,_,p1,_⟩:=I1.list (SqL.of e1);obtain⟨jts,_,p2,_⟩:=I1.list (SqL.of e2);refine call_zip_2 p1.isList p2.isList λh' z1 z2 z3 z4 z5 z6 kk=>?_;refine wpAny_pyIter_zip z1 ?_;have I2:Inv X pins σ H1 { s1 with heap:=h' }:=I1.kept (t':=s1.toks) kk;have D:=Qg s1.heap.objs.size;refine⟨_,_,_,_,H1,rfl,I2,JZ D,⟨z1,z2,⟨_,_,z3⟩,z4,z5⟩,λc hc=>?_,q⟩;have hc':s1.heap.objs.size<=c:=by simp only[aD,bD,or_false]at hc;rcases hc with rfl|rfl|rfl|rfl|rfl<;>first|exact iI _ _|exact aw _
 exact I1.fpOk hc' (I1.hok.fresh hc')
def Fc(ds es:List D):List D:=cx (λd e=>D.tup [d,e]) ds es
def iZ(f:FA):FA:=λρ=>match f ρ with
 |some ([.lst ds,.lst es],ρ1)=>some (Fc ds es,ρ1)
 |_=>none
theorem J0(ds es:List D):(Fc ds es).length=min ds.length es.length:=by unfold Fc;rw[ic]
theorem M9{f:FA}(h:PI X tg e (T2 (tFA G f))):PI X tg e (tFI G (iZ f)):=PI.weak h λσ H R hh=>by
 obtain⟨F,ρ,H0,ds,ρ',R,e,k⟩:=hh;unfold iZ at e;split at e
 ·rename_i ds' es' ρ1 e1;cases e;refine⟨F,ρ,H0,_,_,R,e1,λvs H1 H1' s R' rs=>?_⟩;unfold mB at rs;obtain⟨v1,r1,rfl,h1,rs⟩:=rs;unfold mB at rs;obtain⟨v2,r2,rfl,h2,rs⟩:=rs;unfold mB at rs;subst rs;unfold Rep at h1 h2;obtain⟨a,xs,rfl,a1,a2⟩:=h1;obtain⟨b,ys,rfl,b1,b2⟩:=h2;refine⟨a,b,xs,ys,rfl,R'.sub _ _ a1,R'.sub _ _ b1,k _ _ _ s R' λi H2 H2' t t'=>?_⟩;have g1:H2' a=some (.lst xs):=t' _ _ (t _ _ a1);have g2:H2' b=some (.lst ys):=t' _ _ (t _ _ b1);refine⟨λd ed=>?_,λhl=>⟨xs,ys,g1,g2,?_⟩⟩
  ·unfold Fc at ed;rw[jZ]at ed;cases ex:ds'[i]? with
   |none=>rw[ex]at ed;cases ed
   |some dx=>
    cases ey:es'[i]? with
    |none=>rw[ex,ey]at ed;cases ed
    |some dy=>
     rw[ex,ey]at ed;cases ed;obtain⟨vx,x1',x2⟩:=pj a2 ex;obtain⟨vy,y1',y2⟩:=pj b2 ey;refine⟨⟨xs,ys,vx,vy,g1,g2,x1',y1'⟩,λx H3 y=>?_⟩;obtain⟨p,x',y',hp,rfl,rfl,w1,w2⟩:=y;have e1':=w1 xs g1;have e2':=w2 ys g2;rw[x1']at e1';rw[y1']at e2';cases e1';cases e2';have p0:H2 p=none:=by
      cases q:H2 p with
      |none=>rfl
      |some o=>have:=t' _ _ q;rw[hp]at this;cases this
     refine⟨upd H2 p (.tup [vx,vy]),mL p0 _,λb o e=>?_,mL hp _,λb o e=>?_,vv (SqT.of mF) ?_⟩
     ·by_cases hb:b=p
      ·subst hb;rw[mF]at e ⊢;exact e
      ·rw[mG hb]at e ⊢;exact t' _ _ e
     ·by_cases hb:b=p
      ·subst hb;exact .inr hp
      ·rw[mG hb]at e;exact .inl e
     ·have m:=t.trans (mL p0 (.tup [vx,vy]));exact mW (Rep.mono m _ _ x2) (mW (Rep.mono m _ _ y2) mV)
  ·rw[J0]at hl;rw[<-mE a2,<- mE b2];omega
 ·cases e
end
mutual
def noC(N c:Nat):D->Bool
 |.non=>true
 |.bl _=>true
 |.int _=>true
 |.str _=>true
 |.tup ds=>DQ N c ds
 |.lst ds=>DQ N c ds
 |.fzl ds=>DQ N c ds
 |.obj k _ ds=>decide (k<N)&&decide (k≠c)&&DQ N c ds
 |.dic _ ds=>DQ N c ds
def DQ(N c:Nat):List D->Bool
 |[]=>true
 |d::ds=>noC N c d&&DQ N c ds
end
def without(H:Hp)(a:Addr):Hp:=λb=>if b=a then none else H b
theorem zS{H:Hp}{b:Addr}(h:b≠a):without H a b=H b:=by unfold without;rw[af h]
theorem wV{H:Hp}{b:Addr}{o:HO}(h:without H a b=some o):b≠a/\H b=some o:=by
 unfold without at h;by_cases hb:b=a
 ·rw[ag hb]at h;cases h
 ·rw[af hb]at h;exact⟨hb,h⟩
theorem pZ{H:Hp}{b:Addr}{u v:HO}(ha:H a=some u)(hb:H b=some v)(d:u≠v):without H a b=some v:=by rw[zS (λz=>by subst z;rw[ha]at hb;exact d (bQ hb))];exact hb
section
variable{G:Bg}{H:Hp}{a dx:Addr}{fs:List (Str×V)}{N c:Nat}
theorem DR(ha:H a=some (.ins (G.ca c) dx fs)){p:Addr}(h:SqT G.K H p xs):SqT G.K (without H a) p xs:=by
 rcases h with (h|⟨o,h⟩)|h
 ·exact .inl (.inl (pZ ha h (λz=>nomatch z)))
 ·exact .inl (.inr ⟨o,pZ ha h (λz=>nomatch z)⟩)
 ·exact .inr h
theorem DS(ha:H a=some (.ins (G.ca c) dx fs)){p:Addr}(h:SqL G.K H p xs):SqL G.K (without H a) p xs:=by
 rcases h with (h|⟨o,h⟩)|h
 ·exact .inl (.inl (pZ ha h (λz=>nomatch z)))
 ·exact .inl (.inr ⟨o,pZ ha h (λz=>nomatch z)⟩)
 ·exact .inr h
mutual
theorem yt(inj:∀j k,j<N->k<N->G.ca j=G.ca k->j=k)(hc:c<N)(ha:H a=some (.ins (G.ca c) dx fs)):∀(d:D) (v:V),noC N c d=true->Rep G H d v->Rep G (without H a) d v
 |.non,v,_,h=>by unfold Rep at h ⊢;exact h
 |.bl _,v,_,h=>by unfold Rep at h ⊢;exact h
 |.int _,v,_,h=>by unfold Rep at h ⊢;exact h
 |.str _,v,_,h=>by unfold Rep at h ⊢;exact h
 |.tup ds,v,n,h=>by unfold noC at n;unfold Rep at h ⊢;obtain⟨p,xs,e,h1,h2⟩:=h;exact⟨p,xs,e,DR ha h1,pJ inj hc ha ds xs n h2⟩
 |.lst ds,v,n,h=>by unfold noC at n;unfold Rep at h ⊢;obtain⟨p,xs,e,h1,h2⟩:=h;exact⟨p,xs,e,pZ ha h1 (λz=>nomatch z),pJ inj hc ha ds xs n h2⟩
 |.fzl ds,v,n,h=>by unfold noC at n;unfold Rep at h ⊢;obtain⟨p,xs,e,h1,h2⟩:=h;exact⟨p,xs,e,DS ha h1,pJ inj hc ha ds xs n h2⟩
 |.obj k ns ds,v,n,h=>by unfold noC at n;simp only[aL,bu]at n;unfold Rep at h ⊢;obtain⟨p,dx',xs,e,h1,h2,h3⟩:=h;refine⟨p,dx',xs,e,pZ ha h1 (λz=>?_),h2,pJ inj hc ha ds xs n.2 h3⟩;injection z with z1;exact n.1.2 (inj k c n.1.1 hc z1.symm)
 |.dic ks ds,v,n,h=>by unfold noC at n;unfold Rep at h ⊢;obtain⟨p,o,xs,e,h1,h2,h3⟩:=h;exact⟨p,o,xs,e,pZ ha h1 (λz=>nomatch z),h2,pJ inj hc ha ds xs n h3⟩
theorem pJ(inj:∀j k,j<N->k<N->G.ca j=G.ca k->j=k)(hc:c<N)(ha:H a=some (.ins (G.ca c) dx fs)):∀(ds:List D) (xs:List V),DQ N c ds=true->mB G H ds xs->mB G (without H a) ds xs
 |[],xs,_,h=>by unfold mB at h ⊢;exact h
 |d::ds,xs,n,h=>by unfold DQ at n;simp only[aL]at n;unfold mB at h ⊢;obtain⟨v,r,e,h1,h2⟩:=h;exact⟨v,r,e,yt inj hc ha d v n.1 h1,pJ inj hc ha ds r n.2 h2⟩
end
end
def wc:Sl->Sl
 |.im d=>.im d
 |_=>.un
def sD(N:Nat)(f:FE):FE:=λρ=>match ρ with
 |.ob c ns ds::r=>match f (.im (.obj c ns ds)::r.map wc)with
  |some (d,_)=>if (decide (c<N)&&noC N c d)=true then some (d,ρ)else none
  |none=>none
 |_=>none
section
variable{X:Cx}{G:Bg}
theorem Fd{s:Sl}:(wc s).own=false:=by cases s<;>rfl
theorem Na{N:Nat}(inj:∀j k,j<N->k<N->G.ca j=G.ca k->j=k)(h:PE X e (tF G f)):PE X e (tF G (sD N f)):=PE.weak h λσ H Q hh=>by
 obtain⟨F,ρ,H0,d,ρ',R,e,k⟩:=hh;unfold sD at e;split at e
 ·rename_i c ns ds r;rcases mR (f:=f) (ρ:=.im (.obj c ns ds)::r.map wc)with e1|⟨x,ρ1,e1⟩<;>simp only[e1]at e
  ·cases e
  split at e
  ·rename_i hn;cases e;simp only[aL,bu]at hn;obtain⟨a,dx,xs,h1,h2,h3,h4,h5,h6⟩:=R.sl 0 _ rfl;have RL:mJ G ⟨upd H0 a (.ins (G.ca c) dx (ns.zip xs)),H,[]⟩ σ (.im (.obj c ns ds)::r.map wc) (upd H0 a (.ins (G.ca c) dx (ns.zip xs))) H:={
    sub:=λb o q=>by
     by_cases hb:b=a
     ·subst hb;rw[mF]at q;cases q;exact h2
     ·rw[mG hb]at q;exact R.sub _ _ q
    g0:=mI.refl _
    keep:=λb o q _=>q
    fr:=λb o q=>.inl q
    am:=λb q=>by cases q
    len:=by have:=R.len;simpa using this
    sl:=λi s q=>by
     cases i with
     |zero=>cases q;exact⟨.ref a,h1,by unfold Rep;exact⟨a,dx,xs,rfl,mF,h5,mB.mono (mL h3 _) _ _ h6⟩⟩
     |succ i=>
      have q':(r.map wc)[i]?=some s:=q;rw[aK]at q';cases q1:r[i]? with
      |none=>rw[q1]at q';cases q'
      |some t=>
       rw[q1]at q';cases q';have ok:=R.sl (i+1) t q1;cases t with
       |im d=>obtain⟨v,g1,g2⟩:=ok;exact⟨v,g1,Rep.mono (mL h3 _) _ _ g2⟩
       |_=>trivial
    ap:=λi j s t b _ qi _ so=>by
     cases i with
     |zero=>cases qi;cases so
     |succ i=>
      have q':(r.map wc)[i]?=some s:=qi;rw[aK]at q';cases q1:r[i]? with
      |none=>rw[q1]at q';cases q'
      |some t=>rw[q1]at q';cases q';rw[Fd]at so;cases so }
   refine⟨_,_,_,d,ρ1,RL,e1,λv H1 H1' s R' rd=>?_⟩;have ha:H1 a=some (.ins (G.ca c) dx (ns.zip xs)):=s _ _ mF;have s0:mI H0 (without H1 a):=λb o q=>by
    have hb:b≠a:=λz=>by subst z;rw[h3]at q;cases q
    rw[zS hb];exact s b o (by rw[mG hb];exact q)
   refine k v (without H1 a) H1' s0 ?_ (yt inj hn.1 ha d v hn.2 rd);refine R.grow (λb o q=>R'.keep b o q (by simp)) s0 (λb o q=>R'.sub _ _ (wV q).2) λb o q=>?_;obtain⟨hb,q⟩:=wV q;rcases R'.fr b o q with z|z
   ·have z':upd H0 a (.ins (G.ca c) dx (ns.zip xs)) b=some o:=z;rw[mG hb]at z';exact .inl z'
   ·exact .inr z
  ·cases e
 ·cases e
end
section
variable{X:Cx}{pins:List (Addr×Obj)}{σ:St}{H:Hp}{s:ab}{a:Addr}{A:ar}{E:aa->ab->Prop}
theorem Qi{k:Key}{z:V}{u r:aa}{Q:aa->ab->Prop}(I:Inv X pins σ H s)(e:H a=some (.dK kvs))(ry:RelV (kV k) u)(rz:RelV z r)(hl:kvs.length<sizeLine)
  (h1:∀v w s',qc kvs k=some v->Inv X pins σ H s'->RelV v w->Q w s') (h2:∀s',qc kvs k=none->Inv X pins σ (upd H a (.dK (putK kvs k z))) s'->Q r s'):
  wpAny (model X.prog X.w) A (call (.builtin "dict.setdefault") [.ref a,u,r]) Q E s:=by
 obtain⟨y,hd,vs,rel,dd⟩:=IW I.hok e;have hz:vs.length<=sizeLine:=by rw[<-rel.length];exact y
 have hp:(putK kvs k z).length<=sizeLine:=by have:=su kvs k z;omega
 have rv:=rel.val k;refine fI jW dd.typeIs F.entry_dict_setdefault (F.args_dict_setdefault_3 _ _ _) (kt_meets_setdefault (mN X.prog X.w) a (vO ry) hd r) ⟨vs,dd,hz,λw hw=>?_,λhn h' dd' hs=>?_⟩
 ·rw[hw]at rv;cases ev:qc kvs k with
  |none=>rw[ev]at rv;exact rv.elim
  |some v=>rw[ev]at rv;exact h1 v w _ ev (I.tok _) rv
 ·rw[hn]at rv;cases ev:qc kvs k with
  |some v=>rw[ev]at rv;exact rv.elim
  |none=>have he:∃q,h'.get? a=some q:=let ⟨q,_,_,hq,_⟩:=dd';⟨q,hq⟩;exact h2 _ ev (zd I (by rw[e];exact True.intro) hs he (ES hp hd (rel.put k rz) dd'))
def J1(td ty tx:TE):TE:=λσ H Q=>td σ H λx H1=>∃a,x=.ref a/\IsD H1 a/\ty σ H1 λy H2=>tx σ H2 λz H3=>∃kvs k,H3 a=some (.dK kvs)/\y=kV k/\kvs.length<sizeLine/\
 (∀v,qc kvs k=some v->Q v H3)/\(qc kvs k=none->Q z (upd H3 a (.dK (putK kvs k z))))
theorem J2{o f:Expr}{td ty tx:TE}(ho:PE X o td)(he:PE X e ty)(hf:PE X f tx)(m:M2 X o "setdefault" apos e f cpos):PE X (.Call (.Attribute o "setdefault" apos) [e,f] [] cpos) (J1 td ty tx):=by
 intro pins s σ H Q I h;refine iz m.base m.few m.line iA jW F.type_dict_setdefault (thn (ho pins s σ H _ I h) λu s1 ⟨x,H1,I1,rx,a,ex,d,q1⟩=>?_);subst ex;obtain rfl:u=Value.ref a:=rx;obtain⟨t1,t2,_⟩:=EU I1 d;refine⟨t1,t2,?_⟩;rw[m.trees];refine f6 rfl (gb (cU (thn (he pins s1 σ H1 _ I1 q1) λiv s2 ⟨y,H2,I2,ry,q2⟩=>
  cU (thn (hf pins s2 σ H2 _ I2 q2) λfv s3 ⟨z,H3,I3,rz,kvs,k,e3,ey,hl,g1,g2⟩=>dU ?_))))
 subst ey;exact Qi I3 e3 ry rz hl (λv w s' ev I' rw'=>⟨v,H3,I',rw',g1 v ev⟩) λs' ev I'=>⟨z,_,I',rz,g2 ev⟩
end
def AR(ks:List Key)(dss:List (List D))(k:Key)(d:D):List Key×List (List D):=
 if zN ks k=true then (ks,cx (λk' ds=>if k'=k then ds++[d]else ds) ks dss)else (ks++[k],dss++[[d]])
theorem DT{ks:List Key}{k:Key}:zN ks k=true ↔ k∈ks:=by unfold zN;rw[dt];exact⟨λ⟨x,h1,h2⟩=>bh h2▸h1,λh=>⟨k,h,aH rfl⟩⟩
variable{vs:List V}
theorem J3{ks:List Key}{k:Key}{v:V}:ks.length=vs.length->qc (ks.zip vs) k=some v->∃j:Nat,ks[j]?=some k/\vs[j]?=some v:=by
 induction ks generalizing vs with
 |nil=>intro _ h;cases h
 |cons k0 ks ih=>
  intro hl h;cases vs with
  |nil=>cases hl
  |cons v0 vs=>
   unfold qc at h;rw[cX,c4]at h;by_cases e:k0=k
   ·subst e;simp only[decide_true]at h;cases h;exact⟨0,rfl,rfl⟩
   ·simp only[e,decide_false]at h;obtain⟨j,h1,h2⟩:=ih (by simpa using hl) h;exact⟨j+1,h1,h2⟩
theorem J4{ks:List Key}{k:Key}:ks.length=vs.length->qc (ks.zip vs) k=none->k∉ks:=by
 induction ks generalizing vs with
 |nil=>intro _ _ h;cases h
 |cons k0 ks ih=>
  intro hl h hm;cases vs with
  |nil=>cases hl
  |cons v0 vs=>
   unfold qc at h;rw[cX,c4]at h;by_cases e:k0=k
   ·subst e;simp only[decide_true]at h;cases h
   ·simp only[e,decide_false]at h;rcases aD.mp hm with z|z
    ·exact e z.symm
    ·exact ih (by simpa using hl) h z
structure Grp(G:Bg)(F:Fr)(H0 H:Hp)(a:Addr)(ks:List Key)(dss:List (List D))(bs:List Addr):Prop where
 at_:H a=some (.dK (ks.zip (bs.map V.ref)))
 n0:H0 a=none
 nB:F.B a=none
 len:ks.length=bs.length
 len':bs.length=dss.length
 nd:bs.Nodup
 kd:ks.Nodup
 each:∀(i:Nat) (b:Addr) (ds:List D),bs[i]?=some b->dss[i]?=some ds->∃xs,H b=some (.lst xs)/\H0 b=none/\F.B b=none/\mB G H0 ds xs
variable{j:Nat}
section
variable{G:Bg}{F:Fr}{σ:St}{ρ:List Sl}{H0 H H0' H':Hp}{a:Addr}{ks:List Key}{dss:List (List D)}{bs:List Addr}
theorem Grp.grow(g:Grp G F H0 H a ks dss bs)(hs:mI H H')(h0:mI H0 H0')(hf:∀b o,H0' b=some o->H0 b=some o\/H b=none):Grp G F H0' H' a ks dss bs where
 at_:=hs _ _ g.at_
 n0:=by
  cases q:H0' a with
  |none=>rfl
  |some o=>
   rcases hf a o q with z|z
   ·rw[g.n0]at z;cases z
   ·rw[g.at_]at z;cases z
 nB:=g.nB
 len:=g.len
 len':=g.len'
 nd:=g.nd
 kd:=g.kd
 each:=λi b ds e1 e2=>by
  obtain⟨xs,q1,q2,q3,q4⟩:=g.each i b ds e1 e2;refine⟨xs,hs _ _ q1,?_,q3,mB.mono h0 _ _ q4⟩;cases q:H0' b with
  |none=>rfl
  |some o=>
   rcases hf b o q with z|z
   ·rw[q2]at z;cases z
   ·rw[q1]at z;cases z
theorem mJ.still(R:mJ G F σ ρ H0 H)(no:∀s∈ρ,s.own=false):mJ G ⟨H0,H,[]⟩ σ ρ H0 H where
 sub:=R.sub
 g0:=mI.refl _
 keep:=λb o e _=>e
 fr:=λb o e=>.inl e
 am:=λa h=>by cases h
 len:=R.len
 sl:=λi s e=>by
  have ok:=R.sl i s e;have n:=no s (bz e);cases s with
  |un=>trivial
  |im d=>exact ok
  |_=>cases n
 ap:=λi j s t b _ e _ so=>by rw[no s (bz e)]at so;cases so
theorem mJ.touch(R:mJ G F σ ρ H0 H)(no:∀s∈ρ,s.own=false)(hk:∀b o,H b=some o->(H0 b≠none\/F.B b≠none)->H' b=some o)(ha:∀b o,H b=some o->∃o',H' b=some o'):mJ G F σ ρ H0 H' where
 sub:=λb o e=>hk b o (R.sub _ _ e) (.inl (by rw[e];exact λz=>nomatch z))
 g0:=R.g0
 keep:=λb o e n=>hk b o (R.keep b o e n) (.inr (by rw[e];exact λz=>nomatch z))
 fr:=R.fr
 am:=λb hb=>by obtain⟨o,e⟩:=R.am b hb;exact ha b o e
 len:=R.len
 sl:=λi s e=>by
  have ok:=R.sl i s e;have n:=no s (bz e);cases s with
  |un=>trivial
  |im d=>exact ok
  |_=>cases n
 ap:=λi j s t b _ e _ so=>by rw[no s (bz e)]at so;cases so
theorem Qj{bs:List Addr}(h:bs.Nodup){b:Addr}(e1:bs[i]?=some b)(e2:bs[j]?=some b):i=j:=by obtain⟨h1,q1⟩:=bx.mp e1;obtain⟨h2,q2⟩:=bx.mp e2;exact(gn h).mp (q1.trans q2.symm)
theorem Qk{ks:List Key}(h:ks.Nodup){b:Key}(e1:ks[i]?=some b)(e2:ks[j]?=some b):i=j:=by obtain⟨h1,q1⟩:=bx.mp e1;obtain⟨h2,q2⟩:=bx.mp e2;exact(gn h).mp (q1.trans q2.symm)
theorem Grp.more(g:Grp G F H0 H a ks dss bs){k:Key}{b:Addr}{v:V}(ek:ks[j]?=some k)(eb:bs[j]?=some b)(hx:H b=some (.lst xs))(rd:Rep G H0 d v):
  Grp G F H0 (upd H b (.lst (xs++[v]))) a (AR ks dss k d).1 (AR ks dss k d).2 bs:=by
 have hm:zN ks k=true:=DT.mpr (bz ek);unfold AR;rw[ag hm];have ne:a≠b:=λz=>by subst z;rw[g.at_]at hx;cases hx
 refine⟨by rw[mG ne];exact g.at_,g.n0,g.nB,g.len,?_,g.nd,g.kd,λi c ds e1 e2=>?_⟩
 ·rw[ic,<- g.len',<- g.len,eM,g.len]
 ·rw[jZ]at e2;cases q1:ks[i]? with
  |none=>rw[q1]at e2;cases e2
  |some k'=>
   cases q2:dss[i]? with
   |none=>rw[q1,q2]at e2;cases e2
   |some ds'=>
    rw[q1,q2]at e2;cases e2;obtain⟨ys,w1,w2,w3,w4⟩:=g.each i c ds' e1 q2;by_cases hk:k'=k
    ·subst hk;have ij:=Qk g.kd q1 ek;subst ij;rw[e1]at eb;cases eb;rw[w1]at hx;cases hx;rw[ag rfl];exact⟨_,mF,w2,w3,oX w4 (mW rd mV)⟩
    ·rw[af hk];have nc:c≠b:=λz=>by subst z;have ij:=Qj g.nd e1 eb;subst ij;rw[q1]at ek;cases ek;exact hk rfl
     exact⟨ys,by rw[mG nc];exact w1,w2,w3,w4⟩
theorem Grp.fresh(g:Grp G F H0 H a ks dss bs){k:Key}{p:Addr}{v:V}(hk:k∉ks)(hp:H p=none)(h0:H0 p=none)(hB:F.B p=none)(rd:Rep G H0 d v):
  Grp G F H0 (upd (upd (upd H p (.lst [])) a (.dK ((ks++[k]).zip ((bs++[p]).map V.ref)))) p (.lst [v])) a (AR ks dss k d).1 (AR ks dss k d).2 (bs++[p]):=by
 have hm:¬zN ks k=true:=λz=>hk (DT.mp z);unfold AR;rw[af hm];have ne:a≠p:=λz=>by subst z;rw[g.at_]at hp;cases hp
 have np:p∉bs:=λz=>by
  obtain⟨i,hi,e⟩:=fj z;have e1:bs[i]?=some p:=by rw[az hi,e]
  obtain⟨ds,e2⟩:∃ds,dss[i]?=some ds:=⟨dss[i]'(by rw[<-g.len'];exact hi),az _⟩;obtain⟨ys,w1,_⟩:=g.each i p ds e1 e2;rw[hp]at w1;cases w1
 refine⟨by rw[mG ne,mF],g.n0,g.nB,by simp[g.len],by simp[g.len'],?_,?_,λi c ds e1 e2=>?_⟩
 ·rw[bC];refine⟨g.nd,by simp,λx hx y hy=>?_⟩;rw[aO]at hy;subst hy;exact λz=>np (z▸hx)
 ·rw[bC];refine⟨g.kd,by simp,λx hx y hy=>?_⟩;rw[aO]at hy;subst hy;exact λz=>hk (z▸hx)
 ·by_cases hi:i<bs.length
  ·rw[cE hi]at e1;rw[cE (by rw[<-g.len'];exact hi)]at e2;obtain⟨ys,w1,w2,w3,w4⟩:=g.each i c ds e1 e2;have nc:c≠p:=λz=>np (z▸bz e1);have na:c≠a:=λz=>by subst z;rw[g.at_]at w1;cases w1
   exact⟨ys,by rw[mG nc,mG na,mG nc];exact w1,w2,w3,w4⟩
  ·have hi':i=bs.length:=by have:i<(bs++[p]).length:=(bx.mp e1).1;rw[aB,aZ]at this;omega
   subst hi';rw[cD (aw _),jm]at e1;rw[g.len',cD (aw _),jm]at e2;cases e1;cases e2;exact⟨[v],mF,h0,hB,mW rd mV⟩
def DU(G:Bg)(fk:FE):TS:=N7 (tBM G.K "list" B2 (J1 (tS 1) (tF G fk) (LM AG)) (sY (tS 2) AG))
theorem J5{D0:Ends}{x:D}{k:Key}{vr:V}(R:mJ G F σ ρ H0 H)(no:∀s∈ρ,s.own=false)(h1:σ[1]?=some (some (.ref a)))(h2:σ[2]?=some (some vr))(rd:Rep G H0 d vr)
  (g:Grp G F H0 H a ks dss bs) (hk:fk ρ=some (x,ρ)) (ek:uV x=some k) (l1:ks.length<1000) (l2:∀ds∈dss,ds.length<1000)
  (kont:∀Hi Hj bs',mI H0 Hi->mJ G F σ ρ Hi Hj->Grp G F Hi Hj a (AR ks dss k d).1 (AR ks dss k d).2 bs'->D0.nx σ Hj):DU G fk D0 σ H:=by
 refine⟨.ref a,h1,a,rfl,.inl ⟨_,.inl g.at_⟩,_,_,_,x,ρ,mJ.still R no,hk,λv H1 H1' s R1 r=>?_⟩;have hs:mI H H1':=λb o e=>R1.keep b o e (by simp);have hf:∀b o,H1 b=some o->H0 b=some o\/H b=none:=R1.fr;have R2:mJ G F σ ρ H1 H1':=R.grow hs s R1.sub hf;have g2:Grp G F H1 H1' a ks dss bs:=g.grow hs s hf;have rd2:=Rep.mono s _ _ rd;refine⟨aY _,λp hp=>?_⟩;have np:a≠p:=λz=>by subst z;rw[g2.at_]at hp;cases hp
 have R3:mJ G F σ ρ H1 (upd H1' p (.lst [])):=R2.newOwn hp _;have g3:Grp G F H1 (upd H1' p (.lst [])) a ks dss bs:=g2.grow (mL hp _) (mI.refl _) λb o e=>.inl e;have lz:(ks.zip (bs.map V.ref)).length<sizeLine:=by rw[eC,ah,<- g.len,eM,aT];omega
 refine⟨_,k,g3.at_,ua r ek,lz,λw ev=>?_,λev=>?_⟩
 ·obtain⟨j,e1,e2⟩:=J3 (by rw[ah];exact g.len) ev;rw[aK]at e2;cases eb:bs[j]? with
  |none=>rw[eb]at e2;cases e2
  |some b=>
   rw[eb]at e2;cases e2;obtain⟨ds,ed⟩:∃ds,dss[j]?=some ds:=⟨dss[j]'(by rw[<-g.len'];exact(bx.mp eb).1),az _⟩;obtain⟨xs,w1,w2,w3,w4⟩:=g3.each j b ds eb ed;have lx:xs.length<sizeLine:=by rw[<-mE w4,aT];have:=l2 ds (bz ed);omega
   refine⟨.inl ⟨rfl,xs,SqL.of w1⟩,vr,h2,b,xs,vr,rfl,rfl,w1,lx,?_⟩;refine kont H1 _ bs s (mJ.touch R3 no (λc o e z=>?_) λc o e=>?_) (g3.more e1 eb w1 rd2)
   ·have nc:c≠b:=λy=>by
     subst y;rcases z with z|z
     ·exact z w2
     ·exact z w3
    rw[mG nc];exact e
   ·by_cases y:c=b
    ·subst y;exact⟨_,mF⟩
    ·rw[mG y];exact⟨o,e⟩
 ·have nk:=J4 (by rw[ah];exact g.len) ev;have h0p:H1 p=none:=R2.h0none hp;have hBp:F.B p=none:=R2.bNone hp;have ez:putK (ks.zip (bs.map V.ref)) k (.ref p)=(ks++[k]).zip ((bs++[p]).map V.ref):=by rw[IV _ ev,aS,lE (by rw[ah];exact g.len)];rfl
  rw[ez];have q0:upd (upd H1' p (.lst [])) a (.dK ((ks++[k]).zip ((bs++[p]).map V.ref))) p=some (.lst []):=by rw[mG (λz=>np z.symm),mF]
  refine⟨.inl ⟨rfl,[],SqL.of q0⟩,vr,h2,p,[],vr,rfl,rfl,q0,by rw[aT];decide,?_⟩;refine kont H1 _ (bs++[p]) s (mJ.touch R3 no (λc o e z=>?_) λc o e=>?_) (g2.fresh nk hp h0p hBp rd2)
  ·have n1:c≠p:=λy=>by
    subst y;rcases z with z|z
    ·exact z h0p
    ·exact z hBp
   have n2:c≠a:=λy=>by
    subst y;rcases z with z|z
    ·exact z g2.n0
    ·exact z g2.nB
   rw[bB,mG n1,mG n2];exact e
  ·by_cases y:c=p
   ·subst y;exact⟨_,mF⟩
   ·rw[mG y];by_cases y2:c=a
    ·subst y2;exact⟨_,mF⟩
    ·rw[mG y2];exact⟨o,e⟩
end
def xM(vk:D->Option D):List D->List Key->List (List D)->Option (List Key×List (List D))
 |[],ks,dss=>some (ks,dss)
 |d::r,ks,dss=>match vk d with
  |some x=>match uV x with
   |some k=>if (decide (ks.length<1000)&&dss.all λds=>decide (ds.length<1000))=true then xM vk r (AR ks dss k d).1 (AR ks dss k d).2 else none
   |none=>none
  |none=>none
def Fe(vk:D->Option D):FS:=λρ=>match ρ with
 |[.im (.lst L),.un,.un]=>match xM vk L [] []with
  |some (ks,dss)=>some (.rt (.dic ks (dss.map .lst)) [.im (.lst L),.un,.un])
  |none=>none
 |_=>none
variable{F:Fr}{H0:Hp}
section
variable{X:Cx}{G:Bg}
theorem yu{Hq:Hp}:∀(bs:List Addr) (dss:List (List D)),bs.length=dss.length->(∀(i:Nat) (b:Addr) (ds:List D),bs[i]?=some b->dss[i]?=some ds->∃xs,Hq b=some (.lst xs)/\mB G Hq ds xs)->
  mB G Hq (dss.map .lst) (bs.map V.ref)
 |[],[],_,_=>mV
 |[],_::_,h,_=>by cases h
 |_::_,[],h,_=>by cases h
 |b::bs,ds::dss,h,k=>by obtain⟨xs,h1,h2⟩:=k 0 b ds rfl rfl;exact mW (sy h1 h2) (yu bs dss (by simpa using h) λi b ds e1 e2=>k (i+1) b ds e1 e2)
theorem Nc{σ:St}{H:Hp}{ks:List Key}{dss:List (List D)}{bs:List Addr}{L:List D}{s2:Sl}(R:mJ G F σ [.im (.lst L),.un,s2] H0 H)(g:Grp G F H0 H a ks dss bs)(o:Obj):
  ∃Hq,mI H0 Hq/\mJ G F σ [.im (.lst L),.un,.un] Hq (upd H a (.frz o (.dK (ks.zip (bs.map V.ref)))))/\Rep G Hq (.dic ks (dss.map .lst)) (.ref a):=by
 have mb:∀{b:Addr},b∈bs->∃xs,H b=some (.lst xs)/\H0 b=none/\F.B b=none:=λ{b} hb=>by obtain⟨i,hi,e⟩:=fj hb;obtain⟨xs,w1,w2,w3,_⟩:=g.each i b (dss[i]'(by rw[<-g.len'];exact hi)) (by rw[az hi,e]) (az _);exact⟨xs,w1,w2,w3⟩
 have na:a∉bs:=λz=>by obtain⟨xs,w1,_⟩:=mb z;rw[g.at_]at w1;cases w1
 have s0:mI H0 (λc=>if c=a then some (.frz o (.dK (ks.zip (bs.map V.ref))))else if c∈bs then H c else H0 c):=λc u e=>by
  have n1:c≠a:=λz=>by subst z;rw[g.n0]at e;cases e
  have n2:c∉bs:=λz=>by obtain⟨_,_,w2,_⟩:=mb z;rw[w2]at e;cases e
  show (if c=a then _ else if c∈bs then H c else H0 c)=_;rw[af n1,af n2];exact e
 refine⟨_,s0,?_,?_⟩
 ·exact {
   sub:=λc u e=>by
    have e':(if c=a then some (HO.frz o (.dK (ks.zip (bs.map V.ref))))else if c∈bs then H c else H0 c)=some u:=e;by_cases n1:c=a
    ·subst n1;rw[ag rfl]at e';rw[mF];exact e'
    ·rw[af n1]at e';rw[mG n1];by_cases n2:c∈bs
     ·rw[ag n2]at e';exact e'
     ·rw[af n2]at e';exact R.sub _ _ e'
   g0:=R.g0.trans s0
   keep:=λc u e n=>by rw[mG (λz=>by subst z;rw[g.nB]at e;cases e)];exact R.keep c u e n
   fr:=λc u e=>by
    have e':(if c=a then some (HO.frz o (.dK (ks.zip (bs.map V.ref))))else if c∈bs then H c else H0 c)=some u:=e;by_cases n1:c=a
    ·subst n1;exact .inr g.nB
    ·rw[af n1]at e';by_cases n2:c∈bs
     ·obtain⟨_,_,_,w3⟩:=mb n2;exact .inr w3
     ·rw[af n2]at e';exact R.fr _ _ e'
   am:=λc hc=>by
    by_cases n1:c=a
    ·subst n1;exact⟨_,mF⟩
    ·rw[mG n1];exact R.am c hc
   len:=R.len
   sl:=λi s e=>by
    match i,e with
    |0,e=>cases e;obtain⟨v,w1,w2⟩:=R.sl 0 _ rfl;exact⟨v,w1,Rep.mono s0 _ _ w2⟩
    |1,e=>cases e;trivial
    |2,e=>cases e;trivial
    |i+3,e=>cases e
   ap:=λi j s t b _ e _ so=>by
    match i,e with
    |0,e=>cases e;cases so
    |1,e=>cases e;cases so
    |2,e=>cases e;cases so
    |i+3,e=>cases e }
 ·unfold Rep;refine⟨a,o,bs.map V.ref,rfl,by show (if a=a then _ else _)=_;rw[ag rfl],by rw[ah];exact g.len,yu bs dss g.len' λi b ds e1 e2=>?_⟩;obtain⟨xs,w1,w2,w3,w4⟩:=g.each i b ds e1 e2;have hb:=bz e1;refine⟨xs,?_,mB.mono s0 _ _ w4⟩;show (if b=a then _ else if b∈bs then H b else H0 b)=_;have nb:b≠a:=λz=>na (by rw[<-z];exact hb);rw[af nb,ag hb];exact w1
def J6{L:List D}{s2:Sl}(h:s2.own=false):∀s∈[Sl.im (.lst L),.un,s2],s.own=false:=λs hs=>by
 simp only[aD,bD,or_false]at hs;rcases hs with rfl|rfl|rfl
 ·rfl
 ·rfl
 ·exact h
theorem HM{st1 st2 st3:Stmt}{vk:D->Option D}(h1:PS X st1 (wA ET (sr 1)))(h2:PS X st2 (OR (tFI G (iL (cV 0))) (sr 2) (DU G (c1 vk (cV 2)))))
  (h3:PS X st3 (SR (λσ H Q=>tS 1 σ H λx H1=>Q x H1\/∃a kvs,H1 a=some (.dK kvs)/\∀o,Q x (upd H1 a (.frz o (.dK kvs)))))):PSs X [st1,st2,st3] (tFS G (Fe vk)):=
 PSs.weak (zk h1 (zk h2 (BQ h3))) λE σ H hh=>by
  obtain⟨F,ρ,H0,o,R,e,k,k2⟩:=hh;unfold Fe at e;split at e
  ·rename_i L;cases eg:xM vk L [] []with
   |none=>simp only[eg]at e;cases e
   |some p=>
    obtain⟨KS,DSS⟩:=p;simp only[eg]at e;cases e;intro p hp;have R1:mJ G F (σ.set 1 (some (.ref p))) [.im (.lst L),.un,.un] H0 (upd H p (.dK [])):=(R.newOwn hp (.dK [])).set (i:=1) (v:=.ref p) (s:=.un) trivial (λz=>by cases z);have hlen:σ.length=3:=R.len;have g1:Grp G F H0 (upd H p (.dK [])) p [] [] []:=⟨mF,R.h0none hp,R.bNone hp,rfl,rfl,fE,fE,λi b ds e1=>by cases e1⟩;have v1:(σ.set 1 (some (V.ref p)))[1]?=some (some (.ref p)):=by rw[fZ (by rw[hlen];decide)]
    refine⟨_,_,_,L,_,mJ.still R1 (J6 rfl),rfl,λJ Ha Hb s Ra wk=>?_⟩;have hs:mI (upd H p (.dK [])) Hb:=λb o e=>Ra.keep b o e (by simp);have R2:=R1.grow hs s Ra.sub Ra.fr;have g2:=g1.grow hs s Ra.fr;refine⟨λi m σ' H'=>m=L.length - i/\i<=L.length/\∃Hi ks dss bs s2,mI Ha Hi/\Sl.own s2=false/\mJ G F σ' [.im (.lst L),.un,s2] Hi H'/\σ'[1]?=some (some (.ref p))/\Grp G F Hi H' p ks dss bs/\xM vk (L.drop i) ks dss=some (KS,DSS),
     ⟨_,rfl,aY _,Ha,[],[],[],.un,mI.refl _,rfl,R2,v1,g2,eg⟩,?_⟩
    rintro i m σi Hi' ⟨rfl,hi,Hi,ks,dss,bs,s2,si,n2,Ri,vi,gi,ei⟩;by_cases hlt:i<L.length
    ·have ed:L.drop i=L[i]::L.drop (i+1):=gX hlt;rw[ed]at ei;unfold xM at ei;cases ev:vk L[i]with
     |none=>simp only[ev]at ei;cases ei
     |some x=>
      simp only[ev]at ei;cases ek:uV x with
      |none=>simp only[ek]at ei;cases ei
      |some kk=>
       simp only[ek]at ei;split at ei
       ·rename_i hb;simp only[aL,bu,aV]at hb;obtain⟨go,yl⟩:=(wk i Hi Hi' si Ri.sub).1 L[i] (az hlt);refine .inr ⟨go,λσ' H'=>∃Hi ks dss bs s2,mI Ha Hi/\Sl.own s2=false/\mJ G F σ' [.im (.lst L),.un,s2] Hi H'/\σ'[1]?=some (some (.ref p))/\Grp G F Hi H' p ks dss bs/\xM vk (L.drop (i+1)) ks dss=some (KS,DSS),
         λσ' H' q=>⟨L.length - (i+1),by omega,rfl,hlt,q⟩,λxv H' y=>?_⟩
        obtain⟨H2,t1,t2,t3,t4,t5⟩:=yl xv H' y;have hl3:σi.length=3:=Ri.len;have R3:mJ G F (σi.set 2 (some xv)) [.im (.lst L),.un,.im L[i]] H2 H':=(Ri.grow t3 t1 t2 t4).setIm 2 t5;have w1:(σi.set 2 (some xv))[1]?=some (some (.ref p)):=by rw[hX (by decide)];exact vi
        have w2:(σi.set 2 (some xv))[2]?=some (some xv):=by rw[fZ (by rw[hl3];decide)]
        refine J5 R3 (J6 rfl) w1 w2 t5 (gi.grow t3 t1 t4) (by show c1 vk (cV 2) _=_;unfold c1 cV;simp only[jT,List.getElem?_cons_zero,ev]) ek hb.1 (λds hd=>hb.2 ds hd) λHc Hd bs' sc Rc gc=>?_;exact⟨Hc,_,_,bs',_,si.trans (t1.trans sc),rfl,Rc,w1,gc,ei⟩
       ·cases ei
    ·have hi':i=L.length:=by omega
     refine .inl ⟨(wk i Hi Hi' si Ri.sub).2 hi',?_⟩;subst hi';rw[List.drop_length]at ei;cases ei;refine⟨.ref p,vi,.inr ⟨p,_,gi.at_,λo=>?_⟩⟩;obtain⟨Hq,q1,q2,q3⟩:=Nc Ri gi o;exact k _ _ Hq _ (s.trans (si.trans q1)) q2 q3
  ·cases e
end
section
variable{X:Cx}{G:Bg}
theorem Nd:∀y b,oQ "int" y=some b->bZ X.K (y.val G) (.type "int")=some b:=λy b h=>by
 cases y with
 |c k=>cases h
 |b n=>
  unfold oQ at h;simp only at h
  iterate 7 (split at h;· rename_i e;subst e;cases h;first|rfl|kernel_rfl)
  cases h
theorem J7:∀y b,oQ "bool" y=some b->bZ X.K (y.val G) (.type "bool")=some b:=λy b h=>by
 cases y with
 |c k=>cases h
 |b n=>
  unfold oQ at h;simp only at h
  iterate 7 (split at h;· rename_i e;subst e;cases h;first|rfl|kernel_rfl)
  cases h
theorem kit_tuple:∀y b,oQ "tuple" y=some b->bZ X.K (y.val G) (.type "tuple")=some b:=λy b h=>by
 cases y with
 |c k=>cases h
 |b n=>
  unfold oQ at h;simp only at h
  iterate 7 (split at h;· rename_i e;subst e;cases h;first|rfl|kernel_rfl)
  cases h
end
def hold(F:Fr)(p:Addr)(o:HO):Fr:=⟨F.B0,λb=>if b=p then some o else F.B b,F.A⟩
theorem zh{p:Addr}{o:HO}:(hold F p o).B p=some o:=by show (if p=p then _ else _)=_;rw[ag rfl]
theorem vB{p b:Addr}{o:HO}(h:b≠p):(hold F p o).B b=F.B b:=by show (if b=p then _ else _)=_;rw[af h]
theorem v5.frame{G:Bg}{F':Fr}{H:Hp}{o:Option V}{s:Sl}(h:v5 G F H0 H o s)(hA:F'.A=F.A)(hB:∀a,o=some (.ref a)->s.own=true->F.B a=none->F'.B a=none):v5 G F' H0 H o s:=by
 cases s with
 |un=>trivial
 |im d=>exact h
 |ls ds=>obtain⟨a,xs,h1,h2,h3,h4,h5⟩:=h;exact⟨a,xs,h1,h2,h3,hB a h1 rfl h4,h5⟩
 |pm ds=>obtain⟨a,xs,h1,h2,h3,h4,h5⟩:=h;exact⟨a,xs,h1,h2,h3,by rw[hA];exact h4,h5⟩
 |dk ks ds=>obtain⟨a,xs,h1,h2,h3,h4,h5,h6⟩:=h;exact⟨a,xs,h1,h2,h3,hB a h1 rfl h4,h5,h6⟩
 |ob c ns ds=>obtain⟨a,dx,xs,h1,h2,h3,h4,h5,h6⟩:=h;exact⟨a,dx,xs,h1,h2,h3,by rw[hA];exact h4,h5,h6⟩
section
variable{X:Cx}{G:Bg}{F:Fr}{σ:St}{ρ:List Sl}{H0 H:Hp}{p:Addr}{o:HO}
theorem mJ.hold(R:mJ G F σ ρ H0 H)(hp:H p=none)(o:HO):mJ G (L4.hold F p o) σ ρ H0 (upd H p o) where
 sub:=(R.newOwn hp o).sub
 g0:=R.g0
 keep:=λb u e n=>by
  by_cases hb:b=p
  ·subst hb;rw[zh]at e;rw[mF];exact e
  ·rw[vB hb]at e;exact(R.newOwn hp o).keep b u e n
 fr:=λb u e=>by
  have hb:b≠p:=λz=>by subst z;rw[R.h0none hp]at e;cases e
  rw[vB hb];exact R.fr b u e
 am:=(R.newOwn hp o).am
 len:=R.len
 sl:=λi s e=>by refine v5.frame ((R.newOwn hp o).sl i s e) rfl λa h1 so hB=>?_;obtain⟨a',u,q1,q2,_⟩:=(R.sl i s e).at so;rw[h1]at q1;cases q1;rw[vB (λz=>by subst z;rw[hp]at q2;cases q2)];exact hB
 ap:=R.ap
theorem mJ.unhold(R:mJ G (L4.hold F p o) σ ρ H0 H)(hB:F.B p=none):mJ G F σ ρ H0 H where
 sub:=R.sub
 g0:=R.g0
 keep:=λb u e n=>R.keep b u (by rw[vB (λz=>by subst z;rw[hB]at e;cases e)];exact e) n
 fr:=λb u e=>by
  rcases R.fr b u e with z|z
  ·exact .inl z
  ·by_cases hb:b=p
   ·subst hb;exact .inr hB
   ·rw[vB hb]at z;exact .inr z
 am:=R.am
 len:=R.len
 sl:=λi s e=>v5.frame (R.sl i s e) rfl λa h1 so q=>by
  by_cases hb:a=p
  ·subst hb;exact hB
  ·rw[vB hb]at q;exact q
 ap:=R.ap
theorem mJ.layHeld(R:mJ G (L4.hold F p o) σ ρ H0 H)(hB:F.B p=none)(h0:H0 p=none)(nA:p∉F.A)(u:HO):mJ G F σ ρ (upd H0 p u) (upd H p u) where
 sub:=λb v e=>by
  by_cases hb:b=p
  ·subst hb;rw[mF]at e ⊢;exact e
  ·rw[mG hb]at e ⊢;exact R.sub _ _ e
 g0:=(mJ.unhold R hB).g0.trans (mL h0 u)
 keep:=λb v e n=>by rw[mG (λz=>by subst z;rw[hB]at e;cases e)];exact(mJ.unhold R hB).keep b v e n
 fr:=λb v e=>by
  by_cases hb:b=p
  ·subst hb;exact .inr hB
  ·rw[mG hb]at e;exact(mJ.unhold R hB).fr _ _ e
 am:=λb hb=>by
  have hb':b≠p:=λz=>by subst z;exact nA hb
  rw[mG hb'];exact R.am b hb
 len:=R.len
 sl:=λj t e=>by
  have ne:∀a,(σ[j]?).join=some (.ref a)->t.own=true->a≠p:=λa z to y=>by
   subst y;obtain⟨a',v,q1,_,_,q4⟩:=(R.sl j t e).at to;rw[z]at q1;cases q1;rcases q4 with q|q
   ·rw[zh]at q;cases q
   ·exact nA q
  refine((mJ.unhold R hB).sl j t e).grow (mL h0 u) (λa v z to q=>?_) λa v z to q q0=>?_
  ·rw[mG (ne a z to)];exact q
  ·rw[mG (ne a z to)];exact q0
 ap:=R.ap
def qE:List (Str×FE)->List Sl->Option (List D×List Sl)
 |[],ρ=>some ([],ρ)
 |(_,f)::r,ρ=>match f ρ with
  |some (d,ρ1)=>match qE r ρ1 with
   |some (ds,ρ2)=>some (d::ds,ρ2)
   |none=>none
  |none=>none
def J8(G:Bg)(kfs:List (Str×FE)):List (TE×TE):=kfs.map λq=>(tC (.str q.1),tF G q.2)
theorem DV:∀(kfs:List (Str×FE)) (ρ ρ':List Sl) (ds:List D) (H0 H:Hp) (Q:List (V×V)->Hp->Prop),mJ G F σ ρ H0 H->qE kfs ρ=some (ds,ρ')->
  (∀vs H1 H1',mI H0 H1->mJ G F σ ρ' H1 H1'->mB G H1 ds vs->Q (cx (λk v=>(V.str k,v)) (kfs.map (·.1)) vs) H1')->B3 (J8 G kfs) σ H Q
 |[],ρ,ρ',ds,H0,H,Q,R,e,k=>by cases e;exact k [] H0 H (mI.refl _) R mV
 |(x,f)::r,ρ,ρ',ds,H0,H,Q,R,e,k=>by
  unfold qE at e;cases e1:f ρ with
  |none=>simp only[e1]at e;cases e
  |some q=>
   obtain⟨d,ρ1⟩:=q;simp only[e1]at e;cases e2:qE r ρ1 with
   |none=>simp only[e2]at e;cases e
   |some q=>obtain⟨ds',ρ2⟩:=q;simp only[e2]at e;cases e;refine⟨F,ρ,H0,d,ρ1,R,e1,λv H1 H1' s R1 rv=>?_⟩;exact DV r ρ1 _ ds' H1 H1' _ R1 e2 λvs H2 H2' s2 R2 rs=>k (v::vs) H2 H2' (s.trans s2) R2 (mW (Rep.mono s2 _ _ rv) rs)
theorem DW:∀(more acc:List (Key×V)),((acc++more).map (·.1)).Nodup->uO acc more=acc++more
 |[],acc,_=>by rw[aU];rfl
 |q::r,acc,h=>by
  have nq:(acc.any λkv=>decide (kv.1=q.1))=false:=by rw[gf];intro z;obtain⟨y,hy,ey⟩:=dt.mp z;rw[aS,bC]at h;exact h.2.2 y.1 (bN hy) q.1 (bN aQ) (bh ey)
  have e:putK acc q.1 q.2=acc++[q]:=by unfold putK;rw[nq];rfl
  show uO (putK acc q.1 q.2) r=_;rw[e,DW r (acc++[q]) (by simpa using h)];simp
theorem HN{H:Hp}{p:Addr}{x y:HO}:upd (upd H p x) p y=upd H p y:=by
 funext b
 by_cases hb:b=p
 ·subst hb;rw[mF,mF]
 ·rw[mG hb,mG hb,mG hb]
def qk(kfs:List (Str×FE)):FE:=λρ=>match qE kfs ρ with
 |some (ds,ρ')=>some (.dic (kfs.map λq=>Sum.inr q.1) ds,ρ')
 |none=>none
theorem zT:∀{kfs:List (Str×FE)} {ρ ρ':List Sl} {ds:List D},qE kfs ρ=some (ds,ρ')->ds.length=kfs.length
 |[],ρ,ρ',ds,e=>by cases e;rfl
 |(x,f)::r,ρ,ρ',ds,e=>by
  unfold qE at e;cases e1:f ρ with
  |none=>simp only[e1]at e;cases e
  |some q=>
   obtain⟨d,ρ1⟩:=q;simp only[e1]at e;cases e2:qE r ρ1 with
   |none=>simp only[e2]at e;cases e
   |some q=>obtain⟨ds',ρ2⟩:=q;simp only[e2]at e;cases e;rw[aC,aC,zT e2]
theorem DX:∀(ks:List Str) (vs:List V),cx (λk v=>(V.str k,v)) ks vs=((ks.map λk=>(Sum.inr k:Key)).zip vs).map λkv=>(kV kv.1,kv.2)
 |[],vs=>rfl
 |k::ks,[]=>rfl
 |k::ks,v::vs=>by show (V.str k,v)::_=_;rw[DX ks vs];rfl
theorem Gf{kfs:List (Str×FE)}(h:PE X e (I0 (J8 G kfs)))(nd:(kfs.map λq=>(Sum.inr q.1:Key)).Nodup)(h15:kfs.length<=15):PE X e (tF G (qk kfs)):=PE.weak (PE.ghost h) λσ H Q hh=>by
 obtain⟨F,ρ,H0,d,ρ',R,e,k⟩:=hh;unfold qk at e;cases e1:qE kfs ρ with
 |none=>simp only[e1]at e;cases e
 |some q=>
  obtain⟨ds,ρ1⟩:=q;simp only[e1]at e;cases e;intro p hp;have hB:F.B p=none:=R.bNone hp;have nA:p∉F.A:=λz=>by obtain⟨u,q⟩:=R.am p z;rw[hp]at q;cases q
  refine DV kfs ρ _ ds H0 _ _ (mJ.hold R hp (.dK [])) e1 λvs H1 H1' s R1 rs=>?_;have q0:H1' p=some (.dK []):=R1.keep p _ zh nA;have h0:H1 p=none:=by
   cases q:H1 p with
   |none=>rfl
   |some u=>
    rcases R1.fr p u q with z|z
    ·have:=R.g0 _ _ z;rw[R.h0none hp]at this;cases this
    ·rw[zh]at z;cases z
  have lv:(kfs.map λq=>(Sum.inr q.1:Key)).length=vs.length:=by rw[ah,<- zT e1,mE rs]
  have kn:(((kfs.map λq=>(Sum.inr q.1:Key)).zip vs).map (·.1))=kfs.map λq=>(Sum.inr q.1:Key):=lr (by rw[lv];exact aw _)
  refine⟨q0,(kfs.map λq=>(Sum.inr q.1:Key)).zip vs,?_,?_,.inr ⟨p,_,mF,λob=>?_⟩⟩
  ·rw[DX,aJ];rfl
  ·rw[eC,<- lv,eM,ah];exact h15
  ·rw[HN,DW _ [] (by rw[bB,kn];exact nd),bB];refine k _ _ _ (s.trans (mL h0 _)) (mJ.layHeld R1 hB h0 nA _) ?_;unfold Rep;exact⟨p,ob,vs,rfl,mF,lv,mB.mono (mL h0 _) _ _ rs⟩
end
def spL(G:Bg)(g:List D->List D->Option (D×List D)):Sp:=λvs H Q E=>∃(a:Addr) (us:List V),vs=us++[.ref a]/\spM G g (.ref a::us) H Q E
def stL(n:Nat)(es ds:List D):List Sl:=ds.map Sl.im++.pm es::dw (n - ds.length - 1) .un
def HP(i:Nat)(ρ:List Sl):Option (List D):=match ρ[i]? with
 |some (.pm es)=>some es
 |_=>none
def fnL(np n:Nat)(f:FS):List D->List D->Option (D×List D):=λes ds=>if ds.length=np then match f (stL n es ds)with
 |some (.rt d ρ)=>match HP np ρ with
  |some es'=>some (d,es')
  |none=>none
 |some (.rn xs ρ)=>match HP np ρ with
  |some es'=>some (.lst xs,es')
  |none=>none
 |_=>none
 else none
theorem Bo{ρ:List Sl}{es:List D}(h:HP i ρ=some es):ρ[i]?=some (.pm es):=by
 unfold HP at h;split at h
 ·rename_i e;cases h;exact e
 ·cases h
theorem DY{n:Nat}{f:FS}{es:List D}(h:fnL np n f es ds=some (d,es')):ds.length=np/\((∃ρ,f (stL n es ds)=some (.rt d ρ)/\ρ[np]?=some (.pm es'))\/∃xs ρ,f (stL n es ds)=some (.rn xs ρ)/\ρ[np]?=some (.pm es')/\d=.lst xs):=by
 unfold fnL at h;split at h
 ·rename_i hl;refine⟨hl,?_⟩;split at h
  ·rename_i x ρ e;cases e2:HP np ρ with
   |none=>simp only[e2]at h;cases h
   |some q=>simp only[e2]at h;cases h;exact .inl ⟨ρ,e,Bo e2⟩
  ·rename_i x ρ e;cases e2:HP np ρ with
   |none=>simp only[e2]at h;cases h
   |some q=>simp only[e2]at h;cases h;exact .inr ⟨x,ρ,e,Bo e2,rfl⟩
  ·cases h
 ·cases h
theorem Cd{n:Nat}{es:List D}{t:Sl}(h:(stL n es ds)[i]?=some t):(i=ds.length/\t=.pm es)\/t=.un\/∃d,ds[i]?=some d/\t=.im d:=by
 unfold stL at h;by_cases hi:i<ds.length
 ·rw[cE (by simpa using hi),aK,az hi]at h;cases h;exact .inr (.inr ⟨_,az hi,rfl⟩)
 ·rw[cD (by simpa using hi),ah]at h;cases q:i - ds.length with
  |zero=>rw[q]at h;cases h;exact .inl ⟨by omega,rfl⟩
  |succ m=>
   rw[q,jT,eX]at h;split at h
   ·cases h;exact .inr (.inl rfl)
   ·cases h
variable{N:List Str}{E:XK}{es:List Expr}
section
variable{X:Cx}{G:Bg}
theorem Nf{us:List V}{es:List D}{H:Hp}(ha:H a=some (.lst xs))(h0:H0 a=none)(s:mI H0 H)(r1:mB G H0 es xs)(r:mB G H0 ds us)(hN:us.length+1<=N.length):mJ G ⟨H0,H,[a]⟩ (L2.start N (us++[.ref a])) (stL N.length es ds) H0 H:={
  sub:=s
  g0:=mI.refl _
  keep:=λb o e _=>e
  fr:=λb o e=>.inl e
  am:=λb hb=>by rw[aO]at hb;subst hb;exact⟨_,ha⟩
  len:=by unfold L2.start stL;simp only[aB,ah,bJ,aC,eA];have:=mE r;omega
  sl:=λi t e=>by
   rcases Cd e with ⟨rfl,rfl⟩|rfl|⟨d,e1,rfl⟩
   ·exact⟨a,xs,qC (by rw[mE r,cD (aw _),jm];rfl),ha,h0,aO.mpr rfl,r1⟩
   ·trivial
   ·obtain⟨v,e2,e3⟩:=pj r e1;exact⟨v,qC (by rw[cE (bx.mp e2).1];exact e2),e3⟩
  ap:=λi j t u b hij ei ej ht hu=>by
   rcases Cd ei with ⟨rfl,rfl⟩|rfl|⟨_,_,rfl⟩
   ·rcases Cd ej with ⟨rfl,rfl⟩|rfl|⟨_,_,rfl⟩
    ·exact ai rfl hij
    ·cases hu
    ·cases hu
   ·cases ht
   ·cases ht }
theorem Ng{f:FS}{H:Hp}{Q:VK}(hN:np+1<=N.length)(h:spL G (fnL np N.length f) vs H Q E):tFS G f { nx:=λ_ H'=>Q .non H',rt:=Q } (L2.start N vs) H:=by
 obtain⟨a,us,rfl,b,us',xs,H0,es,ds,d,es',e0,ha,h0,s,r1,r,e,k⟩:=h;cases e0;obtain⟨hl,e1⟩:=DY e;have R:=Nf (N:=N) ha h0 s r1 r (by rw[<-mE r,hl];exact hN);have fin:∀{v:V} {σ':St} {ρ':List Sl} {H0' H':Hp},mI H0 H0'->mJ G ⟨H0,H,[a]⟩ σ' ρ' H0' H'->ρ'[np]?=some (.pm es')->Rep G H0' d v->Q v H':=λs' R' e2 rv=>by obtain⟨a',ys,q1,q2,q3,q4,q5⟩:=R'.sl np _ e2;have ea:a'=a:=aO.mp q4;subst ea;exact k _ ys _ _ s' R'.sub (λb o e n=>R'.keep b o e (λz=>n (aO.mp z))) R'.fr q3 q2 q5 rv
 rcases e1 with ⟨ρ,e1,e2⟩|⟨zs,ρ,e1,e2,rfl⟩
 ·exact⟨_,_,H0,_,R,e1,λv σ' H0' H' s' R' rv=>fin s' R' e2 rv,λ_=>rfl⟩
 ·refine⟨_,_,H0,_,R,e1,λp ys σ' H0' H' s' R' hp hp0 hb ap rs=>?_,λ_=>rfl⟩;exact fin (s'.trans (mL hp0 _)) (R'.freeze hp hp0 hb ap) e2 (sy mF (mB.mono (mL hp0 _) _ _ rs))
theorem T4{g:List D->List D->Option (D×List D)}(hg:∀es ds d,g es ds=some d->ds.length=np):∀vs H Q E,spL G g vs H Q E->vs.length=np+1:=λvs H Q E h=>by obtain⟨a,us,rfl,h⟩:=h;have:=Of hg _ _ _ _ h;rw[aB];exact this
theorem Nh{n:Nat}{f:FS}:∀es ds d,fnL np n f es ds=some d->ds.length=np:=λ_ _ d h=>(DY (d:=d.1) (es':=d.2) h).1
def we(G:Bg)(i:Nat)(a:FA):TA:=λσ H Q=>∃F ρ H0 ds ρ' es,mJ G F σ ρ H0 H/\a ρ=some (ds,ρ')/\oO ρ' i=some es/\∀xs b H0' H',mI H0 H0'->mJ G F σ ρ' H0' H'->mB G H0' ds xs->σ[i]?=some (some (.ref b))->Q (xs++[.ref b]) H'
theorem J9(hv:PE X e (tS i))(hs:starEach [e] X.env=[(false,eval e X.env)]:=by rfl):PA X [e] (we G i mw):=PA.weak (oH hv rP hs) λσ H Q hh=>by obtain⟨F,ρ,H0,ds,ρ',es,R,e,el,k⟩:=hh;cases e;obtain⟨b,xs,s1,_⟩:=qf R el;exact⟨.ref b,s1,k [] b _ _ (mI.refl _) R mV s1⟩
theorem HQ{g:FA}(ha:PE X e (tF G f))(hr:PA X es (we G i g))(hs:starEach (e::es) X.env=(false,eval e X.env)::starEach es X.env:=by rfl):PA X (e::es) (we G i (mi f g)):=PA.weak (oH ha hr hs) λσ H Q hh=>by obtain⟨F,ρ,H0,d,ρ',es,R,e,el,k⟩:=hh;obtain⟨x,r,ρ1,e1,e2,rfl⟩:=zC e;exact⟨F,ρ,H0,x,ρ1,R,e1,λv H1 H1' s R' rv=>⟨F,ρ1,H1,r,ρ',es,R',e2,el,λxs b H2 H2' s2 R2 rs sb=>k _ _ _ _ (s.trans s2) R2 (mW (Rep.mono s2 _ _ rv) rs) sb⟩⟩
def pQ(g:List D->List D->Option (D×List D))(i:Nat)(a:FA):FE:=λρ=>match a ρ with
 |some (ds,ρ1)=>match oO ρ1 i with
  |some es=>match g es ds with
   |some (d,es')=>some (d,putAt ρ1 i es')
   |none=>none
  |none=>none
 |none=>none
theorem Ni{g:List D->List D->Option (D×List D)}{a:FA}(h:PE X e (qV (spL G g) [] E (we G i a))):PE X e (tF G (pQ g i a)):=PE.weak h λσ H Q hh=>by
 obtain⟨F,ρ,H0,d,ρ',R,e,k⟩:=hh;unfold pQ at e;rcases mR (f:=a) (ρ:=ρ)with e1|⟨ds,ρ1,e1⟩<;>simp only[e1]at e
 ·cases e
 ·cases e2:oO ρ1 i with
  |none=>simp only[e2]at e;cases e
  |some es=>
   simp only[e2]at e;cases e3:g es ds with
   |none=>simp only[e3]at e;cases e
   |some q=>obtain⟨d1,es'⟩:=q;simp only[e3]at e;cases e;refine⟨F,ρ,H0,ds,ρ1,es,R,e1,e2,λys b H1 H1' s R' rs sb=>?_⟩;obtain⟨s,es0,es1⟩:=pI e2;obtain⟨b',xs',t1,t2,t3,t4⟩:=(R'.sl i s es0).lst es1;rw[px t1]at sb;cases sb;refine⟨b,ys,aU _,b,ys,xs',H1,es,ds,d,es',rfl,t2,t3,R'.sub,t4,rs,e3,λv zs H2 H2' u1 u2 u3 fr w0 w1 w2 w3=>?_⟩;refine k _ _ _ (mI.trans ‹mI H0 H1› u1) ?_ w3;unfold putAt;rw[es0];exact R'.call1 es0 es1 t1 u1 u2 u3 fr w0 w1 w2
theorem Nj{k:Nat}{x:Str}{p:Pos}{a:FA}{ps:List Str}{g:List D->List D->Option (D×List D)}(D:sC X.prog X.w X.K X.mg X.base k x ps (spL G g))(hr:om k X.A)(ha:PA X (e::es) (we G i a))(hg:Gl X x:=by rfl)(hdb:(x==("__debug__" : Str))=false:=by decide)(he:starEach (e::es) X.env=(false,eval e X.env)::starEach es X.env:=by rfl)(hpl:(backTo pos (starEach es X.env)).any (·.1)=false:=by rfl):
  PE X (.Call (.Name x p) (e::es) [] pos) (tF G (pQ g i a)):=by
 obtain⟨f,fd,h1,h2,h3,h4⟩:=D;exact Ni (zb (p:=p) (pos:=pos) h4 hr hg h1 h2 h3 .nil wF ha hdb he hpl)
end
section
variable{P:aq}{w:ak}{K:aj}{mg:Str->Option aa}{base:Heap}{x qual:Str}{st:Stmt}{f T:Addr}{fd:bg}{N ps:List Str}{k:Nat}{G:Bg}
theorem T5{n:Nat}{g:List D->List D->Option (D×List D)}{b:FS}(hg:g=fnL np n b)(hp:ps.length=np+1)(hN:N.length=n)(F:Fun K x qual st f fd)(S:oA N ps (mM st))(body:∀(cdv:aa) (A:ar) (outer:List Env) (s:ab) (H:Hp) (E:XK),om k (A.deeper (envOfC qual (mM st) s.heap.objs.size f cdv))->PSs (wK P w K mg base N qual st f cdv A outer s H E) (nu st) (tFS G b)):
  qU P w K mg base CX0 (k+1) f fd ps (spL G g):=by
 subst hg hN;refine F.ok S (λvs H Q E h=>?_) λcdv A outer s H vs Q E hr h=>⟨_,body cdv A outer s H E hr,Ng (by have:=aN bG S.pre;rw[bf]at this;omega) h⟩;rw[hp];exact T4 Nh vs H Q E h
end
end L4
namespace L4
open PySem PySem.Spec PySem.Calls PyProof.Rows PySem.W L2 L3
def nZ{α:Type}(c:Nat->Nat->Bool):KasT α->α
 |.ret a=>a
 |.ask i j k=>nZ c (k (c i j))
def qF{α:Type}(P:Nat->Nat->Prop)(R:α->Prop):KasT α->Prop
 |.ret a=>R a
 |.ask i j k=>P i j/\∀b,qF P R (k b)
theorem qF.run{α:Type}{P:Nat->Nat->Prop}{R:α->Prop}(c:Nat->Nat->Bool):∀(t:KasT α),qF P R t->R (nZ c t)
 |.ret a,h=>h
 |.ask i j k,h=>qF.run c (k (c i j)) (h.2 (c i j))
theorem qF.bind{α β:Type}{P:Nat->Nat->Prop}{R:α->Prop}{S:β->Prop}{f:α->KasT β}(hf:∀a,R a->qF P S (f a)):∀{t:KasT α},qF P R t->qF P S (t.bind f)
 |.ret a,h=>hf a h
 |.ask i j k,h=>⟨h.1,λb=>qF.bind hf (h.2 b)⟩
theorem Gg{α:Type}{cmp:Nat->Nat->(Bool->ab->Prop)->ab->Prop}{c:Nat->Nat->Bool}{P:Nat->Nat->Prop}{s:ab}{Q:α->ab->Prop}(hc:∀i j C,P i j->C (c i j) s->cmp i j C s):
  ∀{R:α->Prop} {t:KasT α},qF P R t->Q (nZ c t) s->t.kasWp cmp Q s
 |R,.ret a,_,q=>q
 |R,.ask i j k,h,q=>hc i j _ h.1 (Gg hc (h.2 (c i j)) q)
def nF(n:Nat)(p:Array Nat):Prop:=p.toList.Perm (aF n)
variable{p:Array Nat}
theorem nF.getD{n:Nat}(h:nF n p)(hn:0<n)(i:Nat):p.getD i 0<n:=by
 unfold Array.getD;split
 ·rename_i hi;have:p[i]∈p.toList:=by simp
  exact bb.mp (h.mem_iff.mp this)
 ·exact hn
theorem nF.rev{n:Nat}(h:nF n p)(i j:Nat):nF n (cA p i j):=by unfold nF cA mirror;exact(jO.mp (foldl_swaps_perm _ _ _ _)).trans h
theorem nF.bub{n:Nat}(h:nF n p)(i j:Nat):nF n (bubble p i j):=(jO.mp (bubble_perm _ _ _)).trans h
abbrev In2(n:Nat):Nat->Nat->Prop:=λi j=>i<n/\j<n
theorem Ce{n:Nat}(hn:0<n){p:Array Nat}(h:nF n p):∀f k,qF (In2 n) (λ_=>True) (cn p f k)
 |0,k=>trivial
 |f+1,k=>⟨⟨h.getD hn _,h.getD hn _⟩,λb=>by cases b<;>first|exact trivial|exact Ce hn h f (k+1)⟩
theorem wW{n:Nat}(hn:0<n):∀f (p:Array Nat) k q,nF n p->qF (In2 n) (λr=>nF n r.1) (eR f p k q)
 |0,p,k,q,h=>h
 |f+1,p,k,q,h=>⟨⟨h.getD hn _,h.getD hn _⟩,λb=>by
   cases b with
   |true=>
    show qF _ _ (if q > 0 then _ else _);split
    ·exact wW hn f _ _ _ (h.rev _ _)
    ·exact wW hn f _ _ _ h
   |false=>
    refine⟨⟨h.getD hn _,h.getD hn _⟩,λd=>?_⟩;cases d with
    |true=>exact h
    |false=>exact wW hn f _ _ _ h⟩
theorem DZ{n:Nat}(hn:0<n)(h:nF n p)(k m:Nat):qF (In2 n) (λr=>nF n r.2) (dH k m p):=
 qF.bind (P:=In2 n) (R:=λ_=>True) (S:=λ(r:Nat×Array Nat)=>nF n r.2) (f:=λm=>.ret (m,cA p 0 k)) (λa _=>h.rev 0 k) (Ce hn (h.rev 0 k) _ _)
theorem wX{n:Nat}(hn:0<n)(h:nF n p)(k m:Nat):qF (In2 n) (λr=>nF n r.2) (c9 k m p):=
 qF.bind (λr hr=>by
  show qF _ _ (if r.2.2 > 0 then _ else _);split
  ·exact DZ hn (hr.rev _ _) _ _
  ·exact DZ hn hr _ _) (wW hn _ p _ _ h)
theorem Bp{n:Nat}(hn:0<n)(h:nF n p)(m:Nat):qF (In2 n) (λr=>nF n r.2) (cO m p):=
 qF.bind (λk _=>by
  show qF _ _ (if (k==m)=true then _ else _);split
  ·exact h
  ·split
   ·refine⟨⟨h.getD hn _,h.getD hn _⟩,λb=>?_⟩;cases b with
    |true=>exact h
    |false=>exact wX hn (h.rev _ _) _ _
   ·exact wX hn h _ _) (Ce hn h _ _)
theorem xN{n:Nat}(hn:0<n){p:Array Nat}(h:nF n p)(k:Nat):∀f l r,qF (In2 n) (λ_=>True) (eQ p k f l r)
 |0,l,r=>trivial
 |f+1,l,r=>by
  unfold eQ;split
  ·trivial
  ·refine⟨⟨h.getD hn _,h.getD hn _⟩,λb=>?_⟩;cases b with
   |true=>exact xN hn h k f _ _
   |false=>exact xN hn h k f _ _
theorem Gh{n:Nat}(hn:0<n):∀f (p:Array Nat) k,nF n p->qF (In2 n) (nF n) (kas_bin f p k)
 |0,p,k,h=>h
 |f+1,p,k,h=>qF.bind (λl _=>Gh hn f _ _ (h.bub _ _)) (xN hn h k _ _ _)
theorem wY{n:Nat}(hn:0<n):qF (In2 n) (nF n) (dO n):=
 qF.bind (λr hr=>by
  show qF _ _ (if r.1<n then _ else _);split
  ·exact Gh hn _ _ _ hr
  ·exact hr) (Bp hn (p:=fK (aF n)) (by unfold nF;exact iY _) n)
def sE(a:Addr)(h h':Heap):Prop:=∀b o,b≠a->h.get? b=some o->h'.get? b=some o
variable{a:Addr}
section
variable{prog:aq}{w:ak}{A:ar}{E:aa->ab->Prop}{s:ab}
def vL(c:Nat->Nat->Bool)(vs:List aa):List aa:=(nZ c (dO vs.length)).toList.map λi=>vs.getD i Value.none
theorem Ka(c:Nat->Nat->Bool)(vs:List aa)(h:0<vs.length):(vL c vs).length=vs.length:=by unfold vL;rw[ah];have:=(wY h).run c _;rw[this.length_eq,bO]
theorem Kb(c:Nat->Nat->Bool)(v:aa):vL c [v]=[v]:=rfl
theorem D1{vs:List aa}{n:Nat}{P:jI->ab->Prop}{κ:fO}{c:Nat->Nat->Bool}(ho:s.heap.get? a=some (seqObj "list" vs.toArray n))(h1:0<vs.length)(h64:vs.length<64)
  (hk:∀(h':Heap) (C:fO->ab->Prop),sE a s.heap h'->C κ { s with heap:=h' }->wpAny (model prog w) A (keyKind' vs.toArray) C (λ_ _=>False) { s with heap:=h' })
  (hc:∀(h':Heap) (i j:Nat) (C:Bool->ab->Prop),sE a s.heap h'->i<vs.length/\j<vs.length->C (c i j) { s with heap:=h' }->gV prog w A κ vs i j C { s with heap:=h' })
  (h:∀h' e,sE a s.heap h'->h'.get? a=some (seqObj "list" (vL c vs).toArray e)->P (.done (.ret .none)) { s with heap:=h' }):
  wpAny (model prog w) A (bU.«list.sort» ⟨[.ref a],[]⟩) P E s:=by
 have ha:a<s.heap.objs.size:=ay ho;obtain⟨e1,o1⟩:∃e1,(s.heap.update a (bH λ_=>(#[]:Array aa))).get? a=some (seqObj "list" #[] e1):=⟨_,get?_update_seq ho λ_=>#[]⟩;generalize hw:((s.heap.update a (bH λ_=>(#[]:Array aa))).push (seqObj "tuple" vs.toArray 0)).push (seqObj "list" #[] 0)=h3;have kb:sE a s.heap h3:=λb o hb q=>by rw[<-hw];exact av _ (av _ ((di s.heap _ (bI hb)).trans q))
 have o3:h3.get? a=some (seqObj "list" #[] e1):=by rw[<-hw];exact av _ (av _ o1)
 rw[list_sort_plain];refine ae (listItems_at ho rfl (ae (jf ho rfl ?_ (by rw[aI,aT];omega) (aY _))));refine ae (jw o1 rfl (ae (wpAny_newTuple ?_ (by show vs.length<=_;rw[aT];omega))));refine ae (gB (bY ?_) (aY _));show wpAny (model prog w) A _ P E { s with heap:=((s.heap.update a (bH λ_=>(#[]:Array aa))).push (seqObj "tuple" vs.toArray 0)).push (seqObj "list" #[] 0) };rw[hw];dsimp only;obtain⟨c2,hc2⟩:∃c2,(h3.update a (bH λ_=>(vL c vs).toArray)).get? a=some (seqObj "list" (vL c vs).toArray c2):=⟨_,get?_update_seq o3 λ_=>(vL c vs).toArray⟩;have fin:=h _ c2 (λb o hb q=>(di h3 _ (bI hb)).trans (kb b o hb q)) hc2;have szo:(vL c vs).toArray.size<=sizeLine+1:=by rw[aI,Ka c vs h1,aT];omega
 by_cases h2:2<=vs.length
 ·have hn2:¬vs.toArray.size<2:=by rw[aI];omega
  rw[af hn2,af hn2];refine ae (bw (hk h3 (λk s'=>k=κ/\s'={ s with heap:=h3 }) kb ⟨rfl,rfl⟩) ?_ λ_ _ x=>x.elim);rintro k s' ⟨rfl,rfl⟩;refine ae (bw (kat_run (Q:=λst' s'=>s'={ s with heap:=h3 }/\(arrOf st').map (·.2)=(vL c vs).toArray/\failedOf st'=none) (G:=λp s'=>p=nZ c (dO vs.length)/\s'={ s with heap:=h3 }) rfl h2 h64 ?_ ?_) ?_ λ_ _ e=>e)
  ·rintro p st' s' _ har hf ⟨rfl,rfl⟩;exact⟨rfl,kat_snds rfl har,hf⟩
  ·exact Gg (P:=In2 vs.length) (λi j C q r=>hc h3 i j C kb q r) (wY h1) ⟨rfl,rfl⟩
  ·rintro⟨⟨⟩,st'⟩ s' ⟨rfl,ha2,hf⟩;dsimp only;refine ae (jw o3 rfl ?_);rw[ha2,hf];refine ae (jf o3 rfl ?_ (aY _) szo);simp only[bne_self_eq_false,dS,if_false];exact ao fin
 ·obtain⟨v,rfl⟩:∃v,vs=[v]:=by
   cases vs with
   |nil=>cases h1
   |cons v r=>
    cases r with
    |nil=>exact⟨v,rfl⟩
    |cons x y=>exact ai (by simp) h2
  refine ae (ao ?_);refine ae (ao ?_);refine ae (jw o3 rfl ?_);have eo:Array.map (λx=>x.snd) (arrOf ((),SortSt.mk' general' (#[v].zip #[v]) #[] 7 none).snd)=(vL c [v]).toArray:=by rw[Kb];show Array.map (λx=>x.snd) (#[v].zip #[v])=#[v];simp
  rw[eo];refine ae (jf o3 rfl ?_ (aY _) szo);simp only[bne_self_eq_false,dS,if_false];exact ao fin
theorem Fg{l:Addr}{T:String}{o:Obj}{n:Nat}{vs:List aa}{Q:aa->ab->Prop}{κ:fO}{c:Nat->Nat->Bool}(hT:T="list" \/ T="tuple")(ho:s.heap.get? l=some o)(hcl:o.cls=.type T)(hd:o.data=.seq vs.toArray n)(h1:0<vs.length)(h64:vs.length<64)
  (hk:∀(h':Heap) (C:fO->ab->Prop),(∀b o,s.heap.get? b=some o->h'.get? b=some o)->C κ { s with heap:=h' }->wpAny (model prog w) A.in1.in1 (keyKind' vs.toArray) C (λ_ _=>False) { s with heap:=h' })
  (hc:∀(h':Heap) (i j:Nat) (C:Bool->ab->Prop),(∀b o,s.heap.get? b=some o->h'.get? b=some o)->i<vs.length/\j<vs.length->C (c i j) { s with heap:=h' }->gV prog w A.in1.in1 κ vs i j C { s with heap:=h' })
  (h:∀(g h':Heap) e,(∀b o,s.heap.get? b=some o->g.get? b=some o)->(∀b o,g.get? b=some o->h'.get? b=some o)->h'.get? g.objs.size=some (seqObj "list" (vL c vs).toArray e)->Q (.ref g.objs.size) { s with heap:=h' }):
  wpAny (model prog w) A (call (.builtin "sorted") [.ref l]) Q E s:=by
 refine gY jx jn jo (jq _) ?_;unfold bU.«sorted»;refine ae (m:=checkCount "sorted" 1 1 _) (ao (ae (wpAny_collect_seq l hT ho hcl hd (λg gk=>?_) (by rw[aT];simp;omega))));refine ae (gB ?_ (by rw[aT];simp;omega));show wpAny _ _ _ _ _ { s with heap:=g.push (seqObj "list" vs.toArray 0) };have on:(g.push (seqObj "list" vs.toArray 0)).get? g.objs.size=some (seqObj "list" vs.toArray 0):=aP _ rfl;have all:∀h',sE g.objs.size (g.push (seqObj "list" vs.toArray 0)) h'->∀b o,g.get? b=some o->h'.get? b=some o:=λh' kb b o q=>kb b o (aE (ay q)) (av _ q)
 show wpAny _ _ (do let _<-holding [Value.ref g.objs.size] _;_) _ _ _;refine ae (bY (eh ja ⟨_,on,rfl⟩ iR ?_ (jb _)));refine D1 (s:={ s with heap:=g.push (seqObj "list" vs.toArray 0) }) on h1 h64 (λh' C kb q=>hk h' C (λb o z=>all h' kb b o (gk b o z)) q) (λh' i j C kb q r=>hc h' i j C (λb o z=>all h' kb b o (gk b o z)) q r) λh' e kb q=>?_;exact⟨_,rfl,ao ⟨_,rfl,h g h' e gk (all h' kb) q⟩⟩
end
def ltS(a b:Str):Bool:=decide (a.cps.toList<b.cps.toList)
def pS:List Str->List Str->Bool
 |[],[]=>false
 |[],_::_=>true
 |_::_,[]=>false
 |x::xs,y::ys=>if x=y then pS xs ys else ltS x y
inductive StrsAre:List aa->List Str->Prop
 |nil:StrsAre [] []
 |cons (x:Str) (t:Tok) {vs:List aa} {xs:List Str} (h:StrsAre vs xs):StrsAre (.str x t::vs) (x::xs)
def xO(c:Nat->Nat->Bool)(n:Nat):List Nat:=(nZ c (dO n)).toList
theorem vC(c:Nat->Nat->Bool){n:Nat}(h:0<n):(xO c n).Perm (aF n):=(wY h).run c _
theorem wZ(c:Nat->Nat->Bool){n:Nat}(h:0<n):∀i∈xO c n,i<n:=λi hi=>bb.mp ((vC c h).mem_iff.mp hi)
theorem xP{xs:List V}{us:List aa}(r:Vals xs us):∀(is:List Nat),(∀i∈is,i<xs.length)->Vals (is.map λi=>xs.getD i V.non) (is.map λi=>us.getD i Value.none)
 |[],_=>.nil
 |i::is,h=>by have hi:=h i (.head _);obtain⟨u,e,ru⟩:=r.get (az hi);refine .cons ?_ (xP r is λj hj=>h j (.tail _ hj));show RelV (xs.getD i V.non) (us.getD i Value.none);rw[bc,bc,e,az hi];exact ru
section
variable{X:Cx}{G:Bg}{pins:List (Addr×Obj)}{σ:St}{H:Hp}{s:ab}
theorem seq_val{pins:List (Addr×Obj)}{s:ab}{σ:St}{H:Hp}{ys:List V}(I:Inv X pins σ H s)(hq:SqL X.K H a ys\/SqT X.K H a ys):∃its,Vals ys its/\∃T o n,(T="list" \/ T="tuple")/\s.heap.get? a=some o/\o.cls=.type T/\o.data=.seq its.toArray n:=by
 rcases hq with hq|hq
 ·obtain⟨its,ri,pl,_⟩:=I.list hq;obtain⟨o,a1,a2,n,a3⟩:=pl.isList;exact⟨its,ri,_,o,n,.inl rfl,a1,a2,a3⟩
 ·obtain⟨its,ri,⟨o,a1,a2,n,a3⟩,_⟩:=I.tuple hq;exact⟨its,ri,_,o,n,.inr rfl,a1,a2,a3⟩
theorem Bq{ds:List D}{xs:List V}(r:mB G H ds xs):∀(is:List Nat),(∀i∈is,i<ds.length)->mB G H (is.map λi=>ds.getD i .non) (is.map λi=>xs.getD i V.non)
 |[],_=>mV
 |i::is,h=>by have hi:=h i (.head _);obtain⟨v,e,rv⟩:=pj r (az hi);refine mW ?_ (Bq r is λj hj=>h j (.tail _ hj));show Rep G H (ds.getD i .non) (xs.getD i V.non);rw[bc,bc,e,az hi];exact rv
end
end L4
namespace L4
open PySem PySem.Spec PyProof.Rows L2 L3
variable{f f':FE}
section
variable{X:Cx}{G:Bg}
theorem Nk:OpD G (λx y H Q=>∃z n,x=.str z/\y=.int n/\MulOk z n/\Q (.str (fR z n)) H) DN:=λx y z H0 H v u Q e s rx ry k=>by
 unfold DN at e;split at e
 ·rename_i a n;split at e
  ·rename_i hl;obtain⟨h0,h1,h2⟩:=hl;cases e;unfold Rep at rx ry;refine⟨a,n,rx,ry,⟨?_,λh3 h4 h5=>?_,λh3 h4=>?_⟩,k _ λ_ _=>rl _⟩
   ·rw[ib];exact⟨aA (by omega),aA (by omega)⟩
   ·have hn:(0:Int)<n:=by omega
    have q:(9223372036854775807:Int) / n >= 9223372036854775:=by have:=Int.le_ediv_of_mul_le (a:=9223372036854775) (b:=9223372036854775807) hn (by omega);exact this
    have:((2:Int) ^ 63 - 1)=9223372036854775807:=by decide
    rw[this]at h5;omega
   ·have hn:n.toNat<=1000:=by omega
    have:a.length * n.toNat<=100 * 1000:=Nat.mul_le_mul h2 hn;refine aA ?_;rw[aT];omega
  ·cases e
 ·cases e
theorem HR:∀σ H Q,tF G (c2 (E4 true) f f') σ H Q->FW (tF G f) (tF G f') σ H Q:=λσ H Q hh=>by
 obtain⟨F,ρ,H0,d,ρ',R,e,k⟩:=hh;obtain⟨y,x,ρ1,e1,e2,e3⟩:=zf e;refine⟨F,ρ,H0,y,ρ1,R,e1,λu H1 H1' s1 R1 r1=>⟨F,ρ1,H1,x,ρ',R1,e2,λv H2 H2' s2 R2 r2=>?_⟩⟩;cases x with
 |dic ks ds=>
  unfold E4 at e3;cases ek:uV y with
  |none=>simp only[ek]at e3;cases e3
  |some j=>
   simp only[ek]at e3;cases e3;unfold Rep at r2;obtain⟨p,ob,xs,rfl,h1,h2,h3⟩:=r2;have lv:=uW (ks:=ks) j h3 h2;refine⟨p,qc (ks.zip xs) j,rfl,?_,?_⟩
   ·rw[ua r1 ek];exact DGet.kf (R2.sub _ _ h1)
   ·cases el:oF ks ds j with
    |none=>rw[el]at lv k;rw[lv];exact k _ _ _ (s1.trans s2) R2 (o9 _)
    |some z=>rw[el]at lv k;obtain⟨w,w1,_⟩:=lv;rw[w1];exact k _ _ _ (s1.trans s2) R2 (o9 _)
 |_=>unfold E4 at e3;cases e3
theorem Kc{a b:Expr}{pos:Pos}(hu:X.A.units+1<cLine)(ha:PE X a (tF G f))(hb:PE X b (tF G f'))(h1:behindInMarks .NotIn b=false:=by rfl):PT X (.Compare a [.NotIn] [b] pos) (tFT G (cT (c2 (E4 true) f f'))):=PT.weak (OC (Hf hu ha hb) h1) λσ H Q hh=>HR σ H _ (B7 σ H Q hh)
end
def Gi:List String:=["NoneType", "bool", "int", "str", "tuple", "list", "dict"]
def Br(n c:Nat):Ty->Option Bool:=λy=>match y with
 |.b x=>if Gi.contains x=true then some false else none
 |.c k=>if k<n then some (k==c)else none
def zi(K:aj)(cs:List Addr)(C:Addr)(c:Nat):Bool:=
 Gi.all (λx=>bZ K (.type x) (.ref C)==some false)&&(aF cs.length).all λk=>bZ K (.ref (cs.getD k 0)) (.ref C)==some (k==c)
theorem Bs{B:Bg}{n c:Nat}{cs:List Addr}(h:zi B.K cs (B.ca c) c=true)(hn:cs.length=n)(hc:∀k,k<n->cs.getD k 0=B.ca k)(hI:∀k,k<n->HD B.K (B.ca k)):E5 B c (Br n c):=by
 unfold zi at h;rw[aL,aV,aV]at h;refine⟨λy b e=>?_,λj b e=>?_⟩
 ·cases y with
  |b x=>
   unfold Br at e;simp only at e;split at e
   ·rename_i hx;cases e;exact eP (h.1 x (hU.mp hx))
   ·cases e
  |c k=>
   unfold Br at e;simp only at e;split at e
   ·rename_i hk;cases e;have:=eP (h.2 k (bb.mpr (by omega)));rw[hc k hk]at this;exact this
   ·cases e
 ·unfold Br at e;simp only at e;split at e
  ·rename_i hk;exact hI j hk
  ·cases e
theorem Ql{l:List Addr}(h:l.Nodup){j k:Nat}(hj:j<l.length)(hk:k<l.length)(e:l.getD j 0=l.getD k 0):j=k:=by
 rw[bc,bc,az hj,az hk]at e;have pw:=fW.mp h;rcases iC j k with y|y|y
 ·exact ai e (pw j k hj hk y)
 ·exact y
 ·exact ai e.symm (pw k j hk hj y)
variable{x:Str}
section
variable{B:Bg}{K:aj}{mg:Str->Option aa}{h:Heap}
theorem const_int{i:Int}{t:Tok}(X:K.In h)(Gn:h.Ns mainGlobals mg)(e:W.nsIn K mainGlobals x=some (some (.int i t))):vz B mg x (.int i):=
 ⟨.int i,_,gW X Gn e,⟨_,rfl⟩,λ_=>pd _⟩
inductive uc:List aa->List Str->Prop
 |nil:uc [] []
 |cons {v:aa} {x:Str} {t:Tok} {vs:List aa} {xs:List Str} (e:v=.str x t) (h:uc vs xs):uc (v::vs) (x::xs)
theorem uc.vals{vs:List aa}{xs:List Str}(h:uc vs xs):Vals (xs.map V.str) vs:=by
 induction h with
 |nil=>exact .nil
 |cons e h ih=>exact .cons ⟨_,e⟩ ih
theorem zU{H:Hp}:∀xs:List Str,mB B H (xs.map D.str) (xs.map V.str)
 |[]=>mV
 |x::xs=>mW (rl x) (zU xs)
theorem Fh{a:Addr}{o:Obj}{its:Array aa}{n:Nat}(xs:List Str)(X:B.K.In h)(Gn:h.Ns mainGlobals mg)(e:W.nsIn B.K mainGlobals x=some (some (.ref a)))(l:B.K.lookup a=some o)(hc:o.cls=.type "tuple")(hd:o.data=.seq its n)(hz:its.size<=1000)
  (r:uc its.toList xs):vz B mg x (.tup (xs.map D.str)):=
 ⟨.ref a,_,gW X Gn e,rfl,λH=>vv (.inr ⟨o,its,n,l,hc,hd,by rw[aT];omega,r.vals⟩) (zU xs)⟩
end
variable{l ns:List Str}{np:Nat}
section
variable{f g' h:FS}{c:FT}{e e' e2:FE}{a a':FA}{ρ ρ' ρ1 ρ2 ρ3:List Sl}{d x y z:D}{ds xs ys:List D}{k:Nat}{cap:List Nat}{g:FG}{ft:FT}{fe:FE}
theorem zV{α:Type}(dd:α->D)(p:α->Bool)(h:α->D):∀l:List α,
  (∀a∈l,∃ρ1 ρ2,g (dd a) (v9 k cap ρ)=some ρ1/\ft ρ1=some (p a,ρ2)/\(p a=true->∃ρ3,fe ρ2=some (h a,ρ3)/\pT cap (ρ3.drop k) ρ=some ρ)/\(p a=false->pT cap (ρ2.drop k) ρ=some ρ))->
  qz k cap g ft fe (l.map dd) ρ=some ((l.filter p).map h,ρ)
 |[],_=>rfl
 |a::l,st=>by
  obtain⟨ρ1,ρ2,h1,h2,h3,h4⟩:=st a aQ;have ih:=zV dd p h l λa' ha=>st a' (aX _ ha);rw[au];unfold qz;rw[h1];simp only[h2];cases hp:p a with
  |true=>obtain⟨ρ3,h5,h6⟩:=h3 hp;simp only[h5,h6,ih,fz,hp,if_true,au]
  |false=>simp only[h4 hp,ih,fz,hp];rfl
theorem Nl{α:Type}(dd:α->D)(h:α->D)(l:List α)(st:∀a∈l,∃ρ1 ρ3,g (dd a) (v9 k cap ρ)=some ρ1/\fe ρ1=some (h a,ρ3)/\pT cap (ρ3.drop k) ρ=some ρ):qz k cap g og fe (l.map dd) ρ=some (l.map h,ρ):=by have:=zV (ft:=og) dd (λ_=>true) h l λa ha=>let ⟨ρ1,ρ3,h1,h2,h3⟩:=st a ha;⟨ρ1,ρ1,h1,rfl,λ_=>⟨ρ3,h2,h3⟩,λz=>by cases z⟩;rw[this,ie.mpr λ_ _=>rfl]
theorem rA(neg:Bool)(a b:Str):dEq neg (.str a) (.str b)=some (.bl (if neg then !decide (a=b)else decide (a=b))):=by
 have e:AO neg (.str a) (.str b)=some (.bl (if neg then !decide (V.str a=V.str b)else decide (V.str a=V.str b))):=rfl;have e2:decide (V.str a=V.str b)=decide (a=b):=by
  by_cases h:a=b
  ·subst h;simp
  ·rw[aA h,aA (λz=>h (by injection z))]
 unfold dEq;rw[e,e2]
theorem Ke(a:Str)(l:List Str):inV (V.str a) (l.map V.str)=decide (a∈l):=by
 unfold inV;rw[c3,dt,bu];constructor
 ·rintro⟨v,hv,he⟩;obtain⟨b,hb,rfl⟩:=aM.mp hv;have:b=a:=by unfold eqV at he;simpa using he
  rw[<-this];exact hb
 ·intro ha;refine⟨.str a,bN ha,?_⟩;unfold eqV;simp
theorem HS(l:List Str):(l.map D.str).all pA=true:=by rw[lV,aV];intro x _;rfl
theorem Np(l:List Str):(l.map D.str).map vD=l.map V.str:=by rw[aJ];rfl
theorem rR(neg:Bool)(a:Str)(l:List Str):dIn neg (.str a) (.lst (l.map D.str))=some (.bl (if neg then !decide (a∈l)else decide (a∈l))):=by unfold dIn;show (if pA (.str a)&&(l.map D.str).all pA then some (D.bl (if neg then !inV (vD (.str a)) ((l.map D.str).map vD)else inV (vD (.str a)) ((l.map D.str).map vD)))else none)=_;rw[HS,Np];show some (D.bl (if neg then !inV (V.str a) (l.map V.str)else inV (V.str a) (l.map V.str)))=_;rw[Ke]
theorem D2(neg:Bool)(a:Str)(l:List Str):dIn neg (.str a) (.tup (l.map D.str))=some (.bl (if neg then !decide (a∈l)else decide (a∈l))):=rR neg a l
theorem Cf:∀bs:List Bool,AQ (bs.map D.bl)=some bs
 |[]=>rfl
 |b::bs=>by rw[au];unfold AQ;rw[Cf bs];rfl
theorem Kg(bs:List Bool):sk (.lst (bs.map D.bl))=some (.bl (bs.all id)):=by unfold sk;simp only[Cf];rfl
theorem Kh(bs:List Bool):zP (.lst (bs.map D.bl))=some (.bl (bs.any id)):=by unfold zP;simp only[Cf];rfl
theorem Gj{α:Type}(l:List α)(p:α->Bool):sk (.lst (l.map λa=>D.bl (p a)))=some (.bl (l.all p)):=by rw[show (l.map λa=>D.bl (p a))=(l.map p).map D.bl by rw[aJ];rfl,Kg,lV];rfl
theorem Nq{α:Type}(l:List α)(p:α->Bool):zP (.lst (l.map λa=>D.bl (p a)))=some (.bl (l.any p)):=by rw[show (l.map λa=>D.bl (p a))=(l.map p).map D.bl by rw[aJ];rfl,Kh,List.any_map];rfl
theorem zW:∀l:List Str,yp (l.map D.str)=some (l.map Sum.inr)
 |[]=>rfl
 |x::l=>by rw[au];unfold yp;rw[zW l];rfl
theorem Ki:∀(l acc:List Key),(acc++l).Nodup->l.foldl ddp acc=acc++l
 |[],acc,_=>by rw[aU];rfl
 |k::l,acc,h=>by
  have hn:acc.any (λz=>decide (z=k))=false:=by rw[gf];intro z;obtain⟨y,hy,ey⟩:=dt.mp z;rw[bC]at h;exact h.2.2 y hy k aQ (bh ey)
  rw[iQ,show ddp acc k=acc++[k] by unfold ddp;rw[hn];rfl,Ki l (acc++[k]) (by simpa using h)];simp
theorem tu(h:l.Nodup):(l.map (Sum.inr:Str->Key)).Nodup:=by unfold List.Nodup at h ⊢;rw[kP];exact h.imp λhne z=>hne (gG z)
theorem yw(h:l.Nodup)(hl:l.length<=1000):qj (l.map D.str)=some (.int l.length):=by unfold qj;rw[zW];simp only[ah,hl,if_true];unfold sq;rw[Ki _ [] (by simpa using tu h)];simp
theorem vE(neg:Bool)(a b:Int):dEq neg (.int a) (.int b)=some (.bl (if neg then !decide (a=b)else decide (a=b))):=by
 have e:AO neg (.int a) (.int b)=some (.bl (if neg then !decide (V.int a=V.int b)else decide (V.int a=V.int b))):=rfl;have e2:decide (V.int a=V.int b)=decide (a=b):=by
  by_cases h:a=b
  ·subst h;simp
  ·rw[aA h,aA (λz=>h (by injection z))]
 unfold dEq;rw[e,e2]
theorem nY(h1:e ρ=some (.bl true,ρ1)):pR e e' ρ=e' ρ1:=by unfold pR;rw[h1]
theorem n4{g:Nat->Option (List D->Option D)}{m:Str}{c:Nat}{hh:List D->Option D}(h1:e ρ=some (.obj c ns xs,ρ1))(h2:g c=some hh)(h3:ns.contains m=false)(h4:a ρ1=some (ys,ρ2))(h5:hh (.obj c ns xs::ys)=some d):ni g m e a ρ=some (d,ρ2):=by unfold ni;rw[h1];simp only[h2,h3,h4,h5];rfl
theorem Cg{c:Nat}{g:List D->Option (List Str×List D)}(h1:a ρ=some (ds,ρ1))(h2:g ds=some (ns,xs)):m9 c g a ρ=some (.obj c ns xs,ρ1):=by unfold m9;rw[h1];simp only[h2]
theorem ud{n:Nat}{b:FS}(hl:ds.length=np)(h:b (L4.stE n ds)=some (.nx ρ)):fnD np n b ds=some .non:=by unfold fnD;rw[ag hl,h]
theorem Kj{n:Nat}{b:FS}(hl:ds.length=np)(h:b (L4.stE n ds)=some (.rn xs ρ)):fnD np n b ds=some (.lst xs):=by unfold fnD;rw[ag hl,h]
theorem w5:∀{ks:List Key} {ds:List D} {k:Key} {d:D},ks.Nodup->(k,d)∈ks.zip ds->oF ks ds k=some d
 |[],_,k,d,_,h=>by simp at h
 |k'::ks,[],k,d,_,h=>by simp at h
 |k'::ks,d'::ds,k,d,nd,h=>by
  unfold oF;rw[cX]at h;rcases aD.mp h with e|h
  ·cases e;rw[ag rfl]
  ·rw[cq]at nd;rw[af (λz=>nd.1 (by subst z;exact(gz h).1))];exact w5 nd.2 h
theorem xQ:∀{ks:List Key} {ds:List D} {k:Key},k∉ks->oF ks ds k=none
 |[],ds,k,_=>by unfold oF;rfl
 |k'::ks,[],k,_=>by unfold oF;rfl
 |k'::ks,d'::ds,k,h=>by unfold oF;rw[af (λz=>h (by subst z;exact aQ))];exact xQ λz=>h (aX _ z)
end
end L4
namespace L4
open PySem PySem.Spec PyProof.Rows L2 L3
open PySem.W (nsIn findIn keepIn isFn makesIn fnOf)
def Fi{α:Type}:Nat->(List α->Prop)->Prop
 |0,P=>P []
 |n+1,P=>∀a,Fi n λl=>P (a::l)
theorem zj{α:Type}:∀{n:Nat} {P:List α->Prop},Fi n P->∀l,l.length=n->P l
 |0,P,h,[],_=>h
 |n+1,P,h,a::l,e=>zj (P:=λl=>P (a::l)) (h a) l (fL e)
structure CF(K:aj)(C:Addr)(xs:List Str):Prop where
 ci:HD K C
 mks:makesIn K C=true
 kp:keepIn K (.ref C)=true
 na:(xs.all λx=>match findIn K (.ref C) x with|some none=>true|_=>false)=true
theorem CF.at{K:aj}{C:Addr}{xs:List Str}(c:CF K C xs)(i:Nat){x:Str}(h:xs[i]?=some x):Cls K C/\rO K C x:=⟨c.ci.cl,by
 have e:=aV.mp c.na x (bz h);unfold rO;split at e
 ·rename_i e1;exact e1
 ·cases e⟩
variable{i:Nat}
theorem tw{Q:Nat->Prop}(h:Q i):∀c,(c==i)=true->Q c:=λc e=>by rw[beq_iff_eq]at e;subst e;exact h
theorem orQ{Q:Nat->Prop}{p:Nat->Bool}(h:∀c,p c=true->Q c)(h':Q i):∀c,(p c||c==i)=true->Q c:=λc e=>by
 rw[iP]at e;rcases e with e|e
 ·exact h c e
 ·exact tw h' c e
structure Yw(P:aq)(w:ak)(mg:Str->Option aa)(base:Heap)(G:Bg):Prop where
 m:∃h:Heap,G.K.In h/\h.Ns mainGlobals mg
variable{np:Nat}{vs:List V}{us:List aa}
section
variable{P:aq}{w:ak}{mg:Str->Option aa}{base:Heap}{G:Bg}{x m qual:Str}{st:Stmt}{N ps:List Str}{k c:Nat}{K:aj}
theorem Yw.g(y:Yw P w mg base G){v:aa}(e:nsIn G.K mainGlobals x=some (some v)):mg x=some v:=by obtain⟨h,X,Gn⟩:=y.m;exact gW X Gn e
theorem Yw.n(y:Yw P w mg base G){xs:List Str}(h:(xs.all λx=>match nsIn G.K mainGlobals x with|some none=>true|_=>false)=true)(i:Nat)(hi:xs[i]?=some x):mg x=none:=by
 obtain⟨hh,X,Gn⟩:=y.m;have e:=aV.mp h x (bz hi);split at e
 ·rename_i e1;exact W.mg_none_of X Gn e1
 ·cases e
def GC(K:aj)(x:Str)(i:Int):Prop:=∃t:Tok,nsIn K mainGlobals x=some (some (.int i t))
theorem Yw.ci(y:Yw P w mg base G){i:Int}(q:GC G.K x i):vz G mg x (.int i):=by obtain⟨h,X,Gn⟩:=y.m;obtain⟨t,e⟩:=q;exact const_int X Gn e
def GS(K:aj)(x:Str)(xs:List Str):Prop:=∃(a:Addr) (o:Obj) (its:Array aa) (n:Nat),nsIn K mainGlobals x=some (some (.ref a))/\K.lookup a=some o/\o.cls=.type "tuple" /\ o.data=.seq its n/\its.size<=1000/\uc its.toList xs
theorem Yw.cs(y:Yw P w mg base G){xs:List Str}(q:GS G.K x xs):vz G mg x (.tup (xs.map D.str)):=by obtain⟨h,X,Gn⟩:=y.m;obtain⟨a,o,its,n,e,l,h1,h2,h3,h4⟩:=q;exact Fh xs X Gn e l h1 h2 h3 h4
def GD(K:aj)(x:Str)(st:Stmt):Prop:=∃(f:Addr) (fd:bg),nsIn K mainGlobals x=some (some (.ref f))/\Fun K x x st f fd
def GM(K:aj)(C:Addr)(m qual:Str)(st:Stmt):Prop:=∃(f:Addr) (fd:bg),findIn K (.ref C) m=some (some (.ref f))/\isFn K (.ref f)=true/\Fun K m qual st f fd
def GJ(K:aj)(C:Addr)(qual:Str)(st:Stmt)(vs:List V):Prop:=∃(f:Addr) (fd:bg) (T:Addr) (o:Obj) (dl:List aa) (n:Nat),findIn K (.ref C) "__init__" = some (some (.ref f))/\isFn K (.ref f)=true/\Hn K "__init__" qual st f fd T/\K.lookup T=some o/\o.data=.seq dl.toArray n/\Vals vs dl
abbrev Bdy(P:aq)(w:ak)(K:aj)(mg:Str->Option aa)(base:Heap)(N:List Str)(qual:Str)(st:Stmt)(k:Nat)(t:TS):Prop:=∀(f:Addr) (cdv:aa) (A:ar) (outer:List Env) (s:ab) (H:Hp) (E:XK),om k (A.deeper (envOfC qual (mM st) s.heap.objs.size f cdv))->PSs (wK P w K mg base N qual st f cdv A outer s H E) (nu st) t
abbrev Bds(x qual:Str)(st:Stmt)(ps:List Str):Prop:=Fi ps.length λus=>∀(kV doc pm:aa) (an:Option Addr) (cdv ct:aa),bindArgs (fnOf x qual (sv st) (nu st) (mM st) .none kV doc pm an cdv ct) ⟨us,[]⟩=pure (ps.zip us)
theorem Bds.ok{f:Addr}{fd:bg}(b:Bds x qual st ps)(F:Fun K x qual st f fd):Binds K fd ps []:=F.binds λkV doc pm an cdv ct us hl=>zj b us hl kV doc pm an cdv ct
theorem gD{sp:Sp}(y:Yw P w mg base G)(q:GD G.K x st)(bd:Bds x x st ps)(ok:∀f fd,Fun G.K x x st f fd->qU P w G.K mg base CX0 k f fd ps sp):sC P w G.K mg base k x ps sp:=by obtain⟨f,fd,a,F⟩:=q;exact⟨f,fd,y.g a,F.kp,bd.ok F,ok f fd F⟩
theorem gF{n:Nat}{g:List D->Option D}{b:FS}(hg:g=fnD np n b)(y:Yw P w mg base G)(q:GD G.K x st)(S:oA N ps (mM st))(body:Bdy P w G.K mg base N x st k (tFS G b))(hp:ps.length=np:=by rfl)(hN:N.length=n:=by rfl)(bd:Bds x x st ps:=by (repeat intro _);rfl):sC P w G.K mg base (k+1) x ps (spF G g):=
 gD y q bd λf fd F=>JI hg hp hN F S (body f)
theorem gN'{n:Nat}{g:List D->Option (List D)}{b:FS}(hg:g=fnN np n b)(y:Yw P w mg base G)(q:GD G.K x st)(S:oA N ps (mM st))(body:Bdy P w G.K mg base N x st k (tFS G b))(hp:ps.length=np:=by rfl)(hN:N.length=n:=by rfl)(bd:Bds x x st ps:=by (repeat intro _);rfl):sC P w G.K mg base (k+1) x ps (spN G g):=
 gD y q bd λf fd F=>TQ hg hp hN F S (body f)
theorem gM{n:Nat}{g:List D->List D->Option (D×List D)}{b:FS}{p:Str}(hg:g=fnM np n b)(y:Yw P w mg base G)(q:GD G.K x st)(S:oA N (p::ps) (mM st))(body:Bdy P w G.K mg base N x st k (tFS G b))(hp:ps.length=np:=by rfl)(hN:N.length=n:=by rfl)(bd:Bds x x st (p::ps):=by (repeat intro _);rfl):sC P w G.K mg base (k+1) x (p::ps) (spM G g):=
 gD y q bd λf fd F=>TR hg hp hN F S (body f)
theorem gL{n:Nat}{g:List D->List D->Option (D×List D)}{b:FS}(hg:g=fnL np n b)(y:Yw P w mg base G)(q:GD G.K x st)(S:oA N ps (mM st))(body:Bdy P w G.K mg base N x st k (tFS G b))(hp:ps.length=np+1:=by rfl)(hN:N.length=n:=by rfl)(bd:Bds x x st ps:=by (repeat intro _);rfl):sC P w G.K mg base (k+1) x ps (spL G g):=
 gD y q bd λf fd F=>T5 hg hp hN F S (body f)
theorem gI{n:Nat}{g:List D->Option (List Str×List D)}{b:FS}{xs:List Str}{p:Str}(hg:g=fnI c np n b)(y:Yw P w mg base G)(C:CF G.K (G.ca c) xs)(a:nsIn G.K mainGlobals x=some (some (.ref (G.ca c))))(q:GM G.K (G.ca c) "__init__" qual st)(S:oA N (p::ps) (mM st))(body:Bdy P w G.K mg base N qual st k (tFS G b))(hp:ps.length=np:=by rfl)(hN:N.length=n:=by rfl)(bd:Bds "__init__" qual st (p::ps):=by (repeat intro _);rfl):Cb G P w mg base (k+1) x c (p::ps) [] g:=by obtain⟨f,fd,i,i',F⟩:=q;exact⟨f,fd,[],⟨C.mks,i,i',C.kp⟩,y.g a,bd.ok F,.nil,TU hg hp hN F S (body f)⟩
theorem D3(h:Vals vs us):us.length=vs.length:=by
 induction h with
 |nil=>rfl
 |cons _ _ ih=>rw[aC,aC,ih]
theorem HU(h:Vals vs us):∀j,Vals (vs.drop j) (us.drop j):=by
 induction h with
 |nil=>intro j;rw[lS,lS];exact .nil
 |cons a b ih=>
  intro j;cases j with
  |zero=>exact .cons a b
  |succ j=>exact ih j
theorem gJ{n:Nat}{g:List D->Option (List Str×List D)}{b:FS}{xs:List Str}{p:Str}(hg:g=fnI c np n b)(y:Yw P w mg base G)(C:CF G.K (G.ca c) xs)(a:nsIn G.K mainGlobals x=some (some (.ref (G.ca c))))(q:GJ G.K (G.ca c) qual st vs)(S:oA N (p::ps) (mM st))(body:Bdy P w G.K mg base N qual st k (tFS G b))(j:Nat)(hp:ps.length=np:=by rfl)(hN:N.length=n:=by rfl)
  (bd:Fi vs.length λdl=>Fi ((p::ps).length - (vs.drop j).length) λus=>∀(T:Addr) (kV doc pm:aa) (an:Option Addr) (cdv ct:aa),∃k,bindArgs (fnOf "__init__" qual (sv st) (nu st) (mM st) (.ref T) kV doc pm an cdv ct) ⟨us,[]⟩=seqItems? (.ref T)>>=k/\k (some dl.toArray)=pure ((p::ps).zip (us++dl.drop j)):=by (repeat intro _);exact⟨_,rfl,rfl⟩):Cb G P w mg base (k+1) x c (p::ps) (vs.drop j) g:=by
 obtain⟨f,fd,T,o,dl,n,i,i',F,l,e,r⟩:=q;refine⟨f,fd,dl.drop j,⟨C.mks,i,i',C.kp⟩,y.g a,F.binds l e λkV doc pm an cdv ct us hl=>?_,HU r j,P4 hg hp hN F S (body f)⟩;exact zj (zj bd dl (D3 r)) us (by rw[hl,cg,cg,D3 r]) T kV doc pm an cdv ct
end
end L4
namespace L4
open PySem PySem.Spec PyProof.Rows L2 L3
def leS(a b:Str):Bool:=decide (a.cps.toList<=b.cps.toList)
def tD(ss:List Str):List Str:=ss.mergeSort leS
theorem Kk(a b c:Str)(h:leS a b=true)(h':leS b c=true):leS a c=true:=aH (List.le_trans (bh h) (bh h'))
theorem Nr(a b:Str):(leS a b||leS b a)=true:=by
 rw[iP];rcases List.le_total a.cps.toList b.cps.toList with h|h
 ·exact .inl (aH h)
 ·exact .inr (aH h)
theorem Kl(a b:Str)(h:leS a b=true)(h':leS b a=true):a=b:=by have e:=lu (bh h) (bh h');cases a with|mk a=>cases b with|mk b=>cases a;cases b;simp only at e;rw[e]
theorem xR:∀(r:List Str) (x:Str),risingS x r=true->(∀y∈r,leS x y=true)/\r.Pairwise λa b=>leS a b=true
 |[],x,_=>⟨λy h=>(bD h).elim,.nil⟩
 |z::r,x,h=>by
  unfold risingS at h;rw[aL,dX,ltCps_eq]at h;obtain⟨h1,h2⟩:=h;obtain⟨g1,g2⟩:=xR r z h2;have h3:leS x z=true:=aH (of_decide_eq_false h1);refine⟨λy hy=>?_,.cons g1 g2⟩;rcases aD.mp hy with e|hy
  ·rw[e];exact h3
  ·exact Kk _ _ _ h3 (g1 y hy)
theorem Fj:∀l:List Str,sortedS l=true->l.Pairwise λa b=>leS a b=true
 |[],_=>.nil
 |x::r,h=>.cons (xR r x h).1 (xR r x h).2
theorem zX{l ss:List Str}(p:l.Perm ss)(h:sortedS l=true):l=tD ss:=
 jS (λa b _ _=>Kl a b) (Fj l h) (List.pairwise_mergeSort Kk Nr ss) (p.trans (ig ss leS).symm)
theorem D4:∀{xs:List Str} {vs:List aa},Vals (xs.map V.str) vs->eZ vs xs
 |[],vs,h=>by cases h;exact .nil
 |x::xs,vs,h=>by
  cases h with
  |cons r h'=>obtain⟨t,rfl⟩:=r;exact .cons x t (D4 h')
theorem Km:∀{vs:List aa} {xs:List Str},eZ vs xs->Vals (xs.map V.str) vs
 |_,_,.nil=>.nil
 |_,_,.cons x t h=>.cons ⟨t,rfl⟩ (Km h)
section
variable{X:Cx}{G:Bg}{pins:List (Addr×Obj)}{σ:St}{H:Hp}{s:ab}
theorem Ci:oa X (.builtin "sorted") (λxs H Q=>∃(a:Addr) (ss:List Str),xs=[.ref a]/\SqL X.K H a (ss.map V.str)/\ss.length<64/\∀p,H p=none->Q (.ref p) (upd H p (.lst ((tD ss).map V.str)))):=by
 intro pins s σ H xs us Q I r h;obtain⟨a,ss,rfl,hq,h64,q⟩:=h;obtain⟨u,rfl,ru⟩:=vals1 r;cases ru;obtain⟨its,ri,pl,_⟩:=I.list hq;have hl:(ss.map V.str).length=its.length:=ri.length;rw[ah]at hl;refine sorted_strs pl.isList (D4 ri) (by omega) λout ss' a1 a2 a3=>?_;obtain⟨e,he⟩:=sortedAll_at s.heap its out;have e1:=zX a2 a3;refine⟨.ref (s.heap.objs.size+1),_,I.laid (t':=s.toks) (λ_ _=>sortedAll_old) (dG _) ?_,rfl,q _ (I.hok.fresh (dG _))⟩;refine⟨?_,out.toList,e,?_,he⟩
 ·rw[ah,<- e1,a2.length_eq,aT];omega
 ·rw[<-e1];exact Km a1
theorem zY{H:Hp}:∀xs:List Str,mB G H (xs.map D.str) (xs.map V.str)
 |[]=>mV
 |x::xs=>mW (rl x) (zY xs)
theorem AS(hK:X.K=G.K:=by rfl):oa X (.builtin "sorted") (λxs H Q=>∃(a:Addr) (ss:List Str),xs=[.ref a]/\SqL G.K H a (ss.map V.str)/\ss.length<64/\∀p,H p=none->Q (.ref p) (upd H p (.lst ((tD ss).map V.str)))):=by rw[<-hK];exact Ci
end
end L4
namespace L4
open PySem PySem.Spec PySem.Calls PyProof.Rows PySem.W L2 L3
theorem rM{α β:Type}{c:Nat->Nat->Bool}{f:α->KasT β}:∀t:KasT α,nZ c (t.bind f)=nZ c (f (nZ c t))
 |.ret a=>rfl
 |.ask i j k=>rM (k (c i j))
structure Sto(c:Nat->Nat->Bool)(n:Nat):Prop where
 tr:∀i j k,i<n->j<n->k<n->c i j=true->c j k=true->c i k=true
 tot:∀i j,i<n->j<n->i≠j->c i j=false->c j i=true
def Asc(c:Nat->Nat->Bool)(p:Array Nat)(k:Nat):Prop:=∀i j,i<j->j<k->c (p.getD i 0) (p.getD j 0)=true
def Dsc(c:Nat->Nat->Bool)(p:Array Nat)(k:Nat):Prop:=∀i j,i<j->j<k->c (p.getD j 0) (p.getD i 0)=true
variable{p:Array Nat}
theorem yx(i:Nat):p.getD i 0=p[i]?.getD 0:=dh ..
theorem nF.size{n:Nat}(h:nF n p):p.size=n:=by have:=h.length_eq;rw[bO,aW]at this;exact this
variable{i j:Nat}
theorem nF.ne{n:Nat}(h:nF n p)(hi:i<n)(hj:j<n)(e:i≠j):p.getD i 0≠p.getD j 0:=by
 have nd:p.toList.Nodup:=h.nodup_iff.mpr iJ;have hs:=h.size;rw[yx,yx,cR (by omega),cR (by omega)];have pw:=fW.mp nd;intro z;rcases iC i j with y|y|y
 ·exact pw i j (by rw[aW];omega) (by rw[aW];omega) y (by simpa using z)
 ·exact e y
 ·exact pw j i (by rw[aW];omega) (by rw[aW];omega) y (by simpa using z.symm)
section
variable{c:Nat->Nat->Bool}{n:Nat}(o:Sto c n)(hn:0<n)
include o hn
theorem Asc.snoc{p:Array Nat}(h:nF n p){k:Nat}(h1:1<=k)(hk:k<n)(a:Asc c p k)(e:c (p.getD (k - 1) 0) (p.getD k 0)=true):Asc c p (k+1):=λi j hij hj=>by
 by_cases hjk:j=k
 ·subst hjk;by_cases hi:i=j - 1
  ·rw[hi];exact e
  ·exact o.tr _ _ _ (h.getD hn _) (h.getD hn _) (h.getD hn _) (a i (j - 1) (by omega) (by omega)) e
 ·exact a i j hij (by omega)
theorem Dsc.snoc{p:Array Nat}(h:nF n p){k:Nat}(h1:1<=k)(hk:k<n)(a:Dsc c p k)(e:c (p.getD k 0) (p.getD (k - 1) 0)=true):Dsc c p (k+1):=λi j hij hj=>by
 by_cases hjk:j=k
 ·subst hjk;by_cases hi:i=j - 1
  ·rw[hi];exact e
  ·exact o.tr _ _ _ (h.getD hn _) (h.getD hn _) (h.getD hn _) e (a i (j - 1) (by omega) (by omega))
 ·exact a i j hij (by omega)
theorem Cj{p:Array Nat}(h:nF n p):∀f k,1<=k->k+f=n->Asc c p k->k<=nZ c (cn p f k)/\nZ c (cn p f k)<=n/\Asc c p (nZ c (cn p f k))/\(nZ c (cn p f k)<n->c (p.getD (nZ c (cn p f k)) 0) (p.getD (nZ c (cn p f k) - 1) 0)=true)
 |0,k,h1,e,a=>⟨aw _,by show k<=n;omega,a,λz=>ai z (by show ¬k<n;omega)⟩
 |f+1,k,h1,e,a=>by
  have er:nZ c (cn p (f+1) k)=nZ c (if c (p.getD k 0) (p.getD (k - 1) 0)=true then .ret k else cn p f (k+1)):=rfl;rw[er];cases q:c (p.getD k 0) (p.getD (k - 1) 0)with
  |true=>rw[ag rfl];exact⟨aw _,by show k<=n;omega,a,λ_=>q⟩
  |false=>rw[af (by decide)];have q':=o.tot _ _ (h.getD hn _) (h.getD hn _) (h.ne (by omega) (by omega) (by omega)) q;obtain⟨g1,g2⟩:=Cj h f (k+1) (by omega) (by omega) (Asc.snoc o hn h h1 (by omega) a q');exact⟨by omega,g2⟩
theorem D5{p:Array Nat}(h:nF n p):∀f k,1<=k->k+f=n->Dsc c p k->∃m,nZ c (eR f p k 0)=(p,m,0)/\k<=m/\m<=n/\Dsc c p m
 |0,k,h1,e,a=>⟨k,rfl,aw _,by omega,a⟩
 |f+1,k,h1,e,a=>by
  have er:nZ c (eR (f+1) p k 0)=nZ c (if c (p.getD k 0) (p.getD (k - 1) 0)=true then (if 0 > 0 then eR f (cA p (k - (0+1)) k) (k+1) 0 else eR f p (k+1) 0)else .ask (p.getD (k - 1) 0) (p.getD k 0) λd=>if d=true then .ret (p,k,0)else eR f p (k+1) (0+1)):=rfl;rw[er];cases q:c (p.getD k 0) (p.getD (k - 1) 0)with
  |true=>rw[ag rfl,af (by decide)];obtain⟨m,g1,g2,g3,g4⟩:=D5 h f (k+1) (by omega) (by omega) (Dsc.snoc o hn h h1 (by omega) a q);exact⟨m,g1,by omega,g3,g4⟩
  |false=>rw[af (by decide)];have q':=o.tot _ _ (h.getD hn _) (h.getD hn _) (h.ne (by omega) (by omega) (by omega)) q;refine⟨k,?_,aw _,by omega,a⟩;show nZ c (if c (p.getD (k - 1) 0) (p.getD k 0)=true then _ else _)=_;rw[ag q'];rfl
theorem Nt(h:nF n p){k:Nat}(hk:k<=n)(d:Dsc c p k):Asc c (cA p 0 k) k:=λi j hij hj=>by
 have hs:=h.size;have e:∀t,t<k->(cA p 0 k).getD t 0=p.getD (k - 1 - t) 0:=λt ht=>by rw[yx,yx];unfold cA;rw[getElem?_mirror_all (by omega),ag ⟨aY _,ht⟩,gE]
 rw[e i (by omega),e j hj];exact d _ _ (by omega) (by omega)
theorem Kn(h:nF n p){k:Nat}(h1:1<=k)(hk:k<=n)(d:Dsc c p k):1<=(nZ c (dH k n p)).1/\(nZ c (dH k n p)).1<=n/\Asc c (nZ c (dH k n p)).2 (nZ c (dH k n p)).1:=by unfold dH;rw[rM];obtain⟨g1,g2,g3,_⟩:=Cj o hn (h.rev 0 k) (n - k) k h1 (by omega) (Nt o hn h hk d);exact⟨by show 1<=nZ c (cn (cA p 0 k) (n - k) k);omega,g2,g3⟩
theorem Ck(h:nF n p){k:Nat}(h1:1<=k)(hk:k+1<=n)(d:Dsc c p (k+1)):1<=(nZ c (c9 k n p)).1/\(nZ c (c9 k n p)).1<=n/\Asc c (nZ c (c9 k n p)).2 (nZ c (c9 k n p)).1:=by unfold c9;rw[rM];obtain⟨m,g1,g2,g3,g4⟩:=D5 o hn h (n - (k+1)) (k+1) (by omega) (by omega) d;rw[g1];show 1<=(nZ c (if 0 > 0 then _ else dH m n p)).1/\_;rw[af (by decide)];exact Kn o hn h (by omega) g3 g4
theorem HV(h:nF n p):1<=(nZ c (cO n p)).1/\(nZ c (cO n p)).1<=n/\Asc c (nZ c (cO n p)).2 (nZ c (cO n p)).1:=by
 unfold cO;rw[rM];obtain⟨g1,g2,g3,g4⟩:=Cj o hn h (n - 1) 1 (aw _) (by omega) (λi j hij hj=>by omega);generalize nZ c (cn p (n - 1) 1)=m at g1 g2 g3 g4;by_cases e:m=n
 ·rw[ag (by rw[beq_iff_eq];exact e)];exact⟨g1,g2,g3⟩
 ·rw[af (by rw[beq_iff_eq];exact e)];by_cases e1:m > 1
  ·rw[ag e1];have er:nZ c (.ask (p.getD 0 0) (p.getD (m - 1) 0) λb=>if b=true then .ret (m,p)else c9 m n (cA p 0 m))=nZ c (if c (p.getD 0 0) (p.getD (m - 1) 0)=true then .ret (m,p)else c9 m n (cA p 0 m)):=rfl;rw[er,ag (g3 0 (m - 1) (by omega) (by omega))];exact⟨g1,g2,g3⟩
  ·rw[af e1];have e2:m=1:=by omega
   subst e2;refine Ck o hn h (aw _) (by omega) λi j hij hj=>?_;have:i=0/\j=1:=by omega
   obtain⟨rfl,rfl⟩:=this;exact g4 (by omega)
theorem xS{p:Array Nat}(h:nF n p){k:Nat}(hk:k<n)(a:Asc c p k):∀f l r,l<=r->r<=k->r - l<=f->(∀i,i<l->c (p.getD i 0) (p.getD k 0)=true)->(∀i,r<=i->i<k->c (p.getD k 0) (p.getD i 0)=true)->
  nZ c (eQ p k f l r)<=k/\(∀i,i<nZ c (eQ p k f l r)->c (p.getD i 0) (p.getD k 0)=true)/\∀i,nZ c (eQ p k f l r)<=i->i<k->c (p.getD k 0) (p.getD i 0)=true
 |0,l,r,h1,h2,h3,h4,h5=>⟨by show l<=k;omega,h4,λi hi=>h5 i (by have:l<=i:=hi;omega)⟩
 |f+1,l,r,h1,h2,h3,h4,h5=>by
  unfold eQ;by_cases e:l >= r
  ·rw[ag e];exact⟨by show l<=k;omega,h4,λi hi=>h5 i (by have:l<=i:=hi;omega)⟩
  ·rw[af e];show nZ c (if c (p.getD k 0) (p.getD ((l+r) / 2) 0)=true then _ else _)<=k/\(∀i,i<nZ c (if c (p.getD k 0) (p.getD ((l+r) / 2) 0)=true then _ else _)->_)/\∀i,nZ c (if c (p.getD k 0) (p.getD ((l+r) / 2) 0)=true then _ else _)<=i->_;have hm:(l+r) / 2<r:=by omega
   have hm':l<=(l+r) / 2:=by omega
   generalize (l+r) / 2=m at hm hm';cases q:c (p.getD k 0) (p.getD m 0)with
   |true=>
    rw[ag rfl];refine xS h hk a f l m hm' (by omega) (by omega) h4 λi hi hik=>?_;by_cases z:i=m
    ·rw[z];exact q
    ·exact o.tr _ _ _ (h.getD hn _) (h.getD hn _) (h.getD hn _) q (a m i (by omega) hik)
   |false=>
    rw[af (by decide)];have q':=o.tot _ _ (h.getD hn _) (h.getD hn _) (h.ne hk (by omega) (by omega)) q;refine xS h hk a f (m+1) r (by omega) h2 (by omega) (λi hi=>?_) h5;by_cases z:i=m
    ·rw[z];exact q'
    ·exact o.tr _ _ _ (h.getD hn _) (h.getD hn _) (h.getD hn _) (a i m (by omega) (by omega)) q'
theorem Nu(h:nF n p){k m:Nat}(hk:k<n)(hm:m<=k)(a:Asc c p k)(h4:∀i,i<m->c (p.getD i 0) (p.getD k 0)=true)(h5:∀i,m<=i->i<k->c (p.getD k 0) (p.getD i 0)=true):Asc c (bubble p k (k - m)) (k+1):=λi j hij hj=>by
 have hs:=h.size;have e:∀t,(bubble p k (k - m)).getD t 0=if t=m then p.getD k 0 else if m<t/\t<=k then p.getD (t - 1) 0 else p.getD t 0:=λt=>by
  rw[yx,getElem?_bubble (by omega) _ (by omega),show k - (k - m)=m by omega]
  repeat' split
  all_goals rw[yx]
 rw[e,e];by_cases i1:i=m
 ·rw[ag i1,af (by omega),ag (by omega)];exact h5 _ (by omega) (by omega)
 ·rw[af i1];by_cases j1:j=m
  ·rw[ag j1,af (by omega)];exact h4 _ (by omega)
  ·rw[af j1];by_cases i2:m<i/\i<=k
   ·rw[ag i2,ag (by omega)];exact a _ _ (by omega) (by omega)
   ·rw[af i2];by_cases j2:m<j/\j<=k
    ·rw[ag j2];exact a _ _ (by omega) (by omega)
    ·rw[af j2];exact a _ _ (by omega) (by omega)
theorem Gk:∀f (p:Array Nat) k,nF n p->1<=k->k+f=n->Asc c p k->Asc c (nZ c (kas_bin f p k)) n
 |0,p,k,h,h1,e,a=>by have:k=n:=e;subst this;exact a
 |f+1,p,k,h,h1,e,a=>by unfold kas_bin;rw[rM];obtain⟨g1,g2,g3⟩:=xS o hn h (k:=k) (by omega) a k 0 k (aY _) (aw _) (by omega) (λi hi=>by omega) (λi hi hik=>by omega);exact Gk f _ (k+1) (h.bub _ _) (by omega) (by omega) (Nu o hn h (by omega) g1 a g2 g3)
theorem Ko:Asc c (nZ c (dO n)) n:=by
 unfold dO;rw[rM];have h0:nF n (fK (aF n)):=by unfold nF;exact iY _
 obtain⟨g1,g2,g3⟩:=HV o hn h0;have hp:nF n (nZ c (cO n (fK (aF n)))).2:=(Bp hn h0 n).run c _;by_cases e:(nZ c (cO n (fK (aF n)))).1<n
 ·rw[ag e,Nat.max_eq_left g1];exact Gk o hn _ _ _ hp g1 (by omega) g3
 ·rw[af e];have e2:(nZ c (cO n (fK (aF n)))).1=n:=by omega
  rw[e2]at g3;exact g3
end
section
variable{X:Cx}{G:Bg}{pins:List (Addr×Obj)}{σ:St}{H:Hp}{s:ab}
def AU(K:aj)(H:Hp)(y:V)(k:List Str):Prop:=∃a p q,y=.ref a/\k=[p,q]/\SqT K H a [.str p,.str q]
theorem Kp(I:Inv X pins σ H s){y:V}{k:List Str}{u:aa}(h:AU X.K H y k)(r:RelV y u):∃a p q t v,u=.ref a/\k=[p,q]/\dg s.heap a #[.str p t,.str q v]:=by
 obtain⟨a,p,q,rfl,rfl,h1⟩:=h;cases r;obtain⟨its,ri,ti,_⟩:=I.tuple h1;cases ri with
 |cons q1 q2=>
  obtain⟨t,rfl⟩:=q1;cases q2 with
  |cons q3 q4=>obtain⟨v,rfl⟩:=q3;cases q4;exact⟨a,p,q,t,v,rfl,rfl,ti⟩
end
variable{its:List aa}{ks:List (List Str)}
section
variable{prog:aq}{w:ak}{A:ar}{s:ab}
def It2(h:Heap)(its:List aa)(ks:List (List Str)):Prop:=∀i,i<its.length->∃a p q t v,its.getD i Value.none=.ref a/\ks.getD i []=[p,q]/\dg h a #[.str p t,.str q v]/\its[i]?=some (.ref a)
theorem Bt{C:fO->ab->Prop}(item:It2 s.heap its ks)(h1:0<its.length)(hC:C (tuples' true) s):wpAny (model prog w) A (keyKind' its.toArray) C (λ_ _=>False) s:=by
 have tups:∀(l:List aa),(∀v∈l,∃i,i<its.length/\its[i]?=some v)->∃fs,KatTups s.heap l fs/\fs.length=l.length/\∀f∈fs,∃(x:Str) (t:Tok),f=.str x t:=λl=>by
  induction l with
  |nil=>exact λ_=>⟨[],KatTups.nil,rfl,λf hf=>by cases hf⟩
  |cons v l ih=>
   intro hv;obtain⟨fs,f1,f2,f3⟩:=ih λw hw=>hv w (.tail _ hw);obtain⟨i,hi,ei⟩:=hv v (.head _);obtain⟨a,p,q,t,w,_,_,⟨o,t1,t2,n,t3⟩,t5⟩:=item i hi;rw[ei]at t5;cases t5;refine⟨.str p t::fs,KatTups.cons t1 t2 t3 (by simp) f1,by rw[aC,aC,f2],λf hf=>?_⟩;rcases aD.mp hf with rfl|hf
   ·exact⟨p,t,rfl⟩
   ·exact f3 f hf
 obtain⟨fs,f1,f2,f3⟩:=tups its λv hv=>by obtain⟨i,hi,e⟩:=hZ.mp hv;exact⟨i,hi,by rw[az hi,e]⟩
 refine kat_kind (T:=.type "str") f1 (by omega) (λv hv=>?_) (by decide) ?_
 ·obtain⟨x,t,rfl⟩:=f3 v hv;exact .now
 ·rw[show (Value.type "str" != Value.type "tuple")=true by decide];exact hC
theorem D6{C:Bool->ab->Prop}(item:It2 s.heap its ks)(hij:i<its.length/\j<its.length)(hC:C (pS (ks.getD i []) (ks.getD j [])) s):gV prog w A (tuples' true) its i j C s:=by
 obtain⟨a1,p1,q1,t1,v1,e1,k1,⟨o1,g1,c1,n1,d1⟩,_⟩:=item i hij.1;obtain⟨a2,p2,q2,t2,v2,e2,k2,⟨o2,g2,c2,n2,d2⟩,_⟩:=item j hij.2;unfold gV;rw[e1,e2];rw[k1,k2]at hC;refine kat_lt g1 d1 g2 d2 ?_;show KatLex _ _ _ _ _ _ [(Value.str p1 t1,Value.str p2 t2),(Value.str q1 v1,Value.str q2 v2)] 0 _;refine kat_cons (il p1 t1 p2 t2 _ _ _ _ ?_);unfold pS at hC;by_cases hpp:p1=p2
 ·subst hpp;rw[ag rfl]at hC;rw[beq_self_eq_true];refine kat_yes (kat_cons (il q1 v1 q2 v2 _ _ _ _ ?_));unfold pS at hC;by_cases hqq:q1=q2
  ·subst hqq;rw[ag rfl]at hC;rw[beq_self_eq_true];exact kat_yes (kat_nil hC)
  ·rw[af hqq]at hC;rw[beq_false_of_ne hqq];exact kat_no (kat_one _ _ (PyProof.Rows.lt_str hC))
 ·rw[af hpp]at hC;rw[beq_false_of_ne hpp];exact kat_no (oneLt_str hC)
end
section
variable{X:Cx}{G:Bg}{pins:List (Addr×Obj)}{σ:St}{H:Hp}{s:ab}
theorem Cn(hu:X.A.units+64<cLine):oa X (.builtin "sorted") (λxs H Q=>∃(a:Addr) (ys:List V) (ks:List (List Str)),xs=[.ref a]/\SqL X.K H a ys/\0<ys.length/\ys.length<64/\ks.length=ys.length/\(∀(i:Nat) (y:V) (k:List Str),ys[i]?=some y->ks[i]?=some k->AU X.K H y k)/\
  ∀p,H p=none->Q (.ref p) (upd H p (.lst ((xO (λi j=>pS (ks.getD i []) (ks.getD j [])) ys.length).map λi=>ys.getD i V.non)))):=by
 intro pins s σ H xs us Q I r h;obtain⟨a,ys,ks,rfl,hq,h1,h64,hkl,hp,q⟩:=h;obtain⟨u,rfl,ru⟩:=vals1 r;cases ru;obtain⟨its,ri,T,ob,nn,hT,b1,b2,b3⟩:=seq_val I (.inl hq);have hl:ys.length=its.length:=ri.length;have item:∀{h':Heap},(∀b o,s.heap.get? b=some o->h'.get? b=some o)->It2 h' its ks:=λ{h'} kk i hi=>by
  have I':Inv X pins σ H { s with heap:=h',toks:=s.toks }:=I.kept kk;have hy:i<ys.length:=by omega
  have hk:i<ks.length:=by omega
  obtain⟨u,e,ru⟩:=ri.get (az hy);obtain⟨a,p,q,t,v,rfl,ek,ti⟩:=Kp I' (hp i _ _ (az hy) (az hk)) ru;refine⟨a,p,q,t,v,?_,?_,ti,e⟩
  ·rw[bc,e];rfl
  ·rw[bc,az hk];exact ek
 refine Fg (κ:=tuples' true) (c:=λi j=>pS (ks.getD i []) (ks.getD j [])) hT b1 b2 b3 (by omega) (by omega) (λh' C kk hC=>Bt (s:={ s with heap:=h' }) (item kk) (by omega) hC) (λh' i j C kk hij hC=>D6 (s:={ s with heap:=h' }) (item kk) hij hC) λg h' e k1 k2 ho=>?_
 ·have I1:Inv X pins σ H { s with heap:=g,toks:=s.toks }:=I.kept k1;refine⟨.ref g.objs.size,_,I1.laid (t':=s.toks) k2 (aw _) ?_,rfl,q _ (I1.hok.fresh (aw _))⟩;have hn:0<ys.length:=h1;refine⟨?_,vL _ its,e,?_,ho⟩
  ·rw[ah,(vC _ hn).length_eq,bO,aT];omega
  ·unfold vL;rw[<-hl];exact xP ri _ λi hi=>wZ _ hn i hi
end
def HW:D->Option (List Str)
 |.tup [.str p,.str q]=>some [p,q]
 |_=>none
def qA:List D->Option (List (List Str))
 |[]=>some []
 |d::ds=>match HW d,qA ds with
  |some k,some ks=>some (k::ks)
  |_,_=>none
def zZ(ds:List D):Option (List D):=match qA ds with
 |some ks=>if 0<ds.length/\ds.length<64 then some ((xO (λi j=>pS (ks.getD i []) (ks.getD j [])) ds.length).map λi=>ds.getD i .non)else none
 |none=>none
section
variable{X:Cx}{G:Bg}{H:Hp}
theorem D7{d:D}{v:V}{k:List Str}(r:Rep G H d v)(e:HW d=some k):AU G.K H v k:=by
 unfold HW at e;split at e
 ·rename_i p q;cases e;unfold Rep at r;obtain⟨a,xs,rfl,h1,h2⟩:=r;unfold mB at h2;obtain⟨v1,r1,rfl,q1,q2⟩:=h2;unfold mB at q2;obtain⟨v2,r2,rfl,q3,q4⟩:=q2;unfold mB at q4;unfold Rep at q1 q3;subst q4 q1 q3;exact⟨a,p,q,rfl,rfl,h1⟩
 ·cases e
theorem Bu:∀{ds:List D} {ks:List (List Str)},qA ds=some ks->ks.length=ds.length
 |[],ks,e=>by cases e;rfl
 |d::ds,ks,e=>by
  unfold qA at e;cases e1:HW d with
  |none=>rw[e1]at e;cases e
  |some k=>
   cases e2:qA ds with
   |none=>rw[e1,e2]at e;cases e
   |some ks'=>rw[e1,e2]at e;cases e;rw[aC,aC,Bu e2]
theorem Bv:∀{ds:List D} {ks:List (List Str)} {xs:List V},mB G H ds xs->qA ds=some ks->∀(i:Nat) (y:V) (k:List Str),xs[i]?=some y->ks[i]?=some k->AU G.K H y k
 |[],ks,xs,r,e,i,y,k,h1,h2=>by cases e;cases h2
 |d::ds,ks,xs,r,e,i,y,k,h1,h2=>by
  unfold qA at e;cases e1:HW d with
  |none=>rw[e1]at e;cases e
  |some k'=>
   cases e2:qA ds with
   |none=>rw[e1,e2]at e;cases e
   |some ks'=>
    rw[e1,e2]at e;cases e;unfold mB at r;obtain⟨v,r',rfl,q1,q2⟩:=r;cases i with
    |zero=>cases h1;cases h2;exact D7 q1 e1
    |succ i=>exact Bv q2 e2 i y k h1 h2
theorem AU.mono{K:aj}{H0 H1:Hp}{y:V}{k:List Str}(s:mI H0 H1)(h:AU K H0 y k):AU K H1 y k:=by obtain⟨a,p,q,e1,e2,h1⟩:=h;exact⟨a,p,q,e1,e2,SqT.mono s h1⟩
theorem AV(hu:X.A.units+64<cLine)(hK:X.K=G.K:=by rfl):oa X (.builtin "sorted") (λxs H Q=>∃(a:Addr) (ys:List V) (ks:List (List Str)),xs=[.ref a]/\SqL G.K H a ys/\0<ys.length/\ys.length<64/\ks.length=ys.length/\(∀(i:Nat) (y:V) (k:List Str),ys[i]?=some y->ks[i]?=some k->AU G.K H y k)/\
  ∀p,H p=none->Q (.ref p) (upd H p (.lst ((xO (λi j=>pS (ks.getD i []) (ks.getD j [])) ys.length).map λi=>ys.getD i V.non)))):=by rw[<-hK];exact Cn hu
end
theorem Kq{a b c:Str}(h:ltS a b=true)(h':ltS b c=true):ltS a c=true:=aH (List.lt_trans (bh h) (bh h'))
theorem Gm{a b:Str}(e:a≠b)(h:ltS a b=false):ltS b a=true:=by have h1:b.cps.toList<=a.cps.toList:=of_decide_eq_false h;refine aH (Decidable.byContradiction λz=>e ?_);have h2:a.cps.toList<=b.cps.toList:=z;have q:=lu h2 h1;cases a with|mk a=>cases b with|mk b=>cases a;cases b;simp only at q;rw[q]
theorem Gp(a:Str):ltS a a=false:=aA (List.lt_irrefl _)
theorem Fk(p q p' q':Str):pS [p,q] [p',q']=if p=p' then (if q=q' then false else ltS q q')else ltS p p':=by unfold pS;unfold pS;unfold pS;rfl
variable{p' q':Str}
theorem Kr{p q p2 q2:Str}(h:pS [p,q] [p',q']=true)(h':pS [p',q'] [p2,q2]=true):pS [p,q] [p2,q2]=true:=by
 rw[Fk]at h h' ⊢;by_cases e1:p=p'
 ·subst e1;rw[ag rfl]at h;by_cases e2:p=p2
  ·subst e2;rw[ag rfl]at h' ⊢;split at h
   ·cases h
   ·split at h'
    ·cases h'
    ·rename_i n1 n2;have:=Kq h h';rw[af (λz=>by subst z;rw[Gp]at this;cases this)];exact this
  ·rw[af e2]at h' ⊢;exact h'
 ·rw[af e1]at h;by_cases e2:p'=p2
  ·subst e2;rw[af e1];exact h
  ·rw[af e2]at h';have:=Kq h h';rw[af (λz=>by subst z;rw[Gp]at this;cases this)];exact this
theorem Nv{p q:Str}(e:([p,q]:List Str)≠[p',q'])(h:pS [p,q] [p',q']=false):pS [p',q'] [p,q]=true:=by
 rw[Fk]at h ⊢;by_cases e1:p=p'
 ·subst e1;rw[ag rfl]at h ⊢;by_cases e2:q=q'
  ·subst e2;exact ai rfl e
  ·rw[af e2]at h;rw[af (bI e2)];exact Gm e2 h
 ·rw[af e1]at h;rw[af (bI e1)];exact Gm e1 h
theorem Nw(p q:Str):pS [p,q] [p,q]=false:=by rw[Fk,ag rfl,ag rfl]
theorem UN(nd:ks.Nodup)(h2:∀k∈ks,∃p q,k=[p,q]):Sto (λi j=>pS (ks.getD i []) (ks.getD j [])) ks.length where
 tr:=λi j k hi hj hk h h'=>by rw[bc,az hi]at h ⊢;rw[bc,az hj]at h h';rw[bc,az hk]at h' ⊢;obtain⟨p1,q1,e1⟩:=h2 _ (bP hi);obtain⟨p2,q2,e2⟩:=h2 _ (bP hj);obtain⟨p3,q3,e3⟩:=h2 _ (bP hk);simp only[iF]at h h' ⊢;rw[e1,e2]at h;rw[e2,e3]at h';rw[e1,e3];exact Kr h h'
 tot:=λi j hi hj ne h=>by
  have gi:ks.getD i []=ks[i]:=by rw[bc,az hi];rfl
  have gj:ks.getD j []=ks[j]:=by rw[bc,az hj];rfl
  rw[gi,gj]at h;rw[gi,gj];have nq:ks[i]≠ks[j]:=λz=>by
   have pw:=fW.mp nd;rcases iC i j with y|y|y
   ·exact pw i j hi hj y z
   ·exact ne y
   ·exact pw j i hj hi y z.symm
  obtain⟨p1,q1,e1⟩:=h2 _ (bP hi);obtain⟨p2,q2,e2⟩:=h2 _ (bP hj);rw[e1,e2]at h nq;rw[e1,e2];exact Nv nq h
theorem Ks(nd:ks.Nodup)(h2:∀k∈ks,∃p q,k=[p,q])(h0:0<ks.length):((xO (λi j=>pS (ks.getD i []) (ks.getD j [])) ks.length).map λi=>ks.getD i []).Pairwise λa b=>pS a b=true:=by have a:=Ko (UN nd h2) h0;have hs:=(wY h0).run (λi j=>pS (ks.getD i []) (ks.getD j [])) (dO ks.length);have sz:=nF.size hs;rw[kP,fW];intro i j hi hj hij;unfold xO at hi hj ⊢;rw[aW]at hi hj;have:=a i j hij (by omega);rw[yx,yx,cR hi,cR hj]at this;simpa using this
theorem Kt{ks':List (List Str)}(p:ks.Perm ks')(nd:ks.Nodup)(h2:∀k∈ks,∃p q,k=[p,q])(h0:0<ks.length):
  (xO (λi j=>pS (ks.getD i []) (ks.getD j [])) ks.length).map (λi=>ks.getD i [])=(xO (λi j=>pS (ks'.getD i []) (ks'.getD j [])) ks'.length).map λi=>ks'.getD i []:=by
 have nd':ks'.Nodup:=p.nodup_iff.mp nd;have h2':∀k∈ks',∃p q,k=[p,q]:=λk hk=>h2 k (p.mem_iff.mpr hk);have h0':0<ks'.length:=by rw[<-p.length_eq];exact h0
 have gr:∀l:List (List Str),(aF l.length).map (λi=>l.getD i [])=l:=λl=>by
  apply List.ext_getElem
  ·rw[ah,bO]
  ·intro i a b;rw[iK,List.getElem_range,bc,az b];rfl
 have pm:∀l:List (List Str),0<l.length->((xO (λi j=>pS (l.getD i []) (l.getD j [])) l.length).map λi=>l.getD i []).Perm l:=λl hl=>by have:=(vC (λi j=>pS (l.getD i []) (l.getD j [])) hl).map λi=>l.getD i [];rw[gr]at this;exact this
 refine jS (le:=λa b=>pS a b=true) (λa b ha hb h h'=>?_) (Ks nd h2 h0) (Ks nd' h2' h0') ((pm ks h0).trans (p.trans (pm ks' h0').symm));obtain⟨p1,q1,rfl⟩:=h2 a ((pm ks h0).mem_iff.mp ha);obtain⟨p2,q2,rfl⟩:=h2' b ((pm ks' h0').mem_iff.mp hb);have:=Kr h h';rw[Nw]at this;cases this
end L4
namespace L4
open PySem PySem.Spec PyProof.Rows L2 L3
structure Bz where
 P:aq
 w:ak
 mg:Str->Option aa
 base:Heap
 G:Bg
structure ZE(X:Cx)(B:Bz)(e:Expr)(f:FE):Prop where p:PE X e (tF B.G f)
structure ZN(X:Cx)(B:Bz)(e:Expr)(f:FA):Prop where p:PE X e (tFN B.G f)
structure ZT(X:Cx)(B:Bz)(e:Expr)(f:FT):Prop where p:PT X e (tFT B.G f)
structure ZW(X:Cx)(B:Bz)(e:Expr)(f:FT):Prop where p:PW X e (tFT B.G f)
structure ZF(X:Cx)(B:Bz)(e:List Expr)(f:FT):Prop where p:PIf X e (tFT B.G f)
structure ZA(X:Cx)(B:Bz)(e:List Expr)(f:FA):Prop where p:PA X e (tFA B.G f)
structure ZM(X:Cx)(B:Bz)(e:List Expr)(i:Nat)(f:FA):Prop where p:PA X e (we B.G i f)
structure ZS(X:Cx)(B:Bz)(e:Stmt)(f:FS):Prop where p:PS X e (tFS B.G f)
structure ZB(X:Cx)(B:Bz)(e:List Stmt)(f:FS):Prop where p:PSs X e (tFS B.G f)
structure ZI(X:Cx)(B:Bz)(tg e:Expr)(f:FA):Prop where p:PI X tg e (tFI B.G f)
structure ZO(X:Cx)(B:Bz)(e:Option Expr)(f:FO):Prop where p:PO X e (tFO B.G f)
structure ZG(X:Cx)(B:Bz)(e:Expr)(n:Nat)(f:FG):Prop where p:PG X e (tFG B.G n f)
structure ZH(X:Cx)(B:Bz)(e:List Expr)(n:Nat)(f:List D->List Sl->Option (List Sl)):Prop where p:PGs X e (Jn B.G n f)
structure ZK(X:Cx)(e:Option Expr)(i:Option Int):Prop where p:PO X e (tO i)
structure ZP(X:Cx)(B:Bz)(pos:Pos)(ks:List (Option Expr))(vs:List Expr)(l:List (Str×FE)):Prop where p:PPs X pos ks vs (J8 B.G l)
structure ZV(X:Cx)(e:Expr)(i:Nat):Prop where p:PE X e (tS i)
abbrev Gz(X:Cx)(x:Str):Prop:=X.env.kindOf x=some .globalImplicit
abbrev Dz(x:Str):Prop:=(x==("__debug__" : Str))=false
abbrev Nz(x:Str):Prop:=(decide (x≠"__name__")&&!(x==("__debug__" : Str)))=true
abbrev Sz(X:Cx)(e:Expr)(es:List Expr):Prop:=starEach (e::es) X.env=(false,eval e X.env)::starEach es X.env
abbrev S1(X:Cx)(e:Expr):Prop:=starEach [e] X.env=[(false,eval e X.env)]
abbrev Lz(X:Cx)(pos:Pos)(es:List Expr):Prop:=(backTo pos (starEach es X.env)).any (·.1)=false
abbrev Wz(X:Cx)(e o:Expr)(pos:Pos):Prop:=swapsWith e (some o) pos.line X.env=pure false
abbrev Az(X:Cx)(o:Expr)(m:Str):Prop:=attributeBase o m X.env (eval o X.env)=eval o X.env
abbrev Ez(p pos:Pos):Prop:=(p.endLine==pos.line)=true
abbrev Iz(e:Expr):Prop:=(λo i=>subscripted e false o i)=λo i=>operate [o,i] (getItem o i)
abbrev Fz(X:Cx)(e:Expr):Prop:=(λx=>foldedSetIterable e X.env x)=λx=>pure x
class Cz(X:Cx)(B:outParam Bz)(k:outParam Nat):Prop where
 P:X.prog=B.P
 w:X.w=B.w
 K:X.K=B.G.K
 mg:X.mg=B.mg
 b:X.base=B.base
 c:X.calm=true
 r:om k X.A
class Yb(B:Bz):Prop where y:Yw B.P B.w B.mg B.base B.G
class Df(B:Bz)(j:outParam Nat)(x:Str)(sp:Sp):Prop where p:∃ps,sC B.P B.w B.G.K B.mg B.base j x ps sp
class Kf(B:Bz)(j:outParam Nat)(x:Str)(c:Nat)(g:List D->Option (List Str×List D))(dds:List D):Prop where
 p:∃ps,Cb B.G B.P B.w B.mg B.base j x c ps (dds.map vD) g
 f:dds.all pA=true
class Mf(B:Bz)(j:outParam Nat)(m:Str)(g:Nat->Option (List D->Option D)):Prop where p:∀c h,g c=some h->xI B.G B.P B.w B.mg B.base j m c h
class Ff(B:Bz)(ok:Nat->Bool)(f:Str):Prop where p:∀c,ok c=true->Cls B.G.K (B.G.ca c)/\rO B.G.K (B.G.ca c) f
class Af(B:Bz)(c:Nat)(xs:outParam (List Str)):Prop where p:CF B.G.K (B.G.ca c) xs
class Nb(B:Bz)(x:Str):Prop where p:B.mg x=none
class Co(B:Bz)(x:Str)(d:D):Prop where p:vz B.G B.mg x d
class Ic(B:Bz)(x:Str)(t:Ty->Option Bool):Prop where p:∃c,E5 B.G c t/\B.mg x=some (.ref (B.G.ca c))
class Ij(B:Bz)(n:Nat):Prop where p:∀j k,j<n->k<n->B.G.ca j=B.G.ca k->j=k
class OpC(op:gS)(g:D->D->Option D):Prop where p:∀(X:Cx) (G:Bg),∃r,OpR X (binaryOp op) r/\OpD G r g
instance in1:OpC .Mod oP:=⟨λ_ _=>⟨_,OX,PH⟩⟩
instance in2:OpC .FloorDiv vR:=⟨λ_ _=>⟨_,LG,PJ⟩⟩
instance in3:OpC .Mult qZ:=⟨λ_ _=>⟨_,OW,PF⟩⟩
instance in4:OpC .Sub F4:=⟨λ_ _=>⟨_,OV,PD⟩⟩
instance in5:OpC .Pow yi:=⟨λ_ _=>⟨_,OY,PK⟩⟩
instance in6:OpC .Add nQ:=⟨λ_ _=>⟨_,OU,PB⟩⟩
instance in8:OpC .Mult DN:=⟨λ_ _=>⟨_,EX,Nk⟩⟩
class CmC(op:dP)(g:D->D->Option D):Prop where p:∀(X:Cx) (G:Bg),X.K=G.K->X.A.units+64<cLine->∃r,OpR X (compareOp op) r/\OpD G r g
instance in9:CmC .Eq (dEq false):=⟨λ_ _ h u=>⟨_,PR u h,TJ⟩⟩
instance in10:CmC .NotEq (dEq true):=⟨λ_ _ h u=>⟨_,PU u h,TL⟩⟩
instance in11:CmC .In (dIn false):=⟨λ_ _ h _=>⟨_,PV h,Og⟩⟩
instance Sw:CmC .NotIn (dIn true):=⟨λ_ _ h _=>⟨_,Hy h,Og⟩⟩
instance in13:CmC .Is wb:=⟨λ_ _ _ _=>⟨_,OZ,PM⟩⟩
instance in14:CmC .IsNot DH:=⟨λ_ _ _ _=>⟨_,LH,MM⟩⟩
instance in16:CmC .Lt AM:=⟨λ_ _ _ _=>⟨_,S0,TB⟩⟩
instance in17:CmC .LtE sj:=⟨λ_ _ _ _=>⟨_,S4,TC⟩⟩
instance in18:CmC .Gt AN:=⟨λ_ _ _ _=>⟨_,S5,TF⟩⟩
instance in19:CmC .GtE Pz:=⟨λ_ _ _ _=>⟨_,S6,TH⟩⟩
instance in20:CmC .LtE Jz:=⟨λ_ _ _ _=>⟨_,Hl,PL⟩⟩
class B1(x:Str)(g:D->Option D):Prop where p:∀(X:Cx) (G:Bg),X.K=G.K->X.calm=true->∃(id:String) (r:List V->Hp->VK->Prop),oa X (.builtin id) r/\Bj G r g/\bootBuiltins x=some (.builtin id)
instance in21:B1 "len" oB:=⟨λ_ _ h _=>⟨_,_,HA h,PX,lL⟩⟩
instance in22:B1 "all" sk:=⟨λ_ _ h c=>⟨_,_,HC c h,PZ,boot_all⟩⟩
instance in23:B1 "any" zP:=⟨λ_ _ h c=>⟨_,_,HJ c h,P9,boot_any⟩⟩
class KtC(x:Str)(T:outParam String):Prop where p:(∀(X:Cx) (G:Bg) y b,oQ T y=some b->bZ X.K (y.val G) (.type T)=some b)/\bootBuiltins x=some (.type T)
instance in24:KtC "str" "str" := ⟨λ_ _=>MU,Pv.boot_str⟩
instance in25:KtC "int" "int" := ⟨λ_ _=>Nd,Pv.boot_int⟩
instance in26:KtC "bool" "bool" := ⟨λ_ _=>J7,Pv.boot_bool⟩
instance in27:KtC "list" "list" := ⟨λ_ _=>JL,Pv.boot_list⟩
instance in28:KtC "tuple" "tuple" := ⟨λ_ _=>kit_tuple,Pv.boot_tuple⟩
theorem On{G:Bg}{H:Hp}:∀{dds:List D},dds.all pA=true->mB G H dds (dds.map vD)
 |[],_=>mV
 |d::ds,h=>by rw[eF,aL]at h;exact mW (wJ h.1 H) (On h.2)
theorem eqI{α:Sort u}{a b:α}(h:a=b):a=b:=h
def sees(X:Cx)(i:Nat)(x:Str):Bool:=decide (X.N[i]?=some x)&&(match X.env.scope.names.lookup x with|some .local=>true|some .cell=>true|some .free=>true|_=>false)&&!(x==("__debug__" : Str))&&!(x==("__classdict__" : Str))
def sets(X:Cx)(i:Nat)(x:Str):Bool:=decide X.N.Nodup&&decide (X.N[i]?=some x)&&(match X.env.scope.names.lookup x with|some .local=>true|some .cell=>X.fn x|_=>false)
variable{ft fu:FT}{id T:String}{r:List V->Hp->VK->Prop}{y:Str}{lo:Option Expr}{body:List Stmt}
section
variable{X:Cx}{B:Bz}{k j i n c0:Nat}{x m:Str}{e e' o tg it:Expr}{es:List Expr}{p p2 p3 pos apos:Pos}{f f' f2:FE}{a:FA}{g:D->D->Option D}
theorem pvI(h:sees X i x=true):PE X (.Name x p) (tS i):=by
 unfold sees at h;simp only[aL,bu,dX]at h;obtain⟨⟨⟨h1,h2⟩,h3⟩,h4⟩:=h;refine pv i h1 ?_ h3 h4;unfold Vis;split at h2
 ·rename_i e;exact .inl e
 ·rename_i e;exact .inr (.inl e)
 ·rename_i e;exact .inr (.inr e)
 ·cases h2
theorem T6(h:sees X i x=true):ZE X B (.Name x p) (cV i):=⟨EY (pvI h)⟩
theorem Qm(h:sees X i x=true):ZE X B (.Name x p) (cFz i):=⟨Tx (pvI h)⟩
theorem Nx(h:sees X i x=true):ZN X B (.Name x p) (Ju i):=⟨MH (pvI h)⟩
theorem Cp(h:sets X i x=true):X.N.Nodup/\X.N[i]?=some x/\L2.Loc X.env.scope x/\(X.fn x=true\/X.env.scope.names.lookup x=some .local):=by
 unfold sets at h;simp only[aL,bu]at h;obtain⟨⟨h1,h2⟩,h3⟩:=h;unfold L2.Loc;split at h3
 ·rename_i e;exact⟨h1,h2,.inl e,.inr e⟩
 ·rename_i e;exact⟨h1,h2,.inr e,.inl h3⟩
 ·cases h3
theorem pgI(h:sets X i x=true):PG X (.Name x p) (sr i):=by obtain⟨h1,h2,h3,h4⟩:=Cp h;exact FM h1 h2 h3 h4
theorem Qn(h:sets X i x=true)(hi:Nat.blt i n=true):ZG X B (.Name x p) n (gN i):=⟨Jo n (pgI h) (Nat.blt_eq.mp hi)⟩
theorem stW{te:TE}(h:sets X i x=true)(he:PE X e te)(hs:Wz X e (.Name x p) pos):PS X (.Assign [.Name x p] e pos) (wA te (sr i)):=by obtain⟨h1,h2,h3,h4⟩:=Cp h;exact OO h1 h2 h3 he hs h4
theorem Qo(h:sets X i x=true)(he:ZE X B e f)(hs:Wz X e (.Name x p) pos):ZS X B (.Assign [.Name x p] e pos) (mT i f):=⟨F0 (stW h he.p hs)⟩
theorem Qp(h:sets X i x=true)(he:ZN X B e a)(hs:Wz X e (.Name x p) pos):ZS X B (.Assign [.Name x p] e pos) (pz i a):=⟨Du (stW h he.p hs)⟩
theorem Qq(h:sets X i x=true)(hs:Wz X (.Dict [] [] p2) (.Name x p) pos):ZS X B (.Assign [.Name x p] (.Dict [] [] p2) pos) (zO i):=⟨JO (stW h zv hs)⟩
theorem Qr{op:gS}[O:OpC op g](ha:ZE X B e f)(hb:ZE X B e' f'):ZE X B (.BinOp e op e' pos) (c2 g f f'):=by obtain⟨r,h1,h2⟩:=O.p X B.G;exact⟨To h1 h2 ha.p hb.p⟩
theorem Qs [C:Cz X B k](ha:ZE X B e f)(hb:ZE X B e' f')(hs:Iz e'):ZE X B (.Subscript e e' pos) (c2 dIx f f'):=⟨Tq (UM C.K) TM ha.p hb.p λo i=>congrFun (congrFun hs o) i⟩
theorem Ny [C:Cz X B k](h:sees X i x=true)(hb:ZE X B e' f')(hs:Iz e'):ZE X B (.Subscript (.Name x p) e' pos) (DB i f'):=⟨Px (IR (Je B.G.K C.K) (pvI h) hb.p λo i=>congrFun (congrFun hs o) i)⟩
theorem Qt [C:Cz X B k](ha:ZE X B e f)(hb:ZE X B e' f')(hs:Iz e'):ZE X B (.Subscript e e' pos) (c2 oG f f'):=⟨MX (Dj C.r) ha.p hb.p λo i=>congrFun (congrFun hs o) i⟩
section
variable{op op':dP}{g':D->D->Option D}
theorem Qu [O:CmC op g][C:Cz X B k](ha:ZE X B e f)(hb:ZE X B e' f')(hm:behindInMarks op e'=false):ZE X B (.Compare e [op] [e'] pos) (c2 g f f'):=by obtain⟨r,h1,h2⟩:=O.p X B.G C.K C.r.units;exact⟨Pm h1 h2 ha.p hb.p hm⟩
theorem Qv [O:CmC op g][C:Cz X B k](ha:ZE X B e f)(hb:ZE X B e' f')(hm:behindInMarks op e'=false):ZT X B (.Compare e [op] [e'] pos) (cT (c2 g f f')):=by obtain⟨r,h1,h2⟩:=O.p X B.G C.K C.r.units;exact⟨Mg h1 h2 ha.p hb.p hm⟩
theorem Qw [O:CmC op g][O':CmC op' g'][C:Cz X B k](ha:ZE X B e f)(hb:ZE X B e' f')(hc:ZE X B o f2)(hm:lastMarks [op,op'] [e',o]=false):ZE X B (.Compare e [op,op'] [e',o] pos) (pW g g' f f' f2):=by obtain⟨r,h1,h2⟩:=O.p X B.G C.K C.r.units;obtain⟨r',h3,h4⟩:=O'.p X B.G C.K C.r.units;exact⟨JG h1 h3 h2 h4 ha.p hb.p hc.p hm⟩
theorem Qx [O:CmC op g][O':CmC op' g'][C:Cz X B k](ha:ZE X B e f)(hb:ZE X B e' f')(hc:ZE X B o f2)(hm:lastMarks [op,op'] [e',o]=false):ZT X B (.Compare e [op,op'] [e',o] pos) (cT (pW g g' f f' f2)):=by obtain⟨r,h1,h2⟩:=O.p X B.G C.K C.r.units;obtain⟨r',h3,h4⟩:=O'.p X B.G C.K C.r.units;exact⟨HG h1 h3 h2 h4 ha.p hb.p hc.p hm⟩
end
theorem Qy(h:ZE X B e f)(he:(λwhole=>isTrue e X.env whole)=λwhole=>(do let v<-whole;standAt e.pos;holding [v] (truthy v))):ZT X B e (cT f):=⟨Mh h.p λw=>congrFun he w⟩
theorem Qz(ha:ZT X B e ft)(hb:ZW X B (.BoolOp .Or (e'::es) pos) fu):ZT X B (.BoolOp .Or (e::e'::es) pos) (rb ft fu):=⟨PW.pt (Ji ha.p hb.p)⟩
theorem QA(ha:ZT X B e ft)(hb:ZW X B (.BoolOp .And (e'::es) pos) fu):ZT X B (.BoolOp .And (e::e'::es) pos) (qW ft fu):=⟨PW.pt (Ml ha.p hb.p)⟩
theorem QB{d:D}[C:Cz X B k][Q:Co B x d](hg:Gz X x)(hd:Dz x):ZE X B (.Name x pos) (cC d):=⟨JJ (C.mg▸Q.p) hg hd⟩
theorem QC{ok:Nat->Bool}[C:Cz X B k][Q:Ff B ok m](he:ZE X B e f)(hb:Az X e m):ZE X B (.Attribute e m pos) (c1 (mP ok m) f):=⟨Jr he.p (C.K▸Q.p) hb⟩
section
variable(hg:Gz X x)(hd:Dz x)(hs:Sz X e es)(hl:Lz X pos es)
include hg hd
theorem dz{sp:Sp}[C:Cz X B k][Q:Df B j x sp]:∃ps,sC X.prog X.w X.K X.mg X.base j x ps sp:=by rw[C.P,C.w,C.K,C.mg,C.b];exact Q.p
theorem QD{g:List D->Option (List D)}[C:Cz X B k][Q:Df B j x (spN B.G g)](hj:cB j k=true):ZN X B (.Call (.Name x p) [] [] pos) (m6 g mw):=by obtain⟨ps,q⟩:=dz hg hd (X:=X) (Q:=Q);exact⟨JH q (C.r.mono (cy.mp hj)) hg hd⟩
include hs hl
theorem QE{g:List D->Option D}[C:Cz X B k][Q:Df B j x (spF B.G g)](ha:ZA X B (e::es) a)(hj:cB j k=true):ZE X B (.Call (.Name x p) (e::es) [] pos) (mr g a):=by obtain⟨ps,q⟩:=dz hg hd (X:=X) (Q:=Q);exact⟨P3 q (C.r.mono (cy.mp hj)) ha.p hg hd hs hl⟩
theorem QF{g:List D->Option (List D)}[C:Cz X B k][Q:Df B j x (spN B.G g)](ha:ZA X B (e::es) a)(hj:cB j k=true):ZN X B (.Call (.Name x p) (e::es) [] pos) (m6 g a):=by obtain⟨ps,q⟩:=dz hg hd (X:=X) (Q:=Q);exact⟨MP q (C.r.mono (cy.mp hj)) ha.p hg hd hs hl⟩
theorem QG{g:List D->List D->Option (D×List D)}[C:Cz X B k][Q:Df B j x (spM B.G g)](hv:ZV X e i)(ha:ZA X B es a)(hj:cB j k=true):ZE X B (.Call (.Name x p) (e::es) [] pos) (nD g i a):=by obtain⟨ps,q⟩:=dz hg hd (X:=X) (Q:=Q);exact⟨MQ q (C.r.mono (cy.mp hj)) hv.p ha.p hg hd hs hl⟩
theorem QH{g:List D->List D->Option (D×List D)}[C:Cz X B k][Q:Df B j x (spL B.G g)](ha:ZM X B (e::es) i a)(hj:cB j k=true):ZE X B (.Call (.Name x p) (e::es) [] pos) (pQ g i a):=by obtain⟨ps,q⟩:=dz hg hd (X:=X) (Q:=Q);exact⟨Nj q (C.r.mono (cy.mp hj)) ha.p hg hd hs hl⟩
theorem QI{g:List D->Option (List Str×List D)}{dds:List D}[C:Cz X B k][Q:Kf B j x c0 g dds](ha:ZA X B (e::es) a)(hj:cB (j+1) k=true):ZE X B (.Call (.Name x p) (e::es) [] pos) (m9 c0 (λds=>g (ds++dds)) a):=by obtain⟨ps,q⟩:=Q.p;exact⟨MR (by rw[C.P,C.w,C.mg,C.b];exact q) (λH=>On Q.f) (C.r.mono (cy.mp hj)) ha.p C.K hg hd hs hl⟩
end
theorem mz{g:Nat->Option (List D->Option D)}[C:Cz X B k][Q:Mf B j m g]:∀c h,g c=some h->xI B.G X.prog X.w X.mg X.base j m c h:=by rw[C.P,C.w,C.mg,C.b];exact Q.p
theorem QJ{g:Nat->Option (List D->Option D)}{pl:Sem Bool}[C:Cz X B k][Q:Mf B j m g](ho:ZE X B o f)(hj:cB j k=true)
  (ht:eval (.Call (.Attribute o m apos) [] [] pos) X.env=(do
   let ov<-eval o X.env
   standAt apos.atName
   let (f,first)<-holding [ov] (getMethod ov m pl)
   callWith pos f first (backTo pos (starEach [] X.env)) (backToKw pos (keywordEach [] X.env)))):ZE X B (.Call (.Attribute o m apos) [] [] pos) (ni g m f mw):=⟨E2 mz (C.r.mono (cy.mp hj)) ho.p C.K ht⟩
theorem QK{g:Nat->Option (List D->Option D)}{pl:Sem Bool}[C:Cz X B k][Q:Mf B j m g](ho:ZE X B o f)(ha:ZA X B (e::es) a)(hj:cB j k=true)(hs:Sz X e es)(hl:Lz X pos es)
  (ht:eval (.Call (.Attribute o m apos) (e::es) [] pos) X.env=(do
   let ov<-eval o X.env
   standAt apos.atName
   let (f,first)<-holding [ov] (getMethod ov m pl)
   callWith pos f first (backTo pos (starEach (e::es) X.env)) (backToKw pos (keywordEach [] X.env)))):ZE X B (.Call (.Attribute o m apos) (e::es) [] pos) (ni g m f a):=⟨HH mz (C.r.mono (cy.mp hj)) ho.p ha.p C.K hs hl ht⟩
section
variable(hg:Gz X x)(hd:Nz x)(hs:S1 X e)
include hg hd hs
theorem cbI{t:TA}[C:Cz X B k][N:Nb B x](hc:oa X (.builtin id) r)(hv:bootBuiltins x=some (.builtin id))(ha:PA X [e] t):PE X (.Call (.Name x p) [e] [] pos) (tCB r t):=by simp only[aL,bu,dX]at hd;exact zq hc hg (C.mg▸N.p) hv ha hd.1 hd.2 hs rfl
theorem ctI{t:TA}[C:Cz X B k][N:Nb B x](hc:oa X (.type T) r)(hv:bootBuiltins x=some (.type T))(ha:PA X [e] t):PE X (.Call (.Name x p) [e] [] pos) (tCB r t):=by simp only[aL,bu,dX]at hd;exact G4 hc hg (C.mg▸N.p) hv ha hd.1 hd.2 hs rfl
theorem QL{g:D->Option D}[Q:B1 x g][C:Cz X B k][N:Nb B x](ha:ZE X B e f):ZE X B (.Call (.Name x p) [e] [] pos) (c1 g f):=by obtain⟨id,r,h1,h2,h3⟩:=Q.p X B.G C.K C.c;exact⟨Oh h2 (cbI hg hd hs h1 h3 (qe ha.p rp hs))⟩
end
section
variable(hs:S1 X e)
include hs
theorem QM [C:Cz X B k][N:Nb B "list"](hg:Gz X "list")(ha:ZE X B e f):ZN X B (.Call (.Name "list" p) [e] [] pos) (uS f):=⟨JD (ctI hg (by decide) hs (E1 C.K) Pv.boot_list (qe ha.p rp hs))⟩
theorem QN [C:Cz X B k][N:Nb B "tuple"](hg:Gz X "tuple")(ha:ZE X B e f):ZE X B (.Call (.Name "tuple" p) [e] [] pos) (uC f):=⟨JE (ctI hg (by decide) hs (HE C.K) Pv.boot_tuple (qe ha.p rp hs))⟩
theorem QO [C:Cz X B k][N:Nb B "range"](hg:Gz X "range")(ha:ZE X B e f):ZI X B tg (.Call (.Name "range" p) [e] [] pos) (iR1 f):=⟨EZ (GY hg (C.mg▸N.p) (qe ha.p rp hs) hs)⟩
end
section
variable(hi:Gz X "isinstance")(hg:Gz X x)(hs:starEach [e,.Name x p2] X.env=[(false,eval e X.env),(false,eval (.Name x p2) X.env)])(hs':S1 X (.Name x p2))
include hi hg hs hs'
theorem QP [Q:KtC x T][C:Cz X B k][N:Nb B "isinstance"][N':Nb B x](ha:ZE X B e f)(hd:Nz x):ZE X B (.Call (.Name "isinstance" p) [e,.Name x p2] [] pos) (c1 (qg (oQ T)) f):=by
 simp only[aL,bu,dX]at hd;refine⟨F8 (c:=.b T) (zq (Bk (.b T) (Q.p.1 X B.G) JK C.K) hi (C.mg▸N.p) boot_isinstance (oH ha.p (oH (Lx (v:=.ty T) hg (C.mg▸N'.p) Q.p.2 rfl hd.1 hd.2) rP ?_) ?_) (by decide) (by decide) ?_ ?_)⟩
 ·exact hs'
 ·rw[hs,hs']
 ·rw[hs,hs']
 ·rw[hs'];rfl
theorem QQ{t:Ty->Option Bool}[Q:Ic B x t][C:Cz X B k][N:Nb B "isinstance"](ha:ZE X B e f)(hd:Dz x):ZE X B (.Call (.Name "isinstance" p) [e,.Name x p2] [] pos) (c1 (qg t) f):=by
 obtain⟨c,q1,q2⟩:=Q.p;refine⟨F8 (c:=.c c) (zq (E6 q1 C.K) hi (C.mg▸N.p) boot_isinstance (oH ha.p (oH (wz (v:=.ref (B.G.ca c)) hg (C.mg▸q2) rfl hd) rP ?_) ?_) (by decide) (by decide) ?_ ?_)⟩
 ·exact hs'
 ·rw[hs,hs']
 ·rw[hs,hs']
 ·rw[hs'];rfl
end
section
variable(hb:Az X o m)(hl:Ez apos pos)(hs:S1 X e)
include hb hl hs
theorem bmI{r:V->List V->Hp->VK->Prop}{to:TE}{t:TA}[C:Cz X B k](pa:jE T)(slot:Slot T m id)(hty:typeOf (.builtin id)=pure (.type "method_descriptor"))(hm:MtR X id r)(ho:PE X o to)(ha:PA X [e] t):PE X (.Call (.Attribute o m apos) [e] [] pos) (tBM B.G.K T r to t):=
 Jf B.G.K pa slot hty hm ho ha hb (by rw[hs];rfl) hl hs rfl C.K
end
section
variable(h:sees X i x=true)(hb:Az X (.Name x p) m)(hl:Ez apos pos)(hs:S1 X e)
include h hb hl hs
theorem QR [C:Cz X B k](hm:m="append")(ha:ZE X B e f):ZE X B (.Call (.Attribute (.Name x p) m apos) [e] [] pos) (tY i f):=by subst hm;exact⟨Hv (bmI hb hl hs gh ip kF xA (pvI h) (qe ha.p rp hs))⟩
theorem QS [C:Cz X B k](hm:m="extend")(ha:ZE X B e f):ZE X B (.Call (.Attribute (.Name x p) m apos) [e] [] pos) (yn i f):=by subst hm;exact⟨E8 (bmI hb hl hs gh iq F.type_list_extend (C.K▸E7) (pvI h) (oH ha.p rP hs))⟩
end
theorem QT [C:Cz X B k](h:sees X i x=true)(hb:Az X (.Name x p) "pop")(hl:Ez apos pos)(hs:S1 X (.Constant (.int 0) j p2)):ZE X B (.Call (.Attribute (.Name x p) "pop" apos) [.Constant (.int 0) j p2] [] pos) (F2 i):=⟨MG (bmI hb hl hs gh lA F.type_list_pop IU (pvI h) (oH EE rP hs))⟩
theorem QU [C:Cz X B k](ha:ZE X B e f)(hb:ZE X B e' f')(h1:Az X e "get")(h2:Ez apos pos)(h3:S1 X e'):ZE X B (.Call (.Attribute e "get" apos) [e'] [] pos) (c2 Bl f f'):=⟨JN (Dj C.r) ha.p hb.p ⟨h1,by rw[h3];rfl,h2,by rw[h3];rfl⟩⟩
theorem QV{xs:List Str}[C:Cz X B k][Q:Af B c0 xs](hx:xs.contains m=true)(h:sees X i x=true)(hv:ZE X B e f)(hs:Wz X e (.Attribute (.Name x p) m apos) pos):ZS X B (.Assign [.Attribute (.Name x p) m apos] e pos) (nh c0 i m f):=⟨MF (O1 (pvI h) hv.p hs) (by obtain⟨i,_,e⟩:=fj (hU.mp hx);exact C.K▸Q.p.at i (bx.mpr ⟨_,e⟩))⟩
theorem QW [C:Cz X B k](h:sees X i x=true)(hk:ZE X B e' f')(hv:ZE X B e f)(hs:Wz X e (.Subscript (.Name x p) e' apos) pos):ZS X B (.Assign [.Subscript (.Name x p) e' apos] e pos) (pB i f' f):=⟨JP (LZ (Dj C.r) (pvI h) hk.p hv.p hs)⟩
theorem QX{n:Nat}[Q:Ij B n](h:ZE X B e f):ZE X B e (sD n f):=⟨Na Q.p h.p⟩
section
variable{ks:List (Option Expr)}{kfs:List (Str×FE)}
theorem QY:ZP X B pos [] [] []:=⟨L0⟩
theorem QZ(hv:ZE X B e f)(hr:ZP X B pos ks es kfs):ZP X B pos (some (.Constant (.str y) j p)::ks) (e::es) ((y,f)::kfs):=⟨IZ Ir hv.p hr.p⟩
theorem Q0(h:ZP X B pos ks es kfs)(h1:(ks.all (·.isSome)&&decide (ks.length=es.length)&&!ks.isEmpty&&decide (ks.length<=15)&&decide (kfs.map λq=>(Sum.inr q.1:Key)).Nodup&&decide (kfs.length<=15))=true):ZE X B (.Dict ks es pos) (qk kfs):=by simp only[aL,bu,dX]at h1;obtain⟨⟨⟨⟨⟨a1,a2⟩,a3⟩,a4⟩,a5⟩,a6⟩:=h1;exact⟨Gf (L1 h.p a1 a2 (λz=>by rw[z]at a3;cases a3) a4) a5 a6⟩
end
theorem Q1{hi:Option Expr}{fl fh:FO}[C:Cz X B k](he:ZE X B e f)(hl:ZO X B lo fl)(hh:ZO X B hi fh):ZN X B (.Subscript e (.Slice lo hi none p) pos) (uM f fl fh):=⟨E3 (Dc (TN C.K) he.p hl.p hh.p)⟩
theorem Q2{hi:Option Expr}{l h:Option Int}[C:Cz X B k](he:ZE X B e f)(hl:ZK X lo l)(hh:ZK X hi h):ZN X B (.Subscript e (.Slice lo hi none p) pos) (cSl f l h):=⟨HF (Dc (TN C.K) he.p hl.p hh.p)⟩
theorem Q3{y:Int}:ZK X (some (.Constant (.int y) j pos)) (some y):=⟨JF⟩
theorem Q4 [C:Cz X B k](h:ZE X B e f):ZI X B tg e (iL f):=⟨DE (Do B.G.K h.p C.K)⟩
theorem Q5 [C:Cz X B k](h:ZE X B e f):ZI X B tg e (iT f):=⟨MK (Ma B.G.K h.p C.K)⟩
theorem Q6(h:ZE X B e f):ZI X B tg e (iD f):=⟨JX (M7 h.p)⟩
theorem Q7(h:ZE X B e f):ZI X B tg e (iS f):=⟨MY (Pf h.p)⟩
section
variable(hg:Gz X "zip")(hs:starEach [e,e'] X.env=[(false,eval e X.env),(false,eval e' X.env)])(hs2:S1 X e')
include hg hs hs2
theorem Q8 [C:Cz X B k][N:Nb B "zip"](ha:ZA X B [e,e'] a):ZI X B (.Tuple es i p2) (.Call (.Name "zip" p) [e,e'] [] pos) (iZ a):=⟨M9 (Qh hg (C.mg▸N.p) ha.p hs hs2)⟩
end
section
variable{gg:FG}{gs:List D->List Sl->Option (List Sl)}
theorem NA:ZH X B [] n qX:=⟨Mr LB⟩
theorem NB(h1:ZG X B e n gg)(h2:ZH X B es n gs)(hs:(assignEach (e::es) X.env).map (·.2)=assign e X.env::(assignEach es X.env).map (·.2)):ZH X B (e::es) n (mY gg gs):=⟨Jp (Iw h1.p h2.p hs)⟩
theorem NC{n' k':Nat}[C:Cz X B k](h:ZH X B es n gs)(hn:(assignEach es X.env).length=n')(ht:(assignEach es X.env).findIdx? (·.1)=none):ZG X B (.Tuple es k' pos) n (gT gs n'):=⟨Ms (Mb B.G.K C.c h.p hn ht C.K)⟩
end
def tgN:Expr->List Str
 |.Name x _=>[x]
 |.Tuple es _ _=>es.filterMap λe=>match e with|.Name x _=>some x|_=>none
 |_=>[]
def cpN(X:Cx)(tg:Expr)(cap:List Nat):List Str:=tgN tg++cap.map λj=>X.N.getD j ""
instance inCz [C:Cz X B k]{N':List Str}{sc:bV}{cl:List (Str×Addr)}{A:Addr}{fp:List Addr}{s:ab}{H:Hp}:Cz (oo X N' sc cl A fp s H) B k:=⟨C.P,C.w,C.K,C.mg,C.b,C.c,C.r⟩
def Q9(X:Cx)(N':List Str)(sc:bV)(n:Nat)(cap:List Nat):Bool:=decide cap.Nodup&&decide (sc.kind=.function)&&(sc.names.all λy=>y.2 != .cell)&&(sc.names.all λy=>y.2 != .local||sc.names.lookup y.1==some .local)&&(sc.names.all λy=>y.2 != .free||(X.env.kindOf y.1==some .cell||X.env.kindOf y.1==some .free))&&decide (N'.length=n+cap.length)&&decide ((N'.drop n).map some=cap.map λj=>X.N[j]?)&&((N'.drop n).all λx=>sc.names.lookup x==some .free)
section
variable{sc:bV}{cap:List Nat}{ifs:List Expr}{gg:FG}{ft:FT}{s:FA}
 (h0:Q9 X (cpN X tg cap) sc n cap=true) (hs:Fz X it) (hi:ZI X B tg it s)
 (h1:∀(cl:List (Str×Addr)) (A:Addr) (fp:List Addr) (s:ab) (H:Hp),ZG (oo X (cpN X tg cap) sc cl A fp s H) B tg n gg)
 (h2:∀(cl:List (Str×Addr)) (A:Addr) (fp:List Addr) (s:ab) (H:Hp),ZF (oo X (cpN X tg cap) sc cl A fp s H) B ifs ft)
 (h3:∀(cl:List (Str×Addr)) (A:Addr) (fp:List Addr) (s:ab) (H:Hp),ZE (oo X (cpN X tg cap) sc cl A fp s H) B e f)
include h0 hs hi h1 h2 h3
theorem Rb [C:Cz X B k]:ZN X B (.ListComp e [⟨tg,it,ifs,0⟩] sc pos) (mU n cap s gg ft f):=by unfold Q9 at h0;simp only[aL,bu]at h0;obtain⟨⟨⟨⟨⟨⟨⟨a1,a2⟩,a3⟩,a4⟩,a5⟩,a6⟩,a7⟩,a8⟩:=h0;exact⟨Jx a1 (L9 (N':=cpN X tg cap) C.c hi.p (λcl A fp s H=>⟨(h1 cl A fp s H).p,(h2 cl A fp s H).p,(h3 cl A fp s H).p⟩) a2 a3 a4 a5 a6 a7 a8 λx=>congrFun hs x)⟩
theorem cpW [C:Cz X B k](h:sets X i x=true)(hw:swapsWith (.ListComp e [⟨tg,it,ifs,0⟩] sc pos) (some (.Name x p)) apos.line X.env=pure true):PS X (.Assign [.Name x p] (.ListComp e [⟨tg,it,ifs,0⟩] sc pos) apos) (wA (yg (tFI B.G s) (tFG B.G n gg) (tFT B.G ft) (tF B.G f) n cap) (sr i))/\cap.Nodup:=by unfold Q9 at h0;simp only[aL,bu]at h0;obtain⟨⟨⟨⟨⟨⟨⟨a1,a2⟩,a3⟩,a4⟩,a5⟩,a6⟩,a7⟩,a8⟩:=h0;obtain⟨b1,b2,b3,b4⟩:=Cp h;exact⟨MV (N':=cpN X tg cap) C.c b1 b2 b3 hi.p (λcl A fp s H=>⟨(h1 cl A fp s H).p,(h2 cl A fp s H).p,(h3 cl A fp s H).p⟩) a2 a3 a4 a5 a6 a7 a8 (λx=>congrFun hs x) hw b4,a1⟩
theorem Re [C:Cz X B k](h:sets X i x=true)(hw:swapsWith (.ListComp e [⟨tg,it,ifs,0⟩] sc pos) (some (.Name x p)) apos.line X.env=pure true):ZS X B (.Assign [.Name x p] (.ListComp e [⟨tg,it,ifs,0⟩] sc pos) apos) (mT i (cL (mU n cap s gg ft f))):=by have z:=cpW (k:=k) h0 hs hi h1 h2 h3 h hw;exact⟨JM z.2 z.1⟩
theorem Rf [C:Cz X B k](h:sets X i x=true)(hw:swapsWith (.ListComp e [⟨tg,it,ifs,0⟩] sc pos) (some (.Name x p)) apos.line X.env=pure true):ZS X B (.Assign [.Name x p] (.ListComp e [⟨tg,it,ifs,0⟩] sc pos) apos) (pz i (mU n cap s gg ft f)):=by have z:=cpW (k:=k) h0 hs hi h1 h2 h3 h hw;exact⟨HI z.2 z.1⟩
end
section
variable{st:Stmt}{sts:List Stmt}{fs fs':FS}{ft:FT}{a':FA}{z1:Nat}
theorem T7(ha:ZE X B e f)(hr:ZA X B es a)(hs:Sz X e es):ZA X B (e::es) (mi f a):=⟨qe ha.p hr.p hs⟩
theorem T8:ZA X B [] mw:=⟨rp⟩
theorem Rg(ha:ZE X B e f)(hr:ZM X B es i a)(hs:Sz X e es):ZM X B (e::es) i (mi f a):=⟨HQ ha.p hr.p hs⟩
theorem Rh(h:sees X i x=true)(hs:S1 X (.Name x p)):ZM X B [.Name x p] i mw:=⟨J9 (pvI h) hs⟩
theorem Rj(h:sees X i x=true):ZV X (.Name x p) i:=⟨pvI h⟩
theorem Rk(h:ZN X B e a):ZE X B e (cL a):=⟨Pt h.p⟩
theorem T9:ZE X B (.Constant (.str y) j pos) (cC (.str y)):=⟨Pk⟩
theorem Ua{y:Int}:ZE X B (.Constant (.int y) j pos) (cC (.int y)):=⟨Pj⟩
theorem Ub{y:Bool}:ZE X B (.Constant (.bool y) j pos) (cC (.bl y)):=⟨Tn⟩
theorem Uc:ZE X B (.Constant .none j pos) (cC .non):=⟨Pl⟩
theorem Ku(h1:ZS X B st fs)(h2:ZB X B sts fs'):ZB X B (st::sts) (mx fs fs'):=⟨Jk h1.p h2.p⟩
theorem Ud(h1:ZS X B st fs):ZB X B [st] fs:=⟨Mp h1.p⟩
theorem Ue:ZB X B [] m3:=⟨Mo⟩
theorem Rl(h:ZE X B e f):ZS X B (.Return (some e) pos) (mX f):=⟨Mq h.p⟩
theorem Rm(h:ZN X B e a):ZS X B (.Return (some e) pos) (oY a):=⟨Jl h.p⟩
theorem Ro(h:ZE X B e f)(hs:swapsWith e none pos.line X.env=pure false):ZS X B (.Expr e pos) (m5 f):=⟨Jm h.p hs⟩
theorem Rp(h:ZT X B e ft)(h1:ZB X B sts fs){sts':List Stmt}(h2:ZB X B sts' fs'):ZS X B (.If e sts sts' pos) (sIf ft fs fs'):=⟨Pw h.p h1.p h2.p⟩
theorem Rq:ZS X B st P5:=⟨MS⟩
theorem Rr:ZE X B e zQ:=⟨JQ⟩
theorem Rt(h:ZA X B es a):ZN X B (.List es pos) (mK a):=⟨Mm h.p⟩
theorem Ru(h:ZA X B es a):ZE X B (.Tuple es z1 pos) (nz a):=⟨Pr h.p⟩
theorem Rv(ha:ZE X B e f)(hb:ZE X B e' f'):ZN X B (.BinOp e .Add e' pos) (pb f f'):=⟨MN ha.p hb.p⟩
theorem Rx [C:Cz X B k](ha:ZE X B e f)(hb:ZE X B e' f'):ZE X B (.BinOp e .Add e' pos) (ym f f'):=⟨MZ ha.p hb.p C.K⟩
theorem Ry(ha:ZE X B e f)(hb:ZE X B (.BoolOp .And (e'::es) pos) f'):ZE X B (.BoolOp .And (e::e'::es) pos) (pR f f'):=⟨Pp ha.p hb.p⟩
theorem RA(ha:ZE X B e f)(hb:ZE X B (.BoolOp .Or (e'::es) pos) f'):ZE X B (.BoolOp .Or (e::e'::es) pos) (cOr f f'):=⟨Ts ha.p hb.p⟩
theorem RB{op}(ha:ZE X B e f):ZE X B (.BoolOp op [e] pos) f:=⟨Po ha.p⟩
theorem RD(ha:ZE X B e f):ZE X B (.UnaryOp .Not e pos) (B8 f):=⟨Pq ha.p⟩
theorem RE(ha:ZT X B e ft):ZT X B (.UnaryOp .Not e pos) (sA ft):=⟨Mi ha.p⟩
theorem RF(h:ZT X B o ft)(ha:ZE X B e f)(hb:ZE X B e' f'):ZE X B (.IfExp o e e' pos) (cIf ft f f'):=⟨Tt h.p ha.p hb.p⟩
theorem Ug(h:ZT X B e ft):ZF X B [e] ft:=⟨L8 h.p⟩
theorem Uh:ZF X B [] og:=⟨Jy⟩
theorem RG(h:ZE X B e f):ZE X B e (zL f):=⟨P0 h.p⟩
theorem RH(h:ZT X B e ft):ZT X B e (yj ft):=⟨MO h.p⟩
theorem RI(h:ZE X B e f):ZO X B (some e) (oAt f):=⟨Qb h.p⟩
theorem RJ:ZO X B none oNo:=⟨Qa⟩
theorem RK(ha:ZT X B e ft)(hb:ZW X B (.BoolOp .Or (e'::es) pos) fu):ZW X B (.BoolOp .Or (e::e'::es) pos) (rb ft fu):=⟨Ji ha.p hb.p⟩
theorem RM(h:ZT X B e ft):ZW X B (.BoolOp .Or [e] pos) ft:=⟨Mj h.p⟩
theorem RN(h:ZT X B e ft):ZW X B (.BoolOp .And [e] pos) ft:=⟨Jh h.p⟩
end
theorem RO{s:FA}{gg:FG}{b:FS}[C:Cz X B k](hp:gR (model X.prog X.w) X.A X.env X.xe)(hn:X.N.length=n)(hi:ZI X B tg it s)(hg:ZG X B tg n gg)(hb:ZB X B body b)(hs:Fz X it):ZS X B (.For tg it body [] pos) (rq s gg b):=⟨ML (ID hp C.c hi.p hg.p hb.p λx=>congrFun hs x)⟩
theorem RP{b:FS}(hp:gR (model X.prog X.w) X.A X.env X.xe)(hc:ZT X B e ft)(hb:ZB X B body b):ZS X B (.While e body [] pos) (whL ft b n):=⟨Hw n (IA hp hc.p hb.p)⟩
end
end L4
namespace L4
open PySem PySem.Spec PyProof.Rows L2 L3
open PySem.W (fnOf)
def nmO(st:Stmt):List Str:=(mM st).names.filterMap λy=>match y.2 with|.local=>some y.1|.cell=>some y.1|_=>none
def psO(st:Stmt):List Str:=(sv st).args.map (·.arg)
def okO(N ps:List Str)(st:Stmt)(np n:Nat):Bool:=decide ((mM st).kind=.function)&&(mM st).isCoroutine==false&&(mM st).isGenerator==false&&decide N.Nodup&&decide (N.take ps.length=ps)&&(ps.all λx=>match (mM st).names.lookup x with|some .local=>true|some .cell=>true|_=>false)&&((mM st).names.all λy=>y.2 != .free)&&decide (ps.length=np)&&decide (N.length=n)
theorem okk{N ps:List Str}{st:Stmt}{np n:Nat}(h:okO N ps st np n=true):oA N ps (mM st)/\ps.length=np/\N.length=n:=by
 unfold okO at h;simp only[aL,bu,beq_iff_eq]at h;obtain⟨⟨⟨⟨⟨⟨⟨⟨h1,h2⟩,h3⟩,h4⟩,h5⟩,h6⟩,h7⟩,h8⟩,h9⟩:=h;refine⟨⟨h1,h2,h3,h4,h5,λx hx=>?_,λy hy e=>?_⟩,h8,h9⟩
 ·have z:=aV.mp h6 x hx;split at z
  ·rename_i e;exact .inl e
  ·rename_i e;exact .inr e
  ·cases z
 ·have z:=aV.mp h7 y hy;rw[e]at z;exact ai z (by decide)
section
variable{B:Bz}[Y:Yb B]{x m qual:Str}{st s0:Stmt}{l:List Stmt}{k c np n:Nat}{b:FS}{p:Str}{ps xs:List Str}{N:List Str}
abbrev Bdz(B:Bz)(N:List Str)(qual:Str)(st:Stmt)(l:List Stmt)(k:Nat)(b:FS):Prop:=∀{f:Addr} {cdv:aa} {A:ar} {outer:List Env} {s:ab} {H:Hp} {E:XK} [Cz (wK B.P B.w B.G.K B.mg B.base N qual st f cdv A outer s H E) B k],ZB (wK B.P B.w B.G.K B.mg B.base N qual st f cdv A outer s H E) B l b
omit Y in
theorem Bdz.ok(h:Bdz B N qual st l k b)(hl:nu st=l):Bdy B.P B.w B.G.K B.mg B.base N qual st k (tFS B.G b):=λf cdv A outer s H E hr=>by subst hl;exact(@h f cdv A outer s H E ⟨rfl,rfl,rfl,rfl,rfl,rfl,hr⟩).p
theorem gF4{g:List D->Option D}(hg:g=fnD np n b)(q:GD B.G.K x st)(hl:nu st=s0::l)(body:Bdz B (nmO st) x st (s0::l) k b)(S:okO (nmO st) (psO st) st np n=true:=by kernel_rfl)(bd:Bds x x st (psO st):=by (repeat intro _);rfl):Df B (k+1) x (spF B.G g):=
 ⟨_,gF hg Y.y q (okk S).1 (body.ok hl) (okk S).2.1 (okk S).2.2 bd⟩
theorem gF5(N:List Str){g:List D->Option D}(hg:g=fnD np n b)(q:GD B.G.K x st)(hl:nu st=s0::l)(body:Bdz B N x st (s0::l) k b)(S:okO N (psO st) st np n=true:=by kernel_rfl)(bd:Bds x x st (psO st):=by (repeat intro _);rfl):Df B (k+1) x (spF B.G g):=
 ⟨_,gF hg Y.y q (okk S).1 (body.ok hl) (okk S).2.1 (okk S).2.2 bd⟩
theorem gN4{g:List D->Option (List D)}(hg:g=fnN np n b)(q:GD B.G.K x st)(hl:nu st=s0::l)(body:Bdz B (nmO st) x st (s0::l) k b)(S:okO (nmO st) (psO st) st np n=true:=by kernel_rfl)(bd:Bds x x st (psO st):=by (repeat intro _);rfl):Df B (k+1) x (spN B.G g):=
 ⟨_,gN' hg Y.y q (okk S).1 (body.ok hl) (okk S).2.1 (okk S).2.2 bd⟩
theorem gL4{g:List D->List D->Option (D×List D)}(hg:g=fnL np n b)(q:GD B.G.K x st)(hl:nu st=s0::l)(body:Bdz B (nmO st) x st (s0::l) k b)(S:okO (nmO st) (psO st) st (np+1) n=true:=by kernel_rfl)(bd:Bds x x st (psO st):=by (repeat intro _);rfl):Df B (k+1) x (spL B.G g):=
 ⟨_,gL hg Y.y q (okk S).1 (body.ok hl) (okk S).2.1 (okk S).2.2 bd⟩
theorem gM4{g:List D->List D->Option (D×List D)}(hg:g=fnM np n b)(q:GD B.G.K x st)(hl:nu st=s0::l)(hp:psO st=p::ps)(body:Bdz B (nmO st) x st (s0::l) k b)(S:okO (nmO st) (p::ps) st (np+1) n=true:=by kernel_rfl)(bd:Bds x x st (p::ps):=by (repeat intro _);rfl):Df B (k+1) x (spM B.G g):=
 ⟨_,gM hg Y.y q (okk S).1 (body.ok hl) (fL (okk S).2.1) (okk S).2.2 bd⟩
theorem hF4{g:List D->Option D}(C:CF B.G.K (B.G.ca c) xs)(hg:g=fnD np n b)(q:GM B.G.K (B.G.ca c) m qual st)(hl:nu st=s0::l)(body:Bdz B (nmO st) qual st (s0::l) k b)(S:okO (nmO st) (psO st) st np n=true:=by kernel_rfl)(bd:Bds m qual st (psO st):=by (repeat intro _);rfl):xI B.G B.P B.w B.mg B.base (k+1) m c g:=by obtain⟨f,fd,a,i,F⟩:=q;exact⟨f,fd,_,C.ci.cl,⟨a,i,F.kp⟩,bd.ok F,JI hg (okk S).2.1 (okk S).2.2 F (okk S).1 (body.ok hl f)⟩
theorem gI4{g:List D->Option (List Str×List D)}(C:CF B.G.K (B.G.ca c) xs)(a:W.nsIn B.G.K mainGlobals x=some (some (.ref (B.G.ca c))))(hg:g=fnI c np n b)(q:GM B.G.K (B.G.ca c) "__init__" qual st)(hl:nu st=s0::l)(hp:psO st=p::ps)(body:Bdz B (nmO st) qual st (s0::l) k b)(S:okO (nmO st) (p::ps) st (np+1) n=true:=by kernel_rfl)(bd:Bds "__init__" qual st (p::ps):=by (repeat intro _);rfl):Kf B (k+1) x c g []:=
 ⟨⟨_,gI hg Y.y C a q (okk S).1 (body.ok hl) (fL (okk S).2.1) (okk S).2.2 bd⟩,rfl⟩
theorem gJ4{g:List D->Option (List Str×List D)}{dds:List D}(C:CF B.G.K (B.G.ca c) xs)(a:W.nsIn B.G.K mainGlobals x=some (some (.ref (B.G.ca c))))(hg:g=fnI c np n b)(q:GJ B.G.K (B.G.ca c) qual st (dds.map vD))(hl:nu st=s0::l)(hp:psO st=p::ps)(body:Bdz B (nmO st) qual st (s0::l) k b)(j:Nat)(S:okO (nmO st) (p::ps) st (np+1) n=true:=by kernel_rfl)(hf:dds.all pA=true:=by rfl)
  (bd:Fi (dds.map vD).length λdl=>Fi ((p::ps).length - ((dds.map vD).drop j).length) λus=>∀(T:Addr) (kV doc pm:aa) (an:Option Addr) (cdv ct:aa),∃k,bindArgs (fnOf "__init__" qual (sv st) (nu st) (mM st) (.ref T) kV doc pm an cdv ct) ⟨us,[]⟩=seqItems? (.ref T)>>=k/\k (some dl.toArray)=pure ((p::ps).zip (us++dl.drop j)):=by (repeat intro _);exact⟨_,rfl,rfl⟩):Kf B (k+1) x c g (dds.drop j):=
 ⟨⟨_,by rw[eG];exact gJ hg Y.y C a q (okk S).1 (body.ok hl) j (fL (okk S).2.1) (okk S).2.2 bd⟩,by
  rw[aV]at hf ⊢;exact λd h=>hf d (kh h)⟩
theorem ND(n:Nat)(ca:Nat->Addr):∀k,k<n->((aF n).map ca).getD k 0=ca k:=λk h=>by rw[bc,aK,ko h];rfl
theorem UO{n:Nat}{ca:Nat->Addr}(h:decide ((aF n).map ca).Nodup=true):∀j k,j<n->k<n->ca j=ca k->j=k:=λj k hj hk e=>by rw[<-ND n ca j hj,<- ND n ca k hk]at e;exact Ql (bh h) (by simpa using hj) (by simpa using hk) e
def HX:Nat->(Nat->Prop)->Prop
 |0,_=>True
 |n+1,Q=>Q 0/\HX n λk=>Q (k+1)
theorem HX.at:∀{n:Nat} {Q:Nat->Prop},HX n Q->∀k,k<n->Q k
 |_+1,_,h,0,_=>h.1
 |_+1,_,h,k+1,hk=>HX.at (Q:=λk=>_) h.2 k (Nat.lt_of_succ_lt_succ hk)
end
section
variable{X:Cx}{B:Bz}{k j i n:Nat}{x y:Str}{e e' tg:Expr}{es:List Expr}{p p2 p3 pos apos:Pos}{f f':FE}{a:FA}{st:Stmt}{sts:List Stmt}{fs fs':FS}{ft:FT}
theorem RQ [C:Cz X B k](ha:ZE X B e f)(hb:ZE X B e' f')(hm:behindInMarks .NotIn e'=false):ZT X B (.Compare e [.NotIn] [e'] pos) (cT (c2 (E4 true) f f')):=⟨Kc (Dj C.r) ha.p hb.p hm⟩
theorem RR{e2:Expr}{f2:FE}[C:Cz X B k](ha:ZE X B e f)(hb:ZE X B e' f')(hc:ZE X B e2 f2)(h1:Az X e "get")(h2:Ez apos pos)(h3:starEach [e',e2] X.env=[(false,eval e' X.env),(false,eval e2 X.env)]):ZE X B (.Call (.Attribute e "get" apos) [e',e2] [] pos) (vS f f' f2):=⟨JR (Dj C.r) ha.p hb.p hc.p ⟨h1,by rw[h3];rfl,h2,by rw[h3];rfl⟩⟩
theorem RS{gg:FG}(hn:X.N.length=n)(he:ZE X B e f)(hg:ZG X B tg n gg)(hs:swapsWithSole [tg] e pos.line X.env=pure false)(hw:swappedStores [tg] e X.env=pure none)(h1:(assignEach [tg] X.env).map (·.2)=[assign tg X.env]):ZS X B (.Assign [tg] e pos) (Dt f gg):=⟨Mt (ON he.p hg.p hs hw h1)⟩
theorem RT [C:Cz X B k][N:Nb B "int"](hg:Gz X "int")(hs:S1 X e)(ha:ZE X B e f):ZE X B (.Call (.Name "int" p) [e] [] pos) (c1 HB f):=⟨Oh PY (ctI hg (by decide) hs G0 Pv.boot_int (qe ha.p rp hs))⟩
end
end L4
namespace L4
open PySem PySem.Spec PyProof.Rows L2 L3
variable{pos:Pos}
section
variable{X:Cx}{G:Bg}
theorem Kv:PE X (.Dict [] [] pos) (I0 []):=PE.weak zv λσ H Q hh p e=>by
 obtain⟨_,kvs,e1,_,q⟩:=hh p e;cases kvs with
 |nil=>
  have:upd (upd H p (.dK [])) p (.dK (uO [] []))=upd H p (.dK []):=by
   funext a
   unfold upd;split<;>rfl
  rw[this]at q;exact q
 |cons _ _=>cases e1
theorem Kw:PE X (.Dict [] [] pos) (tF G (qk [])):=Gf Kv fE (aY _)
end
theorem RU{X:Cx}{B:Bz}:ZE X B (.Dict [] [] pos) (qk []):=⟨Kw⟩
theorem sub_dict_dict:isSubtype (.type "dict") (.type "dict")=pure true:=by rw[fD];kernel_rfl
variable{ep:Nat}{Q:aa->ab->Prop}
section
variable{prog:aq}{w:ak}{A:ar}{E:aa->ab->Prop}{s:ab}
theorem Cq{Q:List aa->ab->Prop}{d:Addr}{o:Obj}{kvs:List (Key×aa)}(hh:A.handled=none)(hd:(d==sysModules)=false)(ho:s.heap.get? d=some o)(hc:o.cls=.type "dict")(hm:s.heap.DictAt (mN prog w) d kvs ep)(hn:kvs.length<=1000)
  (hQ:∀h2 k2 acc,s.heap.objs.size<=h2.objs.size->(∀b o,s.heap.get? b=some o->h2.get? b=some o)->ItemsOf (λi v=>∃k x,kvs[i]?=some (k,x)/\(mN prog w).is k v=true) acc kvs.length->Q acc.toList { s with heap:=h2,toks:=k2 }):wpAny (model prog w) A (collect (.ref d)) Q E s:=by
 have hlt:=ay ho;let lO:Obj:={ cls:=.type "list", data:=.seq ([]:List aa).toArray };unfold collect;refine ae (iX (cu j4 ?_));rw[cH j5 _];show wpAny _ A.in1 (newList []>>=λl=>again (.builtin "list.__iadd__" ⟨[l,.ref d],[]⟩)) _ _ s;refine ae (dr ?_);refine ao ⟨dD gm _,cu kQ ?_⟩;rw[cH gm _];show wpAny _ A.in1 (fT (.ref s.heap.objs.size) (.ref d) (.ref s.heap.objs.size)) _ _ _;have o1:(s.heap.push lO).get? d=some o:=av _ ho;have T1:fF { s with heap:=s.heap.push lO } (.ref d) "dict" := ⟨o,o1,hc⟩;unfold fT;refine ae (fJ T1 ?_);rw[af (by
  have:fX (.ref s.heap.objs.size) (.ref d)=false:=by simp[fX];exact λe=>ai e (cM hlt)
  rw[this];decide)]
 have m1:(s.heap.push lO).DictAt (mN prog w) d kvs ep:=hm.at' λo e=>av _ e;refine ae (kO (knd:=mN prog w) (kvs:=kvs) (ep:=ep) hd m1 ?_);let h3:=(s.heap.push lO).push { cls:=.type "dict_keyiterator", data:=.fields #[.ref d,.int 0 0,.int kvs.length 0,.int ep 0] };have T3:fF { s with heap:=h3 } (.ref d) "dict" := ⟨o,av _ o1,hc⟩;have ez:(s.heap.push lO).objs.size=s.heap.objs.size+1:=bR _ _;have L3:h3.get? s.heap.objs.size=some lO:=av _ (aP _ rfl);have I3:h3.IsKeyIter (s.heap.objs.size+1) d 0 kvs.length ep:=⟨_,by rw[<-ez];exact aP _ rfl,rfl,rfl⟩;have M3:h3.DictAt (mN prog w) d kvs ep:=m1.at' λo e=>av _ e;have K3:∀b o,s.heap.get? b=some o->h3.get? b=some o:=λb o e=>av _ (av _ e);show wpAny _ A.in1 (holding [.ref (s.heap.push lO).objs.size] (fU (.ref d))>>=_) _ _ { s with heap:=h3 };rw[ez];refine ae (bY ?_);unfold fU;refine ae (gA T3 F.slot_dict_len.lookup ?_);generalize hid:("dict.__len__" : String)=id0;wp_delta;rw[show splitId id0=some ("dict", "__len__") from by subst hid;decide +kernel];subst hid;refine ae (iM T3 sub_dict_dict ?_);dsimp only;rw[af (by decide),ag (by decide +kernel)];refine ae (fJ T3 ?_);refine ao ?_;rw[ag (by decide +kernel)];refine ae (wpAny_rule ?_);refine ae ?_;show wpAny _ A.in1 (updateSeq s.heap.objs.size (·.push .none)>>=λ_=>updateSeq s.heap.objs.size (·.pop)) _ _ _
 refine ae (fA L3 rfl ?_);have S2:=cG (bH (·.push Value.none)) L3 rfl
 refine fA S2 rfl ?_;have S3:=cG (bH (·.pop)) S2 rfl
 have oth:∀b o,b≠s.heap.objs.size->h3.get? b=some o->((h3.update s.heap.objs.size (bH (·.push Value.none))).update s.heap.objs.size (bH (·.pop))).get? b=some o:=
  λb o hb e=>(di _ _ (bI hb)).trans ((di _ _ (bI hb)).trans e)
 have hne:d≠s.heap.objs.size+1:=aE (cp hlt);have hSf:s.heap.objs.size∉[s.heap.objs.size+1,d]:=by
  intro z;rcases aD.mp z with z|z
  ·exact ai z (aE (cf _))
  ·exact ai (aO.mp z) (cM hlt)
 have W:=(lM (prog:=prog) (w:=w) (knd:=mN prog w) (A:=A.in1) (by simp[hh]) (s.heap.objs.size+1) d hne kvs ep).toS;refine ao ⟨dD kq _,kj W (by rw[aT];omega) _ hSf _ kvs.length 0 _ _ _ rfl (aY _)
  ⟨I3.at λo e=>oth _ o (cM (cf _)) e,M3.at' λo e=>oth _ o (aE hlt) e⟩ S3 (l5 _) λs' acc' c' hm hS' hacc=>?_⟩
 show wpAny _ A (load s.heap.objs.size>>=_) _ _ s';refine ae (jB hS' ?_);obtain⟨h2,g2,d2,k2,o2⟩:=s';have eg:g2=s.gens:=hm.gens;have ed:d2=s.drawn:=hm.drawn;have eo:o2=s.os:=hm.os;subst eg ed eo;refine ao (hQ h2 k2 acc' (eJ (ay hS')) (λb o e=>?_) hacc);have hb:=ay e;exact hm.heap b o (λz=>by
  rcases aD.mp z with z|z
  ·exact ai z (aE hb)
  ·exact ai (aO.mp z) (aE (cp hb))) (oth b o (aE hb) (K3 b o e))
theorem Gq:∀(vs:List aa) (ss:List Str),vs.length=ss.length->(∀(j:Nat) (v:aa) (z:Str),vs[j]?=some v->ss[j]?=some z->∃t,v=.str z t)->eZ vs ss
 |[],[],_,_=>.nil
 |v::vs,z::ss,h,k=>by obtain⟨t,rfl⟩:=k 0 v z rfl rfl;exact .cons z t (Gq vs ss (fL h) λj=>k (j+1))
 |[],_::_,h,_=>by cases h
 |_::_,[],h,_=>by cases h
theorem D8{d:Addr}{o:Obj}{kvs:List (Key×aa)}{ss:List Str}(hh:A.handled=none)(hd:(d==sysModules)=false)(ho:s.heap.get? d=some o)(hc:o.cls=.type "dict")(hm:s.heap.DictAt (mN prog w) d kvs ep)(hn:kvs.length<64)(hk:kvs.map aG=ss.map Sum.inr)
  (hQ:∀p h2 k2 out e,s.heap.objs.size<=p->(∀b o,s.heap.get? b=some o->h2.get? b=some o)->eZ out (tD ss)->h2.get? p=some (seqObj "list" out.toArray e)->Q (.ref p) { s with heap:=h2,toks:=k2 }):wpAny (model prog w) A (call (.builtin "sorted") [.ref d]) Q E s:=by
 refine gY jx jn jo (jq _) ?_;unfold bU.«sorted»;refine ae (m:=checkCount "sorted" 1 1 _) (ao ?_);refine ae (Cq (by simp[hh]) hd ho hc hm (by omega) λh2 k2 acc hz kk ia=>?_);have hl:acc.toList.length=ss.length:=by have:=aN bG hk;rw[ah,ah]at this;rw[aW,ia.1,this]
 have hS:eZ acc.toList ss:=Gq _ _ hl λj v z e1 e2=>by
  rw[dj]at e1;obtain⟨k,x,e3,e4⟩:=ia.2 j v e1;have e5:(kvs.map aG)[j]?=some k:=by rw[aK,e3];rfl
  rw[hk,aK,e2]at e5;cases e5;exact wU e4
 have h64:acc.toList.length<64:=by rw[aW,ia.1];exact hn
 refine ae (gB ?_);have hoL:(h2.push (seqObj "list" acc.toList.toArray 0)).get? h2.objs.size=some (seqObj "list" acc.toList.toArray 0):=aP _ rfl;show wpAny _ _ _ _ _ { s with heap:=h2.push (seqObj "list" acc.toList.toArray 0),toks:=k2 };refine ae (bY (eh ja ⟨_,hoL,rfl⟩ iR (list_sort_treeK strKind_oneLt hoL hS.keysOf (λv₁ v₂ rest e=>keyKind_strs (by rw[<-e];exact hS)) h64 λst' a1 a2=>⟨_,rfl,?_⟩) (jb _)));obtain⟨ss',b1,b2,b3⟩:=sorted_out_str hS a1 a2;rw[zX b2 b3]at b1;obtain⟨e,he⟩:=sortedHeap_at (vs:=acc.toList) (out:=(arrOf st').map (·.2)) hoL
 refine ao ⟨_,rfl,hQ h2.objs.size _ k2 _ e hz (λb o z=>?_) b1 he⟩;have:=kk b o z;rw[sortedHeap_old (aE (ay this)) (by rw[bR];exact cp (ay this))];exact av _ this
end
section
variable{X:Cx}{G:Bg}{B:Bz}{k:Bool}{pins:List (Addr×Obj)}{σ:St}{H:Hp}{s:ab}
theorem Cr(hc:X.calm=true):oa X (.builtin "sorted") (λxs H Q=>∃(a:Addr) (o:Obj) (kvs:List (Key×V)) (ss:List Str),xs=[.ref a]/\H a=some (.frz o (.dK kvs))/\kvs.map aG=ss.map Sum.inr/\ss.length<64/\∀p,H p=none->Q (.ref p) (upd H p (.lst ((tD ss).map V.str)))):=by
 intro pins s σ H xs us Q I r h;obtain⟨a,o,kvs,ss,rfl,he,hk,h64,q⟩:=h;obtain⟨u,rfl,ru⟩:=vals1 r;cases ru;obtain⟨q0,_,y,vs,r,ob,es,ep,e1,e2,e3,e4⟩:=(show nS X.prog X.w H s.heap a (.frz o (.dK kvs)) from I.hok a _ he);rw[q0]at e1;cases e1;have hl:kvs.length=vs.length:=r.length;have hl2:=aN bG hk;rw[ah,ah]at hl2;have kv:∀{kvs:List (Key×V)} {vs:List (Key×aa)},KV kvs vs->vs.map aG=kvs.map aG:=λ{kvs vs} r=>by
  induction r with
  |nil=>rfl
  |cons h _ ih=>rw[au,au,ih,show _=_ from h.1]
 refine D8 (I.ok.hd hc) y q0 e2.1 ⟨o,es,q0,e2,e3,e4⟩ (by omega) ((kv r).trans hk) λp h2 k2 out e hp kk hs hg=>?_;refine⟨.ref p,_,I.laid (t':=k2) kk hp ?_,rfl,q _ (I.hok.fresh hp)⟩;refine⟨?_,out,e,Km hs,hg⟩;rw[ah,show (tD ss).length=ss.length from(ig ss leS).length_eq,aT];omega
def yy:List Key->Option (List Str)
 |[]=>some []
 |.inr x::ks=>(yy ks).map (x::·)
 |_=>none
theorem D9:∀{ks:List Key} {ss:List Str},yy ks=some ss->ks=ss.map Sum.inr
 |[],ss,e=>by cases e;rfl
 |.inl _::_,ss,e=>by cases e
 |.inr x::ks,ss,e=>by
  unfold yy at e;cases e1:yy ks with
  |none=>rw[e1]at e;cases e
  |some l=>rw[e1]at e;cases e;rw[D9 e1];rfl
def xT(f:FE):FA:=λρ=>match f ρ with
 |some (.dic ks ds,ρ')=>match yy ks with
  |some ss=>if ss.length<64 then some ((tD ss).map D.str,ρ')else none
  |none=>none
 |_=>none
theorem Ea{e:Expr}{f:FE}(h:PE X e (tCB (λxs H Q=>∃(a:Addr) (o:Obj) (kvs:List (Key×V)) (ss:List Str),xs=[.ref a]/\H a=some (.frz o (.dK kvs))/\kvs.map aG=ss.map Sum.inr/\ss.length<64/\∀p,H p=none->Q (.ref p) (upd H p (.lst ((tD ss).map V.str)))) (tFA G (mi f mw)))):PE X e (tFN G (xT f)):=PE.weak h λσ H Q hh=>by
 obtain⟨F,ρ,H0,es,ρ',R,e,k⟩:=hh;unfold xT at e;split at e
 ·rename_i ks ds ρ1 e1;cases e2:yy ks with
  |none=>simp only[e2]at e;cases e
  |some ss=>
   simp only[e2]at e;split at e
   ·rename_i h64;cases e;refine⟨F,ρ,H0,[.dic ks ds],_,R,by unfold mi;rw[e1];rfl,λys H1 H1' s R' rs=>?_⟩;unfold mB at rs;obtain⟨v,r0,rfl,rv,rn⟩:=rs;unfold mB at rn;subst rn;unfold Rep at rv;obtain⟨a,o,xs,rfl,r1,r2,r3⟩:=rv;refine⟨a,o,_,ss,rfl,R'.sub _ _ r1,?_,h64,λp hp=>?_⟩
    ·rw[lr (jj r2)];exact D9 e2
    ·exact k p _ _ _ s (R'.newOwn hp _) mF (R'.h0none hp) (R'.bNone hp) (R'.apart hp) (zY _)
   ·cases e
 ·cases e
end
section
variable{X:Cx}{B:Bz}{k:Nat}{e:Expr}{f:FE}{p pos:Pos}
theorem RV [C:Cz X B k][N:Nb B "sorted"](hs:S1 X e)(hg:Gz X "sorted")(ha:ZE X B e f):ZN X B (.Call (.Name "sorted" p) [e] [] pos) (xT f):=⟨Ea (cbI hg (by decide) hs (Cr C.c) jy (qe ha.p rp hs))⟩
end
theorem Oo{α:Type}[DecidableEq α]:∀{l L:List α},l.Nodup->(∀x∈l,x∈L)->l.length<=L.length
 |[],L,_,_=>aY _
 |a::l,L,nd,h=>by have h1:=h a aQ;have nd':=cq.mp nd;have:=Oo (l:=l) (L:=L.erase a) nd'.2 λx hx=>(List.mem_erase_of_ne (λe:x=a=>nd'.1 (by rw[<-e];exact hx))).mpr (h x (aX _ hx));rw[List.length_erase_of_mem h1]at this;have:=List.length_pos_of_mem h1;rw[aC];omega
structure Tb(t:bj)(m n:Nat):Prop where
 mask:t.mask=m
 dm:t.dummies=#[]
 pl:t.place.size=n
variable{i q:Nat}
section
variable{t:bj}{m n:Nat}
theorem Tb.slot(T:Tb t m n)(j:Nat):(∃i,t.slot j=.live i/\t.place[i]?=some j)\/t.slot j=.empty:=by
 unfold SetTable.slot;by_cases h:(t.place[cv t.place j]?==some j)=true
 ·left;simp only[h,if_true];exact⟨_,rfl,eP h⟩
 ·right;rw[ly]at h;rw[T.dm];simp[h,lW]
theorem Tb.free(T:Tb t m n)(h:n<=m):∃r,r<=m/\t.slot r=.empty:=by
 apply jP;intro no;have:(aF (m+1)).length<=t.place.toList.length:=Oo iJ λr hr=>by
  rcases T.slot r with ⟨i,_,e⟩|e
  ·rw[<-dj]at e;exact bz e
  ·exact ai ⟨r,by have:=bb.mp hr;omega,e⟩ no
 rw[bO,aW,T.pl]at this;omega
def Emp(t:bj):Nat->dA->Prop
 |0,_=>False
 |f+1,p=>t.slot p.j=.empty\/Emp t f (t.advance p)
theorem Emp.mono:∀{f f':Nat} {p:dA},Emp t f p->f<=f'->Emp t f' p
 |0,_,_,h,_=>h.elim
 |f+1,0,_,_,h=>ai h (by omega)
 |f+1,f'+1,p,h,hl=>h.imp id λh=>h.mono (by omega)
def rs(m i q:Nat):dA:=⟨i,c6 m i - i,i,q,none⟩
theorem RW(m i:Nat):c6 m i - i<=9:=by unfold c6;split<;>omega
theorem Emp.run(T:Tb t m n){f:Nat}(h:Emp t f (rs m ((i * 5+1+q / 32) % (m+1)) (q / 32))):∀(k j:Nat),Emp t (f+k+1) ⟨j,k,i,q,none⟩
 |0,j=>.inr (by
   have e:t.advance ⟨j,0,i,q,none⟩=rs m ((i * 5+1+q / 32) % (m+1)) (q / 32):=by unfold iN SetTable.leap;rw[T.mask];rfl
   rw[e];exact h)
 |k+1,j=>.inr (by
   have e:t.advance ⟨j,k+1,i,q,none⟩=⟨j+1,k,i,q,none⟩:=by unfold iN;rw[ag (fM k)];rfl
   rw[e];exact Emp.run T h k (j+1))
theorem Emp.leap(T:Tb t m n){f:Nat}(h:Emp t f (rs m ((i * 5+1+q / 32) % (m+1)) (q / 32))):Emp t (f+10) (rs m i q):=
 (Emp.run T h (c6 m i - i) i).mono (by have:=RW m i;omega)
def orb(m:Nat):Nat->Nat->List Nat
 |0,_=>[]
 |k+1,i=>i::orb m k ((i * 5+1) % (m+1))
theorem Emp.orb(T:Tb t m n){r:Nat}(hr:t.slot r=.empty):∀(k i:Nat),r∈orb m k i->Emp t (10 * k) (rs m i 0)
 |0,i,h=>by cases h
 |k+1,i,h=>by
  rcases aD.mp h with e|h
  ·exact Emp.mono (f:=1) (.inl (by rw[e]at hr;exact hr)) (by omega)
  ·have:=Emp.leap T (q:=0) (i:=i) (Emp.orb T hr k _ h);exact this.mono (by omega)
theorem Gr(hm:m=7\/m=31){r:Nat}(hi:i<=m)(hr:r<=m):r∈orb m (m+1) i:=by
 have h:∀m∈[7,31],((aF (m+1)).all λi=>(aF (m+1)).all λr=>(orb m (m+1) i).contains r)=true:=by decide +kernel
 have:=aV.mp (aV.mp (h m (by rcases hm with rfl|rfl<;>simp)) i (bb.mpr (by omega))) r (bb.mpr (by omega));exact hU.mp this
theorem Emp.all(T:Tb t m n)(hm:m=7\/m=31)(hn:n<=m):∀(k i q:Nat),i<=m->q<32 ^ k->Emp t (10 * (k+(m+1))) (rs m i q)
 |0,i,q,hi,hq=>by
  obtain⟨r,hr,e⟩:=T.free hn;have q0:q=0:=by simpa using hq
  rw[q0,gE];exact Emp.orb T e _ _ (Gr hm hi hr)
 |k+1,i,q,hi,hq=>by have:=Emp.leap T (Emp.all T hm hn k ((i * 5+1+q / 32) % (m+1)) (q / 32) (kR (eO _ (fM m))) (by rw[Nat.pow_succ]at hq;omega));exact this.mono (by omega)
theorem Emp.start(T:Tb t m n)(hm:m=7\/m=31)(hn:n<=m)(h:Int):Emp t (10 * (m+14)) (t.probeStart h):=by
 have hb:bK h<32 ^ 13:=by unfold bK;omega
 have:=Emp.all T hm hn 13 (bK h % (m+1)) (bK h) (kR (eO _ (fM m))) hb;have e:t.probeStart h=rs m (bK h % (m+1)) (bK h):=by unfold SetTable.probeStart;rw[T.mask];rfl
 rw[e];exact this.mono (by omega)
theorem Kx{p:dA}(h:p.dummy=none):(t.advance p).dummy=none:=by unfold iN;split<;>exact h
theorem Kz(T:Tb t m n)(F:Nat->Int)(h:Int):∀(f:Nat) (p:dA),p.dummy=none->Emp t f p->∀g,f<=g->(∃j,t.slot j=.empty/\fw t F h g p=some (.empty j none))\/
  ∃j i next f',f'<f/\t.slot j=.live i/\t.place[i]?=some j/\F i=h/\fw t F h g p=some (.candidate j i next)/\next.dummy=none/\Emp t f' next
 |0,p,_,he,g,_=>he.elim
 |f+1,p,hd,he,0,hg=>ai hg (by omega)
 |f+1,p,hd,he,g+1,hg=>by
  unfold fw;rcases T.slot p.j with ⟨i,e1,e2⟩|e1
  ·have he:Emp t f (t.advance p):=he.resolve_left λe=>by rw[e1]at e;cases e
   rw[e1];dsimp only;by_cases hh:F i=h
   ·right;exact⟨p.j,i,t.advance p,f,cf f,e1,e2,hh,by rw[ag (by rw[hh];simp)],Kx hd,he⟩
   ·rw[af (by simpa using hh)];rcases Kz T F h f (t.advance p) (Kx hd) he g (by omega)with h1|⟨j,i',nx,f',h1,h2,h3⟩
    ·exact .inl h1
    ·exact .inr ⟨j,i',nx,f',by omega,h2,h3⟩
  ·left;rw[e1];exact⟨p.j,e1,by rw[hd]⟩
end
theorem RX{t:bj}{F F':Nat->Int}{h:Int}(e:∀i,F i=F' i)(g:Nat)(p:dA):fw t F h g p=fw t F' h g p:=by obtain rfl:F=F':=funext e;rfl
section
variable{prog:aq}{w:ak}{A:ar}{E:aa->ab->Prop}{s:ab}
theorem KA{a2:Addr}{k2:List Key}{l:List aa}{Q:Bool->ab->Prop}(h1:∀v∈l,∃k a,v=.ref a/\TK prog w s.heap k a)(h2:TK prog w s.heap k2 a2)(h:Q false s):wpAny (model prog w) A (searchCouldBeSeen (.ref a2) l) Q E s:=by
 unfold searchCouldBeSeen;refine ae ?_;show wpAny _ _ (forIn l _ _) _ _ s;refine iG _ (λrest r s'=>r=(none,())/\s'=s/\∀v∈rest,∃k a,v=.ref a/\TK prog w s.heap k a) _ ?_ ?_ _ _ ⟨rfl,rfl,h1⟩
 ·rintro v rest r s' ⟨rfl,rfl,hall⟩;obtain⟨k,a1,rfl,h1⟩:=hall v aQ;have go:∀v∈rest,∃k a,v=Value.ref a/\TK prog w s'.heap k a:=λu hu'=>hall u (aX _ hu');dsimp only;split
  ·exact ao ⟨rfl,rfl,go⟩
  ·refine ae (j6 h2 ?_);refine ae (j6 h1 ?_);refine ae (Gd h2 ?_);refine ae (Gd h1 ?_);exact ao ⟨rfl,rfl,go⟩
 ·rintro r s' ⟨rfl,rfl,_⟩;exact ao h
structure Els(prog:aq)(w:ak)(h:Heap)(L:List (List Key×Addr))(es:Array (Int×aa)):Prop where
 tk:∀q∈L,TK prog w h q.1 q.2
 p:(es.toList.map bp).Perm (L.map λq=>Value.ref q.2)
variable{L:List (List Key×Addr)}{es:Array (Int×aa)}{t:bj}{m n ep:Nat}{S a2:Addr}{k2:List Key}{o:Obj}{h:Int}
theorem Eb{Q:SetFound->ab->Prop}(hu:A.units<cLine)(T:Tb t m n)(hm:m=7\/m=31)(hf:t.fits es.size=true)(l:Els prog w s.heap L es)(t2:TK prog w s.heap k2 a2)(ne:k2∉L.map aG)
  (ho:s.heap.get? S=some o) (hd:o.data=.set es ep t) (hQ:∀j,t.slot j=.empty->Q (.free j false) s):∀(fuel f:Nat) (st:Option dA),f<fuel->f<=10 * eD m->(st.getD (t.probeStart h)).dummy=none->Emp t f (st.getD (t.probeStart h))->
   wpAny (model prog w) A (setSearchFrom S (.ref a2) h true fuel st) Q E s
 |0,f,st,hl,_,_,_=>ai hl (by omega)
 |fuel+1,f,st,hl,hg,hdm,he=>by
  have sz:es.size=n:=by unfold fG at hf;rw[aL,beq_iff_eq,T.pl]at hf;exact hf.1.symm
  unfold setSearchFrom;refine ae (cc ho hd hf ?_);dsimp only;rw[af (by unfold SetTable.gaveWay;rw[T.mask];rcases hm with rfl|rfl<;>decide)];unfold SetTable.probe;rw[RX (F':=λi=>(es[i]?.map (·.1)).getD 0),T.mask]
  rotate_left
  ·intro i;rfl
  rcases Kz T (λi=>(es[i]?.map (·.1)).getD 0) h f _ hdm he (10 * eD m) hg with ⟨j,e1,e2⟩|⟨j,i,nx,f',h1,h2,h3,h4,h5,h6,h7⟩
  ·rw[e2];exact ao (hQ j e1)
  ·rw[h5];dsimp only;have hi:i<es.size:=by rw[sz,<- T.pl];exact(jN.mp h3).1
   obtain⟨⟨h',y⟩,ey⟩:∃e,es[i]?=some e:=⟨es[i],cR hi⟩;have my:y∈es.toList.map bp:=aM.mpr ⟨(h',y),by rw[<-dj]at ey;exact bz ey,rfl⟩;obtain⟨q,hq,rfl⟩:=aM.mp (l.p.mem_iff.mp my);have t1:=l.tk q hq;have nk:q.1≠k2:=λe=>ne (aM.mpr ⟨q,hq,e⟩);have si:t.sameMemory t.moves m=some true:=by unfold SetTable.sameMemory;simp
   have rest:wpAny (model prog w) A (setSearchFrom S (.ref a2) h true fuel (some nx)) Q E s:=Eb hu T hm hf l t2 ne ho hd hQ fuel f' (some nx) (by omega) (by omega) h6 h7;have sb:∀v∈jK (λx:Int×aa=>x.snd) (Array.filter (λx=>x.fst==h) es).toList,∃k a,v=Value.ref a/\TK prog w s.heap k a:=λv hv=>by
    obtain⟨e,he,rfl⟩:=aM.mp hv;have he:e∈es.toList:=by rw[Array.toList_filter]at he;exact(bE.mp he).1
    obtain⟨q,hq,e2⟩:=aM.mp (l.p.mem_iff.mp (aM.mpr ⟨e,he,rfl⟩));exact⟨q.1,q.2,e2.symm,l.tk q hq⟩
   cases hb:t.led;refine ae (KA sb t2 ?_)
   all_goals
    rw[ey];refine ae (bY (wpAny_eqBool_tuple hu t1 t2 ?_));refine ae (cc ho hd hf ?_);rw[aA nk];dsimp only;rw[af (by decide),si];dsimp only;rw[ag rfl,h2];dsimp only;rw[ey];refine ae (wpAny_isSame_ref_self ?_);refine ae (ao ?_);exact rest
end
def Nn(ow:Array (Option Nat))(j:Nat):Prop:=(ow.getD j (some 0)).isNone=true
variable{j:Nat}{led:Bool}
section
variable{ow:Array (Option Nat)}
theorem RY(i:Nat):0<c6 31 i+1 - i:=by unfold c6;split<;>omega
theorem Bw{f:Nat}:(∃j,Nn ow j/\cF 31 ow (f+1) i q=some j)\/(¬Nn ow i/\cF 31 ow (f+1) i q=cF 31 ow f ((i * 5+1+q / 32) % 32) (q / 32)):=by
 have ef:cF 31 ow (f+1) i q=match (aF (c6 31 i+1 - i)).find? λk=>(ow.getD (i+k) (some 0)).isNone with
  |some k=>some (i+k)
  |none=>cF 31 ow f ((i * 5+1+q / 32) % 32) (q / 32):=rfl
 rw[ef];cases e:(aF (c6 31 i+1 - i)).find? λk=>(ow.getD (i+k) (some 0)).isNone with
 |some k=>exact .inl ⟨i+k,List.find?_some (p:=λk=>(ow.getD (i+k) (some 0)).isNone) e,rfl⟩
 |none=>refine .inr ⟨λh=>?_,rfl⟩;have:=List.find?_eq_none.mp e 0 (bb.mpr (RY i));exact this h
theorem Ec{r:Nat}(hr:Nn ow r):∀(k f i:Nat),k<=f->r∈orb 31 k i->∃j,Nn ow j/\cF 31 ow f i 0=some j
 |0,f,i,_,h=>by cases h
 |k+1,0,i,hf,_=>ai hf (by omega)
 |k+1,f+1,i,hf,h=>by
  rcases Bw (ow:=ow) (f:=f) (i:=i) (q:=0)with h1|⟨h1,h2⟩
  ·exact h1
  ·rcases aD.mp h with e|h
   ·exact ai (e▸hr) h1
   ·rw[h2];exact Ec hr k f _ (by omega) h
theorem Ed{r:Nat}(hr:Nn ow r)(h32:r<=31):∀(k f i q:Nat),k+32<=f->i<=31->q<32 ^ k->∃j,Nn ow j/\cF 31 ow f i q=some j
 |0,f,i,q,hf,hi,hq=>by
  have q0:q=0:=by simpa using hq
  rw[q0];exact Ec hr 32 f i (by omega) (Gr (m:=31) (.inr rfl) hi h32)
 |k+1,0,i,q,hf,_,_=>ai hf (by omega)
 |k+1,f+1,i,q,hf,hi,hq=>by
  rcases Bw (ow:=ow) (f:=f) (i:=i) (q:=q)with h1|⟨_,h2⟩
  ·exact h1
  ·rw[h2];exact Ed hr h32 k f _ _ (by omega) (by omega) (by rw[Nat.pow_succ]at hq;omega)
def lv(ow:Array (Option Nat)):List (Nat×Nat):=(aF 32).filterMap λj=>(ow.getD j none).map (j,·)
theorem Ui(hs:ow.size=32)(h:Nn ow j):j<32/\ow.getD j none=none:=by
 unfold Nn at h;by_cases hj:j<ow.size
 ·refine⟨by omega,?_⟩;rw[dh,cR hj]at h ⊢;simpa using h
 ·rw[dh,Array.getElem?_eq_none (by omega)]at h;cases h
theorem RZ(hs:ow.size=32){k:Nat}(h:Nn ow j):(lv (ow.setIfInBounds j (some k))).Perm ((j,k)::lv ow):=by
 obtain⟨hj,e⟩:=Ui hs h;have get:∀i,(ow.setIfInBounds j (some k)).getD i none=if i=j then some k else ow.getD i none:=λi=>by
  rw[dh,dh,Array.getElem?_setIfInBounds];by_cases hi:j=i
  ·subst hi;rw[ag rfl,ag (by omega),ag rfl];rfl
  ·rw[af hi,af (λe=>hi e.symm)]
 obtain⟨a,b,sp⟩:=kG (bb.mpr hj);have nd:(aF 32).Nodup:=iJ;rw[sp,bC,cq]at nd;unfold lv;rw[sp,j7,j7,cI,cI,get j,ag rfl,e];have eq:∀l:List Nat,j∉l->l.filterMap (λi=>((ow.setIfInBounds j (some k)).getD i none).map (i,·))=l.filterMap λi=>(ow.getD i none).map (i,·):=λl hl=>by
  induction l with
  |nil=>rfl
  |cons i l ih=>rw[cI,cI,ih λz=>hl (aX _ z),get i,af λe=>hl (by rw[<-e];exact aQ)]
 rw[eq a λz=>nd.2.2 j z j aQ rfl,eq b nd.2.1.1];exact gu
theorem KB:∀(hs:List Int) (ow:Array (Option Nat)) (k:Nat),ow.size=32->((lv ow).map bp).Perm (aF k)->k+hs.length<=31->∃ow',ow'.size=32/\((lv ow').map bp).Perm (aF (k+hs.length))/\
  (hs.foldl (λacc h=>do
   let (owner,k)<-acc;let j<-cF 31 owner (eD 31) (bK h % (31+1)) (bK h)
   pure (owner.setIfInBounds j (some k),k+1)) (some (ow,k)))=some (ow',k+hs.length)
 |[],ow,k,h1,h2,_=>⟨ow,h1,h2,rfl⟩
 |h::hs,ow,k,h1,h2,h3=>by
  rw[aC]at h3 ⊢;have fr:∃r,r<=31/\Nn ow r:=by
   apply jP;intro no;have len:(lv ow).length=32:=by
    have:∀l:List Nat,(∀j∈l,j<=31)->(l.filterMap λj=>(ow.getD j none).map (j,·)).length=l.length:=λl hl=>by
     induction l with
     |nil=>rfl
     |cons j l ih=>
      have hj:=hl j aQ;have hn:¬Nn ow j:=λe=>no ⟨j,hj,e⟩;cases e:ow.getD j none with
      |none=>refine ai ?_ hn;unfold Nn;rw[dh,cR (by omega)]at e ⊢;simpa using e
      |some x=>rw[cI,e];show (List.filterMap _ l).length+1=l.length+1;rw[ih λz hz=>hl z (aX _ hz)]
    exact(this (aF 32) λj hj=>by have:=bb.mp hj;omega).trans bO
   have:=h2.length_eq;rw[ah,bO,len]at this;omega
  obtain⟨r,hr,nr⟩:=fr;have hb:bK h<32 ^ 13:=by unfold bK;omega
  obtain⟨j,nj,ej⟩:=Ed nr hr 13 (eD 31) (bK h % (31+1)) (bK h) (by decide) (by omega) hb;obtain⟨ow',q1,q2,q3⟩:=KB hs (ow.setIfInBounds j (some k)) (k+1) (by rw[Array.size_setIfInBounds];exact h1) (by
   refine((RZ h1 nj).map bp).trans ?_;rw[au,List.range_succ];exact((List.Perm.cons k h2).trans (fV k _).symm)) (by omega)
  refine⟨ow',q1,by rw[show k+(hs.length+1)=k+1+hs.length by omega];exact q2,?_⟩;rw[iQ,show k+(hs.length+1)=k+1+hs.length by omega,<- q3];congr 1;show (cF 31 ow (eD 31) (bK h % (31+1)) (bK h)).bind _=_;rw[ej];rfl
theorem NF{fg mv:Nat}{pl:Bool}(hs:Array Int)(hn:hs.size<=31):∃t order,lT 31 fg mv led pl hs=some (t,order)/\Tb t 31 hs.size/\t.led=led/\t.plain=pl/\order.toList.Perm (aF hs.size):=by
 obtain⟨ow,h1,h2,h3⟩:=KB hs.toList (lG 32 none) 0 (by simp) (by
  have:lv (lG 32 none)=[]:=by unfold lv;rw[List.filterMap_eq_nil_iff];intro j hj;rw[dh,Array.getElem?_replicate,ag (bb.mp hj)];rfl
  rw[this];exact .nil) (by rw[aW];omega)
 rw[gE,aW]at h2 h3;have e:kU 31 hs=some ow:=by unfold kU;rw[<-Array.foldl_toList];exact aN (l8 aG) h3
 refine⟨_,_,by unfold lT;rw[e];rfl,⟨rfl,rfl,?_⟩,rfl,rfl,?_⟩
 ·have:=h2.length_eq;rw[ah,bO]at this;show (jK _ (lv ow)).toArray.size=_;rw[aI,ah,this]
 ·exact h2
end
def Cz2(m n:Nat):Prop:=(m=7/\n<=4)\/(m=31/\n<=9)
variable{x:Str}
section
variable{prog:aq}{w:ak}{A:ar}{E:aa->ab->Prop}{s:ab}
theorem KC{ks:List Key}{a:Addr}{Q:Bool->ab->Prop}(hk:TK prog w s.heap (Sum.inr x::ks) a)(h:Q false s):wpAny (model prog w) A (hashByValue 8 (.ref a)) Q E s:=by
 have hT:=hk.typeIs;obtain⟨o,items,n,ho,_,hd,hi⟩:=hk;unfold hashByValue;refine ae (gA hT F.slot_tuple_hash.lookup ?_);show wpAny _ _ (seqItems? (.ref a)>>=_) _ _ s;refine ae (iW ho hd ?_);refine ae ?_;show wpAny _ _ (forIn items _ _) _ _ s;rw[<-kE];generalize items.toList=l at hi ⊢;cases hi with
 |@cons _ v _ vs h1 h2=>
  obtain⟨t,rfl⟩:∃t,v=.str x t:=wU h1;refine iG _ (λrest r s'=>s'=s/\∃u,rest=.str x t::u) _ ?_ ?_ _ _ ⟨rfl,vs,rfl⟩
  ·rintro v rest r s' ⟨rfl,u,e⟩;cases e;refine ae (m:=hashByValue 7 (.str x t)) (ao ?_);exact ao (ao h)
  ·rintro r s' ⟨rfl,u,e⟩;cases e
variable{L:List (List Key×Addr)}{es:Array (Int×aa)}{t:bj}{m n ep:Nat}{S a2:Addr}{k2:List Key}{o:Obj}{h:Int}
theorem KD{Q:Unit->ab->Prop}(hc:t.mask=7)(ho:s.heap.get? S=some o)(hd:o.data=.set es ep t)(hf:t.fits es.size=true)(h5:es.size=5)
  (hQ:∀h' es' t',dF S s.heap h'->h'.get? S=some { o with data:=.set es' (ep+1) t' }->Tb t' 31 5->t'.led=t.led->t'.plain=t.plain->es'.toList.Perm es.toList->Q () { s with heap:=h' }):wpAny (model prog w) A (setRelay S (jc 5)) Q E s:=by
 unfold setRelay;refine ae (cc ho hd hf ?_);dsimp only;rw[af (by rw[aT];decide)];obtain⟨t',order,e1,T,e2,e3,e4⟩:=NF (fg:=t.finger) (mv:=t.movedTo 31) (led:=t.led) (pl:=t.plain) (es.map (·.1)) (by rw[lN];omega)
 rw[lN]at T e4;have hp:(order.filterMap (es[·]?)).toList.Perm es.toList:=by rw[Array.toList_filterMap];exact(e4.filterMap _).trans (by rw[gZ])
 have er:t.relaid (es.map (·.1)) (jc 5)=some (t',order):=e1
 rw[er];have sz:(order.filterMap (es[·]?)).size=es.size:=by have:=hp.length_eq;rw[aW,aW]at this;exact this
 refine ae ?_;wp_delta;dsimp only;rw[af (by rw[sz];simp)];refine ao ?_;refine kW ho hd ?_ (by show (order.filterMap (es[·]?)).size<=sizeLine;rw[sz,aT];omega)
 exact hQ _ _ _ (cJ ..) (JU ho hd) (by rw[h5]at T;exact T) e2 e3 hp
theorem add_n{Q:Bool->ab->Prop}(hu:A.units<cLine)(T:Tb t m n)(hc:Cz2 m n)(h8:n<=8)(hf:t.fits es.size=true)(l:Els prog w s.heap L es)(t2:TK prog w s.heap (Sum.inr x::k2) a2)(ne:(Sum.inr x::k2)∉L.map aG)
  (ho:s.heap.get? S=some o) (hd:o.data=.set es ep t)
  (hQ:∀h' es' t' ep' m',dF S s.heap h'->h'.get? S=some { o with data:=.set es' ep' t' }->Tb t' m' (n+1)->Cz2 m' (n+1)->t'.led=t.led->t'.plain=false->(es'.toList.map bp).Perm (.ref a2::es.toList.map bp)->Q true { s with heap:=h' }):
  wpAny (model prog w) A (setAddHashed S (.ref a2) h) Q E s:=by
 have hm:m=7\/m=31:=hc.imp And.left And.left;have sz:es.size=n:=by unfold fG at hf;rw[aL,beq_iff_eq,T.pl]at hf;exact hf.1.symm
 unfold setAddHashed setAddHashedIn;refine bY (ae (cc ho hd hf ?_));dsimp only;rw[af (by simp[byScan,Value.scannable])];have nm:n<=m:=by rcases hc with ⟨rfl,h⟩|⟨rfl,h⟩<;>omega
 refine ae (Eb hu T hm hf l t2 ne ho hd (λj hj=>?_) 100000 (10 * (m+14)) none (by rcases hm with rfl|rfl<;>decide) (by unfold eD;omega) rfl (Emp.start T hm nm h));dsimp only;refine ae (cc ho hd hf ?_);dsimp only;have p1:(t.put j).1.mask=m:=T.mask;have p2:(t.put j).1.dummies=#[]:=by show (if lW t.dummies j then _ else t.dummies)=_;rw[T.dm];rfl
 have p3:(t.put j).1.place.size=n+1:=by have:=(jX t.place (cv t.place j) j).length_eq;rw[aW,aW,Array.size_push,T.pl]at this;exact this
 have p4:(dY es (t.put j).2 (h,Value.ref a2)).toList.Perm ((h,.ref a2)::es.toList):=by refine(jX es _ _).trans ?_;rw[kX];exact fV _ _
 have p5:(dY es (t.put j).2 (h,Value.ref a2)).size=n+1:=by have:=p4.length_eq;rw[aW,aC,aW,sz]at this;exact this
 let t1:bj:={ (t.put j).1 with plain:=false };have T1:Tb t1 m (n+1):=⟨p1,p2,p3⟩;have f1:t1.fits (dY es (t.put j).2 (h,Value.ref a2)).size=true:=by unfold fG jg;rw[p5,T1.pl,T1.dm,T1.mask,aL];exact⟨by simp,aH (by rcases hc with ⟨rfl,h⟩|⟨rfl,h⟩<;>simp<;>omega)⟩
 have fin:∀t0:bj,t0=t1->wpAny (model prog w) A (do
   storeSet S (dY es (t.put j).2 (h,.ref a2)) t0
   if (!false&&t0.tooFull)=true then do setRelay S (jc (es.size+1));pure true else pure true) Q E s:=λt0 e=>by
  subst e;refine ae (kW ho hd ?_ (by rw[p5,aT];omega));have g1:=JU (es':=dY es (t.put j).2 (h,Value.ref a2)) (t':=t1) ho hd;have tf:t1.tooFull=decide ((n+1) * 5 >= m * 3):=by unfold SetTable.tooFull jg;rw[T1.pl,T1.dm,T1.mask];rfl
  rw[tf];by_cases h5:(n+1) * 5 >= m * 3
  ·rw[aH h5,ag (by decide)];obtain⟨rfl,rfl⟩:m=7/\n=4:=by rcases hc with ⟨rfl,h⟩|⟨rfl,h⟩<;>omega
   rw[sz];refine ae (KD (s:={ s with heap:=s.heap.update S (jG (dY es (t.put j).2 (h,.ref a2)) t1) }) T1.mask g1 rfl f1 p5 λh' es' t' b1 b2 b3 b4 b5 b6=>?_);refine ao (hQ h' es' t' _ 31 ((cJ ..).trans b1) b2 b3 (.inr ⟨rfl,by decide⟩) b4 b5 ?_);exact(b6.map _).trans (p4.map _)
  ·rw[aA h5,af (by decide)];refine ao (hQ _ _ _ _ m (cJ ..) g1 T1 ?_ rfl rfl (p4.map _));rcases hc with ⟨rfl,h⟩|⟨rfl,h⟩
   ·exact .inl ⟨rfl,by omega⟩
   ·exact .inr ⟨rfl,by omega⟩
 split
 ·refine ae (KC t2 ?_);exact fin _ rfl
 ·rename_i hp;refine ae (ao (fin _ ?_));rw[ly]at hp;rw[ag rfl];show (t.put j).1={ (t.put j).1 with plain:=false };rw[<-hp]
end
structure uX(h:Heap)(S:Addr)(L:List (List Key×Addr))(led:Bool)(n:Nat)(o:Obj)(es:Array (Int×aa))(ep:Nat)(t:bj):Prop where
 at_:h.get? S=some o
 ex:o.ExactSet
 d:o.data=.set es ep t
 c:∃m,Tb t m n/\Cz2 m n
 led:t.led=led
 pl:0<n->t.plain=false
 p:(es.toList.map bp).Perm (L.map λq=>Value.ref q.2)
theorem uX.sz{h:Heap}{S:Addr}{L:List (List Key×Addr)}{n:Nat}{o:Obj}{es:Array (Int×aa)}{t:bj}(x:uX h S L led n o es ep t):es.size=L.length:=by have:=x.p.length_eq;rw[ah,ah,aW]at this;exact this
theorem uX.fits{h:Heap}{S:Addr}{L:List (List Key×Addr)}{n:Nat}{o:Obj}{es:Array (Int×aa)}{t:bj}(x:uX h S L led n o es ep t)(hl:L.length=n):t.fits es.size=true:=by obtain⟨m,T,c⟩:=x.c;unfold fG jg;rw[x.sz,hl,T.pl,T.dm,T.mask,aL];exact⟨by simp,aH (by rcases c with ⟨rfl,h⟩|⟨rfl,h⟩<;>simp<;>omega)⟩
section
variable{prog:aq}{w:ak}{A:ar}{R:cQ->ab->Prop}{I:Addr}{fp wr:List Addr}{GG:Array dM->Array dM->Prop}{n:Nat}{PP:Nat->aa->Prop}{SS:Nat->ab->Prop}
theorem HY(W:WalksS prog w A.in1 I fp wr GG n PP SS){S:Addr}(hSf:S∉fp)(hu:A.in1.units<cLine)(L:List (List Key×Addr))(hn:L.length=n)(h8:n<=8)(nd:(L.map aG).Nodup)(hk:∀q∈L,∃x k,q.1=Sum.inr x::k)(far:∀q∈L,q.2∉S::wr)
  (hval:∀i v,PP i v->∃q,L[i]?=some q/\v=.ref q.2):∀(k i:Nat) (s:ab) (o:Obj) (es:Array (Int×aa)) (ep:Nat) (t:bj),n - i=k->i<=n->SS i s->(∀q∈L,TK prog w s.heap q.1 q.2)->uX s.heap S (L.take i) led i o es ep t->
   (∀s' o es ep t,Moved (S::wr) GG s s'->uX s'.heap S L led n o es ep t->R (.ok (.ret .none)) s')->
   codeAny (model prog w) A (.builtin "set.update.loop" ⟨[.ref S,.ref I],[]⟩) R s:=by
 have hSw:S∉wr:=λz=>hSf (W.sub _ z);have up:∀b∈wr,b∈S::wr:=λb z=>aX _ z;intro k
 induction k with
 |zero=>
  intro i s o es ep t hk' hi hst tk x hR;obtain rfl:i=n:=by omega
  refine cu fY ?_;rw[cH dQ _];show wpAny _ A.in1 (pyNext (.ref I)>>=_) _ _ s;refine ae (W.done s _ _ hst λs' hm=>?_);show wpAny _ A.in1 (ret Value.none) _ _ s';rw[hG (by omega)]at x;exact ao (hR s' o es ep t (hm.mono up) { x with at_:=hm.heap S _ hSw x.at_ })
 |succ k ih=>
  intro i s o es ep t hk' hi hst tk x hR;have hlt:i<n:=by omega
  refine cu fY ?_;rw[cH dQ _];show wpAny _ A.in1 (pyNext (.ref I)>>=_) _ _ s;refine ae (W.item i s _ _ hlt hst λv s' hP hst' hm=>?_);obtain⟨q,eq,rfl⟩:=hval i v hP;have mq:q∈L:=bz eq;have tk':∀q∈L,TK prog w s'.heap q.1 q.2:=λq hq=>(tk q hq).kept λo=>hm.heap q.2 o λz=>far q hq (up _ z);show wpAny _ A.in1 (holding _ (setAdd S _)>>=_) _ _ s';refine ae (bY ?_);unfold setAdd;refine bY ?_;refine ae (wpAny_pyHash_tuple hu (tk' q mq) ?_);obtain⟨m,T,c⟩:=x.c;obtain⟨z,kk,ez⟩:=hk q mq;have tq:TK prog w s'.heap (Sum.inr z::kk) q.2:=by rw[<-ez];exact tk' q mq
  have split:L.take (i+1)=L.take i++[q]:=by rw[kN,eq];rfl
  have ne:(Sum.inr z::kk)∉(L.take i).map aG:=λw'=>by have h1:((L.take (i+1)).map aG).Nodup:=nd.sublist ((dW _ _).map _);rw[split,aS,bC]at h1;exact h1.2.2 _ w' _ (aO.mpr ez.symm) rfl
  have sub:∀r∈L.take i,r∈L:=λr hr=>(dW _ _).subset hr;have x':uX s'.heap S (L.take i) led i o es ep t:={ x with at_:=hm.heap S _ hSw x.at_ };refine add_n (s:={ s' with toks:=s'.toks+(q.1.length+1) }) (L:=L.take i) hu T c (by omega) (x'.fits (by rw[bf];omega)) ⟨λr hr=>tk' r (sub r hr),x'.p⟩ tq ne x'.at_ x'.d λh' es' t' ep' m' b1 b2 b3 b4 b5 b6 b7=>?_;have y:uX h' S (L.take (i+1)) led (i+1) { o with data:=.set es' ep' t' } es' ep' t':=by refine⟨b2,x.ex,rfl,⟨m',b3,b4⟩,b5.trans x.led,λ_=>b6,b7.trans ?_⟩;rw[split,aS];exact(List.Perm.cons _ x.p).trans (fV _ _).symm
  refine ao ⟨dD dQ _,ih (i+1) _ _ _ _ _ (by omega) hlt (W.frame _ s' h' _ hst' (iI _ _) λb z o e=>?_) (λr hr=>(tk' r hr).kept λo e=>?_) y λs'' o2 es2 ep2 t2 hm'' x2=>?_⟩
  ·rw[b1.2 b (λy:b=S=>hSf (by rw[<-y];exact z))];exact e
  ·rw[b1.2 r.2 (λy:r.2=S=>far r hr (by rw[y];exact aQ))];exact e
  ·refine hR s'' o2 es2 ep2 t2 (l4 W.gtrans ((hm.mono up).then_heap (iI _ _) λb o z e=>?_) hm'') x2;rw[b1.2 b (λy:b=S=>z (by rw[y];exact aQ))];exact e
end
theorem Cs{α:Type}:∀(l:List α) (j:Nat) (x:α),l[j]?=some x->(x::l.eraseIdx j).Perm l
 |[],j,x,h=>by cases h
 |a::l,0,x,h=>by cases h;exact .refl _
 |a::l,j+1,x,h=>(List.Perm.swap a x _).trans (List.Perm.cons a (Cs l j x h))
theorem Gs{α:Type}(nx:Nat->Nat):∀(f k:Nat) (l:List α) (out:Array α),l.length=f->(lX nx f k l out).toList.Perm (out.toList++l)
 |0,k,l,out,h=>by obtain rfl:=hE.mp h;rw[aU];exact .refl _
 |f+1,k,l,out,h=>by have hlt:nx k % l.length<l.length:=eO _ (by omega);have e:l[nx k % l.length]?=some l[nx k % l.length]:=az hlt;unfold lX;rw[e];refine(Gs nx f (k+1) _ _ (by rw[kl,ag hlt];omega)).trans ?_;rw[kX,ba];exact List.Perm.append_left _ (Cs l _ _ e)
theorem Bx{α:Type}(nx:Nat->Nat)(xs:Array α):(pickOrder nx xs).toList.Perm xs.toList:=Gs nx xs.size 0 xs.toList #[] aW
section
variable{prog:aq}{w:ak}{A:ar}{E:aa->ab->Prop}{s:ab}
theorem NG{n:Nat}{src:Source}{Q:Nat->ab->Prop}(hn:n≠0)(h:∀i d,i<n->Q i { s with drawn:=d }):wpAny (model prog w) A (choose src n) Q E s:=λΓ p hΓ=>by show Sem.wp _ Γ (.choose src n .pure) _ _ p s;rw[Sem.wp_choose];exact⟨hn,h _ _ (eO _ (Nat.pos_of_ne_zero hn))⟩
theorem Gu{α:Type}:∀(n:Nat) (xs:List α) (s:ab) {Q:List α->ab->Prop},xs.length=n->(∀ys d,ys.Perm xs->Q ys { s with drawn:=d })->wpAny (model prog w) A (drawOrder n xs) Q E s
 |0,xs,s,Q,hl,h=>by obtain rfl:=hE.mp hl;unfold drawOrder;exact ao (h [] s.drawn (.refl _))
 |n+1,[],s,Q,hl,h=>by cases hl
 |n+1,a::xs,s,Q,hl,h=>by unfold drawOrder;refine ae (NG (by simp) λi d hi=>?_);have e:(a::xs)[i]?=some (a::xs)[i]:=az hi;rw[e];refine ae (Gu n _ _ (by rw[kl,ag hi];omega) λys d' p=>?_);exact ao (h _ d' ((List.Perm.cons _ p).trans (Cs _ _ _ e)))
end
theorem ql:Slot "set_iterator" "__next__" "set_iterator.__next__" :=
 .of (owner:="set_iterator") (n:="__next__") (by rw[typeLookup_type,j8];kernel_rfl) (by decide +kernel) (by decide +kernel) (by decide +kernel)
  (by first|exact .inl (by decide +kernel)|exact .inr (by decide +kernel)) (by rw[fD];kernel_rfl)
theorem w6:Slot "set_iterator" "__iter__" "set_iterator.__iter__" :=
 .of (owner:="set_iterator") (n:="__iter__") (by rw[typeLookup_type,j8];kernel_rfl) (by decide +kernel) (by decide +kernel) (by decide +kernel)
  (by first|exact .inl (by decide +kernel)|exact .inr (by decide +kernel)) (by rw[fD];kernel_rfl)
theorem AW:entryFor table "set_iterator.__next__" = some bU.«set_iterator.__next__»:=entryFor_of_tree (by kernel_rfl)
theorem Ee:Manifest.owners.lookup (String.ofList ['r','o','t','a','r','e','t','i','_','t','e','s'].reverse)=some Manifest.sig_set_iterator:=by kernel_rfl
theorem Ct(a:aa):argsOk "set_iterator.__next__" ⟨[a],[]⟩:=by unfold argsOk;rw[signature?_of (id:="set_iterator.__next__") (n:=['_','_','t','x','e','n','_','_']) (o:=['r','o','t','a','r','e','t','i','_','t','e','s']) (by kernel_rfl) Ee];kernel_rfl
theorem Cu:entryFor table "set.__iter__" = some bU.«frozenset.__iter__»:=entryFor_alias (id':="frozenset.__iter__") (by kernel_rfl) rfl (by decide +kernel) (by kernel_rfl)
inductive Md(w:ak) (h:Heap) (S TP:Addr) (i:Nat) (ord:List aa) (es:Array (Int×aa)) (ep:Nat) (t:bj):aa->Prop
 |txt {sl:Int} {tk:Tok}:w.params.followText "set-order" = true->ord=(pickOrder (w.params.setOrder S ep) es).toList.map bp->Md w h S TP i ord es ep t (.int sl tk)
 |drw {ps:List Nat} {vs:Array aa} {ot:Obj} {nt:Nat}:w.params.followText "set-order" = false->h.get? TP=some ot->ot.cls=.type "tuple" -> ot.data=.seq vs nt->vs=(ps.map λp:Nat=>rawInt p).toArray->ps.Perm (aF es.size)->ord=ps.filterMap (λp=>es[p]?.map bp)->Md w h S TP i ord es ep t (.ref TP)
 |one {sl:Int}:w.params.followText "set-order" = false->es.size<=1->t.led=true->(i=0->sl=0)->(∀j,i=1->t.place=#[j]->sl=(j+1:Nat))->ord=es.toList.map bp->Md w h S TP i ord es ep t (.int sl 0)
structure ItS(w:ak)(I S TP:Addr)(ord:List aa)(o:Obj)(es:Array (Int×aa))(ep:Nat)(t:bj)(i:Nat)(h:Heap):Prop where
 it:∃oi first,h.get? I=some oi/\oi.cls=.type "set_iterator" /\ oi.data=.fields #[first,.int i 0,.ref S,.int es.size 0,.int ep 0]/\Md w h S TP i ord es ep t first
 at_:h.get? S=some o
 d:o.data=.set es ep t
 f:t.fits es.size=true
section
variable{prog:aq}{w:ak}{A:ar}{E:aa->ab->Prop}{s:ab}{I S TP:Addr}{ord:List aa}{o:Obj}{es:Array (Int×aa)}{ep:Nat}{t:bj}{i:Nat}
theorem xU{Q:Bool->ab->Prop}(h:Q (w.params.followText "set-order") s):wpAny (model prog w) A setsByText Q E s:=by unfold setsByText;exact ae (iH (ao h))
theorem Fl{sl:Int}{tk:Tok}{Q:Option (aa×Nat)->ab->Prop}(x:ItS w I S TP ord o es ep t i s.heap)(hm:Md w s.heap S TP i ord es ep t (.int sl tk))(hi:i<=1\/w.params.followText "set-order" = true)
  (hQ:∀(v:aa) (nx:Nat),ord[i]?=some v->Md w s.heap S TP (i+1) ord es ep t (.int nx 0)->Q (some (v,nx)) s) (hN:ord[i]?=none->Q none s):wpAny (model prog w) A (setNext S sl.toNat i ep) Q E s:=by
 unfold setNext;refine ae (cc x.at_ x.d x.f ?_);dsimp only;refine ae (xU ?_);cases hm with
 |txt h1 h2=>
  rw[h1,ag rfl];rw[af (by simp)];refine ae ?_;unfold setWalk;refine ae (cc x.at_ x.d x.f ?_);dsimp only;refine ae (xU ?_);rw[h1,ag rfl];refine ae (iH ?_);refine ao ?_;refine ao ?_;show Q (l8 (λe=>(e.snd,sl.toNat)) (pickOrder (w.params.setOrder S ep) es)[i]?) s;have e:ord[i]?=((pickOrder (w.params.setOrder S ep) es)[i]?).map bp:=by rw[h2,aK,dj]
  cases hp:(pickOrder (w.params.setOrder S ep) es)[i]? with
  |none=>rw[hp]at e;exact hN e
  |some q=>rw[hp]at e;exact hQ q.2 _ e (.txt h1 h2)
 |one h1 h2 h3 h4 h5 h6=>
  have fs:t.place.size=es.size:=by have:=x.f;unfold fG at this;rw[aL,beq_iff_eq]at this;exact this.1
  rw[h1,af (by decide)];rw[af (λhh=>by
   have:(!t.plain&&decide (es.size > 1))=true:=hh;simp at this;omega)]
  refine ae ?_;wp_delta;rw[af (by rw[h3];simp)];refine ao ?_;refine ao ?_;have c:es.size=0\/es.size=1:=by omega
  rcases c with c|c
  ·have e1:es=#[]:=Array.eq_empty_of_size_eq_zero c;subst e1;exact hN (by rw[h6];rfl)
  ·obtain⟨e,rfl⟩:=j9.mp c;obtain⟨j,ej⟩:=j9.mp (fs.trans c);rw[ej];have hi1:i<=1:=hi.resolve_right λe=>by rw[h1]at e;cases e
   have:i=0\/i=1:=by omega
   rcases this with rfl|rfl
   ·rw[h4 rfl];show Q (match #[e][cv #[j] 0]?,#[j][cv #[j] 0]? with|some (_,x),some j=>some (x,j+1)|_,_=>none) s;rw[show cv #[j] 0=0 from by simp[cv,kY]];exact hQ e.2 (j+1) (by rw[h6];rfl) (.one h1 h2 h3 (λz=>by cases z) (λj' _ e'=>by rw[ej]at e';cases e';rfl) h6)
   ·rw[h5 j rfl ej];show Q (match #[e][cv #[j] (j+1)]?,#[j][cv #[j] (j+1)]? with|some (_,x),some j=>some (x,j+1)|_,_=>none) s;rw[show cv #[j] (j+1)=1 from by simp[cv,kY]];exact hN (by rw[h6];rfl)
theorem ItS.ty(x:ItS w I S TP ord o es ep t i s.heap):s.TypeIs (.ref I) "set_iterator" := let ⟨⟨oi,_,h1,h2,_⟩,_,_,_⟩:=x;⟨oi,h1,h2⟩
theorem ItS.ordlen(x:ItS w I S TP ord o es ep t i s.heap):ord.length=es.size:=by
 obtain⟨⟨oi,first,_,_,_,hm⟩,_,_,_⟩:=x;cases hm with
 |txt h1 h2=>rw[h2,ah,(Bx _ es).length_eq,aW]
 |drw h1 h2 h3 h4 h5 h6 h7=>rw[h7,(h6.filterMap _).length_eq];have:=gZ es;rw[show (aF es.size).filterMap (λp=>es[p]?.map bp)=((aF es.size).filterMap λp=>es[p]?).map bp from(kH ..).symm,this,ah,aW]
 |one h1 h2 h3 h4 h5 h6=>rw[h6,ah,aW]
theorem KE{α β:Type}(f:α->Option β):∀(ps:List α),(∀p∈ps,∃v,f p=some v)->∀i:Nat,(ps.filterMap f)[i]?=ps[i]?.bind f
 |[],_,i=>rfl
 |p::ps,h,i=>by
  obtain⟨v,e⟩:=h p aQ;rw[cI,e];cases i with
  |zero=>show some v=f p;rw[e]
  |succ i=>exact KE f ps (λq hq=>h q (aX _ hq)) i
theorem Md.mv{h h':Heap}{sl:Int}{tk:Tok}(m:Md w h S TP i ord es ep t (.int sl tk)):Md w h' S TP i ord es ep t (.int sl tk):=by
 cases m with
 |txt h1 h2=>exact .txt h1 h2
 |one h1 h2 h3 h4 h5 h6=>exact .one h1 h2 h3 h4 h5 h6
theorem Gw{B:ar}{R:Fin->ab->Prop}{s0:ab}{Q:Option aa->ab->Prop}(hh:B.handled=none)(hN:∀h',(∀b o,s0.heap.get? b=some o->h'.get? b=some o)->Q none { s0 with heap:=h' }):
  wpAny (model prog w) B (do let e<-newExc (.type "StopIteration") [];raiseNew e) R (λe s'=>wpAny (model prog w) A (do if<-isInstance e (.type "StopIteration")then pure none else throw e) Q E s') s0:=by
 refine ae ?_;simp only[newExc,newTuple];refine ae (dr ?_ (by size_fits));refine ae (m:=firstArgMember _ _) (wpAny_of_eq (a:=Value.none) (by first|rfl|(simp only[firstArgMember];rfl)) ?_);refine dr ?_ (by size_fits);simp only[raiseNew];refine ae (wpAny_handled ?_);rw[hh];refine ae (ao (wpAny_throw ?_));refine ae (iM (T:="StopIteration") (b:=true) ⟨_,aP _ rfl,rfl⟩ isSubtype_stop ?_);exact ao (hN _ λb o e=>av _ (av _ e))
theorem KF{Q:Option aa->ab->Prop}(hh:A.handled=none)(x:ItS w I S TP ord o es ep t i s.heap)(hi:i<=ord.length)(hS:S≠I)(hT:TP≠I)
  (hQ:∀v h',ord[i]?=some v->dF I s.heap h'->ItS w I S TP ord o es ep t (i+1) h'->Q (some v) { s with heap:=h' }) (hN:∀h',ord[i]?=none->Heap.ExtBut I s.heap h'->Q none { s with heap:=h' }):
  wpAny (model prog w) A (pyNext (.ref I)) Q E s:=by
 have ol:=x.ordlen;obtain⟨oi,first,hoi,hci,hdi,hm⟩:=x.it;unfold pyNext;refine ae (wpAny_attempt (wpAny_callSpecial?_slot (name:=jr "__next__") x.ty ql (eh ql x.ty AW ?_ (Ct _))));show wpAny _ _ (fieldsOf (.ref I)>>=_) _ _ s;refine ae (wpAny_fieldsOf hoi hdi ?_);show wpAny _ _ (setEntries S>>=_) _ _ s;refine ae ?_;unfold setEntries;refine ae (cc x.at_ x.d x.f ?_);refine ao ?_;dsimp only;rw[af (by simp)];simp only[fq];have byint:∀(sl:Int) (tk:Tok),first=.int sl tk->(i<=1\/w.params.followText "set-order" = true)->wpAny (model prog w) A.in1 (do
   let r<-setNext S sl.toNat i ep
   match r with
    |some (x,next)=>do
     setField (Value.ref I) 0 (rawInt ↑next)
     setField (Value.ref I) 1 (rawInt (↑i+1))
     ret x
    |none=>do
     setField (Value.ref I) 2 Value.none
     let e<-newExc (Value.type "StopIteration") []
     raiseNew e) (λfin s'=>∃v,fin=Fin.done (Flow.ret v)/\wpAny (model prog w) A (pure (some v)) Q E s') (λe s'=>wpAny (model prog w) A (do if<-isInstance e (.type "StopIteration")then pure none else throw e) Q E s') s:=λsl tk e hi'=>by
  subst e;refine ae (Fl x hm hi' (λv nx ev m=>?_) λev=>?_)
  ·refine ae (eE hoi hdi (by simp) ?_);have g1:=cG (h:=s.heap) (dE (·.setIfInBounds 0 (rawInt (nx:Int)))) hoi (f7 (cY hdi _))
   have d1:=cY hdi (·.setIfInBounds 0 (rawInt (nx:Int)))
   refine ae (eE g1 d1 (by simp) ?_);have g2:=cG (dE (·.setIfInBounds 1 (rawInt ((i:Int)+1)))) g1 (f7 (cY d1 _))
   have d2:=cY d1 (·.setIfInBounds 1 (rawInt ((i:Int)+1)))
   have sb:=(cJ s.heap I (dE (·.setIfInBounds 0 (rawInt (nx:Int))))).trans (cJ _ I (dE (·.setIfInBounds 1 (rawInt ((i:Int)+1)))))
   refine ao ⟨v,rfl,ao (hQ v _ ev sb ⟨⟨_,.int nx 0,g2,(iE ..).trans ((iE ..).trans hci),?_,m.mv⟩,?_,x.d,x.f⟩)⟩
   ·rw[d2];simp[rawInt]
   ·rw[sb.2 S hS];exact x.at_
  ·refine ae (eE hoi hdi (by simp) ?_);exact Gw (by simp[hh]) λh' k=>hN h' ev λb o hb e=>k b o (by rw[(cJ ..).2 b hb];exact e)
 cases hm with
 |txt h1 h2=>exact byint _ _ rfl (.inr h1)
 |one h1 h2 h3 h4 h5 h6=>exact byint _ _ rfl (.inl (by omega))
 |@drw ps vs ot nt h1 h2 h3 h4 h5 h6 h7=>
  show wpAny _ _ (seqItems? (.ref TP)>>=_) _ _ s;refine ae (iW h2 h4 ?_);have al:∀p∈ps,∃v,(es[p]?.map bp)=some v:=λp hp=>by have:=bb.mp (h6.mem_iff.mp hp);exact⟨es[p].2,by rw[cR this];rfl⟩
  have eg:ord[i]?=ps[i]?.bind λp=>es[p]?.map bp:=by rw[h7];exact KE _ ps al i
  have ev:vs[i]?=ps[i]?.map λp:Nat=>rawInt p:=by rw[h5,hJ,aK]
  cases ep':ps[i]? with
  |none=>
   rw[ep']at ev eg;dsimp only;rw[ev];refine ae (eE hoi hdi (by simp) ?_);have g1:=cG (h:=s.heap) (dE (·.setIfInBounds 0 (rawInt 0))) hoi (f7 (cY hdi _))
   have d1:=cY hdi (·.setIfInBounds 0 (rawInt 0))
   refine ae (eE g1 d1 (by simp) ?_);exact Gw (by simp[hh]) λh' k=>hN h' eg λb o hb e=>k b o (by rw[(cJ ..).2 b hb,(cJ ..).2 b hb];exact e)
  |some p=>
   rw[ep']at ev eg;obtain⟨v,e1⟩:=al p (bz ep');dsimp only;rw[ev];show wpAny _ _ (setNextDrawn S (p:Int).toNat ep>>=_) _ _ s;rw[fq];refine ae ?_;unfold setNextDrawn;refine ae (cc x.at_ x.d x.f ?_);dsimp only;rw[af (by simp)];cases e2:es[p]? with
   |none=>rw[e2]at e1;cases e1
   |some q=>
    rw[e2]at e1;refine ao ?_;refine ae (eE hoi hdi (by simp) ?_);have g1:=cG (h:=s.heap) (dE (·.setIfInBounds 1 (rawInt ((i:Int)+1)))) hoi (f7 (cY hdi _))
    have d1:=cY hdi (·.setIfInBounds 1 (rawInt ((i:Int)+1)))
    have sb:=cJ s.heap I (dE (·.setIfInBounds 1 (rawInt ((i:Int)+1))))
    refine ao ⟨_,rfl,ao (hQ _ _ (by rw[eg];show es[p]?.map bp=_;rw[e2];rfl) sb ⟨⟨_,.ref TP,g1,(iE ..).trans hci,?_,.drw h1 (by rw[sb.2 TP hT];exact h2) h3 h4 h5 h6 h7⟩,?_,x.d,x.f⟩)⟩
    ·rw[d1];simp[rawInt]
    ·rw[sb.2 S hS];exact x.at_
end
theorem AX:entryFor table "set_iterator.__iter__" = some bU.«dict_keyiterator.__iter__»:=entryFor_alias (id':="dict_keyiterator.__iter__") (by kernel_rfl) rfl (by decide +kernel) (by kernel_rfl)
theorem Cv(a:aa):argsOk "set_iterator.__iter__" ⟨[a],[]⟩:=by unfold argsOk;rw[signature?_of (id:="set_iterator.__iter__") (n:=['_','_','r','e','t','i','_','_']) (o:=['r','o','t','a','r','e','t','i','_','t','e','s']) (by kernel_rfl) Ee];kernel_rfl
variable{h':Heap}
section
variable{prog:aq}{w:ak}{A:ar}{E:aa->ab->Prop}{s:ab}{I S TP:Addr}{ord:List aa}{o:Obj}{es:Array (Int×aa)}{ep:Nat}{t:bj}
theorem Md.at{h:Heap}{f:aa}(m:Md w h S TP i ord es ep t f)(k:∀o,h.get? TP=some o->h'.get? TP=some o):Md w h' S TP i ord es ep t f:=by
 cases m with
 |txt h1 h2=>exact .txt h1 h2
 |one h1 h2 h3 h4 h5 h6=>exact .one h1 h2 h3 h4 h5 h6
 |drw h1 h2 h3 h4 h5 h6 h7=>exact .drw h1 (k _ h2) h3 h4 h5 h6 h7
theorem R0(hh:A.handled=none)(hS:S≠I)(hT:TP≠I):Walks prog w A I [I,S,TP] [I] ord.length (λi v=>ord[i]?=some v) (λi h=>ItS w I S TP ord o es ep t i h/\i<=ord.length) where
 sub:=λb hb=>by simp at hb;simp[hb]
 frame:=λi h h' st hk=>by obtain⟨⟨⟨oi,f,h1,h2,h3,hm⟩,h4,h5,h6⟩,h7⟩:=st;exact⟨⟨⟨oi,f,hk I (by simp) _ h1,h2,h3,hm.at λo e=>hk TP (by simp) o e⟩,hk S (by simp) _ h4,h5,h6⟩,h7⟩
 item:=λi s Q E hi st hQ=>KF hh st.1 st.2 hS hT (λv h' ev sb x=>hQ v h' s.toks ev ⟨x,by omega⟩ λb o hb e=>by rw[sb.2 b λz=>hb (by simp[z])];exact e) λh' en _=>by rw[az hi]at en;cases en
 done:=λs Q E st hQ=>KF hh st.1 st.2 hS hT (λv h' ev _ _=>by rw[dR (aw _)]at ev;cases ev) λh' _ k=>hQ h' s.toks λb o hb e=>k b o (λz=>hb (by simp[z])) e
 self:=λi s Q E st h=>by refine kZ st.1.ty w6 (eh w6 st.1.ty AX ?_ (Cv _));show wpAny _ _ (ret (.ref I)) _ _ s;exact ao ⟨_,rfl,"set_iterator", _,st.1.ty,ql.lookup,h⟩
theorem R7{L:List (List Key×Addr)}{n:Nat}(x:uX s.heap S L (!w.params.followText "set-order") n o es ep t)(hl:L.length=n)
  (hQ:∀(h':Heap) (I TP:Addr) (ord:List aa) (d:Drawn),s.heap.objs.size<=I->I<h'.objs.size->TP≠I->(TP=S\/s.heap.objs.size<=TP)->(∀b o,s.heap.get? b=some o->h'.get? b=some o)->ItS w I S TP ord o es ep t 0 h'->ord.Perm (L.map λq=>Value.ref q.2)->Q (.ref I) { s with heap:=h',drawn:=d }):
  wpAny (model prog w) A (pyIter (.ref S)) Q E s:=by
 have hf:=x.fits hl;have ty:s.TypeIs (.ref S) "set" := ⟨o,x.at_,x.ex.1⟩;have hlt:=ay x.at_;refine kZ ty lH (eh lH ty Cu ?_ (F.args_set_iter_1 _));unfold bU.«frozenset.__iter__»;refine ae (m:=me _ _) (ao ?_);refine ae ?_;unfold md setEntries;refine ae (ae (cc x.at_ x.d hf (ao ?_)));refine ao ?_;refine ae ?_;unfold setDrawn;refine ae (cc x.at_ x.d hf ?_);dsimp only;refine ae (xU ?_);refine ao ?_;have plain0:(w.params.followText "set-order" = true\/(w.params.followText "set-order" = false/\es.size<=1))->wpAny (model prog w) A.in1 (do
   let first<-pure (rawInt 0)
   let e<-setEpoch S;let r<-newFields "set_iterator" [first,rawInt 0,Value.ref S,rawInt ↑es.size,rawInt ↑e]
   ret r) (λfin s'=>∃v,fin=Fin.done (Flow.ret v)/\∃T' r,s'.TypeIs v T'/\typeLookup (Value.type T') (jr "__next__")=pure (some r)/\Q v s') E s:=λc=>by
  refine ae (ao ?_);refine ae (la x.at_ x.d hf ?_);refine ae (dr ?_);have kk:∀(o':Obj) (b:Addr) (o:Obj),s.heap.get? b=some o->(s.heap.push o').get? b=some o:=λo' b o e=>av _ e;have it:∀ord,Md w (s.heap.push { cls:=.type "set_iterator", data:=.fields [rawInt 0,rawInt 0,Value.ref S,rawInt ↑es.size,rawInt ↑ep].toArray }) S S 0 ord es ep t (.int 0 0)->ord.Perm (L.map λq=>Value.ref q.2)->_:=λord m p=>ao (M:=model prog w) (A:=A.in1) (E:=E) (Q:=λfin s'=>∃v,fin=Fin.done (Flow.ret v)/\∃T' r,s'.TypeIs v T'/\typeLookup (Value.type T') (jr "__next__")=pure (some r)/\Q v s') ⟨.ref s.heap.objs.size,rfl,"set_iterator", _,⟨_,aP _ rfl,rfl⟩,ql.lookup,hQ _ s.heap.objs.size S ord s.drawn (aw _) (by rw[bR];exact cf _) (aE hlt) (.inl rfl) (kk _) ⟨⟨_,.int 0 0,aP _ rfl,rfl,rfl,m⟩,kk _ _ _ x.at_,x.d,hf⟩ p⟩;rcases c with c|⟨c1,c2⟩
  ·exact it _ (.txt c rfl) (((Bx _ es).map _).trans x.p)
  ·exact it _ (.one c1 c2 (by rw[x.led,c1];rfl) (λ_=>rfl) (λj e=>by cases e) rfl) x.p
 cases c:w.params.followText "set-order" with
 |true=>rw[af (by simp)];exact plain0 (.inl c)
 |false=>
  by_cases h1:es.size<=1
  ·rw[af λhh=>by
    have:(!false&&(!t.plain&&decide (es.size > 1)))=true:=hh;simp at this;omega]
   exact plain0 (.inr ⟨c,h1⟩)
  ·have pl:t.plain=false:=x.pl (by have:=x.sz;omega);rw[ag (by show (!false&&(!t.plain&&decide (es.size > 1)))=true;rw[pl];simp;omega)];refine ae (Gu es.size _ s bO λys d p=>?_);refine ae (wpAny_newTuple ?_ (by
    rw[ah,p.length_eq,bO,x.sz,hl,aT];obtain⟨m,T,c⟩:=x.c;rcases c with ⟨_,c⟩|⟨_,c⟩<;>omega))
   refine ae (la (av _ x.at_) x.d hf ?_);refine ae (dr ?_);have kk:∀(o1 o2:Obj) (b:Addr) (o:Obj),s.heap.get? b=some o->((s.heap.push o1).push o2).get? b=some o:=λo1 o2 b o e=>av _ (av _ e);have ord:(ys.filterMap λp=>es[p]?.map bp).Perm (L.map λq=>Value.ref q.2):=by refine(p.filterMap _).trans ?_;rw[show (aF es.size).filterMap (λp=>es[p]?.map bp)=((aF es.size).filterMap λp=>es[p]?).map bp from(kH ..).symm,gZ];exact x.p
   refine ao ⟨_,rfl,"set_iterator", _,⟨_,aP _ rfl,rfl⟩,ql.lookup,hQ _ _ s.heap.objs.size _ d ?_ ?_ ?_ (.inr (aw _)) (kk _ _) ⟨⟨_,.ref s.heap.objs.size,aP _ rfl,rfl,rfl,.drw c (av _ (aP _ rfl)) rfl rfl rfl p rfl⟩,kk _ _ _ _ x.at_,x.d,hf⟩ ord⟩
   ·rw[bR];exact dG _
   ·exact Nat.lt_of_lt_of_eq (cf _) (bR _ _).symm
   ·rw[bR];exact aE (cf _)
end
section
variable{prog:aq}{w:ak}{A:ar}{E:aa->ab->Prop}{s:ab}{S:Addr}{o:Obj}{es:Array (Int×aa)}{ep:Nat}{t:bj}{L:List (List Key×Addr)}{n:Nat}
theorem uX.kept{h:Heap}(x:uX h S L led n o es ep t)(k:∀o,h.get? S=some o->h'.get? S=some o):uX h' S L led n o es ep t:={ x with at_:=k _ x.at_ }
theorem Ef{Q:List aa->ab->Prop}(hh:A.handled=none)(x:uX s.heap S L (!w.params.followText "set-order") n o es ep t)(hl:L.length=n)
  (hQ:∀h2 k2 d2 acc,s.heap.objs.size<=h2.objs.size->(∀b o,s.heap.get? b=some o->h2.get? b=some o)->acc.Perm (L.map λq=>Value.ref q.2)->Q acc { s with heap:=h2,toks:=k2,drawn:=d2 }):wpAny (model prog w) A (collect (.ref S)) Q E s:=by
 have hlt:=ay x.at_;have n9:n<=9:=by obtain⟨m,T,c⟩:=x.c;rcases c with ⟨_,c⟩|⟨_,c⟩<;>omega
 let lO:Obj:={ cls:=.type "list", data:=.seq ([]:List aa).toArray };unfold collect;refine ae (iX (cu j4 ?_));rw[cH j5 _];show wpAny _ A.in1 (newList []>>=λl=>again (.builtin "list.__iadd__" ⟨[l,.ref S],[]⟩)) _ _ s;refine ae (dr ?_);refine ao ⟨dD gm _,cu kQ ?_⟩;rw[cH gm _];show wpAny _ A.in1 (fT (.ref s.heap.objs.size) (.ref S) (.ref s.heap.objs.size)) _ _ _;have ez:(s.heap.push lO).objs.size=s.heap.objs.size+1:=bR _ _;have x1:uX (s.heap.push lO) S L (!w.params.followText "set-order") n o es ep t:=x.kept λo e=>av _ e;have T1:fF { s with heap:=s.heap.push lO } (.ref S) "set" := ⟨o,x1.at_,x.ex.1⟩;unfold fT;refine ae (fJ T1 ?_);rw[af (by
  have:fX (.ref s.heap.objs.size) (.ref S)=false:=by simp[fX];exact λe=>ai e (cM hlt)
  rw[this];decide)]
 refine ae (R7 (s:={ s with heap:=s.heap.push lO }) x1 hl λh3 I TP ord d3 hI1 hI2 hTI hTP kk it po=>?_);have hI:s.heap.objs.size+1<=I:=by rw[<-ez];exact hI1
 have L3:h3.get? s.heap.objs.size=some lO:=kk _ _ (aP _ rfl);have T3:fF { s with heap:=h3,drawn:=d3 } (.ref S) "set" := ⟨o,it.at_,x.ex.1⟩;have K3:∀b o,s.heap.get? b=some o->h3.get? b=some o:=λb o e=>kk b o (av _ e);show wpAny _ A.in1 (holding [.ref I] (fU (.ref S))>>=_) _ _ { s with heap:=h3,drawn:=d3 };refine ae (bY ?_);unfold fU;refine ae (gA T3 F.slot_set_len.lookup ?_);generalize hid:("set.__len__" : String)=id0;wp_delta;rw[show splitId id0=some ("set", "__len__") from by subst hid;decide +kernel];subst hid;refine ae (iM T3 sub_set_self ?_);dsimp only;rw[af (by decide),ag (by decide +kernel)];refine ae (fJ T3 ?_);refine ao ?_;rw[ag (by decide +kernel)];refine ae (wpAny_rule ?_);refine ae ?_;show wpAny _ A.in1 (updateSeq s.heap.objs.size (·.push .none)>>=λ_=>updateSeq s.heap.objs.size (·.pop)) _ _ _
 refine ae (fA L3 rfl ?_);have S2:=cG (bH (·.push Value.none)) L3 rfl
 refine fA S2 rfl ?_;have S3:=cG (bH (·.pop)) S2 rfl
 have oth:∀b o,b≠s.heap.objs.size->h3.get? b=some o->((h3.update s.heap.objs.size (bH (·.push Value.none))).update s.heap.objs.size (bH (·.pop))).get? b=some o:=
  λb o hb e=>(di _ _ (bI hb)).trans ((di _ _ (bI hb)).trans e)
 have hSI:S≠I:=aE (bA hlt (lb hI));have hSf:s.heap.objs.size∉[I,S,TP]:=by
  intro z;rcases aD.mp z with z|z
  ·exact ai z (aE hI)
  ·rcases aD.mp z with z|z
   ·exact ai z (cM hlt)
   ·rw[aO]at z;rcases hTP with e|e
    ·exact ai (z.trans e) (cM hlt)
    ·rw[<-z,ez]at e;exact ai e (Nat.not_succ_le_self _)
 have W:=R0 (prog:=prog) (w:=w) (A:=A.in1) (I:=I) (S:=S) (TP:=TP) (ord:=ord) (o:=o) (es:=es) (ep:=ep) (t:=t) (by simp[hh]) hSI hTI;have ol:ord.length<=9:=by rw[po.length_eq,ah,hl];exact n9
 refine ao ⟨dD kq _,kj W.toS (by rw[aT];omega) _ hSf _ ord.length 0 _ _ _ rfl (aY _)
  (W.frame 0 h3 _ ⟨it,aY _⟩ λb hb o e=>oth b o (λz=>hSf (by rw[<-z];exact hb)) e) S3 (l5 _) λs' acc' c' hm hS' hacc=>?_⟩
 show wpAny _ A (load s.heap.objs.size>>=_) _ _ s';refine ae (jB hS' ?_);have ea:acc'.toList=ord:=by
  apply iy;intro j;cases e:acc'.toList[j]? with
  |none=>rw[List.getElem?_eq_none_iff,aW,hacc.1]at e;exact(dR e).symm
  |some v=>rw[dj]at e;exact(hacc.2 j v e).symm
 obtain⟨h2,g2,d2,k2,o2⟩:=s';have eg:g2=s.gens:=hm.gens;have eo:o2=s.os:=hm.os;subst eg eo;refine ao (hQ h2 k2 d2 acc'.toList (eJ (ay hS')) (λb o e=>?_) (by rw[ea];exact po));have hb:=ay e;exact hm.heap b o (λz=>by
  rcases aD.mp z with z|z
  ·exact ai z (aE hb)
  ·exact ai (aO.mp z) (aE (bA hb (lb hI)))) (oth b o (aE hb) (K3 b o e))
end
end L4
namespace L4
open PySem PySem.Spec PySem.Calls PyProof.Rows PySem.W L2 L3
theorem Eg{α β:Type}(f:α->β):∀{L:List α} {l:List β},l.Perm (L.map f)->∃L':List α,L'.Perm L/\l=L'.map f
 |[],l,h=>⟨[],.refl _,by rw[bS]at h;exact h.eq_nil⟩
 |a::L,l,h=>by
  have ha:f a∈l:=h.mem_iff.mpr (by rw[au];exact aQ);obtain⟨s,t,rfl⟩:=kG ha;have h2:(s++t).Perm (L.map f):=by have:=(gu (l₁:=s) (l₂:=t) (a:=f a)).symm.trans h;rw[au]at this;exact this.cons_inv
  obtain⟨L',p,e⟩:=Eg f h2;refine⟨L'.take s.length++a::L'.drop s.length,?_,?_⟩
  ·refine gu.trans (List.Perm.cons a ?_);rw[ka];exact p
  ·rw[aS,au,eI,eG,<- e];simp
variable{its:List aa}{ks:List (List Str)}
section
variable{prog:aq}{w:ak}{A:ar}{E:aa->ab->Prop}{s:ab}
theorem HZ{l:Addr}{n:Nat}{P:jI->ab->Prop}(hu:A.units+8<cLine)(h1:0<its.length)(h64:its.length<64)
  (item:∀i,i<its.length->∃a p q t v,its[i]?=some (.ref a)/\ks.getD i []=[p,q]/\dg s.heap a #[.str p t,.str q v]) (ho:s.heap.get? l=some (seqObj "list" its.toArray n))
  (h:∀h' e,sE l s.heap h'->h'.get? l=some (seqObj "list" (vL (λi j=>pS (ks.getD i []) (ks.getD j [])) its).toArray e)->P (.done (.ret .none)) { s with heap:=h' }):
  wpAny (model prog w) A (bU.«list.sort» ⟨[.ref l],[]⟩) P E s:=by
 have item':∀{h':Heap},sE l s.heap h'->It2 h' its ks:=λ{h'} kk i hi=>by
  obtain⟨a,p,q,t,v,e1,e2,o,o1,o2,n,o3⟩:=item i hi;have hne:a≠l:=λe=>by subst e;rw[ho]at o1;cases o1;exact ai (Value.type.inj o2) (by decide)
  exact⟨a,p,q,t,v,by rw[bc,e1];rfl,e2,⟨o,kk a o hne o1,o2,n,o3⟩,e1⟩
 refine D1 (κ:=tuples' true) (c:=λi j=>pS (ks.getD i []) (ks.getD j [])) ho h1 h64 (λh' C kk hC=>Bt (s:={ s with heap:=h' }) (item' kk) h1 hC) (λh' i j C kk hij hC=>D6 (s:={ s with heap:=h' }) (item' kk) hij hC) h
abbrev TkS(k:List Str):List Key:=k.map Sum.inr
def KG(ks:List (List Str))(vs:List aa):List aa:=if vs=[]then []else vL (λi j=>pS (ks.getD i []) (ks.getD j [])) vs
theorem KH{l:Addr}{n:Nat}{P:jI->ab->Prop}(hu:A.units+8<cLine)(h64:its.length<64)
  (item:∀i,i<its.length->∃a p q t v,its[i]?=some (.ref a)/\ks.getD i []=[p,q]/\dg s.heap a #[.str p t,.str q v]) (ho:s.heap.get? l=some (seqObj "list" its.toArray n))
  (h:∀h' e,sE l s.heap h'->h'.get? l=some (seqObj "list" (KG ks its).toArray e)->P (.done (.ret .none)) { s with heap:=h' }):
  wpAny (model prog w) A (bU.«list.sort» ⟨[.ref l],[]⟩) P E s:=by
 unfold KG at h;by_cases h0:its=[]
 ·subst h0;rw[ag rfl]at h;refine list_sort_treeK strKind_oneLt ho PyProof.Rows.StrsAre.nil.keysOf (λv₁ v₂ rest e=>by cases e) (by decide) λst' a1 a2=>?_;obtain⟨ss',b1,b2,b3⟩:=sorted_out_str PyProof.Rows.StrsAre.nil a1 a2;have e0:ss'=[]:=b2.eq_nil;subst e0;have e1:((arrOf st').map (·.2))=#[]:=by cases b1':((arrOf st').map (·.2)).toList with
   |nil=>exact Array.toList_eq_nil_iff.mp b1'
   |cons a b=>rw[b1']at b1;cases b1
  obtain⟨e,he⟩:=sortedHeap_at (vs:=[]) (out:=(arrOf st').map (·.2)) ho
  rw[e1]at he ⊢;exact h _ e (λb o hb z=>by rw[sortedHeap_old hb (ay z)];exact z) he
 ·rw[af h0]at h;exact HZ hu (dq.mpr h0) h64 item ho h
end
variable{Q:aa->ab->Prop}
section
variable{prog:aq}{w:ak}{A:ar}{E:aa->ab->Prop}{s:ab}
theorem Fm{S:Addr}{o:Obj}{es:Array (Int×aa)}{ep:Nat}{t:bj}{L:List (List Str×Addr)}{n:Nat}(hh:A.handled=none)(hu:A.units+64<cLine)(hl:L.length=n)(x:uX s.heap S (L.map λq=>(TkS q.1,q.2)) (!w.params.followText "set-order") n o es ep t)
  (tk:∀q∈L,∃p r,q.1=[p,r]/\TK prog w s.heap (TkS q.1) q.2)
  (hQ:∀(L':List (List Str×Addr)) (p:Addr) (h2:Heap) (k2:Nat) (d2:Drawn) (e:Nat),L'.Perm L->s.heap.objs.size<=p->(∀b o,s.heap.get? b=some o->h2.get? b=some o)->h2.get? p=some (seqObj "list" (KG (L'.map aG) (L'.map λq=>Value.ref q.2)).toArray e)->Q (.ref p) { s with heap:=h2,toks:=k2,drawn:=d2 }):
  wpAny (model prog w) A (call (.builtin "sorted") [.ref S]) Q E s:=by
 have n9:n<=9:=by obtain⟨m,T,c⟩:=x.c;rcases c with ⟨_,c⟩|⟨_,c⟩<;>omega
 refine gY jx jn jo (jq _) ?_;unfold bU.«sorted»;refine ae (m:=checkCount "sorted" 1 1 _) (ao ?_);refine ae (Ef (by simp[hh]) x (by rw[ah];exact hl) λg k2 d2 acc hz kk pa=>?_);rw[aJ]at pa;obtain⟨L',pL,rfl⟩:=Eg (λq:List Str×Addr=>Value.ref q.2) pa;have len:(L'.map λq=>Value.ref q.2).length=n:=by rw[ah,pL.length_eq,hl]
 refine ae (gB ?_ (by rw[len,aT];omega));have on:(g.push (seqObj "list" (L'.map λq=>Value.ref q.2).toArray 0)).get? g.objs.size=some (seqObj "list" (L'.map λq=>Value.ref q.2).toArray 0):=aP _ rfl;show wpAny _ _ _ _ _ { s with heap:=g.push (seqObj "list" (L'.map λq=>Value.ref q.2).toArray 0),toks:=k2,drawn:=d2 };refine ae (bY (eh ja ⟨_,on,rfl⟩ iR ?_ (jb _)));refine KH (s:={ s with heap:=g.push (seqObj "list" (L'.map λq=>Value.ref q.2).toArray 0),toks:=k2,drawn:=d2 }) (ks:=L'.map aG) (by show A.units+1+1+8<cLine;omega) (by omega) (λi hi=>?_) on λh' e kb he=>?_
 ·rw[ah]at hi;obtain⟨p,r,e1,t1⟩:=tk L'[i] (pL.mem_iff.mp (bP hi));obtain⟨ob,its,nn,o1,o2,o3,ia⟩:=t1;rw[e1]at ia;cases hl:its.toList with
  |nil=>rw[hl]at ia;cases ia
  |cons v1 r1=>
   rw[hl]at ia;cases ia with
   |cons a1 a2=>
    cases a2 with
    |@cons _ v2 _ r2 b1 b2=>
     cases b2;obtain⟨u1,rfl⟩:∃t,v1=.str p t:=wU a1;obtain⟨u2,rfl⟩:∃t,v2=.str r t:=wU b1;have ei:its=#[.str p u1,.str r u2]:=by rw[<-Array.toList_inj,hl]
     refine⟨L'[i].2,p,r,u1,u2,by rw[aK,az hi];rfl,by rw[bc,aK,az hi];exact e1,ob,av _ (kk _ _ o1),o2,nn,by rw[o3,ei]⟩
 ·exact⟨_,rfl,ao ⟨_,rfl,hQ L' g.objs.size h' k2 d2 e pL hz (λb o z=>kb b o (aE (ay (kk b o z))) (av _ (kk b o z))) he⟩⟩
end
section
variable{X:Cx}{G:Bg}{H:Hp}{pins:List (Addr×Obj)}{σ:St}{s:ab}
theorem Inv.drw(I:Inv X pins σ H s)(d:Drawn):Inv X pins σ H { s with drawn:=d }:=⟨I.ok,I.os,I.bare,I.base,I.loc,I.cell,I.free,I.freeC,I.pin,I.hok,I.len⟩
def z7(ks:List (List Str))(xs:List V):List V:=if xs=[]then []else (xO (λi j=>pS (ks.getD i []) (ks.getD j [])) xs.length).map λi=>xs.getD i V.non
theorem Uj{A:ar}{E:aa->ab->Prop}{a:Addr}{L:List (List Str×Addr)}(I:Inv X pins σ H s)(hh:A.handled=none)(hu:A.units+8<cLine)(hq:SqL X.K H a (L.map λq=>V.ref q.2))(h8:L.length<=8)(nd:(L.map aG).Nodup)
  (ht:∀q∈L,∃p r,q.1=[p,r]/\SqT X.K H q.2 [.str p,.str r])
  (h:∀h2 k2 o es ep t,uX h2 s.heap.objs.size (L.map λq=>(TkS q.1,q.2)) (!X.w.params.followText "set-order") L.length o es ep t->(∀b o,b<s.heap.objs.size->s.heap.get? b=some o->h2.get? b=some o)->Q (.ref s.heap.objs.size) { s with heap:=h2,toks:=k2 }):
  wpAny (model X.prog X.w) A (call (.type "set") [.ref a]) Q E s:=by
 have h3:A.in1.in1.in1.handled=none:=by simp[hh]
 obtain⟨its,r,pp,_⟩:=I.list hq;obtain⟨o,ho,hc,n,hd⟩:=pp.isList;have hne:a≠s.heap.objs.size+1:=aE (cp (ay ho));have tk:∀q∈L,TK X.prog X.w s.heap (TkS q.1) q.2:=λq hq=>by obtain⟨p,r,e,h1⟩:=ht q hq;rw[e];exact Om (ks:=[.inr p,.inr r]) I h1
 have li:L.length=its.length:=by have:=r.length;rw[ah]at this;exact this
 have ev:∀(i:Nat) (v:aa),its[i]?=some v->∃q,L[i]?=some q/\v=.ref q.2:=λi v e=>by
  have hi:i<L.length:=by rw[li];exact(bx.mp e).1
  obtain⟨u,e2,ru⟩:=r.get (i:=i) (x:=V.ref L[i].2) (by rw[aK,az hi];rfl);rw[e]at e2;cases e2;exact⟨L[i],az hi,ru⟩
 have notin:s.heap.objs.size∉[s.heap.objs.size+1,a]:=by
  intro z;rcases aD.mp z with z|z
  ·exact ai z (aE (cf _))
  ·exact ai (aO.mp z) (cM (ay ho))
 let PS:Heap->Prop:=λh2=>∃o es ep t,uX h2 s.heap.objs.size (L.map λq=>(TkS q.1,q.2)) (!X.w.params.followText "set-order") L.length o es ep t;refine zR (PS:=PS) ho hc F.sub_list_set kg (by decide) (itO:={ cls:=.type "list_iterator", data:=.fields #[.ref a,.int 0 0] })
  (λA Q E s1 e k=>fo ⟨o,e,hc,n,hd⟩ k) (λtk' R hR=>?_) λh2 k2 ⟨o,es,ep,t,x⟩ kk=>h h2 k2 o es ep t x kk
 have ke:∀{b:Addr} {o':Obj},s.heap.get? b=some o'->((s.heap.push (ub (!X.w.params.followText "set-order"))).push { cls:=.type "list_iterator", data:=.fields #[.ref a,.int 0 0] }).get? b=some o':=λe=>av _ (av _ e);have it:((s.heap.push (ub (!X.w.params.followText "set-order"))).push { cls:=.type "list_iterator", data:=.fields #[.ref a,.int 0 0] }).get? (s.heap.objs.size+1)=some { cls:=.type "list_iterator", data:=.fields #[.ref a,.int 0 0] }:=by rw[show s.heap.objs.size+1=(s.heap.push (ub (!X.w.params.followText "set-order"))).objs.size from(bR _ _).symm];exact aP _ rfl
 refine HY (S:=s.heap.objs.size) (led:=!X.w.params.followText "set-order") (gQ h3 _ a hne its.toArray).toS notin (by show A.units+1+1+1<cLine;omega) (L.map λq=>(TkS q.1,q.2)) (by rw[ah,aI,li]) (by rw[aI];omega) ?_ ?_ ?_ ?_ (its.toArray.size - 0) 0 _ (ub (!X.w.params.followText "set-order")) #[] 0 (.fresh 0 0 (!X.w.params.followText "set-order")) rfl (aY _) ⟨⟨_,it,rfl,rfl⟩,⟨o,ke ho,hc,n,hd⟩⟩ ?_ ?_ λs2 o2 es2 ep2 t2 mv S2=>?_
 ·rw[aJ,show (aG∘λq:List Str×Addr=>(TkS q.1,q.2))=λq=>TkS q.1 from rfl];have:(L.map λq=>TkS q.1)=(L.map aG).map TkS:=by rw[aJ];rfl
  rw[this];exact lg _ (λx y hxy e=>hxy ((List.map_inj_right λ_ _ h=>gG h).mp e)) nd
 ·intro q hq;obtain⟨r,hr,rfl⟩:=aM.mp hq;obtain⟨p,z,e,_⟩:=ht r hr;exact⟨p,[.inr z],by show TkS r.1=_;rw[e];rfl⟩
 ·intro q hq z;obtain⟨r,hr,rfl⟩:=aM.mp hq;obtain⟨ob,_,_,e,_⟩:=tk r hr;have:=ay e;rcases aD.mp z with z|z
  ·exact ai z (aE this)
  ·exact ai (aO.mp z) (aE (cp this))
 ·intro i v e;rw[hJ]at e;obtain⟨q,e1,e2⟩:=ev i v e;exact⟨(TkS q.1,q.2),by rw[aK,e1];rfl,e2⟩
 ·intro q hq;obtain⟨r,hr,rfl⟩:=aM.mp hq;exact(tk r hr).kept λo=>ke
 ·exact⟨av _ (aP _ rfl),⟨rfl,rfl,rfl⟩,rfl,⟨7,⟨rfl,rfl,rfl⟩,.inl ⟨rfl,by decide⟩⟩,rfl,λz=>ai z (by decide),.nil⟩
 ·obtain⟨h2,g2,d2,k2,o2'⟩:=s2;have eg:g2=s.gens:=mv.gens;have ed:d2=s.drawn:=mv.drawn;have eo:o2'=s.os:=mv.os;subst eg ed eo;have el:its.toArray.size=L.length:=by rw[aI,li]
  rw[el]at S2;refine hR h2 k2 ⟨o2,es2,ep2,t2,S2⟩ λb o hb e=>mv.heap b o (λz=>?_) (ke e);rcases aD.mp z with z|z
  ·exact ai z (aE hb)
  ·exact ai (aO.mp z) (aE (cp hb))
end
variable{e:Expr}{f:FE}
section
variable{X:Cx}{G:Bg}{H:Hp}{pins:List (Addr×Obj)}{σ:St}{s:ab}
def Eh(K:aj)(te:TE):TE:=λσ H Q=>te σ H λx H1=>∃(a:Addr) (L:List (List Str×Addr)),x=.ref a/\SqL K H1 a (L.map λq=>V.ref q.2)/\L.length<=8/\(L.map aG).Nodup/\(∀q∈L,∃p r,q.1=[p,r]/\SqT K H1 q.2 [.str p,.str r])/\
 ∀(L':List (List Str×Addr)) (p:Addr),L'.Perm L->H1 p=none->Q (.ref p) (upd H1 p (.lst (z7 (L'.map aG) (L'.map λq=>V.ref q.2))))
theorem By:∀l:List (List Str×Addr),Vals (l.map λq=>V.ref q.2) (l.map λq=>Value.ref q.2)
 |[]=>.nil
 |q::l=>.cons rfl (By l)
theorem Fn{te:TE}{p1 p2 p3 p4:Pos}(hu:X.A.units+64<cLine)(hc:X.calm=true)(g1:Gl X "sorted")(m1:X.mg "sorted" = none)(g2:Gl X "set")(m2:X.mg "set" = none)(he:PE X e te)
  (z1:starEach [Expr.Call (.Name "set" p2) [e] [] p3] X.env=[(false,eval (.Call (.Name "set" p2) [e] [] p3) X.env)]:=by rfl) (z2:starEach [e] X.env=[(false,eval e X.env)]:=by rfl):PE X (.Call (.Name "sorted" p1) [.Call (.Name "set" p2) [e] [] p3] [] p4) (Eh X.K te):=by
 intro pins s σ H Q I h;refine cK (tT I g1 m1 jy ?_ (by decide) (by decide));refine callWith_builtin1 ?_ z1 rfl;rw[z1];show wpAny _ _ (spliced [(false,eval (.Call (.Name "set" p2) [e] [] p3) X.env)]) _ _ s;refine cU ?_;refine cK (tT I g2 m2 Pv.boot_set ?_ (by decide) (by decide));refine callWith_type1 (thn (oH he rP z2 p3 pins s σ H (λvs H1=>match vs with
  |[x]=>∃(a:Addr) (L:List (List Str×Addr)),x=.ref a/\SqL X.K H1 a (L.map λq=>V.ref q.2)/\L.length<=8/\(L.map aG).Nodup/\(∀q∈L,∃p r,q.1=[p,r]/\SqT X.K H1 q.2 [.str p,.str r])/\
    ∀(L':List (List Str×Addr)) (p:Addr),L'.Perm L->H1 p=none->Q (.ref p) (upd H1 p (.lst (z7 (L'.map aG) (L'.map λq=>V.ref q.2))))
  |_=>False) I h) λus s1 ⟨vs,H1,I1,r1,q1⟩=>?_) z2 rfl
 match vs,r1,q1 with
 |[x],r1,q1=>
 obtain⟨a,L,e1,hq,h8,nd,ht,q⟩:=q1;subst e1;obtain⟨u,rfl,ru⟩:=vals1 r1;cases ru;refine Uj I1 (I1.ok.hd hc) (by omega) hq h8 nd ht λh2 k2 o es ep t x kk=>?_;refine dU ?_;have I2:Inv X pins σ H1 { s1 with heap:=h2,toks:=k2 }:=I1.kept λb o e=>kk b o (ay e) e;refine Fm (s:={ s1 with heap:=h2,toks:=k2 }) (L:=L) (I1.ok.hd hc) hu rfl x (λr hr=>?_) λL' p h3 k3 d3 e pL hp k4 hg=>?_
 ·obtain⟨p,z,e,h1⟩:=ht r hr;refine⟨p,z,e,?_⟩;rw[e];exact Om (ks:=[.inr p,.inr z]) I2 h1
 ·have I3:=I2.laid (t':=k3) (o:=.lst (z7 (L'.map aG) (L'.map λq=>V.ref q.2))) k4 hp (by
   refine⟨?_,KG (L'.map aG) (L'.map λq=>Value.ref q.2),e,?_,hg⟩
   ·unfold z7;split
    ·exact aY _
    ·rename_i hne;have hn:0<(L'.map λq=>V.ref q.2).length:=dq.mpr hne;rw[ah,(vC _ hn).length_eq,bO,ah,pL.length_eq,aT];omega
   ·unfold z7 KG;by_cases hL:L'=[]
    ·subst hL;exact .nil
    ·rw[af (by simpa using hL),af (by simpa using hL)];have hn:0<(L'.map λq=>V.ref q.2).length:=by rw[ah];exact dq.mpr hL
     unfold vL;rw[show (L'.map λq=>Value.ref q.2).length=(L'.map λq=>V.ref q.2).length by rw[ah,ah]];exact xP (By L') _ λi hi=>wZ _ hn i hi)
  exact⟨.ref p,_,Inv.drw I3 d3,rfl,q L' p pL (I2.hok.fresh hp)⟩
def pairD(k:List Str):D:=.tup (k.map D.str)
def w9(ks:List (List Str)):List (List Str):=if ks=[]then []else (xO (λi j=>pS (ks.getD i []) (ks.getD j [])) ks.length).map λi=>ks.getD i []
def rS(f:FE):FA:=λρ=>match f ρ with
 |some (.lst ds,ρ')=>match qA ds with
  |some ks=>if ks.Nodup/\ds.length<=8 then some ((w9 ks).map pairD,ρ')else none
  |none=>none
 |_=>none
theorem Cw:∀{ds:List D} {ks:List (List Str)} {xs:List V},mB G H ds xs->qA ds=some ks->∃L:List (List Str×Addr),xs=L.map (λq=>V.ref q.2)/\ks=L.map aG/\∀q∈L,∃p r,q.1=[p,r]/\SqT G.K H q.2 [.str p,.str r]
 |[],ks,xs,r,e=>by cases e;unfold mB at r;subst r;exact⟨[],rfl,rfl,λq hq=>by cases hq⟩
 |d::ds,ks,xs,r,e=>by
  unfold qA at e;cases e1:HW d with
  |none=>rw[e1]at e;cases e
  |some k=>
   cases e2:qA ds with
   |none=>rw[e1,e2]at e;cases e
   |some ks'=>
    rw[e1,e2]at e;cases e;unfold mB at r;obtain⟨v,r',rfl,q1,q2⟩:=r;obtain⟨L,rfl,rfl,h3⟩:=Cw q2 e2;obtain⟨a,p,q,rfl,rfl,h1⟩:=D7 q1 e1;refine⟨([p,q],a)::L,rfl,rfl,λz hz=>?_⟩;rcases aD.mp hz with rfl|hz
    ·exact⟨p,q,rfl,h1⟩
    ·exact h3 z hz
theorem Ei{ι:Type}{f:ι->D}{g:ι->V}:∀is:List ι,(∀i∈is,Rep G H (f i) (g i))->mB G H (is.map f) (is.map g)
 |[],_=>mV
 |i::is,h=>mW (h i aQ) (Ei is λj hj=>h j (aX _ hj))
theorem NH{ks':List (List Str)}(p:ks'.Perm ks)(nd:ks.Nodup)(h2:∀k∈ks,∃p q,k=[p,q]):w9 ks'=w9 ks:=by
 unfold w9;by_cases h:ks=[]
 ·subst h;rw[p.eq_nil]
 ·have h':ks'≠[]:=λe=>h (by subst e;exact p.symm.eq_nil);rw[af h,af h'];exact(Kt p (p.nodup_iff.mpr nd) (λk hk=>h2 k (p.mem_iff.mp hk)) (dq.mpr h'))
theorem KI{L:List (List Str×Addr)}(h:∀q∈L,∃p r,q.1=[p,r]/\SqT G.K H q.2 [.str p,.str r]):mB G H ((w9 (L.map aG)).map pairD) (z7 (L.map aG) (L.map λq=>V.ref q.2)):=by
 unfold w9 z7;by_cases hL:L=[]
 ·subst hL;exact mV
 ·rw[af (by simpa using hL),af (by simpa using hL),aJ,ah,ah];have hn:0<L.length:=dq.mpr hL;refine Ei _ λi hi=>?_;have hi:=wZ _ hn i hi;show Rep G H (pairD ((L.map aG).getD i [])) ((L.map λq=>V.ref q.2).getD i V.non);rw[bc,bc,aK,aK,az hi];show Rep G H (pairD L[i].1) (V.ref L[i].2);obtain⟨p,r,e,h1⟩:=h L[i] (bP hi);rw[e];exact vv h1 (mW (rl p) (mW (rl r) mV))
theorem Ej(h:PE X e (Eh G.K (tF G f))):PE X e (tFN G (rS f)):=PE.weak h λσ H Q hh=>by
 obtain⟨F,ρ,H0,es,ρ',R,e,k⟩:=hh;unfold rS at e;split at e
 ·rename_i ds ρ1 e1;cases e2:qA ds with
  |none=>simp only[e2]at e;cases e
  |some ks=>
   simp only[e2]at e;split at e
   ·rename_i hc;obtain⟨nd,h8⟩:=hc;cases e;refine⟨F,ρ,H0,_,_,R,e1,λv H1 H1' s R' r=>?_⟩;unfold Rep at r;obtain⟨a,xs,rfl,h1,h2⟩:=r;obtain⟨L,rfl,rfl,h3⟩:=Cw h2 e2;have hl:=mE h2;rw[ah]at hl;have two:∀k∈L.map aG,∃p q,k=[p,q]:=λk hk=>by obtain⟨q,hq,rfl⟩:=aM.mp hk;obtain⟨p,r,e,_⟩:=h3 q hq;exact⟨p,r,e⟩
    refine⟨a,L,rfl,SqL.of (R'.sub _ _ h1),by omega,nd,λq hq=>?_,λL' p pL hp=>?_⟩
    ·obtain⟨p,r,e,h4⟩:=h3 q hq;exact⟨p,r,e,SqT.mono R'.sub h4⟩
    ·have ro:=KI (G:=G) (H:=H1) (L:=L') λq hq=>h3 q (pL.mem_iff.mp hq);rw[NH (pL.map aG) nd two]at ro;exact k p _ _ _ s (R'.newOwn hp _) mF (R'.h0none hp) (R'.bNone hp) (R'.apart hp) ro
   ·cases e
 ·cases e
def qm(f:FE):FA:=λρ=>match f ρ with
 |some (.lst [],ρ')=>some ([],ρ')
 |some (.lst (d::ds),ρ')=>match zZ (d::ds)with
  |some es=>some (es,ρ')
  |none=>none
 |_=>none
def r20(K:aj):List V->Hp->VK->Prop:=λxs H Q=>(∃(a:Addr) (ys:List V) (ks:List (List Str)),xs=[.ref a]/\SqL K H a ys/\0<ys.length/\ys.length<64/\ks.length=ys.length/\(∀(i:Nat) (y:V) (k:List Str),ys[i]?=some y->ks[i]?=some k->AU K H y k)/\
  ∀p,H p=none->Q (.ref p) (upd H p (.lst ((xO (λi j=>pS (ks.getD i []) (ks.getD j [])) ys.length).map λi=>ys.getD i V.non))))\/
 ∃(a:Addr) (ss:List Str),xs=[.ref a]/\SqL K H a (ss.map V.str)/\ss.length<64/\∀p,H p=none->Q (.ref p) (upd H p (.lst ((tD ss).map V.str)))
theorem NI(hu:X.A.units+64<cLine)(hK:X.K=G.K:=by rfl):oa X (.builtin "sorted") (r20 G.K):=oa.or (AV hu hK) (AS hK)
theorem Cy(h:PE X e (tCB (r20 G.K) (tFA G (mi f mw)))):PE X e (tFN G (qm f)):=PE.weak h λσ H Q hh=>by
 obtain⟨F,ρ,H0,es,ρ',R,e,k⟩:=hh;unfold qm at e;split at e
 ·rename_i ρ1 e1;cases e;refine⟨F,ρ,H0,[.lst []],_,R,by unfold mi;rw[e1];rfl,λys H1 H1' s R' rs=>.inr ?_⟩;unfold mB at rs;obtain⟨v,r0,rfl,rv,rn⟩:=rs;unfold mB at rn;subst rn;unfold Rep at rv;obtain⟨a,xs,rfl,h1,h2⟩:=rv;unfold mB at h2;subst h2;exact⟨a,[],rfl,SqL.of (R'.sub _ _ h1),by decide,λp hp=>k p _ _ _ s (R'.newOwn hp _) mF (R'.h0none hp) (R'.bNone hp) (R'.apart hp) (by rw[show tD ([]:List Str)=[] from by simp[tD]];exact mV)⟩
 ·rename_i d ds ρ1 e1;cases e2:zZ (d::ds)with
  |none=>simp only[e2]at e;cases e
  |some es'=>
   simp only[e2]at e;cases e;unfold zZ at e2;cases e3:qA (d::ds)with
   |none=>simp only[e3]at e2;cases e2
   |some ks=>
    simp only[e3]at e2;split at e2
    ·rename_i hh;obtain⟨hn,h64⟩:=hh;cases e2;refine⟨F,ρ,H0,[.lst (d::ds)],_,R,by unfold mi;rw[e1];rfl,λys H1 H1' s R' rs=>.inl ?_⟩;unfold mB at rs;obtain⟨v,r0,rfl,rv,rn⟩:=rs;unfold mB at rn;subst rn;unfold Rep at rv;obtain⟨a,xs,rfl,h1,h2⟩:=rv;have hl:=mE h2;refine⟨a,xs,ks,rfl,SqL.of (R'.sub _ _ h1),by omega,by omega,by rw[Bu e3,hl],λi y kk q1 q2=>AU.mono R'.sub (Bv h2 e3 i y kk q1 q2),λp hp=>?_⟩;refine k p _ _ _ s (R'.newOwn hp _) mF (R'.h0none hp) (R'.bNone hp) (R'.apart hp) ?_;rw[<-hl];exact Bq h2 _ λi hi=>wZ _ hn i hi
    ·cases e2
 ·cases e
end
section
variable{X:Cx}{B:Bz}{k:Nat}{e:Expr}{f:FE}{p p2 p3 pos:Pos}
theorem R8 [C:Cz X B k][N:Nb B "sorted"][N':Nb B "set"](hs:S1 X e)(hg:Gz X "sorted")(hg':Gz X "set")(ha:ZE X B e f)(z:starEach [Expr.Call (.Name "set" p2) [e] [] p3] X.env=[(false,eval (.Call (.Name "set" p2) [e] [] p3) X.env)]):ZN X B (.Call (.Name "sorted" p) [.Call (.Name "set" p2) [e] [] p3] [] pos) (rS f):=⟨Ej (by rw[<-C.K];exact Fn C.r.units C.c hg (C.mg▸N.p) hg' (C.mg▸N'.p) ha.p z hs)⟩
theorem R9 [C:Cz X B k][N:Nb B "sorted"](hs:S1 X e)(hg:Gz X "sorted")(ha:ZE X B e f):ZN X B (.Call (.Name "sorted" p) [e] [] pos) (qm f):=⟨Cy (cbI hg (by decide) hs (NI C.r.units C.K) jy (qe ha.p rp hs))⟩
end
end L4
namespace L4
open PySem PySem.Spec PyProof.Rows L2 L3
variable{i:Nat}
section
variable{X:Cx}{G:Bg}
def KJ:D->D->Option D
 |.dic ks _,.dic [] _=>some (.bl ks.isEmpty)
 |_,_=>none
def Uk:R2:=λx y H Q=>∃a b kvs,x=.ref a/\y=.ref b/\Rd H a (.dK kvs)/\Rd H b (.dK [])/\Q (.bl kvs.isEmpty) H
theorem Sa(hu:X.A.units<cLine):OpR X (compareOp .Eq) Uk:=by
 intro pins s σ H x y v u Q I rx ry h;obtain⟨a,b,kvs,ex,ey,ea,eb,q⟩:=h;subst ex ey;cases (show v=Value.ref a from rx);cases (show u=Value.ref b from ry);obtain⟨z,hd,vs,rel,dd⟩:=vP I.hok ea;obtain⟨z',hd',vs',rel',dd'⟩:=vP I.hok eb;cases rel';refine W.keq_eq hd hd' dd dd' hu (r:=true) (λe=>?_) ?_
 ·cases vs with
  |nil=>exact .nil
  |cons _ _=>cases e
 ·refine⟨.bl kvs.isEmpty,H,I,?_,q⟩;show Value.bool _=Value.bool _;cases rel<;>rfl
theorem Sb:OpD G Uk KJ:=λx y z H0 H v u Q e s rx ry k=>by
 cases x with
 |dic ks ds=>
  cases y with
  |dic ks' ds'=>
   cases ks' with
   |nil=>
    cases e;unfold Rep at rx ry;obtain⟨p,ob,xs,rfl,h1,h2,h3⟩:=rx;obtain⟨p',ob',xs',rfl,h1',h2',h3'⟩:=ry;refine⟨p,p',ks.zip xs,rfl,rfl,.inr ⟨ob,s _ _ h1⟩,.inr ⟨ob',?_⟩,?_⟩
    ·exact s _ _ h1'
    ·have:(ks.zip xs).isEmpty=ks.isEmpty:=by
      cases ks with
      |nil=>rfl
      |cons a r=>cases xs with
       |nil=>cases h2
       |cons _ _=>rfl
     rw[this];exact k _ λ_ _=>o9 _
   |cons _ _=>cases e
  |_=>cases e
 |_=>cases e
def z8(g g':List D->List D->Option (D×List D))(i:Nat)(f:FE)(a:FA):FE:=λρ=>match f ρ with
 |some (.int 0,ρ1)=>pQ g i a ρ1
 |some (.int 1,ρ1)=>pQ g i a ρ1
 |some (.int 2,ρ1)=>pQ g' i a ρ1
 |_=>none
theorem KL{g:List D->List D->Option (D×List D)}{a:FA}{E:XK}{σ:St}{H:Hp}{Q:VK}(hh:tF G (pQ g i a) σ H Q):qV (spL G g) [] E (we G i a) σ H Q:=by
 obtain⟨F,ρ,H0,d,ρ',R,e,k⟩:=hh;unfold pQ at e;rcases mR (f:=a) (ρ:=ρ)with e1|⟨ds,ρ1,e1⟩<;>simp only[e1]at e
 ·cases e
 ·cases e2:oO ρ1 i with
  |none=>simp only[e2]at e;cases e
  |some es=>
   simp only[e2]at e;cases e3:g es ds with
   |none=>simp only[e3]at e;cases e
   |some q=>obtain⟨d1,es'⟩:=q;simp only[e3]at e;cases e;refine⟨F,ρ,H0,ds,ρ1,es,R,e1,e2,λys b H1 H1' s R' rs sb=>?_⟩;obtain⟨s,es0,es1⟩:=pI e2;obtain⟨b',xs',t1,t2,t3,t4⟩:=(R'.sl i s es0).lst es1;rw[px t1]at sb;cases sb;refine⟨b,ys,aU _,b,ys,xs',H1,es,ds,d,es',rfl,t2,t3,R'.sub,t4,rs,e3,λv zs H2 H2' u1 u2 u3 fr w0 w1 w2 w3=>?_⟩;refine k _ _ _ (mI.trans ‹mI H0 H1› u1) ?_ w3;unfold putAt;rw[es0];exact R'.call1 es0 es1 t1 u1 u2 u3 fr w0 w1 w2
theorem NJ{x y:Str}{p1 p2 p3 q1 q2 pos:Pos}{b e:Expr}{es:List Expr}{f:FE}{a:FA}{kx ky:Nat}{ps ps':List Str}{g g':List D->List D->Option (D×List D)}(hK:X.K=G.K)(Dx:sC X.prog X.w X.K X.mg X.base kx x ps (spL G g))(Dy:sC X.prog X.w X.K X.mg X.base ky y ps' (spL G g'))(rx:om kx X.A)(ry:om ky X.A)
  (hb:PE X b (tF G f)) (ha:PA X (e::es) (we G i a)) (gx:Gl X x) (gy:Gl X y) (dx:(x==("__debug__" : Str))=false) (dy:(y==("__debug__" : Str))=false) (he:starEach (e::es) X.env=(false,eval e X.env)::starEach es X.env) (hpl:(backTo pos (starEach es X.env)).any (·.1)=false) (hs:BS b)
  (z:starEach [Expr.Name x p1,.Name x p2,.Name y p3] X.env=[(false,eval (.Name x p1) X.env),(false,eval (.Name x p2) X.env),(false,eval (.Name y p3) X.env)]):
  PE X (.Call (.Subscript (.List [.Name x p1,.Name x p2,.Name y p3] q1) b q2) (e::es) [] pos) (tF G (z8 g g' i f a)):=by
 obtain⟨fx,fdx,x1,x2,x3,x4⟩:=Dx;obtain⟨fy,fdy,y1,y2,y3,y4⟩:=Dy;have hc:PE X (.Subscript (.List [.Name x p1,.Name x p2,.Name y p3] q1) b q2) (tOp (G6 X.K) (LM (sY (tC (.ref fx)) (sY (tC (.ref fx)) (sY (tC (.ref fy)) AG)))) (tF G f)):=
  IR BU (EO (oH (wz gx x1 rfl dx) (oH (wz gx x1 rfl dx) (oH (wz gy y1 rfl dy) rP rfl) rfl) rfl)) hb hs
 intro pins s σ H Q I h;show wpAny _ _ (eval (.Subscript (.List [.Name x p1,.Name x p2,.Name y p3] q1) b q2) X.env>>=λf=>callWith pos f [] (backTo pos (starEach (e::es) X.env)) (backToKw pos (keywordEach [] X.env))) _ _ s;refine ae (thn (hc pins s σ H (λv H1=>(v=.ref fx/\qV (spL G g) [] E0 (we G i a) σ H1 Q)\/(v=.ref fy/\qV (spL G g') [] E0 (we G i a) σ H1 Q)) I ?_) λu s1 ⟨v,H1,I1,rv,q⟩=>?_)
 ·obtain⟨F,ρ,H0,d,ρ',R,e,k⟩:=h;have go:∀(j:Int) (ρ1:List Sl) (gg:List D->List D->Option (D×List D)) (fa:Addr),f ρ=some (.int j,ρ1)->pQ gg i a ρ1=some (d,ρ')->atI [V.ref fx,.ref fx,.ref fy] j=some (.ref fa)->(∀H2,qV (spL G gg) [] E0 (we G i a) σ H2 Q->(V.ref fa=.ref fx/\qV (spL G g) [] E0 (we G i a) σ H2 Q)\/(V.ref fa=.ref fy/\qV (spL G g') [] E0 (we G i a) σ H2 Q))->
    tOp (G6 X.K) (LM (sY (tC (.ref fx)) (sY (tC (.ref fx)) (sY (tC (.ref fy)) AG)))) (tF G f) σ H (λv H1=>(v=.ref fx/\qV (spL G g) [] E0 (we G i a) σ H1 Q)\/(v=.ref fy/\qV (spL G g') [] E0 (we G i a) σ H1 Q)):=λj ρ1 gg fa e1 e2 e3 e4=>by
   refine⟨by rw[aT];exact bq rfl,λp hp=>?_⟩;refine⟨F,ρ,_,.int j,ρ1,R.newIm hp _,e1,λv H0' H2 s R2 r=>?_⟩;unfold Rep at r;subst r;refine⟨p,_,j,.ref fa,rfl,rfl,SqL.of (R2.sub _ _ (s _ _ mF)),e3,e4 H2 (KL ⟨F,ρ1,H0',d,ρ',R2,e2,λv H3 H3' s' R' r=>k v H3 H3' ((mL (R.h0none hp) _).trans (s.trans s')) R' r⟩)⟩
  unfold z8 at e;split at e
  ·rename_i ρ1 e1;exact go 0 ρ1 g fx e1 e rfl λH2 t=>.inl ⟨rfl,t⟩
  ·rename_i ρ1 e1;exact go 1 ρ1 g fx e1 e rfl λH2 t=>.inl ⟨rfl,t⟩
  ·rename_i ρ1 e1;exact go 2 ρ1 g' fy e1 e rfl λH2 t=>.inr ⟨rfl,t⟩
  ·cases e
 ·rcases q with ⟨rfl,q⟩|⟨rfl,q⟩
  ·cases (show u=Value.ref fx from rv);refine fH (h₀:=X.base) I.ok.mod.kin x2 (thn (ha pos pins s1 σ H1 _ I1 q) λus s2 ⟨vs,H2,I2,r,q2⟩=>⟨I2.kIn,?_⟩) he hpl;exact xy x4 rx x3 .nil wF I2 r q2
  ·cases (show u=Value.ref fy from rv);refine fH (h₀:=X.base) I.ok.mod.kin y2 (thn (ha pos pins s1 σ H1 _ I1 q) λus s2 ⟨vs,H2,I2,r,q2⟩=>⟨I2.kIn,?_⟩) he hpl;exact xy y4 ry y3 .nil wF I2 r q2
end
instance inEqE:CmC .Eq KJ:=⟨λ_ _ _ u=>⟨_,Sa (by omega),Sb⟩⟩
section
variable{X:Cx}{B:Bz}{k kx ky i:Nat}{x y:Str}{b e:Expr}{es:List Expr}{f:FE}{a:FA}{p1 p2 p3 q1 q2 pos:Pos}{g g':List D->List D->Option (D×List D)}
theorem Sd [C:Cz X B k][Q:Df B kx x (spL B.G g)][Q':Df B ky y (spL B.G g')](gx:Gz X x)(dx:Dz x)(gy:Gz X y)(dy:Dz y)(hb:ZE X B b f)(hi:Iz b)(hs:Sz X e es)(hl:Lz X pos es)(ha:ZM X B (e::es) i a)(hx:cB kx k=true)(hy:cB ky k=true)
  (z:starEach [Expr.Name x p1,.Name x p2,.Name y p3] X.env=[(false,eval (.Name x p1) X.env),(false,eval (.Name x p2) X.env),(false,eval (.Name y p3) X.env)]):
  ZE X B (.Call (.Subscript (.List [.Name x p1,.Name x p2,.Name y p3] q1) b q2) (e::es) [] pos) (z8 g g' i f a):=by
 obtain⟨ps,q⟩:=dz gx dx (X:=X) (Q:=Q);obtain⟨ps',q'⟩:=dz gy dy (X:=X) (Q:=Q');exact⟨NJ C.K q q' (C.r.mono (cy.mp hx)) (C.r.mono (cy.mp hy)) hb.p ha.p gx gy dx dy hs hl (λo i=>congrFun (congrFun hi o) i) z⟩
end
end L4
namespace L4
open PySem PySem.Spec PySem.Calls PyProof.Rows PySem.W L2 L3
noncomputable abbrev cS(s:Str):FE:=cC (.str s)
noncomputable abbrev a1(e:FE):FA:=mi e mw
section
variable{X:Cx}{G:Bg}{H:Hp}{pins:List (Addr×Obj)}{σ:St}{s:ab}
def Ul(K:aj)(H:Hp)(a:Addr)(n:Nat):Prop:=Qc K H a n\/
 ∃L:List (List Str×Addr),SqL K H a (L.map λq=>V.ref q.2)/\L.length<=8/\(L.map aG).Nodup/\(∀q∈L,∃p r,q.1=[p,r]/\SqT K H q.2 [.str p,.str r])/\n=L.length
theorem Um:Qd X Ul:=by
 intro pins σ H s A E Q a n I hh hu hq h;rcases hq with hq|⟨L,h1,h8,nd,ht,rfl⟩
 ·exact TY I hh hu hq h
 ·refine Uj I hh hu h1 h8 nd ht λh2 k2 o es ep t x kk=>h h2 k2 ⟨o,es,ep,t,x.at_,x.ex,x.d,?_,x.fits (ah _),x.sz.trans (ah _)⟩ kk;rw[x.sz,ah];unfold scanBound;omega
def CA(ds:List D):Option D:=match qA ds with
 |some ks=>if ks.Nodup/\ds.length<=8 then some (.int ds.length)else none
 |none=>none
theorem Ia(hK:X.K=G.K):∀{ds d H1 H1' a xs},CA ds=some d->SqL X.K H1' a xs->mB G H1 ds xs->mI H1 H1'->∃n:Nat,Ul X.K H1' a n/\d=.int n:=λ{ds d H1 H1' a xs} e hq h2 s=>by
 unfold CA at e;cases e2:qA ds with
 |none=>simp only[e2]at e;cases e
 |some ks=>
  simp only[e2]at e;split at e
  ·rename_i hc;cases e;obtain⟨L,rfl,rfl,h3⟩:=Cw h2 e2;have hl:=mE h2;rw[ah]at hl;refine⟨_,.inr ⟨L,hq,by omega,hc.1,λq hq=>?_,hl⟩,rfl⟩;obtain⟨p,r,e,h4⟩:=h3 q hq;rw[<-hK]at h4;exact⟨p,r,e,SqT.mono s h4⟩
  ·cases e
end
section
variable{X:Cx}{B:Bz}{k:Nat}{e:Expr}{f:FE}{p p2 p3 pos:Pos}
theorem Se [C:Cz X B k][N:Nb B "len"][N':Nb B "set"](hs:S1 X e)(hg:Gz X "len")(hg':Gz X "set")(ha:ZE X B e f)(z:starEach [Expr.Call (.Name "set" p2) [e] [] p3] X.env=[(false,eval (.Call (.Name "set" p2) [e] [] p3) X.env)]):ZE X B (.Call (.Name "len" p) [.Call (.Name "set" p2) [e] [] p3] [] pos) (c1 (wQ CA) f):=⟨Fb C.K .inl (Ia C.K) (HK Um C.r.units C.c hg (C.mg▸N.p) hg' (C.mg▸N'.p) ha.p z hs)⟩
end
end L4
namespace K27x
open PySem L2 L3 L4
abbrev D:=L4.D
def top(i:Nat):Stmt:=PySem.Challenge.pw_tellworld_k27_reads_and_changes_of_deeds.main.body.getD i (.Pass ⟨0,0,0,0⟩)
def qG:Nat->Bool:=λc=>c==14
def uY:Nat->Bool:=λc=>c==2
def uD:Nat->Bool:=λc=>c==14
def uZ:Nat->Bool:=λc=>c==14
def nL:Nat->Bool:=λc=>c==0||c==7
def rT:Nat->Bool:=λc=>c==1
def sF:Nat->Bool:=λc=>c==14
def mS:Nat->Bool:=λc=>c==0||c==1||c==2
def wg:Nat->Bool:=λc=>c==2
def pK:Nat->Bool:=λc=>c==3||c==11
def qH:Nat->Bool:=λc=>c==14
def tE:Nat->Bool:=λc=>c==14
def oq:Nat->Bool:=λc=>c==0||c==1
def tG:Nat->Bool:=λc=>c==3||c==4||c==5||c==6||c==7||c==11||c==12
def rU:Nat->Bool:=λc=>c==14
def xV:Nat->Bool:=λc=>c==6||c==12
def Ek:Nat->Bool:=λc=>c==13
def o6:Nat->Bool:=λc=>c==0
def qP:Nat->Bool:=λc=>c==14
abbrev KM:Ty->Option Bool:=Br 15 1
abbrev Gx:Ty->Option Bool:=Br 15 0
def u0:L4.D:=(D.int 8)
def u4:L4.D:=(D.int 12)
def z9:L4.D:=(D.tup [(D.str "it"),(D.str "other"),(D.str "here"),(D.str "the"),(D.str "a"),(D.str "undo"),(D.str "restart")])
def Aa:L4.D:=(D.tup [(D.str "the"),(D.str "a")])
def CB:L4.D:=(D.tup [(D.str "room"),(D.str "plain"),(D.str "fixed"),(D.str "box"),(D.str "lamp"),(D.str "you")])
def sG:L4.D:=(D.tup [(D.str "room"),(D.str "box"),(D.str "you")])
def sH:L4.D:=(D.tup [(D.str "box"),(D.str "lamp")])
def vT:L4.D:=(D.tup [(D.str "room"),(D.str "you")])
def xa:L4.D:=(D.int 5)
def vU:L4.D:=(D.int 7)
def rB:L4.D:=(D.int 4)
def u5:L4.D:=(D.int 3)
def yz:L4.D:=(D.int 10)
def xb:L4.D:=(D.int 6)
def ue:L4.D:=(D.int 4)
def rV:L4.D:=(D.tup [(D.str "the"),(D.str "a"),(D.str "undo"),(D.str "restart")])
def xc:L4.D:=(D.int 20)
def rW:FS:=(mX (pR (c1 (qg (oQ "str")) (cV 0)) (pR (pW sj sj (cC (.int 1)) (c1 oB (cV 0)) (cV 1)) (c1 sk (cL (mU 1 [] (iS (cV 0)) (gN 0) og (pW Jz Jz (cS "a") (cV 0) (cS "z"))))))))
def p6:=fnD 2 2 rW
def BA:FS:=(mX (pR (mr p6 (mi (cV 0) (a1 (cC u0)))) (c2 (dIn true) (cV 0) (cC z9))))
def vF:=fnD 1 1 BA
def BB:FS:=(mX (pR (mr p6 (mi (cV 0) (a1 (cC u4)))) (c2 (dIn true) (cV 0) (cC Aa))))
def p9:=fnD 1 1 BB
def yA:FS:=(mX (pR (c1 (qg (oQ "str")) (cV 0)) (c2 (dIn false) (cV 0) (cV 1))))
def nO:=fnD 2 2 yA
def Ab:FS:=(mX (pR (c1 (qg (oQ "int")) (cV 0)) (B8 (c1 (qg (oQ "bool")) (cV 0)))))
def wj:=fnD 1 1 Ab
def uE:FS:=(mX (pR (c1 (qg (oQ "list")) (cV 0)) (c2 sj (c1 oB (cV 0)) (cV 1))))
def ou:=fnD 2 2 uE
def Ac:FS:=(mX (cIf (cT (c1 (qg (oQ "list")) (cV 0))) (cL (uS (cV 0))) (cV 0)))
def wm:=fnD 1 1 Ac
def xf:FS:=(mx (nh 0 0 "name" (cV 1))
 (mx (nh 0 0 "words" (cV 2))
 (mx (nh 0 0 "kind" (cV 3))
 (nh 0 0 "start" (cV 4)))))
def xg:=fnI 0 4 5 xf
def yB:FS:=(mx (nh 1 0 "name" (cV 1))
 (mx (nh 1 0 "start" (cV 2))
 (nh 1 0 "most" (cV 3))))
def yC:=fnI 1 3 4 yB
def u6:FS:=(mx (nh 2 0 "name" (cV 1))
 (mx (nh 2 0 "others" (cIf (cT (c2 wb (cV 2) (cC D.non))) (nz mw) (cV 2)))
 (mx (nh 2 0 "form" (cV 3))
 (nh 2 0 "joining" (cV 4)))))
def pC:=fnI 2 4 5 u6
def BC:FS:=(mx (nh 3 0 "term" (cV 1))
 (nh 3 0 "place" (cV 2)))
def xW:=fnI 3 2 3 BC
def Ad:FS:=(nh 4 0 "term" (cV 1))
def wo:=fnI 4 1 2 Ad
def vV:FS:=(mx (nh 6 0 "term" (cV 1))
 (nh 6 0 "value" (cV 2)))
def oE:=fnI 6 2 3 vV
def yD:FS:=(mx (nh 7 0 "term" (cV 1))
 (nh 7 0 "kind" (cV 2)))
def pD:=fnI 7 2 3 yD
def yE:FS:=(nh 8 0 "word" (cV 1))
def yF:=fnI 8 1 2 yE
def Ae:FS:=(nh 9 0 "inner" (cV 1))
def pE:=fnI 9 1 2 Ae
def yG:FS:=(mx (nh 11 0 "term" (cV 1))
 (nh 11 0 "place" (cV 2)))
def oR:=fnI 11 2 3 yG
def Ag:FS:=(mx (nh 12 0 "term" (cV 1))
 (nh 12 0 "value" (cV 2)))
def pF:=fnI 12 2 3 Ag
def yH:FS:=(mx (nh 13 0 "verb" (cV 1))
 (mx (nh 13 0 "tests" (mr wm (a1 (cV 2))))
 (mx (nh 13 0 "deeds" (mr wm (a1 (cV 3))))
 (mx (nh 13 0 "text" (cV 4))
 (nh 13 0 "refuses" (cV 5))))))
def u7:=fnI 13 5 6 yH
def tH:FS:=(mX (c2 (dIn false) (c1 (mP nL "kind") (cV 0)) (cC sG)))
def tI:=fnD 1 1 tH
def nW:Nat->Option (List D->Option D):=λc=>match c with
 |0=>some tI
 |_=>none
def tJ:FS:=(mX (c2 (dIn false) (c1 (mP nL "kind") (cV 0)) (cC sH)))
def tK:=fnD 1 1 tJ
def oI:Nat->Option (List D->Option D):=λc=>match c with
 |0=>some tK
 |_=>none
def rX:FS:=(mX (c2 (dIn true) (c1 (mP nL "kind") (cV 0)) (cC vT)))
def rY:=fnD 1 1 rX
def qI:Nat->Option (List D->Option D):=λc=>match c with
 |0=>some rY
 |_=>none
def uF:FS:=(sIf (sA (cT (cV 0))) P5 m3)
def mH:=fnD 2 2 uF
def Ah:FS:=(mX (c1 oB (cL (mU 1 [1] (iL (cV 0)) (gN 0) (cT (c2 (dEq false) (c1 (mP nL "kind") (cV 0)) (cV 1))) (cV 0)))))
def uf:=fnD 2 2 Ah
def xh:FS:=(oY (mU 1 [] (iL (cV 0)) (gN 0) (cT (ni qI "is_plainly" (cV 0) mw)) (cV 0)))
def pM:=fnN 1 1 xh
def xX:FS:=(mx (sIf (rb (sA (cT (c1 (qg KM) (cV 0)))) (rb (sA (cT (mr wj (a1 (c1 (mP oq "start") (cV 0)))))) (sA (cT (mr wj (a1 (c1 (mP rT "most") (cV 0)))))))) (mX (cC (.bl false))) m3)
 (mX (pR (pW sj sj (cC (.int 1)) (c1 (mP rT "most") (cV 0)) (cC u5)) (pW sj sj (cC (.int 0)) (c1 (mP oq "start") (cV 0)) (c1 (mP rT "most") (cV 0))))))
def xY:=fnD 1 1 xX
def rZ:FS:=(mx (mT 1 (pR (c1 (qg (oQ "list")) (cV 0)) (c1 sk (cL (mU 1 [] (iL (cV 0)) (gN 0) og (c1 (qg Gx) (cV 0)))))))
 (mx (m5 (mr mH (mi (cV 1) (a1 (cS "things are a list of things")))))
 (mx (m5 (mr mH (mi (c1 sk (cL (mU 1 [] (iL (cV 0)) (gN 0) og (mr nO (mi (c1 (mP nL "kind") (cV 0)) (a1 (cC CB))))))) (a1 (cS "a thing is of no kind")))))
 (mx (m5 (mr mH (mi (pW sj sj (cC (.int 1)) (mr uf (mi (cV 0) (a1 (cS "room")))) (cC xa)) (a1 (cS "a world has 1 to 5 rooms")))))
 (mx (m5 (mr mH (mi (c2 (dEq false) (mr uf (mi (cV 0) (a1 (cS "you")))) (cC (.int 1))) (a1 (cS "a world has just one you")))))
 (m5 (mr mH (mi (c2 sj (c1 oB (cL (m6 pM (a1 (cV 0))))) (cC vU)) (a1 (cS "a world has at most 7 things beside rooms and you"))))))))))
def r6:=fnD 1 2 rZ
def sM:FS:=(mx (mT 1 (pR (mr ou (mi (cV 0) (a1 (cC rB)))) (c1 sk (cL (mU 1 [] (iL (cV 0)) (gN 0) og (mr xY (a1 (cV 0))))))))
 (m5 (mr mH (mi (cV 1) (a1 (cS "marks are a list of at most 4 marks, each from 0 to at most 3"))))))
def sN:=fnD 1 2 sM
def xi:FS:=(mX (c2 (dEq false) (c1 (wQ CA) (cV 0)) (c1 oB (cV 0))))
def n8:=fnD 1 1 xi
def sO:FS:=(mx (mT 2 (cL (pb (cL (mU 1 [] (iL (cV 0)) (gN 0) og (c1 (mP mS "name") (cV 0)))) (cL (mU 1 [] (iL (cV 1)) (gN 0) og (c1 (mP mS "name") (cV 0)))))))
 (mx (m5 (mr mH (mi (c1 sk (cL (mU 1 [] (iL (cV 2)) (gN 0) og (mr vF (a1 (cV 0)))))) (a1 (cS "a name is no name")))))
 (m5 (mr mH (mi (mr n8 (a1 (cV 2))) (a1 (cS "two things or marks have one name")))))))
def sP:=fnD 2 3 sO
def xj:FS:=(oY (pb (cL (mU 1 [] (iL (cV 0)) (gN 0) (cT (ni oI "has_mark" (cV 0) mw)) (c1 (mP mS "name") (cV 0)))) (cL (mU 1 [] (iL (cV 1)) (gN 0) og (c1 (mP mS "name") (cV 0))))))
def rD:=fnN 2 2 xj
def wq:FS:=(mx (sIf (cT (c2 (dEq false) (c1 (mP nL "kind") (cV 1)) (cS "room"))) (mX (c2 wb (c1 (mP oq "start") (cV 1)) (cC D.non))) m3)
 (mx (sIf (cT (c2 (dEq false) (c1 (mP nL "kind") (cV 1)) (cS "you"))) (mX (mr nO (mi (c1 (mP oq "start") (cV 1)) (a1 (cL (mU 1 [] (iL (cV 0)) (gN 0) (cT (c2 (dEq false) (c1 (mP nL "kind") (cV 0)) (cS "room"))) (c1 (mP mS "name") (cV 0)))))))) m3)
 (mX (mr nO (mi (c1 (mP oq "start") (cV 1)) (a1 (cL (mU 1 [] (iL (cV 0)) (gN 0) (cT (ni nW "can_hold" (cV 0) mw)) (c1 (mP mS "name") (cV 0))))))))))
def wt:=fnD 2 2 wq
def uG:FS:=(mx (mT 2 (c2 oG (cV 0) (cV 1)))
 (mx (rq (iR1 (c1 oB (cV 0))) (gN 3) (mx (sIf (cT (c2 wb (cV 2) (cC D.non))) (mX (cC (.bl true))) m3)
 (mT 2 (c2 oG (cV 0) (cV 2)))))
 (mX (c2 wb (cV 2) (cC D.non)))))
def rf:=fnD 2 4 uG
def r9:FS:=(mx (m5 (mr mH (mi (c1 sk (cL (mU 1 [0] (iL (cV 0)) (gN 0) og (mr wt (mi (cV 1) (a1 (cV 0))))))) (a1 (cS "a start is none")))))
 (mx (zO 1)
 (mx (rq (iL (cV 0)) (gN 2) (pB 1 (c1 (mP mS "name") (cV 2)) (c1 (mP oq "start") (cV 2))))
 (m5 (mr mH (mi (c1 sk (cL (mU 1 [1] (iD (cFz 1)) (gN 0) og (mr rf (mi (cV 1) (a1 (cV 0))))))) (a1 (cS "a thing starts within itself"))))))))
def se:=fnD 1 3 r9
def u9:FS:=(mx (sIf (rb (sA (cT (c1 (qg (oQ "tuple")) (cV 0)))) (sA (cT (pW sj sj (cC (.int 1)) (c1 oB (cV 0)) (cC ue))))) (mX (cC (.bl false))) m3)
 (mX (pR (c1 sk (cL (mU 1 [] (iT (cV 0)) (gN 0) og (mr p9 (a1 (cV 0)))))) (mr n8 (a1 (cV 0))))))
def va:=fnD 1 1 u9
def BD:FS:=(mX (c1 sk (cL (mU 1 [0] (iT (cV 1)) (gN 0) og (c2 (dIn false) (cV 0) (cV 1))))))
def vG:=fnD 2 2 BD
def rg:FS:=(mx (mT 2 (cL (mU 1 [1] (iL (cV 0)) (gN 0) (cT (c2 (dEq true) (c1 (mP mS "name") (cV 0)) (c1 (mP mS "name") (cV 1)))) (cV 0))))
 (mX (B8 (c1 zP (cL (mU 1 [1] (iL (cV 2)) (gN 0) og (mr vG (mi (c1 (mP o6 "words") (cV 0)) (a1 (c1 (mP o6 "words") (cV 1)))))))))))
def rh:=fnD 2 3 rg
def oJ:FS:=(mx (m5 (mr mH (mi (c1 sk (cL (mU 1 [] (iL (cV 0)) (gN 0) og (mr va (a1 (c1 (mP o6 "words") (cV 0))))))) (a1 (cS "a thing has 1 to 4 unlike words, as a tuple")))))
 (mx (mT 1 (cL (m6 pM (a1 (cV 0)))))
 (m5 (mr mH (mi (c1 sk (cL (mU 1 [1] (iL (cV 1)) (gN 0) og (mr rh (mi (cV 1) (a1 (cV 0))))))) (a1 (cS "one thing has all words of another")))))))
def oK:=fnD 1 2 oJ
def ug:FS:=(mx (mT 2 (pR (c1 (qg (oQ "list")) (cV 0)) (pR (c1 sk (cL (mU 1 [1] (iL (cV 0)) (gN 0) og (mr nO (mi (cV 0) (a1 (cV 1))))))) (mr n8 (a1 (cV 0))))))
 (m5 (mr mH (mi (cV 2) (a1 (cS "dark is a list of rooms' names, each once"))))))
def uh:=fnD 2 3 ug
def Ai:FS:=(mx (sIf (rb (sA (cT (c1 (qg (oQ "tuple")) (cV 0)))) (cT (c2 (dEq true) (c1 oB (cV 0)) (cC (.int 4))))) (mX (cC (.bl false))) m3)
 (mx (mT 3 (cOr (c2 wb (c2 dIx (cV 0) (cC (.int 3))) (cC D.non)) (mr nO (mi (c2 dIx (cV 0) (cC (.int 3))) (a1 (cV 2))))))
 (mX (pR (mr nO (mi (c2 dIx (cV 0) (cC (.int 0))) (a1 (cV 1)))) (pR (mr p9 (a1 (c2 dIx (cV 0) (cC (.int 1))))) (pR (mr nO (mi (c2 dIx (cV 0) (cC (.int 2))) (a1 (cV 1)))) (cV 3)))))))
def Aj:=fnD 3 4 Ai
def ui:FS:=(mx (mT 3 (pR (mr ou (mi (cV 0) (a1 (cC yz)))) (c1 sk (cL (mU 1 [1,2] (iL (cV 0)) (gN 0) og (mr Aj (mi (cV 0) (mi (cV 1) (a1 (cV 2))))))))))
 (mx (m5 (mr mH (mi (cV 3) (a1 (cS "ways are a list of at most 10 tuples (room, word, room, mark)")))))
 (m5 (mr mH (mi (mr n8 (a1 (cL (mU 1 [] (iL (cV 0)) (gN 0) og (nz (mi (c2 dIx (cV 0) (cC (.int 0))) (a1 (c2 dIx (cV 0) (cC (.int 1)))))))))) (a1 (cS "two ways lead from one room by one word")))))))
def rE:=fnD 3 4 ui
def vW:FS:=(mx (mT 1 (pR (mr ou (mi (cV 0) (a1 (cC xb)))) (c1 sk (cL (mU 1 [] (iL (cV 0)) (gN 0) og zQ)))))
 (m5 (mr mH (mi (cV 1) (a1 (cS "verbs are a list of at most 6 verbs"))))))
def sQ:=fnD 1 2 vW
def yI:FS:=(mX (B8 (c1 zP (cL (mU 1 [1] (iL (cV 0)) (gN 0) og (c2 (dIn false) (cV 0) (cV 1)))))))
def q8:=fnD 2 2 yI
def p8:FS:=(mx (pz 3 (mK mw))
 (mx (rq (iL (cL (m6 pM (a1 (cV 0))))) (gN 4) (m5 (yn 3 (c1 (mP o6 "words") (cV 4)))))
 (mx (pz 5 (mK mw))
 (mx (rq (iL (cV 2)) (gN 6) (m5 (yn 5 (ym (nz (a1 (c1 (mP mS "name") (cV 6)))) (c1 (mP wg "others") (cV 6))))))
 (mx (mT 7 (cL (pb (cL (mU 1 [] (iL (cV 2)) (gN 0) (cT (c2 DH (c1 (mP uY "joining") (cV 0)) (cC D.non))) (c1 (mP uY "joining") (cV 0)))) (cL (mU 1 [] (iL (cV 1)) (gN 0) og (c2 dIx (cV 0) (cC (.int 1))))))))
 (mx (m5 (mr mH (mi (mr n8 (a1 (cFz 5))) (a1 (cS "two verbs' names are alike")))))
 (mx (m5 (mr mH (mi (mr q8 (mi (cL (pb (cFz 5) (cV 7))) (a1 (cFz 3)))) (a1 (cS "a verb's, way's or joining word is a word of a thing")))))
 (mx (m5 (mr mH (mi (mr q8 (mi (cL (pb (cFz 5) (cV 7))) (a1 (cC rV)))) (a1 (cS "the, a, undo or restart is a word of the world")))))
 (m5 (mr mH (mi (mr q8 (mi (cV 7) (a1 (cFz 5)))) (a1 (cS "a way's or joining word is a verb's name")))))))))))))
def oU:=fnD 3 8 p8
def sR:FS:=(mx (m5 (mr r6 (a1 (cV 0))))
 (mx (m5 (mr sN (a1 (cV 1))))
 (mx (m5 (mr sP (mi (cV 0) (a1 (cV 1)))))
 (mx (m5 (mr se (a1 (cV 0))))
 (mx (m5 (mr oK (a1 (cV 0))))
 (mx (mT 6 (cL (mU 1 [] (iL (cV 0)) (gN 0) (cT (c2 (dEq false) (c1 (mP nL "kind") (cV 0)) (cS "room"))) (c1 (mP mS "name") (cV 0)))))
 (mx (m5 (mr uh (mi (cV 2) (a1 (cV 6)))))
 (mx (m5 (mr rE (mi (cV 3) (mi (cV 6) (a1 (cL (m6 rD (mi (cV 0) (a1 (cV 1))))))))))
 (mx (m5 (mr sQ (a1 (cV 4))))
 (m5 (mr oU (mi (cV 0) (mi (cV 3) (a1 (cL (pb (cV 4) (cV 5)))))))))))))))))
def sS:=fnD 6 7 sR
def KN:FS:=(mX (m9 13 (λds=>u7 (ds++[])) (mi (cV 0) (mi (cV 1) (mi (cV 2) (mi (cV 3) (a1 (cC (.bl false)))))))))
def sT:=fnD 4 4 KN
def BE:FS:=(mX (m9 13 (λds=>u7 (ds++[])) (mi (cV 0) (mi (cV 1) (mi (cL (mK mw)) (mi (cV 2) (a1 (cC (.bl true)))))))))
def nM:=fnD 3 3 BE
def xk:FS:=(oY (mK (mi (mr nM (mi (cS "take") (mi (cL (mK (a1 (m9 7 (λds=>pD (ds++[])) (mi (cS "it") (a1 (cS "fixed"))))))) (a1 (cS "That stays."))))) (mi (mr nM (mi (cS "take") (mi (cL (mK (a1 (m9 3 (λds=>xW (ds++[])) (mi (cS "it") (a1 (cV 0))))))) (a1 (cS "You have that."))))) (mi (mr sT (mi (cS "take") (mi (cL (mK mw)) (mi (cL (mK (a1 (m9 11 (λds=>oR (ds++[])) (mi (cS "it") (a1 (cV 0))))))) (a1 (cS "Taken.")))))) (mi (mr sT (mi (cS "drop") (mi (cL (mK (a1 (m9 4 (λds=>wo (ds++[])) (a1 (cS "it")))))) (mi (cL (mK (a1 (m9 11 (λds=>oR (ds++[])) (mi (cS "it") (a1 (cS "here"))))))) (a1 (cS "Dropped.")))))) (a1 (mr nM (mi (cS "drop") (mi (cL (mK mw)) (a1 (cS "You lack that."))))))))))))
def xl:=fnN 1 1 xk
def yJ:FS:=(oY (mK (mi (mr nM (mi (cS "put") (mi (cL (mK (a1 (m9 9 (λds=>pE (ds++[])) (a1 (m9 4 (λds=>wo (ds++[])) (a1 (cS "it")))))))) (a1 (cS "You lack that."))))) (mi (mr nM (mi (cS "put") (mi (cL (mK (a1 (m9 9 (λds=>pE (ds++[])) (a1 (m9 7 (λds=>pD (ds++[])) (mi (cS "other") (a1 (cS "box"))))))))) (a1 (cS "It holds nothing."))))) (mi (mr nM (mi (cS "put") (mi (cL (mK (a1 (m9 6 (λds=>oE (ds++[])) (mi (cS "other") (a1 (cC (.int 0)))))))) (a1 (cS "It is shut."))))) (a1 (mr sT (mi (cS "put") (mi (cL (mK mw)) (mi (cL (mK (a1 (m9 11 (λds=>oR (ds++[])) (mi (cS "it") (a1 (cS "other"))))))) (a1 (cS "Done."))))))))))))
def yK:=fnN 0 0 yJ
def yL:FS:=(oY (mK (mi (mr nM (mi (cS "open") (mi (cL (mK (a1 (m9 9 (λds=>pE (ds++[])) (a1 (m9 7 (λds=>pD (ds++[])) (mi (cS "it") (a1 (cS "box"))))))))) (a1 (cS "It has no lid."))))) (mi (mr nM (mi (cS "open") (mi (cL (mK (a1 (m9 6 (λds=>oE (ds++[])) (mi (cS "it") (a1 (cC (.int 1)))))))) (a1 (cS "It is open."))))) (mi (mr sT (mi (cS "open") (mi (cL (mK mw)) (mi (cL (mK (a1 (m9 12 (λds=>pF (ds++[])) (mi (cS "it") (a1 (cC (.int 1)))))))) (a1 (cS "Opened.")))))) (mi (mr nM (mi (cS "shut") (mi (cL (mK (a1 (m9 9 (λds=>pE (ds++[])) (a1 (m9 7 (λds=>pD (ds++[])) (mi (cS "it") (a1 (cS "box"))))))))) (a1 (cS "It has no lid."))))) (mi (mr nM (mi (cS "shut") (mi (cL (mK (a1 (m9 6 (λds=>oE (ds++[])) (mi (cS "it") (a1 (cC (.int 0)))))))) (a1 (cS "It is shut."))))) (a1 (mr sT (mi (cS "shut") (mi (cL (mK mw)) (mi (cL (mK (a1 (m9 12 (λds=>pF (ds++[])) (mi (cS "it") (a1 (cC (.int 0)))))))) (a1 (cS "Shut."))))))))))))))
def yM:=fnN 0 0 yL
def vX:FS:=(oY (mK (mi (mr nM (mi (cS "light") (mi (cL (mK (a1 (m9 9 (λds=>pE (ds++[])) (a1 (m9 7 (λds=>pD (ds++[])) (mi (cS "it") (a1 (cS "lamp"))))))))) (a1 (cS "It burns not."))))) (mi (mr nM (mi (cS "light") (mi (cL (mK (a1 (m9 6 (λds=>oE (ds++[])) (mi (cS "it") (a1 (cC (.int 1)))))))) (a1 (cS "It is lit."))))) (mi (mr sT (mi (cS "light") (mi (cL (mK mw)) (mi (cL (mK (a1 (m9 12 (λds=>pF (ds++[])) (mi (cS "it") (a1 (cC (.int 1)))))))) (a1 (cS "Lit.")))))) (mi (mr nM (mi (cS "douse") (mi (cL (mK (a1 (m9 9 (λds=>pE (ds++[])) (a1 (m9 7 (λds=>pD (ds++[])) (mi (cS "it") (a1 (cS "lamp"))))))))) (a1 (cS "It burns not."))))) (mi (mr nM (mi (cS "douse") (mi (cL (mK (a1 (m9 6 (λds=>oE (ds++[])) (mi (cS "it") (a1 (cC (.int 0)))))))) (a1 (cS "It is out."))))) (a1 (mr sT (mi (cS "douse") (mi (cL (mK mw)) (mi (cL (mK (a1 (m9 12 (λds=>pF (ds++[])) (mi (cS "it") (a1 (cC (.int 0)))))))) (a1 (cS "Doused."))))))))))))))
def vY:=fnN 0 0 vX
def yN:FS:=(mx (pz 2 (mK (mi (m9 3 (λds=>xW (ds++[])) (mi (cV 0) (a1 (c2 dIx (cV 1) (cC (.int 0)))))) (a1 (m9 8 (λds=>yF (ds++[])) (a1 (c2 dIx (cV 1) (cC (.int 1)))))))))
 (mx (sIf (cT (c2 DH (c2 dIx (cV 1) (cC (.int 3))) (cC D.non))) (m5 (tY 2 (m9 9 (λds=>pE (ds++[])) (a1 (m9 6 (λds=>oE (ds++[])) (mi (c2 dIx (cV 1) (cC (.int 3))) (a1 (cC (.int 0))))))))) m3)
 (oY (Ju 2))))
def yO:=fnN 2 3 yN
def Ak:FS:=(mx (mT 2 (cL (mU 1 [0] (iL (cV 1)) (gN 0) og (mr sT (mi (cS "go") (mi (cL (m6 yO (mi (cV 1) (a1 (cV 0))))) (mi (cL (mK (a1 (m9 11 (λds=>oR (ds++[])) (mi (cV 1) (a1 (c2 dIx (cV 0) (cC (.int 2))))))))) (a1 (cS "You go.")))))))))
 (oY (pb (cV 2) (cL (mK (a1 (mr nM (mi (cS "go") (mi (cL (mK mw)) (a1 (cS "No way there.")))))))))))
def Al:=fnN 2 3 Ak
def xm:FS:=(oY (mK (a1 (mr sT (mi (cS "wait") (mi (cL (mK mw)) (mi (cL (mK mw)) (a1 (cS "Time goes by.")))))))))
def xn:=fnN 0 0 xm
def vb:FS:=(oY (pb (cL (pb (cL (pb (cL (pb (cL (pb (cL (m6 xl (a1 (cV 0)))) (cL (m6 yK mw)))) (cL (m6 yM mw)))) (cL (m6 vY mw)))) (cL (m6 Al (mi (cV 0) (a1 (cV 1))))))) (cL (m6 xn mw))))
def pG:=fnN 2 2 vb
def vc:FS:=(oY (pb (cL (mU 1 [] (iT (nz (mi (cS "take") (mi (cS "drop") (mi (cS "open") (mi (cS "shut") (mi (cS "light") (a1 (cS "douse"))))))))) (gN 0) og (m9 2 (λds=>pC (ds++[D.non,(D.str "one"),D.non])) (a1 (cV 0))))) (cL (mK (mi (m9 2 (λds=>pC (ds++[])) (mi (cS "put") (mi (nz mw) (mi (cS "two") (a1 (cS "in")))))) (mi (m9 2 (λds=>pC (ds++[D.non])) (mi (cS "go") (mi (nz mw) (a1 (cS "way"))))) (a1 (m9 2 (λds=>pC (ds++[D.non])) (mi (cS "wait") (mi (nz mw) (a1 (cS "alone"))))))))))))
def oM:=fnN 0 0 vc
def xZ:FS:=(mx (zO 1)
 (mx (rq (iL (cV 0)) (gN 2) (pB 1 (c1 (mP mS "name") (cV 2)) (cV 2)))
 (mX (cFz 1))))
def ya:=fnD 1 3 xZ
def rj:FS:=(mx (zO 2)
 (mx (rq (iL (cV 0)) (gN 3) (sIf (cT (ni oI "has_mark" (cV 3) mw)) (pB 2 (c1 (mP mS "name") (cV 3)) (cC (.int 1))) m3))
 (mx (rq (iL (cV 1)) (gN 4) (pB 2 (c1 (mP mS "name") (cV 4)) (c1 (mP rT "most") (cV 4))))
 (mX (cFz 2)))))
def oZ:=fnD 2 5 rj
def uH:FS:=(mx (zO 1)
 (mx (rq (iL (cV 0)) (gN 2) (rq (iT (ym (nz (a1 (c1 (mP mS "name") (cV 2)))) (c1 (mP wg "others") (cV 2)))) (gN 3) (pB 1 (cV 3) (cV 2))))
 (mX (cFz 1))))
def o5:=fnD 1 4 uH
def BF:FS:=(Fe (mP Ek "verb"))
def tL:=fnD 1 3 BF
def uI:FS:=(oY (mU 1 [1] (iL (c1 (mP uD "kept_things") (cV 0))) (gN 0) (cT (c2 (dEq false) (c1 (mP nL "kind") (cV 0)) (cV 1))) (c1 (mP mS "name") (cV 0))))
def nX:=fnD 2 2 uI
def nG:Nat->Option (List D->Option D):=λc=>match c with
 |14=>some nX
 |_=>none
def sI:FS:=(oY (pb (c1 (mP uZ "kept_verbs") (cV 0)) (c1 (mP tE "shared_verbs") (cV 0))))
def qo:=fnD 1 1 sI
def pU:Nat->Option (List D->Option D):=λc=>match c with
 |14=>some qo
 |_=>none
def qp:FS:=(mx (m5 (mr sS (mi (cV 1) (mi (cV 2) (mi (cV 3) (mi (cV 4) (mi (cV 5) (a1 (cL (m6 oM mw))))))))))
 (mx (nh 14 0 "kept_things" (cL (uS (cV 1))))
 (mx (nh 14 0 "kept_marks" (cL (uS (cV 2))))
 (mx (nh 14 0 "kept_dark" (cL (uS (cV 3))))
 (mx (nh 14 0 "kept_ways" (cL (uS (cV 4))))
 (mx (nh 14 0 "kept_verbs" (cL (uS (cV 5))))
 (mx (nh 14 0 "shared_verbs" (cL (m6 oM mw)))
 (mx (nh 14 0 "your_name" (sD 15 (c2 dIx (ni nG "of_kind" (cV 0) (a1 (cS "you"))) (cC (.int 0)))))
 (mx (nh 14 0 "things_by_name" (mr ya (a1 (cV 1))))
 (mx (nh 14 0 "mosts_by_name" (mr oZ (mi (cV 1) (a1 (cV 2)))))
 (mx (nh 14 0 "verbs_by_word" (sD 15 (mr o5 (a1 (ni pU "all_verbs" (cV 0) mw)))))
 (mx (mT 7 (sD 15 (pR (mr ou (mi (cV 6) (a1 (cC xc)))) (c1 sk (cL (mU 1 [0] (iL (cV 6)) (gN 0) og zQ))))))
 (mx (m5 (mr mH (mi (cV 7) (a1 (cS "rules are a list of at most 20 rules, each as it may be")))))
 (mx (nh 14 0 "kept_rules" (cL (uS (cV 6))))
 (mx (nh 14 0 "shared_rules" (sD 15 (cL (m6 pG (mi (c1 (mP qP "your_name") (cV 0)) (a1 (cV 4)))))))
 (mx (nh 14 0 "copied_rules" (cL (mU 1 [] (iL (cV 6)) (gN 0) og zQ)))
 (nh 14 0 "rules_by_verb" (sD 15 (mr tL (a1 (cL (pb (c1 (mP qG "copied_rules") (cV 0)) (c1 (mP qH "shared_rules") (cV 0))))))))))))))))))))))))
def qq:=fnI 14 6 8 qp
def yP:FS:=(mX (c1 (mP qP "your_name") (cV 0)))
def El:=fnD 1 1 yP
def vH:Nat->Option (List D->Option D):=λc=>match c with
 |14=>some El
 |_=>none
def tM:FS:=(mX (c2 Bl (c1 (mP rU "things_by_name") (cV 0)) (cV 1)))
def pN:=fnD 2 2 tM
def qr:Nat->Option (List D->Option D):=λc=>match c with
 |14=>some pN
 |_=>none
def uJ:FS:=(mX (c2 Bl (c1 (mP sF "mosts_by_name") (cV 0)) (cV 1)))
def ox:=fnD 2 2 uJ
def o7:Nat->Option (List D->Option D):=λc=>match c with
 |14=>some ox
 |_=>none
def CC:FS:=(mx (sIf (cT (c2 (dEq false) (cV 0) (cS "it"))) (mX (cV 1)) m3)
 (mx (sIf (cT (c2 (dEq false) (cV 0) (cS "other"))) (mX (cV 2)) m3)
 (mX (cIf (cT (c2 (dEq false) (cV 0) (cS "here"))) (cC D.non) (cV 0)))))
def pV:=fnD 3 3 CC
def wu:FS:=(mx (mT 2 (ni qr "thing_of" (cV 0) (a1 (cV 1))))
 (mX (cIf (rb (cT (c2 wb (cV 2) (cC D.non))) (cT (c2 (dEq false) (c1 (mP nL "kind") (cV 2)) (cS "room")))) (cL (mK mw)) (cL (mK (a1 (nz (mi (cS "at") (a1 (cV 1))))))))))
def qJ:=fnD 2 3 wu
def xp:FS:=(mX (cIf (cT (c2 wb (ni o7 "most_of" (cV 0) (a1 (cV 1))) (cC D.non))) (cL (mK mw)) (cL (mK (a1 (nz (mi (cS "mark") (a1 (cV 1)))))))))
def pO:=fnD 2 2 xp
def yQ:FS:=(oY (mU 1 [] (iL (ni nG "of_kind" (cV 0) (a1 (cS "box")))) (gN 0) og (nz (mi (cS "at") (a1 (cV 0))))))
def sJ:=fnD 1 1 yQ
def KO:FS:=(mX (uC (cL (rS (cV 0)))))
def Fo:=fnD 1 1 KO
def Am:FS:=(mx (mT 3 (ni qr "thing_of" (cV 0) (a1 (cV 2))))
 (mX (pR (c2 (dEq true) (mr qJ (mi (cV 0) (a1 (cV 1)))) (cL (mK mw))) (pR (c2 DH (cV 3) (cC D.non)) (pR (ni nW "can_hold" (cV 3) mw) (c2 (dEq true) (cV 2) (cV 1)))))))
def vd:=fnD 3 4 Am
def An:FS:=(mX (pR (c2 (dEq true) (mr pO (mi (cV 0) (a1 (cV 1)))) (cL (mK mw))) (c2 sj (cV 2) (ni o7 "most_of" (cV 0) (a1 (cV 1))))))
def qK:=fnD 3 3 An
def uj:FS:=(mx (mT 4 (cL (mK mw)))
 (mx (sIf (cT (c2 (dIn false) (mr pV (mi (c1 (mP tG "term") (cV 0)) (mi (cV 2) (a1 (cV 3))))) (ni nG "of_kind" (cV 1) (a1 (cS "box"))))) (mT 4 (mr sJ (a1 (cV 1)))) m3)
 (mx (sIf (cT (c2 (dEq false) (c1 (mP pK "place") (cV 0)) (cS "here"))) (mT 4 (cL (pb (cV 4) (mr qJ (mi (cV 1) (a1 (ni vH "you" (cV 1) mw))))))) m3)
 (mX (mr Fo (a1 (cV 4)))))))
def um:=fnD 4 5 uj
def yR:FS:=(mX (nz mw))
def yS:=fnD 4 4 yR
def q9:Nat->Option (List D->Option D):=λc=>match c with
 |11=>some um
 |12=>some yS
 |_=>none
def sU:FS:=(mx (mT 4 (mr pV (mi (c1 (mP tG "term") (cV 0)) (mi (cV 2) (a1 (cV 3))))))
 (mx (mT 5 (cIf (cT (c2 (dEq false) (c1 (mP pK "place") (cV 0)) (cS "here"))) (c2 dIx (ni nG "of_kind" (cV 1) (a1 (cS "room"))) (cC (.int 0))) (mr pV (mi (c1 (mP pK "place") (cV 0)) (mi (cV 2) (a1 (cV 3)))))))
 (mX (cIf (cT (mr vd (mi (cV 1) (mi (cV 4) (a1 (cV 5)))))) (nz (mi (cS "at") (a1 (cV 4)))) (cC D.non)))))
def qQ:=fnD 4 6 sU
def uo:FS:=(mx (mT 4 (mr pV (mi (c1 (mP tG "term") (cV 0)) (mi (cV 2) (a1 (cV 3))))))
 (mX (cIf (cT (mr qK (mi (cV 1) (mi (cV 4) (a1 (c1 (mP xV "value") (cV 0))))))) (nz (mi (cS "mark") (a1 (cV 4)))) (cC D.non))))
def uq:=fnD 4 5 uo
def oV:Nat->Option (List D->Option D):=λc=>match c with
 |11=>some qQ
 |12=>some uq
 |_=>none
def ve:FS:=(mx (sIf (cT (c2 AM (cV 1) (c1 oB (cV 0)))) (mX (c2 dIx (cV 0) (cV 1))) m3)
 (mX (cC (.int 0))))
def oh:=fnD 2 2 ve
def xq:FS:=(mx (pz 2 (mK mw))
 (mx (mT 3 (cC (.int 0)))
 (mx (sIf (cT (c2 Pz (cV 0) (c2 yi (cC (.int 10)) (cC (.int 18))))) (mT 3 (c2 F4 (cV 0) (c2 yi (cC (.int 10)) (cC (.int 18))))) m3)
 (mx (whL (yj (qW (cT (c2 AN (cV 3) (cC (.int 0)))) (cT (c2 AM (c1 oB (cV 2)) (cV 1))))) (mx (m5 (tY 2 (c2 oP (cV 3) (c2 yi (cC (.int 10)) (cC (.int 6))))))
 (mT 3 (c2 vR (cV 3) (c2 yi (cC (.int 10)) (cC (.int 6)))))) 200)
 (mx (mT 4 (c2 oP (c2 qZ (c2 nQ (c2 oP (cV 0) (cC (.int 2147483647))) (cC (.int 1))) (cC (.int 48271))) (cC (.int 2147483647))))
 (mx (rq (iR1 (cV 1)) (gN 5) (mx (mT 4 (c2 oP (c2 qZ (c2 nQ (c2 nQ (cV 4) (c2 qZ (cC (.int 7919)) (cV 5))) (cC (.int 1))) (cC (.int 48271))) (cC (.int 2147483647))))
 (mx (mT 6 (c2 oP (c2 qZ (cV 4) (c2 nQ (c2 vR (cV 4) (cC (.int 1009))) (cC (.int 69621)))) (cC (.int 2147483647))))
 (m5 (tY 2 (c2 oP (c2 qZ (cV 6) (c2 nQ (c2 vR (cV 6) (cC (.int 2003))) (cC (.int 40692)))) (cC (.int 2147483399))))))))
 (oY (uM (cFz 2) oNo (oAt (cV 1))))))))))
def qt:=fnN 2 7 xq
def yT:FS:=(mx (sIf (yj (cT (c2 (dEq false) (cV 0) (cL (mK mw))))) (mX (cC (.int 0))) m3)
 (mX (c2 oP (F2 0) (cV 1))))
def mm:=fnM 1 2 yT
def ur:FS:=(mx (mT 1 (nD mm 0 (a1 (cC (.int 25)))))
 (mx (mT 2 (cS "bcdefghijklmnopqrstuvwxyz"))
 (oY (mU 1 [2,0,1] (iR1 (cC (.int 17))) (gN 0) og (c2 DN (c2 dIx (cV 1) (c2 oP (c2 nQ (cV 3) (c2 qZ (cC (.int 7)) (cV 0))) (cC (.int 25)))) (c2 nQ (cC (.int 1)) (nD mm 2 (a1 (cC (.int 8))))))))))
def uu:=fnM 0 3 ur
def qR:FS:=(mx (pz 3 (mK mw))
 (mx (pz 4 (pb (cV 1) (cL (mK (a1 (c2 dIx (cV 0) (cC (.int 5))))))))
 (mx (rq (iL (cL (uM (cV 0) (oAt (cC (.int 6))) (oAt (c2 nQ (cC (.int 6)) (nD mm 2 (a1 (cC (.int 8))))))))) (gN 5) (mx (mT 6 (c2 dIx (cL (mK (mi (cS "plain") (mi (cS "box") (mi (cS "lamp") (mi (cS "fixed") (mi (cS "box") (mi (cS "lamp") (mi (cS "box") (a1 (cS "plain"))))))))))) (nD mm 2 (a1 (cC (.int 8))))))
 (mx (m5 (tY 3 (nz (mi (cV 5) (mi (cV 6) (a1 (DB 4 (nD mm 2 (a1 (zL (c1 oB (cV 4))))))))))))
 (sIf (cT (c2 (dEq false) (cV 6) (cS "box"))) (m5 (tY 4 (cV 5))) m3))))
 (oY (Ju 3)))))
def o8:=fnL 2 7 qR
def vg:FS:=(mx (pz 1 (m6 qt (mi (cV 0) (a1 (cC (.int 110))))))
 (mx (mT 2 (nD uu 1 mw))
 (mx (mT 3 (cL (uM (cV 2) oNo (oAt (c2 nQ (cC (.int 1)) (nD mm 1 (a1 (cC (.int 5)))))))))
 (mx (mT 4 (cL (pb (cL (mU 1 [] (iL (cV 3)) (gN 0) og (nz (mi (cV 0) (mi (cS "room") (a1 (cC D.non))))))) (cL (mK (a1 (nz (mi (c2 dIx (cV 2) (cC (.int 5))) (mi (cS "you") (a1 (c2 dIx (cV 3) (nD mm 1 (a1 (c1 oB (cV 3)))))))))))))))
 (mx (mT 5 (cL (mK mw)))
 (mx (rq (iL (cL (pb (cV 4) (pQ o8 1 (mi (cV 2) (a1 (cV 3))))))) (gN 6) (mx (mT 7 (nD mm 1 (a1 (c2 nQ (c1 oB (cV 5)) (cC (.int 1))))))
 (mT 5 (cL (pb (cL (pb (cL (uM (cV 5) oNo (oAt (cV 7)))) (cL (mK (a1 (cV 6)))))) (cL (uM (cV 5) (oAt (cV 7)) oNo)))))))
 (mx (pz 8 (mK mw))
 (mx (rq (iL (cL (uM (cV 2) (oAt (cC (.int 13))) (oAt (c2 nQ (cC (.int 13)) (nD mm 1 (a1 (cC (.int 5))))))))) (gN 9) (mx (mT 10 (c2 nQ (cC (.int 1)) (nD mm 1 (a1 (cC (.int 3))))))
 (m5 (tY 8 (nz (mi (cV 9) (mi (nD mm 1 (a1 (c2 nQ (cV 10) (cC (.int 1))))) (a1 (cV 10)))))))))
 (mx (mT 11 (cL (mU 1 [1] (iL (cV 3)) (gN 0) (cT (c2 (dEq false) (nD mm 1 (a1 (cC (.int 2)))) (cC (.int 1)))) (cV 0))))
 (mx (mT 12 (cL (mK (mi (nz mw) (mi (nz (a1 (cS "red"))) (a1 (nz (mi (cS "old") (a1 (cS "red"))))))))))
 (mx (mT 13 (cL (mU 3 [12,1] (iL (cV 5)) (gT (mY (gN 0) (mY (gN 1) (mY (gN 2) qX))) 3) og (ym (nz (a1 (cV 0))) (c2 dIx (cV 3) (nD mm 4 (a1 (cC (.int 3)))))))))
 (mX (qk [("rows", (cV 5)),("marks", (cFz 8)),("dark", (cV 11)),("words", (cV 13)),("you", (c2 dIx (cV 2) (cC (.int 5))))])))))))))))))
def vh:=fnD 1 14 vg
def vm:FS:=(mx (mT 1 (cL (mU 3 [] (iL (c2 oG (cV 0) (cS "rows"))) (gT (mY (gN 0) (mY (gN 1) (mY (gN 2) qX))) 3) (cT (c2 (dEq false) (cV 1) (cS "room"))) (cV 0))))
 (oY (mK (mi (nz (mi (c2 dIx (cV 1) (cC (.int 0))) (mi (cS "north") (mi (c2 dIx (cV 1) (c2 F4 (c1 oB (cV 1)) (cC (.int 1)))) (a1 (cC D.non)))))) (a1 (nz (mi (c2 dIx (cV 1) (cC (.int 0))) (mi (cS "up") (mi (c2 dIx (cV 1) (cC (.int 0))) (a1 (cC D.non)))))))))))
def vn:=fnN 1 2 vm
def uv:FS:=(mx (mT 1 (cL (mU 2 [] (iZ (mi (c2 oG (cV 0) (cS "rows")) (a1 (c2 oG (cV 0) (cS "words"))))) (gT (mY (gN 0) (mY (gN 1) qX)) 2) og (m9 0 (λds=>xg (ds++[])) (mi (c2 dIx (cV 0) (cC (.int 0))) (mi (cV 1) (mi (c2 dIx (cV 0) (cC (.int 1))) (a1 (c2 dIx (cV 0) (cC (.int 2)))))))))))
 (mx (mT 2 (cL (mU 3 [] (iL (c2 oG (cV 0) (cS "marks"))) (gT (mY (gN 0) (mY (gN 1) (mY (gN 2) qX))) 3) og (m9 1 (λds=>yC (ds++[])) (mi (cV 0) (mi (cV 1) (a1 (cV 2))))))))
 (mX (m9 14 (λds=>qq (ds++[])) (mi (cV 1) (mi (cV 2) (mi (cL (uS (c2 oG (cV 0) (cS "dark")))) (mi (cL (m6 vn (a1 (cV 0)))) (mi (cL (mK mw)) (a1 (cL (mK mw))))))))))))
def uw:=fnD 1 3 uv
def BG:FS:=(oY (mU 3 [1] (iL (c2 oG (cV 0) (cS "rows"))) (gT (mY (gN 0) (mY (gN 1) (mY (gN 2) qX))) 3) (cT (c2 (dIn false) (cV 1) (cV 3))) (cV 0)))
def nI:=fnN 2 2 BG
def ux:FS:=(mx (zO 1)
 (mx (rq (iL (cL (m6 nI (mi (cV 0) (a1 (cL (mK (mi (cS "box") (a1 (cS "lamp")))))))))) (gN 2) (pB 1 (cV 2) (cC (.int 1))))
 (mx (rq (iL (c2 oG (cV 0) (cS "marks"))) (gT (mY (gN 2) (mY (gN 3) (mY (gN 4) qX))) 3) (pB 1 (cV 2) (cV 4)))
 (mX (cFz 1)))))
def nU:=fnD 1 5 ux
def qu:FS:=(mx (mT 2 (cL (m6 nI (mi (cV 0) (a1 (cL (mK (mi (cS "plain") (mi (cS "fixed") (mi (cS "box") (a1 (cS "lamp"))))))))))))
 (mx (mT 3 (nD mm 1 (a1 (cC (.int 8)))))
 (mx (sIf (rb (cT (c2 (dEq false) (cV 2) (cL (mK mw)))) (cT (c2 AN (cV 3) (cC (.int 5))))) (mX (c2 dIx (cL (mK (mi (nz (mi (cS "go") (mi (c2 dIx (cL (mK (mi (cS "north") (a1 (cS "up"))))) (nD mm 1 (a1 (cC (.int 2))))) (a1 (cC D.non))))) (a1 (nz (mi (cS "wait") (mi (cC D.non) (a1 (cC D.non))))))))) (c2 oP (cV 3) (cC (.int 2))))) m3)
 (mx (mT 4 (c2 dIx (cV 2) (nD mm 1 (a1 (c1 oB (cV 2))))))
 (mx (sIf (cT (c2 AM (cV 3) (cC (.int 2)))) (mX (nz (mi (cS "take") (mi (cV 4) (a1 (cC D.non)))))) m3)
 (mX (nz (mi (cS "put") (mi (cV 4) (a1 (c2 dIx (cV 2) (nD mm 1 (a1 (c1 oB (cV 2)))))))))))))))
def pH:=fnL 1 5 qu
def yU:FS:=(mX (c2 oG (qk [("go", (cS "way")),("wait", (cS "alone")),("take", (cS "one")),("put", (cS "two"))]) (c2 dIx (cV 0) (cC (.int 0)))))
def qa:=fnD 1 1 yU
def rF:FS:=(mx (mT 3 (cL (m6 nI (mi (cV 0) (a1 (cL (mK (mi (cS "room") (mi (cS "box") (a1 (cS "you")))))))))))
 (mx (pz 4 (mK (mi (c2 dIx (cV 3) (nD mm 2 (a1 (c1 oB (cV 3))))) (mi (c2 dIx (cV 3) (nD mm 2 (a1 (c1 oB (cV 3))))) (a1 (cS "here"))))))
 (mx (sIf (cT (c2 (dIn false) (cV 1) (cL (mK (mi (cS "one") (a1 (cS "two"))))))) (m5 (tY 4 (cS "it"))) m3)
 (mx (sIf (cT (c2 (dEq false) (cV 1) (cS "two"))) (pz 4 (pb (cFz 4) (cL (mK (mi (cS "other") (a1 (cS "other"))))))) m3)
 (mX (DB 4 (nD mm 2 (a1 (zL (c1 oB (cV 4)))))))))))
def rG:=fnL 2 5 rF
def qS:FS:=(mx (mT 3 (mr nU (a1 (cV 0))))
 (mx (mT 4 (cL (xT (cV 3))))
 (mx (sIf (qW (cT (c2 (dIn false) (cV 1) (cL (mK (mi (cS "one") (a1 (cS "two"))))))) (rb (cT (c2 (dEq false) (cV 4) (cL (mK mw)))) (cT (c2 (dEq false) (nD mm 2 (a1 (cC (.int 2)))) (cC (.int 0)))))) (mX (nz (mi (c2 dIx (cL (mK (mi (cS "it") (a1 (c2 dIx (cL (mK (mi (cS "it") (a1 (cS "other"))))) (c1 HB (c2 (dEq false) (cV 1) (cS "two")))))))) (nD mm 2 (a1 (cC (.int 2))))) (a1 (nD mm 2 (a1 (cC (.int 4)))))))) m3)
 (mx (mT 5 (c2 dIx (cV 4) (nD mm 2 (a1 (c1 oB (cV 4))))))
 (mX (nz (mi (cV 5) (a1 (nD mm 2 (a1 (c2 nQ (c2 oG (cV 3) (cV 5)) (cC (.int 1)))))))))))))
def qT:=fnL 2 6 qS
def rH:FS:=(mx (mT 3 (cL (m6 nI (mi (cV 0) (a1 (cL (mK (mi (cS "plain") (mi (cS "fixed") (mi (cS "box") (mi (cS "lamp") (a1 (cS "box")))))))))))))
 (mx (sIf (cT (c2 (dIn false) (cV 1) (cL (mK (mi (cS "one") (a1 (cS "two"))))))) (mT 3 (cL (pb (cV 3) (cL (mK (mi (cS "it") (mi (cS "it") (a1 (cS "it"))))))))) m3)
 (mx (sIf (cT (c2 (dEq false) (cV 1) (cS "two"))) (mT 3 (cL (pb (cV 3) (cL (mK (mi (cS "other") (a1 (cS "other")))))))) m3)
 (mx (sIf (rb (cT (c2 (dEq false) (cV 3) (cL (mK mw)))) (cT (c2 (dEq false) (nD mm 2 (a1 (cC (.int 6)))) (cC (.int 0))))) (mx (mT 4 (cL (m6 nI (mi (cV 0) (a1 (cL (mK (a1 (cS "room")))))))))
 (mX (nz (mi (cS "move") (mi (c2 oG (cV 0) (cS "you")) (a1 (c2 dIx (cV 4) (nD mm 2 (a1 (c1 oB (cV 4))))))))))) m3)
 (mX (nz (mi (cS "move") (mi (c2 dIx (cV 3) (nD mm 2 (a1 (c1 oB (cV 3))))) (a1 (pQ rG 2 (mi (cV 0) (a1 (cV 1)))))))))))))
def oW:=fnL 2 5 rH
def qL:FS:=(mx (sIf (qW (cT (c2 (dIn true) (cV 1) (cL (mK (mi (cS "one") (a1 (cS "two"))))))) (cT (c2 KJ (mr nU (a1 (cV 0))) (qk [])))) (mX (pQ oW 2 (mi (cV 0) (a1 (cV 1))))) m3)
 (mx (Dt (pQ qT 2 (mi (cV 0) (a1 (cV 1)))) (gT (mY (gN 3) (mY (gN 4) qX)) 2))
 (mX (nz (mi (cS "put") (mi (cV 3) (a1 (cV 4))))))))
def qM:=fnL 2 5 qL
def xt:FS:=(mx (sIf (cT (c2 (dEq false) (c2 dIx (cV 0) (cC (.int 0))) (cS "go"))) (mX (nz (mi (cC D.non) (a1 (cC D.non))))) m3)
 (mX (nz (mi (c2 dIx (cV 0) (cC (.int 1))) (a1 (c2 dIx (cV 0) (cC (.int 2))))))))
def rJ:=fnD 1 1 xt
def sf:FS:=(mx (mT 4 (vS (qk [("it", (cV 1)),("other", (cV 2))]) (c2 dIx (cV 3) (cC (.int 1))) (c2 dIx (cV 3) (cC (.int 1)))))
 (mx (sIf (cT (c2 (dEq false) (c2 dIx (cV 3) (cC (.int 0))) (cS "put"))) (mx (sIf (rb (cT (c2 (E4 true) (cV 4) (mr nU (a1 (cV 0))))) (cT (c2 AN (c2 dIx (cV 3) (cC (.int 2))) (c2 oG (mr nU (a1 (cV 0))) (cV 4))))) (mX (nz (mi (nz mw) (a1 (cC D.non))))) m3)
 (mX (nz (mi (nz mw) (a1 (nz (mi (cS "mark") (a1 (cV 4))))))))) m3)
 (mx (pz 5 (mK mw))
 (mx (sIf (cT (c2 (dIn false) (cV 4) (cL (m6 nI (mi (cV 0) (a1 (cL (mK (a1 (cS "box")))))))))) (pz 5 (mU 1 [] (iL (cL (m6 nI (mi (cV 0) (a1 (cL (mK (a1 (cS "box"))))))))) (gN 0) og (nz (mi (cS "at") (a1 (cV 0)))))) m3)
 (mx (sIf (cT (c2 (dEq false) (c2 dIx (cV 3) (cC (.int 2))) (cS "here"))) (mx (m5 (tY 5 (nz (mi (cS "at") (a1 (c2 oG (cV 0) (cS "you")))))))
 (mX (nz (mi (uC (cL (qm (cFz 5)))) (a1 (nz (mi (cS "at") (a1 (cV 4))))))))) m3)
 (mx (mT 6 (vS (qk [("it", (cV 1)),("other", (cV 2))]) (c2 dIx (cV 3) (cC (.int 2))) (c2 dIx (cV 3) (cC (.int 2)))))
 (mx (sIf (rb (cT (c2 (dEq false) (cV 6) (cV 4))) (cT (c2 (dIn true) (cV 6) (cL (m6 nI (mi (cV 0) (a1 (cL (mK (mi (cS "room") (mi (cS "box") (a1 (cS "you"))))))))))))) (mX (nz (mi (uC (cL (qm (cFz 5)))) (a1 (cC D.non))))) m3)
 (mX (nz (mi (uC (cL (qm (cFz 5)))) (a1 (nz (mi (cS "at") (a1 (cV 4)))))))))))))))
def qN:=fnD 4 7 sf
def KP:FS:=(mx (mT 1 (mr vh (a1 (mr oh (mi (cV 0) (a1 (cC (.int 0))))))))
 (mx (mT 2 (mr uw (a1 (cV 1))))
 (mx (rq (iL (cL (pb (cL (mK (a1 (mr oh (mi (cV 0) (a1 (cC (.int 1)))))))) (cL (cSl (cV 0) (some 2) (some 17)))))) (gN 3) (mx (pz 4 (m6 qt (mi (cV 3) (a1 (cC (.int 40))))))
 (mx (mT 5 (pQ pH 4 (a1 (cV 1))))
 (mx (Dt (mr rJ (a1 (cV 5))) (gT (mY (gN 6) (mY (gN 7) qX)) 2))
 (mx (mT 8 (z8 oW qM 4 (nD mm 4 (a1 (cC (.int 3)))) (mi (cV 1) (a1 (mr qa (a1 (cV 5)))))))
 (mx (sIf (cT (c2 (dEq false) (c2 dIx (cV 8) (cC (.int 0))) (cS "move"))) (mT 9 (m9 11 (λds=>oR (ds++[])) (mi (c2 dIx (cV 8) (cC (.int 1))) (a1 (c2 dIx (cV 8) (cC (.int 2))))))) (mT 9 (m9 12 (λds=>pF (ds++[])) (mi (c2 dIx (cV 8) (cC (.int 1))) (a1 (c2 dIx (cV 8) (cC (.int 2))))))))
 (mx (mT 10 (mr qN (mi (cV 1) (mi (cV 6) (mi (cV 7) (a1 (cV 8)))))))
 (mx (sIf (qW (cT (c2 (dEq false) (c2 oP (mr oh (mi (cV 0) (a1 (cC (.int 0))))) (cC (.int 2))) (cC (.int 1)))) (cT (c2 (dEq true) (ni oV "change" (cV 9) (mi (cV 2) (mi (cV 6) (a1 (cV 7))))) (c2 dIx (cV 10) (cC (.int 1)))))) (mX (cC (.bl false))) m3)
 (rq (iR1 (cC (.int 2))) (gN 11) (mx (mT 12 (nz (mi (ni q9 "reads" (cV 9) (mi (cV 2) (mi (cV 6) (a1 (cV 7))))) (a1 (ni oV "change" (cV 9) (mi (cV 2) (mi (cV 6) (a1 (cV 7)))))))))
 (sIf (rb (sA (cT (c1 (qg (oQ "tuple")) (c2 dIx (cV 12) (cC (.int 0)))))) (cT (c2 (dEq true) (cV 12) (cV 10)))) (mX (cC (.bl false))) m3)))))))))))
 (mX (cC (.bl true))))))
def Oq:=fnD 1 13 KP
section
variable{k:Nat}{cap:List Nat}{g:FG}{ft:FT}{fe e:FE}{s:FA}{ρ ρ1 ρ2:List Sl}{α:Type}
theorem oN{m:L4.D}(h:e ρ=some (.bl true,ρ1)):m5 (mr mH (mi e (mi (cC m) mw))) ρ=some (.nx ρ1):=oj (mC (mj h (mj rfl rfl)) rfl)
theorem vo(dd h:α->L4.D)(l:List α)(hs:s ρ=some (l.map dd,ρ1))(hl:l.length<=1000)(st:∀a∈l,∃ρ2 ρ3,g (dd a) (v9 k cap ρ1)=some ρ2/\fe ρ2=some (h a,ρ3)/\pT cap (ρ3.drop k) ρ1=some ρ1):
  mU k cap s g og fe ρ=some (l.map h,ρ1):=(wN hs (by rw[ah];exact hl)).trans (Nl dd h l st)
theorem uy(dd h:α->L4.D)(p:α->Bool)(l:List α)(hs:s ρ=some (l.map dd,ρ1))(hl:l.length<=1000)
  (st:∀a∈l,∃ρ2 ρ3,g (dd a) (v9 k cap ρ1)=some ρ2/\ft ρ2=some (p a,ρ3)/\(p a=true->∃ρ4,fe ρ3=some (h a,ρ4)/\pT cap (ρ4.drop k) ρ1=some ρ1)/\(p a=false->pT cap (ρ3.drop k) ρ1=some ρ1)):
  mU k cap s g ft fe ρ=some ((l.filter p).map h,ρ1):=(wN hs (by rw[ah];exact hl)).trans (zV dd p h l st)
theorem sh(dd:α->L4.D)(l:List α)(hs:s ρ=some (l.map dd,ρ1))(hl:l.length<=1000)(st:∀a∈l,∃ρ2 ρ3,g (dd a) (v9 k cap ρ1)=some ρ2/\fe ρ2=some (.bl true,ρ3)/\pT cap (ρ3.drop k) ρ1=some ρ1):
  c1 sk (cL (mU k cap s g og fe)) ρ=some (.bl true,ρ1):=
 nE (nN (vo dd (λ_=>.bl true) l hs hl st)) ((Gj l λ_=>true).trans (by rw[aV.mpr λ_ _=>rfl]))
theorem KQ(dd:α->L4.D)(l:List α)(hs:s ρ=some (l.map dd,ρ1))(hl:l.length<=1000)(st:∀a∈l,∃ρ2 ρ3,g (dd a) (v9 k cap ρ1)=some ρ2/\fe ρ2=some (.bl false,ρ3)/\pT cap (ρ3.drop k) ρ1=some ρ1):
  c1 zP (cL (mU k cap s g og fe)) ρ=some (.bl false,ρ1):=
 nE (nN (vo dd (λ_=>.bl false) l hs hl st)) ((Nq l λ_=>false).trans (by rw[gd.mpr λ_ _=>aR]))
end
inductive Kd where
 |room|you|plain|fixed|box|lamp
deriving DecidableEq
def Kd.s:Kd->Str
 |.room=>"room" |.you=>"you" |.plain=>"plain" |.fixed=>"fixed" |.box=>"box" |.lamp=>"lamp"
def Kd.pl:Kd->Bool
 |.room=>false|.you=>false|_=>true
def Kd.hd:Kd->Bool
 |.room=>true|.you=>true|.box=>true|_=>false
def Kd.mk:Kd->Bool
 |.box=>true|.lamp=>true|_=>false
structure Th where
 n:Str
 w:List Str
 k:Kd
 s:Option Str
def oS:Option Str->L4.D
 |none=>.non
 |some x=>.str x
def thD(t:Th):L4.D:=.obj 0 ["name", "words", "kind", "start"] [.str t.n,.tup (t.w.map D.str),.str t.k.s,oS t.s]
theorem sV(t:Th):mP mS "name" (thD t)=some (.str t.n):=rfl
theorem CD(t:Th):mP o6 "words" (thD t)=some (.tup (t.w.map D.str)):=rfl
theorem wx(t:Th):mP nL "kind" (thD t)=some (.str t.k.s):=rfl
theorem CG(t:Th):mP oq "start" (thD t)=some (oS t.s):=rfl
theorem yV(a b:Kd):dEq false (.str a.s) (.str b.s)=some (.bl (decide (a=b))):=by cases a<;>cases b<;>kernel_rfl
theorem Gy(t:Th):tI [thD t]=some (.bl t.k.hd):=by obtain⟨n,w,k,s⟩:=t;cases k<;>kernel_rfl
theorem GA(t:Th):tK [thD t]=some (.bl t.k.mk):=by obtain⟨n,w,k,s⟩:=t;cases k<;>kernel_rfl
theorem KR(t:Th):rY [thD t]=some (.bl t.k.pl):=by obtain⟨n,w,k,s⟩:=t;cases k<;>kernel_rfl
theorem NK(t:Th):nO [.str t.k.s,CB]=some (.bl true):=by obtain⟨n,w,k,s⟩:=t;cases k<;>kernel_rfl
abbrev TD(T:List Th):L4.D:=.lst (T.map thD)
theorem count_eq(T:List Th)(hl:T.length<=1000)(k:Kd):uf [TD T,.str k.s]=some (.int (T.filter λt=>decide (t.k=k)).length):=by refine m8 (ρ:=[.im (TD T),.im (.str k.s)]) rfl ?_;refine mZ (nE (nN (uy thD thD (λt=>decide (t.k=k)) T (ρ1:=[.im (TD T),.im (.str k.s)]) rfl hl λt _=>⟨[.im (thD t),.im (.str k.s)],[.im (thD t),.im (.str k.s)],rfl,nJ (mD (nE rfl (wx t)) rfl (yV t.k k)),λ_=>⟨_,rfl,rfl⟩,λ_=>rfl⟩)) ?_);show some (D.int _)=_;rw[ah]
theorem sW(T:List Th)(hl:T.length<=1000):pM [TD T]=some ((T.filter λt=>t.k.pl).map thD):=by refine xK (ρ:=[.im (TD T)]) rfl ?_;exact t8 (uy thD thD (λt=>t.k.pl) T (ρ1:=[.im (TD T)]) rfl hl λt _=>⟨[.im (thD t)],[.im (thD t)],rfl,nJ (n4 (xs:=[.str t.n,.tup (t.w.map D.str),.str t.k.s,oS t.s]) (ys:=[]) rfl rfl rfl rfl (KR t)),λ_=>⟨_,rfl,rfl⟩,λ_=>rfl⟩)
variable{ρ:List Sl}
theorem xu{a b c:FE}{x y z:Int}(h1:a ρ=some (.int x,ρ))(h2:b ρ=some (.int y,ρ))(h3:c ρ=some (.int z,ρ))(hx:x<=y)(hy:y<=z):pW sj sj a b c ρ=some (.bl true,ρ):=by
 unfold pW;rw[h1];simp only[h2];have e1:sj (.int x) (.int y)=some (.bl true):=by show some (D.bl (decide (x<=y)))=_;rw[aH hx]
 have e2:sj (.int y) (.int z)=some (.bl true):=by show some (D.bl (decide (y<=z)))=_;rw[aH hy]
 simp only[e1,h3,e2]
theorem Os{a b:FE}{x y:Int}(h1:a ρ=some (.int x,ρ))(h2:b ρ=some (.int y,ρ))(hx:x<=y):c2 sj a b ρ=some (.bl true,ρ):=mD h1 h2 (by
 show some (D.bl (decide (x<=y)))=_;rw[aH hx])
theorem y7(T:List Th)(hl:T.length<=1000)(h1:1<=(T.filter λt=>decide (t.k=.room)).length)(h5:(T.filter λt=>decide (t.k=.room)).length<=5)(hy:(T.filter λt=>decide (t.k=.you)).length=1)(h7:(T.filter λt=>t.k.pl).length<=7):
  r6 [TD T]=some .non:=by
 let ρ:List Sl:=[.im (TD T),.im (.bl true)];refine ud (ρ:=ρ) rfl ?_;unfold rZ;rw[ml (show _=some (Out.nx ρ) from(mO ((nY rfl).trans (sh thD T (ρ1:=[.im (TD T),.un]) rfl hl λt _=>⟨_,_,rfl,rfl,rfl⟩))).trans rfl)];rw[ml (oN (ρ1:=ρ) rfl)];rw[ml (oN (ρ1:=ρ) (sh thD T rfl hl λt _=>⟨[.im (thD t)],[.im (thD t)],rfl,mC (mj (nE rfl (wx t)) (mj rfl rfl)) (NK t),rfl⟩))];rw[ml (oN (ρ1:=ρ) (xu (x:=1) (y:=(T.filter λt=>decide (t.k=.room)).length) (z:=5) rfl (mC (ds:=[TD T,.str Kd.room.s]) rfl (count_eq T hl .room)) rfl (by omega) (by omega)))];rw[ml (oN (ρ1:=ρ) (mD (ρ1:=ρ) (x:=.int (T.filter λt=>decide (t.k=.you)).length) (y:=.int 1) (mC (ds:=[TD T,.str Kd.you.s]) rfl (count_eq T hl .you)) rfl (by rw[hy];rfl)))];refine oN (ρ1:=ρ) (Os (x:=(T.filter λt=>t.k.pl).length) (y:=7) (nE (nN (mC rfl (sW T hl))) ?_) rfl (by omega));show some (D.int _)=_;rw[ah]
structure Mk where
 n:Str
 st:Int
 mo:Int
def mkD(m:Mk):L4.D:=.obj 1 ["name", "start", "most"] [.str m.n,.int m.st,.int m.mo]
def Mk.ok(m:Mk):Prop:=1<=m.mo/\m.mo<=3/\0<=m.st/\m.st<=m.mo
abbrev MD(M:List Mk):L4.D:=.lst (M.map mkD)
theorem CH(m:Mk):mP mS "name" (mkD m)=some (.str m.n):=rfl
theorem Fp(m:Mk)(h:m.ok):xY [mkD m]=some (.bl true):=by obtain⟨h1,h2,h3,h4⟩:=h;refine m8 (ρ:=[.im (mkD m)]) rfl ?_;unfold xX;rw[ml (show _=some (Out.nx [.im (mkD m)]) from rfl)];exact mZ ((nY (xu (x:=1) (y:=m.mo) (z:=3) rfl rfl rfl h1 h2)).trans (xu (x:=0) (y:=m.st) (z:=m.mo) rfl rfl rfl h3 h4))
theorem Ao(M:List Mk)(hl:M.length<=4)(h:∀m∈M,m.ok):sN [MD M]=some .non:=by
 let ρ:List Sl:=[.im (MD M),.im (.bl true)];refine ud (ρ:=ρ) rfl ?_;unfold sM;have e0:ou [MD M,rB]=some (.bl true):=by refine m8 (ρ:=[.im (MD M),.im (.int 4)]) rfl ?_;refine mZ ((nY rfl).trans (Os (x:=M.length) (y:=4) ?_ rfl (by omega)));refine nE rfl ?_;show some (D.int _)=_;rw[ah]
 rw[ml (show _=some (Out.nx ρ) from(mO ((nY (mC (ds:=[MD M,rB]) rfl e0)).trans (sh mkD M (ρ1:=[.im (MD M),.un]) rfl (by omega) λm hm=>⟨[.im (mkD m)],[.im (mkD m)],rfl,mC rfl (Fp m (h m hm)),rfl⟩))).trans rfl)];exact oN (ρ1:=ρ) rfl
def nmS(l c:Nat):Str:=fR ⟨#[98+l]⟩ (1+(c:Int))
def Nm(x:Str):Prop:=∃l c,l<25/\c<8/\x=nmS l c
def isT:Option L4.D->Bool
 |some (.bl b)=>b
 |_=>false
theorem KU{o:Option L4.D}(h:isT o=true):o=some (.bl true):=by
 unfold isT at h;split at h
 ·rw[h]
 ·cases h
variable{x:Str}
theorem CI{p:Str->Bool}(h:((aF 25).all λl=>(aF 8).all λc=>p (nmS l c))=true)(hx:Nm x):p x=true:=by obtain⟨l,c,hl,hc,rfl⟩:=hx;exact aV.mp (aV.mp h l (bb.mpr hl)) c (bb.mpr hc)
theorem Fq(h:Nm x):vF [.str x]=some (.bl true):=KU (CI (p:=λx=>isT (vF [.str x])) (by kernel_rfl) h)
theorem Fs(h:Nm x):p9 [.str x]=some (.bl true):=KU (CI (p:=λx=>isT (p9 [.str x])) (by kernel_rfl) h)
theorem Em:p9 [.str "red"]=some (.bl true):=by kernel_rfl
theorem En:p9 [.str "old"]=some (.bl true):=by kernel_rfl
def noW(x:Str):Bool:=decide (x∉(["red", "old", "take", "drop", "open", "shut", "light", "douse", "put", "go", "wait", "in", "north", "up", "the", "a", "undo", "restart"]:List Str))
theorem KW(h:Nm x):x∉(["red", "old", "take", "drop", "open", "shut", "light", "douse", "put", "go", "wait", "in", "north", "up", "the", "a", "undo", "restart"]:List Str):=bh (CI (p:=noW) (by kernel_rfl) h)
def sg(x:Str):Nat:=x.cps.getD 0 0
theorem Uo{l c:Nat}(hl:l<25)(hc:c<8):sg (nmS l c)=98+l:=by
 have h:((aF 25).all λl=>(aF 8).all λc=>sg (nmS l c)==98+l)=true:=by kernel_rfl
 exact eP (aV.mp (aV.mp h l (bb.mpr hl)) c (bb.mpr hc))
variable{l:List Str}
theorem Ap(h:l.Nodup)(hl:l.length<=1000):n8 [.lst (l.map D.str)]=some (.bl true):=by
 refine m8 (ρ:=[.im (.lst (l.map D.str))]) rfl ?_;refine mZ (mD (x:=.int l.length) (y:=.int l.length) (nE rfl (M6 (yw h hl))) (nE rfl ?_) ?_)
 ·show some (D.int _)=_;rw[ah]
 ·rw[vE];simp
theorem Ft(h:l.Nodup)(hl:l.length<=1000):n8 [.tup (l.map D.str)]=some (.bl true):=by
 refine m8 (ρ:=[.im (.tup (l.map D.str))]) rfl ?_;refine mZ (mD (x:=.int l.length) (y:=.int l.length) (nE rfl (yw h hl)) (nE rfl ?_) ?_)
 ·show some (D.int _)=_;rw[ah]
 ·rw[vE];simp
theorem Aq(T:List Th)(M:List Mk)(hT:T.length<=400)(hM:M.length<=400)(hn:∀x∈T.map Th.n++M.map Mk.n,Nm x)(nd:(T.map Th.n++M.map Mk.n).Nodup):sP [TD T,MD M]=some .non:=by
 have hl:(T.map Th.n++M.map Mk.n).length<=1000:=by rw[aB,ah,ah];omega
 let ρ0:List Sl:=[.im (TD T),.im (MD M),.un];let ρ:List Sl:=[.im (TD T),.im (MD M),.im (.lst ((T.map Th.n++M.map Mk.n).map D.str))];refine ud (ρ:=ρ) rfl ?_;unfold sO;have e1:mU 1 [] (iL (cV 0)) (gN 0) og (c1 (mP mS "name") (cV 0)) ρ0=some (T.map λt=>D.str t.n,ρ0):=vo thD (λt=>D.str t.n) T rfl (by omega) λt _=>⟨_,_,rfl,nE rfl (sV t),rfl⟩;have e2:mU 1 [] (iL (cV 1)) (gN 0) og (c1 (mP mS "name") (cV 0)) ρ0=some (M.map λt=>D.str t.n,ρ0):=vo mkD (λt=>D.str t.n) M rfl (by omega) λt _=>⟨_,_,rfl,nE rfl (CH t),rfl⟩;have e3:=mO (i:=2) (nN (qD (nN e1) (nN e2) (by rw[ah,ah];omega)));refine(ml (ρ':=ρ) (e3.trans (by
  have:(T.map λt=>D.str t.n)++(M.map λt=>D.str t.n)=(T.map Th.n++M.map Mk.n).map D.str:=by rw[aS,aJ,aJ];rfl
  rw[this];rfl))).trans ?_
 rw[ml (oN (ρ1:=ρ) (sh D.str (T.map Th.n++M.map Mk.n) rfl hl λx hx=>⟨_,_,rfl,mC rfl (Fq (hn x hx)),rfl⟩))];exact oN (ρ1:=ρ) (mC rfl (Ap nd hl))
def rmN(T:List Th):List Str:=(T.filter λt=>decide (t.k=.room)).map Th.n
def hdN(T:List Th):List Str:=(T.filter λt=>t.k.hd).map Th.n
variable{i:Nat}
theorem Eo(T:List Th)(hl:T.length<=1000)(hi:cV i ρ=some (TD T,ρ)):mU 1 [] (iL (cV i)) (gN 0) (cT (c2 (dEq false) (c1 (mP nL "kind") (cV 0)) (cC (.str "room")))) (c1 (mP mS "name") (cV 0)) ρ=some ((rmN T).map D.str,ρ):=by
 have hs:iL (cV i) ρ=some (T.map thD,ρ):=by unfold iL;rw[hi]
 have:=uy (k:=1) (cap:=[]) (g:=gN 0) (ft:=cT (c2 (dEq false) (c1 (mP nL "kind") (cV 0)) (cC (.str "room")))) (fe:=c1 (mP mS "name") (cV 0)) thD (λt=>D.str t.n) (λt=>decide (t.k=.room)) T hs hl λt _=>⟨[.im (thD t)],[.im (thD t)],rfl,nJ (mD (nE rfl (wx t)) rfl (yV t.k .room)),λ_=>⟨_,nE rfl (sV t),rfl⟩,λ_=>rfl⟩
 rw[this];unfold rmN;rw[aJ];rfl
theorem Fu(T:List Th)(hl:T.length<=1000)(hi:cV i ρ=some (TD T,ρ)):mU 1 [] (iL (cV i)) (gN 0) (cT (ni nW "can_hold" (cV 0) mw)) (c1 (mP mS "name") (cV 0)) ρ=some ((hdN T).map D.str,ρ):=by
 have hs:iL (cV i) ρ=some (T.map thD,ρ):=by unfold iL;rw[hi]
 have:=uy (k:=1) (cap:=[]) (g:=gN 0) (ft:=cT (ni nW "can_hold" (cV 0) mw)) (fe:=c1 (mP mS "name") (cV 0)) thD (λt=>D.str t.n) (λt=>t.k.hd) T hs hl λt _=>⟨[.im (thD t)],[.im (thD t)],rfl,nJ (n4 (xs:=[.str t.n,.tup (t.w.map D.str),.str t.k.s,oS t.s]) (ys:=[]) rfl rfl rfl rfl (Gy t)),λ_=>⟨_,nE rfl (sV t),rfl⟩,λ_=>rfl⟩
 rw[this];unfold hdN;rw[aJ];rfl
theorem tN(h:x∈l):nO [.str x,.lst (l.map D.str)]=some (.bl true):=by refine m8 (ρ:=[.im (.str x),.im (.lst (l.map D.str))]) rfl ?_;refine mZ ((nY rfl).trans (mD rfl rfl ?_));rw[rR];simp[h]
theorem AY(dk rm:List Str)(hl:dk.length<=1000)(nd:dk.Nodup)(h:∀x∈dk,x∈rm):uh [.lst (dk.map D.str),.lst (rm.map D.str)]=some .non:=by let ρ0:List Sl:=[.im (.lst (dk.map D.str)),.im (.lst (rm.map D.str)),.un];let ρ:List Sl:=[.im (.lst (dk.map D.str)),.im (.lst (rm.map D.str)),.im (.bl true)];refine ud (ρ:=ρ) rfl ?_;unfold ug;rw[ml (show _=some (Out.nx ρ) from(mO ((nY (ρ1:=ρ0) rfl).trans ((nY (sh D.str dk (ρ1:=ρ0) rfl hl λx hx=>⟨[.im (.str x),.im (.lst (rm.map D.str))],[.im (.str x),.im (.lst (rm.map D.str))],rfl,mC rfl (tN (h x hx)),rfl⟩)).trans (mC (ρ1:=ρ0) rfl (Ap nd hl))))).trans rfl)];exact oN (ρ1:=ρ) rfl
def CJ(T:List Th)(t:Th):Prop:=match t.k,t.s with
 |.room,none=>True
 |.room,some _=>False
 |_,none=>False
 |.you,some x=>x∈rmN T
 |_,some x=>x∈hdN T
theorem Ep(T:List Th)(hl:T.length<=1000)(t:Th)(h:CJ T t):wt [TD T,thD t]=some (.bl true):=by
 refine m8 (ρ:=[.im (TD T),.im (thD t)]) rfl ?_;unfold wq;obtain⟨n,w,k,s⟩:=t;have els:∀k:Kd,k≠.room->k≠.you->∀x,x∈hdN T->(mx (sIf (cT (c2 (dEq false) (c1 (mP nL "kind") (cV 1)) (cC (.str "room")))) (mX (c2 wb (c1 (mP oq "start") (cV 1)) (cC D.non))) m3)
   (mx (sIf (cT (c2 (dEq false) (c1 (mP nL "kind") (cV 1)) (cC (.str "you")))) (mX (mr nO (mi (c1 (mP oq "start") (cV 1)) (mi (cL (mU 1 [] (iL (cV 0)) (gN 0) (cT (c2 (dEq false) (c1 (mP nL "kind") (cV 0)) (cC (.str "room")))) (c1 (mP mS "name") (cV 0)))) mw)))) m3)
   (mX (mr nO (mi (c1 (mP oq "start") (cV 1)) (mi (cL (mU 1 [] (iL (cV 0)) (gN 0) (cT (ni nW "can_hold" (cV 0) mw)) (c1 (mP mS "name") (cV 0)))) mw)))))) [.im (TD T),.im (thD ⟨n,w,k,some x⟩)]=some (.rt (.bl true) [.im (TD T),.im (thD ⟨n,w,k,some x⟩)]):=λk h1 h2 x hx=>by
  let ρ:List Sl:=[.im (TD T),.im (thD ⟨n,w,k,some x⟩)];rw[ml (show _=some (Out.nx ρ) from(m7 (ρ':=ρ) (nJ (mD (ρ1:=ρ) (ρ2:=ρ) (nE rfl (wx _)) rfl ((yV k .room).trans (by rw[aA h1]))))).trans rfl)];rw[ml (show _=some (Out.nx ρ) from(m7 (ρ':=ρ) (nJ (mD (ρ1:=ρ) (ρ2:=ρ) (nE rfl (wx _)) rfl ((yV k .you).trans (by rw[aA h2]))))).trans rfl)];exact mZ (mC (mj (nE rfl (CG _)) (mj (nN (Fu T hl rfl)) rfl)) (tN hx))
 cases k with
 |room=>
  cases s with
  |none=>rfl
  |some x=>exact h.elim
 |you=>
  cases s with
  |none=>exact h.elim
  |some x=>let ρ:List Sl:=[.im (TD T),.im (thD ⟨n,w,.you,some x⟩)];rw[ml (show _=some (Out.nx ρ) from rfl)];refine nR ((nH (ρ':=ρ) rfl).trans ?_);exact mZ (mC (mj (nE rfl (CG _)) (mj (nN (Eo T hl rfl)) rfl)) (tN h))
 |plain=>cases s with
  |none=>exact h.elim
  |some x=>exact els .plain (by decide) (by decide) x h
 |fixed=>cases s with
  |none=>exact h.elim
  |some x=>exact els .fixed (by decide) (by decide) x h
 |box=>cases s with
  |none=>exact h.elim
  |some x=>exact els .box (by decide) (by decide) x h
 |lamp=>cases s with
  |none=>exact h.elim
  |some x=>exact els .lamp (by decide) (by decide) x h
def kS(x:Str):Key:=Sum.inr x
variable{ds:List L4.D}{d:L4.D}
theorem Ar{fk fv:FE}{ks:List Key}(h1:fv ρ=some (d,ρ))(h2:ρ[i]?=some (.dk ks ds))(h3:fk ρ=some (.str x,ρ))(hn:kS x∉ks)(hl:ks.length<1000)(he:ds.length=ks.length):
  pB i fk fv ρ=some (.nx (ρ.set i (.dk (ks++[kS x]) (ds++[d])))):=by
 have hk:zN ks (kS x)=false:=by unfold zN;rw[gf];intro z;obtain⟨y,hy,ey⟩:=dt.mp z;exact hn (by rw[<-bh ey];exact hy)
 unfold pB;rw[h1];simp only[h2,h3];rw[show uV (.str x)=some (kS x) from rfl];simp only;rw[ag hl,ag he,hk];rfl
section
variable{α:Type}{g:FG}{i:Nat}{fk fv:FE}
theorem tP(dd:α->L4.D)(kf:α->Str)(vf:α->L4.D)(st:List Key->List L4.D->Sl->List Sl)
  (hs:∀(a:α) (ks:List Key) (ds:List L4.D) (s:Sl),∃ρ1,g (dd a) (st ks ds s)=some ρ1/\fv ρ1=some (vf a,ρ1)/\ρ1[i]?=some (.dk ks ds)/\fk ρ1=some (.str (kf a),ρ1)/\∀ks' ds',∃s',ρ1.set i (.dk ks' ds')=st ks' ds' s'):
  ∀(l:List α) (ks:List Key) (ds:List L4.D) (s:Sl),(ks++l.map λa=>kS (kf a)).Nodup->ks.length+l.length<=1000->ds.length=ks.length->
   ∃s',forL g (pB i fk fv) (l.map dd) (st ks ds s)=some (.nx (st (ks++l.map λa=>kS (kf a)) (ds++l.map vf) s'))
 |[],ks,ds,s,_,_,_=>⟨s,by rw[bS,bS,bS,aU,aU];rfl⟩
 |a::l,ks,ds,s,nd,hl,he=>by
  obtain⟨ρ1,h1,h2,h3,h4,h5⟩:=hs a ks ds s;obtain⟨s1,h6⟩:=h5 (ks++[kS (kf a)]) (ds++[vf a]);rw[aC]at hl;have nd':((ks++[kS (kf a)])++l.map λa=>kS (kf a)).Nodup:=by rw[ba];exact nd
  have hn:kS (kf a)∉ks:=λz=>by rw[bC]at nd;exact nd.2.2 _ z _ (by rw[au];exact aQ) rfl
  obtain⟨s',h7⟩:=tP dd kf vf st hs l (ks++[kS (kf a)]) (ds++[vf a]) s1 nd' (by rw[aB,aZ];omega) (by rw[aB,aB,he,aZ,aZ]);refine⟨s',?_⟩;rw[au];unfold forL;rw[h1];simp only[Ar h2 h3 h4 hn (by omega) he,h6];rw[h7,au,au,ba,ba];rfl
end
def nK(T:List Th):List Key:=T.map λt=>kS t.n
variable{a b:Str}
theorem Fv(h:kS a=kS b):a=b:=gG h
variable{T:List Th}
theorem GB(h:(T.map Th.n).Nodup):(nK T).Nodup:=by have:=tu h;rw[aJ]at this;exact this
theorem GE(h:(T.map Th.n).Nodup)(vf:Th->L4.D){t:Th}(ht:t∈T):oF (nK T) (T.map vf) (kS t.n)=some (vf t):=by refine w5 (GB h) ?_;unfold nK;rw[jh];exact bN (f:=λt=>(kS t.n,vf t)) ht
def Fw(T:List Th)(r:Str->Nat):Prop:=∀t∈T,r t.n<T.length/\∀p,t.s=some p->r p<r t.n/\∃u∈T,u.n=p
def stD(T:List Th):L4.D:=.dic (nK T) (T.map λt=>oS t.s)
theorem KY(T:List Th)(hl:T.length<=1000)(nd:(T.map Th.n).Nodup)(r:Str->Nat)(hr:Fw T r)(t:Th)(ht:t∈T):rf [stD T,.str t.n]=some (.bl true):=by
 have loop:∀(m:Nat) (l:List L4.D),l.length=m->∀(a:Option Str) (s:Sl),(∀x,a=some x->(∃u∈T,u.n=x)/\r x<m)->
   (∃ρ,forL (gN 3) (mx (sIf (cT (c2 wb (cV 2) (cC D.non))) (mX (cC (.bl true))) m3) (mT 2 (c2 oG (cV 0) (cV 2)))) l [.im (stD T),.im (.str t.n),.im (oS a),s]=some (.rt (.bl true) ρ))\/
   (∃s',forL (gN 3) (mx (sIf (cT (c2 wb (cV 2) (cC D.non))) (mX (cC (.bl true))) m3) (mT 2 (c2 oG (cV 0) (cV 2)))) l [.im (stD T),.im (.str t.n),.im (oS a),s]=some (.nx [.im (stD T),.im (.str t.n),.im .non,s'])):=by
  intro m
  induction m with
  |zero=>
   intro l h a s ha;cases l with
   |cons d l=>cases h
   |nil=>
    cases a with
    |none=>exact .inr ⟨s,rfl⟩
    |some x=>exact ai (ha x rfl).2 (lI _)
  |succ m ih=>
   intro l h a s ha;cases l with
   |nil=>cases h
   |cons d l=>
    cases a with
    |none=>refine .inl ⟨[.im (stD T),.im (.str t.n),.im .non,.im d],?_⟩;unfold forL;rw[show gN 3 d [.im (stD T),.im (.str t.n),.im (oS none),s]=some [.im (stD T),.im (.str t.n),.im .non,.im d] from rfl];rfl
    |some x=>
     obtain⟨⟨u,hu,rfl⟩,hx⟩:=ha x rfl;have e:mx (sIf (cT (c2 wb (cV 2) (cC D.non))) (mX (cC (.bl true))) m3) (mT 2 (c2 oG (cV 0) (cV 2))) [.im (stD T),.im (.str t.n),.im (.str u.n),.im d]=some (.nx [.im (stD T),.im (.str t.n),.im (oS u.s),.im d]):=by refine(ml (ρ':=[.im (stD T),.im (.str t.n),.im (.str u.n),.im d]) rfl).trans ?_;exact(mO (mD rfl rfl (GE nd (λt=>oS t.s) hu))).trans rfl
     have key:=ih l (by simpa using h) u.s (.im d) λy hy=>by obtain⟨h1,h2⟩:=hr u hu;obtain⟨h3,h4⟩:=h2 y hy;exact⟨h4,by omega⟩
     unfold forL;rw[show gN 3 d [.im (stD T),.im (.str t.n),.im (oS (some u.n)),s]=some [.im (stD T),.im (.str t.n),.im (.str u.n),.im d] from rfl];simp only[e];exact key
 obtain⟨h1,h2⟩:=hr t ht;have l0:=loop T.length (zH 0 T.length) (by unfold zH;simp) t.s .un λx hx=>⟨(h2 x hx).2,by have:=(h2 x hx).1;omega⟩;have e0:mT 2 (c2 oG (cV 0) (cV 1)) [.im (stD T),.im (.str t.n),.un,.un]=some (.nx [.im (stD T),.im (.str t.n),.im (oS t.s),.un]):=(mO (mD rfl rfl (GE nd (λt=>oS t.s) ht))).trans rfl;have e1:iR1 (c1 oB (cV 0)) [.im (stD T),.im (.str t.n),.im (oS t.s),.un]=some (zH 0 T.length,[.im (stD T),.im (.str t.n),.im (oS t.s),.un]):=by unfold iR1;rw[show c1 oB (cV 0) [.im (stD T),.im (.str t.n),.im (oS t.s),.un]=some (.int T.length,[.im (stD T),.im (.str t.n),.im (oS t.s),.un]) from nE rfl (by show some (D.int _)=_;unfold nK;rw[ah])];simp only;rw[ag (by omega),fq]
 rcases l0 with ⟨ρ,q⟩|⟨s',q⟩
 ·refine m8 (ρ:=ρ) rfl ?_;refine(ml e0).trans (nR ((pY e1).trans q))
 ·refine m8 (ρ:=[.im (stD T),.im (.str t.n),.im .non,s']) rfl ?_;refine(ml e0).trans ((ml ((pY e1).trans q)).trans rfl)
theorem y8(T:List Th)(hl:T.length<=900)(nd:(T.map Th.n).Nodup)(r:Str->Nat)(hr:Fw T r)(hs:∀t∈T,CJ T t):se [TD T]=some .non:=by
 obtain⟨s',e1⟩:=tP (g:=gN 2) (i:=1) (fk:=c1 (mP mS "name") (cV 2)) (fv:=c1 (mP oq "start") (cV 2)) thD Th.n (λt=>oS t.s) (λks ds s=>[.im (TD T),.dk ks ds,s])
  (λt ks ds s=>⟨[.im (TD T),.dk ks ds,.im (thD t)],rfl,nE rfl (CG t),rfl,nE rfl (sV t),λks' ds'=>⟨_,rfl⟩⟩) T [] [] .un (by rw[bB];exact GB nd) (by simp;omega) rfl
 refine ud (ρ:=[.im (TD T),.im (stD T),s']) rfl ?_;unfold r9;refine(ml (oN (ρ1:=[.im (TD T),.un,.un]) (sh thD T rfl (by omega) λt ht=>⟨[.im (thD t),.im (TD T)],[.im (thD t),.im (TD T)],rfl,mC rfl (Ep T (by omega) t (hs t ht)),rfl⟩))).trans ?_;refine(ml (ρ':=[.im (TD T),.dk [] [],.un]) rfl).trans ?_;refine(ml ((pY rfl).trans e1)).trans ?_;have src:iD (cFz 1) [.im (TD T),.dk ([]++T.map λa=>kS a.n) ([]++T.map λt=>oS t.s),s']=some ((T.map λt=>D.str t.n),[.im (TD T),.im (stD T),s']):=by rw[bB,bB];unfold iD;rw[show cFz 1 [.im (TD T),.dk (T.map λa=>kS a.n) (T.map λt=>oS t.s),s']=some (stD T,[.im (TD T),.im (stD T),s']) from rfl];show (if (nK T).length=(T.map λt=>oS t.s).length then some ((nK T).map Qf,_)else none)=_;unfold nK;rw[ag (by rw[ah,ah]),aJ];rfl
 exact oN (ρ1:=[.im (TD T),.im (stD T),s']) (sh (λt:Th=>D.str t.n) T src (by omega) λt ht=>⟨[.im (.str t.n),.im (stD T)],[.im (.str t.n),.im (stD T)],rfl,mC rfl (KY T (by omega) nd r hr t ht),rfl⟩)
def BH:List (List Str):=[[],["red"],["old", "red"]]
def pe(t:Th):Prop:=Nm t.n/\∃m∈BH,t.w=t.n::m
theorem qb{t:Th}(h:pe t):t.w=[t.n]\/t.w=[t.n,"red"]\/t.w=[t.n,"old", "red"]:=by
 obtain⟨_,m,hm,e⟩:=h;unfold BH at hm;simp only[aD,bD,or_false]at hm;rcases hm with rfl|rfl|rfl
 ·exact .inl e
 ·exact .inr (.inl e)
 ·exact .inr (.inr e)
theorem yb{t:Th}(h:pe t)(hx:x∈t.w):x=t.n\/x="red" \/ x="old" := by
 rcases qb h with e|e|e<;>rw[e]at hx<;>simp only[aD,bD,or_false]at hx
 ·exact .inl hx
 ·rcases hx with h|h
  ·exact .inl h
  ·exact .inr (.inl h)
 ·rcases hx with h|h|h
  ·exact .inl h
  ·exact .inr (.inr h)
  ·exact .inr (.inl h)
theorem Ot(h:Nm x):x≠"red" /\ x≠"old" := by have:=KW h;exact⟨λz=>this (by rw[z];decide),λz=>this (by rw[z];decide)⟩
theorem CK{t:Th}(h:pe t):va [.tup (t.w.map D.str)]=some (.bl true):=by
 have hn:=h.1;obtain⟨n1,n2⟩:=Ot hn;have len:1<=t.w.length/\t.w.length<=4:=by rcases qb h with e|e|e<;>rw[e]<;>simp
 have nd:t.w.Nodup:=by
  rcases qb h with e|e|e<;>rw[e]
  ·simp
  ·simp[n1]
  ·simp[n1,n2];decide
 let ρ:List Sl:=[.im (.tup (t.w.map D.str))];refine m8 (ρ:=ρ) rfl ?_;unfold u9;have e1:pW sj sj (cC (.int 1)) (c1 oB (cV 0)) (cC ue) ρ=some (.bl true,ρ):=xu (x:=1) (y:=t.w.length) (z:=4) rfl (nE rfl (by show some (D.int _)=_;rw[ah])) rfl (by omega) (by omega);refine(ml (ρ':=ρ) ((m7 (ρ':=ρ) (uT (ρ1:=ρ) rfl (Ga (nJ e1)))).trans rfl)).trans ?_;refine mZ ((nY (sh D.str t.w (ρ1:=ρ) rfl (by omega) λx hx=>⟨_,_,rfl,mC rfl ?_,rfl⟩)).trans (mC rfl (Ft nd (by omega))));rcases yb h hx with rfl|rfl|rfl
 ·exact Fs hn
 ·exact Em
 ·exact En
theorem Fy(t u:Th)(ht:pe t)(hu:pe u)(hne:u.n≠t.n):vG [.tup (u.w.map D.str),.tup (t.w.map D.str)]=some (.bl false):=by
 obtain⟨n1,n2⟩:=Ot ht.1;have hl:t.w.length<=1000:=by rcases qb ht with e|e|e<;>rw[e]<;>simp
 let ρ:List Sl:=[.im (.tup (u.w.map D.str)),.im (.tup (t.w.map D.str))];refine m8 (ρ:=ρ) rfl ?_;refine mZ (nE (nN (vo D.str (λx=>.bl (decide (x∈u.w))) t.w (ρ1:=ρ) rfl hl λx _=>⟨_,_,rfl,mD rfl rfl (D2 false x u.w),rfl⟩)) ?_);rw[Gj];have:t.w.all (λx=>decide (x∈u.w))=false:=by
  rw[gf];intro z;have:=bh (aV.mp z t.n (by rcases qb ht with e|e|e<;>rw[e]<;>simp));rcases yb hu this with h|h|h
  ·exact hne h.symm
  ·exact n1 h
  ·exact n2 h
 rw[this]
theorem AZ(P:List Th)(hl:P.length<=900)(hw:∀t∈P,pe t)(t:Th)(ht:pe t):rh [TD P,thD t]=some (.bl true):=by
 let O:=P.filter λu=>!decide (u.n=t.n);let ρ:List Sl:=[.im (TD P),.im (thD t),.im (TD O)];have hO:O.length<=900:=bF (f9 _ _) hl;refine m8 (ρ:=ρ) rfl ?_;unfold rg;refine(ml (ρ':=ρ) ((mO (nN (uy thD thD (λu=>!decide (u.n=t.n)) P (ρ1:=[.im (TD P),.im (thD t),.un]) rfl (by omega) λu _=>⟨[.im (thD u),.im (thD t)],[.im (thD u),.im (thD t)],rfl,nJ (mD (nE rfl (sV u)) (nE rfl (sV t)) (rA true u.n t.n)),λ_=>⟨_,rfl,rfl⟩,λ_=>rfl⟩))).trans rfl)).trans ?_;have e:c1 zP (cL (mU 1 [1] (iL (cV 2)) (gN 0) og (mr vG (mi (c1 (mP o6 "words") (cV 0)) (mi (c1 (mP o6 "words") (cV 1)) mw))))) ρ=some (.bl false,ρ):=
  KQ thD O rfl (by omega) λu hu=>⟨[.im (thD u),.im (thD t)],[.im (thD u),.im (thD t)],rfl,mC (mj (nE rfl (CD u)) (mj (nE rfl (CD t)) rfl)) (Fy t u ht (hw u (bE.mp hu).1) (by simpa using (bE.mp hu).2)),rfl⟩
 refine mZ ?_;unfold B8;rw[e];rfl
theorem As(T:List Th)(hl:T.length<=900)(hw:∀t∈T,pe t):oK [TD T]=some .non:=by let P:=T.filter λt=>t.k.pl;have hP:P.length<=900:=bF (f9 _ _) hl;have hwP:∀t∈P,pe t:=λt ht=>hw t (bE.mp ht).1;let ρ:List Sl:=[.im (TD T),.im (TD P)];refine ud (ρ:=ρ) rfl ?_;unfold oJ;refine(ml (oN (ρ1:=[.im (TD T),.un]) (sh thD T rfl (by omega) λt ht=>⟨[.im (thD t)],[.im (thD t)],rfl,mC (mj (nE rfl (CD t)) rfl) (CK (hw t ht)),rfl⟩))).trans ?_;refine(ml (ρ':=ρ) ((mO (nN (mC rfl (sW T (by omega))))).trans rfl)).trans ?_;exact oN (ρ1:=ρ) (sh thD P rfl (by omega) λt ht=>⟨[.im (thD t),.im (TD P)],[.im (thD t),.im (TD P)],rfl,mC rfl (AZ P hP hwP t (hwP t ht)),rfl⟩)
def vZ(n f:Str)(j:L4.D):L4.D:=.obj 2 ["name", "others", "form", "joining"] [.str n,.tup [],.str f,j]
def nP:List L4.D:=[vZ "take" "one" .non,vZ "drop" "one" .non,vZ "open" "one" .non,vZ "shut" "one" .non,vZ "light" "one" .non,vZ "douse" "one" .non,vZ "put" "two" (.str "in"),vZ "go" "way" .non,vZ "wait" "alone" .non]
theorem Er:oM []=some nP:=by kernel_rfl
def vN:List Str:=["take", "drop", "open", "shut", "light", "douse", "put", "go", "wait"]
def vI:List Str:=["take", "drop", "open", "shut", "light", "douse", "put", "go", "wait", "in", "north", "up"]
variable{e:FE}{ρ1:List Sl}
theorem NL{b:Bool}(h:e ρ=some (.bl b,ρ1)):B8 e ρ=some (.bl !b,ρ1):=by unfold B8;rw[h]
theorem KZ{m:List Str}(hd:d=.lst (m.map D.str)\/d=.tup (m.map D.str))(hl:l.length<=900)(h:∀x∈l,x∉m):q8 [.lst (l.map D.str),d]=some (.bl true):=by
 let ρ:List Sl:=[.im (.lst (l.map D.str)),.im d];refine m8 (ρ:=ρ) rfl ?_;have e:c1 zP (cL (mU 1 [1] (iL (cV 0)) (gN 0) og (c2 (dIn false) (cV 0) (cV 1)))) ρ=some (.bl false,ρ):=KQ D.str l rfl (by omega) λx hx=>⟨[.im (.str x),.im d],[.im (.str x),.im d],rfl,mD rfl rfl (by
  rcases hd with rfl|rfl
  ·rw[rR];simp[h x hx]
  ·rw[D2];simp[h x hx]),rfl⟩
 exact mZ (NL e)
theorem Ib{t:Th}(h:pe t):t.w.length<=3:=by rcases qb h with e|e|e<;>rw[e]<;>simp
theorem Au{a b c s5 s6 s7:Sl}:∀(P:List Th) (acc:List Str) (s:Sl),acc.length+3 * P.length<=900->(∀t∈P,pe t)->
  ∃s',forL (gN 4) (m5 (yn 3 (c1 (mP o6 "words") (cV 4)))) (P.map thD) [a,b,c,.ls (acc.map D.str),s,s5,s6,s7]=some (.nx [a,b,c,.ls ((acc++P.flatMap Th.w).map D.str),s',s5,s6,s7])
 |[],acc,s,_,_=>⟨s,by simp;rfl⟩
 |t::P,acc,s,hl,hw=>by
  have h3:=Ib (hw t aQ);rw[aC]at hl;obtain⟨s',e⟩:=Au P (acc++t.w) (.im (thD t)) (by rw[aB];omega) λu hu=>hw u (aX _ hu);refine⟨s',?_⟩;rw[au];unfold forL;have e1:m5 (yn 3 (c1 (mP o6 "words") (cV 4))) [a,b,c,.ls (acc.map D.str),.im (thD t),s5,s6,s7]=some (.nx [a,b,c,.ls ((acc++t.w).map D.str),.im (thD t),s5,s6,s7]):=by refine(oj (d:=.non) (ρ':=[a,b,c,.ls ((acc++t.w).map D.str),.im (thD t),s5,s6,s7]) ?_);unfold yn;show (if (acc.map D.str).length+(t.w.map D.str).length<=1000 then some (D.non,[a,b,c,.ls (acc.map D.str++t.w.map D.str),.im (thD t),s5,s6,s7])else none)=_;rw[ag (by rw[ah,ah];omega),aS]
  rw[show gN 4 (thD t) [a,b,c,.ls (acc.map D.str),s,s5,s6,s7]=some [a,b,c,.ls (acc.map D.str),.im (thD t),s5,s6,s7] from rfl];simp only[e1];rw[e,List.flatMap_cons,ba]
def wyD(r0 r1:Str):List L4.D:=[.tup [.str r0,.str "north", .str r1,.non],.tup [.str r0,.str "up", .str r0,.non]]
def wyT(T:List Th):List L4.D:=wyD ((rmN T).headD "") ((rmN T).getLastD "")
theorem Sf(h:1<=(T.filter λt=>decide (t.k=.room)).length):(rmN T).headD "" ∈ rmN T:=by
 have:1<=(rmN T).length:=by unfold rmN;rw[ah];exact h
 cases e:rmN T with
 |nil=>rw[e]at this;cases this
 |cons a r=>exact aQ ..
theorem Sg(h:1<=(T.filter λt=>decide (t.k=.room)).length):(rmN T).getLastD "" ∈ rmN T:=by
 have:1<=(rmN T).length:=by unfold rmN;rw[ah];exact h
 have hn:rmN T≠[]:=λe=>by rw[e]at this;cases this
 rw[jQ,List.getLast?_eq_some_getLast hn];exact List.getLast_mem hn
theorem FB(r0:Str):n8 [.lst [.tup [.str r0,.str "north"],.tup [.str r0,.str "up"]]]=some (.bl true):=by refine m8 (ρ:=[.im (.lst [.tup [.str r0,.str "north"],.tup [.str r0,.str "up"]])]) rfl (mZ (mD (x:=.int 2) (y:=.int 2) (nE rfl ?_) rfl rfl));show (if ([[r0,"north"],[r0,"up"]]:List (List Str)).Nodup/\2<=8 then some (D.int 2)else none)=_;rw[ag ⟨by simp;decide,by decide⟩]
theorem Ie{R:List Str}{mn:List L4.D}(h0:a∈R)(h1:b∈R)(hx:p9 [.str x]=some (.bl true)):Aj [.tup [.str a,.str x,.str b,.non],.lst (R.map D.str),.lst mn]=some (.bl true):=by let ρ:List Sl:=[.im (.tup [.str a,.str x,.str b,.non]),.im (.lst (R.map D.str)),.im (.lst mn),.im (.bl true)];refine m8 (ρ:=ρ) rfl ?_;unfold Ai;refine(ml (ρ':=[.im (.tup [.str a,.str x,.str b,.non]),.im (.lst (R.map D.str)),.im (.lst mn),.un]) rfl).trans ?_;refine(ml (ρ':=ρ) rfl).trans ?_;exact mZ ((nY (mC (ρ1:=ρ) rfl (tN h0))).trans ((nY (mC (ρ1:=ρ) rfl hx)).trans ((nY (mC (ρ1:=ρ) rfl (tN h1))).trans rfl)))
theorem A0{r0 r1:Str}(R:List Str)(mn:List L4.D)(h0:r0∈R)(h1:r1∈R):rE [.lst (wyD r0 r1),.lst (R.map D.str),.lst mn]=some .non:=by
 let ρ0:List Sl:=[.im (.lst (wyD r0 r1)),.im (.lst (R.map D.str)),.im (.lst mn),.un];let ρ:List Sl:=[.im (.lst (wyD r0 r1)),.im (.lst (R.map D.str)),.im (.lst mn),.im (.bl true)];refine ud (ρ:=ρ) rfl ?_;unfold ui;rw[ml (show _=some (Out.nx ρ) from(mO ((nY (ρ1:=ρ0) rfl).trans (sh (λz:Str×Str=>D.tup [.str r0,.str z.1,.str z.2,.non]) [("north", r1),("up", r0)] (ρ1:=ρ0) rfl (bq rfl) λz hz=>
  ⟨[.im (.tup [.str r0,.str z.1,.str z.2,.non]),.im (.lst (R.map D.str)),.im (.lst mn)],[.im (.tup [.str r0,.str z.1,.str z.2,.non]),.im (.lst (R.map D.str)),.im (.lst mn)],rfl,mC rfl (Ie h0 (by
   rcases aD.mp hz with rfl|hz
   ·exact h1
   ·rw[aO.mp hz];exact h0) (by
   rcases aD.mp hz with rfl|hz
   ·kernel_rfl
   ·rw[aO.mp hz];kernel_rfl)),rfl⟩))).trans rfl)]
 refine(ml (oN (ρ1:=ρ) rfl)).trans ?_;exact oN (ρ1:=ρ) (mC (ds:=[.lst [.tup [.str r0,.str "north"],.tup [.str r0,.str "up"]]]) (mj (by kernel_rfl) rfl) (FB r0))
theorem Av(T:List Th)(hl:T.length<=200)(hw:∀t∈T,pe t):oU [TD T,.lst (wyT T),.lst nP]=some .non:=by
 let P:=T.filter λt=>t.k.pl;have hP:P.length<=200:=bF (f9 _ _) hl;have hwP:∀t∈P,pe t:=λt ht=>hw t (bE.mp ht).1;obtain⟨s',e1⟩:=Au (a:=.im (TD T)) (b:=.im (.lst (wyT T))) (c:=.im (.lst nP)) (s5:=.un) (s6:=.un) (s7:=.un) P [] .un (by simp;omega) hwP;let O:=P.flatMap Th.w;let m1:Sl:=.ls (O.map D.str);let z:Sl:=.im (vZ "wait" "alone" .non);refine ud (ρ:=[.im (TD T),.im (.lst (wyT T)),.im (.lst nP),.im (.lst (O.map D.str)),s',.im (.lst (vN.map D.str)),z,.im (.lst [.str "in", .str "north", .str "up"])]) rfl ?_;unfold p8;refine(ml (ρ':=[.im (TD T),.im (.lst (wyT T)),.im (.lst nP),.ls [],.un,.un,.un,.un]) rfl).trans ?_;refine(ml (ρ':=[.im (TD T),.im (.lst (wyT T)),.im (.lst nP),m1,s',.un,.un,.un]) ((pY (ds:=P.map thD) (ρ1:=[.im (TD T),.im (.lst (wyT T)),.im (.lst nP),.ls [],.un,.un,.un,.un]) ?_).trans e1)).trans ?_
 ·unfold iL;rw[nN (mC (g:=pM) (ds:=[TD T]) (ρ1:=[.im (TD T),.im (.lst (wyT T)),.im (.lst nP),.ls [],.un,.un,.un,.un]) rfl (sW T (by omega)))]
 refine(ml (ρ':=[.im (TD T),.im (.lst (wyT T)),.im (.lst nP),m1,s',.ls [],.un,.un]) rfl).trans ?_;refine(ml (ρ':=[.im (TD T),.im (.lst (wyT T)),.im (.lst nP),m1,s',.ls (vN.map D.str),z,.un]) (by kernel_rfl)).trans ?_;refine(ml (ρ':=[.im (TD T),.im (.lst (wyT T)),.im (.lst nP),m1,s',.ls (vN.map D.str),z,.im (.lst [.str "in", .str "north", .str "up"])]) (by kernel_rfl)).trans ?_;refine(ml (oN (ρ1:=[.im (TD T),.im (.lst (wyT T)),.im (.lst nP),m1,s',.im (.lst (vN.map D.str)),z,.im (.lst [.str "in", .str "north", .str "up"])]) (by kernel_rfl))).trans ?_;have no:∀x∈vI,x∉O:=λx hx ho=>by
  obtain⟨t,ht,hxt⟩:=List.mem_flatMap.mp ho;have hn:=(hwP t ht).1;rcases yb (hwP t ht) hxt with rfl|rfl|rfl
  ·have sub:∀x∈vI,x∈(["red", "old", "take", "drop", "open", "shut", "light", "douse", "put", "go", "wait", "in", "north", "up", "the", "a", "undo", "restart"]:List Str):=by decide
   exact KW hn (sub _ hx)
  ·exact ai hx (by decide)
  ·exact ai hx (by decide)
 have a1:=KZ (l:=vI) (m:=O) (.inl rfl) (by decide) no;refine(ml (oN (ρ1:=[.im (TD T),.im (.lst (wyT T)),.im (.lst nP),.im (.lst (O.map D.str)),s',.im (.lst (vN.map D.str)),z,.im (.lst [.str "in", .str "north", .str "up"])]) (mC (mj (d:=.lst (vI.map D.str)) (ρ1:=[.im (TD T),.im (.lst (wyT T)),.im (.lst nP),m1,s',.im (.lst (vN.map D.str)),z,.im (.lst [.str "in", .str "north", .str "up"])]) (by kernel_rfl) (mj rfl rfl)) a1))).trans ?_;refine(ml (oN (ρ1:=[.im (TD T),.im (.lst (wyT T)),.im (.lst nP),.im (.lst (O.map D.str)),s',.im (.lst (vN.map D.str)),z,.im (.lst [.str "in", .str "north", .str "up"])]) (by kernel_rfl))).trans ?_;exact oN (by kernel_rfl)
structure Good(T:List Th)(M:List Mk)(dk:List Str):Prop where
 len:T.length<=200
 r1:1<=(T.filter λt=>decide (t.k=.room)).length
 r5:(T.filter λt=>decide (t.k=.room)).length<=5
 y1:(T.filter λt=>decide (t.k=.you)).length=1
 p7:(T.filter λt=>t.k.pl).length<=7
 m4:M.length<=4
 mo:∀m∈M,m.ok
 nm:∀x∈T.map Th.n++M.map Mk.n,Nm x
 nd:(T.map Th.n++M.map Mk.n).Nodup
 st:∀t∈T,CJ T t
 rk:∃r,Fw T r
 wd:∀t∈T,pe t
 d0:dk.length<=5
 d1:dk.Nodup
 d2:∀x∈dk,x∈rmN T
variable{M:List Mk}{dk:List Str}
theorem Good.ndT(g:Good T M dk):(T.map Th.n).Nodup:=(bC.mp g.nd).1
theorem A1(T:List Th)(M:List Mk)(hl:T.length<=200)(hM:M.length<=4):∃l,rD [TD T,MD M]=some l:=by
 let ρ:List Sl:=[.im (TD T),.im (MD M)];refine⟨_,xK (ρ:=ρ) rfl (t8 (qD (nN (uy thD (λt=>D.str t.n) (λt=>t.k.mk) T (ρ1:=ρ) rfl (by omega) λt _=>⟨[.im (thD t)],[.im (thD t)],rfl,nJ (n4 (xs:=[.str t.n,.tup (t.w.map D.str),.str t.k.s,oS t.s]) (ys:=[]) rfl rfl rfl rfl (GA t)),λ_=>⟨_,nE rfl (sV t),rfl⟩,λ_=>rfl⟩))
  (nN (vo mkD (λt=>D.str t.n) M rfl (by omega) λt _=>⟨_,_,rfl,nE rfl (CH t),rfl⟩)) ?_))⟩
 have:=f9 (λt:Th=>t.k.mk) T;rw[ah,ah];omega
theorem Aw(g:Good T M dk):sS [TD T,MD M,.lst (dk.map D.str),.lst (wyT T),.lst [],.lst nP]=some .non:=by
 have hl:=g.len;have hdk:dk.length<=1000:=by have:=g.d0;omega
 obtain⟨r,hr⟩:=g.rk;obtain⟨mn,emn⟩:=A1 T M hl g.m4;let ρ0:List Sl:=[.im (TD T),.im (MD M),.im (.lst (dk.map D.str)),.im (.lst (wyT T)),.im (.lst []),.im (.lst nP),.un];let ρ:List Sl:=[.im (TD T),.im (MD M),.im (.lst (dk.map D.str)),.im (.lst (wyT T)),.im (.lst []),.im (.lst nP),.im (.lst ((rmN T).map D.str))];refine ud (ρ:=ρ) rfl ?_;unfold sR;refine(ml (oj (ρ':=ρ0) (mC rfl (y7 T (by omega) g.r1 g.r5 g.y1 g.p7)))).trans ?_;refine(ml (oj (ρ':=ρ0) (mC rfl (Ao M g.m4 g.mo)))).trans ?_;refine(ml (oj (ρ':=ρ0) (mC rfl (Aq T M (by omega) (by have:=g.m4;omega) g.nm g.nd)))).trans ?_;refine(ml (oj (ρ':=ρ0) (mC rfl (y8 T (by omega) g.ndT r hr g.st)))).trans ?_;refine(ml (oj (ρ':=ρ0) (mC rfl (As T (by omega) g.wd)))).trans ?_;refine(ml (ρ':=ρ) ((mO (nN (Eo T (by omega) rfl))).trans rfl)).trans ?_;refine(ml (oj (ρ':=ρ) (mC rfl (AY dk (rmN T) hdk g.d1 g.d2)))).trans ?_;have cw:rE [.lst (wyT T),.lst ((rmN T).map D.str),.lst mn]=some .non:=A0 (rmN T) mn (Sf g.r1) (Sg g.r1);refine(ml (oj (ρ':=ρ) (mC (mj rfl (mj rfl (mj (nN (mC (g:=rD) (ds:=[TD T,MD M]) rfl emn)) rfl))) cw))).trans ?_;refine(ml (oj (ρ':=ρ) (mC (g:=sQ) (ds:=[.lst []]) (r:=.non) rfl (by kernel_rfl)))).trans ?_;exact oj (ρ':=ρ) (mC (g:=oU) (ds:=[TD T,.lst (wyT T),.lst nP]) rfl (Av T hl g.wd))
theorem FC(T:List Th)(hl:T.length<=900)(nd:(T.map Th.n).Nodup):ya [TD T]=some (.dic (nK T) (T.map thD)):=by
 obtain⟨s',e1⟩:=tP (g:=gN 2) (i:=1) (fk:=c1 (mP mS "name") (cV 2)) (fv:=cV 2) thD Th.n thD (λks ds s=>[.im (TD T),.dk ks ds,s])
  (λt ks ds s=>⟨[.im (TD T),.dk ks ds,.im (thD t)],rfl,rfl,rfl,nE rfl (sV t),λks' ds'=>⟨_,rfl⟩⟩) T [] [] .un (by rw[bB];exact GB nd) (by simp;omega) rfl
 refine m8 (ρ:=[.im (TD T),.im (.dic (nK T) (T.map thD)),s']) rfl ?_;unfold xZ;refine(ml (ρ':=[.im (TD T),.dk [] [],.un]) rfl).trans ?_;refine(ml ((pY rfl).trans e1)).trans ?_;rw[bB,bB];rfl
theorem NM(m:Mk):mP rT "most" (mkD m)=some (.int m.mo):=rfl
theorem Ax(T:List Th)(hl:T.length<=1000)(ns:List Str)(rest:List L4.D)(k:Kd):nX [.obj 14 ("kept_things" ::ns) (TD T::rest),.str k.s]=some (.lst ((T.filter λt=>decide (t.k=k)).map λt=>D.str t.n)):=by let ρ:List Sl:=[.im (.obj 14 ("kept_things" ::ns) (TD T::rest)),.im (.str k.s)];refine Kj (ρ:=ρ) rfl ?_;exact t8 (uy thD (λt=>D.str t.n) (λt=>decide (t.k=k)) T (ρ1:=ρ) rfl hl λt _=>⟨[.im (thD t),.im (.str k.s)],[.im (thD t),.im (.str k.s)],rfl,nJ (mD (nE rfl (wx t)) rfl (yV t.k k)),λ_=>⟨_,nE rfl (sV t),rfl⟩,λ_=>rfl⟩)
def shD(T:List Th)(y:Str):List L4.D:=(pG [.str y,.lst (wyT T)]).getD []
theorem Up(T:List Th)(y:Str):pG [.str y,.lst (wyT T)]=some (shD T y):=by kernel_rfl
def vwD:L4.D:=(o5 [.lst nP]).getD .non
def rbD(T:List Th)(y:Str):L4.D:=(tL [.lst (shD T y)]).getD .non
def wNs:List Str:=["kept_things", "kept_marks", "kept_dark", "kept_ways", "kept_verbs", "shared_verbs", "your_name", "things_by_name", "mosts_by_name", "verbs_by_word", "kept_rules", "shared_rules", "copied_rules", "rules_by_verb"]
def wDs(T:List Th)(M:List Mk)(dk:List Str)(y:Str)(mo:L4.D):List L4.D:=[TD T,MD M,.lst (dk.map D.str),.lst (wyT T),.lst [],.lst nP,.str y,.dic (nK T) (T.map thD),mo,vwD,.lst [],.lst (shD T y),.lst [],rbD T y]
abbrev wR(T:List Th)(M:List Mk)(dk:List Str)(ns:List Str)(ds:List L4.D)(q:Sl):List Sl:=[.ob 14 ns ds,.im (TD T),.im (MD M),.im (.lst (dk.map D.str)),.im (.lst (wyT T)),.im (.lst []),.im (.lst []),q]
abbrev wL(T:List Th)(M:List Mk)(dk:List Str)(ns:List Str)(ds:List L4.D)(q:Sl):List Sl:=[.im (.obj 14 ns ds),.im (TD T),.im (MD M),.im (.lst (dk.map D.str)),.im (.lst (wyT T)),.im (.lst []),.im (.lst []),wc q]
variable{nm:Str}{ns:List Str}
section
variable{T:List Th}{M:List Mk}{dk:List Str}
theorem Uq{q:Sl}(h1:e (wR T M dk ns ds q)=some (d,wR T M dk ns ds q))(h2:ns.contains nm=false)(h3:ds.length=ns.length)(h4:ns.length<900):nh 14 0 nm e (wR T M dk ns ds q)=some (.nx (wR T M dk (ns++[nm]) (ds++[d]) q)):=by unfold nh;rw[h1];show (if 14=14 then if ns.contains nm=true then none else if ds.length=ns.length then if ns.length<900 then some (Out.nx (wR T M dk (ns++[nm]) (ds++[d]) q))else none else none else none)=_;rw[ag rfl,h2,af aR,ag h3,ag h4]
theorem K0{q:Sl}{r:List Sl}(h1:e (wL T M dk ns ds q)=some (d,r))(h2:noC 15 14 d=true):sD 15 e (wR T M dk ns ds q)=some (d,wR T M dk ns ds q):=by
 unfold sD;show (match e (wL T M dk ns ds q)with
  |some (d,_)=>if (decide (14<15)&&noC 15 14 d)=true then some (d,wR T M dk ns ds q)else none
  |none=>none)=_
 rw[h1];simp only[h2];rfl
abbrev d6(T:List Th)(M:List Mk)(dk:List Str):List L4.D:=[TD T,MD M,.lst (dk.map D.str),.lst (wyT T),.lst [],.lst nP]
abbrev n6:List Str:=["kept_things", "kept_marks", "kept_dark", "kept_ways", "kept_verbs", "shared_verbs"]
theorem Ur(y:Str)(hl:T.length<=1000)(hy:(T.filter λt=>decide (t.k=.you)).map Th.n=[y]):sD 15 (c2 dIx (ni nG "of_kind" (cV 0) (mi (cC (.str "you")) mw)) (cC (.int 0))) (wR T M dk n6 (d6 T M dk) .un)=some (.str y,wR T M dk n6 (d6 T M dk) .un):=by
 refine K0 (r:=wL T M dk n6 (d6 T M dk) .un) (mD (n4 (xs:=d6 T M dk) (ys:=[.str Kd.you.s]) (hh:=nX) rfl rfl rfl rfl (Ax T hl _ _ .you)) rfl ?_) rfl;have:((T.filter λt=>decide (t.k=.you)).map λt=>D.str t.n)=[.str y]:=by rw[show (λt:Th=>D.str t.n)=D.str∘Th.n from rfl,<- aJ,hy];rfl
 rw[this];rfl
end
variable{mo:L4.D}
section
variable{T:List Th}{M:List Mk}{dk:List Str}
theorem Us:o5 [.lst nP]=some vwD:=by kernel_rfl
theorem Ut(y:Str):tL [.lst (shD T y)]=some (rbD T y):=by kernel_rfl
theorem Sh:noC 15 14 vwD=true:=by kernel_rfl
theorem Si(y:Str):noC 15 14 (rbD T y)=true:=by kernel_rfl
theorem Sj(y:Str):noC 15 14 (.lst (shD T y))=true:=by kernel_rfl
theorem Sk(y:Str):(shD T y).length<=900:=bq (by kernel_rfl)
abbrev n7:List Str:=["kept_things", "kept_marks", "kept_dark", "kept_ways", "kept_verbs", "shared_verbs", "your_name"]
abbrev d7(T:List Th)(M:List Mk)(dk:List Str)(y:Str):List L4.D:=[TD T,MD M,.lst (dk.map D.str),.lst (wyT T),.lst [],.lst nP,.str y]
theorem Uu(ns:List Str)(ds:List L4.D):qo [.obj 14 (n6++ns) (d6 T M dk++ds)]=some (.lst nP):=by kernel_rfl
theorem NN(ns:List Str)(ds:List L4.D)(q:Sl)(hc:(n6++ns).contains "all_verbs" = false):sD 15 (mr o5 (mi (ni pU "all_verbs" (cV 0) mw) mw)) (wR T M dk (n6++ns) (d6 T M dk++ds) q)=some (vwD,wR T M dk (n6++ns) (d6 T M dk++ds) q):=
 K0 (r:=wL T M dk (n6++ns) (d6 T M dk++ds) q) (mC (mj (n4 (xs:=d6 T M dk++ds) (ys:=[]) (hh:=qo) rfl rfl hc rfl (Uu ns ds)) rfl) Us) Sh
theorem K1(y:Str)(ns:List Str)(ds:List L4.D)(q:Sl):sD 15 (cL (m6 pG (mi (c1 (mP qP "your_name") (cV 0)) (mi (cV 4) mw)))) (wR T M dk (n7++ns) (d7 T M dk y++ds) q)=some (.lst (shD T y),wR T M dk (n7++ns) (d7 T M dk y++ds) q):=
 K0 (r:=wL T M dk (n7++ns) (d7 T M dk y++ds) q) (nN (mC (ds:=[.str y,.lst (wyT T)]) rfl (Up T y))) (Sj (T:=T) y)
abbrev n13:List Str:=["kept_things", "kept_marks", "kept_dark", "kept_ways", "kept_verbs", "shared_verbs", "your_name", "things_by_name", "mosts_by_name", "verbs_by_word", "kept_rules", "shared_rules", "copied_rules"]
theorem UP(y:Str)(a b c d:L4.D)(q:Sl):sD 15 (mr tL (mi (cL (pb (c1 (mP qG "copied_rules") (cV 0)) (c1 (mP qH "shared_rules") (cV 0)))) mw)) (wR T M dk n13 [TD T,MD M,.lst (dk.map D.str),.lst (wyT T),.lst [],.lst nP,.str y,a,b,c,d,.lst (shD T y),.lst []] q)=some (rbD T y,wR T M dk n13 [TD T,MD M,.lst (dk.map D.str),.lst (wyT T),.lst [],.lst nP,.str y,a,b,c,d,.lst (shD T y),.lst []] q):=
 K0 (r:=wL T M dk n13 [TD T,MD M,.lst (dk.map D.str),.lst (wyT T),.lst [],.lst nP,.str y,a,b,c,d,.lst (shD T y),.lst []] q) (mC (mj (nN (qD (xs:=[]) (ys:=shD T y) rfl rfl (by have:=Sk (T:=T) y;simp;omega))) rfl) (Ut (T:=T) y)) (Si (T:=T) y)
theorem CL{q:Sl}{g:FS}{r:Option Out}(h1:e (wR T M dk ns ds q)=some (d,wR T M dk ns ds q))(h2:ns.contains nm=false)(h3:ds.length=ns.length)(h4:ns.length<900)(h:g (wR T M dk (ns++[nm]) (ds++[d]) q)=r):mx (nh 14 0 nm e) g (wR T M dk ns ds q)=r:=(ml (Uq h1 h2 h3 h4)).trans h
theorem K2(g:Good T M dk)(y:Str)(hy:(T.filter λt=>decide (t.k=.you)).map Th.n=[y])(emo:oZ [TD T,MD M]=some mo):qq [TD T,MD M,.lst (dk.map D.str),.lst (wyT T),.lst [],.lst []]=some (wNs,wDs T M dk y mo):=by
 have hl:=g.len;have e:qp (wR T M dk [] [] .un)=some (.nx (wR T M dk wNs (wDs T M dk y mo) (.im (.bl true)))):=by
  unfold qp;refine(ml (oj (ρ':=wR T M dk [] [] .un) (mC (mj rfl (mj rfl (mj rfl (mj rfl (mj rfl (mj (nN (mC (g:=oM) (ds:=[]) rfl Er)) rfl)))))) (Aw g)))).trans ?_
  iterate 5 refine CL rfl rfl rfl (by decide) ?_
  refine CL (nN (mC (g:=oM) (ds:=[]) rfl Er)) rfl rfl (by decide) (CL (Ur y (by omega) hy) rfl rfl (by decide) (CL (mC (ds:=[TD T]) rfl (FC T (by omega) g.ndT)) rfl rfl (by decide) (CL (mC (ds:=[TD T,MD M]) rfl emo) rfl rfl (by decide)
   (CL (NN ["your_name", "things_by_name", "mosts_by_name"] [.str y,.dic (nK T) (T.map thD),mo] .un rfl) rfl rfl (by decide) ?_))))
  refine(ml ((mO (i:=7) (K0 (d:=.bl true) (T:=T) (M:=M) (dk:=dk) rfl rfl)).trans rfl)).trans ((ml (oN (ρ1:=_) rfl)).trans ?_);refine CL rfl rfl rfl (by decide) (CL (K1 y ["things_by_name", "mosts_by_name", "verbs_by_word", "kept_rules"] [.dic (nK T) (T.map thD),mo,vwD,.lst []] (.im (.bl true))) rfl rfl (by decide) (CL rfl rfl rfl (by decide) ?_));exact Uq (UP y _ _ _ _ (.im (.bl true))) rfl rfl (by decide)
 unfold qq fnI;rw[ag (show [TD T,MD M,D.lst (dk.map D.str),D.lst (wyT T),D.lst [],D.lst []].length=6 from rfl)];rw[show qp (stI 14 8 [TD T,MD M,.lst (dk.map D.str),.lst (wyT T),.lst [],.lst []])=some (.nx (wR T M dk wNs (wDs T M dk y mo) (.im (.bl true)))) from e];rfl
end
def IL(ds:List L4.D):Prop:=∃xs:List Int,ds=xs.map D.int
theorem IL.nil:IL []:=⟨[],rfl⟩
theorem IL.snoc{ds:List L4.D}(h:IL ds)(i:Int):IL (ds++[.int i]):=by obtain⟨xs,rfl⟩:=h;exact⟨xs++[i],by rw[aS];rfl⟩
variable{es:List L4.D}
theorem IL.sub(h:IL ds)(hs:∀d∈es,d∈ds):IL es:=by
 induction es with
 |nil=>exact IL.nil
 |cons d es ih=>obtain⟨ys,rfl⟩:=ih λd hd=>hs d (aX _ hd);obtain⟨xs,rfl⟩:=h;obtain⟨i,_,rfl⟩:=aM.mp (hs d aQ);exact⟨i::ys,rfl⟩
theorem NO{lo hi:Option Int}:∀d∈cutD ds lo hi,d∈ds:=λd hd=>by unfold cutD at hd;exact kh (List.mem_of_mem_take hd)
def GF:FS:=(mx (m5 (tY 2 (c2 oP (cV 3) (c2 yi (cC (.int 10)) (cC (.int 6))))))
 (mT 3 (c2 vR (cV 3) (c2 yi (cC (.int 10)) (cC (.int 6))))))
def K4:FT:=yj (qW (cT (c2 AN (cV 3) (cC (.int 0)))) (cT (c2 AM (c1 oB (cV 2)) (cV 1))))
theorem yW(c:Int)(m:Nat)(hm:m<=110):∀(n:Nat) (ds:List L4.D) (r:Int),IL ds->ds.length<=m->m - ds.length<n->∃ds' r',IL ds'/\ds'.length<=m/\
  whL K4 GF n [.im (.int c),.im (.int m),.ls ds,.im (.int r),.un,.un,.un]=some (.nx [.im (.int c),.im (.int m),.ls ds',.im (.int r'),.un,.un,.un])
 |0,ds,r,_,_,h=>ai h (lI _)
 |n+1,ds,r,hi,hl,hn=>by
  have ht:K4 [.im (.int c),.im (.int m),.ls ds,.im (.int r),.un,.un,.un]=some (decide (0<r)&&decide (ds.length<m),[.im (.int c),.im (.int m),.ls ds,.im (.int r),.un,.un,.un]):=by
   refine F9 (ρ1:=[.im (.int c),.im (.int m),.im (.lst ds),.im (.int r),.un,.un,.un]) ?_;show qW _ _ [.im (.int c),.im (.int m),.im (.lst ds),.im (.int r),.un,.un,.un]=_;unfold qW;rw[show cT (c2 AN (cV 3) (cC (.int 0))) [.im (.int c),.im (.int m),.im (.lst ds),.im (.int r),.un,.un,.un]=some (decide (0<r),[.im (.int c),.im (.int m),.im (.lst ds),.im (.int r),.un,.un,.un]) from rfl];cases decide (0<r)with
   |false=>rfl
   |true=>show cT (c2 AM (c1 oB (cV 2)) (cV 1)) _=some (decide (ds.length<m),_);rw[show cT (c2 AM (c1 oB (cV 2)) (cV 1)) [.im (.int c),.im (.int m),.im (.lst ds),.im (.int r),.un,.un,.un]=some (decide ((ds.length:Int)<m),[.im (.int c),.im (.int m),.im (.lst ds),.im (.int r),.un,.un,.un]) from rfl];simp only[Int.ofNat_lt]
  unfold whL;rw[ht];cases hq:(decide (0<r)&&decide (ds.length<m))with
  |false=>exact⟨ds,r,hi,hl,rfl⟩
  |true=>
   rw[aL,bu,bu]at hq;have e1:GF [.im (.int c),.im (.int m),.ls ds,.im (.int r),.un,.un,.un]=some (.nx [.im (.int c),.im (.int m),.ls (ds++[.int (r % 1000000)]),.im (.int (r / 1000000)),.un,.un,.un]):=by unfold GF;refine(ml (ρ':=[.im (.int c),.im (.int m),.ls (ds++[.int (r % 1000000)]),.im (.int r),.un,.un,.un]) ((oj (xJ (es0:=ds) (es:=ds) (ρ1:=[.im (.int c),.im (.int m),.ls ds,.im (.int r),.un,.un,.un]) rfl (mD rfl rfl (qO (by decide))) rfl (by omega))).trans rfl)).trans ?_;exact(mO (mD rfl rfl (div_pos (by decide) (by decide)))).trans rfl
   simp only[e1];exact yW c m hm n _ _ (hi.snoc _) (by rw[aB,aZ];omega) (by rw[aB,aZ];omega)
def fBody:FS:=(mx (mT 4 (c2 oP (c2 qZ (c2 nQ (c2 nQ (cV 4) (c2 qZ (cC (.int 7919)) (cV 5))) (cC (.int 1))) (cC (.int 48271))) (cC (.int 2147483647))))
 (mx (mT 6 (c2 oP (c2 qZ (cV 4) (c2 nQ (c2 vR (cV 4) (cC (.int 1009))) (cC (.int 69621)))) (cC (.int 2147483647))))
 (m5 (tY 2 (c2 oP (c2 qZ (cV 6) (c2 nQ (c2 vR (cV 6) (cC (.int 2003))) (cC (.int 40692)))) (cC (.int 2147483399)))))))
theorem modS(a:Int):0<=a % 2147483647/\a % 2147483647<2147483647:=⟨iU _ (by decide),iw _ (by decide)⟩
theorem BI(a b r:Sl):∀(l:List Int) (ds:List L4.D) (x:Int) (s5 s6:Sl),IL ds->ds.length+l.length<=900->∃ds' x' t5 t6,IL ds'/\
  forL (gN 5) fBody (l.map D.int) [a,b,.ls ds,r,.im (.int x),s5,s6]=some (.nx [a,b,.ls ds',r,.im (.int x'),t5,t6])
 |[],ds,x,s5,s6,hi,_=>⟨ds,x,s5,s6,hi,rfl⟩
 |k::l,ds,x,s5,s6,hi,hl=>by
  rw[aC]at hl;let y:=(x+7919 * k+1) * 48271 % 2147483647;let z:=y * (y / 1009+69621) % 2147483647;let v:=z * (z / 2003+40692) % 2147483399;have hy:=modS ((x+7919 * k+1) * 48271);have hz:=modS (y * (y / 1009+69621));have e1:fBody [a,b,.ls ds,r,.im (.int x),.im (.int k),s6]=some (.nx [a,b,.ls (ds++[.int v]),r,.im (.int y),.im (.int k),.im (.int z)]):=by unfold fBody;refine(ml (ρ':=[a,b,.ls ds,r,.im (.int y),.im (.int k),s6]) ((mO (mD (mD (mD (mD rfl (mD rfl rfl (rL (.inl (by decide)))) rfl) rfl rfl) rfl (rL (.inr (by decide)))) rfl (qO (by decide)))).trans rfl)).trans ?_;refine(ml (ρ':=[a,b,.ls ds,r,.im (.int y),.im (.int k),.im (.int z)]) ((mO (mD (mD rfl (mD (mD rfl rfl (div_pos (by decide) (by decide))) rfl rfl) (rL (.inl (DL hy.1 hy.2)))) rfl (qO (by decide)))).trans rfl)).trans ?_;exact(oj (xJ (es0:=ds) (es:=ds) (ρ1:=[a,b,.ls ds,r,.im (.int y),.im (.int k),.im (.int z)]) rfl (mD (mD rfl (mD (mD rfl rfl (div_pos (by decide) (by decide))) rfl rfl) (rL (.inl (DL hz.1 hz.2)))) rfl (qO (by decide))) rfl (by omega))).trans rfl
  obtain⟨ds',x',t5,t6,h1,h2⟩:=BI a b r l (ds++[.int v]) y (.im (.int k)) (.im (.int z)) (hi.snoc _) (by rw[aB,aZ];omega);refine⟨ds',x',t5,t6,h1,?_⟩;rw[au];unfold forL;rw[show gN 5 (.int k) [a,b,.ls ds,r,.im (.int x),s5,s6]=some [a,b,.ls ds,r,.im (.int x),.im (.int k),s6] from rfl];simp only[e1];exact h2
theorem Es(c:Int)(m:Nat)(hm:m<=110):∃ds,IL ds/\qt [.int c,.int m]=some ds:=by
 have fin:∀r0:Int,∃ds,IL ds/\∃ρ,mx (whL K4 GF 200) (mx (mT 4 (c2 oP (c2 qZ (c2 nQ (c2 oP (cV 0) (cC (.int 2147483647))) (cC (.int 1))) (cC (.int 48271))) (cC (.int 2147483647)))) (mx (rq (iR1 (cV 1)) (gN 5) fBody) (oY (uM (cFz 2) oNo (oAt (cV 1)))))) [.im (.int c),.im (.int m),.ls [],.im (.int r0),.un,.un,.un]=some (.rn ds ρ):=λr0=>by obtain⟨ds,r,h1,h2,h3⟩:=yW c m hm 200 [] r0 IL.nil (aY _) (by simp;omega);let x:=(c % 2147483647+1) * 48271 % 2147483647;obtain⟨ds',x',t5,t6,h4,h5⟩:=BI (.im (.int c)) (.im (.int m)) (.im (.int r)) ((aF m).map λ(i:Nat)=>(0:Int)+(i:Int)) ds x .un .un h1 (by rw[ah,bO];omega);refine⟨cutD ds' none (some m),h4.sub NO,[.im (.int c),.im (.int m),.im (.lst ds'),.im (.int r),.im (.int x'),t5,t6],?_⟩;refine(ml h3).trans ?_;refine(ml (ρ':=[.im (.int c),.im (.int m),.ls ds,.im (.int r),.im (.int x),.un,.un]) ((mO (mD (mD (mD (mD rfl rfl (qO (by decide))) rfl rfl) rfl (rL (.inr (by decide)))) rfl (qO (by decide)))).trans rfl)).trans ?_;refine(ml ((pY (ds:=((aF m).map λ(i:Nat)=>(0:Int)+(i:Int)).map D.int) (ρ1:=[.im (.int c),.im (.int m),.ls ds,.im (.int r),.im (.int x),.un,.un]) ?_).trans h5)).trans rfl;unfold iR1;show (if -1000000<=(m:Int)/\(m:Int)<=1000000 then some (zH 0 (m:Int).toNat,_)else none)=_;rw[ag (by omega),fq];unfold zH;rw[aJ];rfl
 by_cases hc:(1000000000000000000:Int)<=c
 ·obtain⟨ds,h1,ρ,h2⟩:=fin (c - 1000000000000000000);refine⟨ds,h1,xK (ρ:=ρ) rfl ?_⟩;refine(ml (ρ':=[.im (.int c),.im (.int m),.ls [],.un,.un,.un,.un]) rfl).trans ((ml (ρ':=[.im (.int c),.im (.int m),.ls [],.im (.int 0),.un,.un,.un]) rfl).trans ((ml (ρ':=[.im (.int c),.im (.int m),.ls [],.im (.int (c - 1000000000000000000)),.un,.un,.un]) ((nH (ρ':=[.im (.int c),.im (.int m),.ls [],.im (.int 0),.un,.un,.un]) ?_).trans rfl)).trans h2));refine nJ (mD (y:=.int 1000000000000000000) rfl rfl ?_);show some (D.bl (decide _))=_;rw[aH hc]
 ·obtain⟨ds,h1,ρ,h2⟩:=fin 0;refine⟨ds,h1,xK (ρ:=ρ) rfl ?_⟩;refine(ml (ρ':=[.im (.int c),.im (.int m),.ls [],.un,.un,.un,.un]) rfl).trans ((ml (ρ':=[.im (.int c),.im (.int m),.ls [],.im (.int 0),.un,.un,.un]) rfl).trans ((ml (ρ':=[.im (.int c),.im (.int m),.ls [],.im (.int 0),.un,.un,.un]) ((m7 (ρ':=[.im (.int c),.im (.int m),.ls [],.im (.int 0),.un,.un,.un]) ?_).trans rfl)).trans h2));refine nJ (mD (y:=.int 1000000000000000000) rfl rfl ?_);show some (D.bl (decide _))=_;rw[aA hc]
theorem BJ:∀xs:List Int,uL (xs.map D.int)=some (xs.map L3.Dq.int)
 |[]=>rfl
 |x::xs=>by rw[au];unfold uL;rw[BJ xs];rfl
theorem Et(x:Int)(xs:List Int):dEq false (.lst ((x::xs).map D.int)) (.lst [])=some (.bl false):=by
 have e0:AO false (.lst ((x::xs).map D.int)) (.lst [])=none:=rfl;have e1:toD (.lst ((x::xs).map D.int))=some (.lst ((x::xs).map L3.Dq.int)):=by unfold toD;rw[BJ]
 have e2:∀ys:List Int,oe (ys.map L3.Dq.int)=0:=λys=>by
  induction ys with
  |nil=>rfl
  |cons y ys ih=>rw[au];unfold oe;rw[ih];unfold dpt;rfl
 have e3:dpt (.lst ((x::xs).map L3.Dq.int))=1:=by rw[dpt,e2]
 unfold dEq;rw[e0];show DI false _ _=_;unfold DI;rw[e1,show toD (.lst [])=some (.lst []) from rfl];show (if Dn (.lst ((x::xs).map L3.Dq.int)) (.lst [])&&decide (dpt (.lst ((x::xs).map L3.Dq.int))<=20)&&decide (dpt (.lst [])<=20)then some (D.bl (eqD (.lst ((x::xs).map L3.Dq.int)) (.lst [])))else none)=_;rw[e3];rfl
theorem pf(h:IL es)(n:Int)(hn:0<n):∃r es',IL es'/\0<=r/\r<n/\mm es [.int n]=some (.int r,es'):=by
 obtain⟨xs,rfl⟩:=h;cases xs with
 |nil=>exact⟨0,[],IL.nil,Int.le_refl _,hn,rfl⟩
 |cons x xs=>refine⟨x % n,xs.map D.int,⟨xs,rfl⟩,iU _ (by omega),iw _ hn,?_⟩;refine P7 (ρ:=[.pm (xs.map D.int),.im (.int n)]) rfl ?_ rfl;refine(ml (ρ':=[.pm ((x::xs).map D.int),.im (.int n)]) ((m7 (ρ':=[.pm ((x::xs).map D.int),.im (.int n)]) (F9 (ρ1:=[.im (.lst ((x::xs).map D.int)),.im (.int n)]) (nJ (mD (x:=.lst ((x::xs).map D.int)) (y:=.lst []) rfl rfl (Et x xs))))).trans rfl)).trans ?_;exact mZ (mD (x:=.int x) (ρ1:=[.pm (xs.map D.int),.im (.int n)]) rfl rfl (qO hn))
def lets:Str:="bcdefghijklmnopqrstuvwxyz"
theorem Sm(i:Nat)(h:i<25):dIx (.str lets) (.int i)=some (.str ⟨#[98+i]⟩):=by
 have q:((aF 25).all λi=>match dIx (.str lets) (.int i)with|some (.str x)=>decide (x=⟨#[98+i]⟩)|_=>false)=true:=by kernel_rfl
 have:=aV.mp q i (bb.mpr h);revert this;split
 ·rename_i x e;intro z;rw[e,bh z]
 ·intro z;cases z
def Uv:FE:=(c2 DN (c2 dIx (cV 1) (c2 oP (c2 nQ (cV 3) (c2 qZ (cC (.int 7)) (cV 0))) (cC (.int 25)))) (c2 nQ (cC (.int 1)) (nD mm 2 (mi (cC (.int 8)) mw))))
theorem NP(h:IL es)(s k:Nat):∃c es',c<8/\IL es'/\Uv [.im (.int k),.im (.str lets),.pm es,.im (.int s)]=some (.str (nmS ((s+7 * k) % 25) c),[.im (.int k),.im (.str lets),.pm es',.im (.int s)]):=by
 obtain⟨r,es',h1,h2,h3,h4⟩:=pf h 8 (by decide);obtain⟨c,rfl⟩:=b0 h2;refine⟨c,es',by omega,h1,?_⟩;have hm:(s+7 * k) % 25<25:=eO _ (by decide);let ρ:List Sl:=[.im (.int k),.im (.str lets),.pm es,.im (.int s)];let ρ':List Sl:=[.im (.int k),.im (.str lets),.pm es',.im (.int s)];have e1:c2 dIx (cV 1) (c2 oP (c2 nQ (cV 3) (c2 qZ (cC (.int 7)) (cV 0))) (cC (.int 25))) ρ=some (.str ⟨#[98+(s+7 * k) % 25]⟩,ρ):=by
  refine mD (y:=.int (((s+7 * k) % 25:Nat):Int)) rfl (mD (mD rfl (mD rfl rfl (rL (.inl (by decide)))) rfl) rfl ((qO (by decide)).trans ?_)) (Sm _ hm);have:((s:Int)+7 * k) % 25=(((s+7 * k) % 25:Nat):Int):=by omega
  rw[this]
 have e2:c2 nQ (cC (.int 1)) (nD mm 2 (mi (cC (.int 8)) mw)) ρ=some (.int (1+(c:Int)),ρ'):=mD rfl ((qh (es0:=es) (es:=es) (ρ1:=ρ) rfl rfl rfl h4).trans rfl) rfl;refine mD e1 e2 ?_;show (if 0<=1+(c:Int)/\1+(c:Int)<=1000/\Str.length ⟨#[98+(s+7 * k) % 25]⟩<=100 then some (D.str (fR ⟨#[98+(s+7 * k) % 25]⟩ (1+(c:Int))))else none)=_;rw[ag ⟨by omega,by omega,by show 1<=100;decide⟩];rfl
theorem Eu(s:Nat):∀(l:List Nat) (es:List L4.D),IL es->∃cs es',cs.length=l.length/\(∀c∈cs,c<8)/\IL es'/\
  qz 1 [2,0,1] (gN 0) og Uv (l.map λ(k:Nat)=>D.int k) [.pm es,.im (.int s),.im (.str lets)]=some (cx (λ(k c:Nat)=>D.str (nmS ((s+7 * k) % 25) c)) l cs,[.pm es',.im (.int s),.im (.str lets)])
 |[],es,h=>⟨[],es,rfl,λc hc=>(bD hc).elim,h,rfl⟩
 |k::l,es,h=>by
  obtain⟨c,es1,h1,h2,h3⟩:=NP h s k;obtain⟨cs,es',h4,h5,h6,h7⟩:=Eu s l es1 h2;refine⟨c::cs,es',by rw[aC,aC,h4],λx hx=>?_,h6,?_⟩
  ·rcases aD.mp hx with rfl|hx
   ·exact h1
   ·exact h5 x hx
  ·rw[au];unfold qz;rw[show gN 0 (.int k) (v9 1 [2,0,1] [.pm es,.im (.int s),.im (.str lets)])=some [.im (.int k),.im (.str lets),.pm es,.im (.int s)] from rfl];simp only[og,h3];rw[show pT [2,0,1] (([.im (.int k),.im (.str lets),.pm es1,.im (.int s)]:List Sl).drop 1) [.pm es,.im (.int s),.im (.str lets)]=some [.pm es1,.im (.int s),.im (.str lets)] from rfl];simp only[h7];rfl
theorem K5(s:Nat)(hs:s<25):∀(l cs:List Nat),cs.length=l.length->(∀c∈cs,c<8)->(l.map λk=>(s+7 * k) % 25).Nodup->∃N:List Str,N.length=l.length/\(∀x∈N,Nm x)/\N.Nodup/\(∀x∈N,∃k∈l,sg x=98+(s+7 * k) % 25)/\cx (λ(k c:Nat)=>D.str (nmS ((s+7 * k) % 25) c)) l cs=N.map D.str
 |[],[],_,_,_=>⟨[],rfl,λx h=>(bD h).elim,fE,λx h=>(bD h).elim,rfl⟩
 |[],c::cs,h,_,_=>by cases h
 |k::l,[],h,_,_=>by cases h
 |k::l,c::cs,h,hc,nd=>by
  rw[au,cq]at nd;obtain⟨N,h1,h2,h3,h4,h5⟩:=K5 s hs l cs (by simpa using h) (λx hx=>hc x (aX _ hx)) nd.2;have hm:(s+7 * k) % 25<25:=eO _ (by decide);have hsg:=Uo hm (hc c aQ);refine⟨nmS ((s+7 * k) % 25) c::N,by rw[aC,aC,h1],λx hx=>?_,?_,λx hx=>?_,?_⟩
  ·rcases aD.mp hx with rfl|hx
   ·exact⟨_,_,hm,hc c aQ,rfl⟩
   ·exact h2 x hx
  ·rw[cq];refine⟨λz=>?_,h3⟩;obtain⟨j,hj,e⟩:=h4 _ z;rw[hsg]at e;exact nd.1 (aM.mpr ⟨j,hj,by omega⟩)
  ·rcases aD.mp hx with rfl|hx
   ·exact⟨k,aQ,hsg⟩
   ·obtain⟨j,hj,e⟩:=h4 x hx;exact⟨j,aX _ hj,e⟩
  ·rw[eY,h5];rfl
structure Nms(N:List Str):Prop where
 len:N.length=17
 nm:∀x∈N,Nm x
 nd:N.Nodup
theorem K6(h:IL es):∃N es',Nms N/\IL es'/\uu es []=some (.lst (N.map D.str),es'):=by
 obtain⟨r,es1,h1,h2,h3,h4⟩:=pf h 25 (by decide);obtain⟨s,rfl⟩:=b0 h2;have hs:s<25:=by omega
 obtain⟨cs,es2,h5,h6,h7,h8⟩:=Eu s (aF 17) es1 h1;have nd:((aF 17).map λk=>(s+7 * k) % 25).Nodup:=by
  have q:((aF 25).all λs=>decide ((aF 17).map λk=>(s+7 * k) % 25).Nodup)=true:=by decide +kernel
  exact bh (aV.mp q s (bb.mpr hs))
 obtain⟨N,n1,n2,n3,_,n5⟩:=K5 s hs (aF 17) cs h5 h6 nd;refine⟨N,es2,⟨by rw[n1,bO],n2,n3⟩,h7,P8 (ρ:=[.pm es2,.im (.int s),.im (.str lets)]) rfl ?_ rfl⟩;unfold ur;refine(ml (ρ':=[.pm es1,.im (.int s),.un]) ((mO (qh (es0:=es) (es:=es) (ρ1:=[.pm es,.un,.un]) rfl rfl rfl h4)).trans rfl)).trans ?_;refine(ml (ρ':=[.pm es1,.im (.int s),.im (.str lets)]) rfl).trans ?_;refine t8 ((wN (ds:=(aF 17).map λ(k:Nat)=>D.int k) (ρ1:=[.pm es1,.im (.int s),.im (.str lets)]) ?_ (by simp)).trans (by rw[<-n5];exact h8));unfold iR1;show (if _ then some (zH 0 17,_)else none)=_;rw[ag (by decide)];unfold zH;simp only[Int.zero_add]
structure Rw where
 n:Str
 k:Kd
 s:Option Str
def mQ(r:Rw):L4.D:=.tup [.str r.n,.str r.k.s,oS r.s]
def CM(l:List Rw)(r:Rw):Prop:=(r.k=.room/\r.s=none)\/(r.k=.you/\∃u∈l,r.s=some u.n/\u.k=.room)\/(r.k.pl=true/\∃u∈l,r.s=some u.n/\u.k.hd=true)
inductive Ord:List Rw->Prop
 |nil:Ord []
 |snoc {l:List Rw} {r:Rw} (h:Ord l) (h':CM l r):Ord (l++[r])
theorem CM.mono{l l':List Rw}{r:Rw}(h:CM l r)(hs:∀u∈l,u∈l'):CM l' r:=by
 rcases h with h|⟨h1,u,h2,h3⟩|⟨h1,u,h2,h3⟩
 ·exact .inl h
 ·exact .inr (.inl ⟨h1,u,hs u h2,h3⟩)
 ·exact .inr (.inr ⟨h1,u,hs u h2,h3⟩)
theorem Ord.all{l:List Rw}(h:Ord l):∀r∈l,CM l r:=by
 induction h with
 |nil=>exact λr hr=>(bD hr).elim
 |snoc h h' ih=>
  intro r hr;rcases bX.mp hr with hr|hr
  ·exact(ih r hr).mono λu hu=>bW _ hu
  ·rw[aO]at hr;subst hr;exact h'.mono λu hu=>bW _ hu
theorem CM.start{l:List Rw}{r:Rw}(h:CM l r){p:Str}(hp:r.s=some p):∃u∈l,u.n=p:=by
 rcases h with ⟨_,h⟩|⟨_,u,h2,h3,_⟩|⟨_,u,h2,h3,_⟩
 ·rw[h]at hp;cases hp
 ·rw[h3]at hp;cases hp;exact⟨u,h2,rfl⟩
 ·rw[h3]at hp;cases hp;exact⟨u,h2,rfl⟩
theorem Ord.rank{l:List Rw}(h:Ord l):(l.map Rw.n).Nodup->∃rk:Str->Nat,∀t∈l,rk t.n<l.length/\∀p,t.s=some p->rk p<rk t.n/\∃u∈l,u.n=p:=by
 induction h with
 |nil=>exact λ_=>⟨λ_=>0,λt ht=>(bD ht).elim⟩
 |@snoc l r h h' ih=>
  intro nd;rw[aS,bC]at nd;obtain⟨rk,hk⟩:=ih nd.1;have ne:∀u∈l,u.n≠r.n:=λu hu z=>nd.2.2 _ (bN hu) _ (by simp) z;refine⟨λx=>if x=r.n then l.length else rk x,λt ht=>?_⟩;rw[aB,aZ];dsimp only;rcases bX.mp ht with ht|ht
  ·obtain⟨h1,h2⟩:=hk t ht;rw[af (ne t ht)];refine⟨by omega,λp hp=>?_⟩;obtain⟨h3,u,hu,rfl⟩:=h2 p hp;rw[af (ne u hu)];exact⟨h3,u,bW _ hu,rfl⟩
  ·rw[aO]at ht;subst ht;rw[ag rfl];refine⟨by omega,λp hp=>?_⟩;obtain⟨u,hu,rfl⟩:=h'.start hp;rw[af (ne u hu)];exact⟨(hk u hu).1,u,bW _ hu,rfl⟩
variable{j:Nat}
theorem qv(h:l[j]?=some x):atI (l.map D.str) (j:Int)=some (.str x):=FV (by rw[aK,h];rfl)
def kT:List Kd:=[.plain,.box,.lamp,.fixed,.box,.lamp,.box,.plain]
theorem Uw(j:Nat)(h:j<8):∃k,k∈kT/\dIx (.lst [.str "plain", .str "box", .str "lamp", .str "fixed", .str "box", .str "lamp", .str "box", .str "plain"]) (.int j)=some (.str (Kd.s k)):=by
 match j,h with
 |0,_=>exact⟨.plain,by decide,rfl⟩
 |1,_=>exact⟨.box,by decide,rfl⟩
 |2,_=>exact⟨.lamp,by decide,rfl⟩
 |3,_=>exact⟨.fixed,by decide,rfl⟩
 |4,_=>exact⟨.box,by decide,rfl⟩
 |5,_=>exact⟨.lamp,by decide,rfl⟩
 |6,_=>exact⟨.box,by decide,rfl⟩
 |7,_=>exact⟨.plain,by decide,rfl⟩
def K7:FS:=(mx (mT 6 (c2 dIx (cL (mK (mi (cC (.str "plain")) (mi (cC (.str "box")) (mi (cC (.str "lamp")) (mi (cC (.str "fixed")) (mi (cC (.str "box")) (mi (cC (.str "lamp")) (mi (cC (.str "box")) (mi (cC (.str "plain")) mw)))))))))) (nD mm 2 (mi (cC (.int 8)) mw))))
 (mx (m5 (tY 3 (nz (mi (cV 5) (mi (cV 6) (mi (DB 4 (nD mm 2 (mi (zL (c1 oB (cV 4))) mw))) mw))))))
 (sIf (cT (c2 (dEq false) (cV 6) (cC (.str "box")))) (m5 (tY 4 (cV 5))) m3)))
theorem K8{Hs:List Str}(h:IL es)(h0:Hs≠[])(hi:oO ρ i=some es)(hj:oO ρ j=some (Hs.map D.str))(hb:cV j (ρ.map Sl.bor)=some (.lst (Hs.map D.str),ρ.map Sl.bor))(hne:∀es',oO (putAt ρ i es') j=some (Hs.map D.str)):
  ∃x es',x∈Hs/\IL es'/\DB j (nD mm i (mi (zL (c1 oB (cV j))) mw)) ρ=some (.str x,putAt ρ i es'):=by
 have hp:0<Hs.length:=dq.mpr h0;obtain⟨r,es',h1,h2,h3,h4⟩:=pf h Hs.length (by omega);obtain⟨m,rfl⟩:=b0 h2;have hm:m<Hs.length:=by omega
 refine⟨Hs[m],es',bP hm,h1,?_⟩;have e1:zL (c1 oB (cV j)) ρ=some (.int Hs.length,ρ):=P6 (nE hb (by show some (D.int _)=_;rw[ah])) rfl;have e2:nD mm i (mi (zL (c1 oB (cV j))) mw) ρ=some (.int m,putAt ρ i es'):=qh hi (mj e1 rfl) hi h4;unfold DB;rw[hj];simp only[e2,hne es'];rw[show atI (Hs.map D.str) (m:Int)=some (.str Hs[m]) from qv (az hm)]
theorem yX(a b:Sl)(B:List Rw):∀(l:List Str) (es:List L4.D) (O:List Rw) (Hs:List Str) (s5 s6:Sl),IL es->Hs≠[]->(∀x∈Hs,∃u∈B++O,u.n=x/\u.k.hd=true)->Ord (B++O)->O.length+l.length<=900->Hs.length+l.length<=900->
  ∃(es':List L4.D) (O':List Rw) (Hs':List Str) (t5 t6:Sl),IL es'/\Ord (B++(O++O'))/\O'.map Rw.n=l/\(∀r∈O',r.k.pl=true)/\
   forL (gN 5) K7 (l.map D.str) [a,b,.pm es,.ls (O.map mQ),.ls (Hs.map D.str),s5,s6]=some (.nx [a,b,.pm es',.ls ((O++O').map mQ),.ls (Hs'.map D.str),t5,t6])
 |[],es,O,Hs,s5,s6,hi,_,_,ho,_,_=>⟨es,[],Hs,s5,s6,hi,by rw[aU];exact ho,rfl,λr hr=>(bD hr).elim,by rw[aU];rfl⟩
 |x::l,es,O,Hs,s5,s6,hi,h0,hH,ho,hl,hl'=>by
  rw[aC]at hl hl';obtain⟨r,es1,h1,h2,h3,h4⟩:=pf hi 8 (by decide);obtain⟨j,rfl⟩:=b0 h2;obtain⟨k,hk,ek⟩:=Uw j (by omega);let ρ1:List Sl:=[a,b,.pm es1,.ls (O.map mQ),.ls (Hs.map D.str),.im (.str x),.im (.str k.s)];obtain⟨p,es2,hp,h5,e2⟩:=K8 (ρ:=ρ1) (i:=2) (j:=4) h1 h0 rfl rfl rfl (λ_=>rfl);have hpl:k.pl=true:=by
   have:∀k∈kT,Kd.pl k=true:=by decide
   exact this k hk
  let rw0:Rw:=⟨x,k,some p⟩;obtain⟨u,hu,hun,huk⟩:=hH p hp;have ok:CM (B++O) rw0:=.inr (.inr ⟨hpl,u,hu,by rw[hun],huk⟩);let Hs1:List Str:=if k=.box then Hs++[x]else Hs
  have e3:K7 [a,b,.pm es,.ls (O.map mQ),.ls (Hs.map D.str),.im (.str x),s6]=some (.nx [a,b,.pm es2,.ls ((O++[rw0]).map mQ),.ls (Hs1.map D.str),.im (.str x),.im (.str k.s)]):=by
   unfold K7;refine(ml (ρ':=ρ1) ((mO (mD (x:=.lst [.str "plain", .str "box", .str "lamp", .str "fixed", .str "box", .str "lamp", .str "box", .str "plain"]) (ρ1:=[a,b,.pm es,.ls (O.map mQ),.ls (Hs.map D.str),.im (.str x),s6]) rfl (qh (es0:=es) (es:=es) (ρ1:=[a,b,.pm es,.ls (O.map mQ),.ls (Hs.map D.str),.im (.str x),s6]) rfl rfl rfl h4) ek)).trans rfl)).trans ?_;let ρ2:List Sl:=[a,b,.pm es2,.ls (O.map mQ),.ls (Hs.map D.str),.im (.str x),.im (.str k.s)];let ρ3:List Sl:=[a,b,.pm es2,.ls ((O++[rw0]).map mQ),.ls (Hs.map D.str),.im (.str x),.im (.str k.s)];refine(ml (ρ':=ρ3) ((oj (xJ (es0:=O.map mQ) (es:=O.map mQ) (ρ1:=ρ2) (d:=mQ rw0) rfl (pX (mj rfl (mj rfl (mj e2 rfl))) (by show 3<=1000;decide)) rfl (by rw[ah];omega))).trans ?_)).trans ?_
   ·show some (Out.nx [a,b,.pm es2,.ls (O.map mQ++[mQ rw0]),.ls (Hs.map D.str),.im (.str x),.im (.str k.s)])=_;rw[show O.map mQ++[mQ rw0]=(O++[rw0]).map mQ by rw[aS];rfl]
   ·have et:cT (c2 (dEq false) (cV 6) (cC (.str "box"))) ρ3=some (decide (k=.box),ρ3):=nJ (mD rfl rfl (yV k .box));by_cases hb:k=.box
    ·rw[aH hb]at et;refine(nH et).trans ((oj (xJ (es0:=Hs.map D.str) (es:=Hs.map D.str) (ρ1:=ρ3) (d:=.str x) rfl rfl rfl (by rw[ah];omega))).trans ?_);show some (Out.nx [a,b,.pm es2,.ls ((O++[rw0]).map mQ),.ls (Hs.map D.str++[.str x]),.im (.str x),.im (.str k.s)])=_;rw[show Hs1.map D.str=Hs.map D.str++[.str x] by rw[show Hs1=Hs++[x] from ag hb,aS];rfl]
    ·rw[aA hb]at et;refine(m7 et).trans ?_;rw[show Hs1=Hs from af hb];rfl
  have ho1:Ord (B++(O++[rw0])):=by rw[<-ba];exact ho.snoc ok
  have hH1:∀y∈Hs1,∃u∈B++(O++[rw0]),u.n=y/\u.k.hd=true:=λy hy=>by
   have old:y∈Hs->∃u∈B++(O++[rw0]),u.n=y/\u.k.hd=true:=λhy=>by obtain⟨v,hv,h⟩:=hH y hy;exact⟨v,by rw[<-ba];exact bW _ hv,h⟩
   by_cases hb:k=.box
   ·rw[show Hs1=Hs++[x] from ag hb]at hy;rcases bX.mp hy with hy|hy
    ·exact old hy
    ·rw[aO]at hy;refine⟨rw0,by simp,hy.symm,?_⟩;show k.hd=true;rw[hb];rfl
   ·rw[show Hs1=Hs from af hb]at hy;exact old hy
  have h01:Hs1≠[]:=by
   by_cases hb:k=.box
   ·rw[show Hs1=Hs++[x] from ag hb];simp
   ·rw[show Hs1=Hs from af hb];exact h0
  have hl1:Hs1.length<=Hs.length+1:=by
   by_cases hb:k=.box
   ·rw[show Hs1=Hs++[x] from ag hb];simp
   ·rw[show Hs1=Hs from af hb];omega
  obtain⟨es',O',Hs',t5,t6,g1,g2,g3,g4,g5⟩:=yX a b B l es2 (O++[rw0]) Hs1 (.im (.str x)) (.im (.str k.s)) h5 h01 hH1 ho1 (by rw[aB,aZ];omega) (by omega);refine⟨es',rw0::O',Hs',t5,t6,g1,by rw[ba]at g2;exact g2,by rw[au,g3],λr hr=>?_,?_⟩
  ·rcases aD.mp hr with rfl|hr
   ·exact hpl
   ·exact g4 r hr
  ·rw[au];unfold forL;rw[show gN 5 (.str x) [a,b,.pm es,.ls (O.map mQ),.ls (Hs.map D.str),s5,s6]=some [a,b,.pm es,.ls (O.map mQ),.ls (Hs.map D.str),.im (.str x),s6] from rfl];simp only[e3];rw[g5,ba];rfl
theorem K9(k:Nat)(h:k<=ds.length):cutD ds none (some (k:Int))=ds.take k:=by unfold cutD;rw[HT.Da,HT.zc,fC h,List.drop_zero,Nat.sub_zero]
theorem Sn(k:Nat)(h:k<=ds.length):cutD ds (some (k:Int)) none=ds.drop k:=by unfold cutD;rw[HT.Da,HT.zc,fC h,hG (by rw[cg];omega)]
theorem GH(k m:Nat)(h:k+m<=ds.length):cutD ds (some (k:Int)) (some ((k+m:Nat):Int))=(ds.drop k).take m:=by unfold cutD;rw[HT.zc,HT.zc,fC h,fC (show k<=ds.length by omega)];congr 1;omega
variable{N:List Str}
theorem Ig{rooms:List Str}(hN:Nms N)(B:List Rw)(h:IL es)(hB:Ord B)(hr:rooms.length<=100)(hH:∀x∈rooms++[N[5]'(by rw[hN.len];decide)],∃u∈B,u.n=x/\u.k.hd=true):
  ∃(q:Nat) (es':List L4.D) (O:List Rw),q<8/\IL es'/\Ord (B++O)/\O.map Rw.n=(N.drop 6).take q/\(∀r∈O,r.k.pl=true)/\o8 es [.lst (N.map D.str),.lst (rooms.map D.str)]=some (.lst (O.map mQ),es'):=by
 have h5:5<N.length:=by rw[hN.len];decide
 obtain⟨r,es1,h1,h2,h3,h4⟩:=pf h 8 (by decide);obtain⟨q,rfl⟩:=b0 h2;let Hs:=rooms++[N[5]];obtain⟨es',O,Hs',t5,t6,g1,g2,g3,g4,g5⟩:=yX (.im (.lst (N.map D.str))) (.im (.lst (rooms.map D.str))) B ((N.drop 6).take q) es1 [] Hs .un .un h1 (by simp[Hs]) (λx hx=>by rw[aU];exact hH x hx) (by rw[aU];exact hB) (by rw[bf,cg,hN.len];simp;omega) (by rw[bf,cg,hN.len];simp[Hs];omega);rw[bB]at g2 g5;refine⟨q,es',O,by omega,g1,g2,g3,g4,?_⟩;have run:qR (stL 7 es [.lst (N.map D.str),.lst (rooms.map D.str)])=some (.rn (O.map mQ) [.im (.lst (N.map D.str)),.im (.lst (rooms.map D.str)),.pm es',.un,.ls (Hs'.map D.str),t5,t6]):=by
  unfold qR;refine(ml (ρ':=[.im (.lst (N.map D.str)),.im (.lst (rooms.map D.str)),.pm es,.ls [],.un,.un,.un]) rfl).trans ?_;refine(ml (ρ':=[.im (.lst (N.map D.str)),.im (.lst (rooms.map D.str)),.pm es,.ls [],.ls (Hs.map D.str),.un,.un]) ((vA (qD (xs:=rooms.map D.str) (ys:=[.str N[5]]) rfl (nN (uU (mj (mD rfl rfl (qv (j:=5) (az h5))) rfl) (by show 1<=1000;decide))) (by rw[ah];simp;omega))).trans ?_)).trans ?_
  ·show some (Out.nx [_,_,_,_,.ls (rooms.map D.str++[.str N[5]]),_,_])=_;rw[show rooms.map D.str++[.str N[5]]=Hs.map D.str by simp[Hs]]
  ·refine(ml ((pY (ds:=((N.drop 6).take q).map D.str) (ρ1:=[.im (.lst (N.map D.str)),.im (.lst (rooms.map D.str)),.pm es1,.ls [],.ls (Hs.map D.str),.un,.un]) ?_).trans g5)).trans rfl;have e:uM (cV 0) (oAt (cC (.int 6))) (oAt (c2 nQ (cC (.int 6)) (nD mm 2 (mi (cC (.int 8)) mw)))) [.im (.lst (N.map D.str)),.im (.lst (rooms.map D.str)),.pm es,.ls [],.ls (Hs.map D.str),.un,.un]=some (((N.drop 6).take q).map D.str,[.im (.lst (N.map D.str)),.im (.lst (rooms.map D.str)),.pm es1,.ls [],.ls (Hs.map D.str),.un,.un]):=by
    have e1:c2 nQ (cC (.int 6)) (nD mm 2 (mi (cC (.int 8)) mw)) [.im (.lst (N.map D.str)),.im (.lst (rooms.map D.str)),.pm es,.ls [],.ls (Hs.map D.str),.un,.un]=some (.int ((6+q:Nat):Int),[.im (.lst (N.map D.str)),.im (.lst (rooms.map D.str)),.pm es1,.ls [],.ls (Hs.map D.str),.un,.un]):=mD rfl ((qh (es0:=es) (es:=es) (ρ1:=[.im (.lst (N.map D.str)),.im (.lst (rooms.map D.str)),.pm es,.ls [],.ls (Hs.map D.str),.un,.un]) rfl rfl rfl h4).trans rfl) (by show some (D.int (6+(q:Int)))=_;congr 2);have e2:oAt (c2 nQ (cC (.int 6)) (nD mm 2 (mi (cC (.int 8)) mw))) [.im (.lst (N.map D.str)),.im (.lst (rooms.map D.str)),.pm es,.ls [],.ls (Hs.map D.str),.un,.un]=some (some ((6+q:Nat):Int),[.im (.lst (N.map D.str)),.im (.lst (rooms.map D.str)),.pm es1,.ls [],.ls (Hs.map D.str),.un,.un]):=by unfold oAt;rw[e1]
    unfold uM;show (match oAt (c2 nQ (cC (.int 6)) (nD mm 2 (mi (cC (.int 8)) mw))) [.im (.lst (N.map D.str)),.im (.lst (rooms.map D.str)),.pm es,.ls [],.ls (Hs.map D.str),.un,.un]with
     |some (h,ρ3)=>some (cutD (N.map D.str) (some 6) h,ρ3)
     |none=>none)=_
    rw[e2];show some (cutD (N.map D.str) (some ((6:Nat):Int)) (some ((6+q:Nat):Int)),_)=_;rw[GH 6 q (by rw[ah,hN.len];omega),eI,eG]
   unfold iL;rw[nN e]
 unfold o8 fnL;rw[ag (show [D.lst (N.map D.str),D.lst (rooms.map D.str)].length=2 from rfl),run];rfl
def So:FS:=(mx (mT 7 (nD mm 1 (mi (c2 nQ (c1 oB (cV 5)) (cC (.int 1))) mw)))
 (mT 5 (cL (pb (cL (pb (cL (uM (cV 5) oNo (oAt (cV 7)))) (cL (mK (mi (cV 6) mw))))) (cL (uM (cV 5) (oAt (cV 7)) oNo))))))
theorem Ew{a b c d x8 x9 x10 x11 x12 x13:Sl}:∀(l:List Rw) (es:List L4.D) (R:List Rw) (s6 s7:Sl),IL es->R.length+l.length<=900->∃(es':List L4.D) (R':List Rw) (t6 t7:Sl),IL es'/\R'.Perm (R++l)/\
  forL (gN 6) So (l.map mQ) [a,.ls es,b,c,d,.im (.lst (R.map mQ)),s6,s7,x8,x9,x10,x11,x12,x13]=some (.nx [a,.ls es',b,c,d,.im (.lst (R'.map mQ)),t6,t7,x8,x9,x10,x11,x12,x13])
 |[],es,R,s6,s7,hi,_=>⟨es,R,s6,s7,hi,by rw[aU],rfl⟩
 |r::l,es,R,s6,s7,hi,hl=>by
  rw[aC]at hl;obtain⟨v,es1,h1,h2,h3,h4⟩:=pf hi ((R.map mQ).length+1:Int) (by omega);obtain⟨k,rfl⟩:=b0 h2;have hk:k<=(R.map mQ).length:=by omega
  let R1:=R.take k++r::R.drop k;have p1:R1.Perm (R++[r]):=by have:=(gu (a:=r) (l₁:=R.take k) (l₂:=R.drop k));rw[ka]at this;exact this.trans (fV r R).symm
  have hR1:R1.length=R.length+1:=p1.length_eq.trans (by simp);let ρ1:List Sl:=[a,.ls es1,b,c,d,.im (.lst (R.map mQ)),.im (mQ r),.im (.int k),x8,x9,x10,x11,x12,x13];have e1:So [a,.ls es,b,c,d,.im (.lst (R.map mQ)),.im (mQ r),s7,x8,x9,x10,x11,x12,x13]=some (.nx [a,.ls es1,b,c,d,.im (.lst (R1.map mQ)),.im (mQ r),.im (.int k),x8,x9,x10,x11,x12,x13]):=by
   unfold So;refine(ml (ρ':=ρ1) ((mO (i:=7) (qh (i:=1) (es0:=es) (es:=es) (ρ1:=[a,.ls es,b,c,d,.im (.lst (R.map mQ)),.im (mQ r),s7,x8,x9,x10,x11,x12,x13]) rfl (show mi (c2 nQ (c1 oB (cV 5)) (cC (.int 1))) mw _=some ([.int ((R.map mQ).length+1)],_) from rfl) rfl h4)).trans rfl)).trans ?_;have c1:uM (cV 5) oNo (oAt (cV 7)) ρ1=some ((R.map mQ).take k,ρ1):=by show some (cutD (R.map mQ) none (some (k:Int)),ρ1)=_;rw[K9 k hk]
   have c2:uM (cV 5) (oAt (cV 7)) oNo ρ1=some ((R.map mQ).drop k,ρ1):=by show some (cutD (R.map mQ) (some (k:Int)) none,ρ1)=_;rw[Sn k hk]
   refine(mO (nN (qD (nN (qD (nN c1) (nN (uU (ds:=[mQ r]) rfl (by show 1<=1000;decide))) ?_)) (nN c2) ?_))).trans ?_
   ·rw[bf,ah];simp;omega
   ·rw[aB,bf,cg,ah];simp;omega
   ·show some (Out.nx [a,.ls es1,b,c,d,.im (.lst ((R.map mQ).take k++[mQ r]++(R.map mQ).drop k)),.im (mQ r),.im (.int k),x8,x9,x10,x11,x12,x13])=_;rw[show (R.map mQ).take k++[mQ r]++(R.map mQ).drop k=R1.map mQ by simp[R1,eI,eG]]
  obtain⟨es',R',t6,t7,g1,g2,g3⟩:=Ew (a:=a) (b:=b) (c:=c) (d:=d) (x8:=x8) (x9:=x9) (x10:=x10) (x11:=x11) (x12:=x12) (x13:=x13) l es1 R1 (.im (mQ r)) (.im (.int k)) h1 (by omega);refine⟨es',R',t6,t7,g1,g2.trans ((p1.append_right l).trans (by rw[ba];exact iY _)),?_⟩;rw[au];unfold forL;rw[show gN 6 (mQ r) [a,.ls es,b,c,d,.im (.lst (R.map mQ)),s6,s7,x8,x9,x10,x11,x12,x13]=some [a,.ls es,b,c,d,.im (.lst (R.map mQ)),.im (mQ r),s7,x8,x9,x10,x11,x12,x13] from rfl];simp only[e1];exact g3
def mkT(m:Mk):L4.D:=.tup [.str m.n,.int m.st,.int m.mo]
def mkB:FS:=(mx (mT 10 (c2 nQ (cC (.int 1)) (nD mm 1 (mi (cC (.int 3)) mw))))
 (m5 (tY 8 (nz (mi (cV 9) (mi (nD mm 1 (mi (c2 nQ (cV 10) (cC (.int 1))) mw)) (mi (cV 10) mw)))))))
theorem GI{a b c d x5 x6 x7 x11 x12 x13:Sl}:∀(l:List Str) (es:List L4.D) (M:List Mk) (s9 s10:Sl),IL es->M.length+l.length<=900->∃(es':List L4.D) (M':List Mk) (t9 t10:Sl),IL es'/\M'.map Mk.n=l/\(∀m∈M',m.ok)/\
  forL (gN 9) mkB (l.map D.str) [a,.ls es,b,c,d,x5,x6,x7,.ls (M.map mkT),s9,s10,x11,x12,x13]=some (.nx [a,.ls es',b,c,d,x5,x6,x7,.ls ((M++M').map mkT),t9,t10,x11,x12,x13])
 |[],es,M,s9,s10,hi,_=>⟨es,[],s9,s10,hi,rfl,λm hm=>(bD hm).elim,by rw[aU];rfl⟩
 |x::l,es,M,s9,s10,hi,hl=>by
  rw[aC]at hl;obtain⟨v,es1,h1,h2,h3,h4⟩:=pf hi 3 (by decide);obtain⟨w,es2,h5,h6,h7,h8⟩:=pf h1 (1+v+1) (by omega);let m:Mk:=⟨x,w,1+v⟩;let ρ1:List Sl:=[a,.ls es1,b,c,d,x5,x6,x7,.ls (M.map mkT),.im (.str x),.im (.int (1+v)),x11,x12,x13];let ρ2:List Sl:=[a,.ls es2,b,c,d,x5,x6,x7,.ls (M.map mkT),.im (.str x),.im (.int (1+v)),x11,x12,x13];have e1:mkB [a,.ls es,b,c,d,x5,x6,x7,.ls (M.map mkT),.im (.str x),s10,x11,x12,x13]=some (.nx [a,.ls es2,b,c,d,x5,x6,x7,.ls ((M++[m]).map mkT),.im (.str x),.im (.int (1+v)),x11,x12,x13]):=by unfold mkB;refine(ml (ρ':=ρ1) ((mO (mD rfl (qh (es0:=es) (es:=es) (ρ1:=[a,.ls es,b,c,d,x5,x6,x7,.ls (M.map mkT),.im (.str x),s10,x11,x12,x13]) rfl rfl rfl h4) rfl)).trans rfl)).trans ?_;refine(oj (xJ (es0:=M.map mkT) (es:=M.map mkT) (ρ1:=ρ2) (d:=mkT m) rfl (pX (mj rfl (mj ((qh (es0:=es1) (es:=es1) (ρ1:=ρ1) rfl (mj (mD rfl rfl rfl) rfl) rfl h8).trans rfl) rfl)) (by show 3<=1000;decide)) rfl (by rw[ah];omega))).trans ?_;show some (Out.nx [a,.ls es2,b,c,d,x5,x6,x7,.ls (M.map mkT++[mkT m]),.im (.str x),.im (.int (1+v)),x11,x12,x13])=_;rw[show M.map mkT++[mkT m]=(M++[m]).map mkT by rw[aS];rfl]
  obtain⟨es',M',t9,t10,g1,g2,g3,g4⟩:=GI (a:=a) (b:=b) (c:=c) (d:=d) (x5:=x5) (x6:=x6) (x7:=x7) (x11:=x11) (x12:=x12) (x13:=x13) l es2 (M++[m]) (.im (.str x)) (.im (.int (1+v))) h5 (by rw[aB,aZ];omega);refine⟨es',m::M',t9,t10,g1,by rw[au,g2],λy hy=>?_,?_⟩
  ·rcases aD.mp hy with rfl|hy
   ·exact⟨by show 1<=1+v;omega,by show 1+v<=3;omega,h6,by show w<=1+v;omega⟩
   ·exact g3 y hy
  ·rw[au];unfold forL;rw[show gN 9 (.str x) [a,.ls es,b,c,d,x5,x6,x7,.ls (M.map mkT),s9,s10,x11,x12,x13]=some [a,.ls es,b,c,d,x5,x6,x7,.ls (M.map mkT),.im (.str x),s10,x11,x12,x13] from rfl];simp only[e1];rw[g4,ba];rfl
theorem BK{a b c d x5 x6 x7 x8 x9 x10 x11 x12 x13:Sl}:∀(l:List Str) (es:List L4.D),IL es->∃(dk:List Str) (es':List L4.D),dk.Sublist l/\IL es'/\
  qz 1 [1] (gN 0) (cT (c2 (dEq false) (nD mm 1 (mi (cC (.int 2)) mw)) (cC (.int 1)))) (cV 0) (l.map D.str) [a,.ls es,b,c,d,x5,x6,x7,x8,x9,x10,x11,x12,x13]=some (dk.map D.str,[a,.ls es',b,c,d,x5,x6,x7,x8,x9,x10,x11,x12,x13])
 |[],es,h=>⟨[],es,dZ _,h,rfl⟩
 |x::l,es,h=>by
  obtain⟨v,es1,h1,h2,h3,h4⟩:=pf h 2 (by decide);obtain⟨dk,es',g1,g2,g3⟩:=BK (a:=a) (b:=b) (c:=c) (d:=d) (x5:=x5) (x6:=x6) (x7:=x7) (x8:=x8) (x9:=x9) (x10:=x10) (x11:=x11) (x12:=x12) (x13:=x13) l es1 h1;have et:cT (c2 (dEq false) (nD mm 1 (mi (cC (.int 2)) mw)) (cC (.int 1))) [.im (.str x),.pm es]=some (decide (v=1),[.im (.str x),.pm es1]):=nJ (mD ((qh (es0:=es) (es:=es) (ρ1:=[.im (.str x),.pm es]) rfl rfl rfl h4).trans rfl) rfl (vE false v 1));have st:qz 1 [1] (gN 0) (cT (c2 (dEq false) (nD mm 1 (mi (cC (.int 2)) mw)) (cC (.int 1)))) (cV 0) ((x::l).map D.str) [a,.ls es,b,c,d,x5,x6,x7,x8,x9,x10,x11,x12,x13]=some ((if v=1 then x::dk else dk).map D.str,[a,.ls es',b,c,d,x5,x6,x7,x8,x9,x10,x11,x12,x13]):=by
   rw[au];unfold qz;rw[show gN 0 (.str x) (v9 1 [1] [a,.ls es,b,c,d,x5,x6,x7,x8,x9,x10,x11,x12,x13])=some [.im (.str x),.pm es] from rfl];simp only[et];have un:pT [1] (([.im (.str x),.pm es1]:List Sl).drop 1) [a,.ls es,b,c,d,x5,x6,x7,x8,x9,x10,x11,x12,x13]=some [a,.ls es1,b,c,d,x5,x6,x7,x8,x9,x10,x11,x12,x13]:=rfl;by_cases hv:v=1
   ·rw[ag hv,aH hv];simp only;rw[show cV 0 [.im (.str x),.pm es1]=some (.str x,[.im (.str x),.pm es1]) from rfl];simp only[un,g3];rfl
   ·rw[af hv,aA hv];simp only[un,g3]
  by_cases hv:v=1
  ·rw[ag hv]at st;exact⟨x::dk,es',g1.cons_cons x,g2,st⟩
  ·rw[af hv]at st;exact⟨dk,es',g1.cons x,g2,st⟩
def moD:L4.D:=.lst [.tup [],.tup [.str "red"],.tup [.str "old", .str "red"]]
theorem NQ(j:Nat)(h:j<3):∃m∈BH,dIx moD (.int j)=some (.tup (m.map D.str)):=by
 match j,h with
 |0,_=>exact⟨[],by decide,rfl⟩
 |1,_=>exact⟨["red"],by decide,rfl⟩
 |2,_=>exact⟨["old", "red"],by decide,rfl⟩
def Th.rw(t:Th):Rw:=⟨t.n,t.k,t.s⟩
def wdD(t:Th):L4.D:=.tup (t.w.map D.str)
def Sq:FE:=(ym (nz (mi (cV 0) mw)) (c2 dIx (cV 3) (nD mm 4 (mi (cC (.int 3)) mw))))
theorem Ay{a b c d x5 x6 x7 x8 x9 x10 x11 x13:Sl}:∀(R:List Rw) (es:List L4.D),IL es->∃(T:List Th) (es':List L4.D),T.map Th.rw=R/\(∀t∈T,∃m∈BH,t.w=t.n::m)/\IL es'/\
  qz 3 [12,1] (gT (mY (gN 0) (mY (gN 1) (mY (gN 2) qX))) 3) og Sq (R.map mQ) [a,.ls es,b,c,d,x5,x6,x7,x8,x9,x10,x11,.im moD,x13]=some (T.map wdD,[a,.ls es',b,c,d,x5,x6,x7,x8,x9,x10,x11,.im moD,x13])
 |[],es,h=>⟨[],es,rfl,λt ht=>(bD ht).elim,h,rfl⟩
 |r::R,es,h=>by
  obtain⟨v,es1,h1,h2,h3,h4⟩:=pf h 3 (by decide);obtain⟨j,rfl⟩:=b0 h2;obtain⟨m,hm,em⟩:=NQ j (by omega);obtain⟨T,es',g1,g2,g3,g4⟩:=Ay (a:=a) (b:=b) (c:=c) (d:=d) (x5:=x5) (x6:=x6) (x7:=x7) (x8:=x8) (x9:=x9) (x10:=x10) (x11:=x11) (x13:=x13) R es1 h1;let t:Th:=⟨r.n,r.n::m,r.k,r.s⟩;have hml:m.length<=2:=by
   have:∀m∈BH,bG m<=2:=by decide
   exact this m hm
  refine⟨t::T,es',by rw[au,g1];rfl,λu hu=>?_,g3,?_⟩
  ·rcases aD.mp hu with rfl|hu
   ·exact⟨m,hm,rfl⟩
   ·exact g2 u hu
  ·let ρ2:List Sl:=[.im (.str r.n),.im (.str r.k.s),.im (oS r.s),.im moD,.pm es];have e1:Sq ρ2=some (wdD t,[.im (.str r.n),.im (.str r.k.s),.im (oS r.s),.im moD,.pm es1]):=by have e2:c2 dIx (cV 3) (nD mm 4 (mi (cC (.int 3)) mw)) ρ2=some (.tup (m.map D.str),[.im (.str r.n),.im (.str r.k.s),.im (oS r.s),.im moD,.pm es1]):=mD rfl ((qh (es0:=es) (es:=es) (ρ1:=ρ2) rfl rfl rfl h4).trans rfl) em;unfold Sq ym;rw[show nz (mi (cV 0) mw) ρ2=some (.tup [.str r.n],ρ2) from rfl];simp only[e2];rw[ag (by rw[ah];simp;omega)];rfl
   rw[au];unfold qz;rw[show gT (mY (gN 0) (mY (gN 1) (mY (gN 2) qX))) 3 (mQ r) (v9 3 [12,1] [a,.ls es,b,c,d,x5,x6,x7,x8,x9,x10,x11,.im moD,x13])=some ρ2 from rfl];simp only[og,e1];rw[show pT [12,1] (([.im (.str r.n),.im (.str r.k.s),.im (oS r.s),.im moD,.pm es1]:List Sl).drop 3) [a,.ls es,b,c,d,x5,x6,x7,x8,x9,x10,x11,.im moD,x13]=some [a,.ls es1,b,c,d,x5,x6,x7,x8,x9,x10,x11,.im moD,x13] from rfl];simp only[g4];rfl
def qB(x:Str):Rw:=⟨x,.room,none⟩
theorem NR:∀N:List Str,N.length=17->∃x,N[5]?=some x/\N.take 5++([x]++((N.drop 6).take 7++N.drop 13))=N
 |[a0,a1,a2,a3,a4,a5,a6,a7,a8,a9,a10,a11,a12,a13,a14,a15,a16],_=>⟨a5,rfl,rfl⟩
theorem Ex{α:Type}(l:List α){a b:Nat}(h:a<=b):(l.take a).Sublist (l.take b):=by
 have:l.take a=(l.take b).take a:=by rw[List.take_take,fC h]
 rw[this];exact dW _ _
variable{y:Str}{r:Nat}
theorem Ih(h:N.length=17)(hy:N[5]?=some y){q p:Nat}(hr:r<5)(hq:q<8):((N.take (1+r)++([y]++(N.drop 6).take q))++(N.drop 13).take p).Sublist N:=by obtain⟨x,h1,h2⟩:=NR N h;rw[hy]at h1;cases h1;rw[ba,ba];have:=(Ex N (show 1+r<=5 by omega)).append ((dZ [y]).append ((Ex (N.drop 6) (show q<=7 by omega)).append (dW p (N.drop 13))));rw[h2]at this;exact this
theorem Sr{R:List Rw}(h:T.map Th.rw=R){u:Rw}(hu:u∈R):∃t∈T,t.rw=u:=by rw[<-h]at hu;exact aM.mp hu
theorem NS(T:List Th)(p:Kd->Bool):(T.filter λt=>p t.k).map Th.rw=(T.map Th.rw).filter λr=>p r.k:=by rw[List.filter_map];rfl
variable{z:Str}
theorem NT(hN:Nms N)(hy:N[5]?=some y){q p:Nat}(hr:r<5)(hq:q<8)(hp:p<5)(hz:z∈N.take (1+r)){O:List Rw}
  (ho:Ord (((N.take (1+r)).map qB++[⟨y,.you,some z⟩])++O)) (hO:O.map Rw.n=(N.drop 6).take q) (hOp:∀u∈O,u.k.pl=true) (hT:(T.map Th.rw).Perm (((N.take (1+r)).map qB++[⟨y,.you,some z⟩])++O)) (hw:∀t∈T,∃m∈BH,t.w=t.n::m)
  (hM:M.map Mk.n=(N.drop 13).take p) (hMo:∀m∈M,m.ok) (hd:dk.Sublist (N.take (1+r))):Good T M dk/\(T.filter λt=>decide (t.k=.you)).map Th.n=[y]:=by
 let B:List Rw:=((N.take (1+r)).map qB++[⟨y,.you,some z⟩])++O;have hl:(N.take (1+r)).length=1+r:=by rw[bf,hN.len];omega
 have hOl:O.length=q:=by have:=aN bG hO;rw[ah,bf,cg,hN.len]at this;omega
 have hMl:M.length=min p 4:=by have:=aN bG hM;rw[ah,bf,cg,hN.len]at this;exact this
 have hBl:B.length=1+r+1+q:=by simp only[B,aB,ah,hl,hOl,aZ]
 have hTl:T.length=B.length:=by have:=hT.length_eq;rw[ah]at this;exact this
 have hBn:B.map Rw.n=N.take (1+r)++([y]++(N.drop 6).take q):=by simp only[B,aS,hO,aJ,ba];rw[show (Rw.n∘qB)=id from rfl,jz];rfl
 have hTn:T.map Th.n=(T.map Th.rw).map Rw.n:=by rw[aJ];rfl
 have perm:(T.map Th.n++M.map Mk.n).Perm ((N.take (1+r)++([y]++(N.drop 6).take q))++(N.drop 13).take p):=by rw[hTn,hM,<- hBn];exact(hT.map Rw.n).append_right _
 have sub:=Ih hN.len hy hr hq (p:=p);have nd:(T.map Th.n++M.map Mk.n).Nodup:=perm.nodup_iff.mpr (hN.nd.sublist sub);have nm:∀x∈T.map Th.n++M.map Mk.n,Nm x:=λx hx=>hN.nm x (sub.subset (perm.subset hx));have back:∀u∈B,∃t∈T,t.rw=u:=λu hu=>Sr rfl (hT.mem_iff.mpr hu);have fwd:∀t∈T,CM B t.rw:=λt ht=>ho.all _ (hT.mem_iff.mp (bN ht));have filt:∀pp:Kd->Bool,((T.filter λt=>pp t.k).map Th.rw).Perm (B.filter λu=>pp u.k):=λpp=>by rw[NS];exact hT.filter _
 have fl:∀pp:Kd->Bool,(T.filter λt=>pp t.k).length=(B.filter λu=>pp u.k).length:=λpp=>by have:=(filt pp).length_eq;rw[ah]at this;exact this
 have allF:∀(pp:Kd->Bool) (l:List Rw),(∀u∈l,pp u.k=false)->(l.filter λu=>pp u.k)=[]:=λpp l h=>List.filter_eq_nil_iff.mpr λu hu=>by rw[h u hu];exact aR
 have rooms:∀(pp:Kd->Bool),∀u∈(N.take (1+r)).map qB,pp u.k=pp .room:=λpp u hu=>by obtain⟨x,_,rfl⟩:=aM.mp hu;rfl
 have oth:∀u∈O,decide (u.k=.room)=false/\decide (u.k=.you)=false:=λu hu=>by have:=hOp u hu;refine⟨aA λh=>?_,aA λh=>?_⟩<;>rw[h]at this<;>cases this
 have fB:∀pp:Kd->Bool,(B.filter λu=>pp u.k)=((N.take (1+r)).map qB).filter (λu=>pp u.k)++([⟨y,.you,some z⟩]:List Rw).filter (λu=>pp u.k)++O.filter (λu=>pp u.k):=λpp=>by simp only[B,List.filter_append]
 have one:∀(pp:Kd->Bool) (b:Bool),pp .you=b->([⟨y,.you,some z⟩]:List Rw).filter (λu=>pp u.k)=if b then [⟨y,.you,some z⟩]else []:=λpp b h=>by rw[fz,List.filter_nil];show (if pp .you=true then _ else _)=_;rw[h]
 have gr:∀pp:Kd->Bool,pp .room=true->pp .you=false->(∀u∈O,pp u.k=false)->(B.filter λu=>pp u.k)=(N.take (1+r)).map qB:=λpp h1 h2 h3=>by rw[fB pp,allF pp O h3,ie.mpr λu hu=>(rooms pp u hu).trans h1,one pp false h2];simp
 have gy:∀pp:Kd->Bool,pp .room=false->pp .you=true->(∀u∈O,pp u.k=false)->(B.filter λu=>pp u.k)=[⟨y,.you,some z⟩]:=λpp h1 h2 h3=>by rw[fB pp,allF pp O h3,allF pp _ λu hu=>(rooms pp u hu).trans h1,one pp true h2];rfl
 have gp:∀pp:Kd->Bool,pp .room=false->pp .you=false->(∀u∈O,pp u.k=true)->(B.filter λu=>pp u.k)=O:=λpp h1 h2 h3=>by rw[fB pp,ie.mpr h3,allF pp _ λu hu=>(rooms pp u hu).trans h1,one pp false h2];rfl
 have fr:=gr (λk=>decide (k=.room)) rfl rfl λu hu=>(oth u hu).1;have fy:=gy (λk=>decide (k=.you)) rfl rfl λu hu=>(oth u hu).2;have fp:=gp Kd.pl rfl rfl hOp;have ndT:(T.map Th.n).Nodup:=(bC.mp nd).1;obtain⟨rk,hk⟩:=ho.rank ((hT.map Rw.n).nodup_iff.mp (by rw[<-hTn];exact ndT));have inR:∀x∈N.take (1+r),x∈rmN T:=λx hx=>by obtain⟨t,ht,e⟩:=back (qB x) (bW _ (bW _ (bN hx)));have h1:t.n=x:=aN Rw.n e;have h2:t.k=.room:=aN Rw.k e;exact aM.mpr ⟨t,bE.mpr ⟨ht,aH h2⟩,h1⟩
 refine⟨{
  len:=by omega
  r1:=by have:=fl λk=>decide (k=.room);rw[fr,ah,hl]at this;omega
  r5:=by have:=fl λk=>decide (k=.room);rw[fr,ah,hl]at this;omega
  y1:=by have:=fl λk=>decide (k=.you);rw[fy]at this;exact this
  p7:=by have:=fl Kd.pl;rw[fp,hOl]at this;omega
  m4:=by omega
  mo:=hMo
  nm:=nm
  nd:=nd
  st:=λt ht=>?_
  rk:=⟨rk,λt ht=>?_⟩
  wd:=λt ht=>⟨nm _ (bW _ (bN ht)),hw t ht⟩
  d0:=by have:=hd.length_le;omega
  d1:=(hN.nd.sublist (dW _ _)).sublist hd
  d2:=λx hx=>inR x (hd.subset hx) },?_⟩
 ·obtain⟨n,w,k,s⟩:=t;rcases fwd _ ht with ⟨h1,h2⟩|⟨h1,u,hu,h2,h3⟩|⟨h1,u,hu,h2,h3⟩
  ·cases h1;cases h2;trivial
  ·cases h1;cases h2;obtain⟨t',ht',e⟩:=back u hu;refine aM.mpr ⟨t',bE.mpr ⟨ht',aH ?_⟩,aN Rw.n e⟩;rw[<-h3];exact aN Rw.k e
  ·obtain⟨t',ht',e⟩:=back u hu;have mem:u.n∈hdN T:=aM.mpr ⟨t',bE.mpr ⟨ht',by rw[<-h3];exact aN Kd.hd (aN Rw.k e)⟩,aN Rw.n e⟩;have h2':s=some u.n:=h2;subst h2';have h1':k.pl=true:=h1;cases k with
   |room=>cases h1'
   |you=>cases h1'
   |plain=>exact mem
   |fixed=>exact mem
   |box=>exact mem
   |lamp=>exact mem
 ·obtain⟨h1,h2⟩:=hk t.rw (hT.mem_iff.mp (bN ht));refine⟨by rw[hTl];exact h1,λpq hpq=>?_⟩;obtain⟨h3,u,hu,h4⟩:=h2 pq hpq;obtain⟨t',ht',e⟩:=back u hu;exact⟨h3,t',ht',by rw[<-h4,<- e];rfl⟩
 ·have h:=filt λk=>decide (k=.you);rw[fy]at h;have e:=List.perm_singleton.mp h;have:=aN (jK Rw.n) e;rw[aJ]at this;exact this
def oT(T:List Th)(M:List Mk)(dk:List Str)(y:Str):L4.D:=.dic [kS "rows", kS "marks", kS "dark", kS "words", kS "you"] [.lst (T.map λt=>mQ t.rw),.lst (M.map mkT),.lst (dk.map D.str),.lst (T.map wdD),.str y]
theorem Ii:∀l:List Str,Ord (l.map qB):=λl=>by
 suffices h:∀(l k:List Str),Ord (k.map qB)->Ord ((k++l).map qB) from h l [] .nil
 intro l
 induction l with
 |nil=>intro k h;rw[aU];exact h
 |cons x l ih=>
  intro k h;have:=ih (k++[x]) (by rw[aS];exact h.snoc (.inl ⟨rfl,rfl⟩))
  rwa [ba]at this
theorem BL(h:e ρ=some (.lst ds,ρ1)):iL e ρ=some (ds,ρ1):=by unfold iL;rw[h]
variable{ρ2:List Sl}
theorem AA{f:FE}{r:List (Str×FE)}(h1:f ρ=some (d,ρ1))(h2:qE r ρ1=some (ds,ρ2)):qE ((x,f)::r) ρ=some (d::ds,ρ2):=by unfold qE;rw[h1];simp only[h2]
theorem GK{kfs:List (Str×FE)}(h:qE kfs ρ=some (ds,ρ1)):qk kfs ρ=some (.dic (kfs.map λq=>kS q.1) ds,ρ1):=by unfold qk;rw[h];rfl
variable{es':List L4.D}
theorem Ux{n v:Int}{a b2 b3 b4 b5 b6 b7 b8 b9 b10 b11 b12 b13:Sl}(h:mm es [.int n]=some (.int v,es')):nD mm 1 (mi (cC (.int n)) mw) [a,.ls es,b2,b3,b4,b5,b6,b7,b8,b9,b10,b11,b12,b13]=some (.int v,[a,.ls es',b2,b3,b4,b5,b6,b7,b8,b9,b10,b11,b12,b13]):=
 (qh (es0:=es) (es:=es) (ρ1:=[a,.ls es,b2,b3,b4,b5,b6,b7,b8,b9,b10,b11,b12,b13]) rfl rfl rfl h).trans rfl
theorem NU(c:Int):∃T M dk y,vh [.int c]=some (oT T M dk y)/\Good T M dk/\(T.filter λt=>decide (t.k=.you)).map Th.n=[y]:=by
 obtain⟨es0,i0,d0⟩:=Es c 110 (by decide);obtain⟨N,es1,hN,i1,d1⟩:=K6 i0;obtain⟨r,es2,i2,r0,r1,d2⟩:=pf i1 5 (by decide);obtain⟨r,rfl⟩:=b0 r0;have hr:r<5:=by omega
 let rooms:=N.take (1+r);have hl:rooms.length=1+r:=by simp only[rooms];rw[bf,hN.len];omega
 obtain⟨i,es3,i3,j0,j1,d3⟩:=pf i2 rooms.length (by omega);obtain⟨i,rfl⟩:=b0 j0;have hi:i<rooms.length:=by omega
 have h5:5<N.length:=by rw[hN.len];decide
 let y:=N[5];let z:=rooms[i];have hz:z∈rooms:=bP hi;let B:List Rw:=rooms.map qB++[⟨y,.you,some z⟩];have hB:Ord B:=(Ii rooms).snoc (.inr (.inl ⟨rfl,qB z,bN hz,rfl,rfl⟩));obtain⟨q,es4,O,hq,i4,hO,hOn,hOp,d4⟩:=Ig hN B i3 hB (rooms:=rooms) (by omega) λx hx=>by
  rcases bX.mp hx with hx|hx
  ·exact⟨qB x,bW _ (bN hx),rfl,rfl⟩
  ·rw[aO]at hx;exact⟨⟨y,.you,some z⟩,bM _ (aO.mpr rfl),hx.symm,rfl⟩
 have hOl:O.length<=7:=by have:=aN bG hOn;rw[ah,bf]at this;omega
 have hBl:B.length<=6:=by simp only[B,aB,ah,aZ];omega
 obtain⟨es5,R,t6,t7,i5,hR,d5⟩:=Ew (a:=.im (.int c)) (b:=.im (.lst (N.map D.str))) (c:=.im (.lst (rooms.map D.str))) (d:=.im (.lst (B.map mQ))) (x8:=.un) (x9:=.un) (x10:=.un) (x11:=.un) (x12:=.un) (x13:=.un) (B++O) es4 [] .un .un i4 (by rw[aB];simp;omega);rw[bB]at hR;obtain⟨p,es6,i6,p0,p1,d6⟩:=pf i5 5 (by decide);obtain⟨p,rfl⟩:=b0 p0;obtain⟨es7,M,t9,t10,i7,hMn,hMo,d7⟩:=GI (a:=.im (.int c)) (b:=.im (.lst (N.map D.str))) (c:=.im (.lst (rooms.map D.str))) (d:=.im (.lst (B.map mQ))) (x5:=.im (.lst (R.map mQ))) (x6:=t6) (x7:=t7) (x11:=.un) (x12:=.un) (x13:=.un) ((N.drop 13).take p) es6 [] .un .un i6 (by rw[bf,cg,hN.len];simp;omega);rw[bB]at d7;obtain⟨dk,es8,hdk,i8,d8⟩:=BK (a:=.im (.int c)) (b:=.im (.lst (N.map D.str))) (c:=.im (.lst (rooms.map D.str))) (d:=.im (.lst (B.map mQ))) (x5:=.im (.lst (R.map mQ))) (x6:=t6) (x7:=t7) (x8:=.ls (M.map mkT)) (x9:=t9) (x10:=t10) (x11:=.un) (x12:=.un) (x13:=.un) rooms es7 i7;obtain⟨T,es9,hT,hw,i9,d9⟩:=Ay (a:=.im (.int c)) (b:=.im (.lst (N.map D.str))) (c:=.im (.lst (rooms.map D.str))) (d:=.im (.lst (B.map mQ))) (x5:=.im (.lst (R.map mQ))) (x6:=t6) (x7:=t7) (x8:=.ls (M.map mkT)) (x9:=t9) (x10:=t10) (x11:=.im (.lst (dk.map D.str))) (x13:=.un) R es8 i8;obtain⟨g1,g2⟩:=NT hN (az h5) hr hq (by omega) hz hO hOn hOp (hT▸hR) hw hMn hMo hdk;refine⟨T,M,dk,y,m8 (ρ:=[.im (.int c),.ls es9,.im (.lst (N.map D.str)),.im (.lst (rooms.map D.str)),.im (.lst (B.map mQ)),.im (.lst (R.map mQ)),t6,t7,.im (.lst (M.map mkT)),t9,t10,.im (.lst (dk.map D.str)),.im moD,.im (.lst (T.map wdD))]) rfl ?_,g1,g2⟩;unfold vg;refine(ml (ρ':=[.im (.int c),.ls es0,.un,.un,.un,.un,.un,.un,.un,.un,.un,.un,.un,.un]) ((vA (mC (ds:=[.int c,.int 110]) rfl d0)).trans rfl)).trans ?_;refine(ml (ρ':=[.im (.int c),.ls es1,.im (.lst (N.map D.str)),.un,.un,.un,.un,.un,.un,.un,.un,.un,.un,.un]) ((mO (qh (es0:=es0) (es:=es0) (ds:=[]) (ρ1:=[.im (.int c),.ls es0,.un,.un,.un,.un,.un,.un,.un,.un,.un,.un,.un,.un]) rfl rfl rfl d1)).trans rfl)).trans ?_;have cutE:∀{lo hi:FO} {ρ ρ1 ρ2:List Sl} {l h:Option Int},cV 2 ρ=some (.lst (N.map D.str),ρ)->lo ρ=some (l,ρ1)->hi ρ1=some (h,ρ2)->uM (cV 2) lo hi ρ=some (cutD (N.map D.str) l h,ρ2):=λ{lo hi ρ ρ1 ρ2 l h} h1 h2 h3=>by unfold uM;rw[h1];simp only[h2,h3]
 have addE:∀{k:Nat} {v:Nat} {n:Int} {ρ ρ1:List Sl},nD mm 1 (mi (cC (.int n)) mw) ρ=some (.int v,ρ1)->oAt (c2 nQ (cC (.int k)) (nD mm 1 (mi (cC (.int n)) mw))) ρ=some (some ((k+v:Nat):Int),ρ1):=λ{k v n ρ ρ1} h=>by unfold oAt;rw[mD (g:=nQ) (x:=.int k) (z:=.int ((k+v:Nat):Int)) rfl h (by show some (D.int ((k:Int)+(v:Int)))=_;congr 2)]
 refine(ml (ρ':=[.im (.int c),.ls es2,.im (.lst (N.map D.str)),.im (.lst (rooms.map D.str)),.un,.un,.un,.un,.un,.un,.un,.un,.un,.un]) ((mO (nN (cutE rfl rfl (addE (k:=1) (v:=r) (Ux d2))))).trans ?_)).trans ?_
 ·rw[K9 (1+r) (by rw[ah,hN.len];omega),<- eI];rfl
 let ρ3:List L4.D->List Sl:=λes=>[.im (.int c),.ls es,.im (.lst (N.map D.str)),.im (.lst (rooms.map D.str)),.un,.un,.un,.un,.un,.un,.un,.un,.un,.un];refine(ml (ρ':=[.im (.int c),.ls es3,.im (.lst (N.map D.str)),.im (.lst (rooms.map D.str)),.im (.lst (B.map mQ)),.un,.un,.un,.un,.un,.un,.un,.un,.un]) ((mO (nN (qD (xs:=rooms.map λx=>mQ (qB x)) (ys:=[mQ ⟨y,.you,some z⟩]) (ρ1:=ρ3 es2) (ρ2:=ρ3 es3)
  (nN (vo D.str (λx=>mQ (qB x)) rooms rfl (by omega) λx _=>⟨_,_,rfl,rfl,rfl⟩))
  (nN (uU (mj (pX (ds:=[.str y,.str "you", .str z]) (mj (mD rfl rfl (qv (j:=5) (az h5))) (mj rfl (mj (mD (ρ1:=ρ3 es2) (x:=.lst (rooms.map D.str)) (y:=.int i) rfl ((qh (i:=1) (es0:=es2) (es:=es2) (ρ1:=ρ3 es2) (ds:=[.int rooms.length]) rfl (by show some ([D.int ((rooms.map D.str).length:Nat)],_)=_;rw[ah]) rfl d3).trans rfl) (qv (az hi))) rfl))) (by show 3<=1000;decide)) rfl) (by show 1<=1000;decide))) (by rw[ah];simp;omega)))).trans ?_)).trans ?_
 ·show some (Out.nx [.im (.int c),.ls es3,.im (.lst (N.map D.str)),.im (.lst (rooms.map D.str)),.im (.lst ((rooms.map λx=>mQ (qB x))++[mQ ⟨y,.you,some z⟩])),.un,.un,.un,.un,.un,.un,.un,.un,.un])=_;rw[show (rooms.map λx=>mQ (qB x))++[mQ ⟨y,.you,some z⟩]=B.map mQ by simp only[B,aS,aJ];rfl]
 refine(ml (ρ':=[.im (.int c),.ls es3,.im (.lst (N.map D.str)),.im (.lst (rooms.map D.str)),.im (.lst (B.map mQ)),.im (.lst []),.un,.un,.un,.un,.un,.un,.un,.un]) rfl).trans ?_;let ρ5:List L4.D->List Sl:=λes=>[.im (.int c),.ls es,.im (.lst (N.map D.str)),.im (.lst (rooms.map D.str)),.im (.lst (B.map mQ)),.im (.lst []),.un,.un,.un,.un,.un,.un,.un,.un];refine(ml ((pY (ds:=(B++O).map mQ) (ρ1:=ρ5 es4) ?_).trans d5)).trans ?_
 ·have em:pQ o8 1 (mi (cV 2) (mi (cV 3) mw)) (ρ5 es3)=some (.lst (O.map mQ),ρ5 es4):=by
   unfold pQ;show (match o8 es3 [.lst (N.map D.str),.lst (rooms.map D.str)]with
    |some (d,es')=>some (d,putAt (ρ5 es3) 1 es')
    |none=>none)=_
   rw[d4];rfl
  exact(BL (nN (qD (xs:=B.map mQ) (ys:=O.map mQ) rfl em (by rw[ah,ah];omega)))).trans (by rw[<-aS])
 refine(ml (ρ':=[.im (.int c),.ls es5,.im (.lst (N.map D.str)),.im (.lst (rooms.map D.str)),.im (.lst (B.map mQ)),.im (.lst (R.map mQ)),t6,t7,.ls [],.un,.un,.un,.un,.un]) rfl).trans ?_;refine(ml ((pY (ds:=((N.drop 13).take p).map D.str) (ρ1:=[.im (.int c),.ls es6,.im (.lst (N.map D.str)),.im (.lst (rooms.map D.str)),.im (.lst (B.map mQ)),.im (.lst (R.map mQ)),t6,t7,.ls [],.un,.un,.un,.un,.un]) ?_).trans d7)).trans ?_
 ·refine(BL (nN (cutE (l:=some ((13:Nat):Int)) rfl rfl (addE (k:=13) (v:=p) (Ux d6))))).trans ?_;have ec:cutD (N.map D.str) (some ((13:Nat):Int)) (some ((13+p:Nat):Int))=((N.drop 13).take p).map D.str:=by rw[GH 13 p (by rw[ah,hN.len];omega),eI,eG]
  rw[ec]
 refine(ml (ρ':=[.im (.int c),.ls es8,.im (.lst (N.map D.str)),.im (.lst (rooms.map D.str)),.im (.lst (B.map mQ)),.im (.lst (R.map mQ)),t6,t7,.ls (M.map mkT),t9,t10,.im (.lst (dk.map D.str)),.un,.un]) ((mO (nN ((wN (ds:=rooms.map D.str) (ρ1:=[.im (.int c),.ls es7,.im (.lst (N.map D.str)),.im (.lst (rooms.map D.str)),.im (.lst (B.map mQ)),.im (.lst (R.map mQ)),t6,t7,.ls (M.map mkT),t9,t10,.un,.un,.un]) rfl (by rw[ah];omega)).trans d8))).trans rfl)).trans ?_;refine(ml (ρ':=[.im (.int c),.ls es8,.im (.lst (N.map D.str)),.im (.lst (rooms.map D.str)),.im (.lst (B.map mQ)),.im (.lst (R.map mQ)),t6,t7,.ls (M.map mkT),t9,t10,.im (.lst (dk.map D.str)),.im moD,.un]) rfl).trans ?_;have hRl:R.length<=900:=by have:=hR.length_eq;rw[aB]at this;omega
 refine(ml (ρ':=[.im (.int c),.ls es9,.im (.lst (N.map D.str)),.im (.lst (rooms.map D.str)),.im (.lst (B.map mQ)),.im (.lst (R.map mQ)),t6,t7,.ls (M.map mkT),t9,t10,.im (.lst (dk.map D.str)),.im moD,.im (.lst (T.map wdD))]) ((mO (nN ((wN (ds:=R.map mQ) (ρ1:=[.im (.int c),.ls es8,.im (.lst (N.map D.str)),.im (.lst (rooms.map D.str)),.im (.lst (B.map mQ)),.im (.lst (R.map mQ)),t6,t7,.ls (M.map mkT),t9,t10,.im (.lst (dk.map D.str)),.im moD,.un]) rfl (by rw[ah];omega)).trans d9))).trans rfl)).trans ?_;refine mZ ?_;have eN:c2 dIx (cV 2) (cC (.int 5)) [.im (.int c),.ls es9,.im (.lst (N.map D.str)),.im (.lst (rooms.map D.str)),.im (.lst (B.map mQ)),.im (.lst (R.map mQ)),t6,t7,.im (.lst (M.map mkT)),t9,t10,.im (.lst (dk.map D.str)),.im moD,.im (.lst (T.map wdD))]=some (.str y,[.im (.int c),.ls es9,.im (.lst (N.map D.str)),.im (.lst (rooms.map D.str)),.im (.lst (B.map mQ)),.im (.lst (R.map mQ)),t6,t7,.im (.lst (M.map mkT)),t9,t10,.im (.lst (dk.map D.str)),.im moD,.im (.lst (T.map wdD))]):=mD rfl rfl (qv (j:=5) (az h5));have eT:R.map mQ=T.map λt=>mQ t.rw:=by rw[<-hT,aJ];rfl
 unfold oT;rw[<-eT];exact GK (AA rfl (AA rfl (AA rfl (AA rfl (AA eN rfl)))))
theorem La:∀T:List Th,Fc (T.map λt=>mQ t.rw) (T.map wdD)=T.map λt=>D.tup [mQ t.rw,wdD t]
 |[]=>rfl
 |t::T=>by have:=La T;unfold Fc at this ⊢;rw[au,au,eY,this];rfl
theorem NV(g:Good T M dk):vn [oT T M dk y]=some (wyT T):=by
 have hl:=g.len;let sp:=oT T M dk y;let ρ:List Sl:=[.im sp,.im (.lst ((rmN T).map D.str))];have hn:1<=(rmN T).length:=by have:=g.r1;unfold rmN;rw[ah];exact this
 have h5:(rmN T).length<=5:=by have:=g.r5;unfold rmN;rw[ah];exact this
 have h0:dIx (.lst ((rmN T).map D.str)) (.int 0)=some (.str ((rmN T).headD "")):=by
  refine qv (j:=0) ?_;cases e:rmN T with
  |nil=>rw[e]at hn;cases hn
  |cons a r=>rfl
 have h1:dIx (.lst ((rmN T).map D.str)) (.int (((rmN T).length:Int) - 1))=some (.str ((rmN T).getLastD "")):=by
  rw[show ((rmN T).length:Int) - 1=(((rmN T).length - 1:Nat):Int) by omega];refine qv ?_;have hz:rmN T≠[]:=λe=>by rw[e]at hn;cases hn
  rw[jQ,List.getLast?_eq_getElem?,az (by omega)];rfl
 refine xK (ρ:=ρ) rfl ?_;unfold vm;have c:=uy (k:=3) (cap:=[]) (g:=gT (mY (gN 0) (mY (gN 1) (mY (gN 2) qX))) 3) (ft:=cT (c2 (dEq false) (cV 1) (cC (.str "room")))) (fe:=cV 0) (s:=iL (c2 oG (cV 0) (cC (.str "rows")))) (λt:Th=>mQ t.rw) (λt=>D.str t.n) (λt=>decide (t.k=.room)) T (ρ:=[.im sp,.un]) (ρ1:=[.im sp,.un]) rfl (by omega) λt _=>⟨[.im (.str t.n),.im (.str t.k.s),.im (oS t.s)],[.im (.str t.n),.im (.str t.k.s),.im (oS t.s)],rfl,nJ (mD rfl rfl (yV t.k .room)),λ_=>⟨_,rfl,rfl⟩,λ_=>rfl⟩
 refine(ml (ρ':=ρ) ((mO (nN c)).trans ?_)).trans ?_
 ·have:((T.filter λt=>decide (t.k=.room)).map λt=>D.str t.n)=(rmN T).map D.str:=by unfold rmN;rw[aJ];rfl
  rw[this];rfl
 have el:c1 oB (cV 1) ρ=some (.int ((rmN T).length:Int),ρ):=nE rfl (by show some (D.int _)=_;rw[ah]);refine t8 (uU (mj (pX (mj (mD rfl rfl h0) (mj rfl (mj (mD (ρ1:=ρ) rfl (mD el rfl rfl) h1) (mj rfl rfl)))) (bq rfl)) (mj (pX (mj (mD (ρ1:=ρ) rfl rfl h0) (mj rfl (mj (mD rfl rfl h0) (mj rfl rfl)))) (bq rfl)) rfl)) (bq rfl))
theorem Lb(g:Good T M dk)(hy:(T.filter λt=>decide (t.k=.you)).map Th.n=[y])(emo:oZ [TD T,MD M]=some mo):uw [oT T M dk y]=some (.obj 14 wNs (wDs T M dk y mo)):=by
 have e:=K2 g y hy emo;have hl:=g.len;have hm:=g.m4;let sp:=oT T M dk y;refine m8 (ρ:=[.im sp,.im (TD T),.im (MD M)]) rfl ?_;unfold uv;refine(ml (ρ':=[.im sp,.im (TD T),.un]) ((mO (nN (vo (λt=>D.tup [mQ t.rw,wdD t]) thD T (ρ1:=[.im sp,.un,.un]) ?_ (by omega) λt _=>⟨[.im (mQ t.rw),.im (wdD t)],[.im (mQ t.rw),.im (wdD t)],rfl,rfl,rfl⟩))).trans rfl)).trans ?_
 ·show some (Fc (T.map λt=>mQ t.rw) (T.map wdD),[Sl.im sp,.un,.un])=_;rw[La]
 refine(ml (ρ':=[.im sp,.im (TD T),.im (MD M)]) ((mO (nN (vo mkT mkD M (ρ1:=[.im sp,.im (TD T),.un]) rfl (by omega) λm _=>⟨[.im (.str m.n),.im (.int m.st),.im (.int m.mo)],[.im (.str m.n),.im (.int m.st),.im (.int m.mo)],rfl,rfl,rfl⟩))).trans rfl)).trans ?_;exact mZ (Cg (g:=λds=>qq (ds++[])) (ds:=[TD T,MD M,.lst (dk.map D.str),.lst (wyT T),.lst [],.lst []]) (mj rfl (mj rfl (mj rfl (mj (nN (mC (ds:=[sp]) rfl (NV g))) rfl)))) e)
def nmK(T:List Th)(p:Kd->Bool):List Str:=(T.filter λt=>p t.k).map Th.n
theorem of_ok(hl:T.length<=900){K:L4.D}(p:Kd->Bool)(hp:∀k:Kd,dIn false (.str k.s) K=some (.bl (p k))):nI [oT T M dk y,K]=some ((nmK T p).map D.str):=by
 let sp:=oT T M dk y;refine xK (ρ:=[.im sp,.im K]) rfl ?_;have:=uy (k:=3) (cap:=[1]) (g:=gT (mY (gN 0) (mY (gN 1) (mY (gN 2) qX))) 3) (ft:=cT (c2 (dIn false) (cV 1) (cV 3))) (fe:=cV 0) (s:=iL (c2 oG (cV 0) (cC (.str "rows")))) (λt:Th=>mQ t.rw) (λt=>D.str t.n) (λt=>p t.k) T (ρ:=[.im sp,.im K]) (ρ1:=[.im sp,.im K]) rfl (by omega) λt _=>⟨[.im (.str t.n),.im (.str t.k.s),.im (oS t.s),.im K],[.im (.str t.n),.im (.str t.k.s),.im (oS t.s),.im K],rfl,nJ (mD rfl rfl (hp t.k)),λ_=>⟨_,rfl,rfl⟩,λ_=>rfl⟩
 refine t8 (this.trans ?_);unfold nmK;rw[aJ];rfl
theorem Ss(k:Kd):dIn false (.str k.s) (.lst [.str "box"])=some (.bl (decide (k=.box))):=by cases k<;>kernel_rfl
theorem Uy(k:Kd):dIn false (.str k.s) (.lst [.str "box", .str "lamp"])=some (.bl k.mk):=by cases k<;>kernel_rfl
theorem NW(k:Kd):dIn false (.str k.s) (.lst [.str "room"])=some (.bl (decide (k=.room))):=by cases k<;>kernel_rfl
def Kd.ot:Kd->Bool
 |.plain=>true|.fixed=>true|.lamp=>true|_=>false
theorem pP(T:List Th)(p:Kd->Bool):(nmK T p).Sublist (T.map Th.n):=List.Sublist.map _ List.filter_sublist
abbrev dcI(V:List (Str×Int)):L4.D:=.dic (V.map λq=>kS q.1) (V.map λq=>D.int q.2)
def moL(T:List Th)(M:List Mk):List (Str×Int):=((nmK T Kd.mk).map λx=>(x,(1:Int)))++M.map λm=>(m.n,m.mo)
theorem AB(g:Good T M dk):∃V:List (Str×Int),nU [oT T M dk y]=some (dcI V)/\V.map aG=nmK T Kd.mk++M.map Mk.n/\(∀q∈V,1<=q.2)/\V=moL T M:=by
 have hl:=g.len;have hm:=g.m4;let sp:=oT T M dk y;have nd:(nmK T Kd.mk++M.map Mk.n).Nodup:=g.nd.sublist ((pP T _).append (dZ _));have ndk:(((nmK T Kd.mk).map kS)++M.map λm=>kS m.n).Nodup:=by have:=tu nd;rw[aS,aJ]at this;exact this
 have hln:(nmK T Kd.mk).length<=200:=by have:=(pP T Kd.mk).length_le;rw[ah]at this;omega
 obtain⟨s2,e1⟩:=tP (g:=gN 2) (i:=1) (fk:=cV 2) (fv:=cC (.int 1)) D.str id (λ_=>D.int 1) (λks ds s=>[.im sp,.dk ks ds,s,.un,.un])
  (λx ks ds s=>⟨[.im sp,.dk ks ds,.im (.str x),.un,.un],rfl,rfl,rfl,rfl,λks' ds'=>⟨_,rfl⟩⟩) (nmK T Kd.mk) [] [] .un (by rw[bB];exact(bC.mp ndk).1) (by simp;omega) rfl
 rw[bB,bB]at e1;have gen:∀(l:List Mk) (ks:List Key) (ds:List L4.D) (a b c:Sl),(ks++l.map λm=>kS m.n).Nodup->ks.length+l.length<=1000->ds.length=ks.length->∃a' b' c',forL (gT (mY (gN 2) (mY (gN 3) (mY (gN 4) qX))) 3) (pB 1 (cV 2) (cV 4)) (l.map mkT) [.im sp,.dk ks ds,a,b,c]=some (.nx [.im sp,.dk (ks++l.map λm=>kS m.n) (ds++l.map λm=>D.int m.mo),a',b',c']):=by
  intro l
  induction l with
  |nil=>intro ks ds a b c _ _ _;exact⟨a,b,c,by rw[bS,bS,bS,aU,aU];rfl⟩
  |cons m l ih=>
   intro ks ds a b c nd hl he;rw[aC]at hl;have hn:kS m.n∉ks:=λz=>by rw[bC]at nd;exact nd.2.2 _ z _ (by rw[au];exact aQ) rfl
   obtain⟨a',b',c',h⟩:=ih (ks++[kS m.n]) (ds++[.int m.mo]) (.im (.str m.n)) (.im (.int m.st)) (.im (.int m.mo)) (by rw[ba];exact nd) (by rw[aB,aZ];omega) (by rw[aB,aB,he,aZ,aZ]);refine⟨a',b',c',?_⟩;rw[au];unfold forL;rw[show gT (mY (gN 2) (mY (gN 3) (mY (gN 4) qX))) 3 (mkT m) [.im sp,.dk ks ds,a,b,c]=some [.im sp,.dk ks ds,.im (.str m.n),.im (.int m.st),.im (.int m.mo)] from rfl];simp only[Ar (i:=1) (fk:=cV 2) (fv:=cV 4) (ρ:=[.im sp,.dk ks ds,.im (.str m.n),.im (.int m.st),.im (.int m.mo)]) (x:=m.n) (d:=.int m.mo) rfl rfl rfl hn (by omega) he];refine h.trans ?_;rw[au,au,ba,ba];rfl
 obtain⟨a',b',c',e2⟩:=gen M ((nmK T Kd.mk).map kS) ((nmK T Kd.mk).map λ_=>D.int 1) s2 .un .un ndk (by rw[ah];omega) (by rw[ah,ah]);let V:List (Str×Int):=((nmK T Kd.mk).map λx=>(x,(1:Int)))++M.map λm=>(m.n,m.mo);refine⟨V,m8 (ρ:=[.im sp,.im (dcI V),a',b',c']) rfl ?_,?_,λq hq=>?_,rfl⟩
 ·unfold ux;refine(ml (ρ':=[.im sp,.dk [] [],.un,.un,.un]) rfl).trans ?_;refine(ml ((pY (BL (nN (mC (mj rfl (mj rfl rfl)) (of_ok (by omega) Kd.mk Uy))))).trans e1)).trans ?_;refine(ml ((pY rfl).trans e2)).trans ?_;have q1:V.map (λq=>kS q.1)=(nmK T Kd.mk).map kS++M.map λm=>kS m.n:=by simp only[V,aS,aJ];rfl
  have q2:V.map (λq=>D.int q.2)=((nmK T Kd.mk).map λ_=>D.int 1)++M.map λm=>D.int m.mo:=by simp only[V,aS,aJ];rfl
  unfold dcI;rw[q1,q2];rfl
 ·simp only[V,aS,aJ];rw[show (aG∘λx:Str=>(x,(1:Int)))=id from rfl,jz];rfl
 ·rcases bX.mp hq with h|h
  ·obtain⟨x,_,rfl⟩:=aM.mp h;exact Int.le_refl _
  ·obtain⟨m,h1,rfl⟩:=aM.mp h;exact(g.mo m h1).1
theorem yc:∀xs:List Str,uL (xs.map D.str)=some (xs.map L3.Dq.str)
 |[]=>rfl
 |x::xs=>by rw[au];unfold uL;rw[yc xs];rfl
variable{u:Th}
theorem FD(nd:(T.map Th.n).Nodup){t:Th}(ht:t∈T)(hu:u∈T)(e:t.n=u.n):t=u:=by
 induction T with
 |nil=>cases ht
 |cons a T ih=>
  rw[au,cq]at nd;rcases aD.mp ht with h1|h1<;>rcases aD.mp hu with h2|h2
  ·exact h1.trans h2.symm
  ·exact ai (show a.n∈T.map Th.n from h1▸e▸bN h2) nd.1
  ·exact ai (show a.n∈T.map Th.n from h2▸e▸bN h1) nd.1
  ·exact ih nd.2 h1 h2
variable{p:Kd->Bool}
theorem vJ(h:x∈nmK T p):∃t∈T,t.n=x/\p t.k=true:=by obtain⟨t,h1,h2⟩:=aM.mp h;obtain⟨h3,h4⟩:=bE.mp h1;exact⟨t,h3,h2,h4⟩
variable{q:Kd->Bool}
theorem Lc(nd:(T.map Th.n).Nodup)(h:∀k,p k=true->q k=true->False)(h1:x∈nmK T p)(h2:x∈nmK T q):False:=by obtain⟨t,a1,a2,a3⟩:=vJ h1;obtain⟨u,b1,b2,b3⟩:=vJ h2;have:=FD nd a1 b1 (a2.trans b2.symm);subst this;exact h _ a3 b3
theorem Ld(h:∀k,p k=true->q k=true):(nmK T p).length<=(T.filter λt=>q t.k).length:=by unfold nmK;rw[ah,<- jL,<- jL];exact List.countP_mono_left λt _ ht=>h _ ht
theorem Su{α β:Type}{f:α->β}(hf:∀a b,f a=f b->a=b){l:List α}(h:l.Nodup):(l.map f).Nodup:=lg f (λa b h e=>h (hf a b e)) h
abbrev Ky:=Str×Str
def kD(k:Ky):L4.D:=.tup [.str k.1,.str k.2]
abbrev wO(T:List Th)(M:List Mk)(dk:List Str)(y:Str)(mo:L4.D):L4.D:=.obj 14 wNs (wDs T M dk y mo)
variable{m:Int}
section
variable{y:Str}{T:List Th}{M:List Mk}{dk:List Str}
theorem Le(g:Good T M dk):oZ [TD T,MD M]=some (dcI (moL T M)):=by
 have hl:=g.len;have hm:=g.m4;have nd:(nmK T Kd.mk++M.map Mk.n).Nodup:=g.nd.sublist ((pP T _).append (dZ _));have ndk:(((nmK T Kd.mk).map kS)++M.map λm=>kS m.n).Nodup:=by have:=tu nd;rw[aS,aJ]at this;exact this
 have hln:(nmK T Kd.mk).length<=200:=by have:=(pP T Kd.mk).length_le;rw[ah]at this;omega
 have g1:∀(l:List Th) (ks:List Key) (ds:List L4.D) (s:Sl),(ks++(nmK l Kd.mk).map kS).Nodup->ks.length+l.length<=900->ds.length=ks.length->∃s',forL (gN 3) (sIf (cT (ni oI "has_mark" (cV 3) mw)) (pB 2 (c1 (mP mS "name") (cV 3)) (cC (.int 1))) m3) (l.map thD) [.im (TD T),.im (MD M),.dk ks ds,s,.un]=some (.nx [.im (TD T),.im (MD M),.dk (ks++(nmK l Kd.mk).map kS) (ds++(nmK l Kd.mk).map λ_=>D.int 1),s',.un]):=by
  intro l
  induction l with
  |nil=>exact λks ds s _ _ _=>⟨s,by unfold nmK;simp;rfl⟩
  |cons t l ih=>
   intro ks ds s nd hk he;rw[aC]at hk;have em:cT (ni oI "has_mark" (cV 3) mw) [.im (TD T),.im (MD M),.dk ks ds,.im (thD t),.un]=some (t.k.mk,[.im (TD T),.im (MD M),.dk ks ds,.im (thD t),.un]):=nJ (n4 (xs:=[.str t.n,.tup (t.w.map D.str),.str t.k.s,oS t.s]) (ys:=[]) rfl rfl rfl rfl (GA t));cases q:t.k.mk with
   |true=>
    rw[q]at em;have e0:nmK (t::l) Kd.mk=t.n::nmK l Kd.mk:=by unfold nmK;rw[fz,q,ag rfl,au]
    rw[e0,au]at nd;rw[e0,au,au];have hn:kS t.n∉ks:=λz=>by rw[bC]at nd;exact nd.2.2 _ z _ aQ rfl
    obtain⟨s',h⟩:=ih (ks++[kS t.n]) (ds++[.int 1]) (.im (thD t)) (by rw[ba];exact nd) (by rw[aB,aZ];omega) (by rw[aB,aB,he,aZ,aZ]);refine⟨s',?_⟩;rw[au];unfold forL;rw[show gN 3 (thD t) [.im (TD T),.im (MD M),.dk ks ds,s,.un]=some [.im (TD T),.im (MD M),.dk ks ds,.im (thD t),.un] from rfl];have ev:=(nH (f:=pB 2 (c1 (mP mS "name") (cV 3)) (cC (.int 1))) (g:=m3) em).trans (Ar (i:=2) (fk:=c1 (mP mS "name") (cV 3)) (fv:=cC (.int 1)) (ρ:=[.im (TD T),.im (MD M),.dk ks ds,.im (thD t),.un]) (x:=t.n) (d:=.int 1) rfl rfl (nE rfl (sV t)) hn (by omega) he);simp only[ev];refine h.trans ?_;rw[ba,ba];rfl
   |false=>
    rw[q]at em;have e0:nmK (t::l) Kd.mk=nmK l Kd.mk:=by unfold nmK;rw[fz,q,af (by decide)]
    rw[e0]at nd ⊢;obtain⟨s',h⟩:=ih ks ds (.im (thD t)) nd (by omega) he;refine⟨s',?_⟩;rw[au];unfold forL;rw[show gN 3 (thD t) [.im (TD T),.im (MD M),.dk ks ds,s,.un]=some [.im (TD T),.im (MD M),.dk ks ds,.im (thD t),.un] from rfl];have ev:=(m7 (f:=pB 2 (c1 (mP mS "name") (cV 3)) (cC (.int 1))) (g:=m3) em);simp only[ev];exact h
 obtain⟨s1,e1⟩:=g1 T [] [] .un (by rw[bB];exact(bC.mp ndk).1) (by simp;omega) rfl;rw[bB,bB]at e1;obtain⟨s2,e2⟩:=tP (g:=gN 4) (i:=2) (fk:=c1 (mP mS "name") (cV 4)) (fv:=c1 (mP rT "most") (cV 4)) mkD Mk.n (λm=>D.int m.mo) (λks ds s=>[.im (TD T),.im (MD M),.dk ks ds,s1,s])
  (λm ks ds s=>⟨[.im (TD T),.im (MD M),.dk ks ds,s1,.im (mkD m)],rfl,nE rfl (NM m),rfl,nE rfl (CH m),λks' ds'=>⟨_,rfl⟩⟩) M ((nmK T Kd.mk).map kS) ((nmK T Kd.mk).map λ_=>D.int 1) .un ndk (by rw[ah];omega) (by rw[ah,ah])
 refine m8 (ρ:=[.im (TD T),.im (MD M),.im (dcI (moL T M)),s1,s2]) rfl ?_;unfold rj;refine(ml (ρ':=[.im (TD T),.im (MD M),.dk [] [],.un,.un]) rfl).trans ?_;refine(ml ((pY rfl).trans e1)).trans ((ml ((pY rfl).trans e2)).trans ?_);have q1:(moL T M).map (λq=>kS q.1)=(nmK T Kd.mk).map kS++M.map λm=>kS m.n:=by simp only[moL,aS,aJ];rfl
 have q2:(moL T M).map (λq=>D.int q.2)=((nmK T Kd.mk).map λ_=>D.int 1)++M.map λm=>D.int m.mo:=by simp only[moL,aS,aJ];rfl
 unfold dcI;rw[q1,q2];rfl
theorem sL:(moL T M).map aG=nmK T Kd.mk++M.map Mk.n:=by simp only[moL,aS,aJ];rw[show (aG∘λx:Str=>(x,(1:Int)))=id from rfl,jz];rfl
abbrev wM(T:List Th)(M:List Mk)(dk:List Str)(y:Str):L4.D:=wO T M dk y (dcI (moL T M))
theorem FH{V:List (Str×Int)}(nv:(V.map aG).Nodup){z:Int}(h:(x,z)∈V):oF (V.map λq=>kS q.1) (V.map λq=>D.int q.2) (kS x)=some (.int z):=
 w5 (by have:=tu nv;rw[aJ]at this;exact this) (by rw[jh];exact aM.mpr ⟨_,h,rfl⟩)
theorem GL(nd:(nmK T Kd.mk++M.map Mk.n).Nodup)(h:(x,m)∈moL T M):ox [wM T M dk y,.str x]=some (.int m):=by refine m8 (ρ:=[.im (wM T M dk y),.im (.str x)]) rfl (mZ (mD (x:=dcI (moL T M)) (y:=.str x) rfl rfl ?_));show some ((oF _ _ (kS x)).getD .non)=_;rw[FH (by rw[sL];exact nd) h];rfl
theorem xw{c:FT}{f g:FE}(h:c ρ=some (true,ρ1)):cIf c f g ρ=f ρ1:=by unfold cIf;rw[h]
theorem tQ{c:FT}{f g:FE}(h:c ρ=some (false,ρ1)):cIf c f g ρ=g ρ1:=by unfold cIf;rw[h]
theorem Ey{e':FE}(h:e ρ=some (.bl false,ρ1)):pR e e' ρ=some (.bl false,ρ1):=by unfold pR;rw[h]
theorem GN{V:List (Str×Int)}(h:x∉V.map aG):oF (V.map λq=>kS q.1) (V.map λq=>D.int q.2) (kS x)=none:=by refine xQ λz=>h ?_;obtain⟨q,hq,e⟩:=aM.mp z;exact aM.mpr ⟨q,hq,Fv e⟩
theorem NX(h:x∉nmK T Kd.mk++M.map Mk.n):ox [wM T M dk y,.str x]=some .non:=by refine m8 (ρ:=[.im (wM T M dk y),.im (.str x)]) rfl (mZ (mD (x:=dcI (moL T M)) (y:=.str x) rfl rfl ?_));show some ((oF _ _ (kS x)).getD .non)=_;rw[GN (by rw[sL];exact h)];rfl
theorem Lf(h:x∉nmK T Kd.mk++M.map Mk.n):pO [wM T M dk y,.str x]=some (.lst []):=by let ρ:List Sl:=[.im (wM T M dk y),.im (.str x)];refine m8 (ρ:=ρ) rfl (mZ ?_);have t:cT (c2 wb (ni o7 "most_of" (cV 0) (mi (cV 1) mw)) (cC D.non)) ρ=some (true,ρ):=nJ (mD (n4 (xs:=wDs T M dk y (dcI (moL T M))) (ys:=[.str x]) (hh:=ox) rfl rfl rfl rfl (NX h)) rfl rfl);exact(xw t).trans rfl
theorem Ik(nd:(nmK T Kd.mk++M.map Mk.n).Nodup)(h:(x,m)∈moL T M):pO [wM T M dk y,.str x]=some (.lst [kD ("mark", x)]):=by let ρ:List Sl:=[.im (wM T M dk y),.im (.str x)];refine m8 (ρ:=ρ) rfl (mZ ?_);have t:cT (c2 wb (ni o7 "most_of" (cV 0) (mi (cV 1) mw)) (cC D.non)) ρ=some (false,ρ):=nJ (mD (n4 (xs:=wDs T M dk y (dcI (moL T M))) (ys:=[.str x]) (hh:=ox) rfl rfl rfl rfl (GL nd h)) rfl rfl);exact(tQ t).trans rfl
theorem NY(v:Int)(h:x∉nmK T Kd.mk++M.map Mk.n):qK [wM T M dk y,.str x,.int v]=some (.bl false):=by let ρ:List Sl:=[.im (wM T M dk y),.im (.str x),.im (.int v)];refine m8 (ρ:=ρ) rfl (mZ ?_);have t:c2 (dEq true) (mr pO (mi (cV 0) (mi (cV 1) mw))) (cL (mK mw)) ρ=some (.bl false,ρ):=mD (mC rfl (Lf h)) rfl rfl;exact Ey t
theorem Lg(nd:(nmK T Kd.mk++M.map Mk.n).Nodup)(v:Int)(h:(x,m)∈moL T M):qK [wM T M dk y,.str x,.int v]=some (.bl (decide (v<=m))):=by let ρ:List Sl:=[.im (wM T M dk y),.im (.str x),.im (.int v)];refine m8 (ρ:=ρ) rfl (mZ ?_);have t:c2 (dEq true) (mr pO (mi (cV 0) (mi (cV 1) mw))) (cL (mK mw)) ρ=some (.bl true,ρ):=mD (mC rfl (Ik nd h)) rfl rfl;exact(nY t).trans (mD rfl (n4 (xs:=wDs T M dk y (dcI (moL T M))) (ys:=[.str x]) (hh:=ox) rfl rfl rfl rfl (GL nd h)) rfl)
def noT(x:Str):Bool:=decide (x∉(["here", "it", "other"]:List Str))
theorem Lh(h:Nm x):x∉(["here", "it", "other"]:List Str):=bh (CI (p:=noT) (by kernel_rfl) h)
end
section
variable{y:Str}{T:List Th}{M:List Mk}{dk:List Str}{mo:L4.D}
theorem EA(nd:(T.map Th.n).Nodup){t:Th}(ht:t∈T):pN [wO T M dk y mo,.str t.n]=some (thD t):=by refine m8 (ρ:=[.im (wO T M dk y mo),.im (.str t.n)]) rfl (mZ (mD (x:=.dic (nK T) (T.map thD)) (y:=.str t.n) rfl rfl ?_));show some ((oF (nK T) (T.map thD) (kS t.n)).getD .non)=_;rw[w5 (GB nd) (d:=thD t) (by unfold nK;rw[jh];exact aM.mpr ⟨t,ht,rfl⟩)];rfl
theorem AC(nd:(T.map Th.n).Nodup){t:Th}(ht:t∈T)(hk:t.k≠.room):qJ [wO T M dk y mo,.str t.n]=some (.lst [kD ("at", t.n)]):=by let W:=wO T M dk y mo;let ρ:List Sl:=[.im W,.im (.str t.n),.im (thD t)];refine m8 (ρ:=ρ) rfl ?_;unfold wu;refine(ml (ρ':=ρ) ((mO (n4 (xs:=wDs T M dk y mo) (ys:=[.str t.n]) (hh:=pN) rfl rfl rfl rfl (EA nd ht))).trans rfl)).trans (mZ ?_);have e:cT (c2 (dEq false) (c1 (mP nL "kind") (cV 2)) (cC (.str "room"))) ρ=some (false,ρ):=nJ (mD (x:=.str t.k.s) (y:=.str "room") (nE rfl (wx t)) rfl ((yV t.k .room).trans (by rw[aA hk])));exact(tQ (uT (ρ1:=ρ) rfl e)).trans rfl
theorem Ou(nd:(T.map Th.n).Nodup){t:Th}(ht:t∈T)(hk:t.k≠.room)(hu:u∈T):vd [wO T M dk y mo,.str t.n,.str u.n]=some (.bl (u.k.hd&&!decide (u.n=t.n))):=by
 let W:=wO T M dk y mo;let ρ:List Sl:=[.im W,.im (.str t.n),.im (.str u.n),.im (thD u)];refine m8 (ρ:=ρ) rfl ?_;unfold Am;refine(ml (ρ':=ρ) ((mO (n4 (xs:=wDs T M dk y mo) (ys:=[.str u.n]) (hh:=pN) rfl rfl rfl rfl (EA nd hu))).trans rfl)).trans (mZ ?_);have e1:c2 (dEq true) (mr qJ (mi (cV 0) (mi (cV 1) mw))) (cL (mK mw)) ρ=some (.bl true,ρ):=mD (mC (ds:=[W,.str t.n]) rfl (AC nd ht hk)) rfl rfl;have e3:ni nW "can_hold" (cV 3) mw ρ=some (.bl u.k.hd,ρ):=n4 (xs:=[.str u.n,.tup (u.w.map D.str),.str u.k.s,oS u.s]) (ys:=[]) rfl rfl rfl rfl (Gy u);refine(nY e1).trans ((nY (ρ1:=ρ) rfl).trans ?_);cases h:u.k.hd with
 |true=>rw[h]at e3;exact(nY e3).trans ((mD (x:=.str u.n) (y:=.str t.n) rfl rfl (rA true u.n t.n)).trans (by rw[ag rfl,Bool.true_and]))
 |false=>rw[h]at e3;exact(Ey e3).trans (by rw[lK])
end
variable{c':FT}{sm:List Str}{c:L4.D}{f:Str}
section
variable{y:Str}{T:List Th}{M:List Mk}{dk:List Str}
theorem tk{n:Int}(hn:0<n)(hi:IL es)(h0:oO ρ j=some es)(he:e ρ=some (.int n,ρ)):∃r es',IL es'/\0<=r/\r<n/\nD mm j (mi e mw) ρ=some (.int r,putAt ρ j es'):=by obtain⟨r,es',h1,h2,h3,h4⟩:=pf hi n hn;exact⟨r,es',h1,h2,h3,qh h0 (mj he rfl) h0 h4⟩
theorem pk(hl:l≠[])(hi:IL es)(h0:oO ρ j=some es)(hv:cV i ρ=some (.lst (l.map D.str),ρ)):∃x es',x∈l/\IL es'/\c2 dIx (cV i) (nD mm j (mi (c1 oB (cV i)) mw)) ρ=some (.str x,putAt ρ j es'):=by
 have hp:=dq.mpr hl;obtain⟨r,es',h1,h2,h3,h4⟩:=tk (n:=l.length) (e:=c1 oB (cV i)) (by omega) hi h0 (nE hv (by show some (D.int _)=_;rw[ah]));obtain⟨r,rfl⟩:=b0 h2;have hr:r<l.length:=by omega
 exact⟨l[r],es',bP hr,h1,mD hv h4 (qv (az hr))⟩
theorem vp(x:Str)(xs:List Str):dEq false (.lst ((x::xs).map D.str)) (.lst [])=some (.bl false):=by
 have e0:AO false (.lst ((x::xs).map D.str)) (.lst [])=none:=rfl;have e1:toD (.lst ((x::xs).map D.str))=some (.lst ((x::xs).map L3.Dq.str)):=by unfold toD;rw[yc]
 have e3:dpt (.lst ((x::xs).map L3.Dq.str))=1:=by rw[dpt,xE]
 unfold dEq;rw[e0];show DI false _ _=_;unfold DI;rw[e1,show toD (.lst [])=some (.lst []) from rfl];show (if Dn (.lst ((x::xs).map L3.Dq.str)) (.lst [])&&decide (dpt (.lst ((x::xs).map L3.Dq.str))<=20)&&decide (dpt (.lst [])<=20)then some (D.bl (eqD (.lst ((x::xs).map L3.Dq.str)) (.lst [])))else none)=_;rw[e3];rfl
theorem Uz(k:Kd):dIn false (.str k.s) (.lst [.str "plain", .str "fixed", .str "box", .str "lamp"])=some (.bl k.pl):=by cases k<;>kernel_rfl
theorem vq{c:FT}(h:c ρ=some (true,ρ1)):rb c c' ρ=some (true,ρ1):=by unfold rb;rw[h]
inductive Cm(sm:List Str):L4.D->Str->Prop
 |go (z:Str):Cm sm (.tup [.str "go", .str z,.non]) "way"
 |wait:Cm sm (.tup [.str "wait", .non,.non]) "alone"
 |take {a:Str}:a∈sm->Cm sm (.tup [.str "take", .str a,.non]) "one"
 |put {a b:Str}:a∈sm->b∈sm->Cm sm (.tup [.str "put", .str a,.str b]) "two"
theorem NZ(h:Cm sm c f):qa [c]=some (.str f):=by cases h<;>kernel_rfl
theorem FI{a b:L4.D}{r:Int}(h0:0<=r)(h1:r<2):dIx (.lst [a,b]) (.int r)=some (if r=0 then a else b):=by
 have:r=0\/r=1:=by omega
 rcases this with rfl|rfl<;>rfl
theorem FJ(g:Good T M dk)(hi:IL es):∃c f es',IL es'/\Cm (nmK T Kd.pl) c f/\pH es [oT T M dk y]=some (c,es'):=by
 let sp:=oT T M dk y;let sm:=nmK T Kd.pl;let L:L4.D:=.lst (sm.map D.str);have hl:=g.len;have run:∃c f es' x4,IL es'/\Cm sm c f/\∃x3,qu (stL 5 es [sp])=some (.rt c [.im sp,.pm es',.im L,x3,x4]):=by
  unfold qu;have e1:(mT 2 (cL (m6 nI (mi (cV 0) (mi (cL (mK (mi (cC (.str "plain")) (mi (cC (.str "fixed")) (mi (cC (.str "box")) (mi (cC (.str "lamp")) mw)))))) mw)))):FS) (stL 5 es [sp])=some (.nx [.im sp,.pm es,.im L,.un,.un]):=(mO (nN (mC (mj rfl (mj rfl rfl)) (of_ok (by omega) Kd.pl Uz)))).trans rfl;rw[ml e1];obtain⟨w,es1,i1,w0,w1,h1⟩:=tk (ρ:=[.im sp,.pm es,.im L,.un,.un]) (j:=1) (e:=cC (.int 8)) (n:=8) (by decide) hi rfl rfl;rw[ml ((mO h1).trans (show _=some (Out.nx [.im sp,.pm es1,.im L,.im (.int w),.un]) from rfl))];let ρ:List Sl:=[.im sp,.pm es1,.im L,.im (.int w),.un];have far:∃c f es',IL es'/\Cm sm c f/\(mX (c2 dIx (cL (mK (mi (nz (mi (cC (.str "go")) (mi (c2 dIx (cL (mK (mi (cC (.str "north")) (mi (cC (.str "up")) mw)))) (nD mm 1 (mi (cC (.int 2)) mw))) (mi (cC D.non) mw)))) (mi (nz (mi (cC (.str "wait")) (mi (cC D.non) (mi (cC D.non) mw)))) mw)))) (c2 oP (cV 3) (cC (.int 2)))):FS) ρ=some (.rt c [.im sp,.pm es',.im L,.im (.int w),.un]):=by
   obtain⟨r,es2,i2,r0,r1,h2⟩:=tk (ρ:=ρ) (j:=1) (e:=cC (.int 2)) (n:=2) (by decide) i1 rfl rfl;have m0:=iU w (by decide:(2:Int)≠0);have m1:=iw w (by decide:(0:Int)<2);let z:Str:=if r=0 then "north" else "up"
   let ρ2:List Sl:=[.im sp,.pm es2,.im L,.im (.int w),.un];have ez:(if r=0 then D.str "north" else .str "up")=.str z:=by show _=D.str (if r=0 then "north" else "up");split<;>rfl
   have en:=mD (g:=dIx) (e:=cL (mK (mi (cC (.str "north")) (mi (cC (.str "up")) mw)))) (ρ:=ρ) (ρ1:=ρ) rfl h2 ((FI r0 r1).trans (aN some ez));have er:=mZ (mD (g:=dIx) (e:=cL (mK (mi (nz (mi (cC (.str "go")) (mi (c2 dIx (cL (mK (mi (cC (.str "north")) (mi (cC (.str "up")) mw)))) (nD mm 1 (mi (cC (.int 2)) mw))) (mi (cC D.non) mw)))) (mi (nz (mi (cC (.str "wait")) (mi (cC D.non) (mi (cC D.non) mw)))) mw)))) (e':=c2 oP (cV 3) (cC (.int 2))) (x:=.lst [.tup [.str "go", .str z,.non],.tup [.str "wait", .non,.non]]) (y:=.int (w % 2)) (ρ:=ρ) (ρ1:=ρ2) (ρ2:=ρ2) (nN (uU (mj (pX (mj rfl (mj en rfl)) (bq rfl)) rfl) (bq rfl))) (mD rfl rfl (qO (by decide))) (FI m0 m1));by_cases hw:w % 2=0
   ·rw[ag hw]at er;exact⟨_,_,es2,i2,.go z,er⟩
   ·rw[af hw]at er;exact⟨_,_,es2,i2,.wait,er⟩
  obtain⟨c0,f0,es0,j0,k0,far⟩:=far;by_cases h0:sm=[]
  ·have et:rb (cT (c2 (dEq false) (cV 2) (cL (mK mw)))) (cT (c2 AN (cV 3) (cC (.int 5)))) ρ=some (true,ρ):=vq (nJ (mD (x:=L) (y:=.lst []) rfl rfl (by show dEq false (.lst (sm.map D.str)) _=_;rw[h0];rfl)));exact⟨c0,f0,es0,_,j0,k0,_,nR ((nH et).trans far)⟩
  ·have ee:cT (c2 (dEq false) (cV 2) (cL (mK mw))) ρ=some (false,ρ):=nJ (mD (x:=L) (y:=.lst []) rfl rfl (by
    show dEq false (.lst (sm.map D.str)) _=_;obtain⟨a,r,e⟩:=eV h0;rw[e];exact vp a r))
   have et:rb (cT (c2 (dEq false) (cV 2) (cL (mK mw)))) (cT (c2 AN (cV 3) (cC (.int 5)))) ρ=some (decide (w > 5),ρ):=uT ee (nJ (mD rfl rfl rfl));by_cases hw:w > 5
   ·rw[aH hw]at et;exact⟨c0,f0,es0,_,j0,k0,_,nR ((nH et).trans far)⟩
   ·rw[aA hw]at et;rw[ml ((m7 et).trans (show _=some (Out.nx ρ) from rfl))];obtain⟨a,es2,ha,i2,h2⟩:=pk (ρ:=ρ) (i:=2) (j:=1) h0 i1 rfl rfl;rw[ml ((mO h2).trans (show _=some (Out.nx [.im sp,.pm es2,.im L,.im (.int w),.im (.str a)]) from rfl))];let ρ2:List Sl:=[.im sp,.pm es2,.im L,.im (.int w),.im (.str a)];have e2:cT (c2 AM (cV 3) (cC (.int 2))) ρ2=some (decide (w<2),ρ2):=nJ (mD rfl rfl rfl);by_cases hw:w<2
    ·rw[aH hw]at e2;exact⟨_,_,es2,_,i2,.take ha,_,nR ((nH e2).trans rfl)⟩
    ·rw[aA hw]at e2;rw[ml ((m7 e2).trans (show _=some (Out.nx ρ2) from rfl))];obtain⟨b,es3,hb,i3,h3⟩:=pk (ρ:=ρ2) (i:=2) (j:=1) h0 i2 rfl rfl;exact⟨_,_,es3,_,i3,.put ha hb,_,mZ (pX (mj rfl (mj rfl (mj h3 rfl))) (bq rfl))⟩
 obtain⟨c,f,es',x4,i',cm,x3,run⟩:=run;refine⟨c,f,es',i',cm,?_⟩;unfold pH fnL;rw[ag (show [sp].length=1 from rfl),run];rfl
end
section
variable{y:Str}{T:List Th}{M:List Mk}{dk:List Str}
abbrev mks(T:List Th)(M:List Mk):List Str:=nmK T Kd.mk++M.map Mk.n
theorem ndM(g:Good T M dk):(mks T M).Nodup:=g.nd.sublist ((pP T _).append (dZ _))
theorem N0(g:Good T M dk):(mks T M).length<=11:=by
 unfold mks;rw[aB,ah];have h2:=Ld (T:=T) (p:=Kd.mk) (q:=Kd.pl) λk h=>by cases k<;>first|rfl|cases h
 have h3:=g.p7;have h4:=g.m4;omega
inductive Tm:L4.D->Str->Str->Prop
 |it1 (a:Str):Tm (.tup [.str "take", .str a,.non]) "it" a
 |it2 (a b:Str):Tm (.tup [.str "put", .str a,.str b]) "it" a
 |oth (a b:Str):Tm (.tup [.str "put", .str a,.str b]) "other" b
 |nm (c:L4.D) {x:Str}:Nm x->Tm c x x
theorem BM:∀V:List (Str×Int),yy (V.map λq=>kS q.1)=some (V.map aG)
 |[]=>rfl
 |q::V=>by rw[au,au];show (yy _).map _=_;rw[BM V];rfl
theorem Li{V:List (Str×Int)}(h:e ρ=some (dcI V,ρ))(hl:V.length<64):xT e ρ=some ((tD (V.map aG)).map D.str,ρ):=by unfold xT;rw[h];simp only[BM,ah,hl,if_true]
theorem tR{c:FT}(h:c ρ=some (true,ρ1)):qW c c' ρ=c' ρ1:=by unfold qW;rw[h]
theorem yd{c:FT}(h:c ρ=some (false,ρ1)):qW c c' ρ=some (false,ρ1):=by unfold qW;rw[h]
theorem Il(g:Good T M dk)(cm:Cm (nmK T Kd.pl) c f)(hi:IL es)(hf:f="one" \/ f="two" \/ moL T M≠[]):∃t z v es',IL es'/\Tm c t z/\qT es [oT T M dk y,.str f]=some (.tup [.str t,.int v],es'):=by
 let sp:=oT T M dk y;obtain⟨V,em,v1,v2,rfl⟩:=AB (y:=y) g;let N:=tD ((moL T M).map aG);let L:L4.D:=.lst (N.map D.str);have hN:∀x,x∈N ↔ x∈(moL T M).map aG:=λx=>(ig _ leS).mem_iff;have hl:(moL T M).length<=11:=by have:=N0 g;have h:=aN bG v1;rw[ah]at h;rw[h];exact this
 let ρ:List L4.D->Sl->List Sl:=λes s=>[.im sp,.im (.str f),.pm es,.im (dcI (moL T M)),.im L,s];have byit:∀es1,IL es1->(f="one" \/ f="two")->∃t z v es',IL es'/\Tm c t z/\(mX (nz (mi (c2 dIx (cL (mK (mi (cC (.str "it")) (mi (c2 dIx (cL (mK (mi (cC (.str "it")) (mi (cC (.str "other")) mw)))) (c1 HB (c2 (dEq false) (cV 1) (cC (.str "two"))))) mw)))) (nD mm 2 (mi (cC (.int 2)) mw))) (mi (nD mm 2 (mi (cC (.int 4)) mw)) mw))):FS) (ρ es1 .un)=some (.rt (.tup [.str t,.int v]) (ρ es' .un)):=λes1 i1 h=>by
  obtain⟨r,es2,i2,r0,r1,h2⟩:=tk (ρ:=ρ es1 .un) (j:=2) (e:=cC (.int 2)) (n:=2) (by decide) i1 rfl rfl;obtain⟨v,es3,i3,_,_,h3⟩:=tk (ρ:=ρ es2 .un) (j:=2) (e:=cC (.int 4)) (n:=4) (by decide) i2 rfl rfl;have fin:∀b:Str,c2 dIx (cL (mK (mi (cC (.str "it")) (mi (cC (.str "other")) mw)))) (c1 HB (c2 (dEq false) (cV 1) (cC (.str "two")))) (ρ es1 .un)=some (.str b,ρ es1 .un)->(mX (nz (mi (c2 dIx (cL (mK (mi (cC (.str "it")) (mi (c2 dIx (cL (mK (mi (cC (.str "it")) (mi (cC (.str "other")) mw)))) (c1 HB (c2 (dEq false) (cV 1) (cC (.str "two"))))) mw)))) (nD mm 2 (mi (cC (.int 2)) mw))) (mi (nD mm 2 (mi (cC (.int 4)) mw)) mw))):FS) (ρ es1 .un)=some (.rt (.tup [.str (if r=0 then "it" else b),.int v]) (ρ es3 .un)):=λb eb=>by
   have ez:(if r=0 then D.str "it" else .str b)=.str (if r=0 then "it" else b):=by split<;>rfl
   exact mZ (pX (mj (mD (x:=.lst [.str "it", .str b]) (y:=.int r) (ρ1:=ρ es1 .un) (nN (uU (mj rfl (mj eb rfl)) (bq rfl))) h2 ((FI r0 r1).trans (aN some ez))) (mj h3 rfl)) (bq rfl))
  cases cm with
  |go z=>rcases h with h|h<;>exact ai h (by decide)
  |wait=>rcases h with h|h<;>exact ai h (by decide)
  |@take a ha=>refine⟨_,a,v,es3,i3,?_,fin "it" (by kernel_rfl)⟩;rw[ite_self];exact .it1 a
  |@put a b ha hb=>
   by_cases hr:r=0
   ·refine⟨_,a,v,es3,i3,?_,fin "other" (by kernel_rfl)⟩;rw[ag hr];exact .it2 a b
   ·refine⟨_,b,v,es3,i3,?_,fin "other" (by kernel_rfl)⟩;rw[af hr];exact .oth a b
 have byname:∀es1,IL es1->N≠[]->∃t z v es' s,IL es'/\Tm c t z/\(mx (mT 5 (c2 dIx (cV 4) (nD mm 2 (mi (c1 oB (cV 4)) mw))))
   (mX (nz (mi (cV 5) (mi (nD mm 2 (mi (c2 nQ (c2 oG (cV 3) (cV 5)) (cC (.int 1))) mw)) mw)))):FS) (ρ es1 .un)=some (.rt (.tup [.str t,.int v]) (ρ es' s)):=λes1 i1 h=>by
  obtain⟨x,es2,hx,i2,h2⟩:=pk (ρ:=ρ es1 .un) (i:=4) (j:=2) h i1 rfl rfl;obtain⟨q,hq,rfl⟩:=aM.mp ((hN x).mp hx);have h1:=v2 q hq;have hm:q.1∈mks T M:=by show q.1∈nmK T Kd.mk++M.map Mk.n;rw[<-v1];exact aM.mpr ⟨q,hq,rfl⟩
  have nm:Nm q.1:=g.nm _ (((pP T Kd.mk).append (dZ _)).subset hm);rw[ml ((mO h2).trans (show _=some (Out.nx (ρ es2 (.im (.str q.1)))) from rfl))];obtain⟨v,es3,i3,_,_,h3⟩:=tk (ρ:=ρ es2 (.im (.str q.1))) (j:=2) (e:=c2 nQ (c2 oG (cV 3) (cV 5)) (cC (.int 1))) (n:=q.2+1) (by omega) i2 rfl (mD (x:=.int q.2) (y:=.int 1) (mD (x:=dcI (moL T M)) (y:=.str q.1) rfl rfl (FH (by rw[v1];exact ndM g) (x:=q.1) (z:=q.2) hq)) rfl rfl);exact⟨q.1,q.1,v,es3,_,i3,.nm c nm,mZ (pX (mj rfl (mj h3 rfl)) (bq rfl))⟩
 have run:∃t z v es' s,IL es'/\Tm c t z/\qS (stL 6 es [sp,.str f])=some (.rt (.tup [.str t,.int v]) (ρ es' s)):=by
  unfold qS;rw[ml ((mO (mC (ds:=[sp]) (ρ1:=[.im sp,.im (.str f),.pm es,.un,.un,.un]) rfl em)).trans (show _=some (Out.nx [.im sp,.im (.str f),.pm es,.im (dcI (moL T M)),.un,.un]) from rfl))];rw[ml ((mO (nN (Li (V:=moL T M) rfl (by omega)))).trans (show _=some (Out.nx (ρ es .un)) from rfl))];by_cases h12:f="one" \/ f="two"
  ·have e1:cT (c2 (dIn false) (cV 1) (cL (mK (mi (cC (.str "one")) (mi (cC (.str "two")) mw))))) (ρ es .un)=some (true,ρ es .un):=by rcases h12 with h|h<;>(subst h;kernel_rfl)
   by_cases h0:N=[]
   ·obtain⟨t,z,v,es',i',tm,e⟩:=byit es hi h12;exact⟨t,z,v,es',.un,i',tm,nR ((nH ((tR e1).trans (vq (nJ (mD (x:=L) (y:=.lst []) rfl rfl (by show dEq false (.lst (N.map D.str)) _=_;rw[h0];rfl)))))).trans e)⟩
   ·have e2:cT (c2 (dEq false) (cV 4) (cL (mK mw))) (ρ es .un)=some (false,ρ es .un):=nJ (mD (x:=L) (y:=.lst []) rfl rfl (by
     show dEq false (.lst (N.map D.str)) _=_;obtain⟨a,r,e⟩:=eV h0;rw[e];exact vp a r))
    obtain⟨r,es1,i1,_,_,h1⟩:=tk (ρ:=ρ es .un) (j:=2) (e:=cC (.int 2)) (n:=2) (by decide) hi rfl rfl;have e3:=(tR e1).trans (uT e2 (nJ (mD (e':=cC (.int 0)) h1 rfl (vE false r 0))));by_cases hr:r=0
    ·obtain⟨t,z,v,es',i',tm,e⟩:=byit es1 i1 h12;rw[aH hr]at e3;exact⟨t,z,v,es',.un,i',tm,nR ((nH e3).trans e)⟩
    ·obtain⟨t,z,v,es',s,i',tm,e⟩:=byname es1 i1 h0;rw[aA hr]at e3;exact⟨t,z,v,es',s,i',tm,(ml ((m7 e3).trans rfl)).trans e⟩
  ·have h0:N≠[]:=λh=>by
    rcases hf with h'|h'|h'
    ·exact h12 (.inl h')
    ·exact h12 (.inr h')
    ·obtain⟨q,r,e⟩:=eV h';have:q.1∈N:=(hN _).mpr (by rw[e];exact aQ ..);rw[h]at this;cases this
   have e1:cT (c2 (dIn false) (cV 1) (cL (mK (mi (cC (.str "one")) (mi (cC (.str "two")) mw))))) (ρ es .un)=some (false,ρ es .un):=nJ (mD (x:=.str f) (y:=.lst [.str "one", .str "two"]) rfl rfl ((rR false f ["one", "two"]).trans (by simp;exact⟨λh=>h12 (.inl h),λh=>h12 (.inr h)⟩)));obtain⟨t,z,v,es',s,i',tm,e⟩:=byname es hi h0;exact⟨t,z,v,es',s,i',tm,(ml ((m7 (yd e1)).trans rfl)).trans e⟩
 obtain⟨t,z,v,es',s,i',tm,run⟩:=run;refine⟨t,z,v,es',i',tm,?_⟩;unfold qT fnL;rw[ag (show [sp,D.str f].length=2 from rfl),run];rfl
end
variable{t:Str}
section
variable{y:Str}{T:List Th}{M:List Mk}{dk:List Str}
inductive Tp(T:List Th) (c:L4.D):Str->Option Str->Prop
 |here:Tp T c "here" none
 |tm {p w:Str}:Tm c p w->w∈T.map Th.n->Tp T c p (some w)
theorem Ov(k:Kd):dIn false (.str k.s) (.lst [.str "room", .str "box", .str "you"])=some (.bl k.hd):=by cases k<;>kernel_rfl
theorem Sv(k:Kd):dIn false (.str k.s) (.lst [.str "plain", .str "fixed", .str "box", .str "lamp", .str "box"])=some (.bl k.pl):=by cases k<;>kernel_rfl
theorem Sw(cm:Cm sm c f):dIn false (.str f) (.lst [.str "one", .str "two"])=some (.bl (decide (f="one" \/ f="two"))):=by cases cm<;>kernel_rfl
theorem is2(cm:Cm sm c f):dEq false (.str f) (.str "two")=some (.bl (decide (f="two"))):=by cases cm<;>kernel_rfl
theorem nmN(g:Good T M dk)(h:x∈nmK T p):Nm x:=g.nm _ (bW _ ((pP T p).subset h))
theorem N1(cm:Cm sm c f)(h:(t="it" /\ (f="one" \/ f="two"))\/(t="other" /\ f="two")):∃z,Tm c t z/\z∈sm:=by
 cases cm with
 |go z=>rcases h with ⟨_,h|h⟩|⟨_,h⟩<;>exact ai h (by decide)
 |wait=>rcases h with ⟨_,h|h⟩|⟨_,h⟩<;>exact ai h (by decide)
 |@take a ha=>
  rcases h with ⟨rfl,_⟩|⟨_,h⟩
  ·exact⟨a,.it1 a,ha⟩
  ·exact ai h (by decide)
 |@put a b ha hb=>
  rcases h with ⟨rfl,_⟩|⟨rfl,_⟩
  ·exact⟨a,.it2 a b,ha⟩
  ·exact⟨b,.oth a b,hb⟩
def itL(n:Nat)(f:Str):List Str:=if f="one" \/ f="two" then dw n "it" else []
def otL(f:Str):List Str:=if f="two" then ["other", "other"]else []
theorem CN(cm:Cm sm c f){n:Nat}(h:t∈itL n f\/t∈otL f):∃z,Tm c t z/\z∈sm:=by
 refine N1 cm ?_;rcases h with h|h
 ·unfold itL at h;split at h
  ·rename_i e;exact .inl ⟨(List.mem_replicate.mp h).2,e⟩
  ·cases h
 ·unfold otL at h;split at h
  ·rename_i e;refine .inr ⟨?_,e⟩;rcases aD.mp h with h|h
   ·exact h
   ·exact aO.mp h
  ·cases h
theorem Lj(g:Good T M dk)(cm:Cm (nmK T Kd.pl) c f)(hi:IL es):∃p w es',IL es'/\Tp T c p w/\rG es [oT T M dk y,.str f]=some (.str p,es'):=by
 let sp:=oT T M dk y;let hs:=nmK T Kd.hd;let L:L4.D:=.lst (hs.map D.str);have hl:=g.len;have h0:hs≠[]:=λe=>by have:=g.r1;obtain⟨t,ht⟩:=List.exists_mem_of_length_pos (by omega:0<(T.filter λt=>decide (t.k=.room)).length);rw[bE]at ht;have hm:t.n∈hs:=aM.mpr ⟨t,bE.mpr ⟨ht.1,by rw[bh ht.2];rfl⟩,rfl⟩;rw[e]at hm;cases hm
 let ρ:List L4.D->Sl->List Sl:=λes s=>[.im sp,.im (.str f),.pm es,.im L,s];obtain⟨a,es1,ha,i1,e1⟩:=pk (ρ:=ρ es .un) (i:=3) (j:=2) h0 hi rfl rfl;obtain⟨b,es2,hb,i2,e2⟩:=pk (ρ:=ρ es1 .un) (i:=3) (j:=2) h0 i1 rfl rfl;let P1:List Str:=[a,b,"here"]++itL 1 f;let P2:List Str:=P1++otL f;have hP:∀t∈P2,∃w,Tp T c t w:=λt ht=>by
  have sub:∀{p:Kd->Bool} {x:Str},x∈nmK T p->x∈T.map Th.n:=λh=>(pP T _).subset h;rcases bX.mp ht with ht|ht
  ·rcases bX.mp ht with ht|ht
   ·rcases aD.mp ht with rfl|ht
    ·exact⟨_,.tm (.nm c (nmN g ha)) (sub ha)⟩
    ·rcases aD.mp ht with rfl|ht
     ·exact⟨_,.tm (.nm c (nmN g hb)) (sub hb)⟩
     ·rw[aO.mp ht];exact⟨none,.here⟩
   ·obtain⟨z,h1,h2⟩:=CN cm (.inl ht);exact⟨_,.tm h1 (sub h2)⟩
  ·obtain⟨z,h1,h2⟩:=CN (n:=1) cm (.inr ht);exact⟨_,.tm h1 (sub h2)⟩
 have lP:P2.length<=10:=by show (([a,b,"here"]++itL 1 f)++otL f).length<=10;unfold itL otL;split<;>split<;>simp
 have s1:(sIf (cT (c2 (dIn false) (cV 1) (cL (mK (mi (cC (.str "one")) (mi (cC (.str "two")) mw)))))) (m5 (tY 4 (cC (.str "it")))) m3:FS) (ρ es2 (.ls ([a,b,"here"].map D.str)))=some (.nx (ρ es2 (.ls (P1.map D.str)))):=by
  have et:cT (c2 (dIn false) (cV 1) (cL (mK (mi (cC (.str "one")) (mi (cC (.str "two")) mw))))) (ρ es2 (.ls ([a,b,"here"].map D.str)))=some (decide (f="one" \/ f="two"),ρ es2 (.ls ([a,b,"here"].map D.str))):=nJ (mD (x:=.str f) (y:=.lst [.str "one", .str "two"]) rfl rfl (Sw cm));by_cases h:f="one" \/ f="two"
  ·rw[aH h]at et;show _=some (Out.nx (ρ es2 (.ls (([a,b,"here"]++itL 1 f).map D.str))));unfold itL;rw[ag h];exact(nH et).trans rfl
  ·rw[aA h]at et;show _=some (Out.nx (ρ es2 (.ls (([a,b,"here"]++itL 1 f).map D.str))));unfold itL;rw[af h];exact(m7 et).trans rfl
 have s2:(sIf (cT (c2 (dEq false) (cV 1) (cC (.str "two")))) (pz 4 (pb (cFz 4) (cL (mK (mi (cC (.str "other")) (mi (cC (.str "other")) mw)))))) m3:FS) (ρ es2 (.ls (P1.map D.str)))=some (.nx (ρ es2 (.ls (P2.map D.str)))):=by
  have et:cT (c2 (dEq false) (cV 1) (cC (.str "two"))) (ρ es2 (.ls (P1.map D.str)))=some (decide (f="two"),ρ es2 (.ls (P1.map D.str))):=nJ (mD (x:=.str f) (y:=.str "two") rfl rfl (is2 cm));by_cases h:f="two"
  ·rw[aH h]at et;have e:P2=P1++(["other", "other"]:List Str):=by show P1++otL f=_;unfold otL;rw[ag h]
   rw[e]at lP ⊢;rw[aB]at lP;refine(nH et).trans ((vA (qD (xs:=P1.map D.str) (ys:=[.str "other", .str "other"]) (ρ1:=ρ es2 (.im (.lst (P1.map D.str)))) rfl rfl (by rw[ah];simp at lP ⊢;omega))).trans ?_);rw[aS (l₁:=P1)];rfl
  ·rw[aA h]at et;have e:P2=P1:=by show P1++otL f=_;unfold otL;rw[af h,aU]
   rw[e];exact(m7 et).trans rfl
 have hne:P2≠[]:=λe=>by have:=aN bG e;simp[P2,P1]at this
 obtain⟨p,es3,hp,i3,e3⟩:=K8 (ρ:=ρ es2 (.ls (P2.map D.str))) (i:=2) (j:=4) (Hs:=P2) i2 hne rfl rfl rfl (λes'=>rfl);obtain⟨w,tm⟩:=hP p hp;refine⟨p,w,es3,i3,tm,?_⟩;have run:rF (stL 5 es [sp,.str f])=some (.rt (.str p) (ρ es3 (.ls (P2.map D.str)))):=by unfold rF;refine(ml (ρ':=ρ es .un) ((mO (nN (mC (ds:=[sp,.lst [.str "room", .str "box", .str "you"]]) (mj rfl (mj rfl rfl)) (of_ok (by omega) Kd.hd Ov)))).trans rfl)).trans ?_;refine(ml (ρ':=ρ es2 (.ls ([a,b,"here"].map D.str))) ((vA (uU (mj e1 (mj e2 (mj rfl rfl))) (bq rfl))).trans rfl)).trans ?_;refine(ml s1).trans ((ml s2).trans ?_);exact(mZ e3).trans rfl
 unfold rG fnL;rw[ag (show [sp,D.str f].length=2 from rfl),run];rfl
theorem vK{g:List L4.D->List L4.D->Option (L4.D×List L4.D)}{a:FA}(h1:a ρ=some (ds,ρ1))(h2:oO ρ1 i=some es)(h3:g es ds=some (d,es')):pQ g i a ρ=some (d,putAt ρ1 i es'):=by unfold pQ;rw[h1];simp only[h2,h3]
structure Mv(T:List Th)(y:Str)(c:L4.D)(t p z:Str)(w:Option Str):Prop where
 t:Tm c t z
 p:Tp T c p w
 z:z∈nmK T Kd.pl\/z=y
theorem EB(g:Good T M dk)(hy:(T.filter λt=>decide (t.k=.you)).map Th.n=[y])(cm:Cm (nmK T Kd.pl) c f)(hi:IL es):∃t p z w es',IL es'/\Mv T y c t p z w/\oW es [oT T M dk y,.str f]=some (.tup [.str "move", .str t,.str p],es'):=by
 let sp:=oT T M dk y;let sm:=nmK T Kd.pl;have hl:=g.len;have lsm:sm.length<=200:=by have:=(pP T Kd.pl).length_le;rw[ah]at this;show (nmK T Kd.pl).length<=200;omega
 let ρ:List L4.D->L4.D->Sl->List Sl:=λes l s=>[.im sp,.im (.str f),.pm es,.im l,s];let P1:List Str:=sm++itL 3 f;let P2:List Str:=P1++otL f;have li:(itL 3 f).length<=3:=by unfold itL;split<;>simp
 have s1:(sIf (cT (c2 (dIn false) (cV 1) (cL (mK (mi (cC (.str "one")) (mi (cC (.str "two")) mw)))))) (mT 3 (cL (pb (cV 3) (cL (mK (mi (cC (.str "it")) (mi (cC (.str "it")) (mi (cC (.str "it")) mw)))))))) m3:FS) (ρ es (.lst (sm.map D.str)) .un)=some (.nx (ρ es (.lst (P1.map D.str)) .un)):=by
  have et:cT (c2 (dIn false) (cV 1) (cL (mK (mi (cC (.str "one")) (mi (cC (.str "two")) mw))))) (ρ es (.lst (sm.map D.str)) .un)=some (decide (f="one" \/ f="two"),ρ es (.lst (sm.map D.str)) .un):=nJ (mD (x:=.str f) (y:=.lst [.str "one", .str "two"]) rfl rfl (Sw cm));by_cases h:f="one" \/ f="two"
  ·rw[aH h]at et;have e:P1=sm++(["it", "it", "it"]:List Str):=by show sm++itL 3 f=_;unfold itL;rw[ag h];rfl
   rw[e,aS];exact(nH et).trans ((mO (nN (qD (xs:=sm.map D.str) (ys:=[.str "it", .str "it", .str "it"]) (ρ1:=ρ es (.lst (sm.map D.str)) .un) rfl rfl (by rw[ah];simp;omega)))).trans rfl)
  ·rw[aA h]at et;have e:P1=sm:=by show sm++itL 3 f=_;unfold itL;rw[af h,aU]
   rw[e];exact(m7 et).trans rfl
 have s2:(sIf (cT (c2 (dEq false) (cV 1) (cC (.str "two")))) (mT 3 (cL (pb (cV 3) (cL (mK (mi (cC (.str "other")) (mi (cC (.str "other")) mw))))))) m3:FS) (ρ es (.lst (P1.map D.str)) .un)=some (.nx (ρ es (.lst (P2.map D.str)) .un)):=by
  have et:cT (c2 (dEq false) (cV 1) (cC (.str "two"))) (ρ es (.lst (P1.map D.str)) .un)=some (decide (f="two"),ρ es (.lst (P1.map D.str)) .un):=nJ (mD (x:=.str f) (y:=.str "two") rfl rfl (is2 cm));by_cases h:f="two"
  ·rw[aH h]at et;have e:P2=P1++(["other", "other"]:List Str):=by show P1++otL f=_;unfold otL;rw[ag h]
   rw[e,aS (l₁:=P1)];have l1:P1.length<=203:=by show (sm++itL 3 f).length<=203;rw[aB];omega
   exact(nH et).trans ((mO (nN (qD (xs:=P1.map D.str) (ys:=[.str "other", .str "other"]) (ρ1:=ρ es (.lst (P1.map D.str)) .un) rfl rfl (by rw[ah];simp;omega)))).trans rfl)
  ·rw[aA h]at et;have e:P2=P1:=by show P1++otL f=_;unfold otL;rw[af h,aU]
   rw[e];exact(m7 et).trans rfl
 have hP:∀t∈P2,∃z,Tm c t z/\z∈sm:=λt ht=>by
  rcases bX.mp ht with ht|ht
  ·rcases bX.mp ht with ht|ht
   ·exact⟨t,.nm c (nmN g ht),ht⟩
   ·exact CN cm (.inl ht)
  ·exact CN (n:=3) cm (.inr ht)
 have ny:y∈nmK T λk=>decide (k=.you):=by show y∈(T.filter _).map Th.n;rw[hy];exact aO.mpr rfl
 have you:∀es1,IL es1->∃p es' s,IL es'/\Mv T y c y p y (some p)/\(mx (mT 4 (cL (m6 nI (mi (cV 0) (mi (cL (mK (mi (cC (.str "room")) mw))) mw)))))
   (mX (nz (mi (cC (.str "move")) (mi (c2 oG (cV 0) (cC (.str "you"))) (mi (c2 dIx (cV 4) (nD mm 2 (mi (c1 oB (cV 4)) mw))) mw))))):FS) (ρ es1 (.lst (P2.map D.str)) .un)=some (.rt (.tup [.str "move", .str y,.str p]) (ρ es' (.lst (P2.map D.str)) s)):=λes1 i1=>by
  let rm:=nmK T λk=>decide (k=.room);have h0:rm≠[]:=λe=>by have h1:rm.length=(T.filter λt=>decide (t.k=.room)).length:=ah ..;rw[e]at h1;have h2:=g.r1;rw[<-h1]at h2;exact ai h2 (by decide)
  obtain⟨p,es2,hp,i2,e2⟩:=pk (ρ:=ρ es1 (.lst (P2.map D.str)) (.im (.lst (rm.map D.str)))) (i:=4) (j:=2) h0 i1 rfl rfl;refine⟨p,es2,.im (.lst (rm.map D.str)),i2,⟨.nm c (nmN g ny),.tm (.nm c (nmN g hp)) ((pP T _).subset hp),.inr rfl⟩,?_⟩;refine(ml (ρ':=ρ es1 (.lst (P2.map D.str)) (.im (.lst (rm.map D.str)))) ((mO (nN (mC (ds:=[sp,.lst [.str "room"]]) (mj rfl (mj rfl rfl)) (of_ok (by omega) (λk=>decide (k=.room)) NW)))).trans rfl)).trans ?_;exact mZ (pX (mj rfl (mj rfl (mj e2 rfl))) (bq rfl))
 have run:∃t p z w es' s,IL es'/\Mv T y c t p z w/\rH (stL 5 es [sp,.str f])=some (.rt (.tup [.str "move", .str t,.str p]) (ρ es' (.lst (P2.map D.str)) s)):=by
  unfold rH;rw[ml ((mO (nN (mC (ds:=[sp,.lst [.str "plain", .str "fixed", .str "box", .str "lamp", .str "box"]]) (ρ1:=[.im sp,.im (.str f),.pm es,.un,.un]) (mj rfl (mj rfl rfl)) (of_ok (by omega) Kd.pl Sv)))).trans (show _=some (Out.nx (ρ es (.lst (sm.map D.str)) .un)) from rfl)),ml s1,ml s2];by_cases h0:P2=[]
  ·obtain⟨p,es',s,i',mv,e⟩:=you es hi;exact⟨y,p,y,some p,es',s,i',mv,nR ((nH (vq (nJ (mD (x:=.lst (P2.map D.str)) (y:=.lst []) rfl rfl (by rw[h0];rfl))))).trans e)⟩
  ·have e1:cT (c2 (dEq false) (cV 3) (cL (mK mw))) (ρ es (.lst (P2.map D.str)) .un)=some (false,ρ es (.lst (P2.map D.str)) .un):=nJ (mD (x:=.lst (P2.map D.str)) (y:=.lst []) rfl rfl (by
    obtain⟨a,r,e⟩:=eV h0;rw[e];exact vp a r))
   obtain⟨r,es1,i1,_,_,h1⟩:=tk (ρ:=ρ es (.lst (P2.map D.str)) .un) (j:=2) (e:=cC (.int 6)) (n:=6) (by decide) hi rfl rfl;have e2:=uT e1 (nJ (mD (e':=cC (.int 0)) h1 rfl (vE false r 0)));by_cases hr0:r=0
   ·obtain⟨p,es',s,i',mv,e⟩:=you es1 i1;rw[aH hr0]at e2;exact⟨y,p,y,some p,es',s,i',mv,nR ((nH e2).trans e)⟩
   ·rw[aA hr0]at e2;obtain⟨t,es2,ht,i2,e3⟩:=pk (ρ:=ρ es1 (.lst (P2.map D.str)) .un) (i:=3) (j:=2) h0 i1 rfl rfl;obtain⟨p,w,es3,i3,tp,e4⟩:=Lj (y:=y) g cm i2;obtain⟨z,tz,hz⟩:=hP t ht;refine⟨t,p,z,w,es3,.un,i3,⟨tz,tp,.inl hz⟩,(ml ((m7 e2).trans rfl)).trans ?_⟩;exact mZ (pX (mj rfl (mj e3 (mj (vK (ρ1:=ρ es2 (.lst (P2.map D.str)) .un) (ds:=[sp,.str f]) rfl rfl e4) rfl))) (bq rfl))
 obtain⟨t,p,z,w,es',s,i',mv,run⟩:=run;refine⟨t,p,z,w,es',i',mv,?_⟩;unfold oW fnL;rw[ag (show [sp,D.str f].length=2 from rfl),run];rfl
end
variable{it:L4.D}
section
variable{y:Str}{T:List Th}{M:List Mk}{dk:List Str}
inductive Td(T:List Th) (y:Str) (c:L4.D):L4.D->Prop
 |mv {t p z:Str} {w:Option Str}:Mv T y c t p z w->Td T y c (.tup [.str "move", .str t,.str p])
 |pt {t z:Str} (v:Int):Tm c t z->Td T y c (.tup [.str "put", .str t,.int v])
theorem Lk{f:FE}{gg:FG}(h1:f ρ=some (d,ρ1))(h2:gg d ρ1=some ρ2):Dt f gg ρ=some (.nx ρ2):=by unfold Dt;rw[h1];simp only[h2]
theorem UA(cm:Cm sm c f):dIn true (.str f) (.lst [.str "one", .str "two"])=some (.bl (!decide (f="one" \/ f="two"))):=by cases cm<;>kernel_rfl
theorem Sx(g:Good T M dk)(hy:(T.filter λt=>decide (t.k=.you)).map Th.n=[y])(cm:Cm (nmK T Kd.pl) c f)(hi:IL es):∃d es',IL es'/\Td T y c d/\qM es [oT T M dk y,.str f]=some (d,es'):=by
 let sp:=oT T M dk y;let ρ:List L4.D->Sl->Sl->List Sl:=λes a b=>[.im sp,.im (.str f),.pm es,a,b];obtain⟨V,em,v1,v2,rfl⟩:=AB (y:=y) g;have e1:cT (c2 (dIn true) (cV 1) (cL (mK (mi (cC (.str "one")) (mi (cC (.str "two")) mw))))) (ρ es .un .un)=some (!decide (f="one" \/ f="two"),ρ es .un .un):=nJ (mD (x:=.str f) (y:=.lst [.str "one", .str "two"]) rfl rfl (UA cm));have mk:(f="one" \/ f="two" \/ moL T M≠[])->qW (cT (c2 (dIn true) (cV 1) (cL (mK (mi (cC (.str "one")) (mi (cC (.str "two")) mw)))))) (cT (c2 KJ (mr nU (mi (cV 0) mw)) (qk []))) (ρ es .un .un)=some (false,ρ es .un .un)->∃d es' a b,IL es'/\Td T y c d/\qL (stL 5 es [sp,.str f])=some (.rt d (ρ es' a b)):=λhf et=>by obtain⟨t,z,v,es',i',tm,e⟩:=Il (y:=y) g cm hi hf;refine⟨_,es',.im (.str t),.im (.int v),i',.pt v tm,?_⟩;unfold qL;refine(ml (ρ':=ρ es .un .un) ((m7 et).trans rfl)).trans ?_;exact(ml (ρ':=ρ es' (.im (.str t)) (.im (.int v))) (Lk (vK (ρ1:=ρ es .un .un) (ds:=[sp,.str f]) rfl rfl e) rfl)).trans rfl
 have run:∃d es' a b,IL es'/\Td T y c d/\qL (stL 5 es [sp,.str f])=some (.rt d (ρ es' a b)):=by
  by_cases h12:f="one" \/ f="two"
  ·rw[aH h12]at e1;exact mk (h12.elim .inl λh=>.inr (.inl h)) (yd e1)
  ·rw[aA h12]at e1;have e2:cT (c2 KJ (mr nU (mi (cV 0) mw)) (qk [])) (ρ es .un .un)=some (((moL T M).map λq=>kS q.1).isEmpty,ρ es .un .un):=nJ (mD (x:=dcI (moL T M)) (y:=.dic [] []) (mC (ds:=[sp]) rfl em) rfl rfl);by_cases h0:moL T M=[]
   ·have et:=(tR e1).trans e2;rw[h0]at et;obtain⟨t,p,z,w,es',i',mv,e⟩:=EB g hy cm hi;refine⟨_,es',.un,.un,i',.mv mv,?_⟩;unfold qL;exact nR ((nH et).trans (mZ (vK (ρ1:=ρ es .un .un) (ds:=[sp,.str f]) rfl rfl e)))
   ·have et:=(tR e1).trans e2;obtain⟨q,r,eq⟩:=eV h0;rw[eq]at et;exact mk (.inr (.inr h0)) et
 obtain⟨d,es',a,b,i',td,run⟩:=run;refine⟨d,es',i',td,?_⟩;unfold qM fnL;rw[ag (show [sp,D.str f].length=2 from rfl),run];rfl
theorem AD(tm:Tm c t z):(c=.tup [.str "take", .str z,.non]/\t="it")\/(∃b,c=.tup [.str "put", .str z,.str b]/\t="it")\/(∃a,c=.tup [.str "put", .str a,.str z]/\t="other")\/(Nm t/\z=t):=by
 cases tm with
 |it1 a=>exact .inl ⟨rfl,rfl⟩
 |it2 a b=>exact .inr (.inl ⟨b,rfl,rfl⟩)
 |oth a b=>exact .inr (.inr (.inl ⟨a,rfl,rfl⟩))
 |nm c hx=>exact .inr (.inr (.inr ⟨hx,rfl⟩))
theorem CO(tm:Tm c t z):t≠"here" := by
 rcases AD tm with ⟨_,rfl⟩|⟨_,_,rfl⟩|⟨_,_,rfl⟩|⟨h,_⟩
 ·decide
 ·decide
 ·decide
 ·exact λe=>Lh h (by rw[e];simp)
structure Gv(c it ot:L4.D):Prop where
 g:∀t z,Tm c t z->pV [.str t,it,ot]=some (.str z)
 l:∀t z,Tm c t z->(oF [kS "it", kS "other"] [it,ot] (kS t)).getD (.str t)=.str z
theorem yY{ot:L4.D}(hx:Nm x):pV [.str x,it,ot]=some (.str x)/\(oF [kS "it", kS "other"] [it,ot] (kS x)).getD (.str x)=.str x:=by
 have n:=Lh hx;have n1:dEq false (.str x) (.str "here")=some (.bl false):=by rw[rA,aA λe=>n (by rw[e];simp)];rfl
 have n2:dEq false (.str x) (.str "it")=some (.bl false):=by rw[rA,aA λe=>n (by rw[e];simp)];rfl
 have n3:dEq false (.str x) (.str "other")=some (.bl false):=by rw[rA,aA λe=>n (by rw[e];simp)];rfl
 let ρ:List Sl:=[.im (.str x),.im it,.im ot];refine⟨m8 (ρ:=ρ) rfl ?_,?_⟩
 ·unfold CC;refine(ml (ρ':=ρ) ((m7 (ρ':=ρ) (nJ (mD rfl rfl n2))).trans rfl)).trans ?_;refine(ml (ρ':=ρ) ((m7 (ρ':=ρ) (nJ (mD rfl rfl n3))).trans rfl)).trans ?_;exact mZ ((tQ (ρ1:=ρ) (nJ (mD rfl rfl n1))).trans rfl)
 ·rw[xQ λw=>?_]
  ·rfl
  ·rcases aD.mp w with w|w
   ·exact n (by rw[Fv w];simp)
   ·exact n (by rw[Fv (aO.mp w)];simp)
theorem EC(a b:L4.D):pV [.str "it", a,b]=some a:=by kernel_rfl
theorem Ll(a b:L4.D):pV [.str "other", a,b]=some b:=by kernel_rfl
theorem v3{a b e f:L4.D}(h:D.tup [a,b,c]=.tup [d,e,f]):a=d/\b=e/\c=f:=by cases h;exact⟨rfl,rfl,rfl⟩
theorem CP(h:¬a=b):D.str a≠.str b:=λe=>h (D.str.inj e)
theorem Im(cm:Cm sm c f):∃it ot,rJ [c]=some (.tup [it,ot])/\Gv c it ot:=by
 cases cm with
 |go z=>
  refine⟨.non,.non,by kernel_rfl,λt x tm=>?_,λt x tm=>?_⟩<;>(rcases AD tm with ⟨h,_⟩|⟨_,h,_⟩|⟨_,h,_⟩|⟨h,rfl⟩)
  all_goals first
   |exact ai (v3 h).1 (CP (by decide))
   |exact(yY h).1
   |exact(yY h).2
 |wait=>
  refine⟨.non,.non,by kernel_rfl,λt x tm=>?_,λt x tm=>?_⟩<;>(rcases AD tm with ⟨h,_⟩|⟨_,h,_⟩|⟨_,h,_⟩|⟨h,rfl⟩)
  all_goals first
   |exact ai (v3 h).1 (CP (by decide))
   |exact(yY h).1
   |exact(yY h).2
 |@take a ha=>
  refine⟨.str a,.non,by kernel_rfl,λt x tm=>?_,λt x tm=>?_⟩<;>(rcases AD tm with ⟨h,rfl⟩|⟨_,h,_⟩|⟨_,h,_⟩|⟨h,rfl⟩)
  all_goals first
   |exact ai (v3 h).1 (CP (by decide))
   |exact(yY h).1
   |exact(yY h).2
   |(rw[(v3 h).2.1];exact EC _ _)
   |(rw[(v3 h).2.1];rfl)
 |@put a b ha hb=>
  refine⟨.str a,.str b,by kernel_rfl,λt x tm=>?_,λt x tm=>?_⟩<;>(rcases AD tm with ⟨h,rfl⟩|⟨_,h,rfl⟩|⟨_,h,rfl⟩|⟨h,rfl⟩)
  all_goals first
   |exact ai (v3 h).1 (CP (by decide))
   |exact(yY h).1
   |exact(yY h).2
   |(rw[(v3 h).2.1];exact EC _ _)
   |(rw[(v3 h).2.2];exact Ll _ _)
   |(rw[(v3 h).2.1];rfl)
   |(rw[(v3 h).2.2];rfl)
end
variable{ks:List (List Str)}
section
variable{y:Str}{T:List Th}{M:List Mk}{dk:List Str}
def Two(ks:List (List Str)):Prop:=∀k∈ks,∃p q,k=[p,q]
theorem wy:∀{ks:List (List Str)},Two ks->qA (ks.map pairD)=some ks
 |[],_=>rfl
 |k::ks,h=>by obtain⟨p,q,rfl⟩:=h k aQ;rw[au];unfold qA;rw[wy λk hk=>h k (aX _ hk)];rfl
theorem N2(h2:Two ks)(nd:ks.Nodup)(h8:ks.length<=8):Fo [.lst (ks.map pairD)]=some (.tup ((w9 ks).map pairD)):=by
 let ρ:List Sl:=[.im (.lst (ks.map pairD))];refine m8 (ρ:=ρ) rfl (mZ ?_);have e:rS (cV 0) ρ=some ((w9 ks).map pairD,ρ):=by unfold rS;rw[show cV 0 ρ=some (.lst (ks.map pairD),ρ) from rfl];simp only[wy h2];rw[ag ⟨nd,by rw[ah];exact h8⟩]
 show uC (cL (rS (cV 0))) ρ=_;unfold uC;rw[nN e]
theorem Lm(h2:Two ks)(h8:ks.length<=8)(h:e ρ=some (.lst (ks.map pairD),ρ1)):uC (cL (qm e)) ρ=some (.tup ((w9 ks).map pairD),ρ1):=by
 have e:qm e ρ=some ((w9 ks).map pairD,ρ1):=by
  cases ks with
  |nil=>unfold qm;rw[h];rfl
  |cons k ks=>
   have sd:zZ ((k::ks).map pairD)=some ((w9 (k::ks)).map pairD):=by unfold zZ;rw[wy h2];simp only;rw[ag ⟨by rw[ah];exact fM _,by rw[ah];omega⟩];unfold w9;rw[af (by simp),aJ,ah];congr 1;refine List.map_congr_left λi hi=>?_;have hi:=wZ _ (fM ks.length) i hi;show ((k::ks).map pairD).getD i .non=pairD ((k::ks).getD i []);rw[bc,bc,aK,az (by rw[aC];exact hi)];rfl
   unfold qm;rw[h];rw[au]at sd ⊢;simp only[sd]
 unfold uC;rw[nN e]
def atK(b:Str):List Str:=["at", b]
abbrev bxs(T:List Th):List Str:=nmK T λk=>decide (k=.box)
def qw(T:List Th)(z:Str):List (List Str):=if z∈bxs T then (bxs T).map atK else []
def rdK(T:List Th)(y z p:Str):List (List Str):=qw T z++(if p="here" then [atK y]else [])
theorem Ln(g:Good T M dk)(hy:(T.filter λt=>decide (t.k=.you)).map Th.n=[y])(z p:Str):Two (rdK T y z p)/\(rdK T y z p).Nodup/\(rdK T y z p).length<=8/\(qw T z).length<=7/\Two (qw T z):=by
 have l7:(bxs T).length<=7:=by
  have h2:=Ld (T:=T) (p:=λk=>decide (k=.box)) (q:=Kd.pl) λk h=>by rw[bh h];rfl
  have:=g.p7;show (nmK T _).length<=7;omega
 have b7:(qw T z).length<=7:=by unfold qw;split;rw[ah];exact l7;exact aY _
 have bt:Two (qw T z):=λk hk=>by
  unfold qw at hk;split at hk
  ·obtain⟨b,_,rfl⟩:=aM.mp hk;exact⟨_,_,rfl⟩
  ·cases hk
 have ny:y∈nmK T λk=>decide (k=.you):=by show y∈(T.filter _).map Th.n;rw[hy];exact aO.mpr rfl
 refine⟨λk hk=>?_,?_,?_,b7,bt⟩
 ·rcases bX.mp hk with hk|hk
  ·exact bt k hk
  ·split at hk
   ·rw[aO.mp hk];exact⟨_,_,rfl⟩
   ·cases hk
 ·unfold rdK;rw[bC];refine⟨?_,by split<;>simp,λa ha b hb e=>?_⟩
  ·unfold qw;split
   ·exact Su (λa b h=>by injection h with _ h;injection h) (g.ndT.sublist (pP T _))
   ·exact fE
  ·split at hb
   ·rw[aO.mp hb]at e;unfold qw at ha;split at ha
    ·obtain⟨x,hx,rfl⟩:=aM.mp ha;injection e with _ e;injection e with e _;subst e;exact Lc g.ndT (λk h1 h2=>by rw[bh h1]at h2;cases h2) hx ny
    ·cases ha
   ·cases hb
 ·unfold rdK;rw[aB];split
  ·rw[aZ];omega
  ·rw[eA];omega
abbrev rdD(T:List Th)(y z p:Str):L4.D:=.tup ((w9 (rdK T y z p)).map pairD)
theorem CQ(hl:T.length<=1000)(k:Kd):nX [wM T M dk y,.str k.s]=some (.lst ((nmK T λj=>decide (j=k)).map D.str)):=by have:=Ax T hl (wNs.tail) ((wDs T M dk y (dcI (moL T M))).tail) k;refine this.trans ?_;unfold nmK;rw[aJ];rfl
theorem Sy(g:Good T M dk):sJ [wM T M dk y]=some (.lst (((bxs T).map atK).map pairD)):=by
 have hl:=g.len;let ρ:List Sl:=[.im (wM T M dk y)];have ll:(bxs T).length<=1000:=by have:=(pP T λk=>decide (k=.box)).length_le;rw[ah]at this;show (nmK T _).length<=1000;omega
 refine Kj (ρ:=ρ) rfl (t8 ?_);have c:=vo (k:=1) (cap:=[]) (g:=gN 0) (fe:=nz (mi (cC (.str "at")) (mi (cV 0) mw))) (s:=iL (ni nG "of_kind" (cV 0) (mi (cC (.str "box")) mw))) (ρ:=ρ) (ρ1:=ρ) D.str (λb=>pairD (atK b)) (bxs T) (BL (n4 (xs:=wDs T M dk y (dcI (moL T M))) (ys:=[.str Kd.box.s]) (hh:=nX) rfl rfl rfl rfl (CQ (by omega) .box))) ll λb _=>⟨[.im (.str b)],[.im (.str b)],rfl,rfl,rfl⟩;rw[aJ];exact c
def mvD(t p:Str):L4.D:=.obj 11 ["term", "place"] [.str t,.str p]
def putD(t:Str)(v:Int):L4.D:=.obj 12 ["term", "value"] [.str t,.int v]
theorem Lo(g:Good T M dk)(hy:(T.filter λt=>decide (t.k=.you)).map Th.n=[y]){ot:L4.D}(gv:Gv c it ot){p:Str}(tm:Tm c t z):um [mvD t p,wM T M dk y,it,ot]=some (rdD T y z p):=by
 have hl:=g.len;obtain⟨k1,k2,k3,k4,k5⟩:=Ln g hy z p;let W:=wM T M dk y;let ρ:L4.D->List Sl:=λd=>[.im (mvD t p),.im W,.im it,.im ot,.im d];have e1:(sIf (cT (c2 (dIn false) (mr pV (mi (c1 (mP tG "term") (cV 0)) (mi (cV 2) (mi (cV 3) mw)))) (ni nG "of_kind" (cV 1) (mi (cC (.str "box")) mw)))) (mT 4 (mr sJ (mi (cV 1) mw))) m3:FS) (ρ (.lst []))=some (.nx (ρ (.lst ((qw T z).map pairD)))):=by
  have et:cT (c2 (dIn false) (mr pV (mi (c1 (mP tG "term") (cV 0)) (mi (cV 2) (mi (cV 3) mw)))) (ni nG "of_kind" (cV 1) (mi (cC (.str "box")) mw))) (ρ (.lst []))=some (decide (z∈bxs T),ρ (.lst [])):=nJ (mD (mC (ds:=[.str t,it,ot]) rfl (gv.g t z tm)) (n4 (xs:=wDs T M dk y (dcI (moL T M))) (ys:=[.str Kd.box.s]) (hh:=nX) rfl rfl rfl rfl (CQ (by omega) .box)) (rR false z (bxs T)));unfold qw;by_cases h:z∈bxs T
  ·rw[aH h]at et;rw[ag h];exact(nH et).trans ((mO (mC (ds:=[W]) rfl (Sy g))).trans rfl)
  ·rw[aA h]at et;rw[af h];exact(m7 et).trans rfl
 have e2:(sIf (cT (c2 (dEq false) (c1 (mP pK "place") (cV 0)) (cC (.str "here")))) (mT 4 (cL (pb (cV 4) (mr qJ (mi (cV 1) (mi (ni vH "you" (cV 1) mw) mw)))))) m3:FS) (ρ (.lst ((qw T z).map pairD)))=some (.nx (ρ (.lst ((rdK T y z p).map pairD)))):=by
  have et:cT (c2 (dEq false) (c1 (mP pK "place") (cV 0)) (cC (.str "here"))) (ρ (.lst ((qw T z).map pairD)))=some (decide (p="here"),ρ (.lst ((qw T z).map pairD))):=nJ (mD (x:=.str p) (y:=.str "here") (by kernel_rfl) rfl (rA false p "here"));unfold rdK;by_cases h:p="here"
  ·rw[aH h]at et;rw[ag h,aS];have ny:y∈nmK T λk=>decide (k=.you):=by show y∈(T.filter _).map Th.n;rw[hy];exact aO.mpr rfl
   obtain⟨u,u1,u2,u3⟩:=vJ ny;have ap:=AC (M:=M) (dk:=dk) (y:=y) (mo:=dcI (moL T M)) g.ndT u1 λe=>by rw[e]at u3;cases u3
   rw[u2]at ap;exact(nH et).trans ((mO (nN (qD (xs:=(qw T z).map pairD) (ys:=[kD ("at", y)]) (ρ1:=ρ (.lst ((qw T z).map pairD))) rfl (mC (ρ1:=ρ (.lst ((qw T z).map pairD))) (ds:=[W,.str y]) (by kernel_rfl) ap) (by rw[ah,aZ];omega)))).trans rfl)
  ·rw[aA h]at et;rw[af h,aU];exact(m7 et).trans rfl
 refine m8 (ρ:=ρ (.lst ((rdK T y z p).map pairD))) rfl ?_;unfold uj;refine(ml (ρ':=ρ (.lst [])) rfl).trans ((ml e1).trans ((ml e2).trans ?_));exact mZ (mC (ds:=[.lst ((rdK T y z p).map pairD)]) rfl (N2 k1 k2 k3))
end
section
variable{y:Str}{T:List Th}{M:List Mk}{dk:List Str}
def goB(T:List Th)(z:Str):Option Str->Bool
 |none=>true
 |some w=>decide (w∈nmK T Kd.hd)&&!decide (w=z)
def chD(b:Bool)(k z:Str):L4.D:=if b then .tup [.str k,.str z]else .non
theorem N3(hy:(T.filter λt=>decide (t.k=.you)).map Th.n=[y])(h:z∈nmK T Kd.pl\/z=y):∃u∈T,u.n=z/\u.k≠.room:=by
 rcases h with h|h
 ·obtain⟨u,h1,h2,h3⟩:=vJ h;exact⟨u,h1,h2,λe=>by rw[e]at h3;cases h3⟩
 ·have ny:y∈nmK T λk=>decide (k=.you):=by show y∈(T.filter _).map Th.n;rw[hy];exact aO.mpr rfl
  obtain⟨u,h1,h2,h3⟩:=vJ ny;exact⟨u,h1,h2.trans h.symm,λe=>by rw[e]at h3;cases h3⟩
theorem Io(g:Good T M dk)(hy:(T.filter λt=>decide (t.k=.you)).map Th.n=[y]){ot:L4.D}(gv:Gv c it ot){p:Str}{w:Option Str}(mv:Mv T y c t p z w):qQ [mvD t p,wM T M dk y,it,ot]=some (chD (goB T z w) "at" z):=by
 have hl:=g.len;obtain⟨u,hu,uz,uk⟩:=N3 hy mv.z;let W:=wM T M dk y;let ρ0:List Sl:=[.im (mvD t p),.im W,.im it,.im ot,.im (.str z),.un];have fin:∀(w0:Str) (b:Bool),cIf (cT (c2 (dEq false) (c1 (mP pK "place") (cV 0)) (cC (.str "here")))) (c2 dIx (ni nG "of_kind" (cV 1) (mi (cC (.str "room")) mw)) (cC (.int 0))) (mr pV (mi (c1 (mP pK "place") (cV 0)) (mi (cV 2) (mi (cV 3) mw)))) ρ0=some (.str w0,ρ0)->vd [W,.str z,.str w0]=some (.bl b)->qQ [mvD t p,W,it,ot]=some (chD b "at" z):=λw0 b e1 e2=>by
  let ρ:List Sl:=[.im (mvD t p),.im W,.im it,.im ot,.im (.str z),.im (.str w0)];refine m8 (ρ:=ρ) rfl ?_;unfold sU;refine(ml (ρ':=ρ0) ((mO (mC (ds:=[.str t,it,ot]) rfl (gv.g t z mv.t))).trans rfl)).trans ?_;refine(ml (ρ':=ρ) ((mO e1).trans rfl)).trans (mZ ?_);have et:cT (mr vd (mi (cV 1) (mi (cV 4) (mi (cV 5) mw)))) ρ=some (b,ρ):=nJ (mC (ds:=[W,.str z,.str w0]) rfl e2);cases b with
  |true=>exact(xw et).trans rfl
  |false=>exact(tQ et).trans rfl
 have et:cT (c2 (dEq false) (c1 (mP pK "place") (cV 0)) (cC (.str "here"))) ρ0=some (decide (p="here"),ρ0):=nJ (mD (x:=.str p) (y:=.str "here") (by kernel_rfl) rfl (rA false p "here"));have hdn:∀{v:Th},v∈T->(v.n∈nmK T Kd.hd ↔ v.k.hd=true):=λ{v} hv=>by
  constructor
  ·intro h;obtain⟨x,h1,h2,h3⟩:=vJ h;have:=FD g.ndT h1 hv h2;subst this;exact h3
  ·exact λh=>aM.mpr ⟨v,bE.mpr ⟨hv,h⟩,rfl⟩
 cases mv.p with
 |here=>
  have hr:0<(T.filter λt=>decide (t.k=.room)).length:=by have:=g.r1;omega
  obtain⟨v,hv⟩:∃v,(T.filter λt=>decide (t.k=.room))[0]?=some v:=⟨_,az hr⟩;have mvv:=bE.mp (bz hv);have vk:v.k=.room:=bh mvv.2;have ix:dIx (.lst ((nmK T λj=>decide (j=.room)).map D.str)) (.int 0)=some (.str v.n):=qv (j:=0) (by unfold nmK;rw[aK,hv];rfl);have eg:=Ou (M:=M) (dk:=dk) (y:=y) (mo:=dcI (moL T M)) g.ndT hu uk mvv.1;have ne:¬v.n=u.n:=λe=>uk (by rw[<-FD g.ndT mvv.1 hu e];exact vk);rw[uz]at eg ne;rw[aA ne,vk]at eg;refine fin v.n true ?_ eg;exact(xw et).trans (mD (n4 (xs:=wDs T M dk y (dcI (moL T M))) (ys:=[.str Kd.room.s]) (hh:=nX) rfl rfl rfl rfl (CQ (by omega) .room)) rfl ix)
 |@tm _ w tm hw=>
  obtain⟨v,hv,vw⟩:=aM.mp hw;have eg:=Ou (M:=M) (dk:=dk) (y:=y) (mo:=dcI (moL T M)) g.ndT hu uk hv;rw[uz,vw]at eg;have eb:(v.k.hd&&!decide (w=z))=goB T z (some w):=by
   show _=(decide (w∈nmK T Kd.hd)&&!decide (w=z));rw[<-vw,show decide (v.n∈nmK T Kd.hd)=v.k.hd by cases h:v.k.hd with
    |true=>exact aH ((hdn hv).mpr h)
    |false=>exact aA λz=>by rw[hdn hv,h]at z;cases z]
  rw[eb]at eg;rw[aA (CO tm)]at et;exact fin w _ ((tQ et).trans (mC (ds:=[.str p,it,ot]) (by kernel_rfl) (gv.g p w tm))) eg
def shB(T:List Th)(M:List Mk)(z:Str)(v:Int):Bool:=(moL T M).any λq=>decide (q.1=z)&&decide (v<=q.2)
theorem Lp{v:Int}(h:z∉mks T M):shB T M z v=false:=by unfold shB;rw[gd];intro q hq;have:q.1≠z:=λe=>h (by show z∈nmK T Kd.mk++M.map Mk.n;rw[<-sL,<- e];exact aM.mpr ⟨q,hq,rfl⟩);simp[this]
theorem GO(g:Good T M dk){q:Str×Int}(hq:q∈moL T M)(v:Int):shB T M q.1 v=decide (v<=q.2):=by
 unfold shB;by_cases h:v<=q.2
 ·rw[aH h,dt];exact⟨q,hq,by simp[h]⟩
 ·rw[aA h,gd];intro r hr;by_cases e:r.1=q.1
  ·have nd:((moL T M).map aG).Nodup:=by rw[sL];exact ndM g
   have:r=q:=by obtain⟨i,hi,ei⟩:=fj hr;obtain⟨j,hj,ej⟩:=fj hq;have:i=j:=(gn (xs:=(moL T M).map aG) (h₀:=by simpa using hi) (h₁:=by simpa using hj) nd).mp (by rw[iK,iK,ei,ej];exact e);subst this;rw[<-ei,<- ej]
   subst this;simp[h]
  ·simp[e]
theorem SA(g:Good T M dk)(z:Str)(v:Int):qK [wM T M dk y,.str z,.int v]=some (.bl (shB T M z v)):=by
 by_cases h:z∈mks T M
 ·have h':z∈(moL T M).map aG:=by rw[sL];exact h
  obtain⟨q,hq,rfl⟩:=aM.mp h';rw[GO g hq];exact Lg (ndM g) v (x:=q.1) (m:=q.2) hq
 ·rw[Lp h];exact NY v h
theorem FK(g:Good T M dk){ot:L4.D}(gv:Gv c it ot)(tm:Tm c t z)(v:Int):uq [putD t v,wM T M dk y,it,ot]=some (chD (shB T M z v) "mark" z):=by
 let W:=wM T M dk y;let ρ:List Sl:=[.im (putD t v),.im W,.im it,.im ot,.im (.str z)];refine m8 (ρ:=ρ) rfl ?_;unfold uo;refine(ml (ρ':=ρ) ((mO (mC (ds:=[.str t,it,ot]) rfl (gv.g t z tm))).trans rfl)).trans (mZ ?_);have et:cT (mr qK (mi (cV 1) (mi (cV 4) (mi (c1 (mP xV "value") (cV 0)) mw)))) ρ=some (shB T M z v,ρ):=nJ (mC (ds:=[W,.str z,.int v]) (by kernel_rfl) (SA g z v));cases h:shB T M z v with
 |true=>rw[h]at et;exact(xw et).trans rfl
 |false=>rw[h]at et;exact(tQ et).trans rfl
end
section
variable{y:Str}{T:List Th}{M:List Mk}{dk:List Str}
theorem CS{ot:L4.D}(gv:Gv c it ot)(tm:Tm c t z)(h1:cV 1 ρ=some (it,ρ))(h2:cV 2 ρ=some (ot,ρ))(he:e ρ=some (.str t,ρ)):vS (qk [("it", (cV 1)),("other", (cV 2))]) e e ρ=some (.str z,ρ):=by have ed:qk [("it", (cV 1)),("other", (cV 2))] ρ=some (.dic [kS "it", kS "other"] [it,ot],ρ):=GK (AA h1 (AA h2 rfl));unfold vS;rw[ed];simp only[he];show some ((oF [kS "it", kS "other"] [it,ot] (kS t)).getD (.str t),ρ)=_;rw[gv.l t z tm]
theorem SC(g:Good T M dk){ot:L4.D}(gv:Gv c it ot)(tm:Tm c t z)(v:Int):qN [oT T M dk y,it,ot,.tup [.str "put", .str t,.int v]]=some (.tup [.tup [],chD (shB T M z v) "mark" z]):=by
 let sp:=oT T M dk y;let tl:L4.D:=.tup [.str "put", .str t,.int v];obtain⟨_,em,v1,_,rfl⟩:=AB (y:=y) g;let ρ:List Sl:=[.im sp,.im it,.im ot,.im tl,.im (.str z),.un,.un];have s1:(mT 4 (vS (qk [("it", (cV 1)),("other", (cV 2))]) (c2 dIx (cV 3) (cC (.int 1))) (c2 dIx (cV 3) (cC (.int 1)))):FS) [.im sp,.im it,.im ot,.im tl,.un,.un,.un]=some (.nx ρ):=(mO (CS gv tm rfl rfl rfl)).trans rfl;have s2:cT (c2 (dEq false) (c2 dIx (cV 3) (cC (.int 0))) (cC (.str "put"))) ρ=some (true,ρ):=nJ (mD (x:=.str "put") (y:=.str "put") rfl rfl (by kernel_rfl));have et:rb (cT (c2 (E4 true) (cV 4) (mr nU (mi (cV 0) mw)))) (cT (c2 AN (c2 dIx (cV 3) (cC (.int 2))) (c2 oG (mr nU (mi (cV 0) mw)) (cV 4)))) ρ=some (!shB T M z v,ρ):=by
  by_cases h:z∈mks T M
  ·have h':z∈(moL T M).map aG:=by rw[sL];exact h
   obtain⟨q,hq,rfl⟩:=aM.mp h';have nd:((moL T M).map aG).Nodup:=by rw[sL];exact ndM g
   have lk:=FH nd (x:=q.1) (z:=q.2) hq;rw[GO g hq];refine(uT (ρ1:=ρ) (nJ (mD (x:=.str q.1) (y:=dcI (moL T M)) rfl (mC (ds:=[sp]) rfl em) ?_)) (nJ (mD (x:=.int v) (y:=.int q.2) (ρ1:=ρ) rfl (mD (x:=dcI (moL T M)) (y:=.str q.1) (mC (ds:=[sp]) rfl em) rfl lk) rfl))).trans ?_
   ·show some (D.bl !(oF _ _ (kS q.1)).isSome)=_;rw[lk];rfl
   ·show some (decide (v > q.2),ρ)=_;by_cases hv:v<=q.2
    ·rw[aH hv,aA (by omega)];rfl
    ·rw[aA hv,aH (by omega)];rfl
  ·rw[Lp h];refine vq (nJ (mD (x:=.str z) (y:=dcI (moL T M)) rfl (mC (ds:=[sp]) rfl em) ?_));show some (D.bl !(oF _ _ (kS z)).isSome)=_;rw[GN (by rw[sL];exact h)];rfl
 refine m8 (ρ:=ρ) rfl ?_;unfold sf;refine(ml s1).trans (nR ((nH s2).trans ?_));cases h:shB T M z v with
 |true=>rw[h]at et;exact(ml (ρ':=ρ) ((m7 et).trans rfl)).trans rfl
 |false=>rw[h]at et;exact nR ((nH et).trans rfl)
theorem SD(g:Good T M dk)(hy:(T.filter λt=>decide (t.k=.you)).map Th.n=[y]){ot:L4.D}(gv:Gv c it ot){p:Str}{w:Option Str}(mv:Mv T y c t p z w):qN [oT T M dk y,it,ot,.tup [.str "move", .str t,.str p]]=some (.tup [rdD T y z p,chD (goB T z w) "at" z]):=by
 have hl:=g.len;obtain⟨k1,k2,k3,k4,k5⟩:=Ln g hy z p;let sp:=oT T M dk y;let tl:L4.D:=.tup [.str "move", .str t,.str p];let ρ:Sl->Sl->List Sl:=λa b=>[.im sp,.im it,.im ot,.im tl,.im (.str z),a,b];have ll:(bxs T).length<=1000:=by have:=(pP T λk=>decide (k=.box)).length_le;rw[ah]at this;show (nmK T _).length<=1000;omega
 have s1:(mT 4 (vS (qk [("it", (cV 1)),("other", (cV 2))]) (c2 dIx (cV 3) (cC (.int 1))) (c2 dIx (cV 3) (cC (.int 1)))):FS) [.im sp,.im it,.im ot,.im tl,.un,.un,.un]=some (.nx (ρ .un .un)):=(mO (CS gv mv.t rfl rfl rfl)).trans rfl;have s2:cT (c2 (dEq false) (c2 dIx (cV 3) (cC (.int 0))) (cC (.str "put"))) (ρ .un .un)=some (false,ρ .un .un):=nJ (mD (x:=.str "move") (y:=.str "put") rfl rfl (by kernel_rfl));have bo:∀s:Sl,m6 nI (mi (cV 0) (mi (cL (mK (mi (cC (.str "box")) mw))) mw)) (ρ s .un)=some ((bxs T).map D.str,ρ s .un):=λs=>mC (ds:=[sp,.lst [.str "box"]]) (mj rfl (mj rfl rfl)) (of_ok (by omega) (λk=>decide (k=.box)) Ss);have s3:(sIf (cT (c2 (dIn false) (cV 4) (cL (m6 nI (mi (cV 0) (mi (cL (mK (mi (cC (.str "box")) mw))) mw)))))) (pz 5 (mU 1 [] (iL (cL (m6 nI (mi (cV 0) (mi (cL (mK (mi (cC (.str "box")) mw))) mw))))) (gN 0) og (nz (mi (cC (.str "at")) (mi (cV 0) mw))))) m3:FS) (ρ (.ls []) .un)=some (.nx (ρ (.ls ((qw T z).map pairD)) .un)):=by
  have et:cT (c2 (dIn false) (cV 4) (cL (m6 nI (mi (cV 0) (mi (cL (mK (mi (cC (.str "box")) mw))) mw))))) (ρ (.ls []) .un)=some (decide (z∈bxs T),ρ (.ls []) .un):=nJ (mD rfl (nN (bo _)) (rR false z (bxs T)));unfold qw;by_cases h:z∈bxs T
  ·rw[aH h]at et;rw[ag h,aJ];exact(nH et).trans ((vA (vo (k:=1) (cap:=[]) (g:=gN 0) (fe:=nz (mi (cC (.str "at")) (mi (cV 0) mw))) (ρ1:=ρ (.ls []) .un) D.str (λb=>pairD (atK b)) (bxs T) (BL (nN (bo _))) ll λb _=>⟨[.im (.str b)],[.im (.str b)],rfl,rfl,rfl⟩)).trans rfl)
  ·rw[aA h]at et;rw[af h];exact(m7 et).trans rfl
 have et:cT (c2 (dEq false) (c2 dIx (cV 3) (cC (.int 2))) (cC (.str "here"))) (ρ (.ls ((qw T z).map pairD)) .un)=some (decide (p="here"),ρ (.ls ((qw T z).map pairD)) .un):=nJ (mD (x:=.str p) (y:=.str "here") rfl rfl (rA false p "here"));cases mv.p with
 |here=>
  let ds:=(rdK T y z "here").map pairD;refine m8 (ρ:=ρ (.im (.lst ds)) .un) rfl ?_;unfold sf;refine(ml s1).trans ((ml ((m7 s2).trans rfl)).trans ((ml (ρ':=ρ (.ls []) .un) rfl).trans ((ml s3).trans (nR ((nH et).trans ?_)))));refine(ml (ρ':=ρ (.ls ds) .un) (oj (d:=.non) ((xJ (es0:=(qw T z).map pairD) (es:=(qw T z).map pairD) (d:=pairD (atK y)) (ρ1:=ρ (.ls ((qw T z).map pairD)) .un) rfl rfl rfl (by rw[ah];omega)).trans ?_))).trans ?_
  ·show some (D.non,ρ (.ls ((qw T z).map pairD++[pairD (atK y)])) .un)=some (D.non,ρ (.ls ((rdK T y z "here").map pairD)) .un);unfold rdK;rw[ag rfl,aS];rfl
  ·exact mZ (pX (mj (Lm k1 k3 (ρ1:=ρ (.im (.lst ds)) .un) rfl) (mj rfl rfl)) (bq rfl))
 |@tm _ w tm hw=>
  rw[aA (CO tm)]at et;have eK:rdK T y z p=qw T z:=by unfold rdK;rw[af (CO tm),aU]
  let L:Sl:=.ls ((qw T z).map pairD);have s6:(mT 6 (vS (qk [("it", (cV 1)),("other", (cV 2))]) (c2 dIx (cV 3) (cC (.int 2))) (c2 dIx (cV 3) (cC (.int 2)))):FS) (ρ L .un)=some (.nx (ρ L (.im (.str w)))):=(mO (CS gv tm rfl rfl rfl)).trans rfl;have eb:rb (cT (c2 (dEq false) (cV 6) (cV 4))) (cT (c2 (dIn true) (cV 6) (cL (m6 nI (mi (cV 0) (mi (cL (mK (mi (cC (.str "room")) (mi (cC (.str "box")) (mi (cC (.str "you")) mw))))) mw)))))) (ρ L (.im (.str w)))=some (!goB T z (some w),ρ L (.im (.str w))):=by
   have e1:cT (c2 (dEq false) (cV 6) (cV 4)) (ρ L (.im (.str w)))=some (decide (w=z),ρ L (.im (.str w))):=nJ (mD (x:=.str w) (y:=.str z) rfl rfl (rA false w z));show _=some (!(decide (w∈nmK T Kd.hd)&&!decide (w=z)),_);by_cases h:w=z
   ·rw[aH h]at e1 ⊢;rw[lR,iV];exact vq e1
   ·rw[aA h]at e1 ⊢;rw[Bool.not_false,Bool.and_true];exact uT e1 (nJ (mD (x:=.str w) (y:=.lst ((nmK T Kd.hd).map D.str)) rfl (nN (mC (ds:=[sp,.lst [.str "room", .str "box", .str "you"]]) (mj rfl (mj rfl rfl)) (of_ok (by omega) Kd.hd Ov))) (rR true w _)))
  have rd:uC (cL (qm (cFz 5))) (ρ L (.im (.str w)))=some (rdD T y z p,ρ (.im (.lst ((qw T z).map pairD))) (.im (.str w))):=by show _=some (D.tup ((w9 (rdK T y z p)).map pairD),_);rw[eK];exact Lm k5 (by omega) rfl
  refine m8 (ρ:=ρ (.im (.lst ((qw T z).map pairD))) (.im (.str w))) rfl ?_;unfold sf;refine(ml s1).trans ((ml ((m7 s2).trans rfl)).trans ((ml (ρ':=ρ (.ls []) .un) rfl).trans ((ml s3).trans ((ml ((m7 et).trans rfl)).trans ((ml s6).trans ?_)))));cases h:goB T z (some w)with
  |true=>rw[h]at eb;exact(ml ((m7 eb).trans rfl)).trans (mZ (pX (mj rd (mj rfl rfl)) (bq rfl)))
  |false=>rw[h]at eb;exact nR ((nH eb).trans (mZ (pX (mj rd (mj rfl rfl)) (bq rfl))))
end
theorem GP(ns:List Int)(k:Nat):∃c,oh [.fzl (ns.map D.int),.int k]=some (.int c):=by
 let ρ:List Sl:=[.im (.fzl (ns.map D.int)),.im (.int k)];have ev:cT (c2 AM (cV 1) (c1 oB (cV 0))) ρ=some (decide ((k:Int)<((ns.map D.int).length:Nat)),ρ):=rfl;rw[ah]at ev;by_cases h:k<ns.length
 ·rw[aH (by omega)]at ev;refine⟨ns[k],m8 (ρ:=ρ) rfl (nR ((nH ev).trans (mZ (mD (x:=.fzl (ns.map D.int)) (y:=.int k) rfl rfl ?_))))⟩;exact FV (by rw[aK,az h];rfl)
 ·rw[aA (by omega)]at ev;exact⟨0,m8 (ρ:=ρ) rfl ((ml ((m7 ev).trans rfl)).trans rfl)⟩
theorem eq_self{x:L3.Dq}(e0:AO true d d=none)(e1:toD d=some x)(h1:Dn x x=true)(h2:dpt x<=20):dEq true d d=some (.bl false):=by unfold dEq;rw[e0];simp only;unfold DI;rw[e1];simp only;rw[h1,Dm,aH h2];rfl
theorem AE:∀ks:List (List Str),∃l,uL (ks.map pairD)=some l/\oe l<=1
 |[]=>⟨[],rfl,by unfold oe;omega⟩
 |k::ks=>by
  obtain⟨l,e,h⟩:=AE ks;have:toD (pairD k)=some (.tup (k.map L3.Dq.str)):=by unfold pairD toD;rw[yc]
  refine⟨_::l,by rw[au];unfold uL;rw[this];simp only[e];rfl,?_⟩;rw[oe,dpt,xE];omega
theorem GQ(b:Bool)(k z:Str):dEq true (chD b k z) (chD b k z)=some (.bl false):=by
 cases b with
 |true=>refine eq_self (x:=.tup [.str k,.str z]) rfl rfl rfl ?_;simp[dpt,oe]
 |false=>rfl
theorem SE(b:Bool)(k z:Str):∃x,toD (chD b k z)=some x/\dpt x<=1:=by
 cases b with
 |true=>exact⟨.tup [.str k,.str z],rfl,by simp[dpt,oe]⟩
 |false=>exact⟨.non,rfl,by simp[dpt]⟩
theorem ED(ks:List (List Str))(b:Bool)(k z:Str):dEq true (.tup [.tup (ks.map pairD),chD b k z]) (.tup [.tup (ks.map pairD),chD b k z])=some (.bl false):=by
 obtain⟨l,e,h⟩:=AE ks;obtain⟨x,e2,h2⟩:=SE b k z;have e1:toD (.tup (ks.map pairD))=some (.tup l):=by unfold toD;rw[e]
 refine eq_self (x:=.tup [.tup l,x]) rfl ?_ rfl ?_
 ·unfold toD;have:uL [.tup (ks.map pairD),chD b k z]=some [.tup l,x]:=by unfold uL;rw[e1];unfold uL;rw[e2];rfl
  rw[this]
 ·rw[dpt,oe,oe,oe,dpt];omega
def iB:FS:=(mx (mT 12 (nz (mi (ni q9 "reads" (cV 9) (mi (cV 2) (mi (cV 6) (mi (cV 7) mw)))) (mi (ni oV "change" (cV 9) (mi (cV 2) (mi (cV 6) (mi (cV 7) mw)))) mw))))
 (sIf (rb (sA (cT (c1 (qg (oQ "tuple")) (c2 dIx (cV 12) (cC (.int 0)))))) (cT (c2 (dEq true) (cV 12) (cV 10)))) (mX (cC (.bl false))) m3))
def lB:FS:=(mx (pz 4 (m6 qt (mi (cV 3) (mi (cC (.int 40)) mw))))
 (mx (mT 5 (pQ pH 4 (mi (cV 1) mw)))
 (mx (Dt (mr rJ (mi (cV 5) mw)) (gT (mY (gN 6) (mY (gN 7) qX)) 2))
 (mx (mT 8 (z8 oW qM 4 (nD mm 4 (mi (cC (.int 3)) mw)) (mi (cV 1) (mi (mr qa (mi (cV 5) mw)) mw))))
 (mx (sIf (cT (c2 (dEq false) (c2 dIx (cV 8) (cC (.int 0))) (cC (.str "move")))) (mT 9 (m9 11 (λds=>oR (ds++[])) (mi (c2 dIx (cV 8) (cC (.int 1))) (mi (c2 dIx (cV 8) (cC (.int 2))) mw)))) (mT 9 (m9 12 (λds=>pF (ds++[])) (mi (c2 dIx (cV 8) (cC (.int 1))) (mi (c2 dIx (cV 8) (cC (.int 2))) mw)))))
 (mx (mT 10 (mr qN (mi (cV 1) (mi (cV 6) (mi (cV 7) (mi (cV 8) mw))))))
 (mx (sIf (qW (cT (c2 (dEq false) (c2 oP (mr oh (mi (cV 0) (mi (cC (.int 0)) mw))) (cC (.int 2))) (cC (.int 1)))) (cT (c2 (dEq true) (ni oV "change" (cV 9) (mi (cV 2) (mi (cV 6) (mi (cV 7) mw)))) (c2 dIx (cV 10) (cC (.int 1)))))) (mX (cC (.bl false))) m3)
 (rq (iR1 (cC (.int 2))) (gN 11) iB))))))))
theorem N4{g g':List L4.D->List L4.D->Option (L4.D×List L4.D)}{f:FE}{a:FA}{j:Int}(h:f ρ=some (.int j,ρ1))(h0:0<=j)(h3:j<3):z8 g g' i f a ρ=pQ (if j=2 then g' else g) i a ρ1:=by
 have:j=0\/j=1\/j=2:=by omega
 unfold z8;rw[h];rcases this with rfl|rfl|rfl<;>rfl
section
variable{y:Str}{T:List Th}{M:List Mk}{dk:List Str}
structure Dd(T:List Th)(M:List Mk)(dk:List Str)(y:Str)(it ot tl de rd ch:L4.D):Prop where
 new:∀ρ:List Sl,cV 8 ρ=some (tl,ρ)->(sIf (cT (c2 (dEq false) (c2 dIx (cV 8) (cC (.int 0))) (cC (.str "move")))) (mT 9 (m9 11 (λds=>oR (ds++[])) (mi (c2 dIx (cV 8) (cC (.int 1))) (mi (c2 dIx (cV 8) (cC (.int 2))) mw)))) (mT 9 (m9 12 (λds=>pF (ds++[])) (mi (c2 dIx (cV 8) (cC (.int 1))) (mi (c2 dIx (cV 8) (cC (.int 2))) mw)))):FS) ρ=some (.nx (ρ.set 9 (.im de)))
 due:qN [oT T M dk y,it,ot,tl]=some (.tup [rd,ch])
 rds:∀ρ:List Sl,cV 9 ρ=some (de,ρ)->cV 2 ρ=some (wM T M dk y,ρ)->cV 6 ρ=some (it,ρ)->cV 7 ρ=some (ot,ρ)->ni q9 "reads" (cV 9) (mi (cV 2) (mi (cV 6) (mi (cV 7) mw))) ρ=some (rd,ρ)
 chs:∀ρ:List Sl,cV 9 ρ=some (de,ρ)->cV 2 ρ=some (wM T M dk y,ρ)->cV 6 ρ=some (it,ρ)->cV 7 ρ=some (ot,ρ)->ni oV "change" (cV 9) (mi (cV 2) (mi (cV 6) (mi (cV 7) mw))) ρ=some (ch,ρ)
 tp:qg (oQ "tuple") rd=some (.bl true)
 e1:dEq true ch ch=some (.bl false)
 e2:dEq true (.tup [rd,ch]) (.tup [rd,ch])=some (.bl false)
theorem N5(g:Good T M dk)(hy:(T.filter λt=>decide (t.k=.you)).map Th.n=[y]){ot tl:L4.D}(gv:Gv c it ot)(td:Td T y c tl):∃de rd ch,Dd T M dk y it ot tl de rd ch:=by
 cases td with
 |@mv t p z w mv=>
  refine⟨mvD t p,rdD T y z p,chD (goB T z w) "at" z,λρ h=>?_,SD g hy gv mv,λρ h1 h2 h3 h4=>?_,λρ h1 h2 h3 h4=>?_,rfl,GQ _ _ _,ED _ _ _ _⟩
  ·exact(nH (nJ (mD (x:=.str "move") (y:=.str "move") (mD h rfl rfl) rfl (by kernel_rfl)))).trans (mO (Cg (ds:=[.str t,.str p]) (ns:=["term", "place"]) (xs:=[.str t,.str p]) (mj (mD h rfl rfl) (mj (mD h rfl rfl) rfl)) (by kernel_rfl)))
  ·exact n4 (c:=11) (ns:=["term", "place"]) (xs:=[.str t,.str p]) (ys:=[wM T M dk y,it,ot]) (hh:=um) h1 rfl rfl (mj h2 (mj h3 (mj h4 rfl))) (Lo g hy gv mv.t)
  ·exact n4 (c:=11) (ns:=["term", "place"]) (xs:=[.str t,.str p]) (ys:=[wM T M dk y,it,ot]) (hh:=qQ) h1 rfl rfl (mj h2 (mj h3 (mj h4 rfl))) (Io g hy gv mv)
 |@pt t z v tm=>
  refine⟨putD t v,.tup [],chD (shB T M z v) "mark" z,λρ h=>?_,SC g gv tm v,λρ h1 h2 h3 h4=>?_,λρ h1 h2 h3 h4=>?_,rfl,GQ _ _ _,ED [] _ _ _⟩
  ·exact(m7 (nJ (mD (x:=.str "put") (y:=.str "move") (mD h rfl rfl) rfl (by kernel_rfl)))).trans (mO (Cg (ds:=[.str t,.int v]) (ns:=["term", "value"]) (xs:=[.str t,.int v]) (mj (mD h rfl rfl) (mj (mD h rfl rfl) rfl)) (by kernel_rfl)))
  ·exact n4 (c:=12) (ns:=["term", "value"]) (xs:=[.str t,.int v]) (ys:=[wM T M dk y,it,ot]) (hh:=yS) h1 rfl rfl (mj h2 (mj h3 (mj h4 rfl))) (by kernel_rfl)
  ·exact n4 (c:=12) (ns:=["term", "value"]) (xs:=[.str t,.int v]) (ys:=[wM T M dk y,it,ot]) (hh:=uq) h1 rfl rfl (mj h2 (mj h3 (mj h4 rfl))) (FK g gv tm v)
end
theorem SF(ns:List Int)(hl:ns.length<=63):Oq [.fzl (ns.map D.int)]=some (.bl true):=by
 obtain⟨c0,e0⟩:=GP ns 0;obtain⟨c1,e1⟩:=GP ns 1;obtain⟨T,M,dk,y,es,g,hy⟩:=NU c0;have ew:=Lb g hy (Le g);let sc:=D.fzl (ns.map D.int);let W:=wM T M dk y;let sp:=oT T M dk y;let R:List Sl->List Sl:=λs=>.im sc::.im sp::.im W::s;have loop:∀(l:List Int) (s:List Sl),s.length=10->∃s',s'.length=10/\forL (gN 3) lB (l.map D.int) (R s)=some (.nx (R s')):=by
  intro l
  induction l with
  |nil=>exact λs h=>⟨s,h,rfl⟩
  |cons c l ih=>
   intro s hs
   match s,hs with
   |[s3,s4,s5,s6,s7,s8,s9,s10,s11,s12],_=>
   obtain⟨xs,ix,dx⟩:=Es c 40 (by decide);obtain⟨cm,f,xs1,i1,hc,ec⟩:=FJ (y:=y) g ix;obtain⟨it,ot,eg,gv⟩:=Im hc;let ρ5:List L4.D->List Sl:=λxs=>R [.im (.int c),.ls xs,.im cm,.im it,.im ot,s8,s9,s10,s11,s12];obtain⟨j,xs2,i2,j0,j3,ej⟩:=tk (ρ:=ρ5 xs1) (j:=4) (e:=cC (.int 3)) (n:=3) (by decide) i1 rfl rfl;have told:∃tl xs3,IL xs3/\Td T y cm tl/\pQ (if j=2 then qM else oW) 4 (mi (cV 1) (mi (mr qa (mi (cV 5) mw)) mw)) (ρ5 xs2)=some (tl,ρ5 xs3):=by
    have ea:mi (cV 1) (mi (mr qa (mi (cV 5) mw)) mw) (ρ5 xs2)=some ([sp,.str f],ρ5 xs2):=mj rfl (mj (mC (ds:=[cm]) rfl (NZ hc)) rfl);by_cases h2:j=2
    ·rw[ag h2];obtain⟨d,xs3,i3,td,e⟩:=Sx g hy hc i2;exact⟨d,xs3,i3,td,(vK ea rfl e).trans rfl⟩
    ·rw[af h2];obtain⟨t,p,z,w,xs3,i3,mv,e⟩:=EB g hy hc i2;exact⟨_,xs3,i3,.mv mv,(vK ea rfl e).trans rfl⟩
   obtain⟨tl,xs3,i3,td,et⟩:=told;obtain⟨de,rd,ch,D⟩:=N5 g hy gv td;let Q:Sl->Sl->List Sl:=λa b=>R [.im (.int c),.ls xs3,.im cm,.im it,.im ot,.im tl,.im de,.im (.tup [rd,ch]),a,b];have inner:∀(l:List L4.D) (a b:Sl),∃a' b',forL (gN 11) iB l (Q a b)=some (.nx (Q a' b')):=by
    intro l
    induction l with
    |nil=>exact λa b=>⟨a,b,rfl⟩
    |cons x l ih=>
     intro a b;obtain⟨a',b',h⟩:=ih (.im x) (.im (.tup [rd,ch]));refine⟨a',b',?_⟩;unfold forL;rw[show gN 11 x (Q a b)=some (Q (.im x) b) from rfl];have ev:iB (Q (.im x) b)=some (.nx (Q (.im x) (.im (.tup [rd,ch])))):=by unfold iB;refine(ml (ρ':=Q (.im x) (.im (.tup [rd,ch]))) ((mO (pX (mj (D.rds (Q (.im x) b) rfl rfl rfl rfl) (mj (D.chs (Q (.im x) b) rfl rfl rfl rfl) rfl)) (bq rfl))).trans rfl)).trans ?_;exact(m7 (uT (Ga (b:=true) (nJ (nE (x:=rd) (ρ1:=Q (.im x) (.im (.tup [rd,ch]))) (mD (x:=.tup [rd,ch]) (y:=.int 0) rfl rfl rfl) D.tp))) (nJ (mD (x:=.tup [rd,ch]) (y:=.tup [rd,ch]) (ρ1:=Q (.im x) (.im (.tup [rd,ch]))) rfl rfl D.e2)))).trans rfl
     simp only[ev];exact h
   obtain⟨a',b',hin⟩:=inner [.int 0,.int 1] s11 s12;obtain⟨s2,hs2,k⟩:=ih [.im (.int c),.ls xs3,.im cm,.im it,.im ot,.im tl,.im de,.im (.tup [rd,ch]),a',b'] rfl;refine⟨s2,hs2,?_⟩;rw[au];unfold forL;rw[show gN 3 (.int c) (R [s3,s4,s5,s6,s7,s8,s9,s10,s11,s12])=some (R [.im (.int c),s4,s5,s6,s7,s8,s9,s10,s11,s12]) from rfl];have ev:lB (R [.im (.int c),s4,s5,s6,s7,s8,s9,s10,s11,s12])=some (.nx (Q a' b')):=by
    unfold lB;refine(ml (ρ':=R [.im (.int c),.ls xs,s5,s6,s7,s8,s9,s10,s11,s12]) ((vA (mC (mj rfl (mj rfl rfl)) dx)).trans rfl)).trans ?_;refine(ml (ρ':=R [.im (.int c),.ls xs1,.im cm,s6,s7,s8,s9,s10,s11,s12]) ((mO (vK (ρ1:=R [.im (.int c),.ls xs,s5,s6,s7,s8,s9,s10,s11,s12]) rfl rfl ec)).trans rfl)).trans ?_;refine(ml (ρ':=ρ5 xs1) (Lk (mC (ds:=[cm]) rfl eg) rfl)).trans ?_;refine(ml (ρ':=R [.im (.int c),.ls xs3,.im cm,.im it,.im ot,.im tl,s9,s10,s11,s12]) ((mO ((N4 (ρ1:=ρ5 xs2) ej j0 j3).trans et)).trans rfl)).trans ?_;refine(ml (ρ':=R [.im (.int c),.ls xs3,.im cm,.im it,.im ot,.im tl,.im de,s10,s11,s12]) ((D.new _ rfl).trans rfl)).trans ?_;refine(ml (ρ':=Q s11 s12) ((mO (mC (ds:=[sp,it,ot,tl]) rfl D.due)).trans rfl)).trans ?_;refine(ml (ρ':=Q s11 s12) ?_).trans ((pY (ds:=[.int 0,.int 1]) rfl).trans hin);have em:cT (c2 (dEq false) (c2 oP (mr oh (mi (cV 0) (mi (cC (.int 0)) mw))) (cC (.int 2))) (cC (.int 1))) (Q s11 s12)=some (decide (c0 % 2=1),Q s11 s12):=nJ (mD (x:=.int (c0 % 2)) (y:=.int 1) (mD (x:=.int c0) (y:=.int 2) (mC (ds:=[sc,.int 0]) rfl e0) rfl (qO (by decide))) rfl (vE false _ _));by_cases h:c0 % 2=1
    ·rw[aH h]at em;exact(m7 ((tR em).trans (nJ (mD (x:=ch) (y:=ch) (D.chs (Q s11 s12) rfl rfl rfl rfl) (mD (x:=.tup [rd,ch]) (y:=.int 1) rfl rfl rfl) D.e1)))).trans rfl
    ·rw[aA h]at em;exact(m7 (yd em)).trans rfl
   simp only[ev];exact k
 let cs:List Int:=c1::(ns.drop (HT.sIx ns.length 0 (some 2))).take (HT.sIx ns.length ns.length (some 17) - HT.sIx ns.length 0 (some 2));have ec:[D.int c1]++cutD (ns.map D.int) (some 2) (some 17)=cs.map D.int:=by unfold cutD;rw[ah,<- eG,<- eI];rfl
 have hc:(cutD (ns.map D.int) (some 2) (some 17)).length<=63:=by unfold cutD;rw[bf,cg,ah];omega
 let un:List Sl:=dw 10 .un;obtain⟨s',_,e⟩:=loop cs un rfl;refine m8 (ρ:=R s') rfl ?_;refine(ml (ρ':=.im sc::.im sp::.un::un) ((mO (mC (mj (mC (mj rfl (mj rfl rfl)) e0) rfl) es)).trans rfl)).trans ?_;refine(ml (ρ':=R un) ((mO (mC (mj rfl rfl) ew)).trans rfl)).trans ?_;refine(ml ((pY (ds:=cs.map D.int) (ρ1:=R un) ?_).trans e)).trans rfl;exact(BL (nN (qD (xs:=[.int c1]) (ys:=cutD (ns.map D.int) (some 2) (some 17)) (nN (uU (mj (mC (mj rfl (mj rfl rfl)) e1) rfl) (show 1<=1000 by decide))) rfl (by show 1+_<=1000;omega)))).trans (by rw[ec])
end K27x
namespace K27x
open PySem L2 L3 L4
open PySem.W (nsIn)
structure Fx(K:aj)(C0 C1 C2 C3 C4 C5 C6 C7 C8 C9 C10 C11 C12 C13 C14:Addr):Prop where
 a0:nsIn K mainGlobals "Thing" = some (some (.ref C0))
 a1:nsIn K mainGlobals "Mark" = some (some (.ref C1))
 a2:nsIn K mainGlobals "Verb" = some (some (.ref C2))
 a3:nsIn K mainGlobals "At" = some (some (.ref C3))
 a4:nsIn K mainGlobals "Has" = some (some (.ref C4))
 a5:nsIn K mainGlobals "Seen" = some (some (.ref C5))
 a6:nsIn K mainGlobals "Marked" = some (some (.ref C6))
 a7:nsIn K mainGlobals "Kind" = some (some (.ref C7))
 a8:nsIn K mainGlobals "Word" = some (some (.ref C8))
 a9:nsIn K mainGlobals "Not" = some (some (.ref C9))
 a10:nsIn K mainGlobals "Both" = some (some (.ref C10))
 a11:nsIn K mainGlobals "Move" = some (some (.ref C11))
 a12:nsIn K mainGlobals "Put" = some (some (.ref C12))
 a13:nsIn K mainGlobals "Rule" = some (some (.ref C13))
 a14:nsIn K mainGlobals "World" = some (some (.ref C14))
 k0:CF K C0 ["kind", "name", "start", "words"]
 k1:CF K C1 ["most", "name", "start"]
 k2:CF K C2 ["joining", "name", "others", "form"]
 k3:CF K C3 ["place", "term"]
 k4:CF K C4 ["term"]
 k5:CF K C5 ["term"]
 k6:CF K C6 ["term", "value"]
 k7:CF K C7 ["kind", "term"]
 k8:CF K C8 ["word"]
 k9:CF K C9 ["inner"]
 k10:CF K C10 []
 k11:CF K C11 ["place", "term"]
 k12:CF K C12 ["term", "value"]
 k13:CF K C13 ["verb", "deeds", "refuses", "tests", "text"]
 k14:CF K C14 ["copied_rules", "kept_things", "kept_verbs", "mosts_by_name", "shared_rules", "shared_verbs", "things_by_name", "your_name", "kept_dark", "kept_marks", "kept_rules", "kept_ways", "rules_by_verb", "verbs_by_word"]
 i_Mark:zi K [C0,C1,C2,C3,C4,C5,C6,C7,C8,C9,C10,C11,C12,C13,C14] C1 1=true
 i_Thing:zi K [C0,C1,C2,C3,C4,C5,C6,C7,C8,C9,C10,C11,C12,C13,C14] C0 0=true
 nd:decide ([C0,C1,C2,C3,C4,C5,C6,C7,C8,C9,C10,C11,C12,C13,C14]:List Addr).Nodup=true
 e:((["all", "any", "bool", "int", "isinstance", "len", "list", "range", "set", "sorted", "str", "tuple", "zip"]:List Str).all λx=>match nsIn K mainGlobals x with|some none=>true|_=>false)=true
 g0:GS K "KINDS" ["room", "plain", "fixed", "box", "lamp", "you"]
 g1:GS K "KINDS_APART" ["room", "you"]
 g2:GS K "KINDS_THAT_HOLD" ["room", "box", "you"]
 g3:GS K "KINDS_WITH_MARK" ["box", "lamp"]
 g4:GC K "MOST_BESIDE" 7
 g5:GC K "MOST_IN_NAME" 8
 g6:GC K "MOST_IN_WORD" 12
 g7:GC K "MOST_MARKS" 4
 g8:GC K "MOST_OF_MARK" 3
 g9:GC K "MOST_ROOMS" 5
 g10:GC K "MOST_RULES" 20
 g11:GC K "MOST_VERBS" 6
 g12:GC K "MOST_WAYS" 10
 g13:GC K "MOST_WORDS" 4
 g14:GS K "NO_NAMES" ["it", "other", "here", "the", "a", "undo", "restart"]
 g15:GS K "NO_WORDS" ["the", "a"]
 g16:GS K "NO_WORDS_OF_ROWS" ["the", "a", "undo", "restart"]
 q17:GD K "is_small_letters" (top 6)
 q18:GD K "is_name" (top 7)
 q19:GD K "is_word" (top 8)
 q20:GD K "is_one_of" (top 10)
 q21:GD K "is_whole" (top 11)
 q22:GD K "is_list_up_to" (top 12)
 q23:GD K "own_list" (top 104)
 q24:GJ K C0 "Thing.__init__" (inClass (top 58) 0) [V.non]
 q25:GM K C1 "__init__" "Mark.__init__" (inClass (top 59) 0)
 q26:GJ K C2 "Verb.__init__" (inClass (top 60) 0) [V.non,(V.str "one"),V.non]
 q27:GM K C3 "__init__" "At.__init__" (inClass (top 28) 0)
 q28:GM K C4 "__init__" "Has.__init__" (inClass (top 29) 0)
 q29:GM K C6 "__init__" "Marked.__init__" (inClass (top 31) 0)
 q30:GM K C7 "__init__" "Kind.__init__" (inClass (top 32) 0)
 q31:GM K C8 "__init__" "Word.__init__" (inClass (top 33) 0)
 q32:GM K C9 "__init__" "Not.__init__" (inClass (top 35) 0)
 q33:GM K C11 "__init__" "Move.__init__" (inClass (top 48) 0)
 q34:GM K C12 "__init__" "Put.__init__" (inClass (top 49) 0)
 q35:GJ K C13 "Rule.__init__" (inClass (top 103) 0) [(V.bl false)]
 q36:GM K C0 "can_hold" "Thing.can_hold" (inClass (top 58) 1)
 q37:GM K C0 "has_mark" "Thing.has_mark" (inClass (top 58) 2)
 q38:GM K C0 "is_plainly" "Thing.is_plainly" (inClass (top 58) 3)
 q39:GD K "refuse_unless" (top 73)
 q40:GD K "count_of" (top 76)
 q41:GD K "plain_ones" (top 77)
 q42:GD K "is_mark" (top 79)
 q43:GD K "check_things" (top 75)
 q44:GD K "check_marks" (top 78)
 q45:GD K "are_unlike" (top 81)
 q46:GD K "check_names" (top 80)
 q47:GD K "mark_names" (top 82)
 q48:GD K "is_start" (top 84)
 q49:GD K "comes_to_room" (top 85)
 q50:GD K "check_starts" (top 83)
 q51:GD K "are_words" (top 87)
 q52:GD K "has_all" (top 89)
 q53:GD K "is_told_apart" (top 88)
 q54:GD K "check_words_of_things" (top 86)
 q55:GD K "check_dark" (top 90)
 q56:GD K "is_way" (top 92)
 q57:GD K "check_ways" (top 91)
 q58:GD K "check_verbs" (top 93)
 q59:GD K "are_apart" (top 96)
 q60:GD K "check_vocabulary" (top 95)
 q61:GD K "check_parts" (top 74)
 q62:GD K "does" (top 127)
 q63:GD K "refuses" (top 128)
 q64:GD K "hand_rules" (top 129)
 q65:GD K "put_rules" (top 130)
 q66:GD K "lid_rules" (top 131)
 q67:GD K "flame_rules" (top 132)
 q68:GD K "way_tests" (top 134)
 q69:GD K "go_rules" (top 133)
 q70:GD K "wait_rules" (top 135)
 q71:GD K "common_rules" (top 126)
 q72:GD K "common_verbs" (top 125)
 q73:GD K "by_name" (top 139)
 q74:GD K "mosts_by_name" (top 140)
 q75:GD K "verbs_by_word" (top 141)
 q76:GD K "by_verb" (top 142)
 q77:GM K C14 "of_kind" "World.of_kind" (inClass (top 138) 3)
 q78:GM K C14 "all_verbs" "World.all_verbs" (inClass (top 138) 13)
 q79:GM K C14 "__init__" "World.__init__" (inClass (top 138) 0)
 q80:GM K C14 "you" "World.you" (inClass (top 138) 4)
 q81:GM K C14 "thing_of" "World.thing_of" (inClass (top 138) 2)
 q82:GM K C14 "most_of" "World.most_of" (inClass (top 138) 6)
 q83:GD K "given" (top 40)
 q84:GD K "at_parts" (top 41)
 q85:GD K "mark_parts" (top 42)
 q86:GD K "box_parts" (top 43)
 q87:GD K "tidy" (top 45)
 q88:GD K "can_go" (top 50)
 q89:GD K "can_show" (top 51)
 q90:GM K C11 "reads" "Move.reads" (inClass (top 48) 2)
 q91:GM K C12 "reads" "Put.reads" (inClass (top 49) 2)
 q92:GM K C11 "change" "Move.change" (inClass (top 48) 3)
 q93:GM K C12 "change" "Put.change" (inClass (top 49) 3)
 q94:GD K "_law_cell_at" (top 144)
 q95:GD K "_law_draws" (top 145)
 q96:GD K "_law_take" (top 146)
 q97:GD K "_law_names" (top 147)
 q98:GD K "_law_others" (top 148)
 q99:GD K "_law_spec" (top 149)
 q100:GD K "_law_ways" (top 150)
 q101:GD K "_law_world" (top 151)
 q102:GD K "_law_of" (top 152)
 q103:GD K "_law_mosts" (top 153)
 q104:GD K "_law_command" (top 154)
 q105:GD K "_law_form" (top 155)
 q106:GD K "_law_place" (top 156)
 q107:GD K "_law_marked" (top 157)
 q108:GD K "_law_moved" (top 158)
 q109:GD K "_law_put" (top 159)
 q110:GD K "_law_given" (top 160)
 q111:GD K "_law_due" (top 161)
 q112:GD K "law" (top 162)
class Yx(B:Bz):Prop where
 y:Yw B.P B.w B.mg B.base B.G
 f:Fx B.G.K (B.G.ca 0) (B.G.ca 1) (B.G.ca 2) (B.G.ca 3) (B.G.ca 4) (B.G.ca 5) (B.G.ca 6) (B.G.ca 7) (B.G.ca 8) (B.G.ca 9) (B.G.ca 10) (B.G.ca 11) (B.G.ca 12) (B.G.ca 13) (B.G.ca 14)
section
variable{B:Bz}[Y:Yx B]
instance:Yb B:=⟨Y.y⟩
instance:Nb B "all" := ⟨Y.y.n Y.f.e 0 rfl⟩
instance:Nb B "any" := ⟨Y.y.n Y.f.e 1 rfl⟩
instance:Nb B "bool" := ⟨Y.y.n Y.f.e 2 rfl⟩
instance:Nb B "int" := ⟨Y.y.n Y.f.e 3 rfl⟩
instance:Nb B "isinstance" := ⟨Y.y.n Y.f.e 4 rfl⟩
instance:Nb B "len" := ⟨Y.y.n Y.f.e 5 rfl⟩
instance:Nb B "list" := ⟨Y.y.n Y.f.e 6 rfl⟩
instance:Nb B "range" := ⟨Y.y.n Y.f.e 7 rfl⟩
instance:Nb B "set" := ⟨Y.y.n Y.f.e 8 rfl⟩
instance:Nb B "sorted" := ⟨Y.y.n Y.f.e 9 rfl⟩
instance:Nb B "str" := ⟨Y.y.n Y.f.e 10 rfl⟩
instance:Nb B "tuple" := ⟨Y.y.n Y.f.e 11 rfl⟩
instance:Nb B "zip" := ⟨Y.y.n Y.f.e 12 rfl⟩
instance:Co B "KINDS" CB:=⟨Y.y.cs Y.f.g0⟩
instance:Co B "KINDS_APART" vT:=⟨Y.y.cs Y.f.g1⟩
instance:Co B "KINDS_THAT_HOLD" sG:=⟨Y.y.cs Y.f.g2⟩
instance:Co B "KINDS_WITH_MARK" sH:=⟨Y.y.cs Y.f.g3⟩
instance:Co B "MOST_BESIDE" vU:=⟨Y.y.ci Y.f.g4⟩
instance:Co B "MOST_IN_NAME" u0:=⟨Y.y.ci Y.f.g5⟩
instance:Co B "MOST_IN_WORD" u4:=⟨Y.y.ci Y.f.g6⟩
instance:Co B "MOST_MARKS" rB:=⟨Y.y.ci Y.f.g7⟩
instance:Co B "MOST_OF_MARK" u5:=⟨Y.y.ci Y.f.g8⟩
instance:Co B "MOST_ROOMS" xa:=⟨Y.y.ci Y.f.g9⟩
instance:Co B "MOST_RULES" xc:=⟨Y.y.ci Y.f.g10⟩
instance:Co B "MOST_VERBS" xb:=⟨Y.y.ci Y.f.g11⟩
instance:Co B "MOST_WAYS" yz:=⟨Y.y.ci Y.f.g12⟩
instance:Co B "MOST_WORDS" ue:=⟨Y.y.ci Y.f.g13⟩
instance:Co B "NO_NAMES" z9:=⟨Y.y.cs Y.f.g14⟩
instance:Co B "NO_WORDS" Aa:=⟨Y.y.cs Y.f.g15⟩
instance:Co B "NO_WORDS_OF_ROWS" rV:=⟨Y.y.cs Y.f.g16⟩
instance:Ff B qG "copied_rules" := ⟨tw (Y.f.k14.at 0 rfl)⟩
instance:Ff B uY "joining" := ⟨tw (Y.f.k2.at 0 rfl)⟩
instance:Ff B uD "kept_things" := ⟨tw (Y.f.k14.at 1 rfl)⟩
instance:Ff B uZ "kept_verbs" := ⟨tw (Y.f.k14.at 2 rfl)⟩
instance:Ff B nL "kind" := ⟨orQ (tw (Y.f.k0.at 0 rfl)) (Y.f.k7.at 0 rfl)⟩
instance:Ff B rT "most" := ⟨tw (Y.f.k1.at 0 rfl)⟩
instance:Ff B sF "mosts_by_name" := ⟨tw (Y.f.k14.at 3 rfl)⟩
instance:Ff B mS "name" := ⟨orQ (orQ (tw (Y.f.k0.at 1 rfl)) (Y.f.k1.at 1 rfl)) (Y.f.k2.at 1 rfl)⟩
instance:Ff B wg "others" := ⟨tw (Y.f.k2.at 2 rfl)⟩
instance:Ff B pK "place" := ⟨orQ (tw (Y.f.k3.at 0 rfl)) (Y.f.k11.at 0 rfl)⟩
instance:Ff B qH "shared_rules" := ⟨tw (Y.f.k14.at 4 rfl)⟩
instance:Ff B tE "shared_verbs" := ⟨tw (Y.f.k14.at 5 rfl)⟩
instance:Ff B oq "start" := ⟨orQ (tw (Y.f.k0.at 2 rfl)) (Y.f.k1.at 2 rfl)⟩
instance:Ff B tG "term" := ⟨orQ (orQ (orQ (orQ (orQ (orQ (tw (Y.f.k3.at 1 rfl)) (Y.f.k4.at 0 rfl)) (Y.f.k5.at 0 rfl)) (Y.f.k6.at 0 rfl)) (Y.f.k7.at 1 rfl)) (Y.f.k11.at 1 rfl)) (Y.f.k12.at 0 rfl)⟩
instance:Ff B rU "things_by_name" := ⟨tw (Y.f.k14.at 6 rfl)⟩
instance:Ff B xV "value" := ⟨orQ (tw (Y.f.k6.at 1 rfl)) (Y.f.k12.at 1 rfl)⟩
instance:Ff B Ek "verb" := ⟨tw (Y.f.k13.at 0 rfl)⟩
instance:Ff B o6 "words" := ⟨tw (Y.f.k0.at 3 rfl)⟩
instance:Ff B qP "your_name" := ⟨tw (Y.f.k14.at 7 rfl)⟩
instance:Af B 0 ["kind", "name", "start", "words"]:=⟨Y.f.k0⟩
instance:Af B 1 ["most", "name", "start"]:=⟨Y.f.k1⟩
instance:Af B 2 ["joining", "name", "others", "form"]:=⟨Y.f.k2⟩
instance:Af B 3 ["place", "term"]:=⟨Y.f.k3⟩
instance:Af B 4 ["term"]:=⟨Y.f.k4⟩
instance:Af B 6 ["term", "value"]:=⟨Y.f.k6⟩
instance:Af B 7 ["kind", "term"]:=⟨Y.f.k7⟩
instance:Af B 8 ["word"]:=⟨Y.f.k8⟩
instance:Af B 9 ["inner"]:=⟨Y.f.k9⟩
instance:Af B 11 ["place", "term"]:=⟨Y.f.k11⟩
instance:Af B 12 ["term", "value"]:=⟨Y.f.k12⟩
instance:Af B 13 ["verb", "deeds", "refuses", "tests", "text"]:=⟨Y.f.k13⟩
instance:Af B 14 ["copied_rules", "kept_things", "kept_verbs", "mosts_by_name", "shared_rules", "shared_verbs", "things_by_name", "your_name", "kept_dark", "kept_marks", "kept_rules", "kept_ways", "rules_by_verb", "verbs_by_word"]:=⟨Y.f.k14⟩
instance:Ic B "Mark" KM:=⟨1,Bs Y.f.i_Mark rfl (ND 15 _) (HX.at ⟨Y.f.k0.ci,Y.f.k1.ci,Y.f.k2.ci,Y.f.k3.ci,Y.f.k4.ci,Y.f.k5.ci,Y.f.k6.ci,Y.f.k7.ci,Y.f.k8.ci,Y.f.k9.ci,Y.f.k10.ci,Y.f.k11.ci,Y.f.k12.ci,Y.f.k13.ci,Y.f.k14.ci,trivial⟩),Y.y.g Y.f.a1⟩
instance:Ic B "Thing" Gx:=⟨0,Bs Y.f.i_Thing rfl (ND 15 _) (HX.at ⟨Y.f.k0.ci,Y.f.k1.ci,Y.f.k2.ci,Y.f.k3.ci,Y.f.k4.ci,Y.f.k5.ci,Y.f.k6.ci,Y.f.k7.ci,Y.f.k8.ci,Y.f.k9.ci,Y.f.k10.ci,Y.f.k11.ci,Y.f.k12.ci,Y.f.k13.ci,Y.f.k14.ci,trivial⟩),Y.y.g Y.f.a0⟩
instance:Ij B 15:=⟨UO Y.f.nd⟩
local macro_rules|`(tactic|trivial)=>do let x:=("T7 T6 T8 T9 Ku Ud QE Rk Ua QC Rt Rj Qn Qo Rl Ro Rb QI Q4 QL Ru Qu Qv Qw Qx Qr Rp Ue Rv Qs QG Ry RB Rm RO QF QD QB Qm QP QQ Ub RE Qz QA RQ Qy Ug Uh QV Qp Qq QW Qt RK RM RN RA RD RF Uc QJ QK RG RH QX QM QN Q1 Q2 Q3 RI RJ NB NA NC Q5 Q6 Q7 QO Q8 QR QS QT QU RU Q0 QZ QY QH Rg Rh Ny Rx Sd Se R8 R9 RV RR RS RT Nx RP Rr Rq".splitOn " ").toArray.map fun s=>Lean.mkIdent (.mkSimple s);`(tactic|repeat' first|(with_reducible apply eqI);(first|rfl|kernel_rfl)|((with_reducible first|apply Re|apply Rf);rotate_left 7;rfl)|(with_reducible first $[|apply $x]*)|(with_reducible intro _)|exact lJ)
instance:Df B 1 "is_small_letters" (spF B.G p6):=gF4 rfl Y.f.q17 rfl (by unfold rW;trivial)
instance:Df B 2 "is_name" (spF B.G vF):=gF4 rfl Y.f.q18 rfl (by unfold BA;trivial)
instance:Df B 2 "is_word" (spF B.G p9):=gF4 rfl Y.f.q19 rfl (by unfold BB;trivial)
instance:Df B 1 "is_one_of" (spF B.G nO):=gF4 rfl Y.f.q20 rfl (by unfold yA;trivial)
instance:Df B 1 "is_whole" (spF B.G wj):=gF4 rfl Y.f.q21 rfl (by unfold Ab;trivial)
instance:Df B 1 "is_list_up_to" (spF B.G ou):=gF4 rfl Y.f.q22 rfl (by unfold uE;trivial)
instance:Df B 1 "own_list" (spF B.G wm):=gF4 rfl Y.f.q23 rfl (by unfold Ac;trivial)
instance:Kf B 1 "Thing" 0 xg []:=gJ4 (dds:=[D.non]) Y.f.k0 Y.f.a0 rfl Y.f.q24 rfl rfl (by unfold xf;trivial) 1
instance:Kf B 1 "Mark" 1 yC []:=gI4 Y.f.k1 Y.f.a1 rfl Y.f.q25 rfl rfl (by unfold yB;trivial)
theorem uA:Bdz B (nmO (inClass (top 60) 0)) "Verb.__init__" (inClass (top 60) 0) (nu (inClass (top 60) 0)) 0 u6:=by
 unfold u6;refine Ku ?_ ?_
 all_goals trivial
instance:Kf B 1 "Verb" 2 pC [D.non,(D.str "one"),D.non]:=gJ4 (dds:=[D.non,(D.str "one"),D.non]) Y.f.k2 Y.f.a2 rfl Y.f.q26 rfl rfl uA 0
instance:Kf B 1 "Verb" 2 pC [D.non]:=gJ4 (dds:=[D.non,(D.str "one"),D.non]) Y.f.k2 Y.f.a2 rfl Y.f.q26 rfl rfl uA 2
instance:Kf B 1 "Verb" 2 pC []:=gJ4 (dds:=[D.non,(D.str "one"),D.non]) Y.f.k2 Y.f.a2 rfl Y.f.q26 rfl rfl uA 3
instance:Kf B 1 "At" 3 xW []:=gI4 Y.f.k3 Y.f.a3 rfl Y.f.q27 rfl rfl (by unfold BC;trivial)
instance:Kf B 1 "Has" 4 wo []:=gI4 Y.f.k4 Y.f.a4 rfl Y.f.q28 rfl rfl (by unfold Ad;trivial)
instance:Kf B 1 "Marked" 6 oE []:=gI4 Y.f.k6 Y.f.a6 rfl Y.f.q29 rfl rfl (by unfold vV;trivial)
instance:Kf B 1 "Kind" 7 pD []:=gI4 Y.f.k7 Y.f.a7 rfl Y.f.q30 rfl rfl (by unfold yD;trivial)
instance:Kf B 1 "Word" 8 yF []:=gI4 Y.f.k8 Y.f.a8 rfl Y.f.q31 rfl rfl (by unfold yE;trivial)
instance:Kf B 1 "Not" 9 pE []:=gI4 Y.f.k9 Y.f.a9 rfl Y.f.q32 rfl rfl (by unfold Ae;trivial)
instance:Kf B 1 "Move" 11 oR []:=gI4 Y.f.k11 Y.f.a11 rfl Y.f.q33 rfl rfl (by unfold yG;trivial)
instance:Kf B 1 "Put" 12 pF []:=gI4 Y.f.k12 Y.f.a12 rfl Y.f.q34 rfl rfl (by unfold Ag;trivial)
instance:Kf B 2 "Rule" 13 u7 []:=gJ4 (dds:=[(D.bl false)]) Y.f.k13 Y.f.a13 rfl Y.f.q35 rfl rfl (by unfold yH;trivial) 1
instance:Mf B 9 "can_hold" nW:=⟨λc h e=>by
 unfold nW at e;split at e
 ·cases e;exact hF4 (k:=8) Y.f.k0 rfl Y.f.q36 rfl (by unfold tH;trivial)
 ·cases e⟩
instance:Mf B 9 "has_mark" oI:=⟨λc h e=>by
 unfold oI at e;split at e
 ·cases e;exact hF4 (k:=8) Y.f.k0 rfl Y.f.q37 rfl (by unfold tJ;trivial)
 ·cases e⟩
instance:Mf B 9 "is_plainly" qI:=⟨λc h e=>by
 unfold qI at e;split at e
 ·cases e;exact hF4 (k:=8) Y.f.k0 rfl Y.f.q38 rfl (by unfold rX;trivial)
 ·cases e⟩
instance:Df B 1 "refuse_unless" (spF B.G mH):=gF4 rfl Y.f.q39 rfl (by unfold uF;trivial)
instance:Df B 1 "count_of" (spF B.G uf):=gF4 rfl Y.f.q40 rfl (by unfold Ah;trivial)
instance:Df B 10 "plain_ones" (spN B.G pM):=gN4 rfl Y.f.q41 rfl (by unfold xh;trivial)
instance:Df B 2 "is_mark" (spF B.G xY):=gF4 rfl Y.f.q42 rfl (by unfold xX;trivial)
instance:Df B 11 "check_things" (spF B.G r6):=gF4 rfl Y.f.q43 rfl (by unfold rZ;trivial)
instance:Df B 3 "check_marks" (spF B.G sN):=gF4 rfl Y.f.q44 rfl (by unfold sM;trivial)
instance:Df B 1 "are_unlike" (spF B.G n8):=gF4 rfl Y.f.q45 rfl (by unfold xi;trivial)
instance:Df B 3 "check_names" (spF B.G sP):=gF4 rfl Y.f.q46 rfl (by unfold sO;trivial)
instance:Df B 10 "mark_names" (spN B.G rD):=gN4 rfl Y.f.q47 rfl (by unfold xj;trivial)
instance:Df B 10 "is_start" (spF B.G wt):=gF4 rfl Y.f.q48 rfl (by unfold wq;trivial)
instance:Df B 1 "comes_to_room" (spF B.G rf):=gF4 rfl Y.f.q49 rfl (by unfold uG;trivial)
instance:Df B 11 "check_starts" (spF B.G se):=gF5 ["things", "starts", "thing"] rfl Y.f.q50 rfl (by unfold r9;trivial)
instance:Df B 3 "are_words" (spF B.G va):=gF4 rfl Y.f.q51 rfl (by unfold u9;trivial)
instance:Df B 1 "has_all" (spF B.G vG):=gF4 rfl Y.f.q52 rfl (by unfold BD;trivial)
instance:Df B 2 "is_told_apart" (spF B.G rh):=gF4 rfl Y.f.q53 rfl (by unfold rg;trivial)
instance:Df B 11 "check_words_of_things" (spF B.G oK):=gF4 rfl Y.f.q54 rfl (by unfold oJ;trivial)
instance:Df B 2 "check_dark" (spF B.G uh):=gF4 rfl Y.f.q55 rfl (by unfold ug;trivial)
instance:Df B 3 "is_way" (spF B.G Aj):=gF4 rfl Y.f.q56 rfl (by unfold Ai;trivial)
instance:Df B 4 "check_ways" (spF B.G rE):=gF4 rfl Y.f.q57 rfl (by unfold ui;trivial)
instance:Df B 2 "check_verbs" (spF B.G sQ):=gF4 rfl Y.f.q58 rfl (by unfold vW;trivial)
instance:Df B 1 "are_apart" (spF B.G q8):=gF4 rfl Y.f.q59 rfl (by unfold yI;trivial)
instance:Df B 11 "check_vocabulary" (spF B.G oU):=gF4 rfl Y.f.q60 rfl (by unfold p8;trivial)
instance:Df B 12 "check_parts" (spF B.G sS):=gF4 rfl Y.f.q61 rfl (by unfold sR;trivial)
instance:Df B 4 "does" (spF B.G sT):=gF4 rfl Y.f.q62 rfl (by unfold KN;trivial)
instance:Df B 4 "refuses" (spF B.G nM):=gF4 rfl Y.f.q63 rfl (by unfold BE;trivial)
instance:Df B 5 "hand_rules" (spN B.G xl):=gN4 rfl Y.f.q64 rfl (by unfold xk;trivial)
instance:Df B 5 "put_rules" (spN B.G yK):=gN4 rfl Y.f.q65 rfl (by unfold yJ;trivial)
instance:Df B 5 "lid_rules" (spN B.G yM):=gN4 rfl Y.f.q66 rfl (by unfold yL;trivial)
instance:Df B 5 "flame_rules" (spN B.G vY):=gN4 rfl Y.f.q67 rfl (by unfold vX;trivial)
instance:Df B 3 "way_tests" (spN B.G yO):=gN4 rfl Y.f.q68 rfl (by unfold yN;trivial)
instance:Df B 5 "go_rules" (spN B.G Al):=gN4 rfl Y.f.q69 rfl (by unfold Ak;trivial)
instance:Df B 5 "wait_rules" (spN B.G xn):=gN4 rfl Y.f.q70 rfl (by unfold xm;trivial)
instance:Df B 6 "common_rules" (spN B.G pG):=gN4 rfl Y.f.q71 rfl (by unfold vb;trivial)
instance:Df B 3 "common_verbs" (spN B.G oM):=gN4 rfl Y.f.q72 rfl (by unfold vc;trivial)
instance:Df B 1 "by_name" (spF B.G ya):=gF4 rfl Y.f.q73 rfl (by unfold xZ;trivial)
instance:Df B 10 "mosts_by_name" (spF B.G oZ):=gF4 rfl Y.f.q74 rfl (by unfold rj;trivial)
instance:Df B 1 "verbs_by_word" (spF B.G o5):=gF4 rfl Y.f.q75 rfl (by unfold uH;trivial)
instance:Df B 1 "by_verb" (spF B.G tL):=gF4 rfl Y.f.q76 rfl (by unfold BF;refine⟨HM (stW (by kernel_rfl) zv rfl) (ID lJ rfl (DE (Do B.G.K (EY (pvI (by kernel_rfl))))) (pgI (by kernel_rfl)) (BQ (FL (Jf B.G.K gh ip kF xA (J2 (pvI (by kernel_rfl)) (Jr (EY (pvI (by kernel_rfl))) (Ff.p (B:=B))) (EO rP) ⟨rfl,rfl,rfl,rfl⟩) (oH (pvI (by kernel_rfl)) rP))))) (EF (PE.ghost (pvI (by kernel_rfl))))⟩)
instance:Mf B 9 "of_kind" nG:=⟨λc h e=>by
 unfold nG at e;split at e
 ·cases e;exact hF4 (k:=8) Y.f.k14 rfl Y.f.q77 rfl (by unfold uI;trivial)
 ·cases e⟩
instance:Mf B 9 "all_verbs" pU:=⟨λc h e=>by
 unfold pU at e;split at e
 ·cases e;exact hF4 (k:=8) Y.f.k14 rfl Y.f.q78 rfl (by unfold sI;trivial)
 ·cases e⟩
instance:Kf B 13 "World" 14 qq []:=gI4 Y.f.k14 Y.f.a14 rfl Y.f.q79 rfl rfl (by unfold qp;trivial)
instance:Mf B 9 "you" vH:=⟨λc h e=>by
 unfold vH at e;split at e
 ·cases e;exact hF4 (k:=8) Y.f.k14 rfl Y.f.q80 rfl (by unfold yP;trivial)
 ·cases e⟩
instance:Mf B 9 "thing_of" qr:=⟨λc h e=>by
 unfold qr at e;split at e
 ·cases e;exact hF4 (k:=8) Y.f.k14 rfl Y.f.q81 rfl (by unfold tM;trivial)
 ·cases e⟩
instance:Mf B 9 "most_of" o7:=⟨λc h e=>by
 unfold o7 at e;split at e
 ·cases e;exact hF4 (k:=8) Y.f.k14 rfl Y.f.q82 rfl (by unfold uJ;trivial)
 ·cases e⟩
instance:Df B 1 "given" (spF B.G pV):=gF4 rfl Y.f.q83 rfl (by unfold CC;trivial)
instance:Df B 10 "at_parts" (spF B.G qJ):=gF4 rfl Y.f.q84 rfl (by unfold wu;trivial)
instance:Df B 10 "mark_parts" (spF B.G pO):=gF4 rfl Y.f.q85 rfl (by unfold xp;trivial)
instance:Df B 10 "box_parts" (spF B.G sJ):=gF4 rfl Y.f.q86 rfl (by unfold yQ;trivial)
instance:Df B 1 "tidy" (spF B.G Fo):=gF4 rfl Y.f.q87 rfl (by unfold KO;trivial)
instance:Df B 11 "can_go" (spF B.G vd):=gF4 rfl Y.f.q88 rfl (by unfold Am;trivial)
instance:Df B 11 "can_show" (spF B.G qK):=gF4 rfl Y.f.q89 rfl (by unfold An;trivial)
instance:Mf B 14 "reads" q9:=⟨λc h e=>by
 unfold q9 at e;split at e
 ·cases e;exact hF4 (k:=13) Y.f.k11 rfl Y.f.q90 rfl (by unfold uj;trivial)
 ·cases e;exact hF4 (k:=13) Y.f.k12 rfl Y.f.q91 rfl (by unfold yR;trivial)
 ·cases e⟩
instance:Mf B 14 "change" oV:=⟨λc h e=>by
 unfold oV at e;split at e
 ·cases e;exact hF4 (k:=13) Y.f.k11 rfl Y.f.q92 rfl (by unfold sU;trivial)
 ·cases e;exact hF4 (k:=13) Y.f.k12 rfl Y.f.q93 rfl (by unfold uo;trivial)
 ·cases e⟩
instance:Df B 1 "_law_cell_at" (spF B.G oh):=gF4 rfl Y.f.q94 rfl (by unfold ve;trivial)
instance:Df B 1 "_law_draws" (spN B.G qt):=gN4 rfl Y.f.q95 rfl (by unfold xq;trivial)
instance:Df B 1 "_law_take" (spM B.G mm):=gM4 rfl Y.f.q96 rfl rfl (by unfold yT;trivial)
instance:Df B 2 "_law_names" (spM B.G uu):=gM4 rfl Y.f.q97 rfl rfl (by unfold ur;trivial)
instance:Df B 2 "_law_others" (spL B.G o8):=gL4 rfl Y.f.q98 rfl (by unfold qR;trivial)
instance:Df B 3 "_law_spec" (spF B.G vh):=gF4 rfl Y.f.q99 rfl (by unfold vg;trivial)
instance:Df B 1 "_law_ways" (spN B.G vn):=gN4 rfl Y.f.q100 rfl (by unfold vm;trivial)
instance:Df B 15 "_law_world" (spF B.G uw):=gF4 rfl Y.f.q101 rfl (by unfold uv;trivial)
instance:Df B 1 "_law_of" (spN B.G nI):=gN4 rfl Y.f.q102 rfl (by unfold BG;trivial)
instance:Df B 2 "_law_mosts" (spF B.G nU):=gF4 rfl Y.f.q103 rfl (by unfold ux;trivial)
instance:Df B 2 "_law_command" (spL B.G pH):=gL4 rfl Y.f.q104 rfl (by unfold qu;trivial)
instance:Df B 1 "_law_form" (spF B.G qa):=gF4 rfl Y.f.q105 rfl (by unfold yU;trivial)
instance:Df B 2 "_law_place" (spL B.G rG):=gL4 rfl Y.f.q106 rfl (by unfold rF;trivial)
instance:Df B 3 "_law_marked" (spL B.G qT):=gL4 rfl Y.f.q107 rfl (by unfold qS;trivial)
instance:Df B 3 "_law_moved" (spL B.G oW):=gL4 rfl Y.f.q108 rfl (by unfold rH;trivial)
instance:Df B 4 "_law_put" (spL B.G qM):=gL4 rfl Y.f.q109 rfl (by unfold qL;trivial)
instance:Df B 1 "_law_given" (spF B.G rJ):=gF4 rfl Y.f.q110 rfl (by unfold xt;trivial)
instance:Df B 3 "_law_due" (spF B.G qN):=gF4 rfl Y.f.q111 rfl (by unfold sf;trivial)
theorem Lq:Bdz B (nmO (top 162)) "law" (top 162) (nu (top 162)) 15 KP:=by
 unfold KP;refine Ku ?_ ?_
 all_goals trivial
end
end K27x
namespace K27x
open PySem L2 L3 L4
def GR(K:aj):Sp:=λvs H Q _=>∃(a:Addr) (ns:List Int),vs=[.ref a]/\SqL K H a (ns.map V.int)/\ns.length<=63/\∀H',Q (.bl true) H'
theorem BN{G:Bg}{H:Hp}:∀ns:List Int,mB G H (ns.map D.int) (ns.map V.int)
 |[]=>mV
 |n::ns=>mW (pd n) (BN ns)
theorem N6{G:Bg}:∀vs H Q E,GR G.K vs H Q E->spF G Oq vs H Q E:=λvs H Q E h=>by obtain⟨a,ns,rfl,hs,hl,k⟩:=h;refine⟨H,[.fzl (ns.map D.int)],.bl true,mI.refl _,mW (by unfold L4.Rep;exact⟨a,_,rfl,hs,BN ns⟩) mV,SF ns hl,λv H0' H' _ _ _ _ r=>?_⟩;unfold L4.Rep at r;subst r;exact k H'
theorem all_mk{l:fN}{w:ak}{K:aj}{h:Heap}{mg:Str->Option aa}{fa:Addr}(X:K.In h)(Gn:h.Ns mainGlobals mg)(hfa:mg "law" = some (.ref fa)){C0 C1 C2 C3 C4 C5 C6 C7 C8 C9 C10 C11 C12 C13 C14:Addr}(F:Fx K C0 C1 C2 C3 C4 C5 C6 C7 C8 C9 C10 C11 C12 C13 C14):
  ∃fd:bg,(∀(s:ab) (v:aa),eS s fd ⟨[v],[]⟩ [("_law_script", v)])/\∀base:Heap,K.In base->base.Ns mainGlobals mg->qU l.prog w K mg base CX0 16 fa fd ["_law_script"] (GR K):=by
 have gen:∃B:Bg,B.K=K/\B.ca 0=C0/\B.ca 1=C1/\B.ca 2=C2/\B.ca 3=C3/\B.ca 4=C4/\B.ca 5=C5/\B.ca 6=C6/\B.ca 7=C7/\B.ca 8=C8/\B.ca 9=C9/\B.ca 10=C10/\B.ca 11=C11/\B.ca 12=C12/\B.ca 13=C13/\B.ca 14=C14:=⟨⟨K,λc=>[C0,C1,C2,C3,C4,C5,C6,C7,C8,C9,C10,C11,C12,C13,C14].getD c 0⟩,rfl,rfl,rfl,rfl,rfl,rfl,rfl,rfl,rfl,rfl,rfl,rfl,rfl,rfl,rfl,rfl⟩;obtain⟨B,rfl,rfl,rfl,rfl,rfl,rfl,rfl,rfl,rfl,rfl,rfl,rfl,rfl,rfl,rfl,rfl⟩:=gen;have Z:∀base,Yx ⟨l.prog,w,mg,base,B⟩:=λbase=>⟨⟨h,X,Gn⟩,F⟩;obtain⟨f,fd,a,FF⟩:=F.q112;have e:=hfa.symm.trans (gW X Gn a);cases e;obtain⟨oc,od,kV,doc,pm,an,cdv,ct,osl,rfl,lk,hcd⟩:=FF.ex;exact⟨_,λs v=>.of_eq rfl,λbase _ _=>(JI rfl rfl rfl FF (okk (N:=nmO (top 162)) (ps:=["_law_script"]) (np:=1) (n:=13) (by kernel_rfl)).1 ((@Lq _ (Z base)).ok rfl _)).imp (N6 (G:=B))⟩
theorem walk{l:fN}{q:aq}{loose:List Str}{XP:(Str->Option aa)->Heap->Prop}{YP:ak->Heap->Prop}{d:DefRec}{K:fS->aj}(hn:l.most=some 63)(hdf:d.params.defaults=[])
  (hY:∀(w:ak) (h:Heap),YP w h->(K w.params).In h)
  (F:∀(w:ak) (mg:Str->Option aa) (fa:Addr) (h:Heap),(K w.params).In h->h.Ns mainGlobals mg->mg d.name=some (.ref fa)->
   ∃fd:bg,(∀(s:ab) (u:aa),eS s fd ⟨[u],[]⟩ [("_law_script", u)])/\∀base:Heap,(K w.params).In base->base.Ns mainGlobals mg->qU l.prog w (K w.params) mg base CX0 16 fa fd ["_law_script"] (GR (K w.params))):
  W.WalkO q loose XP YP l.row.toRowW d [] (λf vs=>jF f vs):=
 L2.L6 (n:=63) (k:=16) (x:="_law_script") (CX:=λ_=>CX0) (sp:=λw=>GR (K w.params)) hn (by decide) hdf ⟨rfl,by decide,by decide⟩ hY F (λ_ _ a ns hl _ hS=>⟨a,ns,rfl,hS,hl,λ_=>rfl⟩) λ_ _ _ _ _ z=>z
end K27x
set_option maxHeartbeats 0
open PySem PySem.W PyProof.Rows
theorem PySem.Challenge.cw_tellworld_k27_reads_and_changes_of_deeds_holds : PySem.Challenge.rw_tellworld_k27_reads_and_changes_of_deeds.Holds := by
 refine hd ?_
 k_fill
 refine K27x.walk (l:=PySem.Challenge.rw_tellworld_k27_reads_and_changes_of_deeds) rfl rfl (λw h Y=>Y) ?F
 case F=>
  intro w mg fa h KX G hmg;refine' K27x.all_mk KX G hmg ?Q
  case Q=>
   constructor
   all_goals first
   |k_is
   |kernel_rfl
   |exact⟨⟨⟨by k_is,by k_is,by k_is,by k_is⟩,by k_is,by k_is,by k_is,by k_is⟩,by k_is,by k_is,by kernel_rfl⟩
   |exact⟨_,by k_is⟩
   |exact⟨_,_,by k_is,⟨_,_,_,_,_,_,_,_,_,rfl,by k_is,by k_is⟩,by k_is⟩
   |exact⟨_,_,by k_is,by k_is,⟨_,_,_,_,_,_,_,_,_,rfl,by k_is,by k_is⟩,by k_is⟩
   |exact⟨_,_,_,_,by k_is,by k_is,by rfl,by rfl,by simp,by repeat' first|exact .nil|exact .cons rfl .nil|refine .cons rfl ?_⟩
   |exact⟨_,_,_,_,[_],_,by k_is,by k_is,⟨⟨_,_,_,_,_,_,_,_,_,rfl,by k_is,by k_is⟩,by k_is⟩,by k_is,by rfl,.cons (by first|rfl|exact⟨_,rfl⟩) .nil⟩
   |exact⟨_,_,_,_,[_,_,_],_,by k_is,by k_is,⟨⟨_,_,_,_,_,_,_,_,_,rfl,by k_is,by k_is⟩,by k_is⟩,by k_is,by rfl,.cons (by first|rfl|exact⟨_,rfl⟩) (.cons (by first|rfl|exact⟨_,rfl⟩) (.cons (by first|rfl|exact⟨_,rfl⟩) .nil))⟩
end
