import PyProof.Rows.All
import Open.Pieces
import OpenK.KLine
import PySem.Challenge.RW_tellworld_k14_what_is_no_stand
import Wide.All
import OpenK.AllK
import Wide.FinOn
import PyProof.EqAt
import PyProof.EqKinds
import PyProof.TupleCall
import PyProof.StrWalks
import PyProof.ConsumeWalk
import PyProof.NeKinds
import PyProof.Rows.SetFrom
import KE.KIsAll
import PyProof.WalksMore
import PyProof.TupleKey
import PyProof.DictWalks
import PyProof.Rows.ZipGen
import KE.KDictLaws
import PyProof.DictItems
import KE.KSortTup
import PyProof.TupleOfSeq
import PyProof.Rows.SortStr
import PyProof.Rows.StrInSeq3
import PyProof.TupleIter
import KE.KDictOf
import PyProof.CollectWalk
import PyProof.Rows.SeqMore
set_option compiler.extract_closed false
noncomputable section
open List renaming length_map->ah,getElem?_eq_getElem->aI,length_append->ay,map_cons->ar,length_cons->aF,length_singleton->aZ,mem_cons_self->aS,mem_cons_of_mem->ba,map_map->aK,size_toArray->aT,mem_map->aL,mem_singleton->aW,getD_eq_getElem?_getD->bH,map_append->aR,mem_cons->aP,getElem?_eq_some_iff->bP,mem_append_right->bD,getElem?_map->bt,mem_append->bb,mem_append_left->bE,length_take->br,append_assoc->bw,not_mem_nil->bu,all_eq_true->bB,append_nil->bz,nodup_append->bO,length_drop->bM,nil_append->bI,getElem?_set->bQ,length_replicate->cf,range->bg,mem_map_of_mem->cg,mem_of_getElem?->cu,nodup_cons->bV,map_nil->bJ,getElem?_append_right->c7,getElem?_append_left->c8,getElem_mem->cj,mem_filter->ck,mem_range->cm,zipWith_cons_cons->du,zip_cons_cons->dc,pairwise_iff_getElem->fg,length->b0,length_nil->cQ,getElem?_drop->dv,length_range->dw,lookup_cons->dD,getElem?_replicate->fO,find?_cons->dE,length_set->dF,zipWith->cR,lookup->cH,getElem?_eq_none->fQ,length_filter_le->fR,drop_eq_getElem_cons->hE,length_zip->eC,any_eq_true->fq,length_eq_zero_iff->hU,getElem?_set_self->hX,any_cons->eF,getElem?_zipWith->ia,mem_iff_getElem->ib,nodup_nil->fw,filter_cons->f6,map_congr_left->ie,all_cons->fz,map_drop->fA,map_take->fC,replicate->f9,take_sublist->il,take_of_length_le->jr,getElem_map->iy,cons_append->iA,getElem?_set_ne->jt,mem_erase_of_ne->jw,of_mem_zip->iC,countP_eq_length_filter->lj,filterMap_cons->jx,length_zipWith->jy,getElem_of_mem->jz,filter_eq_self->jA,toArray->gu,mem_filterMap->jC,getElem?_zip_eq_some->ly,length_erase_of_mem->lF,getElem_inj->jL,getElem?_cons_succ->lG,drop_eq_nil_of_le->lI,length_pos_of_mem->lK,forIn_cons->jR,contains_iff_mem->lR,take_append_drop->lT,mem_of_mem_drop->lY,mem_of_mem_take->lZ,getElem?_range->l5,length_pos_iff->l7,zip_map'->jZ,contains_cons->me,getElem_range->ml,ext_getElem?->mr,any_eq_false->mw,pairwise_map->mE,zipIdx_cons->mM,ext_getElem->mO,map_id->kz,zip_append->mR,foldl_cons->mS,zipIdx_nil->mU,forIn_nil->m6,drop_zero->m7,drop_nil->ng,all_map->nr
open PySem renaming wpAny_bind->ag,Value->aa,Shared->ae,wpAny_pure->au,Program->aA,Around->aE,World->av,sizeLine_eq->bK,Spec->nS,wpAny_mono->bT,wpAny_truthy_bool->cO,wpAny_field->cb,FuncData->bL,wpAny_holding->cz,wpAny_callSpecial?_slot->fi,wpAny_Call_Name_kw->dX,wpAny_call_entry->dB,wpAny_seqItems->df,wpAny_newObj_type->dZ,IsPair->bF,wpAny_passesOwn->eB,codeAny_builtin->eD,wpAny_pyIter_list->fo,mem_of_lookup->fS,wpAny_setField_rec->fU,wpAny_setState_of->fW,codeAny_mono->fD,NameKind->cU,wpAny_forIn_list->ir,wpAny_pyIter_zip->iu,wpAny_execs_nil->iB,Builtin->cW,wpAny_pyIter_tuple->jB,tupleKind_room_in1->jG,IsZip->bX,ZipApart->dN,wpAny_letOwnedTupleGo_zip->lC,Paired->eL,plainId_quiet->iI,noFill_tuple_add->jM,IsPart->cY,wpAny_typeOf->iK,Keyword->dO,call_meetsIn->iM,Scope->cx,wpAny_loadPart'->lL,wpAny_isTrue_Compare1->lN,wpAny_eqIsQuiet_tuple->lO,wpAny_updateSeq_pair->lX,seq_tuple_add->jV,wpAny_onRaise->jY,Result->dP,call_meets->iR,wpAny_pyHash_tuple->mh,wpAny_rule->iV,Within->j3,GenState->gv,BindsTo->fJ,concat_meets->j7,wpAny_sequenceKey->mx,slot_list_getitem->my,wpAny_Call_method->mC,PassesOwn->iW,seqIndex_of->ku,wpAny_Name->kB,Operator->iX,wpAny_call->kC,PlainAttrs->kF,call->kG,SetTable->jc,boot_len->m5,CmpOp->eP,Params->gH
open PySem.Heap renaming get?_push_of_some->aH,get?_push_size->bq,lt_size->aM,size_push->cF,SameBut->eG,get?_update_other->jq,get?_update_self->lQ
open Nat renaming le_refl->az,ne_of_lt->bf,lt_of_lt_of_le->bU,le_trans->bS,le_of_ble_eq_true->c9,zero_le->bW,lt_irrefl->cG,lt_succ_of_lt->ee,le_add_right->eh,min_eq_left->eE,min_self->dG,ble_eq->dh,lt_succ_self->fZ,lt_trichotomy->iq,le_of_lt->gm,ne_of_gt->gn,lt_of_le_of_lt->jH,ble->dm,le_succ->iO,add_right_comm->l8,sub_self->j9,le_of_not_lt->mJ,not_lt_zero->mW,beq->gA
open Bool renaming false_ne_true->bj,and_eq_true->bo,eq_iff_iff->de,false_eq_true->fm,not_eq_true'->fX,eq_false_iff->ip,or_eq_false_iff->jv,or_eq_true->mQ,and_false->mZ,rec->kK
open PySem.W renaming Frag->ao,kia_one->cn,emptyDict->dg,kas_descPart->dJ,kitOne->cA,findIn->cI,kas_count->di,instObj->dM,kas_asc->cK,kas_rev->cX,kas_tail3->eK,keepIn->eM,kas_place->fF,kas_sort->eO,OpenLaw->fG,kas_desc->fH,plainGet_of->jU,plainGet->iP,callWith_K->j6,kat_cons->gz,cellsFrom_some->mG,methodObj->km,hasDictIn->ko,kitx_list->kq,kitx_dict->kr,methodCall_KW->mP,kas_ask->gG,lookIn->iY,fnOf->fK,takerIn->kI,kat_yes->je,nsIn->gK,mg_of->jf
open Prod renaming fst->aD,snd->fI,ext->ja
open Int renaming eq_ofNat_of_zero_le->cq,toNat_natCast->dY,emod_lt_of_pos->mq,emod_nonneg->mX
open Option.some renaming inj->bZ
open PyProof.Rows renaming slot_tuple_getitem->dU,AllBare->dj,subscriptTail_builtinR->lH,IsTup->cB,entry_tuple_getitem->l3,lt_str->l6,listUpdate_at->jX,args_tuple_getitem->md,SortKind->gx,seqEpoch_at->ky,IntsAre->gB,Subscript_->kE
open Array renaming length_toList->cE,getElem?_eq_getElem->hG,perm_iff_toList_perm->lu,getElem?_toList->lM,forIn_toList->mf,toList->nh
open PyProof.Rows.F renaming plain_set_update_loop->dt,entry_set_update_loop->fP
open PySem.Builtin.SmallTypes renaming nextOf->dW,ownedTupleIsFree->gX,ownedTupleHandOut->kZ
open PySem.SetTable.probe renaming go->cP
open List.Sublist renaming refl->dA
open PySem.Builtin.List renaming listTooLong->fN
open PySem.Around renaming under_plainId->fj,in1_units->iw,under->j4
open PySem.SetTable renaming insertAt->ef,below->gf,has->gq,Probe->iF,fresh->iG,bits->iJ,runEnd->jS,fill->jW,put->j8,gaveWay->mK,tooFull->mL,slot->m9
open False renaming elim->cv
open PySem.F renaming slot_tuple_iterator_next->gY,called_set->dH,plainAttrs_list->fY,slot_dict_itemiterator_iter->lg,args_tuple_iterator_next_1->lh,slot_zip_next->iE,entry_tuple_iterator_next->ll,args_tuple_add_2->jD,slot_list_append->jE,slot_list_extend->jF,entry_tuple_add->jJ,plainAttrs_dict->jK,slot_tuple_add->jN,slot_dict_setdefault->lJ,slot_list_pop->jP,slot_dict_get->jQ,args_list_extend_2->lU,sub_list_frozenset->lW,entry_list_extend->l4,type_list_append->mm,args_dict_get_2->mB,slot_dict_items->mD,args_zip_next_1->mF,entry_dict_get->mI,entry_zip_next->mN,plain_set_new->mT,type_list_pop->mV
open PySem.Builtin.Slice renaming slicePlaces->gZ,sliceAdjust->jo,sliceApplied->lq
open Option renaming map_some->eA,getD_some->jO,getD_none->mH
open PySem.Builtin.Tuple renaming tupleExact->hJ,tupleItemsOf->lr
open PySem.Calls renaming spliced_cons->fT,callWith_builtin->hZ,spliced_nil->ik,evalArgs_plain->ju,Name_function_global->lp
open PySem.SetTable.below renaming go->fV
open PySem.Heap.SameBut renaming update->ic
open PySem.SeqAt.EqAt renaming same->f7,str_str->ig,of_refs->jI,int_str->l9,str_int->ma
open PySem.Str renaming ofString->fE
open PySem.Obj renaming mapSeq->eI,data_mapFields->mj,putSet->kH
open Ne renaming symm->cJ
open LawfulBEq renaming eq_of_beq->eJ
open List.Perm renaming refl->iH
open PySem.AutoSeq1 renaming sub_tuple_tuple->lD,wpAny_loadPart'->lE
open Nat.succ renaming inj->iN
open PySem.Paired renaming length->jT,snoc->ny
open PySem.SeqAt renaming EqAt->iQ
open PySem.Walks renaming list->iU
open PySem.Code renaming isFrame->j5
open Prod.mk renaming inj->kj
open Sum.inr renaming inj->kl
open PySem.Moved renaming trans->kx
open PySem.Builtin.Frozenset renaming updateFrom->nO,newClass->nP
open PySem.PassesOwn renaming never->mY
open PySem.Txt renaming mul->gE
open PySem.Value renaming isStrOf->m8,isInt->nu
open PyProof.Rows.IsTup renaming new->kJ
open PySem.W.KatTups renaming cons->ni,nil->nz
open PySem.Shared renaming heap->nD
open PySem.Heap.IsSliceOf renaming new->nQ
open PySem.W.WShape renaming has->nE
def aO:=@decide_eq_false
def ai:=@if_pos
def aj:=@if_neg
def aV:=@decide_eq_true
def aq:=@absurd
def bA:=@of_decide_eq_true
def bR:=@decide_eq_true_eq
def aQ:=@congrArg
abbrev bY:=List (PySem.Addr×PySem.Obj)
abbrev aG:=List PySem.Str
set_option Elab.async false
set_option linter.all false
namespace L5
open PySem PySem.W
noncomputable def pick(l:List Obj):Nat->List Addr->List Obj:=
 @List.rec Obj (λ_=>Nat->List Addr->List Obj) (λ_ _=>[])
  (λo _ ih i as=>@List.rec Addr (λ_=>List Obj) [] (λa r _=>@kK (λ_=>List Obj) (ih (Nat.succ i) as) (o::ih (Nat.succ i) r) (gA a i)) as) l
theorem JI(i:Nat)(as:List Addr):pick [] i as=[]:=rfl
theorem MC(o:Obj)(l:List Obj)(i:Nat)(r:List Addr):pick (o::l) i (i::r)=o::pick l (i+1) r:=by show @kK (λ_=>List Obj) _ _ (gA i i)=_;rw[Nat.beq_refl];rfl
theorem ME(o:Obj)(l:List Obj)(i a:Nat)(r:List Addr)(h:a≠i):pick (o::l) i (a::r)=pick l (i+1) (a::r):=by
 show @kK (λ_=>List Obj) _ _ (gA a i)=_;have:gA a i=false:=by
  cases q:gA a i with
  |false=>rfl
  |true=>exact aq (Nat.eq_of_beq_eq_true q) h
 rw[this];rfl
theorem Dd:∀(l:List Obj) (i:Nat) (as:List Addr),(pick l i as).length=as.length->∀j (hj:j<as.length),∃b,as[j]=i+b/\l[b]?=(pick l i as)[j]?
 |[],i,as,h,j,hj=>by rw[JI]at h;simp at h;omega
 |o::l,i,[],h,j,hj=>by simp at hj
 |o::l,i,a::r,h,j,hj=>by
  by_cases q:a=i
  ·subst q;rw[MC]at h ⊢;cases j with
   |zero=>exact⟨0,rfl,rfl⟩
   |succ j=>obtain⟨b,e1,e2⟩:=Dd l (a+1) r (by simpa using h) j (by simpa using hj);exact⟨b+1,by rw[List.getElem_cons_succ,e1];exact l8 a 1 b,by simpa using e2⟩
  ·rw[ME _ _ _ _ _ q]at h ⊢;obtain⟨b,e1,e2⟩:=Dd l (i+1) (a::r) h j hj;exact⟨b+1,by rw[e1];exact l8 i 1 b,by simpa using e2⟩
def live(o:Obj):Bool:=match o with|⟨_,_,.freed,_⟩=>false|_=>true
theorem MF{h:Heap}{as:List Addr}{K:Frag}(e:as=K.map (·.1))(x:(pick h.objs.toList 0 as,K.all λp=>live p.2)=(K.map (·.2),true)):K.In h:=by
 obtain⟨x1,x2⟩:=kj x;refine Frag.in_of e (mr λj=>?_);rw[bt,bt];by_cases hj:j<as.length
 ·have hl:(pick h.objs.toList 0 as).length=as.length:=by rw[x1,e,ah,ah]
  obtain⟨b,e1,e2⟩:=Dd _ _ _ hl j hj;have hk:j<K.length:=by rw[e,ah]at hj;exact hj
  rw[aI hj,aI hk,eA,eA,e1,Nat.zero_add];have e3:h.objs[b]?=some (K[j].2):=by rw[<-lM,e2,x1,bt,aI hk];rfl
  have lv:live K[j].2=true:=bB.mp x2 _ (cj hk);refine aQ some ?_;unfold Heap.get?;rw[e3];revert lv;cases K[j].2 with
  |mk c d data sl=>cases data<;>intro lv<;>first|rfl|cases lv
 ·rw[fQ (by omega),fQ (by rw[e,ah]at hj;omega)];rfl
noncomputable def TY(K:gH->Frag) (as:List Addr) (e:∀P,as=(K P).map (·.1)):Hook:=
 ⟨List Obj×Bool,λs=>(pick s.heap.objs.toList 0 as,true),λw=>((K w.params).map (·.2),(K w.params).all λp=>live p.2),InK K,λw s x=>MF (e w.params) (by
  obtain⟨x1,x2⟩:=kj x;rw[x1,<- x2]),InK.keeps⟩
end L5
section
open PySem PySem.W PyProof.Rows
local macro_rules|`(tactic|o_head ($f:ident $k $as $e))=>`(tactic|o_head ((L5.TY $k $as (fun _=>by kernel_rfl)):W.Hook))
local macro_rules|`(command|#where)=>do
 let mut r:=#[]
 for n in [43:1618] do
  let x:=Lean.mkIdent (.mkSimple s!"tw{((Lean.Name.mkSimple "hd").str s!"o_{n}").hash}")
  r:=r.push (<-`(command|noncomputable def $x:ident:=0))
 return Lean.mkNullNode r
noncomputable section
namespace PySem.W.Fast
def tw1195576458392583583:=0
def tw16619731068620839264:=0
def tw14902404871612966209:=0
def tw8364913853820886051:=0
def tw8822426999631765252:=0
def tw9705477135408329381:=0
def tw3807551135121213062:=0
def tw2867014007035675111:=0
def tw9735313446372819911:=0
def tw17857573840586476776:=0
def tw18114667055027709512:=0
def tw10374632558016547081:=0
def tw16235109116225965483:=0
def tw938635154573522699:=0
def tw13536697082488969260:=0
def tw8574918690776348908:=0
def tw7774113678449685934:=0
def tw15087498900868403761:=0
def tw13864475334247403922:=0
def tw18321811997921969970:=0
def tw861502493610598483:=0
def tw7155359931933253843:=0
def tw6344153461787385748:=0
def tw10154100198183459062:=0
def tw8052244275606854038:=0
def tw15650983165834976151:=0
def tw12762875093394152760:=0
def tw7464973903666647704:=0
def tw16280658162054754363:=0
def tw1286537293598278779:=0
def tw8948772413515650267:=0
def tw10673173482417419163:=0
def tw2885690892925829340:=0
def tw5114918623987374716:=0
def tw9091096368081409181:=0
def tw13547580713308418461:=0
def tw16554620878154911915:=0
def tw9431664283623546001:=0
def tw12507383769852195889:=0
def tw13700598899030691371:=0
def tw3673062499827665668:=0
def tw18016078282354151974:=0
def tw7069829875005968155:=0
def tw6784737039638806343:=0
def tw16357459271908865706:=0
def tw8997383693586321770:=0
def tw8417117291929306728:=0
def tw17072688794708867480:=0
def tw12620199105350444395:=0
def tw11687508290434121412:=0
#where
end PySem.W.Fast
end
set_option maxRecDepth 100000 in
set_option maxHeartbeats 0 in
open_top hd for PySem.Challenge.rw_tellworld_k14_what_is_no_stand
end
set_option maxRecDepth 100000
namespace L2
open PySem PySem.Spec PyProof.Rows
abbrev Key:=Sum Int Str
def B2:Key->aa->Bool
 |.inl k,v=>nu k v
 |.inr x,v=>m8 x v
def Vt(w:av):Key->Int
 |.inl k=>hashInt k
 |.inr x=>hashStr w x
theorem pH:∀{k:Key} {v:aa},B2 k v=true->(∃i t,k=Sum.inl i/\v=Value.int i t)\/(∃x t,k=Sum.inr x/\v=Value.str x t)
 |.inl i,v,h=>by obtain⟨t,e⟩:=Value.isInt_shape (k:=i) (v:=v) h;exact .inl ⟨i,t,rfl,e⟩
 |.inr x,v,h=>by obtain⟨t,e⟩:=Value.isStrOf_shape (x:=x) (v:=v) h;exact .inr ⟨x,t,rfl,e⟩
theorem Ia(i:Int)(t:Tok):B2 (.inl i) (.int i t)=true:=by simp[B2,nu]
theorem Ib(x:Str)(t:Tok):B2 (.inr x) (.str x t)=true:=by simp[B2,m8]
theorem PD(a b:Int):decide ((Sum.inl a:Key)=Sum.inl b)=(a==b):=by
 by_cases e:a=b
 ·subst e;simp
 ·have h:¬(Sum.inl a:Key)=Sum.inl b:=λq=>e (Sum.inl.inj q);rw[aO h];exact(beq_eq_false_iff_ne.mpr e).symm
theorem PF(a b:Str):decide ((Sum.inr a:Key)=Sum.inr b)=decide (a=b):=by
 by_cases e:a=b
 ·subst e;simp
 ·have h:¬(Sum.inr a:Key)=Sum.inr b:=λq=>e (kl q);rw[aO h,aO e]
theorem PH(a:Int)(b:Str):decide ((Sum.inl a:Key)=Sum.inr b)=false:=aO (λq=>nomatch q)
theorem PJ(a:Str)(b:Int):decide ((Sum.inr a:Key)=Sum.inl b)=false:=aO (λq=>nomatch q)
def oI(prog:aA)(w:av):PySem.KeyKind prog w Key where
 is:=B2
 hash:=Vt w
 inj:=λv a b ha hb=>by
  rcases pH ha with ⟨i,t,rfl,rfl⟩|⟨x,t,rfl,rfl⟩
  ·rcases pH hb with ⟨j,u,rfl,e⟩|⟨y,u,rfl,e⟩
   ·injection e with e1 _;rw[e1]
   ·exact nomatch e
  ·rcases pH hb with ⟨j,u,rfl,e⟩|⟨y,u,rfl,e⟩
   ·exact nomatch e
   ·injection e with e1 _;rw[e1]
 byValue:=λk v h=>by rcases pH h with ⟨i,t,rfl,rfl⟩|⟨x,t,rfl,rfl⟩<;>rfl
 pyHash:=λhv h=>by
  rcases pH hv with ⟨i,t,rfl,rfl⟩|⟨x,t,rfl,rfl⟩
  ·exact wpAny_pyHash_int h
  ·exact wpAny_pyHash_str h
 eqBool:=λhu hv h=>by
  rcases pH hu with ⟨i,t,rfl,rfl⟩|⟨x,t,rfl,rfl⟩
  ·rcases pH hv with ⟨j,u,rfl,rfl⟩|⟨y,u,rfl,rfl⟩
   ·rw[PD]at h;exact wpAny_eqBool_int h
   ·rw[PH]at h;exact l9 i t y u _ _ _ _ h
  ·rcases pH hv with ⟨j,u,rfl,rfl⟩|⟨y,u,rfl,rfl⟩
   ·rw[PJ]at h;exact ma x t j u _ _ _ _ h
   ·rw[PF]at h;exact wpAny_eqBool_str h
 «strs»:=λk x t v h=>by
  rcases pH h with ⟨i,u,rfl,e⟩|⟨y,u,rfl,e⟩
  ·exact nomatch e
  ·injection e with e1 _;subst e1;cases v<;>rfl
theorem D8(prog:aA)(w:av)(i:Int)(t:Tok):(oI prog w).is (.inl i) (.int i t)=true:=Ia i t
theorem D9(prog:aA)(w:av)(x:Str)(t:Tok):(oI prog w).is (.inr x) (.str x t)=true:=Ib x t
inductive V where
 |non|bl (b:Bool)|int (i:Int)|str (x:Str)|byt (b:Array UInt8)|flt (b:UInt64)|ref (a:Addr)|ty (n:String)
 deriving DecidableEq
abbrev bp:=List V
def RelV:V->aa->Prop
 |.non,u=>u=Value.none
 |.bl b,u=>u=Value.bool b
 |.int i,u=>∃t,u=Value.int i t
 |.str x,u=>∃t,u=Value.str x t
 |.byt b,u=>∃t,u=Value.bytes b t
 |.flt b,u=>∃t,u=Value.float b t
 |.ref a,u=>u=Value.ref a
 |.ty n,u=>u=Value.type n
abbrev Vals:bp->List aa->Prop:=eL RelV
variable{us:List aa}
theorem Vals.length{xs:bp}(r:Vals xs us):xs.length=us.length:=jT r
theorem Vals.get:∀{xs:bp} {us:List aa} {i:Nat} {x:V},Vals xs us->xs[i]?=some x->∃u,us[i]?=some u/\RelV x u
 |_,_,_,_,.nil,e=>by simp at e
 |_,_,0,_,.cons r _,e=>by simp at e;subst e;exact⟨_,rfl,r⟩
 |_,_,i+1,x,.cons _ t,e=>by obtain⟨u,h1,h2⟩:=Vals.get (i:=i) (x:=x) t (by simpa using e);exact⟨u,by simpa using h1,h2⟩
variable{u:aa}
theorem Vals.set{x:V}(r:RelV x u):∀{xs:bp} {us:List aa} (i:Nat),Vals xs us->Vals (xs.set i x) (us.set i u)
 |_,_,_,.nil=>.nil
 |_,_,0,.cons _ t=>.cons r t
 |_,_,i+1,.cons q t=>.cons q (Vals.set r i t)
theorem Vals.append:∀{xs ys:bp} {us ws:List aa},Vals xs us->Vals ys ws->Vals (xs++ys) (us++ws)
 |_,_,_,_,.nil,s=>s
 |_,_,_,_,.cons r t,s=>.cons r (Vals.append t s)
theorem Vals.take:∀{xs:bp} {us:List aa} (n:Nat),Vals xs us->Vals (xs.take n) (us.take n)
 |_,_,0,_=>.nil
 |_,_,_+1,.nil=>.nil
 |_,_,n+1,.cons r t=>.cons r (Vals.take n t)
theorem Vals.drop:∀{xs:bp} {us:List aa} (n:Nat),Vals xs us->Vals (xs.drop n) (us.drop n)
 |_,_,0,r=>r
 |_,_,_+1,.nil=>.nil
 |_,_,n+1,.cons _ t=>Vals.drop n t
def vT:Option V->Option aa->Prop
 |some v,some u=>RelV v u
 |none,none=>True
 |_,_=>False
def KV{κ:Type}:List (κ×V)->List (κ×aa)->Prop:=eL λ(p:κ×V) (q:κ×aa)=>p.1=q.1/\RelV p.2 q.2
def kV:Key->V
 |.inl i=>.int i
 |.inr x=>.str x
inductive HO where
 |lst (xs:bp)
 |tup (xs:bp)
 |dK (kvs:List (Key×V))|dT (kvs:List (List Key×V))
 |set (S:Int->Bool) (n:Nat)
 |ins (C dx:Addr) (fs:List (Str×V))
 |own (x:Addr)
 |xd (fs:List (Str×V))
 |met (f x:Addr)
 |rng (lo hi:Int)
 |frz (o:Obj) (u:HO)
 |tbl (ps:Array aa)
 |ext (φ:Heap->Prop)
abbrev Hp:=Addr->Option HO
def upd(H:Hp)(a:Addr)(o:HO):Hp:=λb=>if b=a then some o else H b
variable{a:Addr}
theorem oa{H:Hp}{o:HO}:upd H a o a=some o:=by unfold upd;rw[ai rfl]
variable{b:Addr}
theorem og{H:Hp}{o:HO}(h:b≠a):upd H a o b=H b:=by unfold upd;rw[aj h]
theorem TZ{H:Hp}{o u:HO}(h:H a=some o)(h':H b=some u)(d:o≠u):a≠b:=by intro e;subst e;rw[h]at h';exact d (bZ h')
theorem qO{H:Hp}{o:HO}(h:H a=some o)(h':H b=none):a≠b:=by intro e;subst e;rw[h]at h';cases h'
section
variable(P:aA)(w:av)
def pD(H:Hp)(h:Heap)(a:Addr):HO->Prop
 |.lst xs=>xs.length<=sizeLine/\∃(its:List aa) (n:Nat),Vals xs its/\h.get? a=some { cls:=.type "list", data:=.seq its.toArray n }
 |.tup xs=>xs.length<=sizeLine/\∃its:List aa,Vals xs its/\cB h a its.toArray
 |.dK kvs=>kvs.length<=sizeLine/\(a==sysModules)=false/\∃vs,KV kvs vs/\h.DictOf (oI P w) a vs
 |.dT kvs=>kvs.length<=sizeLine/\(a==sysModules)=false/\∃xs:List (List Key×Addr×aa),
   eL (λ(p:List Key×V) (q:List Key×Addr×aa)=>p.1=q.1/\H q.2.1=some (.tup (p.1.map kV))/\RelV p.2 q.2.2) kvs xs/\
   ∃o es ep,h.get? a=some o/\o.ExactDict/\o.data=.dict es ep/\es.toList=xs.map (entryOfKey (tupleKind (oI P w)))/\(xs.map (·.1)).Nodup
 |.set S n=>h.SetOf (intKind P w) a S n
 |.ins C dx fs=>H dx=some (.own a)/\fs.length<=1000/\dx≠a/\h.get? a=some (dM C dx)/\
   ∃mA,h.Ns1 dx mA/\(∀f,vT (fs.lookup f) (mA f))/\j3 mA (fs.map (·.1))
 |.own _=>∃o,h.get? a=some o
 |.xd fs=>∃mA,h.Ns1 a mA/\∀f,vT (fs.lookup f) (mA f)
 |.rng lo hi=>∃t u v,h.get? a=some { cls:=.type "range", data:=.fields #[.int lo t,.int hi u,.int 1 v] }
 |.frz o u=>h.get? a=some o/\pD H h a u
 |.tbl ps=>h.get? a=some { cls:=.none,data:=.fields ps }
 |.met f x=>h.get? a=some (km (.ref f) (.ref x))
 |.ext φ=>φ h/\(∃o,h.get? a=some o)/\∀h1 h2:Heap,φ h1->(∀o,h1.get? a=some o->h2.get? a=some o)->φ h2
def HOk(H:Hp)(h:Heap):Prop:=∀a o,H a=some o->pD P w H h a o
end
section
variable{P:aA}{w:av}{H H':Hp}{h h':Heap}{a:Addr}{o:HO}
theorem pD.lt(x:pD P w H h a o):a<h.objs.size:=by
 cases o with
 |lst xs=>obtain⟨_,_,_,_,e⟩:=x;exact aM e
 |tup xs=>obtain⟨_,_,_,p⟩:=x;exact p.lt
 |dK kvs=>obtain⟨_,_,_,_,o,_,_,e,_⟩:=x;exact aM e
 |dT kvs=>obtain⟨_,_,_,_,o,_,_,e,_⟩:=x;exact aM e
 |set S n=>obtain⟨o,_,_,_,e,_⟩:=x;exact aM e
 |ins C dx fs=>obtain⟨_,_,_,e,_⟩:=x;exact aM e
 |own y=>obtain⟨_,e⟩:=x;exact aM e
 |xd fs=>obtain⟨_,⟨_,_,_,e,_⟩,_⟩:=x;exact aM e
 |rng lo hi=>obtain⟨_,_,_,e⟩:=x;exact aM e
 |frz ob u=>obtain⟨e,_⟩:=x;exact aM e
 |tbl ps=>exact aM (show h.get? a=some _ from x)
 |met f y=>exact aM (show h.get? a=some _ from x)
 |ext φ=>obtain⟨_,⟨_,e⟩,_⟩:=x;exact aM e
theorem Paired.mapP{α β:Type}{F G:α->β->Prop}:∀{l₁:List α} {l₂:List β},eL F l₁ l₂->(∀a b,F a b->G a b)->eL G l₁ l₂
 |_,_,.nil,_=>.nil
 |_,_,.cons r t,f=>.cons (f _ _ r) (Paired.mapP t f)
theorem pD.stay(x:pD P w H h a o)(k:∀b u,(b=a\/H b=some (.own a))->h.get? b=some u->h'.get? b=some u)
  (ho:∀b,H b=some (.own a)->H' b=some (.own a)) (ht:∀b xs,H b=some (.tup xs)->H' b=some (.tup xs)):pD P w H' h' a o:=by
 induction o with
 |lst xs=>obtain⟨z,its,n,r,e⟩:=x;exact⟨z,its,n,r,k _ _ (.inl rfl) e⟩
 |tup xs=>obtain⟨z,its,r,ob,e,c⟩:=x;exact⟨z,its,r,ob,k _ _ (.inl rfl) e,c⟩
 |dK kvs=>obtain⟨z,y,vs,r,ob,es,ep,e,c⟩:=x;exact⟨z,y,vs,r,ob,es,ep,k _ _ (.inl rfl) e,c⟩
 |dT kvs=>obtain⟨z,y,xs,r,ob,es,ep,e,c⟩:=x;exact⟨z,y,xs,Paired.mapP r λp q z=>⟨z.1,ht _ _ z.2.1,z.2.2⟩,ob,es,ep,k _ _ (.inl rfl) e,c⟩
 |set S n=>obtain⟨ob,es,ep,t,e,c⟩:=x;exact⟨ob,es,ep,t,k _ _ (.inl rfl) e,c⟩
 |ins C dx fs=>obtain⟨d,z,ne,e,mA,⟨od,es,ep,e2,c⟩,r⟩:=x;exact⟨ho _ d,z,ne,k _ _ (.inl rfl) e,mA,⟨od,es,ep,k _ _ (.inr d) e2,c⟩,r⟩
 |own y=>obtain⟨ob,e⟩:=x;exact⟨ob,k _ _ (.inl rfl) e⟩
 |xd fs=>obtain⟨mA,⟨od,es,ep,e,c⟩,r⟩:=x;exact⟨mA,⟨od,es,ep,k _ _ (.inl rfl) e,c⟩,r⟩
 |rng lo hi=>obtain⟨t,u,v,e⟩:=x;exact⟨t,u,v,k _ _ (.inl rfl) e⟩
 |frz ob u ih=>obtain⟨e,q⟩:=x;exact⟨k _ _ (.inl rfl) e,ih q⟩
 |tbl ps=>have e:h.get? a=some { cls:=.none,data:=.fields ps }:=x;show h'.get? a=some { cls:=.none,data:=.fields ps };exact k a _ (.inl rfl) e
 |met f y=>have e:h.get? a=some (km (.ref f) (.ref y)):=x;show h'.get? a=some (km (.ref f) (.ref y));exact k a _ (.inl rfl) e
 |ext φ=>obtain⟨p,⟨o,e⟩,st⟩:=x;exact⟨st _ _ p λo q=>k _ _ (.inl rfl) q,⟨o,k _ _ (.inl rfl) e⟩,st⟩
theorem HOk.lt(x:HOk P w H h)(e:H a=some o):a<h.objs.size:=(x a o e).lt
theorem HOk.fresh(x:HOk P w H h)(e:h.objs.size<=a):H a=none:=by
 cases q:H a with
 |none=>rfl
 |some u=>exact aq (bU (x.lt q) e) (cG _)
theorem HOk.kept(x:HOk P w H h)(k:∀b u,h.get? b=some u->h'.get? b=some u):HOk P w H h':=λa o e=>
 (x a o e).stay (λb u _ q=>k b u q) (λ_ q=>q) λ_ _ q=>q
theorem HOk.laid(x:HOk P w H h)(k:∀b u,h.get? b=some u->h'.get? b=some u)(hp:h.objs.size<=a)(new:pD P w (upd H a o) h' a o):HOk P w (upd H a o) h':=λb u e=>by
 have hn:=x.fresh hp;by_cases hb:b=a
 ·subst hb;rw[oa]at e;cases e;exact new
 ·rw[og hb]at e;exact(x b u e).stay (λc v _ q=>k c v q) (λc q=>by rw[og (qO q hn)];exact q) λc xs q=>by rw[og (qO q hn)];exact q
end
def Rd(H:Hp)(a:Addr)(u:HO):Prop:=H a=some u\/∃o,H a=some (.frz o u)
theorem Rd.ok{P:aA}{w:av}{H:Hp}{h:Heap}{u:HO}(r:Rd H a u)(x:HOk P w H h):pD P w H h a u:=by
 rcases r with r|⟨o,r⟩
 ·exact x a u r
 ·obtain⟨_,q⟩:=x a _ r;exact q
def Mut:Option HO->Prop
 |some (.lst _)=>True
 |some (.dK _)=>True
 |some (.dT _)=>True
 |some (.set _ _)=>True
 |some (.ins _ _ _)=>True
 |some (.ext _)=>True
 |_=>False
section
variable{P:aA}{w:av}{H:Hp}{h h':Heap}{x e:Addr}{o':HO}
theorem HOk.write(ok:HOk P w H h)(mu:Mut (H x))(he:e=x\/H e=some (.own x))(k:∀b u,b≠e->h.get? b=some u->h'.get? b=some u)(heo:∃u,h'.get? e=some u)
  (new:pD P w (upd H x o') h' x o'):HOk P w (upd H x o') h':=λb u q=>by
 have nown:∀c y,H c=some (.own y)->c≠x:=λc y r z=>by subst z;rw[r]at mu;exact mu
 have ntup:∀c xs,H c=some (.tup xs)->c≠x:=λc xs r z=>by subst z;rw[r]at mu;exact mu
 by_cases hb:b=x
 ·subst hb;rw[oa]at q;cases q;exact new
 ·rw[og hb]at q;by_cases hbe:b=e
  ·have q':H b=some (.own x):=by
    rcases he with z|z
    ·exact aq (hbe.trans z) hb
    ·rw[hbe];exact z
   rw[q]at q';cases q';obtain⟨v,hv⟩:=heo;exact⟨v,by rw[hbe];exact hv⟩
  ·refine(ok b u q).stay (λc v hc r=>k c v ?_ r) (λc r=>by rw[og (nown c b r)];exact r) λc xs r=>by rw[og (ntup c xs r)];exact r
   rcases hc with rfl|hc
   ·exact hbe
   ·rintro rfl;rcases he with z|z
    ·exact nown c b hc z
    ·rw[hc]at z;cases z;exact hb rfl
end
structure Un(fs ex:List Addr)(H H':Hp)(h h':Heap):Prop where
 keep:∀b o,h.get? b=some o->H b=none->b∉fs->b∉ex->h'.get? b=some o
 slot:∀b o,h.get? b=some o->H b=none->b∈fs->b∉ex->∃sl,h'.get? b=some { o with slots:=sl }
 free:∀b o,h.get? b=some o->H b=none->b∉ex->H' b=none
 there:∀b o,h.get? b=some o->b∉ex->∃o',h'.get? b=some o'
 tups:∀b xs,H b=some (.tup xs)->H' b=some (.tup xs)
 frzs:∀b o u,H b=some (.frz o u)->H' b=some (.frz o u)
 tbls:∀b ps,H b=some (.tbl ps)->∃more,H' b=some (.tbl (ps++more))
section
variable{fs fs' ex ex':List Addr}{H H1 H2:Hp}{h h1 h2 h':Heap}{a x e:Addr}{o:HO}
theorem Un.any(u:Un fs ex H H1 h h1){ob:Obj}(q:h.get? b=some ob)(n:H b=none)(hx:b∉ex):∃sl,h1.get? b=some { ob with slots:=sl }:=by
 by_cases hb:b∈fs
 ·exact u.slot b ob q n hb hx
 ·exact⟨ob.slots,u.keep b ob q n hb hx⟩
theorem Un.kept(k:∀b u,h.get? b=some u->h'.get? b=some u):Un fs ex H H h h':=
 ⟨λb ob q _ _ _=>k b ob q,λb ob q _ _ _=>⟨ob.slots,k b ob q⟩,λ_ _ _ n _=>n,λb ob q _=>⟨ob,k b ob q⟩,λ_ _ q=>q,λ_ _ _ q=>q,λ_ ps q=>⟨#[],by rw[q];simp⟩⟩
theorem Un.refl:Un fs ex H H h h:=Un.kept λ_ _ q=>q
theorem Un.laid(k:∀b u,h.get? b=some u->h'.get? b=some u)(hp:h.objs.size<=a)(hn:H a=none):Un fs ex H (upd H a o) h h' where
 keep:=λb u q _ _ _=>k b u q
 slot:=λb u q _ _ _=>⟨u.slots,k b u q⟩
 free:=λb u q n _=>by rw[og (bf (bU (aM q) hp))];exact n
 there:=λb u q _=>⟨u,k b u q⟩
 tups:=λb xs q=>by rw[og (qO q hn)];exact q
 frzs:=λb u xs q=>by rw[og (qO q hn)];exact q
 tbls:=λb ps q=>⟨#[],by rw[og (qO q hn),q];simp⟩
theorem Un.write(mu:Mut (H x))(he:e=x\/H e=some (.own x))(k:∀b u,b≠e->h.get? b=some u->h'.get? b=some u)(heo:∃u,h'.get? e=some u):Un fs ex H (upd H x o) h h':=by
 have hx:∀b,H b=none->b≠x:=λb n z=>by subst z;rw[n]at mu;exact mu
 have hb:∀b,H b=none->b≠e:=λb n z=>by
  subst z;rcases he with r|r
  ·exact hx b n r
  ·rw[n]at r;cases r
 have hm:∀b u,H b=some u->¬Mut (some u)->b≠x:=λb u q nm z=>by subst z;rw[q]at mu;exact nm mu
 refine⟨λb u q n _ _=>k b u (hb b n) q,λb u q n _ _=>⟨u.slots,k b u (hb b n) q⟩,λb u q n _=>by rw[og (hx b n)];exact n,λb u q _=>?_,
  λb xs q=>by rw[og (hm b _ q λz=>z)];exact q,λb u xs q=>by rw[og (hm b _ q λz=>z)];exact q,λb ps q=>⟨#[],by rw[og (hm b _ q λz=>z),q];simp⟩⟩
 by_cases hbe:b=e
 ·subst hbe;exact heo
 ·exact⟨u,k b u hbe q⟩
end
def trk(h:Heap)(H:Hp):List Addr:=(bg h.objs.size).filter λa=>(H a).isSome
def De(h:Heap)(H:Hp):Heap:=W.hideAll h (trk h H)
theorem Ie(h:Heap)(H:Hp):(De h H).objs.size=h.objs.size:=W.hideAll_size _ _
theorem JJ{h:Heap}{H:Hp}{o:Obj}(e:h.get? b=some o)(n:H b=none):(De h H).get? b=some o:=
 W.hideAll_get _ e λhm=>by have q:(H b).isSome=true:=(ck.mp hm).2;rw[n]at q;simp at q
theorem MG{h:Heap}{H:Hp}{o:Obj}(e:(De h H).get? b=some o):h.get? b=some o/\H b=none:=by
 have e':h.get? b=some o:=W.of_hideAll (trk h H) e;refine⟨e',?_⟩;cases q:H b with
 |none=>rfl
 |some x=>have hm:b∈trk h H:=ck.mpr ⟨cm.mpr (aM e'),by simp[q]⟩;have z:(De h H).get? b=none:=W.hideAll_none (trk h H) hm;rw[z]at e;cases e
def MH(g h:Heap)(L:Addr):bY:=(bg h.objs.size).filterMap λa=>if a=L\/(g.get? a).isSome=true then none else (h.get? a).map λo=>(a,o)
def rest(g h:Heap)(L d:Addr):bY:=(MH g h L).filter λp=>decide (p.1≠d)
structure Mod(K:ao)(mg:Str->Option aa)(base:Heap):Prop where
 kin:K.In base
 glob:base.Ns mainGlobals mg
 blt:∃mb,base.Ns builtinsNs mb/\∀x:Str,x≠"__name__" -> mb x=bootBuiltins x
 nolimit:base.NoLimit
structure Cx where
 prog:aA
 w:av
 K:ao
 mg:Str->Option aa
 base:Heap
 A:aE
 N:aG
 s₀:ae
 H₀:Hp
 env:Env
 outer:List Env
 stack:List Env
 ex:List Addr
 fn:Str->Bool
 calm:Bool
 pn:bY
 xe:aa->ae->Prop
def frs(l:List Env):List Addr:=l.filterMap (·.frame)
abbrev Cx.fs(X:Cx):List Addr:=frs X.outer
def Vis(sc:cx)(x:Str):Prop:=sc.names.lookup x=some .local\/sc.names.lookup x=some .cell\/sc.names.lookup x=some .free
def Loc(sc:cx)(x:Str):Prop:=sc.names.lookup x=some .local\/sc.names.lookup x=some .cell
def Look(env:Env)(h:Heap)(m:Str->Option aa)(x:Str)(u:aa):Prop:=
 (env.kindOf x=some .local/\m x=some u)\/((env.kindOf x=some .cell\/env.kindOf x=some .free)/\∃c,env.cells.lookup x=some c/\h.IsCell c (some u))
structure Cx.Ok(X:Cx):Prop where
 mod:Mod X.K X.mg X.base
 kind:X.env.scope.kind=.function
 glob:X.env.globals=mainGlobals
 blt:X.env.builtins=builtinsNs
 above:X.s₀.heap.objs.size<=X.env.locals
 inj:∀x y c,X.env.cells.lookup x=some c->X.env.cells.lookup y=some c->x=y
 has:∀x,(X.env.kindOf x=some .cell\/X.env.kindOf x=some .free)->∃c,X.env.cells.lookup x=some c
 cab:∀x c,X.fn x=true->X.env.cells.lookup x=some c->X.s₀.heap.objs.size<=c
 hd:X.calm=true->X.A.handled=none
 frames:X.A.frames=some X.stack
 stk:X.stack=X.outer\/(X.stack=X.env::X.outer/\X.env.frame=some X.env.locals)
 exf:∀b∈X.ex,b≠X.env.locals/\∀x c,X.env.cells.lookup x=some c->c≠b
 bs:∀b o,X.base.get? b=some o->X.s₀.heap.get? b=some o/\X.H₀ b=none
 bsz:X.base.objs.size<=X.s₀.heap.objs.size
 noex:∀b o,X.base.get? b=some o->b∉X.ex
 exfs:∀b∈X.ex,b∉X.fs
 funs:X.s₀.heap.FunFrames X.base X.outer
 frf:∀b∈X.fs,X.H₀ b=none
structure Inv(X:Cx)(pins:bY)(σ:List (Option V))(H:Hp)(s:ae):Prop where
 ok:X.Ok
 os:s.os=X.s₀.os
 bare:dj s.gens
 base:Un X.fs X.ex X.H₀ H X.s₀.heap s.heap
 loc:∃m,s.heap.Ns X.env.locals m/\∀(i:Nat) (x:Str) (v:V),X.N[i]?=some x->σ[i]?=some (some v)->Vis X.env.scope x->∃u,RelV v u/\Look X.env s.heap m x u
 cell:∀x c,X.env.cells.lookup x=some c->∃v,s.heap.IsCell c v
 free:H X.env.locals=none
 freeC:∀x c,X.env.cells.lookup x=some c->H c=none
 pin:∀p∈X.pn++pins,s.heap.get? p.1=some p.2/\H p.1=none/\p.1≠X.env.locals/\p.1∉X.fs/\∀v,p.2.data≠.cell v
 hok:HOk X.prog X.w H s.heap
 len:σ.length=X.N.length
variable{g':Array gv}{t' i j:Nat}{d':Drawn}{ch:List Addr}{it:Addr}{N:aG}{M:Model}{E:aa->ae->Prop}{s':ae}
section
variable{X:Cx}{pins:bY}{σ:List (Option V)}{H H':Hp}{s:ae}{h':Heap}
theorem Cx.Ok.nofr(ok:X.Ok){o:Obj}(e:X.base.get? b=some o):b∉X.fs:=λhb=>by have:=(ok.funs.mem hb).1;rw[e]at this;cases this
theorem Inv.bs(I:Inv X pins σ H s):∀b o,X.base.get? b=some o->s.heap.get? b=some o/\H b=none:=λb o e=>
 ⟨I.base.keep b o (I.ok.bs b o e).1 (I.ok.bs b o e).2 (I.ok.nofr e) (I.ok.noex b o e),I.base.free b o (I.ok.bs b o e).1 (I.ok.bs b o e).2 (I.ok.noex b o e)⟩
theorem Inv.bk(I:Inv X pins σ H s):∀b o,X.base.get? b=some o->s.heap.get? b=some o:=λb o e=>(I.bs b o e).1
theorem Inv.mod(I:Inv X pins σ H s):Mod X.K X.mg X.base:=I.ok.mod
theorem Inv.kIn(I:Inv X pins σ H s):X.K.In s.heap:=I.ok.mod.kin.keeps I.bk
theorem Inv.fr(I:Inv X pins σ H s):∃m,Fr X.base X.env.locals s.heap m:=
 let ⟨m,hn,_⟩:=I.loc
 ⟨m,hn,I.bk,bS I.ok.bsz I.ok.above⟩
theorem Inv.lt(I:Inv X pins σ H s):X.env.locals<s.heap.objs.size:=let ⟨_,hn,_⟩:=I.loc;hn.lt
theorem Inv.sz(I:Inv X pins σ H s):X.s₀.heap.objs.size<=s.heap.objs.size:=bS I.ok.above (gm I.lt)
theorem Inv.nofs(I:Inv X pins σ H s)(h:s.heap.objs.size<=a):a∉X.fs:=λhb=>by obtain⟨_,o,ho,_⟩:=I.ok.funs.mem hb;exact aq (bU (aM ho) (bS I.sz h)) (cG _)
theorem Inv.cne(I:Inv X pins σ H s):∀x c,X.env.cells.lookup x=some c->c≠X.env.locals:=λx c e z=>by obtain⟨v,o,ho,hd⟩:=I.cell x c e;obtain⟨m,⟨o',es,ep,ho',hd',_⟩,_⟩:=I.loc;rw[z,ho']at ho;cases ho;rw[hd']at hd;cases hd
theorem Inv.funs(I:Inv X pins σ H s):s.heap.FunFrames X.base X.outer:=by
 have all:∀(l:List Env),(∀b∈frs l,b∈X.fs)->X.s₀.heap.FunFrames X.base l->s.heap.FunFrames X.base l:=by
  intro l
  induction l with
  |nil=>intro _ _;trivial
  |cons env r ih=>intro hs hl;obtain⟨hk,⟨L,o,hf,hn,ho,hd⟩,hr⟩:=hl;have hL:L∈X.fs:=hs L (by unfold frs;rw[jx,hf];exact aS);obtain⟨sl,e⟩:=I.base.slot L o ho (I.ok.frf L hL) hL λz=>I.ok.exfs L z hL;exact⟨hk,⟨L,_,hf,hn,e,hd⟩,ih (λb hb=>hs b (by unfold frs;rw[jx,hf];exact ba _ hb)) hr⟩
 exact all X.outer (λ_ hb=>hb) I.ok.funs
theorem Inv.stack(I:Inv X pins σ H s):s.heap.FunFrames X.base X.stack:=by
 rcases I.ok.stk with e|⟨e,hf⟩
 ·rw[e];exact I.funs
 ·rw[e];obtain⟨m,hn,_⟩:=I.loc;refine .cons (by rw[I.ok.kind];decide) hf hn ?_ I.funs;exact Heap.get?_none_of_le (bS I.ok.bsz I.ok.above)
theorem Inv.stkSub(I:Inv X pins σ H s):∀b∈frs X.stack,b∈X.env.locals::X.fs:=λb hb=>by
 rcases I.ok.stk with e|⟨e,hf⟩
 ·rw[e]at hb;exact ba _ hb
 ·rw[e]at hb;unfold frs at hb;rw[jx,hf]at hb;exact hb
theorem Inv.stkFree(I:Inv X pins σ H s):∀b∈frs X.stack,H b=none:=λb hb=>by
 rcases aP.mp (I.stkSub b hb)with e|hb
 ·rw[e];exact I.free
 ·obtain⟨_,o,ho,_⟩:=I.ok.funs.mem hb;exact I.base.free b o ho (I.ok.frf b hb) λz=>I.ok.exfs b z hb
theorem Inv.step(I:Inv X pins σ H s)
  (hch:∀b∈ch,(b∈X.ex\/X.s₀.heap.objs.size<=b)/\b≠X.env.locals/\(∀x c,X.env.cells.lookup x=some c->c≠b)/\∀p∈X.pn++pins,p.1≠b)
  (keep:∀b o,b≠X.env.locals->b∉X.fs->b∉ch->s.heap.get? b=some o->H b=none->h'.get? b=some o)
  (slot:∀b o,b≠X.env.locals->b∈X.fs->b∉ch->s.heap.get? b=some o->H b=none->∃sl,h'.get? b=some { o with slots:=sl }) (free:∀b o,b∉ch->s.heap.get? b=some o->H b=none->H' b=none)
  (there:∀b o,b∉ch->s.heap.get? b=some o->∃o',h'.get? b=some o')
  (tups:∀b xs,H b=some (.tup xs)->H' b=some (.tup xs)) (frzs:∀b o u,H b=some (.frz o u)->H' b=some (.frz o u)) (tbls:∀b ps,H b=some (.tbl ps)->∃more,H' b=some (.tbl (ps++more)))
  (ns:∀m,s.heap.Ns X.env.locals m->h'.Ns X.env.locals m) (hok:HOk X.prog X.w H' h') (hg:dj g'):
  Inv X pins σ H' { s with heap:=h',gens:=g',drawn:=d',toks:=t' }:=by
 have neL:∀b o,X.s₀.heap.get? b=some o->b≠X.env.locals:=λb o e=>bf (bU (aM e) I.ok.above);have neC:∀b o,X.s₀.heap.get? b=some o->b∉X.ex->b∉ch:=λb o e hx hb=>by
  rcases(hch b hb).1 with z|z
  ·exact hx z
  ·exact aq (bU (aM e) z) (cG _)
 have cellK:∀x c,X.env.cells.lookup x=some c->∀v,s.heap.IsCell c v->h'.IsCell c v:=λx c e v ⟨o,ho,hd⟩=>by
  have nch:c∉ch:=λz=>(hch c z).2.2.1 x c e rfl;by_cases hc:c∈X.fs
  ·obtain⟨sl,q⟩:=slot c o (I.cne x c e) hc nch ho (I.freeC x c e);exact⟨_,q,hd⟩
  ·exact⟨o,keep c o (I.cne x c e) hc nch ho (I.freeC x c e),hd⟩
 refine⟨I.ok,I.os,hg,⟨λb o e n hb hx=>?_,λb o e n hb hx=>?_,λb o e n hx=>?_,λb o e hx=>?_,λb xs e=>tups b xs (I.base.tups b xs e),λb o xs e=>frzs b o xs (I.base.frzs b o xs e),λb ps e=>?_⟩,?_,λx c e=>?_,?_,λx c e=>?_,λp hp=>?_,hok,I.len⟩
 ·exact keep b o (neL b o e) hb (neC b o e hx) (I.base.keep b o e n hb hx) (I.base.free b o e n hx)
 ·obtain⟨sl,e1⟩:=I.base.slot b o e n hb hx;obtain⟨sl',e2⟩:=slot b _ (neL b o e) hb (neC b o e hx) e1 (I.base.free b o e n hx);exact⟨sl',e2⟩
 ·obtain⟨o',e1⟩:=I.base.there b o e hx;exact free b o' (neC b o e hx) e1 (I.base.free b o e n hx)
 ·obtain⟨o',e1⟩:=I.base.there b o e hx;exact there b o' (neC b o e hx) e1
 ·obtain⟨m1,e1⟩:=I.base.tbls b ps e;obtain⟨m2,e2⟩:=tbls b _ e1;exact⟨m1++m2,by rw[e2,Array.append_assoc]⟩
 ·obtain⟨m,hn,hl⟩:=I.loc;refine⟨m,ns m hn,λi x v e1 e2 e3=>?_⟩;obtain⟨u,r,l⟩:=hl i x v e1 e2 e3;refine⟨u,r,?_⟩;rcases l with l|⟨k,c,e,z⟩
  ·exact .inl l
  ·exact .inr ⟨k,c,e,cellK x c e _ z⟩
 ·obtain⟨v,z⟩:=I.cell x c e;exact⟨v,cellK x c e v z⟩
 ·obtain⟨m,⟨o,_,_,ho,_⟩,_⟩:=I.loc;exact free _ o (λz=>(hch _ z).2.1 rfl) ho I.free
 ·obtain⟨v,o,ho,hd⟩:=I.cell x c e;exact free c o (λz=>(hch c z).2.2.1 x c e rfl) ho (I.freeC x c e)
 ·obtain⟨e,n,ne,nf,d⟩:=I.pin p hp;have nch:p.1∉ch:=λz=>(hch p.1 z).2.2.2 p hp rfl;exact⟨keep p.1 p.2 ne nf nch e n,free p.1 p.2 nch e n,ne,nf,d⟩
theorem Inv.un(I:Inv X pins σ H s)(u:Un X.fs [] H H' s.heap h')(hok:HOk X.prog X.w H' h'):Inv X pins σ H' { s with heap:=h',toks:=t' }:=by
 obtain⟨m,⟨o,es,ep,ho,r⟩,_⟩:=id I.loc;obtain⟨sl,hL⟩:=u.any ho I.free (by simp);exact I.step (g':=s.gens) (d':=s.drawn) (ch:=[]) (λ_ z=>nomatch z) (λb o _ hb _ e n=>u.keep b o e n hb (by simp)) (λb o _ hb _ e n=>u.slot b o e n hb (by simp)) (λb o _ e n=>u.free b o e n (by simp)) (λb o _ e=>u.there b o e (by simp)) u.tups u.frzs u.tbls (λm' hm=>by
  obtain⟨o',es',ep',ho',r'⟩:=hm;rw[ho]at ho';cases ho';exact⟨_,es',ep',hL,r'⟩) hok I.bare
theorem Inv.call(I:Inv X pins σ H s)(u:Un (frs X.stack) ch H H' s.heap h')(hok:HOk X.prog X.w H' h')(hg:dj g')
  (hch:∀b∈ch,(b∈X.ex\/X.s₀.heap.objs.size<=b)/\b≠X.env.locals/\(∀x c,X.env.cells.lookup x=some c->c≠b)/\∀p∈X.pn++pins,p.1≠b):
  Inv X pins σ H' { s with heap:=h',gens:=g',drawn:=d',toks:=t' }:=by
 obtain⟨m,⟨o,es,ep,ho,r⟩,_⟩:=id I.loc;obtain⟨sl,hL⟩:=u.any ho I.free λz=>(hch _ z).2.1 rfl;exact I.step (ch:=ch) hch (λb o hL hb hc e n=>u.keep b o e n (λz=>(aP.mp (I.stkSub b z)).elim hL hb) hc) (λb o _ _ hc e n=>u.any e n hc) (λb o hc e n=>u.free b o e n hc) (λb o hc e=>u.there b o e hc) u.tups u.frzs u.tbls (λm' hm=>by
  obtain⟨o',es',ep',ho',r'⟩:=hm;rw[ho]at ho';cases ho';exact⟨_,es',ep',hL,r'⟩) hok hg
theorem Inv.turned(I:Inv X pins σ H s)(k:∀b o,b≠it->s.heap.get? b=some o->h'.get? b=some o)(hn:H it=none)(hL:it≠X.env.locals)
  (h1:it∈X.ex\/X.s₀.heap.objs.size<=it) (h2:∀x c,X.env.cells.lookup x=some c->c≠it) (h3:∀p∈X.pn++pins,p.1≠it):Inv X pins σ H { s with heap:=h',toks:=t' }:=by
 have nit:∀b u,H b=some u->b≠it:=λb u e z=>by rw[z,hn]at e;cases e
 refine I.step (g':=s.gens) (d':=s.drawn) (ch:=[it]) (λb hb=>?_) (λb o _ _ hc e _=>k b o (λz=>hc (by simp[z])) e) (λb o _ _ hc e _=>⟨o.slots,k b o (λz=>hc (by simp[z])) e⟩) (λ_ _ _ _ n=>n)
  (λb o hc e=>⟨o,k b o (λz=>hc (by simp[z])) e⟩) (λ_ _ e=>e) (λ_ _ _ e=>e) (λb ps e=>⟨#[],by rw[e];simp⟩) (λm hm=>?_) (λb u e=>?_) I.bare
 ·have e:b=it:=by simpa using hb
  subst e;exact⟨h1,hL,h2,h3⟩
 ·obtain⟨o,es,ep,ho,r⟩:=hm;exact⟨o,es,ep,k _ o (cJ hL) ho,r⟩
 ·refine(I.hok b u e).stay (λc v hc q=>k c v ?_ q) (λ_ q=>q) λ_ _ q=>q;rcases hc with z|z
  ·rw[z];exact nit b u e
  ·exact nit c _ z
theorem Inv.tok(I:Inv X pins σ H s)(t:Nat):Inv X pins σ H { s with toks:=t }:=I.un (h':=s.heap) (t':=t) Un.refl I.hok
theorem Inv.kept(I:Inv X pins σ H s)(k:∀b u,s.heap.get? b=some u->h'.get? b=some u):Inv X pins σ H { s with heap:=h',toks:=t' }:=I.un (Un.kept k) (I.hok.kept k)
theorem Inv.laid{o:HO}(I:Inv X pins σ H s)(k:∀b u,s.heap.get? b=some u->h'.get? b=some u)(hp:s.heap.objs.size<=a)(new:pD X.prog X.w (upd H a o) h' a o):
  Inv X pins σ (upd H a o) { s with heap:=h',toks:=t' }:=I.un (Un.laid k hp (I.hok.fresh hp)) (I.hok.laid k hp new)
theorem Inv.write{x e:Addr}{o:HO}(I:Inv X pins σ H s)(mu:Mut (H x))(he:e=x\/H e=some (.own x))(k:∀b u,b≠e->s.heap.get? b=some u->h'.get? b=some u)(heo:∃u,h'.get? e=some u)
  (new:pD X.prog X.w (upd H x o) h' x o):Inv X pins σ (upd H x o) { s with heap:=h',toks:=t' }:=I.un (Un.write mu he k heo) (I.hok.write mu he k heo new)
theorem Inv.weak{σ':List (Option V)}(I:Inv X pins σ H s)(hl:σ'.length=σ.length)(w:∀(i:Nat) v,σ'[i]?=some (some v)->σ[i]?=some (some v)):Inv X pins σ' H s:=
 ⟨I.ok,I.os,I.bare,I.base,let ⟨m,hn,hl'⟩:=I.loc;⟨m,hn,λi x v e1 e2 e3=>hl' i x v e1 (w i v e2) e3⟩,I.cell,I.free,I.freeC,I.pin,I.hok,hl.trans I.len⟩
theorem Inv.pins_of{pins':bY}(I:Inv X pins σ H s)(h:∀p∈pins',s.heap.get? p.1=some p.2/\H p.1=none/\p.1≠X.env.locals/\p.1∉X.fs/\∀v,p.2.data≠.cell v):Inv X pins' σ H s:=
 ⟨I.ok,I.os,I.bare,I.base,I.loc,I.cell,I.free,I.freeC,λp hp=>(bb.mp hp).elim (λz=>I.pin p (bE _ z)) (h p),I.hok,I.len⟩
theorem Ea(hN:N.Nodup){x:Str}(a:N[i]?=some x)(b:N[j]?=some x):i=j:=by obtain⟨h1,e1⟩:=bP.mp a;obtain⟨h2,e2⟩:=bP.mp b;exact(jL hN).mp (e1.trans e2.symm)
theorem Ig{A:aE}{x:Str}{v:V}{Q:Unit->ae->Prop}(I:Inv X pins σ H s)(hN:X.N.Nodup)(hi:X.N[i]?=some x)(hx:Loc X.env.scope x)(r:RelV v u)
  (h:∀s',Inv X pins (σ.set i (some v)) H s'->(∃a,eG a s.heap s'.heap/\(a=X.env.locals\/X.env.cells.lookup x=some a))->Q () s') (hf:X.fn x=true\/X.env.scope.names.lookup x=some .local:=by first|exact .inl rfl|exact .inr rfl|assumption):wpAny M A (storeName X.env x u) Q E s:=by
 obtain⟨m,hn,hl⟩:=id I.loc;have hcls:(X.env.scope.kind==.class||(X.env.scope.kind==.module&&X.env.locals != X.env.globals))=false:=by rw[I.ok.kind];rfl
 have hiσ:i<σ.length:=by rw[I.len];exact(bP.mp hi).1
 have cne:=I.cne;have tracked:∀{a:Addr} {h':Heap},(∃o,s.heap.get? a=some o/\H a=none)->eG a s.heap h'->HOk X.prog X.w H h':=λ{a h'} ha hs b ob e=>by
  obtain⟨_,_,hfree⟩:=ha;refine(I.hok b ob e).stay (λc w' hc q=>(hs.2 c ?_).trans q) (λ_ q=>q) λ_ _ q=>q;rintro rfl;rcases hc with rfl|hc
  ·rw[hfree]at e;cases e
  ·rw[hfree]at hc;cases hc
 rcases hx with hk|hk
 ·refine wpAny_storeName_local hk hn (λh' hn' hs=>?_) hcls;obtain⟨oL,_,_,hoL,_⟩:=id hn;refine h _ ⟨I.ok,I.os,I.bare,⟨λb o e n hb hx=>?_,λb o e n hb hx=>?_,I.base.free,λb o e hx=>?_,I.base.tups,I.base.frzs,I.base.tbls⟩,⟨_,hn',λj y v' e1 e2 e3=>?_⟩,λy c e=>?_,I.free,I.freeC,λp hp=>?_,tracked ⟨oL,hoL,I.free⟩ hs,by simpa using I.len⟩ ⟨_,hs,.inl rfl⟩
  ·exact(hs.2 b (bf (bU (aM e) I.ok.above))).trans (I.base.keep b o e n hb hx)
  ·obtain⟨sl,e1⟩:=I.base.slot b o e n hb hx;exact⟨sl,(hs.2 b (bf (bU (aM e) I.ok.above))).trans e1⟩
  ·obtain⟨o',e1⟩:=I.base.there b o e hx;exact⟨o',(hs.2 b (bf (bU (aM e) I.ok.above))).trans e1⟩
  ·by_cases hj:j=i
   ·subst hj;rw[hi]at e1;cases e1;rw[hX hiσ]at e2;cases e2;exact⟨u,r,.inl ⟨hk,by simp⟩⟩
   ·rw[jt (cJ hj)]at e2;obtain⟨u',r',q⟩:=hl j y v' e1 e2 e3;refine⟨u',r',?_⟩;rcases q with ⟨k,e⟩|⟨k,c,e,z⟩
    ·refine .inl ⟨k,?_⟩;have:y≠x:=λe=>hj (Ea hN e1 (e▸hi));simp[this,e]
    ·exact .inr ⟨k,c,e,z.sameBut hs (cne y c e)⟩
  ·obtain⟨w',z⟩:=I.cell y c e;exact⟨w',z.sameBut hs (cne y c e)⟩
  ·obtain⟨e,n,ne,nf,d⟩:=I.pin p hp;exact⟨(hs.2 p.1 ne).trans e,n,ne,nf,d⟩
 ·have hfn:X.fn x=true:=by
   rcases hf with z|z
   ·exact z
   ·rw[z]at hk;cases hk
  obtain⟨c,hc⟩:=I.ok.has x (.inl hk);obtain⟨w',z⟩:=I.cell x c hc;refine wpAny_storeName_cell I.ok.kind hk hc z (λh' hc' hs=>?_);obtain⟨oc,hoc,hocd⟩:=id z;refine h { s with heap:=h' } ⟨I.ok,I.os,I.bare,⟨λb o e n hb hx=>?_,λb o e n hb hx=>?_,I.base.free,λb o e hx=>?_,I.base.tups,I.base.frzs,I.base.tbls⟩,⟨m,hn.sameBut hs (cJ (cne x c hc)),λj y v' e1 e2 e3=>?_⟩,λy c' e=>?_,I.free,I.freeC,λp hp=>?_,tracked ⟨oc,hoc,I.freeC x c hc⟩ hs,by simpa using I.len⟩ ⟨c,hs,.inr hc⟩
  ·exact(hs.2 b (bf (bU (aM e) (I.ok.cab x c hfn hc)))).trans (I.base.keep b o e n hb hx)
  ·obtain⟨sl,e1⟩:=I.base.slot b o e n hb hx;exact⟨sl,(hs.2 b (bf (bU (aM e) (I.ok.cab x c hfn hc)))).trans e1⟩
  ·obtain⟨o',e1⟩:=I.base.there b o e hx;exact⟨o',(hs.2 b (bf (bU (aM e) (I.ok.cab x c hfn hc)))).trans e1⟩
  ·by_cases hj:j=i
   ·subst hj;rw[hi]at e1;cases e1;rw[hX hiσ]at e2;cases e2;exact⟨u,r,.inr ⟨.inl hk,c,hc,hc'⟩⟩
   ·rw[jt (cJ hj)]at e2;obtain⟨u',r',q⟩:=hl j y v' e1 e2 e3;refine⟨u',r',?_⟩;rcases q with q|⟨k,c',e,z'⟩
    ·exact .inl q
    ·refine .inr ⟨k,c',e,z'.sameBut hs ?_⟩;rintro rfl;exact hj (Ea hN e1 (I.ok.inj _ _ _ e hc▸hi))
  ·by_cases hcc:c'=c
   ·subst hcc;exact⟨_,hc'⟩
   ·obtain⟨w2,z2⟩:=I.cell y c' e;exact⟨w2,z2.sameBut hs hcc⟩
  ·obtain⟨e,n,ne,nf,d⟩:=I.pin p hp;refine⟨(hs.2 p.1 ?_).trans e,n,ne,nf,d⟩;intro q;rw[q,hoc]at e;have q':oc=p.2:=bZ e;exact d w' (by rw[<-q'];exact hocd)
theorem Eb{A:aE}{x:Str}{v:V}{Q:Unit->ae->Prop}(I:Inv X pins σ H s)(hN:X.N.Nodup)(hi:X.N[i]?=some x)(hx:Loc X.env.scope x)(r:RelV v u)
  (h:∀s',Inv X pins (σ.set i (some v)) H s'->Q () s') (hf:X.fn x=true\/X.env.scope.names.lookup x=some .local:=by first|exact .inl rfl|exact .inr rfl|assumption):wpAny M A (storeName X.env x u) Q E s:=
 Ig I hN hi hx r (λs' I' _=>h s' I') hf
theorem Inv.call'(I:Inv X pins σ H s)(ho:s'.os=s.os)(u:Un (frs X.stack) ch H H' s.heap s'.heap)(hok:HOk X.prog X.w H' s'.heap)(hg:dj s'.gens)
  (hch:∀b∈ch,(b∈X.ex\/X.s₀.heap.objs.size<=b)/\b≠X.env.locals/\(∀x c,X.env.cells.lookup x=some c->c≠b)/\∀p∈X.pn++pins,p.1≠b):Inv X pins σ H' s':=by
 obtain⟨h',g',d',t',o'⟩:=s';have e:o'=s.os:=ho;subst e;exact I.call (g':=g') (t':=t') (d':=d') u hok hg hch
end
abbrev XK:=aa->Option Addr->Hp->Prop
abbrev St:=List (Option V)
abbrev VK:=V->Hp->Prop
abbrev TE:=St->Hp->VK->Prop
abbrev TT:=St->Hp->(Bool->Hp->Prop)->Prop
abbrev TA:=St->Hp->(bp->Hp->Prop)->Prop
structure Ends where
 nx:St->Hp->Prop
 rt:VK
 bk:St->Hp->Prop:=λ_ _=>False
 ct:St->Hp->Prop:=λ_ _=>False
abbrev TS:=Ends->St->Hp->Prop
def EP(X:Cx)(pins:bY)(σ:St)(Q:VK)(u:aa)(s':ae):Prop:=∃v H',Inv X pins σ H' s'/\RelV v u/\Q v H'
def TP(X:Cx)(pins:bY)(σ:St)(Q:Bool->Hp->Prop)(b:Bool)(s':ae):Prop:=∃H',Inv X pins σ H' s'/\Q b H'
def AP(X:Cx)(pins:bY)(σ:St)(Q:bp->Hp->Prop)(us:List aa)(s':ae):Prop:=∃vs H',Inv X pins σ H' s'/\Vals vs us/\Q vs H'
def SP(X:Cx)(pins:bY)(D:Ends)(f:Flow)(s':ae):Prop:=
 match f with
 |.next=>∃σ' H',Inv X pins σ' H' s'/\D.nx σ' H'
 |.brk=>∃σ' H',Inv X pins σ' H' s'/\D.bk σ' H'
 |.cont=>∃σ' H',Inv X pins σ' H' s'/\D.ct σ' H'
 |.ret u=>∃v σ' H',Inv X pins σ' H' s'/\RelV v u/\D.rt v H'
def PE(X:Cx)(e:Expr)(t:TE):Prop:=
 ∀(pins:bY) (s:ae) (σ:St) (H:Hp) (Q:VK),Inv X pins σ H s->t σ H Q->wpAny (model X.prog X.w) X.A (eval e X.env) (EP X pins σ Q) X.xe s
def PT(X:Cx)(e:Expr)(t:TT):Prop:=
 ∀(pins:bY) (s:ae) (σ:St) (H:Hp) (Q:Bool->Hp->Prop),Inv X pins σ H s->t σ H Q->wpAny (model X.prog X.w) X.A (isTrue e X.env (eval e X.env)) (TP X pins σ Q) X.xe s
def PW(X:Cx)(e:Expr)(t:TT):Prop:=
 ∀(whole:Sem aa) (pins:bY) (s:ae) (σ:St) (H:Hp) (Q:Bool->Hp->Prop),Inv X pins σ H s->t σ H Q->wpAny (model X.prog X.w) X.A (isTrue e X.env whole) (TP X pins σ Q) X.xe s
variable{X:Cx}{e:Expr}
theorem PW.pt{t:TT}(h:PW X e t):PT X e t:=h _
def PA(X:Cx)(es:List Expr)(t:TA):Prop:=
 ∀(pos:Pos) (pins:bY) (s:ae) (σ:St) (H:Hp) (Q:bp->Hp->Prop),Inv X pins σ H s->t σ H Q->wpAny (model X.prog X.w) X.A (spliced (backTo pos (starEach es X.env))) (AP X pins σ Q) X.xe s
def PS(X:Cx)(st:Stmt)(t:TS):Prop:=
 ∀(pins:bY) (s:ae) (σ:St) (H:Hp) (D:Ends),Inv X pins σ H s->t D σ H->wpAny (model X.prog X.w) X.A (exec st X.env) (SP X pins D) X.xe s
def PSs(X:Cx)(st:List Stmt)(t:TS):Prop:=
 ∀(pins:bY) (s:ae) (σ:St) (H:Hp) (D:Ends),Inv X pins σ H s->t D σ H->wpAny (model X.prog X.w) X.A (execs st X.env) (SP X pins D) X.xe s
theorem thn{α:Type}{t:Sem α}{Q Q':α->ae->Prop}{A:aE}{s:ae}(h:wpAny M A t Q E s)(hQ:∀a s,Q a s->Q' a s):wpAny M A t Q' E s:=bT h hQ λ_ _ x=>x
variable{pins:bY}{σ:St}{R:V->V->Hp->Prop}{pos:Pos}{Q:aa->ae->Prop}{op:eP}{t:TE}{c:Expr}
section
variable{X:Cx}
theorem bin{a b:Expr}{ta tb:TE}(ha:PE X a ta)(hb:PE X b tb){s:ae}{H:Hp}(I:Inv X pins σ H s)(h:ta σ H λx H1=>tb σ H1 λy H2=>R x y H2)
  {α:Type} {Q:α->ae->Prop} {f:aa->aa->Sem α}
  (hf:∀v u s2 x y H2,Inv X pins σ H2 s2->RelV x v->RelV y u->R x y H2->wpAny (model X.prog X.w) X.A (f v u) Q X.xe s2):
  wpAny (model X.prog X.w) X.A (eval a X.env) (λv s₁=>wpAny (model X.prog X.w) X.A (eval b X.env) (λu s₂=>wpAny (model X.prog X.w) X.A (f v u) Q X.xe s₂) X.xe s₁) X.xe s:=by
 refine thn (ha pins s σ H _ I h) λv s1 ⟨x,H1,I1,r1,q1⟩=>?_;refine thn (hb pins s1 σ H1 _ I1 q1) λu s2 ⟨y,H2,I2,r2,q2⟩=>?_;exact hf v u s2 x y H2 I2 r1 r2 q2
def uE(i:Nat):TE:=λσ H Q=>∃v,σ[i]?=some (some v)/\Q v H
def tC(v:V):TE:=λ_ H Q=>Q v H
theorem PK{x:Str}(hN:X.N[i]?=some x)(hv:Vis X.env.scope x)(hd:(x==("__debug__" : Str))=false:=by decide)(hcd:(x==("__classdict__" : Str))=false:=by decide):PE X (.Name x pos) (uE i):=by
 intro pins s σ H Q I h;obtain⟨v,e,h⟩:=h;obtain⟨m,hn,hl⟩:=I.loc;obtain⟨u,r,l⟩:=hl i x v hN e hv;have fin:EP X pins σ Q u s:=⟨v,H,I,r,h⟩;rcases l with ⟨hk,hm⟩|⟨hk,c,hc,hcell⟩
 ·exact kB (wpAny_loadName_local I.ok.kind hk hn hm fin) hd
 ·rcases hk with hk|hk
  ·exact kB (wpAny_loadName_cell I.ok.kind hk hc hcell fin) hd
  ·exact kB (wpAny_loadName_free I.ok.kind hk hc hcell fin hcd) hd
theorem Fv{i j pos}:PE X (.Constant (.int i) j pos) (tC (.int i)):=λ_ _ _ H _ I h=>wpAny_Constant_int ⟨.int i,H,I.tok _,⟨_,rfl⟩,h⟩
theorem T1{b j pos}:PE X (.Constant (.bool b) j pos) (tC (.bl b)):=λ_ _ _ H _ I h=>Constant_bool ⟨.bl b,H,I,rfl,h⟩
theorem PL{j pos}:PE X (.Constant .none j pos) (tC .non):=λ_ _ _ H _ I h=>Constant_none ⟨.non,H,I,rfl,h⟩
theorem JK{x j pos}:PE X (.Constant (.str x) j pos) (tC (.str x)):=λ_ _ _ H _ I h=>Calls.Constant_str ⟨.str x,H,I.tok _,⟨_,rfl⟩,h⟩
def Gl(X:Cx)(x:Str):Prop:=X.env.kindOf x=some .globalImplicit
theorem z9{s:ae}{H:Hp}{x:Str}(I:Inv X pins σ H s)(hg:Gl X x)(hm:X.mg x=some u)(h:Q u s)
  (hd:(x==("__debug__" : Str))=false:=by decide):wpAny (model X.prog X.w) X.A (eval (.Name x pos) X.env) Q E s:=
 lp I.ok.kind hg (Calls.loadGlobal_global (by rw[I.ok.glob];exact I.mod.glob.keeps I.bk) hm h) hd
theorem vX{s:ae}{H:Hp}{x:Str}(I:Inv X pins σ H s)(hg:Gl X x)(hm:X.mg x=none)(hv:bootBuiltins x=some u)(h:Q u s)
  (hn:x≠"__name__" := by decide) (hd:(x==("__debug__" : Str))=false:=by decide):wpAny (model X.prog X.w) X.A (eval (.Name x pos) X.env) Q E s:=by
 obtain⟨mb,h1,h2⟩:=I.mod.blt;exact lp I.ok.kind hg (Calls.loadGlobal_builtin (by rw[I.ok.glob];exact I.mod.glob.keeps I.bk) hm (by rw[I.ok.blt];exact h1.keeps I.bk) ((h2 x hn).trans hv) h) hd
theorem GP{x:Str}{v:V}(hg:Gl X x)(hm:X.mg x=some u)(r:RelV v u)(hd:(x==("__debug__" : Str))=false:=by decide):PE X (.Name x pos) (tC v):=
 λ_ _ _ H _ I h=>z9 I hg hm ⟨v,H,I,r,h⟩ hd
theorem MI{x:Str}{v:V}(hg:Gl X x)(hm:X.mg x=none)(hv:bootBuiltins x=some u)(r:RelV v u)(hn:x≠"__name__" := by decide)(hd:(x==("__debug__" : Str))=false:=by decide):PE X (.Name x pos) (tC v):=
 λ_ _ _ H _ I h=>vX I hg hm hv ⟨v,H,I,r,h⟩ hn hd
variable{a b:Expr}{ta tb:TE}{pos:Pos}
def PC(X:Cx)(op:eP)(a b:Expr)(t:TE):Prop:=
 ∀(pins:bY) (s:ae) (σ:St) (H:Hp) (Q:VK),Inv X pins σ H s->t σ H Q->
  wpAny (model X.prog X.w) X.A (eval a X.env) (λv s₁=>wpAny (model X.prog X.w) X.A (eval b X.env) (λu s₂=>wpAny (model X.prog X.w) X.A (compareOp op v u) (EP X pins σ Q) X.xe s₂) X.xe s₁) X.xe s
def tB(t:TE):TT:=λσ H Q=>t σ H λx H1=>∃c,x=.bl c/\Q c H1
theorem Vu(h:PC X op a b t)(h1:behindInMarks op b=false:=by first|exact nobehind _ (by decide) (by decide)|rfl):PT X (.Compare a [op] [b] pos) (tB t):=by intro pins s σ H Q I hw;refine lN (thn (h pins s σ H _ I hw) λv s1 h1=>thn h1 λu s2 h2=>thn h2 λc s3 ⟨x,H1,I1,r1,q1⟩=>?_) h1;obtain⟨d,rfl,q⟩:=q1;cases r1;exact cO ⟨H1,I1,q⟩
theorem PM(h:PE X e t)(he:∀whole,isTrue e X.env whole=(do let v<-whole;standAt e.pos;holding [v] (truthy v)):=by intro _;rfl):PT X e (tB t):=by intro pins s σ H Q I hw;refine isTrue_plain (thn (h pins s σ H _ I hw) λv s1 ⟨x,H1,I1,r1,q1⟩=>?_) (he _);obtain⟨d,rfl,q⟩:=q1;cases r1;exact cO ⟨H1,I1,q⟩
variable{tA tB':TT}{rest:List Expr}
def T2(t u:TT):TT:=λσ H Q=>t σ H λc H1=>if c=true then u σ H1 Q else Q false H1
def tOr(t u:TT):TT:=λσ H Q=>t σ H λc H1=>if c=true then Q true H1 else u σ H1 Q
def Vv(t:TT):TT:=λσ H Q=>t σ H λc H1=>Q (!c) H1
theorem MJ(ha:PT X a tA):PW X (.BoolOp .And [a] pos) tA:=by
 intro wh pins s σ H Q I h;refine isTrue_and (thn (ha pins s σ H Q I h) λc s1 e=>?_);cases c with
 |true=>exact isTrue_and_nil e
 |false=>exact e
theorem PN(ha:PT X a tA):PW X (.BoolOp .Or [a] pos) tA:=by
 intro wh pins s σ H Q I h;refine isTrue_or (thn (ha pins s σ H Q I h) λc s1 e=>?_);cases c with
 |false=>exact isTrue_or_nil e
 |true=>exact e
theorem PQ(ha:PT X a tA)(hb:PW X (.BoolOp .And (b::rest) pos) tB'):PW X (.BoolOp .And (a::b::rest) pos) (T2 tA tB'):=by
 intro wh pins s σ H Q I h;refine isTrue_and (thn (ha pins s σ H _ I h) λc s1 ⟨H1,I1,q1⟩=>?_);cases c with
 |true=>exact hb wh pins s1 σ H1 Q I1 q1
 |false=>exact⟨H1,I1,q1⟩
theorem T3(ha:PT X a tA)(hb:PW X (.BoolOp .Or (b::rest) pos) tB'):PW X (.BoolOp .Or (a::b::rest) pos) (tOr tA tB'):=by
 intro wh pins s σ H Q I h;refine isTrue_or (thn (ha pins s σ H _ I h) λc s1 ⟨H1,I1,q1⟩=>?_);cases c with
 |true=>exact⟨H1,I1,q1⟩
 |false=>exact hb wh pins s1 σ H1 Q I1 q1
theorem PR(ha:PT X a tA):PT X (.UnaryOp .Not a pos) (Vv tA):=by intro pins s σ H Q I h;exact isTrue_not (ha pins s σ H (λc H1=>Q (!c) H1) I h)
def T4(ta tb:TE):TE:=λσ H Q=>ta σ H λx H1=>∃c,x=.bl c/\if c=true then tb σ H1 Q else Q (.bl false) H1
def T5(ta:TE):TE:=λσ H Q=>ta σ H λx H1=>∃c,x=.bl c/\Q (.bl (!c)) H1
theorem PU{op}(h:PE X a t):PE X (.BoolOp op [a] pos) t:=λpins s σ H Q I hw=>BoolOp_one (h pins s σ H Q I hw)
theorem PV(ha:PE X a ta)(hb:PE X (.BoolOp .And (b::rest) pos) tb):PE X (.BoolOp .And (a::b::rest) pos) (T4 ta tb):=by
 intro pins s σ H Q I h;refine BoolOp_and (thn (ha pins s σ H _ I h) λv s1 ⟨x,H1,I1,r1,q1⟩=>?_);obtain⟨c,rfl,q1⟩:=q1;cases r1;refine cO ?_;cases c with
 |true=>exact hb pins s1 σ H1 Q I1 q1
 |false=>exact⟨.bl false,H1,I1,rfl,q1⟩
theorem PX(ha:PE X a ta):PE X (.UnaryOp .Not a pos) (T5 ta):=by intro pins s σ H Q I h;refine UnaryOp_ (thn (ha pins s σ H _ I h) λv s1 ⟨x,H1,I1,r1,q1⟩=>?_);obtain⟨c,rfl,q1⟩:=q1;cases r1;exact not_of (cO ⟨.bl (!c),H1,I1,rfl,q1⟩)
def tIf(t:TT)(ta tb:TE):TE:=λσ H Q=>t σ H λc H1=>if c=true then ta σ H1 Q else tb σ H1 Q
theorem JL(hc:PT X c tA)(ha:PE X a ta)(hb:PE X b tb):PE X (.IfExp c a b pos) (tIf tA ta tb):=by
 intro pins s σ H Q I h;refine wpAny_IfExp (thn (hc pins s σ H _ I h) λd s1 ⟨H1,I1,q1⟩=>?_);cases d with
 |true=>exact ha pins s1 σ H1 Q I1 q1
 |false=>exact hb pins s1 σ H1 Q I1 q1
end
def SqL(K:ao)(H:Hp)(a:Addr)(xs:bp):Prop:=
 Rd H a (.lst xs)\/
  ∃(o:Obj) (its:Array aa) (n:Nat),K.lookup a=some o/\o.cls=.type "list" /\ o.dict=none/\o.data=.seq its n/\its.size<=sizeLine/\Vals xs its.toList
def SqT(K:ao)(H:Hp)(a:Addr)(xs:bp):Prop:=
 Rd H a (.tup xs)\/
  ∃(o:Obj) (its:Array aa) (n:Nat),K.lookup a=some o/\o.cls=.type "tuple" /\ o.data=.seq its n/\its.size<=sizeLine/\Vals xs its.toList
def Vw:aa->Option V
 |.none=>some .non
 |.bool b=>some (.bl b)
 |.int i _=>some (.int i)
 |.str x _=>some (.str x)
 |.bytes b _=>some (.byt b)
 |.float b _=>some (.flt b)
 |.ref a=>some (.ref a)
 |.type n=>some (.ty n)
 |_=>none
theorem RelV.abs{x:V}(r:RelV x u):Vw u=some x:=by
 cases x with
 |non=>cases r;rfl
 |bl _=>cases r;rfl
 |int _=>obtain⟨t,rfl⟩:=r;rfl
 |str _=>obtain⟨t,rfl⟩:=r;rfl
 |byt _=>obtain⟨t,rfl⟩:=r;rfl
 |flt _=>obtain⟨t,rfl⟩:=r;rfl
 |ref _=>cases r;rfl
 |ty _=>cases r;rfl
variable{y:V}
theorem RelV.inj{x:V}(r:RelV x u)(q:RelV y u):x=y:=bZ (r.abs.symm.trans q.abs)
theorem Vals.inj:∀{xs ys:bp} {us:List aa},Vals xs us->Vals ys us->xs=ys
 |_,_,_,.nil,.nil=>rfl
 |_,_,_,.cons r t,.cons r' t'=>by rw[r.inj r',Vals.inj t t']
section
variable{X:Cx}{pins:bY}{σ:St}{H:Hp}{s:ae}{a:Addr}{xs ys:bp}
theorem SqL.of{K:ao}(h:H a=some (.lst xs)):SqL K H a xs:=.inl (.inl h)
theorem SqT.of{K:ao}(h:H a=some (.tup xs)):SqT K H a xs:=.inl (.inl h)
theorem Inv.list(I:Inv X pins σ H s)(h:SqL X.K H a xs):∃its:List aa,Vals xs its/\PlainL s.heap a its.toArray/\xs.length<=sizeLine:=by
 rcases h with h|⟨o,its,n,hk,hc,hd,hs,hz,r⟩
 ·obtain⟨z,its,n,r,e⟩:=h.ok I.hok;exact⟨its,r,⟨_,n,e,rfl,rfl,rfl⟩,z⟩
 ·refine⟨its.toList,r,⟨o,n,I.kIn a o hk,hc,hd,by simpa using hs⟩,?_⟩;have e:=r.length;simp only[cE]at e;omega
theorem Inv.tuple(I:Inv X pins σ H s)(h:SqT X.K H a xs):∃its:List aa,Vals xs its/\cB s.heap a its.toArray/\xs.length<=sizeLine:=by
 rcases h with h|⟨o,its,n,hk,hc,hs,hz,r⟩
 ·obtain⟨z,its,r,p⟩:=h.ok I.hok;exact⟨its,r,p,z⟩
 ·refine⟨its.toList,r,⟨o,I.kIn a o hk,hc,n,by simpa using hs⟩,?_⟩;have e:=r.length;simp only[cE]at e;omega
theorem Inv.list_inj(I:Inv X pins σ H s)(h:SqL X.K H a xs)(h':SqL X.K H a ys):xs=ys:=by
 obtain⟨its,r,⟨o,n,e,_,_,d⟩,_⟩:=I.list h;obtain⟨its',r',⟨o',n',e',_,_,d'⟩,_⟩:=I.list h';rw[e]at e';cases e';rw[d]at d';injection d' with d1 _;have:its=its':=by simpa using aQ nh d1
 subst this;exact r.inj r'
theorem Inv.tuple_inj(I:Inv X pins σ H s)(h:SqT X.K H a xs)(h':SqT X.K H a ys):xs=ys:=by
 obtain⟨its,r,⟨o,e,_,n,d⟩,_⟩:=I.tuple h;obtain⟨its',r',⟨o',e',_,n',d'⟩,_⟩:=I.tuple h';rw[e]at e';cases e';rw[d]at d';injection d' with d1 _;have:its=its':=by simpa using aQ nh d1
 subst this;exact r.inj r'
end
abbrev Cx.wish(X:Cx)(E:aa->ae->Prop):Cx:={ X with xe:=E }
abbrev Cx.nox(X:Cx):Cx:=X.wish λ_ _=>False
theorem Cx.Ok.wish(ok:X.Ok)(E:aa->ae->Prop):(X.wish E).Ok:=
 ⟨ok.mod,ok.kind,ok.glob,ok.blt,ok.above,ok.inj,ok.has,ok.cab,ok.hd,ok.frames,ok.stk,ok.exf,ok.bs,ok.bsz,ok.noex,ok.exfs,ok.funs,ok.frf⟩
theorem Cx.Ok.unwish(ok:(X.wish E).Ok):X.Ok:=
 ⟨ok.mod,ok.kind,ok.glob,ok.blt,ok.above,ok.inj,ok.has,ok.cab,ok.hd,ok.frames,ok.stk,ok.exf,ok.bs,ok.bsz,ok.noex,ok.exfs,ok.funs,ok.frf⟩
section
variable{X:Cx}{pins:bY}{σ:St}{H:Hp}{s:ae}{E:aa->ae->Prop}
theorem Inv.wish(I:Inv X pins σ H s)(E:aa->ae->Prop):Inv (X.wish E) pins σ H s:=⟨I.ok.wish E,I.os,I.bare,I.base,I.loc,I.cell,I.free,I.freeC,I.pin,I.hok,I.len⟩
theorem Inv.unwish(I:Inv (X.wish E) pins σ H s):Inv X pins σ H s:=⟨I.ok.unwish,I.os,I.bare,I.base,I.loc,I.cell,I.free,I.freeC,I.pin,I.hok,I.len⟩
theorem SP.unwish{D:Ends}{f:Flow}(h:SP (X.wish E) pins D f s'):SP X pins D f s':=by
 cases f with
 |next=>obtain⟨σ',H',I,q⟩:=h;exact⟨σ',H',I.unwish,q⟩
 |brk=>obtain⟨σ',H',I,q⟩:=h;exact⟨σ',H',I.unwish,q⟩
 |cont=>obtain⟨σ',H',I,q⟩:=h;exact⟨σ',H',I.unwish,q⟩
 |ret u=>obtain⟨v,σ',H',I,r,q⟩:=h;exact⟨v,σ',H',I.unwish,r,q⟩
theorem PSs.nox{st:List Stmt}{t:TS}(h:PSs X.nox st t):PSs X st t:=λpins s σ H D I hw=>
 bT (h pins s σ H D (I.wish _) hw) (λ_ _ q=>q.unwish) λ_ _ z=>cv z
end
variable{tc:TT}
section
variable{X:Cx}{st:Stmt}{rest:List Stmt}{t u:TS}{e:Expr}{te:TE}{pos:Pos}
def T6:TS:=λD σ H=>D.nx σ H
def Vx(t u:TS):TS:=λD σ H=>t { D with nx:=u D } σ H
theorem MK:PSs X [] T6:=λ_ _ σ H _ I h=>iB ⟨σ,H,I,h⟩
theorem Al(h1:PS X st t)(h2:PSs X rest u):PSs X (st::rest) (Vx t u):=by
 intro pins s σ H D I h;refine wpAny_execs_cons (thn (h1 pins s σ H { D with nx:=u D } I h) λf s1 q=>?_);cases f with
 |next=>obtain⟨σ',H',I',q⟩:=q;exact h2 pins s1 σ' H' D I' q
 |ret v=>exact q
 |brk=>exact q
 |cont=>exact q
theorem Dg(h1:PS X st t):PSs X [st] t:=by
 intro pins s σ H D I h;refine wpAny_execs_cons (thn (h1 pins s σ H D I h) λf s1 q=>?_);cases f with
 |next=>exact iB q
 |ret v=>exact q
 |brk=>exact q
 |cont=>exact q
theorem Inv.quiet{H:Hp}{s:ae}(I:Inv X pins σ H s):interactive X.env=false:=by simp[interactive,I.ok.kind]
def Pa(te:TE):TS:=λD σ H=>te σ H λ_ H1=>D.nx σ H1
theorem GQ(he:PE X e te)(hs:swapsWith e none pos.line X.env=pure false:=by rfl):PS X (.Expr e pos) (Pa te):=by intro pins s σ H D I h;exact wpAny_Expr_any (thn (he pins s σ H _ I h) λv s1 ⟨x,H1,I1,r1,q1⟩=>⟨σ,H1,I1,q1⟩) I.quiet hs
def T7(te:TE):TS:=λD σ H=>te σ H D.rt
theorem Fw(he:PE X e te):PS X (.Return (some e) pos) (T7 te):=by intro pins s σ H D I h;exact wpAny_Return_some (thn (he pins s σ H _ I h) λv s1 ⟨x,H1,I1,r1,q1⟩=>⟨x,σ,H1,I1,r1,q1⟩)
def Vy(c:TT)(t u:TS):TS:=λD σ H=>c σ H λb H1=>if b=true then t D σ H1 else u D σ H1
theorem T8{a b:List Stmt}(hc:PT X c tc)(ha:PSs X a t)(hb:PSs X b u):PS X (.If c a b pos) (Vy tc t u):=by
 intro pins s σ H D I h;refine wpAny_If (thn (hc pins s σ H _ I h) λd s1 ⟨H1,I1,q1⟩=>?_);cases d with
 |true=>exact ha pins s1 σ H1 D I1 q1
 |false=>exact hb pins s1 σ H1 D I1 q1
end
abbrev TG:=V->St->Hp->(St->Hp->Prop)->Prop
abbrev TGs:=bp->St->Hp->(St->Hp->Prop)->Prop
def PG(X:Cx)(target:Expr)(t:TG):Prop:=
 ∀(pins:bY) (s:ae) (σ:St) (H:Hp) (v:V) (u:aa) (Q:St->Hp->Prop),Inv X pins σ H s->RelV v u->t v σ H Q->
  wpAny (model X.prog X.w) X.A (assign target X.env u) (λ_ s'=>∃σ' H',Inv X pins σ' H' s'/\Q σ' H') X.xe s
def PGs(X:Cx)(ts:List Expr)(t:TGs):Prop:=
 ∀(pins:bY) (s:ae) (σ:St) (H:Hp) (vs:bp) (us:List aa) (Q:St->Hp->Prop),Inv X pins σ H s->Vals vs us->t vs σ H Q->
  wpAny (model X.prog X.w) X.A (assignInOrder ((assignEach ts X.env).map (·.2)) us) (λ_ s'=>∃σ' H',Inv X pins σ' H' s'/\Q σ' H') X.xe s
variable{es:List Expr}{tg:Expr}{te:TE}
section
variable{X:Cx}{pos:Pos}
def uF(i:Nat):TG:=λv σ H Q=>Q (σ.set i (some v)) H
theorem GR{x:Str}(hN:X.N.Nodup)(hi:X.N[i]?=some x)(hx:Loc X.env.scope x)(hf:X.fn x=true\/X.env.scope.names.lookup x=some .local:=by first|exact .inl rfl|exact .inr rfl|assumption):PG X (.Name x pos) (uF i):=by intro pins s σ H v u Q I r h;exact wpAny_assign_Name (Eb I hN hi hx r (λs' I'=>⟨_,H,I',h⟩) hf)
def T9:TGs:=λvs σ H Q=>vs=[]/\Q σ H
def Pb(t:TG)(u:TGs):TGs:=λvs σ H Q=>∃v r,vs=v::r/\t v σ H λσ' H'=>u r σ' H' Q
theorem ML:PGs X [] T9:=by intro pins s σ H vs us Q I r h;obtain⟨e,h⟩:=h;subst e;cases r;exact assignInOrder_nil ⟨σ,H,I,h⟩
theorem JM{t:TG}{u:TGs}(h1:PG X e t)(h2:PGs X es u)
  (hs:(assignEach (e::es) X.env).map (·.2)=assign e X.env::(assignEach es X.env).map (·.2):=by rfl):PGs X (e::es) (Pb t u):=by
 intro pins s σ H vs us Q I r h;obtain⟨v,vr,e1,h⟩:=h;subst e1;cases r with
 |cons r rr=>rw[hs];refine assignInOrder_cons (thn (h1 pins s σ H _ _ _ I r h) λ_ s1 ⟨σ1,H1,I1,q1⟩=>?_);exact h2 pins s1 σ1 H1 _ _ Q I1 rr q1
def PY(K:ao)(n:Nat)(t:TGs):TG:=λv σ H Q=>∃a xs,v=.ref a/\SqT K H a xs/\xs.length=n/\t xs σ H Q
theorem PZ{k:Nat}{t:TGs}{n:Nat}(hc:X.calm=true)(h:PGs X es t)
  (hn:(assignEach es X.env).length=n:=by rfl) (hst:(assignEach es X.env).findIdx? (·.1)=none:=by rfl):PG X (.Tuple es k pos) (PY X.K n t):=by
 intro pins s σ H v u Q I r hw;obtain⟨a,xs,e1,hq,hl,hw⟩:=hw;subst e1;cases r;obtain⟨its,rv,ht,hz⟩:=I.tuple hq;refine assign_Tuple_tuple (I.ok.hd hc) ht (by simp[hn,<- hl,rv.length]) hst λh' hx=>?_;have I1:Inv X pins σ H { s with heap:=h' }:=I.kept (t':=s.toks) λb o e=>hx b o (bf (aM e)) e;exact h pins _ σ H xs _ Q I1 (by simpa using rv) hw
def yI(te:TE)(g:TG):TS:=λD σ H=>te σ H λx H1=>g x σ H1 D.nx
theorem P3{g:TG}(he:PE X e te)(hg:PG X tg g)(hs:swapsWithSole [tg] e pos.line X.env=pure false:=by rfl)(hw:swappedStores [tg] e X.env=pure none:=by rfl)
  (h1:(assignEach [tg] X.env).map (·.2)=[assign tg X.env]:=by rfl):PS X (.Assign [tg] e pos) (yI te g):=by
 intro pins s σ H D I h;refine wpAny_Assign_stores (thn (he pins s σ H _ I h) λv s1 ⟨x,H1,I1,r1,q1⟩=>?_) hs hw;rw[h1];exact thn (hg pins s1 σ H1 x v _ I1 r1 q1) λ_ s2 q=>q
theorem P4{x:Str}{pos':Pos}(hN:X.N.Nodup)(hi:X.N[i]?=some x)(hx:Loc X.env.scope x)(he:PE X e te)(hs:swapsWith e (some (.Name x pos')) pos.line X.env=pure false:=by rfl)(hf:X.fn x=true\/X.env.scope.names.lookup x=some .local:=by first|exact .inl rfl|exact .inr rfl|assumption):
  PS X (.Assign [.Name x pos'] e pos) (yI te (uF i)):=by
 intro pins s σ H D I h;refine wpAny_Assign_Name (thn (he pins s σ H _ I h) λv s1 ⟨y,H1,I1,r1,q1⟩=>?_) hs;exact Eb I1 hN hi hx r1 (λs2 I2=>⟨_,H1,I2,q1⟩) hf
end
variable{body:List Stmt}{tb:TS}
section
variable{X:Cx}{pos:Pos}
def JN(c:TT)(tb:TS):TS:=λD σ H=>∃W:Nat->St->Hp->Prop,(∃m,W m σ H)/\∀m σ H,W m σ H->
 c σ H λb H1=>if b=true then ∃N:St->Hp->Prop,(∀σ' H',N σ' H'->∃m',m'<m/\W m' σ' H')/\tb { D with nx:=N,ct:=N,bk:=D.nx } σ H1 else D.nx σ H1
theorem JO(hp:iW (model X.prog X.w) X.A X.env X.xe)(hc:PT X c tc)(hb:PSs X body tb):PS X (.While c body [] pos) (JN tc tb):=by
 intro pins s σ H D I h;obtain⟨W,⟨m0,w0⟩,turn⟩:=h;refine wpAny_While (codeAny_whileLoop (λn s'=>∃σ' H',Inv X pins σ' H' s'/\W n σ' H') ?_ m0 ⟨σ,H,I,w0⟩);rintro n s1 ⟨σ1,H1,I1,w1⟩;refine eB hp (thn (hc pins s1 σ1 H1 _ I1 (turn n σ1 H1 w1)) λb s2 ⟨H2,I2,q2⟩=>?_);cases b with
 |true=>
  obtain⟨N,hN,q2⟩:=q2;rw[ai rfl];refine eB hp (thn (hb pins s2 σ1 H2 _ I2 q2) λf s3 q3=>?_);cases f with
  |next=>obtain⟨σ3,H3,I3,n3⟩:=q3;obtain⟨m',hm,w3⟩:=hN σ3 H3 n3;exact⟨m',hm,σ3,H3,I3,w3⟩
  |cont=>obtain⟨σ3,H3,I3,n3⟩:=q3;obtain⟨m',hm,w3⟩:=hN σ3 H3 n3;exact⟨m',hm,σ3,H3,I3,w3⟩
  |brk=>exact q3
  |ret v=>exact q3
 |false=>rw[aj bj];exact iB ⟨σ1,H2,I2,q2⟩
end
structure It where
 go:Nat->Hp->Prop
 yld:Nat->Hp->V->Hp->Prop
 stop:Nat->Hp->Prop
def BJ(X:Cx)(pins:bY)(H:Hp)(b:Addr):Prop:=
 H b=none/\b≠X.env.locals/\b∉X.fs/\(b∈X.ex\/X.s₀.heap.objs.size<=b)/\(∀x c,X.env.cells.lookup x=some c->c≠b)/\∀p∈X.pn++pins,p.1≠b
theorem Inv.fpOk{H H':Hp}{s:ae}(I:Inv X pins σ H s)(hb:s.heap.objs.size<=b)(hn:H' b=none):BJ X pins H' b:=by
 refine⟨hn,gn (bU I.lt hb),I.nofs hb,.inr (bS I.sz hb),λx c e z=>?_,λp hp z=>?_⟩
 ·obtain⟨v,q⟩:=I.cell x c e;exact aq (bU q.lt (by rw[z];exact hb)) (cG _)
 ·exact aq (bU (aM (I.pin p hp).1) (by rw[z];exact hb)) (cG _)
structure Turn(P:aA)(w:av)(K:ao)(tg:Expr)(J:It)(fp:List Addr)(it:Addr)(tn:Nat->Heap->Prop):Prop where
 mem:it∈fp
 obj:∀i h,tn i h->∀b∈fp,∃o,h.get? b=some o/\∀v,o.data≠.cell v
 keep:∀i h h',tn i h->(∀b∈fp,∀o,h.get? b=some o->h'.get? b=some o)->tn i h'
 item:∀(X:Cx),X.prog=P->X.w=w->X.K=K->X.calm=true->∀(i:Nat) (pins:bY) (s:ae) (σ:St) (H:Hp) (E:aa->ae->Prop),Inv X pins σ H s->(∀b∈fp,BJ X pins H b)->tn i s.heap->J.go i H->
  wpAny (model P w) X.A (pyNext (.ref it)) (λr s1=>∃u,r=some u/\
   wpAny (model P w) X.A (letOwnedTupleGo tg (.ref it) u) (λ_ s2=>∃x H',Inv X pins σ H' s2/\RelV x u/\J.yld i H x H'/\tn (i+1) s2.heap/\∀b∈fp,H' b=none) E s1) E s
 done:∀(X:Cx),X.prog=P->X.w=w->X.K=K->X.calm=true->∀(i:Nat) (pins:bY) (s:ae) (σ:St) (H:Hp) (E:aa->ae->Prop),Inv X pins σ H s->(∀b∈fp,BJ X pins H b)->tn i s.heap->J.stop i H->
  wpAny (model P w) X.A (pyNext (.ref it)) (λr s1=>r=none/\Inv X pins σ H s1) E s
 self:∀(A:aE) (i:Nat) (s:ae) (Q:aa->ae->Prop) (E:aa->ae->Prop),tn i s.heap->Q (.ref it) s->wpAny (model P w) A (pyIter (.ref it)) Q E s
abbrev TI:=St->Hp->(It->Hp->Prop)->Prop
def PIE(X:Cx)(pins:bY)(σ:St)(tg:Expr)(R:It->Hp->Prop)(itv:aa)(s2:ae):Prop:=
 ∃(it:Addr) (fp:List Addr) (tn:Nat->Heap->Prop) (J:It) (H':Hp),itv=.ref it/\Inv X pins σ H' s2/\Turn X.prog X.w X.K tg J fp it tn/\tn 0 s2.heap/\(∀b∈fp,BJ X pins H' b)/\R J H'
def PI(X:Cx)(tg iter:Expr)(wi:TI):Prop:=
 ∀(pins:bY) (s:ae) (σ:St) (H:Hp) (R:It->Hp->Prop),Inv X pins σ H s->wi σ H R->
  wpAny (model X.prog X.w) X.A (eval iter X.env) (λv s1=>wpAny (model X.prog X.w) X.A (pyIter v) (PIE X pins σ tg R) X.xe s1) X.xe s
theorem GT{A:aE}{s:ae}{o:Obj}{n:String}{vs:Array aa}{Q:Unit->ae->Prop}(ho:s.heap.get? it=some o)(hc:o.cls=.type n)(hd:o.data=.fields vs)
  (hn:["enumerate", "zip", "dict_itemiterator", "dict_reverseitemiterator", "odict_iterator", "itertools.zip_longest", "itertools.pairwise"].contains n=false) (hQ:Q () s):wpAny M A (letOwnedTupleGo tg (.ref it) u) Q E s:=by
 unfold letOwnedTupleGo;cases tg<;>first
  |exact au hQ
  |(cases u<;>first
    |exact au hQ
    |(refine ag (wpAny_load ho ?_)
      rw[hc,hd];show wpAny M A (if (["enumerate", "zip", "dict_itemiterator", "dict_reverseitemiterator", "odict_iterator", "itertools.zip_longest", "itertools.pairwise"].contains n&&vs[0]?==some (rawInt _))=true then _ else _) Q E s;rw[aj (by intro h;rw[hn,Bool.false_and]at h;cases h)];exact au hQ))
def Itl(K:ao)(a:Addr):It:=
 ⟨λi H=>∃xs x,SqL K H a xs/\xs[i]?=some x,λi H x H'=>H'=H/\∀xs,SqL K H a xs->xs[i]?=some x,λi H=>∃xs,SqL K H a xs/\xs.length<=i⟩
def Itt(K:ao)(a:Addr):It:=
 ⟨λi H=>∃xs x,SqT K H a xs/\xs[i]?=some x,λi H x H'=>H'=H/\∀xs,SqT K H a xs->xs[i]?=some x,λi H=>∃xs,SqT K H a xs/\xs.length<=i⟩
def Itr(lo:Int)(n:Nat):It:=⟨λi _=>i<n,λi H x H'=>H'=H/\x=.int (lo+i),λi _=>n<=i⟩
theorem Ih{P:aA}{w:av}{K:ao}(a it:Addr):Turn P w K tg (Itl K a) [it] it (λi h=>h.IsListIter it a i) where
 mem:=by simp
 obj:=λi h st b hb=>by
  have e:b=it:=by simpa using hb
  subst e;obtain⟨o,e,c,d⟩:=st;exact⟨o,e,λv z=>by rw[d]at z;cases z⟩
 keep:=λi h h' st k=>st.at λo e=>k it (by simp) o e
 item:=by intro X hP hw hK hc i pins s σ H E I hf st hg;subst hP hw hK;obtain⟨xs,x,hq,hx⟩:=hg;obtain⟨its,rv,p,hz⟩:=I.list hq;obtain⟨u,hu,ru⟩:=rv.get hx;obtain⟨f0,f1,f2,f3,f4,f5⟩:=hf it (by simp);refine wpAny_pyNext_list_item st p.isList (x:=u) (by simpa using hu) λh' st' sb=>?_;have I1:Inv X pins σ H { s with heap:=h' }:=I.turned (t':=s.toks) (λb o hb e=>(sb.2 b hb).trans e) f0 f1 f3 f4 f5;obtain⟨o,e,c,d⟩:=id st';exact⟨u,rfl,GT (s:={ s with heap:=h' }) e c d (by decide) ⟨x,H,I1,ru,⟨rfl,λys hy=>by rw[I.list_inj hy hq];exact hx⟩,st',λb hb=>(hf b hb).1⟩⟩
 done:=by intro X hP hw hK hc i pins s σ H E I hf st hg;subst hP hw hK;obtain⟨xs,hq,hx⟩:=hg;obtain⟨its,rv,p,hz⟩:=I.list hq;obtain⟨f0,f1,f2,f3,f4,f5⟩:=hf it (by simp);have hl:=rv.length;exact wpAny_pyNext_list_end (I.ok.hd hc) st p.isList (by simp;omega) λh' eb=>⟨rfl,I.turned (t':=s.toks) (λb o hb e=>eb b o hb e) f0 f1 f3 f4 f5⟩
 self:=λ_ _ _ _ _ st h=>wpAny_pyIter_listiter st h
theorem Fy{P:aA}{w:av}{K:ao}(a it:Addr):Turn P w K tg (Itt K a) [it] it (λi h=>h.IsTupleIter it a i) where
 mem:=by simp
 obj:=λi h st b hb=>by
  have e:b=it:=by simpa using hb
  subst e;obtain⟨o,e,c,d⟩:=st;exact⟨o,e,λv z=>by rw[d]at z;cases z⟩
 keep:=λi h h' st k=>st.at λo e=>k it (by simp) o e
 item:=by intro X hP hw hK hc i pins s σ H E I hf st hg;subst hP hw hK;obtain⟨xs,x,hq,hx⟩:=hg;obtain⟨its,rv,p,hz⟩:=I.tuple hq;obtain⟨u,hu,ru⟩:=rv.get hx;obtain⟨f0,f1,f2,f3,f4,f5⟩:=hf it (by simp);refine wpAny_pyNext_tuple_item st (show s.heap.IsTuple a its.toArray from p) (x:=u) (by simpa using hu) λh' st' sb=>?_;have I1:Inv X pins σ H { s with heap:=h' }:=I.turned (t':=s.toks) (λb o hb e=>(sb.2 b hb).trans e) f0 f1 f3 f4 f5;obtain⟨o,e,c,d⟩:=id st';exact⟨u,rfl,GT (s:={ s with heap:=h' }) e c d (by decide) ⟨x,H,I1,ru,⟨rfl,λys hy=>by rw[I.tuple_inj hy hq];exact hx⟩,st',λb hb=>(hf b hb).1⟩⟩
 done:=by intro X hP hw hK hc i pins s σ H E I hf st hg;subst hP hw hK;obtain⟨xs,hq,hx⟩:=hg;obtain⟨its,rv,p,hz⟩:=I.tuple hq;obtain⟨f0,f1,f2,f3,f4,f5⟩:=hf it (by simp);have hl:=rv.length;exact wpAny_pyNext_tuple_end (I.ok.hd hc) st (show s.heap.IsTuple a its.toArray from p) (by simp;omega) λh' eb=>⟨rfl,I.turned (t':=s.toks) (λb o hb e=>eb b o hb e) f0 f1 f3 f4 f5⟩
 self:=λ_ _ _ _ _ st h=>wpAny_pyIter_tupleiter st h
theorem FB{P:aA}{w:av}{K:ao}(it:Addr)(lo:Int)(n:Nat):Turn P w K tg (Itr lo n) [it] it (λi h=>IsRangeIter h it (lo+(i:Nat) * 1) ((n:Int) - (i:Nat)) 1) where
 mem:=by simp
 obj:=λi h st b hb=>by
  have e:b=it:=by simpa using hb
  subst e;exact⟨_,st,λv z=>by
   have z':Data.fields _=Data.cell v:=z;cases z'⟩
 keep:=λi h h' st k=>k it (by simp) _ st
 item:=by intro X hP hw hK hc i pins s σ H E I hf st hg;subst hP hw hK;obtain⟨f0,f1,f2,f3,f4,f5⟩:=hf it (by simp);have W:=Walks.range (prog:=X.prog) (w:=X.w) (I.ok.hd hc) it lo 1 n;refine W.item i s _ _ hg st λv h' tk hv st' kk=>?_;obtain⟨t,rfl⟩:=hv;have I1:Inv X pins σ H { s with heap:=h',toks:=tk }:=I.turned (λb o hb e=>kk b o (by simpa using hb) e) f0 f1 f3 f4 f5;refine⟨_,rfl,GT (s:={ s with heap:=h',toks:=tk }) (n:="range_iterator") st' rfl rfl (by decide) ⟨.int (lo+i),H,I1,⟨t,?_⟩,⟨rfl,rfl⟩,st',λb hb=>(hf b hb).1⟩⟩;rw[Int.mul_one]
 done:=by intro X hP hw hK hc i pins s σ H E I hf st hg;subst hP hw hK;obtain⟨f0,f1,f2,f3,f4,f5⟩:=hf it (by simp);exact wpAny_pyNext_range_end (I.ok.hd hc) st (by have:n<=i:=hg;omega) λh' eb=>⟨rfl,I.turned (t':=s.toks) (λb o hb e=>eb b o hb e) f0 f1 f3 f4 f5⟩
 self:=λ_ _ _ _ _ st h=>wpAny_pyIter_rangeiter st h
variable{tl:TE}
section
variable{X:Cx}{tg:Expr}
def JP(K:ao)(tl:TE):TI:=λσ H R=>tl σ H λx H1=>∃a,x=.ref a/\(∃xs,SqL K H1 a xs)/\R (Itl K a) H1
def P5(K:ao)(tl:TE):TI:=λσ H R=>tl σ H λx H1=>∃a,x=.ref a/\(∃xs,SqT K H1 a xs)/\R (Itt K a) H1
theorem MM{l:Expr}(hl:PE X l tl):PI X tg l (JP X.K tl):=by
 intro pins s σ H R I h;refine thn (hl pins s σ H _ I h) λv s1 ⟨x,H1,I1,r1,q1⟩=>?_;obtain⟨a,e,⟨xs,hq⟩,q⟩:=q1;subst e;cases r1;obtain⟨its,rv,p,hz⟩:=I1.list hq;refine fo p.isList ?_;refine⟨s1.heap.objs.size,[s1.heap.objs.size],_,_,H1,rfl,I1.kept (t':=s1.toks) λb o e=>aH _ e,Ih a _,⟨_,bq _ rfl,rfl,rfl⟩,λb hb=>?_,q⟩;have e:b=s1.heap.objs.size:=by simpa using hb
 subst e;exact I1.fpOk (az _) (I1.hok.fresh (az _))
theorem P6{l:Expr}(hl:PE X l tl):PI X tg l (P5 X.K tl):=by
 intro pins s σ H R I h;refine thn (hl pins s σ H _ I h) λv s1 ⟨x,H1,I1,r1,q1⟩=>?_;obtain⟨a,e,⟨xs,hq⟩,q⟩:=q1;subst e;cases r1;obtain⟨its,rv,p,hz⟩:=I1.tuple hq;refine jB (show s1.heap.IsTuple a its.toArray from p) ?_;refine⟨s1.heap.objs.size,[s1.heap.objs.size],_,_,H1,rfl,I1.kept (t':=s1.toks) λb o e=>aH _ e,Fy a _,⟨_,bq _ rfl,rfl,rfl⟩,λb hb=>?_,q⟩;have e:b=s1.heap.objs.size:=by simpa using hb
 subst e;exact I1.fpOk (az _) (I1.hok.fresh (az _))
theorem JQ{H:Hp}{s:ae}{R:It->Hp->Prop}{lo hi:Int}{t u v:Tok}{tk:Nat}(I:Inv X pins σ H s)(h1:-(2 ^ 62)<=lo)(h2:lo<2 ^ 62)(h3:-(2 ^ 62)<=hi)(h4:hi<2 ^ 62)
  (q:R (Itr lo (hi - lo).toNat) H):wpAny (model X.prog X.w) X.A (pyIter (.ref s.heap.objs.size)) (PIE X pins σ tg R) E { s with heap:=s.heap.push { cls:=.type "range", data:=.fields #[.int lo t,.int hi u,.int 1 v] },toks:=tk }:=by
 refine wpAny_pyIter_range (IsRange.new ..) (small_one h1 h2 h3 h4) ?_;have I1:Inv X pins σ H { s with heap:=s.heap.push { cls:=.type "range", data:=.fields #[.int lo t,.int hi u,.int 1 v] },toks:=tk }:=I.kept λb o e=>aH _ e;refine⟨(s.heap.push { cls:=.type "range", data:=.fields #[.int lo t,.int hi u,.int 1 v] }).objs.size,[(s.heap.push { cls:=.type "range", data:=.fields #[.int lo t,.int hi u,.int 1 v] }).objs.size],_,_,H,rfl,
  I1.kept (t':=tk) λb o e=>aH _ e,FB _ lo (hi - lo).toNat,?_,λb hb=>?_,q⟩
 ·have e1:lo+((0:Nat):Int) * 1=lo:=by simp
  have e2:(((hi - lo).toNat:Nat):Int) - ((0:Nat):Int)=Builtin.Range.rangeSize lo hi 1:=by rw[rangeSize_one];split<;>omega
  show IsRangeIter _ _ (lo+((0:Nat):Int) * 1) ((((hi - lo).toNat:Nat):Int) - ((0:Nat):Int)) 1;rw[e1,e2];exact bq _ rfl
 ·have e:b=(s.heap.push { cls:=.type "range", data:=.fields #[.int lo t,.int hi u,.int 1 v] }).objs.size:=by simpa using hb
  subst e;exact I1.fpOk (az _) (I1.hok.fresh (az _))
def Pc(ta:TA):TI:=λσ H R=>ta σ H λvs H1=>∃j:Int,vs=[.int j]/\-(2 ^ 62)<=j/\j<2 ^ 62/\R (Itr 0 j.toNat) H1
theorem Ii{a:Expr}{ta:TA}{p:Pos}(hg:Gl X "range")(hm:X.mg "range" = none)(ha:PA X [a] ta)(hs:starEach [a] X.env=[(false,eval a X.env)]:=by rfl):PI X tg (.Call (.Name "range" p) [a] [] pos) (Pc ta):=by
 intro pins s σ H R I h;refine Call_ (vX I hg hm boot_range (callWith_type1 (thn (ha pos pins s σ H _ I h) λus s1 ⟨vs,H1,I1,r1,q1⟩=>?_) hs rfl));obtain⟨j,e,q1,q2,q⟩:=q1;subst e;cases r1 with
 |cons r rr=>cases rr;obtain⟨t,rfl⟩:=r;exact call_range_1 (JQ I1 (by omega) (by omega) q1 q2 (by simpa using q))
def P7(wi:TI)(g:TG)(tb:TS):TS:=λD σ H=>wi σ H λJ H1=>∃W:Nat->Nat->St->Hp->Prop,(∃m,W 0 m σ H1)/\∀i m σ H,W i m σ H->
 (J.stop i H/\D.nx σ H)\/(J.go i H/\∃N:St->Hp->Prop,(∀σ' H',N σ' H'->∃m',m'<m/\W (i+1) m' σ' H')/\∀x H',J.yld i H x H'->g x σ H' λσ2 H2=>tb { D with nx:=N,ct:=N,bk:=D.nx } σ2 H2)
def Am(fp:List Addr)(h:Heap):bY:=fp.filterMap λb=>(h.get? b).map λo=>(b,o)
theorem tu{fp:List Addr}{h:Heap}{o:Obj}(hb:b∈fp)(e:h.get? b=some o):(b,o)∈Am fp h:=jC.mpr ⟨b,hb,by rw[e];rfl⟩
theorem Ik{fp:List Addr}{h:Heap}{p:Addr×Obj}(hp:p∈Am fp h):p.1∈fp/\h.get? p.1=some p.2:=by
 obtain⟨b,hb,e⟩:=jC.mp hp;cases q:h.get? b with
 |none=>rw[q]at e;cases e
 |some o=>rw[q]at e;have e':(b,o)=p:=bZ e;subst e';exact⟨hb,q⟩
theorem Inv.pinned{H:Hp}{s:ae}{fp:List Addr}(I:Inv X pins σ H s)(hf:∀b∈fp,BJ X pins H b)(ho:∀b∈fp,∃o,s.heap.get? b=some o/\∀v,o.data≠.cell v):Inv X (pins++Am fp s.heap) σ H s:=
 I.pins_of λp hp=>(bb.mp hp).elim (λz=>I.pin p (bD _ z)) λz=>by obtain⟨hb,e⟩:=Ik z;obtain⟨f0,f1,f2,_⟩:=hf p.1 hb;obtain⟨o,e',d⟩:=ho p.1 hb;rw[e]at e';cases e';exact⟨e,f0,f1,f2,d⟩
theorem Inv.unpinned{pl:bY}{H:Hp}{s:ae}(I:Inv X (pins++pl) σ H s):Inv X pins σ H s:=I.pins_of λp hp=>I.pin p (bD _ (bE _ hp))
theorem JR{iter:Expr}{wi:TI}{g:TG}(hp:iW (model X.prog X.w) X.A X.env X.xe)(hc:X.calm=true)(hi:PI X tg iter wi)(hg:PG X tg g)(hb:PSs X body tb)
  (hs:∀x,foldedSetIterable iter X.env x=pure x:=by intro _;rfl):PS X (.For tg iter body [] pos) (P7 wi g tb):=by
 intro pins s σ H D I h;refine wpAny_For (thn (hi pins s σ H _ I h) λv s1 h1=>thn h1 λitv s2 h2=>?_) hs;obtain⟨it,fp,tn,J,H2,e,I2,T,st2,f2,W,⟨m0,w0⟩,turn⟩:=h2;subst e;have stat:∀{H':Hp},(∀b∈fp,H' b=none)->∀b∈fp,BJ X pins H' b:=λhn b hb=>⟨hn b hb,(f2 b hb).2⟩;refine codeAny_forLoop_any (λn s'=>∃i σ' H',Inv X pins σ' H' s'/\tn i s'.heap/\(∀b∈fp,H' b=none)/\W i n σ' H') ?_ m0 ⟨0,σ,H2,I2,st2,λb hb=>(f2 b hb).1,w0⟩;rintro n s3 ⟨i,σ3,H3,I3,st3,fr3,w3⟩;rcases turn i n σ3 H3 w3 with ⟨stop,qn⟩|⟨go,N,hN,step⟩
 ·refine eB hp (thn (T.done X rfl rfl rfl hc i pins s3 σ3 H3 X.xe I3 (stat fr3) st3 stop) λr s4 ⟨hr,I4⟩=>?_);subst hr;exact iB ⟨σ3,H3,I4,qn⟩
 ·refine eB hp (thn (T.item X rfl rfl rfl hc i pins s3 σ3 H3 X.xe I3 (stat fr3) st3 go) λr s4 ⟨u,hr,h4⟩=>?_);subst hr;refine eB hp (thn h4 λ_ s5 ⟨x,H5,I5,r5,y5,st5,fr5⟩=>?_);have I5':=I5.pinned (stat fr5) (T.obj _ _ st5);refine eB hp (thn (hg _ s5 σ3 H5 x u _ I5' r5 (step x H5 y5)) λ_ s6 ⟨σ6,H6,I6,q6⟩=>?_);refine eB hp (thn (hb _ s6 σ6 H6 _ I6 q6) λf s7 q7=>?_);have again:∀{σ7:St} {H7:Hp},Inv X (pins++Am fp s5.heap) σ7 H7 s7->N σ7 H7->∃m,m<n/\∃i σ' H',Inv X pins σ' H' s7/\tn i s7.heap/\(∀b∈fp,H' b=none)/\W i m σ' H':=λ{σ7 H7} I7 n7=>by obtain⟨m',hm,w7⟩:=hN σ7 H7 n7;refine⟨m',hm,i+1,σ7,H7,I7.unpinned,T.keep _ _ _ st5 λb hb o e=>(I7.pin (b,o) (bD _ (bD _ (tu hb e)))).1,λb hb=>?_,w7⟩;obtain⟨o,e,d⟩:=T.obj _ _ st5 b hb;exact(I7.pin (b,o) (bD _ (bD _ (tu hb e)))).2.1
  cases f with
  |next=>obtain⟨σ7,H7,I7,n7⟩:=q7;exact again I7 n7
  |cont=>obtain⟨σ7,H7,I7,n7⟩:=q7;exact again I7 n7
  |brk=>obtain⟨σ7,H7,I7,q7⟩:=q7;exact⟨σ7,H7,I7.unpinned,q7⟩
  |ret v=>obtain⟨x7,σ7,H7,I7,r7,q7⟩:=q7;exact⟨x7,σ7,H7,I7.unpinned,r7,q7⟩
end
abbrev R2:=V->V->Hp->VK->Prop
def OpR(X:Cx)(f:aa->aa->Sem aa)(r:R2):Prop:=
 ∀(pins:bY) (s:ae) (σ:St) (H:Hp) (x y:V) (v u:aa) (Q:VK),Inv X pins σ H s->RelV x v->RelV y u->r x y H Q->
  wpAny (model X.prog X.w) X.A (f v u) (EP X pins σ Q) X.xe s
def UnR(X:Cx)(f:aa->Sem aa)(r:V->Hp->VK->Prop):Prop:=
 ∀(pins:bY) (s:ae) (σ:St) (H:Hp) (x:V) (v:aa) (Q:VK),Inv X pins σ H s->RelV x v->r x H Q->
  wpAny (model X.prog X.w) X.A (f v) (EP X pins σ Q) X.xe s
def p9(X:Cx)(f:aa)(r:bp->Hp->VK->Prop):Prop:=
 ∀(pins:bY) (s:ae) (σ:St) (H:Hp) (xs:bp) (us:List aa) (Q:VK),Inv X pins σ H s->Vals xs us->r xs H Q->
  wpAny (model X.prog X.w) X.A (call f us) (EP X pins σ Q) X.xe s
def tOp(r:R2)(ta tb:TE):TE:=λσ H Q=>ta σ H λx H1=>tb σ H1 λy H2=>r x y H2 Q
def tUn(r:V->Hp->VK->Prop)(ta:TE):TE:=λσ H Q=>ta σ H λx H1=>r x H1 Q
def rI(C:Int->Int->Prop)(g:Int->Int->V):R2:=λx y H Q=>∃i j,x=.int i/\y=.int j/\C i j/\Q (g i j) H
def rI0(g:Int->Int->V):R2:=λx y H Q=>∃i j,x=.int i/\y=.int j/\Q (g i j) H
def rU(g:Int->V):V->Hp->VK->Prop:=λx H Q=>∃i,x=.int i/\Q (g i) H
variable{f:aa->aa->Sem aa}{r:R2}
section
variable{X:Cx}{a b c:Expr}{ta tb tc:TE}{pos:Pos}
theorem P8(ha:PE X a ta)(hb:PE X b tb){s:ae}{H:Hp}(I:Inv X pins σ H s)
  (h:ta σ H λx H1=>tb σ H1 λy H2=>R x y H2)
  (hf:∀v u s2 x y H2,Inv X pins σ H2 s2->RelV x v->RelV y u->R x y H2->wpAny (model X.prog X.w) X.A (f v u) Q X.xe s2):
  wpAny (model X.prog X.w) X.A (eval a X.env) (λv s₁=>wpAny (model X.prog X.w) X.A (eval b X.env) (λu s₂=>wpAny (model X.prog X.w) X.A (f v u) Q X.xe s₂) X.xe s₁) X.xe s:=by
 refine thn (ha pins s σ H _ I h) λv s1 ⟨x,H1,I1,r1,q1⟩=>?_;refine thn (hb pins s1 σ H1 _ I1 q1) λu s2 ⟨y,H2,I2,r2,q2⟩=>?_;exact hf v u s2 x y H2 I2 r1 r2 q2
theorem GU{op:iX}(ho:OpR X (binaryOp op) r)(ha:PE X a ta)(hb:PE X b tb):PE X (.BinOp a op b pos) (tOp r ta tb):=by intro pins s σ H Q I h;exact wpAny_BinOp (P8 ha hb I h λv u s2 x y H2 I2 rx ry q=>ho pins s2 σ H2 x y v u Q I2 rx ry q)
theorem Ua{op:UnaryOp}{r:V->Hp->VK->Prop}(ho:UnR X (unaryOp op) r)(ha:PE X a ta):PE X (.UnaryOp op a pos) (tUn r ta):=by intro pins s σ H Q I h;exact UnaryOp_ (thn (ha pins s σ H _ I h) λv s1 ⟨x,H1,I1,r1,q1⟩=>ho pins s1 σ H1 x v Q I1 r1 q1)
theorem opI{C:Int->Int->Prop}{g:Int->Int->Int}
  (rule:∀(i j:Int) (t u:Tok) (s:ae) (Q:aa->ae->Prop) (E:aa->ae->Prop),C i j->Q (.int (g i j) s.toks) { s with toks:=s.toks+1 }->wpAny (model X.prog X.w) X.A (f (.int i t) (.int j u)) Q E s):
  OpR X f (rI C λi j=>.int (g i j)):=by
 intro pins s σ H x y v u Q I rx ry h;obtain⟨i,j,rfl,rfl,hc,q⟩:=h;obtain⟨t,rfl⟩:=rx;obtain⟨t',rfl⟩:=ry;exact rule i j t t' s _ _ hc ⟨.int (g i j),H,I.tok _,⟨_,rfl⟩,q⟩
theorem Ub{g:Int->Int->Int}
  (rule:∀(i j:Int) (t u:Tok) (s:ae) (Q:aa->ae->Prop) (E:aa->ae->Prop),Q (.int (g i j) s.toks) { s with toks:=s.toks+1 }->wpAny (model X.prog X.w) X.A (f (.int i t) (.int j u)) Q E s):
  OpR X f (rI0 λi j=>.int (g i j)):=by
 intro pins s σ H x y v u Q I rx ry h;obtain⟨i,j,rfl,rfl,q⟩:=h;obtain⟨t,rfl⟩:=rx;obtain⟨t',rfl⟩:=ry;exact rule i j t t' s _ _ ⟨.int (g i j),H,I.tok _,⟨_,rfl⟩,q⟩
theorem MN{g:Int->Int->Bool}
  (rule:∀(i j:Int) (t u:Tok) (s:ae) (Q:aa->ae->Prop) (E:aa->ae->Prop),Q (.bool (g i j)) s->wpAny (model X.prog X.w) X.A (f (.int i t) (.int j u)) Q E s):
  OpR X f (rI0 λi j=>.bl (g i j)):=by
 intro pins s σ H x y v u Q I rx ry h;obtain⟨i,j,rfl,rfl,q⟩:=h;obtain⟨t,rfl⟩:=rx;obtain⟨t',rfl⟩:=ry;exact rule i j t t' s _ _ ⟨.bl (g i j),H,I,rfl,q⟩
def P9(i j:Int):Prop:=0<j/\j<1073741824
def Uc(i j:Int):Prop:=0<=j/\j<=1000000/\i.natAbs<2 ^ 64
def MO(i j:Int):Prop:=(-(2 ^ 64)<i/\i<2 ^ 64)\/(-(2 ^ 64)<j/\j<2 ^ 64)
theorem MO.ok{i j:Int}(h:MO i j):IntMulOk i j:=by
 rcases h with ⟨h1,h2⟩|⟨h1,h2⟩
 ·exact .of_left (intBits_le_64 h1 h2)
 ·exact .of_right (intBits_le_64 h1 h2)
theorem Qa:OpR X (binaryOp .Add) (rI0 λi j=>.int (i+j)):=Ub λ_ _ _ _ _ _ _ q=>add_int q
theorem Qb:OpR X (binaryOp .Sub) (rI0 λi j=>.int (i - j)):=Ub λ_ _ _ _ _ _ _ q=>sub_int q
theorem Qc:OpR X (binaryOp .Mult) (rI MO λi j=>.int (i * j)):=opI λ_ _ _ _ _ _ _ hc q=>mul_int q hc.ok
theorem MP:OpR X (binaryOp .FloorDiv) (rI P9 λi j=>.int (i / j)):=opI λi j _ _ _ _ _ hc q=>by have h1:(0:Int)<j:=hc.1;have h2:j<1073741824:=hc.2;exact floordiv_int (by omega) (by rw[Int.fdiv_eq_ediv_of_nonneg i (by omega)];exact q) (.inl (PyProof.noPylong_small (by omega)))
theorem Qd:OpR X (binaryOp .Mod) (rI (λ_ j=>0<j) λi j=>.int (i % j)):=opI λi j _ _ _ _ _ hc q=>by have h1:(0:Int)<j:=hc;exact mod_int' (by omega) (by rw[Int.fmod_eq_emod_of_nonneg i (by omega)];exact q)
theorem Qe:OpR X (binaryOp .Pow) (rI Uc λi j=>.int (i ^ j.toNat)):=opI λ_ _ _ _ _ _ _ hc q=>pow_int_small hc.1 hc.2.1 hc.2.2 q
theorem unI{f:aa->Sem aa}{g:Int->Int}
  (rule:∀(i:Int) (t:Tok) (s:ae) (Q:aa->ae->Prop) (E:aa->ae->Prop),Q (.int (g i) s.toks) { s with toks:=s.toks+1 }->wpAny (model X.prog X.w) X.A (f (.int i t)) Q E s):
  UnR X f (rU λi=>.int (g i)):=by
 intro pins s σ H x v Q I rx h;obtain⟨i,rfl,q⟩:=h;obtain⟨t,rfl⟩:=rx;exact rule i t s _ _ ⟨.int (g i),H,I.tok _,⟨_,rfl⟩,q⟩
theorem Qf:UnR X (unaryOp .USub) (rU λi=>.int (-i)):=unI λ_ _ _ _ _ q=>neg_int q
end
def JS:V->V->Bool
 |.non,.non=>true|.non,.int _=>true|.int _,.non=>true|.non,.bl _=>true|.bl _,.non=>true|.non,.str _=>true|.str _,.non=>true
 |.int _,.int _=>true|.bl _,.bl _=>true|.str _,.str _=>true|.byt _,.byt _=>true
 |.int _,.str _=>true|.str _,.int _=>true|.bl _,.str _=>true|.str _,.bl _=>true
 |_,_=>false
def rEq:R2:=λx y H Q=>JS x y=true/\Q (.bl (decide (x=y))) H
def rNe:R2:=λx y H Q=>JS x y=true/\Q (.bl (!decide (x=y))) H
theorem GV{i j:Int}:decide (V.int i=V.int j)=(i==j):=by rw[de];simp
theorem JT{i j:Bool}:decide (V.bl i=V.bl j)=(i==j):=by rw[de];simp
theorem GW{i j:Str}:decide (V.str i=V.str j)=(i==j):=by rw[de];simp
theorem GX{i j:Array UInt8}:decide (V.byt i=V.byt j)=(i.toList==j.toList):=by rw[de];cases i;cases j;simp
variable{op':eP}{r':R2}
section
variable{X:Cx}{a b c:Expr}{ta tb tc:TE}{pos:Pos}
theorem oR{H:Hp}{s:ae}{Q:VK}{k k':Bool}(I:Inv X pins σ H s)(q:Q (.bl k) H)(e:k=k'):EP X pins σ Q (.bool k') s:=by subst e;exact⟨.bl k,H,I,rfl,q⟩
theorem Ud:OpR X (compareOp .Eq) rEq:=by
 intro pins s σ H x y v u Q I rx ry h;obtain⟨hs,q⟩:=h;cases x with
 |non=>
  cases rx;cases y with
  |non=>cases ry;exact PySem.EqNone.eq_none_none (oR I q (by simp))
  |bl j=>cases ry;exact PySem.EqNone.eq_none_bool (oR I q (by simp))
  |int j=>obtain⟨t',rfl⟩:=ry;exact PySem.EqNone.eq_none_int (oR I q (by simp))
  |str j=>obtain⟨t',rfl⟩:=ry;exact PySem.EqNone.eq_none_str (oR I q (by simp))
  |_=>exact aq (show false=true from hs) bj
 |bl i=>
  cases rx;cases y with
  |non=>cases ry;exact PySem.EqNone.eq_bool_none (oR I q (by simp))
  |bl j=>cases ry;exact eq_bool (oR I q JT)
  |str j=>obtain⟨t',rfl⟩:=ry;exact PySem.EqMixed.eq_bool_str (oR I q (by simp))
  |_=>exact aq (show false=true from hs) bj
 |int i=>
  obtain⟨t,rfl⟩:=rx;cases y with
  |non=>cases ry;exact PySem.EqNone.eq_int_none (oR I q (by simp))
  |int j=>obtain⟨t',rfl⟩:=ry;exact eq_int (oR I q GV)
  |str j=>obtain⟨t',rfl⟩:=ry;exact PySem.EqMixed.eq_int_str (oR I q (by simp))
  |_=>exact aq (show false=true from hs) bj
 |str i=>
  obtain⟨t,rfl⟩:=rx;cases y with
  |non=>cases ry;exact PySem.EqNone.eq_str_none (oR I q (by simp))
  |bl j=>cases ry;exact PySem.EqMixed.eq_str_bool (oR I q (by simp))
  |int j=>obtain⟨t',rfl⟩:=ry;exact PySem.EqMixed.eq_str_int (oR I q (by simp))
  |str j=>obtain⟨t',rfl⟩:=ry;exact eq_str (oR I q GW)
  |_=>exact aq (show false=true from hs) bj
 |byt i=>
  obtain⟨t,rfl⟩:=rx;cases y with
  |byt j=>obtain⟨t',rfl⟩:=ry;exact W.eq_bytes (oR I q GX)
  |_=>exact aq (show false=true from hs) bj
 |_=>cases y<;>exact aq (show false=true from hs) bj
theorem Ue:OpR X (compareOp .NotEq) rNe:=by
 intro pins s σ H x y v u Q I rx ry h;obtain⟨hs,q⟩:=h;cases x with
 |non=>
  cases rx;cases y with
  |non=>cases ry;exact PySem.EqNone.ne_none_none (oR I q (by simp))
  |bl j=>cases ry;exact PySem.EqNone.ne_none_bool (oR I q (by simp))
  |int j=>obtain⟨t',rfl⟩:=ry;exact PySem.EqNone.ne_none_int (oR I q (by simp))
  |str j=>obtain⟨t',rfl⟩:=ry;exact PySem.EqNone.ne_none_str (oR I q (by simp))
  |_=>exact aq (show false=true from hs) bj
 |bl i=>
  cases rx;cases y with
  |non=>cases ry;exact PySem.EqNone.ne_bool_none (oR I q (by simp))
  |bl j=>cases ry;exact ne_bool (oR I q (aQ not JT))
  |str j=>obtain⟨t',rfl⟩:=ry;exact PySem.EqMixed.ne_bool_str (oR I q (by simp))
  |_=>exact aq (show false=true from hs) bj
 |int i=>
  obtain⟨t,rfl⟩:=rx;cases y with
  |non=>cases ry;exact PySem.EqNone.ne_int_none (oR I q (by simp))
  |int j=>obtain⟨t',rfl⟩:=ry;exact ne_int (oR I q (aQ not GV))
  |str j=>obtain⟨t',rfl⟩:=ry;exact PySem.EqMixed.ne_int_str (oR I q (by simp))
  |_=>exact aq (show false=true from hs) bj
 |str i=>
  obtain⟨t,rfl⟩:=rx;cases y with
  |non=>cases ry;exact PySem.EqNone.ne_str_none (oR I q (by simp))
  |bl j=>cases ry;exact PySem.EqMixed.ne_str_bool (oR I q (by simp))
  |int j=>obtain⟨t',rfl⟩:=ry;exact PySem.EqMixed.ne_str_int (oR I q (by simp))
  |str j=>obtain⟨t',rfl⟩:=ry;exact ne_str (oR I q (aQ not GW))
  |_=>exact aq (show false=true from hs) bj
 |byt i=>
  obtain⟨t,rfl⟩:=rx;cases y with
  |byt j=>obtain⟨t',rfl⟩:=ry;exact W.ne_bytes (oR I q (aQ not GX))
  |_=>exact aq (show false=true from hs) bj
 |_=>cases y<;>exact aq (show false=true from hs) bj
theorem Ug:OpR X (compareOp .Lt) (rI0 λi j=>.bl (decide (i<j))):=MN λ_ _ _ _ _ _ _ q=>lt_int q
theorem Uh:OpR X (compareOp .LtE) (rI0 λi j=>.bl (decide (i<=j))):=MN λ_ _ _ _ _ _ _ q=>le_int q
theorem Ui:OpR X (compareOp .Gt) (rI0 λi j=>.bl (decide (j<i))):=MN λ_ _ _ _ _ _ _ q=>gt_int q
theorem Uj:OpR X (compareOp .GtE) (rI0 λi j=>.bl (decide (j<=i))):=MN λ_ _ _ _ _ _ _ q=>ge_int q
theorem Qg:OpR X (compareOp .Is) (λx y H Q=>y=.non/\Q (.bl (decide (x=.non))) H):=by
 intro pins s σ H x y v u Q I rx ry h;obtain⟨rfl,q⟩:=h;cases ry;refine is_none_gen (oR I q ?_);cases x<;>first
  |(cases rx;rfl)
  |(obtain⟨t,rfl⟩:=rx;rfl)
theorem MQ:OpR X (compareOp .IsNot) (λx y H Q=>y=.non/\Q (.bl (!decide (x=.non))) H):=by
 intro pins s σ H x y v u Q I rx ry h;obtain⟨rfl,q⟩:=h;cases ry;refine isnot_none_gen (oR I q ?_);cases x<;>first
  |(cases rx;rfl)
  |(obtain⟨t,rfl⟩:=rx;rfl)
theorem MR(ho:OpR X (compareOp op) r)(ha:PE X a ta)(hb:PE X b tb)(hm:behindInMarks op b=false):PE X (.Compare a [op] [b] pos) (tOp r ta tb):=by intro pins s σ H Q I h;exact wpAny_Compare1 (P8 ha hb I h λv u s2 x y H2 I2 rx ry q=>ho pins s2 σ H2 x y v u Q I2 rx ry q) hm
def JU(t:TE):TT:=λσ H Q=>t σ H λx H'=>∃k,x=.bl k/\Q k H'
theorem MS(ho:OpR X (compareOp op) r)(ha:PE X a ta)(hb:PE X b tb)(hm:behindInMarks op b=false):PT X (.Compare a [op] [b] pos) (JU (tOp r ta tb)):=by
 intro pins s σ H Q I h;refine lN (thn (ha pins s σ H _ I h) λv s1 ⟨x,H1,I1,r1,q1⟩=>thn (hb pins s1 σ H1 _ I1 q1) λu s2 ⟨y,H2,I2,r2,q2⟩=>
  thn (ho pins s2 σ H2 x y v u _ I2 r1 r2 q2) λc s3 ⟨z,H3,I3,r3,k,e,q3⟩=>?_) hm
 subst e;cases r3;exact cO ⟨H3,I3,q3⟩
def FC(r r':R2)(ta tb tc:TE):TE:=λσ H Q=>ta σ H λx H1=>tb σ H1 λy H2=>r x y H2 λz H3=>∃k,z=.bl k/\
 (if k=true then tc σ H3 λw' H4=>r' y w' H4 Q else Q (.bl false) H3)
theorem JV(ho:OpR X (compareOp op) r)(ho':OpR X (compareOp op') r')(ha:PE X a ta)(hb:PE X b tb)(hc:PE X c tc)
  (hm:lastMarks [op,op'] [b,c]=false:=by with_unfolding_all rfl):PE X (.Compare a [op,op'] [b,c] pos) (FC r r' ta tb tc):=by
 intro pins s σ H Q I h;refine Compare_chain (thn (ha pins s σ H _ I h) λv s1 ⟨x,H1,I1,r1,q1⟩=>chain_link (thn (hb pins s1 σ H1 _ I1 q1) λu s2 ⟨y,H2,I2,r2,q2⟩=>
  thn (ho pins s2 σ H2 x y v u _ I2 r1 r2 q2) λd s3 ⟨z,H3,I3,r3,k,e,q3⟩=>?_)) hm
 subst e;cases r3;refine cO ?_;cases k with
 |false=>exact ite_ff ⟨.bl false,H3,I3,rfl,q3⟩
 |true=>exact ite_tt (chain_last (thn (hc pins s3 σ H3 _ I3 q3) λw' s4 ⟨z',H4,I4,r4,q4⟩=>ho' pins s4 σ H4 y z' u w' Q I4 r2 r4 q4))
theorem JW(ho:OpR X (compareOp op) r)(ho':OpR X (compareOp op') r')(ha:PE X a ta)(hb:PE X b tb)(hc:PE X c tc)
  (hm:lastMarks [op,op'] [b,c]=false:=by with_unfolding_all rfl):PT X (.Compare a [op,op'] [b,c] pos) (JU (FC r r' ta tb tc)):=by
 intro pins s σ H Q I h;refine isTrue_chain (thn (ha pins s σ H _ I h) λv s1 ⟨x,H1,I1,r1,q1⟩=>test_link (thn (hb pins s1 σ H1 _ I1 q1) λu s2 ⟨y,H2,I2,r2,q2⟩=>
  thn (ho pins s2 σ H2 x y v u _ I2 r1 r2 q2) λd s3 ⟨z,H3,I3,r3,k,e,q3⟩=>?_)) hm
 subst e;cases r3;refine cO ?_;cases k with
 |false=>obtain⟨k',e',q'⟩:=q3;cases e';exact ite_ff ⟨H3,I3,q'⟩
 |true=>refine ite_tt (test_last (thn (hc pins s3 σ H3 _ I3 q3) λw' s4 ⟨z',H4,I4,r4,q4⟩=>thn (ho' pins s4 σ H4 y z' u w' _ I4 r2 r4 q4) λd' s5 ⟨z2,H5,I5,r5,k2,e2,q5⟩=>?_));subst e2;cases r5;exact cO ⟨H5,I5,q5⟩
theorem An:(sizeLine:Nat)<2 ^ 63:=by rw[bK];decide
theorem FD:OpR X (binaryOp .Add) (λx y H Q=>∃i j,x=.str i/\y=.str j/\i.length+j.length<=sizeLine/\Q (.str (i++j)) H):=by intro pins s σ H x y v u Q I rx ry h;obtain⟨i,j,rfl,rfl,hz,q⟩:=h;obtain⟨t,rfl⟩:=rx;obtain⟨t',rfl⟩:=ry;exact add_str (λt' tk=>⟨.str (i++j),H,I.tok _,⟨_,rfl⟩,q⟩) hz
theorem vals1{x:V}(r:Vals [x] us):∃u,us=[u]/\RelV x u:=by
 cases r with
 |cons r1 r2=>cases r2;exact⟨_,rfl,r1⟩
theorem vals2{x:V}(r:Vals [x,y] us):∃u w',us=[u,w']/\RelV x u/\RelV y w':=by
 cases r with
 |cons r1 r2=>
  cases r2 with
  |cons r3 r4=>cases r4;exact⟨_,_,rfl,r1,r3⟩
theorem Il:p9 X (.type "int") (λxs H Q=>(∃i,xs=[.int i]/\Q (.int i) H)\/∃k,xs=[.bl k]/\Q (.int (if k then 1 else 0)) H):=by
 intro pins s σ H xs us Q I r h;rcases h with ⟨i,rfl,q⟩|⟨k,rfl,q⟩
 ·obtain⟨u,rfl,t,rfl⟩:=vals1 r;exact call_int_int ⟨.int i,H,I,⟨_,rfl⟩,q⟩
 ·obtain⟨u,rfl,r1⟩:=vals1 r;cases r1;exact call_int_bool ⟨.int (if k then 1 else 0),H,I.tok _,⟨_,rfl⟩,q⟩
end
structure FH(h:Heap)(x dx C:Addr)(mA:Str->Option aa):Prop where
 obj:h.get? x=some (dM C dx)
 ns:h.Ns1 dx mA
 ne:dx≠x
variable{dx:Addr}{mA:Str->Option aa}
theorem Im{h:Heap}(n:h.Ns1 dx mA):∃od,h.get? dx=some od/\∀name,iY name od=some (mA name):=by
 obtain⟨o,es,ep,ho,hd,hk,_,hm⟩:=n;refine⟨o,ho,λname=>?_⟩;have e:=hm name;unfold nsFind findBy at e;rw[<-Array.find?_toList]at e;unfold iY;rw[hd];dsimp only;split
 ·rename_i y q;rw[q]at e;exact aQ some e
 ·rename_i q;rw[q]at e;have a:es.toList.any (·.refKey)=false:=by rw[mw];intro y hy;obtain⟨z,t,hkey⟩:=hk y (Array.mem_toList_iff.mp hy);simp[DictEntry.refKey,hkey]
  have a':¬es.toList.any (·.refKey)=true:=by rw[a];exact bj
  rw[aj a'];exact aQ some e
variable{C:Addr}
theorem FH.look{h:Heap}{x:Addr}(I:FH h x dx C mA):∃od,W.InstAt h x (dM C dx) C (some od)/\∀name,iY name od=some (mA name):=
 let ⟨od,ho,hl⟩:=Im I.ns
 ⟨od,⟨I.obj,rfl,rfl,ho⟩,hl⟩
variable{kw:List (Str×aa)}
section
variable{prog:aA}{w:av}{A:aE}{E:aa->ae->Prop}{s:ae}{K:ao}{x dx C f:Addr}{mA:Str->Option aa}{name:Str}{v:aa}
theorem get_map{expr:Bool}(X:K.In s.heap)(I:FH s.heap x dx C mA)(hg:iP K C name=true)(hh:ko K C=true)
  (ha:cI K (.ref C) name=some none) (hv:mA name=some v) (hv':W.handedIn v=true) (h:Q v { s with toks:=s.toks+1 }):
  wpAny (model prog w) A (getAttr (.ref x) name expr) Q E s:=by
 obtain⟨od,J,hl⟩:=I.look;exact W.get_value X J (jU hg).1 (W.findObj_own hh ha rfl (by rw[hl,hv])) hv' h
theorem JX{pl:Sem Bool}{Q:aa×List aa->ae->Prop}(X:K.In s.heap)(I:FH s.heap x dx C mA)(hg:iP K C name=true)
  (hf:cI K (.ref C) name=some (some (.ref f))) (ht:W.isFn K (.ref f)=true) (hv:mA name=none) (h:Q (.ref f,[.ref x]) s):
  wpAny (model prog w) A (getMethod (.ref x) name pl) Q E s:=by
 obtain⟨od,J,hl⟩:=I.look;exact W.method_fn X J (jU hg).1 (jU hg).2 hf (beq_iff_eq.mp ht) (by show (iY name od).map (·.isSome)=some false;rw[hl,hv];rfl) h
theorem MU{ns:aG}{Q:Unit->ae->Prop}(X:K.In s.heap)(I:FH s.heap x dx C mA)
  (hs:cI K (.ref C) "__setattr__" = some (some (.builtin "object.__setattr__"))) (hp:W.plainOver K C=true) (ht:kI K C name=some none) (hh:ko K C=true)
  (hw:j3 mA ns) (hsz:ns.length<=sizeLine)
  (h:∀h',FH h' x dx C (λy=>if y=name then some v else mA y)->eG dx s.heap h'->Q () { s with heap:=h',toks:=s.toks+2 }):
  wpAny (model prog w) A (setAttr (.ref x) name v) Q E s:=by
 obtain⟨od,J,hl⟩:=I.look;refine W.set_plain X J hs (W.osa_open (s:={ s with toks:=s.toks+1 }) (r:=none) X J hp ht λb=>?_);obtain⟨cd,hc,hd'⟩:=W.any_some hh;have hx:s.heap.get? x=some ⟨.ref C,some dx,.plain,#[]⟩:=I.obj;refine ag (au (ag (ag (wpAny_loadPart hx (ag (W.Looks.here (s:={ s with toks:=s.toks+1 }) (W.looks_clsIn X hc) ?_))))));rw[hd'];refine au (a:=some dx) (ag (au (ag ?_)));refine wpAny_nsSet1 (s:={ s with toks:=s.toks+1 }) I.ns λh' hn2 hs2=>?_;obtain⟨oD,esD,epD,hoD,hdD,hcD⟩:=hn2.count (PySem.Within.cons name v hw);refine ag (wpAny_lookBehind hoD (by rw[hdD];exact pastItsLine_dict (bS hcD (by rw[aF];omega))) ?_);exact au (h _ ⟨(hs2.2 _ (cJ I.ne)).trans I.obj,hn2,I.ne⟩ hs2)
theorem JY{R:dP->ae->Prop}{vs:List aa}(X:K.In s.heap)(hm:W.makesIn K C=true)
  (hi:cI K (.ref C) "__init__" = some (some (.ref f))) (hf:W.typeIn K (.ref f)=some (.type "function"))
  (h:codeAny (model prog w) (A.under (.builtin "type.__call__" ⟨.ref C::vs,kw⟩)) (.call (.ref f) ⟨.ref (s.heap.objs.size+1)::vs,kw⟩) (W.InitBack (s.heap.objs.size+1) R)
   { s with heap:=(s.heap.push dg).push (dM C s.heap.objs.size) }):
  codeAny (model prog w) A (.call (.ref C) ⟨vs,kw⟩) R s:=by
 obtain⟨hh,g,d,t,os⟩:=s;exact W.make_core (W.makes_of X hm) (W.looks_findIn X hi) (λself=>W.bind_fn X self hf) (.inl rfl) h
end
def uG(f:Str)(v:V):List (Str×V)->List (Str×V)
 |[]=>[(f,v)]
 |(g,x)::r=>if g=f then (g,v)::r else (g,x)::uG f v r
theorem zp(f g:Str)(v:V):∀fs:List (Str×V),(uG f v fs).lookup g=if g=f then some v else fs.lookup g
 |[]=>by
  show cH g [(f,v)]=_;by_cases h:g=f
  ·have hb:(g==f)=true:=beq_iff_eq.mpr h;simp only[cH,hb,ai h]
  ·have hb:(g==f)=false:=beq_eq_false_iff_ne.mpr h;simp only[cH,hb,aj h]
 |(k,x)::r=>by
  have ih:=zp f g v r;rw[show uG f v ((k,x)::r)=(if k=f then (k,v)::r else (k,x)::uG f v r) from rfl];by_cases hk:k=f
  ·rw[ai hk];by_cases h:g=k
   ·have hb:(g==k)=true:=beq_iff_eq.mpr h;simp only[cH,hb,ai (h.trans hk)]
   ·have hb:(g==k)=false:=beq_eq_false_iff_ne.mpr h;simp only[cH,hb,aj (λe:g=f=>h (e.trans hk.symm))]
  ·rw[aj hk];by_cases h:g=k
   ·have hb:(g==k)=true:=beq_iff_eq.mpr h;simp only[cH,hb,aj (λe:g=f=>hk (h.symm.trans e))]
   ·have hb:(g==k)=false:=beq_eq_false_iff_ne.mpr h;simp only[cH,hb];exact ih
theorem yJ(f:Str)(v:V):∀fs:List (Str×V),f∈(uG f v fs).map (·.1)/\∀g,g∈fs.map (·.1)->g∈(uG f v fs).map (·.1)
 |[]=>⟨by simp[uG],λg h=>by simp at h⟩
 |(k,x)::r=>by
  obtain⟨i1,i2⟩:=yJ f v r;rw[show uG f v ((k,x)::r)=(if k=f then (k,v)::r else (k,x)::uG f v r) from rfl];by_cases hk:k=f
  ·rw[ai hk];subst hk;exact⟨by simp,λg h=>by simpa using h⟩
  ·rw[aj hk];refine⟨?_,λg h=>?_⟩
   ·rw[ar];exact ba _ i1
   ·rw[ar]at h ⊢;rcases aP.mp h with e|e
    ·exact aP.mpr (.inl e)
    ·exact ba _ (i2 g e)
theorem zq(f:Str)(v:V):∀fs:List (Str×V),(uG f v fs).length<=fs.length+1
 |[]=>by simp[uG]
 |(k,x)::r=>by
  have ih:=zq f v r;rw[show uG f v ((k,x)::r)=(if k=f then (k,v)::r else (k,x)::uG f v r) from rfl];by_cases hk:k=f
  ·rw[ai hk,aF,aF];omega
  ·rw[aj hk,aF,aF];omega
theorem vT.some_of{v:V}{o:Option aa}(r:vT (some v) o):∃u,o=some u/\RelV v u:=by
 cases o with
 |none=>exact(show False from r).elim
 |some u=>exact⟨u,rfl,r⟩
theorem vT.none_of{o:Option aa}(r:vT none o):o=none:=by
 cases o with
 |none=>rfl
 |some u=>exact(show False from r).elim
theorem Io{v:V}(r:RelV v u):W.handedIn u=true:=by
 cases v with
 |non=>cases (show u=Value.none from r);rfl
 |bl b=>cases (show u=Value.bool b from r);rfl
 |int i=>obtain⟨t,e⟩:=(show ∃t,u=Value.int i t from r);cases e;rfl
 |str x=>obtain⟨t,e⟩:=(show ∃t,u=Value.str x t from r);cases e;rfl
 |byt b=>obtain⟨t,e⟩:=(show ∃t,u=Value.bytes b t from r);cases e;rfl
 |flt b=>obtain⟨t,e⟩:=(show ∃t,u=Value.float b t from r);cases e;rfl
 |ref a=>cases (show u=Value.ref a from r);rfl
 |ty n=>cases (show u=Value.type n from r);rfl
section
variable{P:aA}{w:av}{H H':Hp}{h h':Heap}{a C dx:Addr}{fs fs':List (Str×V)}
theorem Aa(hok:HOk P w H h)(e:H a=some (.ins C dx fs)):∃mA,FH h a dx C mA/\(∀f,vT (fs.lookup f) (mA f))/\j3 mA (fs.map (·.1))/\fs.length<=1000/\H dx=some (.own a):=by obtain⟨d,z,ne,ob,mA,n,r,q⟩:=(show pD P w H h a (.ins C dx fs) from hok a _ e);exact⟨mA,⟨ob,n,ne⟩,r,q,z,d⟩
end
structure Cls(K:ao)(C:Addr):Prop where
 pg:iP K C Str.empty=true
 hd:ko K C=true
 po:W.plainOver K C=true
 sa:cI K (.ref C) "__setattr__" = some (some (.builtin "object.__setattr__"))
theorem Cls.get{K:ao}(c:Cls K C)(f:Str):iP K C f=true:=c.pg
def tw(K:ao)(C:Addr)(f:Str):Prop:=cI K (.ref C) f=some none
theorem tw.taker{K:ao}{f:Str}(n:tw K C f):kI K C f=some none:=by unfold kI;rw[show cI K (.ref C) f=some none from n];rfl
structure Meth(K:ao)(C:Addr)(m:Str)(f:Addr):Prop where
 at_:cI K (.ref C) m=some (some (.ref f))
 fn:W.isFn K (.ref f)=true
 kp:eM K (.ref f)=true
section
variable{X:Cx}{pins:bY}{σ:St}{H:Hp}{s:ae}{a C dx:Addr}{fs:List (Str×V)}{f:Str}{v:V}{A:aE}{E:aa->ae->Prop}
theorem FI{b:Bool}(I:Inv X pins σ H s)(e:H a=some (.ins C dx fs))(c:Cls X.K C)(n:tw X.K C f)(l:fs.lookup f=some v)
  (h:∀u s',Inv X pins σ H s'->RelV v u->Q u s'):wpAny (model X.prog X.w) A (getAttr (.ref a) f b) Q E s:=by
 obtain⟨mA,O,r,_,_,_⟩:=Aa I.hok e;obtain⟨u,hu,ru⟩:=vT.some_of (v:=v) (o:=mA f) (by rw[<-l];exact r f);exact get_map I.kIn O (c.get f) c.hd n hu (Io ru) (h u _ (I.tok _) ru)
theorem Ao{m:Str}{g:Addr}{pl:Sem Bool}{Q:aa×List aa->ae->Prop}(I:Inv X pins σ H s)(e:H a=some (.ins C dx fs))(c:Cls X.K C)(k:Meth X.K C m g)(l:fs.lookup m=none)
  (h:Q (.ref g,[.ref a]) s):wpAny (model X.prog X.w) A (getMethod (.ref a) m pl) Q E s:=by
 obtain⟨mA,O,r,_,_,_⟩:=Aa I.hok e;have hn:mA m=none:=vT.none_of (by rw[<-l];exact r m);exact JX I.kIn O (c.get m) k.at_ k.fn hn h
theorem FJ{Q:Unit->ae->Prop}(I:Inv X pins σ H s)(e:H a=some (.ins C dx fs))(c:Cls X.K C)(n:tw X.K C f)(hl:fs.length<1000)(ry:RelV y u)
  (h:∀s',Inv X pins σ (upd H a (.ins C dx (uG f y fs))) s'->Q () s'):wpAny (model X.prog X.w) A (setAttr (.ref a) f u) Q E s:=by
 obtain⟨mA,O,r,wi,_,ho⟩:=Aa I.hok e;have hz:(fs.map (·.1)).length<=sizeLine:=by rw[ah,bK];omega
 refine MU I.kIn O c.sa c.po n.taker c.hd wi hz λh' O' sb=>h _ ?_;have hd:∃o,h'.get? dx=some o:=let ⟨o,_,_,e',_⟩:=O'.ns;⟨o,e'⟩;refine I.write (x:=a) (e:=dx) (by rw[e];exact True.intro) (.inr ho) (λb q hb z=>(sb.2 b hb).trans z) hd ?_;refine⟨by rw[og O.ne];exact ho,?_,O.ne,O'.obj,_,O'.ns,λg=>?_,λg hg=>?_⟩
 ·have:=zq f y fs;omega
 ·show vT ((uG f y fs).lookup g) (if g=f then some u else mA g);rw[zp];by_cases q:g=f
  ·rw[ai q,ai q];exact ry
  ·rw[aj q,aj q];exact r g
 ·by_cases q:g=f
  ·rw[q];exact(yJ f y fs).1
  ·refine(yJ f y fs).2 g (wi g λz=>hg ?_);show (if g=f then some u else mA g)=none;rw[aj q];exact z
theorem Inv.made(I:Inv X pins σ H s):Inv X pins σ (upd (upd H s.heap.objs.size (.own (s.heap.objs.size+1))) (s.heap.objs.size+1) (.ins C s.heap.objs.size []))
  { s with heap:=(s.heap.push dg).push (dM C s.heap.objs.size) }:=by
 have e1:(s.heap.push dg).get? s.heap.objs.size=some dg:=bq s.heap rfl;have e2:((s.heap.push dg).push (dM C s.heap.objs.size)).get? (s.heap.objs.size+1)=some (dM C s.heap.objs.size):=by
  have:=bq (s.heap.push dg) (o:=dM C s.heap.objs.size) rfl
  rwa [cF]at this
 have e3:(s.heap.push dg).Ns s.heap.objs.size (λ_=>none):=⟨dg,#[],_,e1,rfl,(λe he=>aq he (by simp)),λ_=>rfl⟩;have I1:=I.laid (a:=s.heap.objs.size) (o:=.own (s.heap.objs.size+1)) (h':=s.heap.push dg) (t':=s.toks) (λb u q=>aH _ q) (az _) ⟨_,e1⟩;refine I1.laid (a:=s.heap.objs.size+1) (o:=.ins C s.heap.objs.size []) (t':=s.toks) (λb u q=>aH _ q) (Nat.le_of_eq (cF _ _)) ?_;have ne:s.heap.objs.size≠s.heap.objs.size+1:=bf (fZ _);refine⟨by rw[og ne,oa],bW _,ne,e2,λ_=>none,(Heap.Ns1.of_empty e3).at λo q=>aH _ q,λ_=>True.intro,λy hy=>aq rfl hy⟩
theorem MV{prog:aA}{w:av}{env:Env}{f:Str}{s:ae}(hb:attributeBase e f env (eval e env)=eval e env)
  (h:wpAny (model prog w) A (eval e env) (λo s₁=>wpAny (model prog w) A (getAttr o f true) Q E s₁) E s):wpAny (model prog w) A (eval (.Attribute e f pos) env) Q E s:=
 Attribute_any_ h (by rw[arm_eval_Attribute,hb])
end
def Vz(K:ao)(ta:TE)(f:Str):TE:=λσ H Q=>ta σ H λx H1=>∃a C dx fs v,x=.ref a/\H1 a=some (.ins C dx fs)/\Cls K C/\tw K C f/\fs.lookup f=some v/\Q v H1
def Uk(K:ao)(ta tv:TE)(f:Str):TS:=λD σ H=>tv σ H λy H1=>ta σ H1 λx H2=>∃a C dx fs,x=.ref a/\H2 a=some (.ins C dx fs)/\Cls K C/\tw K C f/\fs.length<1000/\
 D.nx σ (upd H2 a (.ins C dx (uG f y fs)))
section
variable{X:Cx}{o e value:Expr}{f:Str}{pos pos' tpos:Pos}{ta tv:TE}
theorem Qh(he:PE X e ta)(hb:attributeBase e f X.env (eval e X.env)=eval e X.env):PE X (.Attribute e f pos) (Vz X.K ta f):=by intro pins s σ H Q I h;refine MV hb (thn (he pins s σ H _ I h) λu s1 ⟨x,H1,I1,rx,a,C,dx,fs,v,ex,ea,c,n,l,q⟩=>?_);subst ex;obtain rfl:u=Value.ref a:=rx;exact FI I1 ea c n l λu' s2 I2 ru=>⟨v,H1,I2,ru,q⟩
theorem Qi(ha:PE X o ta)(hv:PE X value tv)(hs:swapsWith value (some (.Attribute o f pos')) pos.line X.env=pure false):PS X (.Assign [.Attribute o f pos'] value pos) (Uk X.K ta tv f):=by intro pins s σ H D I h;refine plainObj_wpAny_Assign_Attribute (thn (hv pins s σ H _ I h) λu s1 ⟨y,H1,I1,ry,q⟩=>thn (ha pins s1 σ H1 _ I1 q) λov s2 ⟨x,H2,I2,rx,a,C,dx,fs,ex,ea,c,n,l,q2⟩=>?_) hs;subst ex;obtain rfl:ov=Value.ref a:=rx;exact FJ I2 ea c n l ry λs3 I3=>⟨σ,_,I3,q2⟩
end
section
variable{X:Cx}{pins:bY}{σ:St}{H:Hp}{s:ae}{A:aE}{E:aa->ae->Prop}{Q:aa->ae->Prop}{c:aa}{b:Bool}
inductive zW(K:ao) (H:Hp):V->aa->Prop where
 |non:zW K H .non (.type "NoneType")
 |bl (x:Bool):zW K H (.bl x) (.type "bool")
 |int (i:Int):zW K H (.int i) (.type "int")
 |str (x:Str):zW K H (.str x) (.type "str")
 |flt (x:UInt64):zW K H (.flt x) (.type "float")
 |lst {a:Addr} {xs:bp} (e:H a=some (.lst xs)):zW K H (.ref a) (.type "list")
 |frz {a:Addr} {o:Obj} {xs:bp} (e:H a=some (.frz o (.lst xs))):zW K H (.ref a) (.type "list")
 |tup {a:Addr} {xs:bp} (e:H a=some (.tup xs)):zW K H (.ref a) (.type "tuple")
 |dK {a:Addr} {kvs:List (Key×V)} (e:H a=some (.dK kvs)):zW K H (.ref a) (.type "dict")
 |dT {a:Addr} {kvs:List (List Key×V)} (e:H a=some (.dT kvs)):zW K H (.ref a) (.type "dict")
 |ins {a C dx:Addr} {fs:List (Str×V)} (e:H a=some (.ins C dx fs)) (cl:Cls K C) (ha:cI K (.ref C) "__class__" = some (some (.builtin "object.__class__")))
   (hn:W.specialIn K (.builtin "object.__class__") "__get__" = some (some (.builtin "getset_descriptor.__get__"))) (htk:W.takesIn K (.builtin "object.__class__")=some true)
   (hm:W.mroIn K C (.type "object")=some true):zW K H (.ref a) (.ref C)
theorem sY{x:V}{t:aa}(I:Inv X pins σ H s)(rx:RelV x u)(ty:zW X.K H x t)(e:cA X.K t c=some b)(h:∀tk,Q (.bool b) { s with toks:=tk }):
  wpAny (model X.prog X.w) A (call (.builtin "isinstance") [u,c]) Q E s:=by
 cases ty with
 |non=>cases (show u=Value.none from rx);exact cn W.kitx_none I.kIn True.intro e (λz=>nomatch z) h
 |bl y=>cases (show u=Value.bool y from rx);exact cn W.kitx_bool I.kIn True.intro e (λz=>nomatch z) h
 |int i=>obtain⟨t,q⟩:=(show ∃t,u=Value.int i t from rx);cases q;exact cn W.kitx_int I.kIn True.intro e (λz=>nomatch z) h
 |str y=>obtain⟨t,q⟩:=(show ∃t,u=Value.str y t from rx);cases q;exact cn W.kitx_str I.kIn True.intro e (λz=>nomatch z) h
 |flt y=>obtain⟨t,q⟩:=(show ∃t,u=Value.float y t from rx);cases q;exact cn W.kitx_float I.kIn True.intro e (λz=>nomatch z) h
 |@lst a xs ea=>cases (show u=Value.ref a from rx);obtain⟨_,_,n,_,h1⟩:=(show pD X.prog X.w H s.heap a (.lst xs) from I.hok a _ ea);exact cn kq I.kIn ⟨_,h1,rfl⟩ e (λz=>nomatch z) h
 |@frz a ob xs ea=>cases (show u=Value.ref a from rx);obtain⟨_,_,_,n,_,h1⟩:=(show pD X.prog X.w H s.heap a (.frz ob (.lst xs)) from I.hok a _ ea);exact cn kq I.kIn ⟨_,h1,rfl⟩ e (λz=>nomatch z) h
 |@tup a xs ea=>cases (show u=Value.ref a from rx);obtain⟨_,_,_,p⟩:=(show pD X.prog X.w H s.heap a (.tup xs) from I.hok a _ ea);obtain⟨o,h1,h2,_⟩:=p;exact cn W.kitx_tuple I.kIn ⟨o,h1,h2⟩ e (λz=>nomatch z) h
 |@dK a kvs ea=>cases (show u=Value.ref a from rx);obtain⟨_,_,vs,_,p⟩:=(show pD X.prog X.w H s.heap a (.dK kvs) from I.hok a _ ea);obtain⟨o,es,ep,h1,h2,_⟩:=p;exact cn kr I.kIn ⟨o,h1,h2.1⟩ e (λz=>nomatch z) h
 |@dT a kvs ea=>cases (show u=Value.ref a from rx);obtain⟨_,_,xs,_,o,es,ep,h1,h2,_⟩:=(show pD X.prog X.w H s.heap a (.dT kvs) from I.hok a _ ea);exact cn kr I.kIn ⟨o,h1,h2.1⟩ e (λz=>nomatch z) h
 |@ins a C dx fs ea cl ha hn htk hm=>cases (show u=Value.ref a from rx);obtain⟨mA,O,_⟩:=Aa I.hok ea;obtain⟨od,J,_⟩:=O.look;exact cn (W.kitx_own (cl.get _) cl.hd ha hn htk hm) I.kIn J e (λz=>nomatch z) h
end
structure qa(k:Nat)(A:aE):Prop where
 hd:A.handled=none
 dp:A.depth+3 * k+5<recursionLimit
 un:A.units+16 * k+200<cLine
theorem qa.mono{k:Nat}{A:aE}(r:qa k A)(h:j<=k):qa j A:=⟨r.hd,by have:=r.dp;omega,by have:=r.un;omega⟩
theorem qa.deeper{k:Nat}{A:aE}(r:qa (k+1) A)(env:Env):qa k (A.deeper env):=
 ⟨r.hd,by have:=r.dp;show A.depth+1+3 * k+5<_;omega,by have:=r.un;show A.units+3+16 * k+200<_;omega⟩
theorem FK{A:aE}:(A.under (.builtin "type.__call__" ⟨.ref C::us,kw⟩)).depth=A.depth+1:=by
 first|rfl|simp[j4,Code.weight,Code.isCreation,Code.isGuard,Code.isCaller,Code.frames,j5,guardIds]
theorem FL{A:aE}:(A.under (.builtin "type.__call__" ⟨.ref C::us,kw⟩)).units=A.units+1:=by
 first|rfl|simp[j4,Code.cUnits,Code.frames,j5]
theorem qa.make{k:Nat}{A:aE}(r:qa (k+1) A)(C:Addr)(us:List aa)(kw:List (Str×aa)):qa k (A.under (.builtin "type.__call__" ⟨.ref C::us,kw⟩)):=
 ⟨r.hd,by have:=r.dp;rw[FK];omega,by have:=r.un;rw[FL];omega⟩
theorem qa.depth{k:Nat}{A:aE}(r:qa k A):A.depth<recursionLimit:=by have:=r.dp;omega
theorem qa.units{k:Nat}{A:aE}(r:qa k A):A.units+64<cLine:=by have:=r.un;omega
def Ec:TA:=λ_ H Q=>Q [] H
def Ap(ta:TE)(tr:TA):TA:=λσ H Q=>ta σ H λx H1=>tr σ H1 λxs H2=>Q (x::xs) H2
section
variable{X:Cx}{e:Expr}{es:List Expr}{te:TE}{t:TA}{pos:Pos}
theorem uo:PA X [] Ec:=λ_ _ _ _ H Q I h=>ik ⟨[],H,I,.nil,h⟩
theorem qH(ha:PE X e te)(hr:PA X es t)(hs:starEach (e::es) X.env=(false,eval e X.env)::starEach es X.env:=by rfl):PA X (e::es) (Ap te t):=by intro pos pins s σ H Q I h;rw[hs];show wpAny _ _ (spliced ((false,eval e X.env)::backTo pos (starEach es X.env))) _ _ s;refine fT (thn (ha pins s σ H _ I h) λu s1 ⟨x,H1,I1,r1,q1⟩=>?_);exact thn (hr pos pins s1 σ H1 _ I1 q1) λus s2 ⟨xs,H2,I2,r2,q2⟩=>⟨x::xs,H2,I2,.cons r1 r2,q2⟩
def VA(t:TA):TE:=λσ H Q=>t σ H λxs H1=>xs.length<=sizeLine/\∀p,H1 p=none->Q (.ref p) (upd H1 p (.tup xs))
def Ul(t:TA):TE:=λσ H Q=>t σ H λxs H1=>xs.length<=sizeLine/\∀p,H1 p=none->Q (.ref p) (upd H1 p (.lst xs))
theorem Qj{x1}(h:PA X es t):PE X (.Tuple es x1 pos) (VA t):=by intro pins s σ H Q I hq;refine wpAny_Tuple_spliced (thn (h pos pins s σ H _ I hq) λus s1 ⟨xs,H1,I1,r,z,q⟩=>⟨by rw[<-r.length];exact z,?_⟩);have hf:H1 s1.heap.objs.size=none:=I1.hok.fresh (az _);refine⟨.ref s1.heap.objs.size,upd H1 s1.heap.objs.size (.tup xs),I1.laid (t':=s1.toks) (λb u e=>aH _ e) (az _) ?_,rfl,q _ hf⟩;exact⟨z,us,r,⟨_,bq _ rfl,rfl,_,rfl⟩⟩
theorem JZ(h:PA X es t):PE X (.List es pos) (Ul t):=by intro pins s σ H Q I hq;refine wpAny_List_spliced (thn (h pos pins s σ H _ I hq) λus s1 ⟨xs,H1,I1,r,z,q⟩=>⟨by rw[<-r.length];exact z,?_⟩);have hf:H1 s1.heap.objs.size=none:=I1.hok.fresh (az _);refine⟨.ref s1.heap.objs.size,upd H1 s1.heap.objs.size (.lst xs),I1.laid (t':=s1.toks) (λb u e=>aH _ e) (az _) ?_,rfl,q _ hf⟩;exact⟨z,us,0,r,bq _ rfl⟩
end
abbrev Sp:=bp->Hp->VK->XK->Prop
abbrev CXT:=List Env->Hp->ae->XK->aa->ae->Prop
structure FM(P:aA)(w:av)(K:ao)(mg:Str->Option aa)(base:Heap)(A:aE)(outer:List Env)(s:ae)(H:Hp):Prop where
 frames:A.frames=some outer
 mod:Mod K mg base
 bs:∀b o,base.get? b=some o->s.heap.get? b=some o/\H b=none
 bsz:base.objs.size<=s.heap.objs.size
 funs:s.heap.FunFrames base outer
 frf:∀b∈frs outer,H b=none
 hok:HOk P w H s.heap
 bare:dj s.gens
def CE(outer:List Env)(P:aA)(w:av)(H:Hp)(s:ae)(Q:VK)(u:aa)(s':ae):Prop:=
 ∃v H',s'.os=s.os/\dj s'.gens/\Un (frs outer) [] H H' s.heap s'.heap/\HOk P w H' s'.heap/\RelV v u/\Q v H'
def CR(CX:CXT)(outer:List Env)(P:aA)(w:av)(H:Hp)(s:ae)(Q:VK)(E:XK)(r:dP)(s':ae):Prop:=
 match r with
 |.ok (.ret u)=>CE outer P w H s Q u s'
 |.ok _=>False
 |.error e=>CX outer H s E e s'
structure sF(P:aA)(w:av)(K:ao)(mg:Str->Option aa)(base:Heap)(CX:CXT)(k:Nat)(f:Addr)(fd:bL)(ps:aG)(sp:Sp):Prop where
 len:∀vs H Q E,sp vs H Q E->vs.length=ps.length
 run:∀(A:aE) (outer:List Env) (s:ae) (H:Hp) (args:Args) (us:List aa) (vs:bp) (Q:VK) (E:XK),qa k A->FM P w K mg base A outer s H->fJ s fd args (ps.zip us)->Vals vs us->sp vs H Q E->
  codeAny (model P w) A (.call (.ref f) args) (CR CX outer P w H s Q E) s
variable{mg:Str->Option aa}{base:Heap}{CX:CXT}{fd:bL}{ps:aG}{sp:Sp}
theorem sF.imp{P:aA}{w:av}{K:ao}{k:Nat}{f:Addr}{sp':Sp}(F:sF P w K mg base CX k f fd ps sp)
  (h:∀vs H Q E,sp' vs H Q E->sp vs H Q E):sF P w K mg base CX k f fd ps sp':=
 ⟨λvs H Q E q=>F.len vs H Q E (h _ _ _ _ q),λA outer s H args us vs Q E hr he hb hv hs=>F.run A outer s H args us vs Q E hr he hb hv (h _ _ _ _ hs)⟩
variable{outer:List Env}
theorem FM.make{P:aA}{w:av}{K:ao}{A:aE}{s:ae}{H:Hp}(e:FM P w K mg base A outer s H)(C:Addr)(us:List aa)(kw:List (Str×aa)):
  FM P w K mg base (A.under (.builtin "type.__call__" ⟨.ref C::us,kw⟩)) outer s H:=⟨by first|exact e.frames|(simpa [j4,Code.envs,j5,pushEnvs]using e.frames),e.mod,e.bs,e.bsz,e.funs,e.frf,e.hok,e.bare⟩
section
variable{X:Cx}{pins:bY}{σ:St}{H:Hp}{s s':ae}
theorem Inv.env0(I:Inv X pins σ H s):FM X.prog X.w X.K X.mg X.base X.A X.stack s H:=
 ⟨I.ok.frames,I.ok.mod,I.bs,bS I.ok.bsz I.sz,I.stack,I.stkFree,I.hok,I.bare⟩
theorem Inv.after{Q:VK}(I:Inv X pins σ H s)(h:CE X.stack X.prog X.w H s Q u s'):EP X pins σ Q u s':=by obtain⟨v,H',os,bare,un,hok,r,q⟩:=h;obtain⟨hh,g,d,t,os'⟩:=s';obtain rfl:os'=s.os:=os;exact⟨v,H',I.call (h':=hh) (g':=g) (d':=d) (t':=t) (ch:=[]) un hok bare (λb z=>aq z (by simp)),r,q⟩
end
def wY(sp:Sp)(dvs:bp)(E:XK)(t:TA):TE:=λσ H Q=>t σ H λvs H1=>sp (vs++dvs) H1 Q E
def Pd(C:Addr)(sp:Sp)(dvs:bp)(E:XK)(t:TA):TE:=λσ H Q=>t σ H λvs H1=>∀x dx,H1 x=none->H1 dx=none->dx≠x->
 sp (.ref x::(vs++dvs)) (upd (upd H1 dx (.own x)) x (.ins C dx [])) (λv H2=>v=.non/\Q (.ref x) H2) E
def Binds(K:ao)(fd:bL)(ps:aG)(ds:List aa):Prop:=
 ∀(s:ae) (us:List aa),K.In s.heap->(us++ds).length=ps.length->fJ s fd ⟨us,[]⟩ (ps.zip (us++ds))
theorem Binds.all{K:ao}(h:∀us:List aa,us.length=ps.length->bindArgs fd ⟨us,[]⟩=pure (ps.zip us)):Binds K fd ps []:=λs us _ hl=>by rw[bz]at hl ⊢;exact .of_eq (h us hl)
def Passes(CX:CXT)(X:Cx)(E:XK):Prop:=∀(pins:bY) (σ:St) (H:Hp) (s:ae) (e:aa) (s':ae),Inv X pins σ H s->CX X.stack H s E e s'->X.xe e s'
variable{vs:bp}
section
variable{X:Cx}{CX:CXT}{k:Nat}{f C:Addr}{fd:bL}{ps:aG}{sp:Sp}{dvs:bp}{ds:List aa}{E:XK}{x m:Str}{p pos apos:Pos}{e o:Expr}{es:List Expr}{ta:TE}{t:TA}
theorem Dh{H:Hp}{s:ae}{Q:VK}(F:sF X.prog X.w X.K X.mg X.base CX k f fd ps sp)(hr:qa k X.A)(hb:Binds X.K fd ps ds)(hd:Vals dvs ds)(hx:Passes CX X E)
  (I:Inv X pins σ H s) (r:Vals vs us) (h:sp (vs++dvs) H Q E):wpAny (model X.prog X.w) X.A (call (.ref f) us) (EP X pins σ Q) X.xe s:=by
 have r2:Vals (vs++dvs) (us++ds):=r.append hd;have hl:(us++ds).length=ps.length:=by rw[<-r2.length];exact F.len _ _ _ _ h
 refine kC (fD (F.run X.A X.stack s H ⟨us,[]⟩ (us++ds) (vs++dvs) Q E hr I.env0 (hb s us I.kIn hl) r2 h) λr s' hq=>?_);cases r with
 |error e=>exact hx pins σ H s e s' I hq
 |ok fl=>
  cases fl with
  |ret u=>exact I.after hq
  |next=>exact cv hq
  |brk=>exact cv hq
  |cont=>exact cv hq
theorem xQ(F:sF X.prog X.w X.K X.mg X.base CX k f fd ps sp)(hr:qa k X.A)(hg:Gl X x)(hm:X.mg x=some (.ref f))(hk:eM X.K (.ref f)=true)(hb:Binds X.K fd ps ds)(hd:Vals dvs ds)(hx:Passes CX X E)
  (ha:PA X (e::es) t) (hdb:(x==("__debug__" : Str))=false:=by decide) (he:starEach (e::es) X.env=(false,eval e X.env)::starEach es X.env:=by rfl) (hpl:(backTo pos (starEach es X.env)).any (·.1)=false:=by rfl):
  PE X (.Call (.Name x p) (e::es) [] pos) (wY sp dvs E t):=by
 intro pins s σ H Q I h;refine dX (z9 I hg hm ?_ hdb);refine j6 (h₀:=X.base) I.ok.mod.kin hk (thn (ha pos pins s σ H _ I h) λus s1 ⟨vs,H1,I1,r,q⟩=>⟨I1.kIn,?_⟩) he hpl;exact Dh F hr hb hd hx I1 r q
theorem J0(F:sF X.prog X.w X.K X.mg X.base CX k f fd ps sp)(hr:qa k X.A)(hg:Gl X x)(hm:X.mg x=some (.ref f))(hk:eM X.K (.ref f)=true)(hb:Binds X.K fd ps ds)(hd:Vals dvs ds)(hx:Passes CX X E)
  (hdb:(x==("__debug__" : Str))=false:=by decide):PE X (.Call (.Name x p) [] [] pos) (wY sp dvs E Ec):=by
 intro pins s σ H Q I h;refine dX (z9 I hg hm ?_ hdb);exact W.callWith_K0 I.kIn hk (Dh (us:=[]) F hr hb hd hx I .nil h)
structure Mk(K:ao)(C f:Addr):Prop where
 makes:W.makesIn K C=true
 init:cI K (.ref C) "__init__" = some (some (.ref f))
 fn:W.isFn K (.ref f)=true
 kp:eM K (.ref C)=true
theorem J1{H:Hp}{s:ae}{Q:VK}(M:Mk X.K C f)(F:sF X.prog X.w X.K X.mg X.base CX k f fd ps sp)(hr:qa (k+1) X.A)(hb:Binds X.K fd ps ds)(hd:Vals dvs ds)
  (hx:Passes CX X E) (I:Inv X pins σ H s) (r:Vals vs us)
  (h:∀x dx,H x=none->H dx=none->dx≠x->sp (.ref x::(vs++dvs)) (upd (upd H dx (.own x)) x (.ins C dx [])) (λv H2=>v=.non/\Q (.ref x) H2) E):
  wpAny (model X.prog X.w) X.A (call (.ref C) us) (EP X pins σ Q) X.xe s:=by
 have hq:=h (s.heap.objs.size+1) s.heap.objs.size (I.hok.fresh (iO _)) (I.hok.fresh (az _)) (bf (fZ _));have I2:=Inv.made (C:=C) I;have r2:Vals (V.ref (s.heap.objs.size+1)::(vs++dvs)) (Value.ref (s.heap.objs.size+1)::(us++ds)):=.cons rfl (r.append hd);have hl:(Value.ref (s.heap.objs.size+1)::us++ds).length=ps.length:=by have e:=r2.length;rw[F.len _ _ _ _ hq]at e;exact e.symm
 refine kC (JY (f:=f) I.kIn M.makes M.init (beq_iff_eq.mp M.fn) (fD (F.run _ X.stack _ _ ⟨Value.ref (s.heap.objs.size+1)::us,[]⟩ (Value.ref (s.heap.objs.size+1)::(us++ds)) _ _ E (hr.make C us [])
  (I2.env0.make C us []) (hb _ (Value.ref (s.heap.objs.size+1)::us) I2.kIn hl) r2 hq) λr s' hq'=>?_))
 cases r with
 |error e=>exact hx pins σ _ _ e s' I2 hq'
 |ok fl=>
  cases fl with
  |ret u=>obtain⟨v,H',I3,rv,ev,q3⟩:=I2.after hq';subst ev;exact⟨rv,⟨V.ref (s.heap.objs.size+1),H',I3,rfl,q3⟩⟩
  |next=>exact cv hq'
  |brk=>exact cv hq'
  |cont=>exact cv hq'
theorem MW(M:Mk X.K C f)(F:sF X.prog X.w X.K X.mg X.base CX k f fd ps sp)(hr:qa (k+1) X.A)(hg:Gl X x)(hm:X.mg x=some (.ref C))(hb:Binds X.K fd ps ds)(hd:Vals dvs ds)(hx:Passes CX X E)
  (ha:PA X (e::es) t) (hdb:(x==("__debug__" : Str))=false:=by decide) (he:starEach (e::es) X.env=(false,eval e X.env)::starEach es X.env:=by rfl) (hpl:(backTo pos (starEach es X.env)).any (·.1)=false:=by rfl):
  PE X (.Call (.Name x p) (e::es) [] pos) (Pd C sp dvs E t):=by
 intro pins s σ H Q I h;refine dX (z9 I hg hm ?_ hdb);refine j6 (h₀:=X.base) I.ok.mod.kin M.kp (thn (ha pos pins s σ H _ I h) λus s1 ⟨vs,H1,I1,r,q⟩=>⟨I1.kIn,?_⟩) he hpl;exact J1 M F hr hb hd hx I1 r q
end
structure pV(N P:aG)(sc:cx):Prop where
 kind:sc.kind=.function
 co:sc.isCoroutine=false
 gen:sc.isGenerator=false
 nd:N.Nodup
 pre:N.take P.length=P
 par:∀x∈P,sc.names.lookup x=some .local\/sc.names.lookup x=some .cell
 nofree:∀y∈sc.names,y.2≠.free
theorem B3{kindOf:Str->Option cU}{x:Str}:∀{binds:List (Str×aa)} {m:Str->Option aa},(∀v,(x,v)∉binds)->bindL kindOf binds m x=m x
 |[],_,_=>rfl
 |(n,v)::r,m,h=>by
  unfold bindL;rw[B3 λw hw=>h w (ba _ hw)];split
  ·have:x≠n:=by rintro rfl;exact h v aS
   simp[this]
  ·rfl
theorem B4{kindOf:Str->Option cU}{x:Str}:∀{binds:List (Str×aa)} {m:Str->Option aa},(∀v,(x,v)∉binds)->bindC kindOf binds m x=m x
 |[],_,_=>rfl
 |(n,v)::r,m,h=>by
  unfold bindC;rw[B4 λw hw=>h w (ba _ hw)];split
  ·rfl
  ·have:x≠n:=by rintro rfl;exact h v aS
   simp[this]
theorem B5{kindOf:Str->Option cU}{x:Str}{v:aa}:∀{P:aG} {vs:List aa} {i:Nat} {m:Str->Option aa},P.Nodup->P[i]?=some x->vs[i]?=some v->kindOf x=some .local->
  bindL kindOf (P.zip vs) m x=some v
 |[],_,_,_,_,h,_,_=>by simp at h
 |_::_,[],_,_,_,_,h,_=>by simp at h
 |p::P,w::vs,0,m,nd,h1,h2,hk=>by simp at h1 h2;subst h1;subst h2;show bindL kindOf ((p,w)::P.zip vs) m p=_;unfold bindL;rw[B3 λv hv=>(bV.mp nd).1 (iC hv).1,ai hk];simp
 |p::P,w::vs,i+1,m,nd,h1,h2,hk=>by show bindL kindOf ((p,w)::P.zip vs) m x=_;unfold bindL;exact B5 (i:=i) (bV.mp nd).2 (by simpa using h1) (by simpa using h2) hk
theorem B6{kindOf:Str->Option cU}{x:Str}{v:aa}:∀{P:aG} {vs:List aa} {i:Nat} {m:Str->Option aa},P.Nodup->P[i]?=some x->vs[i]?=some v->kindOf x≠some .local->
  bindC kindOf (P.zip vs) m x=some v
 |[],_,_,_,_,h,_,_=>by simp at h
 |_::_,[],_,_,_,_,h,_=>by simp at h
 |p::P,w::vs,0,m,nd,h1,h2,hk=>by simp at h1 h2;subst h1;subst h2;show bindC kindOf ((p,w)::P.zip vs) m p=_;unfold bindC;rw[B4 λv hv=>(bV.mp nd).1 (iC hv).1,aj hk];simp
 |p::P,w::vs,i+1,m,nd,h1,h2,hk=>by show bindC kindOf ((p,w)::P.zip vs) m x=_;unfold bindC;exact B6 (i:=i) (bV.mp nd).2 (by simpa using h1) (by simpa using h2) hk
def start(N:aG)(vs:bp):St:=vs.map some++f9 (N.length - vs.length) none
def Ed(CX:CXT)(P:aA)(w:av)(K:ao)(mg:Str->Option aa)(base:Heap)(N:aG)(qual:Str)(scope:cx)(f:Addr)(cd:aa)(A:aE)(outer:List Env)(s:ae)(H:Hp)(E:XK):Cx where
 prog:=P
 w:=w
 K:=K
 mg:=mg
 base:=base
 A:=A.deeper (envOfC qual scope s.heap.objs.size f cd)
 N:=N
 s₀:=s
 H₀:=H
 env:=envOfC qual scope s.heap.objs.size f cd
 outer:=outer
 stack:=envOfC qual scope s.heap.objs.size f cd::outer
 ex:=[]
 calm:=true
 fn:=λ_=>true
 pn:=[]
 xe:=λe s'=>wpAny (model P w) (A.deeper (envOfC qual scope s.heap.objs.size f cd)) (leaving (envOfC qual scope s.heap.objs.size f cd) e) (λ_ s''=>CX outer H s E e s'') (λe' s''=>CX outer H s E e' s'') s'
theorem Ee{sc:cx}{n:Nat}{x:Str}(h:sc.names.lookup x=some .cell):∃c,(cellsFrom n sc.names []).lookup x=some c:=by have q:=mG sc.names n [] (.inl h);exact Option.isSome_iff_exists.mp q
variable{qual:Str}{scope:cx}
theorem Ip{P:aA}{w:av}{K:ao}{f:Addr}{cd:aa}{A:aE}{s s1:ae}{H:Hp}{E:XK}
  (S:pV N ps scope) (hd:A.handled=none) (e0:FM P w K mg base A outer s H) (hl:vs.length=ps.length) (r:Vals vs us)
  (x:InCallC s s.heap.objs.size (bindL (envOfC qual scope s.heap.objs.size f cd).kindOf (ps.zip us) λ_=>none) (cellsFrom (s.heap.objs.size+1) scope.names []) (bindC (envOfC qual scope s.heap.objs.size f cd).kindOf (ps.zip us) λ_=>none) s1):
  Inv (Ed CX P w K mg base N qual scope f cd A outer s H E) [] (start N vs) H s1:=by
 have hpl:ps.length<=N.length:=by have:=aQ b0 S.pre;rw[br]at this;omega
 obtain⟨h1,tk,rfl,hk⟩:=x.done;have noA:∀b:Addr,b∉(Ed CX P w K mg base N qual scope f cd A outer s H E).ex:=λb z=>aq (show b∈([]:List Addr) from z) (by simp);refine⟨⟨e0.mod,S.kind,rfl,rfl,az _,λy z c h1 h2=>?_,λy hy=>?_,λy c _ h=>?_,λ_=>hd,Around.frames_deeper e0.frames,.inr ⟨rfl,rfl⟩,λb z=>aq z (noA b),e0.bs,e0.bsz,λb _ _=>noA b,λb z=>aq z (noA b),e0.funs,e0.frf⟩,
  rfl,e0.bare,Un.kept hk,⟨_,x.toInCall.ns,λi y v h1 h2 h3=>?_⟩,λy c h=>⟨_,x.cell y c h⟩,e0.hok.fresh (az _),λy c h=>?_,λp hp=>aq (show p∈([]:bY) from hp) (by simp),e0.hok.kept hk,?_⟩
 ·exact name_of_addr x.apart (fS h1) (fS h2)
 ·have hy:scope.names.lookup y=some .cell\/scope.names.lookup y=some .free:=hy;rcases hy with hy|hy
  ·exact Ee hy
  ·exact aq rfl (S.nofree _ (fS hy))
 ·exact gm (x.above y c (fS h))
 ·have hi:i<vs.length:=by
   unfold start at h2;by_cases hi:i<vs.length
   ·exact hi
   ·rw[c7 (by simpa using hi)]at h2;rw[fO]at h2;split at h2<;>cases h2
  have ha:vs[i]?=some v:=by
   unfold start at h2;rw[c8 (by simpa using hi),bt]at h2;cases e:vs[i]? with
   |none=>rw[e]at h2;cases h2
   |some a=>rw[e]at h2;cases h2;rfl
  obtain⟨u,hu,rv⟩:=r.get ha;have hp:ps[i]?=some y:=by rw[<-S.pre,List.getElem?_take_of_lt (by omega)];exact h1
  have ndP:ps.Nodup:=by rw[<-S.pre];exact S.nd.sublist (il _ _)
  refine⟨u,rv,?_⟩;rcases S.par y (cu hp)with k|k
  ·exact .inl ⟨k,B5 ndP hp hu k⟩
  ·obtain⟨c,e⟩:=Ee (n:=s.heap.objs.size+1) k;refine .inr ⟨.inl k,c,e,?_⟩;have q:=x.cell y c e;rw[B6 ndP hp hu (by show scope.names.lookup y≠_;rw[k];decide)]at q;exact q
 ·exact e0.hok.fresh (gm (x.above y c (fS h)))
 ·unfold start;show _=N.length;rw[ay,ah,cf];omega
theorem Pe{P:aA}{w:av}{K:ao}{k:Nat}{f:Addr}{name:Str}{params:Arguments}{dV kV doc pm cdv ct oc:aa}{an od:Option Addr}
  {osl:Array (Option aa)} (lk:K.lookup f=some ⟨oc,od,.func (fK name qual params body scope dV kV doc pm an cdv ct),osl⟩) (hcd:W.codeIn K cdv qual=true) (S:pV N ps scope)
  (len:∀vs H Q E,sp vs H Q E->vs.length=ps.length)
  (hbody:∀(A:aE) (outer:List Env) (s:ae) (H:Hp) (vs:bp) (Q:VK) (E:XK),qa k (A.deeper (envOfC qual scope s.heap.objs.size f cdv))->sp vs H Q E->
   ∃t,PSs (Ed CX P w K mg base N qual scope f cdv A outer s H E) body t/\t { nx:=λ_ H'=>Q .non H',rt:=Q } (start N vs) H):
  sF P w K mg base CX (k+1) f (fK name qual params body scope dV kV doc pm an cdv ct) ps sp:=by
 refine⟨len,λA outer s H args us vs Q E hr e0 hb r hsp=>?_⟩;have hl:=len _ _ _ _ hsp;have KX:K.In s.heap:=e0.mod.kin.keeps λb o e=>(e0.bs b o e).1;have lim:s.heap.NoLimit:=e0.mod.nolimit.keeps λb o e=>(e0.bs b o e).1;have hkind:∀y∈ps.zip us,scope.names.lookup y.1=some .local\/(scope.names.lookup y.1=some .cell/\((cellsFrom (s.heap.objs.size+1) scope.names []).lookup y.1).isSome=true):=λ⟨n,v⟩ hy=>by
  rcases S.par n (iC hy).1 with q|q
  ·exact .inl q
  ·exact .inr ⟨q,mG _ _ _ (.inl q)⟩
 refine codeAny_call_function hr.depth (KX _ _ lk) rfl S.co S.gen rfl (W.codeRec_of KX hcd) (hb _ _ _ _ ?_);refine wpAny_newFunctionEnv_cells S.kind hkind λenv he s1 x=>?_;subst he;refine⟨lim.keeps x.toInCall.keep,codeAny_func ?_⟩;obtain⟨t,ht,hq⟩:=hbody A outer s H vs Q E (hr.deeper _) hsp;have I:Inv (Ed CX P w K mg base N qual scope f cdv A outer s H E) [] (start N vs) H s1:=Ip S hr.hd e0 hl r x;refine bT (ht [] s1 (start N vs) H _ I hq) (λfl s' hs=>?_) λe s' hs=>hs;have fin:∀{σ':St} {H':Hp} {v:V} {u:aa},Inv (Ed CX P w K mg base N qual scope f cdv A outer s H E) [] σ' H' s'->RelV v u->Q v H'->CE outer P w H s Q u s':=
  λ{σ' H' v u} J rv q=>⟨v,H',J.os,J.bare,J.base,J.hok,rv,q⟩
 cases fl with
 |ret u=>obtain⟨v,σ',H',J,rv,q⟩:=hs;exact fin J rv q
 |next=>obtain⟨σ',H',J,q⟩:=hs;exact fin (v:=V.non) (u:=Value.none) J rfl q
 |brk=>obtain⟨_,_,_,q⟩:=hs;exact cv q
 |cont=>obtain⟨_,_,_,q⟩:=hs;exact cv q
section
variable{X:Cx}{x:Str}{p pos:Pos}{e:Expr}{es:List Expr}{t:TA}{id T:String}{r:bp->Hp->VK->Prop}
def tCB(r:bp->Hp->VK->Prop)(t:TA):TE:=λσ H Q=>t σ H λvs H1=>r vs H1 Q
theorem Aq(hc:p9 X (.builtin id) r)(hg:Gl X x)(hm:X.mg x=none)(hv:bootBuiltins x=some (.builtin id))(ha:PA X (e::es) t)(hn:x≠"__name__" := by decide)(hdb:(x==("__debug__" : Str))=false:=by decide)
  (he:starEach (e::es) X.env=(false,eval e X.env)::starEach es X.env:=by rfl) (hpl:(backTo pos (starEach es X.env)).any (·.1)=false:=by rfl):PE X (.Call (.Name x p) (e::es) [] pos) (tCB r t):=by
 intro pins s σ H Q I h;refine dX (vX I hg hm hv ?_ hn hdb);exact callWith_builtin1 (thn (ha pos pins s σ H _ I h) λus s1 ⟨vs,H1,I1,r1,q1⟩=>hc pins s1 σ H1 vs us Q I1 r1 q1) he hpl
theorem Iq(hc:p9 X (.type T) r)(hg:Gl X x)(hm:X.mg x=none)(hv:bootBuiltins x=some (.type T))(ha:PA X (e::es) t)(hn:x≠"__name__" := by decide)(hdb:(x==("__debug__" : Str))=false:=by decide)
  (he:starEach (e::es) X.env=(false,eval e X.env)::starEach es X.env:=by rfl) (hpl:(backTo pos (starEach es X.env)).any (·.1)=false:=by rfl):PE X (.Call (.Name x p) (e::es) [] pos) (tCB r t):=by
 intro pins s σ H Q I h;refine dX (vX I hg hm hv ?_ hn hdb);exact callWith_type1 (thn (ha pos pins s σ H _ I h) λus s1 ⟨vs,H1,I1,r1,q1⟩=>hc pins s1 σ H1 vs us Q I1 r1 q1) he hpl
end
end L2
namespace HT
open PySem PyProof.Rows
variable{t sl:Addr}{Q:aa->ae->Prop}{vl vu:aa}{lo:Option Int}
section
variable{prog:aA}{w:av}{A:aE}{E:aa->ae->Prop}{s:ae}
theorem MX{b:Addr}{vs ws:List aa}(ht:cB s.heap t vs.toArray)(hb:cB s.heap b ws.toArray)(hv:vs≠[])
  (h1:ws=[]->Q (.ref t) s) (h2:ws≠[]->Q (.ref s.heap.objs.size) { s with heap:=s.heap.push { cls:=.type "tuple", data:=.seq (vs++ws).toArray } })
  (hsz:vs.length+ws.length<=sizeLine):wpAny (model prog w) A (binaryOp .Add (.ref t) (.ref b)) Q E s:=by
 obtain⟨⟨cls,dd,data,sl⟩,ho,hc,n,hd⟩:=id ht;obtain⟨⟨cls2,dd2,data2,sl2⟩,ho2,hc2,n2,hd2⟩:=id hb;simp only at hc hd hc2 hd2;subst hc hd hc2 hd2;have e:vs.toArray++ws.toArray=(vs++ws).toArray:=by simp
 by_cases hw:ws=[]
 ·exact j7 ⟨_,ho,rfl⟩ ⟨_,ho2,rfl⟩ jM jV jN jJ (jD _ _)
   (tuple_addW1 t b vs.toArray ws.toArray n n2 dd dd2 sl sl2 (by simpa using hv) (by simp[hw])) ⟨ho,ho2,h1 hw⟩
 ·refine j7 ⟨_,ho,rfl⟩ ⟨_,ho2,rfl⟩ jM jV jN jJ (jD _ _)
   (tuple_addW2 t b vs.toArray ws.toArray n n2 dd dd2 sl sl2 (by simpa using hv) (by simpa using hw) (by rw[aT,aT];exact hsz)) ⟨ho,ho2,?_⟩
  rw[e];exact h2 hw
def sIx(n d:Nat):Option Int->Nat
 |none=>d
 |some v=>if v<0 then (v+(n:Int)).toNat else min v.toNat n
theorem xR(n d:Nat):sIx n d none=d:=rfl
theorem wH(n d k:Nat):sIx n d (some (k:Int))=min k n:=by show (if (k:Int)<0 then ((k:Int)+(n:Int)).toNat else min (k:Int).toNat n)=min k n;rw[aj (by omega),dY]
theorem Qk(n d:Nat)(hd:d<=n)(o:Option Int):sIx n d o<=n:=by
 cases o with
 |none=>exact hd
 |some v=>
  show (if v<0 then (v+(n:Int)).toNat else min v.toNat n)<=n;by_cases hv:v<0
  ·rw[ai hv];omega
  ·rw[aj hv];exact Nat.min_le_right _ _
theorem GY(v:Int)(n d:Nat):(if v<0 then max (v+(n:Int)) 0 else min v (n:Int))=((sIx n d (some v):Nat):Int):=by
 show (if v<0 then max (v+(n:Int)) 0 else min v (n:Int))=(((if v<0 then (v+(n:Int)).toNat else min v.toNat n):Nat):Int);by_cases hv:v<0
 ·simp only[ai hv];omega
 ·simp only[aj hv];omega
theorem FN(lo hi:Option Int)(n:Nat):jo lo hi 1 (n:Int)=(((sIx n 0 lo:Nat):Int),((sIx n n hi:Nat):Int)):=by
 have h1:¬((1:Int)<0):=by omega
 unfold jo;simp only[h1,if_false];refine ja ?_ ?_
 ·cases lo with
  |none=>rfl
  |some v=>exact GY v n 0
 ·cases hi with
  |none=>rfl
  |some v=>exact GY v n n
theorem FP(i j:Nat):gZ (i:Int) (j:Int) 1=j - i:=by
 unfold gZ;have h1:(1:Int) > 0:=by omega
 simp only[h1,if_true,Int.ediv_one];split<;>omega
theorem Ar{v:aa}{o:Option Int}{Q:Option Int->ae->Prop}(p:cY v o)(h:Q o s):wpAny (model prog w) A (Builtin.Slice.slicePartIndex v) Q E s:=by
 cases p with
 |none=>exact slicePart_none h
 |int i t=>exact slicePart_int h
theorem uH{hi:Option Int}{n:Nat}{Q:Int×Int×Nat->ae->Prop}(hs:s.heap.IsSliceOf sl vl vu .none)(pl:cY vl lo)(pu:cY vu hi)
  (h:Q (((sIx n 0 lo:Nat):Int),1,sIx n n hi - sIx n 0 lo) s):wpAny (model prog w) A (lq (.ref sl) (pure (n:Int))) Q E s:=by
 obtain⟨os,hos,hcs,hds⟩:=id hs;unfold lq Builtin.Slice.sliceFields;refine ag (ag (cb hos hds (x:=vl) rfl (ag (cb hos hds (x:=vu) rfl (ag (cb hos hds (x:=.none) rfl (au ?_)))))));refine ag (slicePart_none ?_);show wpAny _ _ (if ((1:Int)==0)=true then _ else _) _ _ s;rw[aj (by decide)];refine ag (Ar pl (ag (Ar pu (ag (au ?_)))));show wpAny _ _ (match jo lo hi 1 (n:Int)with|(lo,hi)=>pure (lo,(1:Int),gZ lo hi 1)) _ _ s;rw[FN lo hi n];show wpAny _ _ (pure (((sIx n 0 lo:Nat):Int),(1:Int),gZ ((sIx n 0 lo:Nat):Int) ((sIx n n hi:Nat):Int) 1)) _ _ s;rw[FP];exact au h
theorem J2(xs:Array aa)(i k:Nat):((bg k).filterMap λ(m:Nat)=>xs[((i:Int)+(m:Int) * 1).toNat]?).toArray=((xs.toList.drop i).take k).toArray:=by
 have e:(λ(m:Nat)=>xs[((i:Int)+(m:Int) * 1).toNat]?)=λm=>xs[i+m]?:=by
  funext m
  have:((i:Int)+(m:Int) * 1).toNat=i+m:=by omega
  rw[this]
 rw[e];have:=pick_run xs i k;rw[List.filterMap_map]at this;have e2:((λx=>xs[x]?)∘λx=>i+x)=λm=>xs[i+m]?:=rfl;rw[e2]at this;rw[this]
theorem xS{items:Array aa}{hi:Option Int}(ht:cB s.heap t items)(hs:s.heap.IsSliceOf sl vl vu .none)(pl:cY vl lo)(pu:cY vu hi)
  (hw:¬(sIx items.size 0 lo=0/\sIx items.size items.size hi=items.size))
  (h:Q (.ref s.heap.objs.size) { s with heap:=s.heap.push { cls:=.type "tuple", data:=.seq ((items.toList.drop (sIx items.size 0 lo)).take (sIx items.size items.size hi - sIx items.size 0 lo)).toArray } })
  (hsz:items.size<=sizeLine):wpAny (model prog w) A (getItem (.ref t) (.ref sl)) Q E s:=by
 have htake:sizeOk (.seq ((items.toList.drop (sIx items.size 0 lo)).take (sIx items.size items.size hi - sIx items.size 0 lo)).toArray):=by show ((items.toList.drop (sIx items.size 0 lo)).take (sIx items.size items.size hi - sIx items.size 0 lo)).toArray.size<=sizeLine;rw[aT,br,bM,cE];omega
 have hj:sIx items.size items.size hi<=items.size:=Qk _ _ (az _) hi;obtain⟨os,hos,hcs,hds⟩:=id hs;have hTs:s.TypeIs (.ref sl) "slice" := ⟨os,hos,hcs⟩;unfold getItem
 try with_reducible refine cz ?_
 first|refine ag (au ?_)|skip
 refine ag (mx ht.typeIs (by decide) ?_);refine ag (fi (name:=fE "__getitem__") ht.typeIs dU
  (dB dU ht.typeIs l3 ?_ (md _ _)))
 show wpAny _ _ (lr (.ref t)>>=_) _ _ s;refine ag (tupleItemsOf_ ht ?_);refine ag (iK hTs ?_);rw[ai (by decide)];refine ag (uH hs pl pu ?_);have hno:¬((((sIx items.size 0 lo:Nat):Int)==0&&(1:Int)==1&&(sIx items.size items.size hi - sIx items.size 0 lo)==items.size)=true):=by intro q;rw[bo,bo]at q;have q1:((sIx items.size 0 lo:Nat):Int)=0:=eJ q.1.1;have q2:sIx items.size items.size hi - sIx items.size 0 lo=items.size:=eJ q.2;exact hw ⟨by omega,by omega⟩
 show wpAny _ _ (if (((sIx items.size 0 lo:Nat):Int)==0&&(1:Int)==1&&(sIx items.size items.size hi - sIx items.size 0 lo)==items.size)=true then _ else _) _ _ s;rw[aj hno,J2]
 first
  |exact ag (m:=hJ _) (dZ (au ⟨_,rfl,au h⟩) htake)
  |exact ag (m:=hJ _) (dZ (ag (au (au ⟨_,rfl,au h⟩))) htake)
  |exact ag (ag (m:=hJ _) (dZ (au (au ⟨_,rfl,au h⟩)) htake))
  |exact ag (ag (m:=hJ _) (dZ (au ⟨_,rfl,au h⟩) htake))
end
end HT
namespace L2
open PySem PySem.Spec PyProof.Rows
abbrev TO:=St->Hp->(Option Int->Hp->Prop)->Prop
def PO(X:Cx)(e:Option Expr)(t:TO):Prop:=
 ∀(pins:bY) (s:ae) (σ:St) (H:Hp) (Q:Option Int->Hp->Prop),Inv X pins σ H s->t σ H Q->
  wpAny (model X.prog X.w) X.A (evalPart e X.env) (λu s'=>∃o H',Inv X pins σ H' s'/\cY u o/\Q o H') X.xe s
def MY:TO:=λ_ H Q=>Q none H
def Um(t:TE):TO:=λσ H Q=>t σ H λx H1=>∃i,x=.int i/\Q (some i) H1
section
variable{X:Cx}{e:Expr}{te:TE}{lo hi:Option Expr}{tl th:TO}{pos p2:Pos}
theorem MZ:PO X none MY:=by intro pins s σ H Q I h;rw[evalPart_none];exact au ⟨none,H,I,.none,h⟩
theorem GZ(h:PE X e te):PO X (some e) (Um te):=by intro pins s σ H Q I hw;rw[evalPart_some];refine thn (h pins s σ H _ I hw) λu s1 ⟨x,H1,I1,r1,q1⟩=>?_;obtain⟨i,rfl,q⟩:=q1;obtain⟨t,rfl⟩:=r1;exact⟨some i,H1,I1,.int i t,q⟩
def SlR(X:Cx)(r:V->Option Int->Option Int->Hp->VK->Prop):Prop:=
 ∀(pins:bY) (s:ae) (σ:St) (H:Hp) (x:V) (v vl vu:aa) (lo hi:Option Int) (sl:Addr) (Q:VK),Inv X pins σ H s->RelV x v->s.heap.IsSliceOf sl vl vu .none->cY vl lo->cY vu hi->r x lo hi H Q->
  ∃T id,typeLookup (.type T) "__getitem__" = pure (some (.builtin id))/\s.TypeIs v T/\wpAny (model X.prog X.w) X.A (getItem v (.ref sl)) (EP X pins σ Q) X.xe s
def tSl(r:V->Option Int->Option Int->Hp->VK->Prop)(te:TE)(tl th:TO):TE:=λσ H Q=>te σ H λx H1=>tl σ H1 λl H2=>th σ H2 λu H3=>r x l u H3 Q
theorem As{r:V->Option Int->Option Int->Hp->VK->Prop}(hr:SlR X r)(he:PE X e te)(hl:PO X lo tl)(hu:PO X hi th):PE X (.Subscript e (.Slice lo hi none p2) pos) (tSl r te tl th):=by intro pins s σ H Q I h;refine kE (thn (he pins s σ H _ I h) λv s1 ⟨x,H1,I1,r1,q1⟩=>?_);refine wpAny_Slice (thn (hl pins s1 σ H1 _ I1 q1) λvl s2 ⟨l,H2,I2,pl,q2⟩=>thn (hu pins s2 σ H2 _ I2 q2) λvu s3 ⟨u,H3,I3,pu,q3⟩=>?_);rw[evalPart_none];refine au ?_;have I4:Inv X pins σ H3 { s3 with heap:=s3.heap.push { cls:=.type "slice", data:=.fields #[vl,vu,.none] } }:=I3.kept (t':=s3.toks) λb ob q=>aH _ q;obtain⟨T,id,hT,ht,hg⟩:=hr pins { s3 with heap:=s3.heap.push { cls:=.type "slice", data:=.fields #[vl,vu,.none] } } σ H3 x v vl vu l u s3.heap.objs.size Q I4 r1 (nQ ..) pl pu q3;show wpAny (model X.prog X.w) X.A (subscriptTail e (.Slice lo hi none p2) v (.ref s3.heap.objs.size)) (EP X pins σ Q) X.xe { s3 with heap:=s3.heap.push { cls:=.type "slice", data:=.fields #[vl,vu,.none] } };exact tail_any (ops:=[.ref s3.heap.objs.size,v]) ht hT hg (by with_unfolding_all rfl)
def Di(xs:bp)(lo hi:Option Int):bp:=(xs.drop (HT.sIx xs.length 0 lo)).take (HT.sIx xs.length xs.length hi - HT.sIx xs.length 0 lo)
theorem zr(xs:bp)(lo hi:Option Int):(Di xs lo hi).length<=xs.length:=by unfold Di;rw[br,bM];omega
def VB(K:ao):V->Option Int->Option Int->Hp->VK->Prop:=λx lo hi H Q=>∃a xs,x=.ref a/\SqT K H a xs/\
 ¬(HT.sIx xs.length 0 lo=0/\HT.sIx xs.length xs.length hi=xs.length)/\∀p,H p=none->Q (.ref p) (upd H p (.tup (Di xs lo hi)))
theorem Ql:SlR X (VB X.K):=by
 intro pins s σ H x v vl vu lo hi sl Q I rx hs pl pu h;obtain⟨a,xs,rfl,hx,hw,q⟩:=h;cases rx;obtain⟨its,r,ht,hz⟩:=I.tuple hx;have hlen:its.toArray.size=xs.length:=by rw[aT];exact r.length.symm
 refine⟨"tuple", _,dU.lookup,ht.typeIs,?_⟩;refine HT.xS ht hs pl pu (by rw[hlen];exact hw) ?_ (by rw[hlen];exact hz);rw[hlen];refine⟨.ref s.heap.objs.size,_,I.laid (t':=s.toks) (o:=.tup (Di xs lo hi)) (λb ob q=>aH _ q) (az _) ?_,rfl,q _ (I.hok.fresh (az _))⟩;exact⟨bS (zr xs lo hi) hz,_,(r.drop (HT.sIx xs.length 0 lo)).take (HT.sIx xs.length xs.length hi - HT.sIx xs.length 0 lo),kJ _ _⟩
def Uo(K:ao):R2:=λx y H Q=>∃a b xs ys,x=.ref a/\y=.ref b/\SqT K H a xs/\SqT K H b ys/\xs≠[]/\xs.length+ys.length<=sizeLine/\
 (ys=[]->Q (.ref a) H)/\(ys≠[]->∀p,H p=none->Q (.ref p) (upd H p (.tup (xs++ys))))
theorem Vals.nil_iff{xs:bp}{us:List aa}(r:Vals xs us):us=[] ↔ xs=[]:=by
 cases r with
 |nil=>simp
 |cons _ _=>simp
theorem G0:OpR X (binaryOp .Add) (Uo X.K):=by intro pins s σ H x y v u Q I rx ry h;obtain⟨a,b,xs,ys,rfl,rfl,ha,hb,hx,hz,q1,q2⟩:=h;cases rx;cases ry;obtain⟨its,r1,p1,_⟩:=I.tuple ha;obtain⟨its2,r2,p2,_⟩:=I.tuple hb;refine HT.MX p1 p2 (λz=>hx (r1.nil_iff.mp z)) (λz=>⟨.ref a,H,I,rfl,q1 (r2.nil_iff.mp z)⟩) (λz=>?_) (by rw[<-r1.length,<- r2.length];exact hz);refine⟨.ref s.heap.objs.size,_,I.laid (t':=s.toks) (o:=.tup (xs++ys)) (λb ob q=>aH _ q) (az _) ?_,rfl,q2 (λw=>z (r2.nil_iff.mpr w)) _ (I.hok.fresh (az _))⟩;exact⟨by rw[ay];exact hz,_,r1.append r2,kJ _ _⟩
end
def ixN(n:Nat)(i:Int):Option Nat:=if 0<=i then (if i<n then some i.toNat else none)else if -(n:Int)<=i then some (i+n).toNat else none
def atI{α:Type}(xs:List α)(i:Int):Option α:=(ixN xs.length i).bind λj=>xs[j]?
variable{j:Nat}
theorem M0{n:Nat}{i:Int}(h:ixN n i=some j):seqIndex? i n=some j/\j<n/\-(n:Int)<=i/\i<n:=by
 unfold ixN at h;by_cases h0:0<=i
 ·rw[ai h0]at h;by_cases h1:i<n
  ·rw[ai h1]at h;have e:i.toNat=j:=bZ h;exact⟨by rw[ku h0 h1,e],by omega,by omega,h1⟩
  ·rw[aj h1]at h;cases h
 ·rw[aj h0]at h;by_cases h1:-(n:Int)<=i
  ·rw[ai h1]at h;have e:(i+n).toNat=j:=bZ h;exact⟨by rw[seqIndex_neg (by omega) h1,e],by omega,h1,by omega⟩
  ·rw[aj h1]at h;cases h
theorem Dj{α:Type}{xs:List α}{i:Int}{v:α}(h:atI xs i=some v):∃j,seqIndex? i xs.length=some j/\xs[j]?=some v/\j<xs.length/\-(xs.length:Int)<=i/\i<xs.length:=by
 unfold atI at h;cases e:ixN xs.length i with
 |none=>rw[e]at h;cases h
 |some j=>rw[e]at h;obtain⟨h1,h2,h3,h4⟩:=M0 e;exact⟨j,h1,h,h2,h3,h4⟩
theorem xT{α:Type}{xs:List α}{v:α}(h:xs[j]?=some v):atI xs (j:Int)=some v:=by
 have hj:j<xs.length:=(bP.mp h).1;have e:ixN xs.length (j:Int)=some j:=by unfold ixN;rw[ai (by omega),ai (by omega)];simp
 unfold atI;rw[e];exact h
def G1(b:Expr):Prop:=∀o i,subscripted b false o i=operate [o,i] (getItem o i)
def IxR(X:Cx)(r:R2):Prop:=
 ∀(value slice:Expr) (pins:bY) (s:ae) (σ:St) (H:Hp) (x y:V) (v u:aa) (Q:VK),Inv X pins σ H s->RelV x v->RelV y u->r x y H Q->
  subscripted slice false v u=operate [v,u] (getItem v u)->wpAny (model X.prog X.w) X.A (subscriptTail value slice v u) (EP X pins σ Q) X.xe s
def MtR(X:Cx)(id:String)(r:V->bp->Hp->VK->Prop):Prop:=
 ∀(pins:bY) (s:ae) (σ:St) (H:Hp) (x:V) (xs:bp) (v:aa) (us:List aa) (Q:VK),Inv X pins σ H s->RelV x v->Vals xs us->r x xs H Q->
  wpAny (model X.prog X.w) X.A (call (.builtin id) (v::us)) (EP X pins σ Q) X.xe s
variable{r:R2}{y:V}{u:aa}{pins:bY}{σ:St}{T:String}
section
variable{X:Cx}{a b:Expr}{ta tb:TE}{pos:Pos}
theorem IxR.or{r':R2}(h:IxR X r)(h':IxR X r'):IxR X (λx y H Q=>r x y H Q\/r' x y H Q):=by
 intro value slice pins s σ H x y v u Q I rx ry q hs;rcases q with q|q
 ·exact h value slice pins s σ H x y v u Q I rx ry q hs
 ·exact h' value slice pins s σ H x y v u Q I rx ry q hs
theorem Pf(hr:IxR X r)(ha:PE X a ta)(hb:PE X b tb)(hs:G1 b):PE X (.Subscript a b pos) (tOp r ta tb):=by intro pins s σ H Q I h;exact kE (P8 ha hb I h λv u s2 x y H2 I2 rx ry q=>hr a b pins s2 σ H2 x y v u Q I2 rx ry q (hs _ _))
def M3(K:ao):R2:=λx y H Q=>∃p xs i v,x=.ref p/\y=.int i/\SqL K H p xs/\atI xs i=some v/\Q v H
def Up(K:ao):R2:=λx y H Q=>∃p xs i v,x=.ref p/\y=.int i/\SqT K H p xs/\atI xs i=some v/\Q v H
def Uq:R2:=λx y H Q=>∃z i c,x=.str z/\y=.int i/\z.length<=sizeLine/\atI z.cps.toList i=some c/\Q (.str ⟨#[c]⟩) H
theorem G2:IxR X (M3 X.K):=by
 intro value slice pins s σ H x y v u Q I rx ry h hs;obtain⟨p,xs,i,z,rfl,rfl,hq,he,q⟩:=h;cases rx;obtain⟨t,rfl⟩:=ry;obtain⟨its,r,pl,hz⟩:=I.list hq;obtain⟨j,h1,h2,h3,h4,h5⟩:=Dj he;obtain⟨w,ew,rw'⟩:=r.get h2;have hl:=r.length;have hn:=An;have fin:EP X pins σ Q w s:=⟨z,H,I,rw',q⟩;by_cases h0:0<=i
 ·have hj:i.toNat=j:=by rw[ku h0 h5]at h1;exact bZ h1
  exact item_listR pl.isList h0 (by omega) (by rw[hj];simpa using ew) fin hs
 ·have hj:(i+(its.toArray.size:Int)).toNat=j:=by rw[seqIndex_neg (by omega) h4]at h1;rw[aT,<- hl];exact bZ h1
  exact lH (x:=w) pl.isList.typeIs my.lookup
   (wpAny_getItem_list_neg (Q:=λr s'=>r=w/\EP X pins σ Q r s') pl.isList (by omega) (by rw[aT]<;>omega) (by omega) (by rw[hj];simpa using ew) ⟨rfl,fin⟩) hs
theorem Qm:IxR X (Up X.K):=by
 intro value slice pins s σ H x y v u Q I rx ry h hs;obtain⟨p,xs,i,z,rfl,rfl,hq,he,q⟩:=h;cases rx;obtain⟨t,rfl⟩:=ry;obtain⟨its,r,pl,hz⟩:=I.tuple hq;obtain⟨j,h1,h2,h3,h4,h5⟩:=Dj he;obtain⟨w,ew,rw'⟩:=r.get h2;have hl:=r.length;have hn:=An;have fin:EP X pins σ Q w s:=⟨z,H,I,rw',q⟩;exact lH (x:=w) pl.typeIs dU.lookup
  (getItem_tuple (j:=j) (Q:=λr s'=>r=w/\EP X pins σ Q r s') pl (by omega) (by omega) (by rw[aT,<- hl];exact h1) (by simpa using ew) ⟨rfl,fin⟩) hs
theorem Qn:IxR X Uq:=by
 intro value slice pins s σ H x y v u Q I rx ry h hs;obtain⟨z,i,c,rfl,rfl,hz,he,q⟩:=h;obtain⟨t,rfl⟩:=rx;obtain⟨t',rfl⟩:=ry;obtain⟨j,h1,h2,h3,h4,h5⟩:=Dj he;have hl:z.cps.toList.length=z.length:=by simp[Str.length]
 rw[hl]at h1 h4 h5;have hn:=An;exact tail_any (typeIs_str s z t) slot_str_getitem.lookup (getItem_str (c:=c) (by
  have e1:decide (i < -(2 ^ 63:Int))=false:=aO (by omega);have e2:decide (i >= 2 ^ 63)=false:=aO (by omega);rw[e1,e2,Bool.or_false]) (by rw[h1];simpa using h2) ⟨.str ⟨#[c]⟩,H,I.tok _,⟨_,rfl⟩,q⟩) hs
def rIx(K:ao):R2:=λx y H Q=>M3 K x y H Q\/Up K x y H Q\/Uq x y H Q
theorem Qo:IxR X (rIx X.K):=G2.or (Qm.or Qn)
theorem Dk(lo hi:Option Int)(n:Nat):(sliceBounds lo hi none n).1=((HT.sIx n 0 lo:Nat):Int)/\(sliceBounds lo hi none n).2.1=((HT.sIx n n hi:Nat):Int)/\(sliceBounds lo hi none n).2.2=1:=by
 refine⟨?_,?_,rfl⟩
 ·cases lo with
  |none=>simp[sliceBounds,HT.sIx]
  |some i=>
   simp only[sliceBounds,HT.sIx,mH,show (1:Int) > 0 by decide,if_true];by_cases h:i<0
   ·simp only[h,if_true]<;>omega
   ·simp only[h,if_false]<;>omega
 ·cases hi with
  |none=>simp[sliceBounds,HT.sIx]
  |some i=>
   simp only[sliceBounds,HT.sIx,mH,show (1:Int) > 0 by decide,if_true];by_cases h:i<0
   ·simp only[h,if_true]<;>omega
   ·simp only[h,if_false]<;>omega
theorem BK(its:List aa)(lo hi:Option Int):slicePick its.toArray lo hi none=((its.drop (HT.sIx its.length 0 lo)).take (HT.sIx its.length its.length hi - HT.sIx its.length 0 lo)).toArray:=by obtain⟨h1,h2,h3⟩:=Dk lo hi its.toArray.size;unfold slicePick;rw[h1,h2,h3];simp only[sliceRange_one,pick_run,aT]<;>rfl
def Ir(K:ao):V->Option Int->Option Int->Hp->VK->Prop:=λx lo hi H Q=>∃a xs,x=.ref a/\SqL K H a xs/\∀p,H p=none->Q (.ref p) (upd H p (.lst (Di xs lo hi)))
theorem M4:SlR X (Ir X.K):=by intro pins s σ H x v vl vu lo hi sl Q I rx hs pl pu h;obtain⟨a,xs,rfl,hx,q⟩:=h;cases rx;obtain⟨its,r,ht,hz⟩:=I.list hx;have hlen:=r.length;refine⟨"list", _,my.lookup,ht.isList.typeIs,?_⟩;refine wpAny_getItem_list_slice ht.isList hs pl pu .none (by simp) ?_ (by rw[aT]<;>omega);rw[BK,<- hlen];refine⟨.ref s.heap.objs.size,_,I.laid (t':=s.toks) (o:=.lst (Di xs lo hi)) (λb ob q=>aH _ q) (az _) ?_,rfl,q _ (I.hok.fresh (az _))⟩;exact⟨bS (zr xs lo hi) hz,_,0,(r.drop (HT.sIx xs.length 0 lo)).take (HT.sIx xs.length xs.length hi - HT.sIx xs.length 0 lo),bq _ rfl⟩
def wZ:V->Bool
 |.non=>true
 |.bl _=>true
 |.int _=>true
 |.str _=>true
 |_=>false
def eqV:V->V->Bool
 |.non,.non=>true
 |.bl a,.bl b=>a==b
 |.bl a,.int b=>(if a then 1 else 0)==b
 |.int a,.bl b=>a==(if b then 1 else 0)
 |.int a,.int b=>a==b
 |.str a,.str b=>a==b
 |_,_=>false
theorem Au{A:aE}{s:ae}{x:V}{v:aa}(ry:RelV y u)(rx:RelV x v)(fy:wZ y=true)(fx:wZ x=true):iQ A s u v (eqV y x):=by
 cases y with
 |non=>
  cases ry;cases x with
  |non=>cases rx;exact f7 _
  |bl b=>cases rx;exact SeqAt.EqAt.none_bool b
  |int b=>obtain⟨t,rfl⟩:=rx;exact SeqAt.EqAt.none_int b t
  |str b=>obtain⟨t,rfl⟩:=rx;exact SeqAt.EqAt.none_str b t
  |_=>exact aq (show false=true from fx) bj
 |bl a=>
  cases ry;cases x with
  |non=>cases rx;exact SeqAt.EqAt.bool_none a
  |bl b=>cases rx;exact SeqAt.EqAt.bool_bool a b
  |int b=>obtain⟨t,rfl⟩:=rx;exact SeqAt.EqAt.bool_int a b t
  |str b=>obtain⟨t,rfl⟩:=rx;exact SeqAt.EqAt.bool_str a b t
  |_=>exact aq (show false=true from fx) bj
 |int a=>
  obtain⟨t',rfl⟩:=ry;cases x with
  |non=>cases rx;exact SeqAt.EqAt.int_none a t'
  |bl b=>cases rx;exact SeqAt.EqAt.int_bool a t' b
  |int b=>obtain⟨t,rfl⟩:=rx;exact SeqAt.EqAt.int_int a t' b t
  |str b=>obtain⟨t,rfl⟩:=rx;exact l9 a t' b t
  |_=>exact aq (show false=true from fx) bj
 |str a=>
  obtain⟨t',rfl⟩:=ry;cases x with
  |non=>cases rx;exact SeqAt.EqAt.str_none a t'
  |bl b=>cases rx;exact SeqAt.EqAt.str_bool a t' b
  |int b=>obtain⟨t,rfl⟩:=rx;exact ma a t' b t
  |str b=>obtain⟨t,rfl⟩:=rx;exact ig a t' b t
  |_=>exact aq (show false=true from fx) bj
 |_=>exact aq (show false=true from fy) bj
def eqU(x:V)(u:aa):Bool:=match u with
 |.none=>eqV .non x
 |.bool b=>eqV (.bl b) x
 |.int i _=>eqV (.int i) x
 |.str z _=>eqV (.str z) x
 |_=>false
theorem J3{x:V}(r:RelV y u)(f:wZ y=true):eqU x u=eqV y x:=by
 cases y with
 |non=>cases r;rfl
 |bl b=>cases r;rfl
 |int i=>obtain⟨t,rfl⟩:=r;rfl
 |str z=>obtain⟨t,rfl⟩:=r;rfl
 |_=>exact aq (show false=true from f) bj
theorem xU{x:V}:∀{xs:bp} {us:List aa},Vals xs us->xs.all wZ=true->us.any (eqU x)=xs.any λy=>eqV y x
 |_,_,.nil,_=>rfl
 |y::xs,u::us,.cons r t,f=>by rw[fz,bo]at f;rw[eF,eF,J3 r f.1,xU t f.2]
theorem vY{A:aE}{s:ae}{x:V}{v:aa}(rx:RelV x v)(fx:wZ x=true):∀{xs:bp} {us:List aa},Vals xs us->xs.all wZ=true->∀u∈us,iQ A s u v (eqU x u)
 |_,_,.nil,_=>λu hu=>by cases hu
 |y::xs,u::us,.cons r t,f=>λu' hu=>by
  rw[fz,bo]at f;rcases aP.mp hu with rfl|hu
  ·rw[J3 r f.1];exact Au r rx f.1 fx
  ·exact vY rx fx t f.2 u' hu
def inV(x:V)(xs:bp):Bool:=xs.any λy=>eqV y x
def rIn(K:ao)(neg:Bool):R2:=λx y H Q=>∃p xs,y=.ref p/\(SqL K H p xs\/SqT K H p xs)/\wZ x=true/\xs.all wZ=true/\Q (.bl (if neg then !inV x xs else inV x xs)) H
theorem Iu:OpR X (compareOp .In) (rIn X.K false):=by
 intro pins s σ H x y v u Q I rx ry h;obtain⟨p,xs,rfl,hq,fx,fs,q⟩:=h;cases ry;rcases hq with hq|hq
 ·obtain⟨its,r,pl,hz⟩:=I.list hq;refine SeqAt.in_listAt (eqU x) pl.isList (λw hw=>vY rx fx r fs w (by simpa using hw)) ⟨.bl _,H,I,rfl,?_⟩;rw[show its.toArray.any (eqU x)=its.any (eqU x) by simp,xU r fs];exact q
 ·obtain⟨its,r,pl,hz⟩:=I.tuple hq;refine SeqAt.in_tupleAt (eqU x) pl (λw hw=>vY rx fx r fs w (by simpa using hw)) ⟨.bl _,H,I,rfl,?_⟩;rw[show its.toArray.any (eqU x)=its.any (eqU x) by simp,xU r fs];exact q
theorem Dl:OpR X (compareOp .NotIn) (rIn X.K true):=by
 intro pins s σ H x y v u Q I rx ry h;obtain⟨p,xs,rfl,hq,fx,fs,q⟩:=h;cases ry;rcases hq with hq|hq
 ·obtain⟨its,r,pl,hz⟩:=I.list hq;refine SeqAt.notIn_listAt (eqU x) pl.isList (λw hw=>vY rx fx r fs w (by simpa using hw)) ⟨.bl _,H,I,rfl,?_⟩;rw[show its.toArray.any (eqU x)=its.any (eqU x) by simp,xU r fs];exact q
 ·obtain⟨its,r,pl,hz⟩:=I.tuple hq;refine SeqAt.notIn_tupleAt (eqU x) pl (λw hw=>vY rx fx r fs w (by simpa using hw)) ⟨.bl _,H,I,rfl,?_⟩;rw[show its.toArray.any (eqU x)=its.any (eqU x) by simp,xU r fs];exact q
theorem Dm:p9 X (.builtin "len") (λxs H Q=>∃p ys,xs=[.ref p]/\(SqL X.K H p ys\/SqT X.K H p ys)/\Q (.int ys.length) H):=by
 intro pins s σ H xs us Q I r h;obtain⟨p,ys,rfl,hq,q⟩:=h;obtain⟨u,rfl,rx⟩:=vals1 r;cases rx;have hn:=An;rcases hq with hq|hq
 ·obtain⟨its,r',pl,hz⟩:=I.list hq;have hlen:=r'.length;exact Calls.call_len_list pl.isList (by simp only[aT]<;>omega) ⟨.int ys.length,H,I.tok _,⟨s.toks+1,by rw[aT,hlen]⟩,q⟩
 ·obtain⟨its,r',pl,hz⟩:=I.tuple hq;have hlen:=r'.length;exact len_tuple pl (by simp only[aT]<;>omega) ⟨.int ys.length,H,I.tok _,⟨s.toks+1,by rw[aT,hlen]⟩,q⟩
theorem Dn:p9 X (.builtin "len") (λxs H Q=>∃z,xs=[.str z]/\z.length<=sizeLine/\Q (.int z.length) H):=by intro pins s σ H xs us Q I r h;obtain⟨z,rfl,hz,q⟩:=h;obtain⟨u,rfl,t,rfl⟩:=vals1 r;have hn:=An;exact len_str (by omega) ⟨.int z.length,H,I.tok _,⟨_,rfl⟩,q⟩
theorem Do:p9 X (.type "list") (λxs H Q=>∃p ys,xs=[.ref p]/\(SqL X.K H p ys\/SqT X.K H p ys)/\∀l,H l=none->Q (.ref l) (upd H l (.lst ys))):=by
 intro pins s σ H xs us Q I r h;obtain⟨p,ys,rfl,hq,q⟩:=h;obtain⟨u,rfl,rx⟩:=vals1 r;cases rx;have fin:∀(its:List aa),Vals ys its->ys.length<=sizeLine->∀(h':Heap) (c':Nat),(∀b o',s.heap.get? b=some o'->h'.get? b=some o')->
   h'.get? s.heap.objs.size=some { cls:=.type "list", dict:=none,data:=.seq its.toArray c',slots:=#[] }->EP X pins σ Q (.ref s.heap.objs.size) { s with heap:=h' }:=λits r' hz h' c' kp e=>
  ⟨.ref s.heap.objs.size,_,I.laid (t':=s.toks) kp (az _) (show pD X.prog X.w _ h' _ (.lst ys) from⟨hz,its,c',r',e⟩),rfl,q _ (I.hok.fresh (az _))⟩
 rcases hq with hq|hq
 ·obtain⟨its,r',pl,hz⟩:=I.list hq;have hlen:=r'.length;obtain⟨o,ho,hc,n,hd⟩:=pl.isList;exact call_list_seq p (.inl rfl) ho hc hd (λh' c' kp e=>fin its r' hz h' c' kp e) (by simp only[aT]<;>omega)
 ·obtain⟨its,r',pl,hz⟩:=I.tuple hq;have hlen:=r'.length;obtain⟨o,ho,hc,n,hd⟩:=pl;exact call_list_seq p (.inr rfl) ho hc hd (λh' c' kp e=>fin its r' hz h' c' kp e) (by simp only[aT]<;>omega)
theorem BL:p9 X (.type "tuple") (λxs H Q=>∃p ys,xs=[.ref p]/\((SqL X.K H p ys/\∀l,H l=none->Q (.ref l) (upd H l (.tup ys)))\/(SqT X.K H p ys/\Q (.ref p) H))):=by
 intro pins s σ H xs us Q I r h;obtain⟨p,ys,rfl,h⟩:=h;obtain⟨u,rfl,rx⟩:=vals1 r;cases rx;rcases h with ⟨hq,q⟩|⟨hq,q⟩
 ·obtain⟨its,r',pl,hz⟩:=I.list hq;have hlen:=r'.length;refine call_tuple_list pl.isList (λh' kp=>?_) (by simp only[aT]<;>omega);have I1:Inv X pins σ H { s with heap:=h' }:=I.kept (t':=s.toks) kp;have I2:Inv X pins σ (upd H h'.objs.size (.tup ys)) { s with heap:=h'.push { cls:=.type "tuple", data:=.seq its.toArray } }:=
   I1.laid (t':=s.toks) (λb o e=>aH _ e) (az _) (show pD X.prog X.w _ _ _ (.tup ys) from⟨hz,its,r',kJ _ _⟩)
  exact⟨.ref h'.objs.size,_,I2,rfl,q _ (I1.hok.fresh (az _))⟩
 ·obtain⟨its,r',pl,hz⟩:=I.tuple hq;exact call_tuple_same pl ⟨.ref p,H,I,rfl,q⟩
def tyV(K:ao)(T:String)(x:V)(H:Hp):Prop:=match x with
 |.str _=>T="str"
 |.int _=>T="int"
 |.ref p=>(T="list" /\ ∃xs,SqL K H p xs)\/(T="tuple" /\ ∃o,K.lookup p=some o/\o.cls=.type "tuple" /\ o.dict=none)\/
   (T="dict" /\ ((∃kvs,H p=some (.dK kvs))\/∃kvs,H p=some (.dT kvs)))\/(T="set" /\ ∃S n,H p=some (.set S n))
 |_=>False
theorem Qp{H:Hp}{s:ae}{x:V}{v:aa}(I:Inv X pins σ H s)(r:RelV x v)(ty:tyV X.K T x H):
  s.TypeIs v T/\∀a,v=.ref a->∃ob,s.heap.get? a=some ob/\ob.dict=none:=by
 cases x with
 |str z=>obtain⟨t,rfl⟩:=r;cases (show T="str" from ty);exact⟨typeIs_str s z t,λ_ e=>nomatch e⟩
 |int i=>obtain⟨t,rfl⟩:=r;cases (show T="int" from ty);exact⟨typeIs_int s i t,λ_ e=>nomatch e⟩
 |ref p=>
  cases r;rcases ty with ⟨rfl,xs,hq⟩|⟨rfl,o,hk,hc,hd⟩|⟨rfl,hk⟩|⟨rfl,S,n,hk⟩
  ·obtain⟨its,_,pl,_⟩:=I.list hq;refine⟨pl.isList.typeIs,λa e=>?_⟩;cases e;obtain⟨o,n,e,c,hd,_⟩:=pl;exact⟨o,e,hd⟩
  ·refine⟨⟨o,I.kIn p o hk,hc⟩,λa e=>?_⟩;cases e;exact⟨o,I.kIn _ o hk,hd⟩
  ·have z:∃o,s.heap.get? p=some o/\o.ExactDict:=by
    rcases hk with ⟨kvs,hk⟩|⟨kvs,hk⟩
    ·obtain⟨_,_,_,_,o,_,_,e,ex,_⟩:=I.hok p _ hk;exact⟨o,e,ex⟩
    ·obtain⟨_,_,_,_,o,_,_,e,ex,_⟩:=I.hok p _ hk;exact⟨o,e,ex⟩
   obtain⟨o,e,ex⟩:=z;refine⟨⟨o,e,ex.1⟩,λa e2=>?_⟩;cases e2;exact⟨o,e,ex.2.1⟩
  ·obtain⟨o,_,_,_,e,ex,_⟩:=I.hok p _ hk;refine⟨⟨o,e,ex.1⟩,λa e2=>?_⟩;cases e2;exact⟨o,e,ex.2.1⟩
 |_=>exact cv ty
def tBM(K:ao)(T:String)(r:V->bp->Hp->VK->Prop)(to:TE)(t:TA):TE:=λσ H Q=>to σ H λx H1=>tyV K T x H1/\t σ H1 λxs H2=>r x xs H2 Q
variable{o e:Expr}{es:List Expr}{to:TE}{t:TA}{name:Str}{apos cpos:Pos}{T id:String}{r:V->bp->Hp->VK->Prop}
theorem Ur(pa:kF T)(slot:Slot T name id)(hty:typeOf (.builtin id)=pure (.type "method_descriptor"))(hm:MtR X id r)(ho:PE X o to)(ha:PA X (e::es) t)
  (hbase:attributeBase o name X.env (eval o X.env)=eval o X.env:=by rfl)
  (hfew:((backTo cpos (starEach (e::es) X.env)).all (λx=>!x.1)&&(backToKw cpos (keywordEach [] X.env)).all (λx=>x.1.isSome)
   && decide ((e::es).length+([]:List dO).length+(if ([]:List dO).isEmpty then 0 else 1)<30))=true:=by rfl)
  (hline:(apos.endLine==cpos.line)=true:=by rfl) (hs:starEach (e::es) X.env=(false,eval e X.env)::starEach es X.env:=by rfl) (hplain:(backTo cpos (starEach es X.env)).any (·.1)=false:=by rfl):
  PE X (.Call (.Attribute o name apos) (e::es) [] cpos) (tBM X.K T r to t):=by
 intro pins s σ H Q I h;refine wpAny_Call_method_late hbase hfew hline rfl (thn (ho pins s σ H _ I h) λv s1 ⟨x,H1,I1,r1,ty,q1⟩=>?_);obtain⟨h1,h2⟩:=Qp I1 r1 ty;refine⟨T,id,pa,slot,hty,h1,h2,?_⟩;have hA:=ha cpos pins s1 σ H1 _ I1 q1;rw[hs]at hA ⊢;refine hZ (by show (false||(backTo cpos (starEach es X.env)).any (·.1))=false;rw[hplain]<;>rfl) (ju ?_)
 exact thn hA λus s2 ⟨vs,H2,I2,r2,q2⟩=>hm pins s2 σ H2 x vs v us Q I2 r1 r2 q2
end
def MtM(X:Cx)(id:String)(r:V->bp->Hp->VK->Prop):Prop:=
 ∀(pins:bY) (s:ae) (σ:St) (H:Hp) (x:V) (xs:bp) (v:aa) (us:List aa) (Q:VK),Inv X pins σ H s->RelV x v->Vals xs us->r x xs H Q->
  wpAny (model X.prog X.w) X.A (call (.builtin id) (v::us)) (EP X pins σ Q) X.xe s
theorem Vals.one:∀{x:V} {us:List aa},Vals [x] us->∃u,us=[u]/\RelV x u
 |_,_,.cons r .nil=>⟨_,rfl,r⟩
theorem Vals.eraseIdx:∀{xs:bp} {us:List aa} (i:Nat),Vals xs us->Vals (xs.eraseIdx i) (us.eraseIdx i)
 |_,_,_,.nil=>.nil
 |_,_,0,.cons _ t=>t
 |_,_,i+1,.cons r t=>.cons r (Vals.eraseIdx i t)
theorem B7{α:Type}:∀(l:List α) (i:Nat),(l.eraseIdx i).length<=l.length
 |[],_=>az _
 |_::_,0=>iO _
 |_::r,i+1=>Nat.succ_le_succ (B7 r i)
variable{its:List aa}{t':Nat}
section
variable{X:Cx}{pins:bY}{σ:St}{H:Hp}{s:ae}{l b:Addr}{xs ys zs:bp}
theorem Inv.lset{its':List aa}{n:Nat}{f:Array aa->Array aa}(I:Inv X pins σ H s)(hH:H l=some (.lst xs))
  (e:s.heap.get? l=some { cls:=.type "list", data:=.seq its.toArray n }) (hf:f its.toArray=its'.toArray) (hv:Vals ys its') (hz:ys.length<=sizeLine):
  Inv X pins σ (upd H l (.lst ys)) { s with heap:=s.heap.update l (eI f),toks:=t' }:=by
 have q:=PySem.IsL.update e f;rw[hf]at q;refine I.write (x:=l) (e:=l) (by rw[hH];exact trivial) (.inl rfl) (λb' u hb hu=>(jq s.heap (eI f) (cJ hb)).trans hu) ⟨_,q⟩ ?_;exact⟨hz,its',_,hv,q⟩
theorem Inv.lnew(I:Inv X pins σ H s)(hv:Vals ys its)(hz:ys.length<=sizeLine):
  Inv X pins σ (upd H s.heap.objs.size (.lst ys)) { s with heap:=s.heap.push { cls:=.type "list", data:=.seq its.toArray },toks:=t' }:=
 I.laid (λ_ _ q=>aH _ q) (az _) ⟨hz,its,0,hv,bq _ rfl⟩
theorem Inv.fresh(I:Inv X pins σ H s):H s.heap.objs.size=none:=I.hok.fresh (az _)
theorem Inv.lstM(I:Inv X pins σ H s)(hH:H l=some (.lst xs)):xs.length<=sizeLine/\∃(its:List aa) (n:Nat),Vals xs its/\xs.length=its.length/\s.heap.get? l=some { cls:=.type "list", data:=.seq its.toArray n }:=by obtain⟨z,its,n,r,e⟩:=I.hok l _ hH;exact⟨z,its,n,r,r.length,e⟩
theorem Ef{n:Nat}(h:n<=sizeLine):fN n=false:=by unfold fN;exact aO (by omega)
end
section
variable{X:Cx}
def Dp:V->bp->Hp->VK->Prop:=λx vs H Q=>∃l xs y,x=.ref l/\vs=[y]/\H l=some (.lst xs)/\xs.length<sizeLine/\Q .non (upd H l (.lst (xs++[y])))
theorem yK:MtM X "list.append" Dp:=by intro pins s σ H x vs v us Q I rx rv h;obtain⟨l,xs,y,rfl,rfl,hH,hz,q⟩:=h;cases rx;obtain⟨u,rfl,ru⟩:=rv.one;obtain⟨z,its,n,r,hl,e⟩:=I.lstM hH;refine iR jE ⟨_,e,rfl⟩ F.entry_list_append (F.args_list_append_2 _ _) (PySem.list_append l its.toArray n u (by rw[aT];omega)) ⟨e,?_⟩;refine⟨.non,_,I.lset (its':=its++[u]) hH e (by simp) (r.append (.cons ru .nil)) ?_,rfl,q⟩;rw[ay,aZ];omega
def M5:V->bp->Hp->VK->Prop:=λx vs H Q=>∃l b xs zs,x=.ref l/\vs=[.ref b]/\H l=some (.lst xs)/\H b=some (.lst zs)/\xs.length+zs.length<=sizeLine/\Q .non (upd H l (.lst (xs++zs)))
theorem TX:MtM X "list.extend" M5:=by
 intro pins s σ H x vs v us Q I rx rv h;obtain⟨l,b,xs,zs,rfl,rfl,hH,hB,hz,q⟩:=h;cases rx;obtain⟨u,rfl,ru⟩:=rv.one;cases ru;obtain⟨z,its,n,r,hl,e⟩:=I.lstM hH;obtain⟨z2,its2,n2,r2,hl2,e2⟩:=I.lstM hB;have hsz:its.toArray.size+its2.toArray.size<=sizeLine:=by rw[aT,aT];omega
 have hlong:¬(!its.toArray.isEmpty&&fN (its.toArray.size+its2.toArray.size))=true:=by rw[Ef hsz,mZ];exact bj
 refine iR jF ⟨_,e,rfl⟩ l4 (lU _ _)
  (AutoSeq1.list_extend_list_list_0 l its.toArray n b its2.toArray n2 hlong (by rw[aT];omega) (by omega)) ⟨e,e2,?_⟩
 refine⟨.non,_,I.lset (its':=its++its2) hH e (by simp) (r.append r2) ?_,rfl,q⟩;rw[ay];omega
def FQ:V->bp->Hp->VK->Prop:=λx vs H Q=>∃l xs i k y,x=.ref l/\vs=[.int i]/\H l=some (.lst xs)/\-(2 ^ 63)<=i/\i<2 ^ 63/\seqIndex? i xs.length=some k/\xs[k]?=some y/\Q y (upd H l (.lst (xs.eraseIdx k)))
theorem Eg:MtM X "list.pop" FQ:=by
 intro pins s σ H x vs v us Q I rx rv h;obtain⟨l,xs,i,k,y,rfl,rfl,hH,h1,h2,hk,hy,q⟩:=h;cases rx;obtain⟨u,rfl,ru⟩:=rv.one;obtain⟨t,rfl⟩:=ru;obtain⟨z,its,n,r,hl,e⟩:=I.lstM hH;obtain⟨w,hw,rw'⟩:=r.get hy;refine iR jP ⟨_,e,rfl⟩ F.entry_list_pop (F.args_list_pop_2 _ _)
  (MeetsSeq.list_pop_at l its.toArray n i t k w (fitsIndex_both h1 h2) (by rw[aT,<- hl];exact hk) (by rw[<-lM];exact hw) (by rw[aT];omega)) ⟨e,?_⟩
 refine⟨y,_,I.lset (its':=its.eraseIdx k) hH e ?_ (r.eraseIdx k) ?_,rw',q⟩
 ·show its.toArray.eraseIdxIfInBounds k=(its.eraseIdx k).toArray;rw[List.eraseIdxIfInBounds_toArray]
 ·have:=B7 xs k;omega
def VC:R2:=λx y H Q=>∃l b xs zs,x=.ref l/\y=.ref b/\H l=some (.lst xs)/\H b=some (.lst zs)/\xs.length+zs.length<=sizeLine/\∀p,H p=none->Q (.ref p) (upd H p (.lst (xs++zs)))
theorem Qq:OpR X (binaryOp .Add) VC:=by
 intro pins s σ H x y v u Q I rx ry h;obtain⟨l,b,xs,zs,rfl,rfl,hH,hB,hz,q⟩:=h;cases rx;cases ry;obtain⟨z,its,n,r,hl,e⟩:=I.lstM hH;obtain⟨z2,its2,n2,r2,hl2,e2⟩:=I.lstM hB;refine PySem.P.add_list e e2 ?_ (by rw[aT,aT];omega);have ea:its.toArray++its2.toArray=(its++its2).toArray:=by simp
 rw[ea];exact⟨.ref _,_,I.lnew (t':=s.toks) (r.append r2) (by rw[ay];omega),rfl,q _ I.fresh⟩
end
section
variable{prog:aA}{w:av}{A:aE}{E:aa->ae->Prop}{s:ae}
set_option maxRecDepth 100000 in
end
section
variable{κ:Type}[DecidableEq κ]
def rZ(kvs:List (κ×V))(k:κ):Option V:=(kvs.find? λkv=>decide (kv.1=k)).map (·.2)
def putK(kvs:List (κ×V))(k:κ)(v:V):List (κ×V):=
 if (kvs.any λkv=>decide (kv.1=k))=true then kvs.map (λkv=>if kv.1=k then (kv.1,v)else kv)else kvs++[(k,v)]
theorem xV{p:κ×V}{r:List (κ×V)}{k:κ}(e:p.1=k):rZ (p::r) k=some p.2:=by simp[rZ,dE,e]
theorem xW{p:κ×V}{r:List (κ×V)}{k:κ}(e:¬p.1=k):rZ (p::r) k=rZ r k:=by simp[rZ,dE,e]
theorem Av(k:κ):∀kvs:List (κ×V),(kvs.any λkv=>decide (kv.1=k))=(rZ kvs k).isSome
 |[]=>rfl
 |p::r=>by
  rw[eF];by_cases e:p.1=k
  ·simp only[xV e,aV e,Bool.true_or,Option.isSome_some]
  ·rw[xW e,aO e,Bool.false_or];exact Av k r
theorem tV(kvs:List (κ×V))(k:κ)(v:V):(putK kvs k v).length<=kvs.length+1:=by
 unfold putK;split
 ·rw[ah];omega
 ·rw[ay,aF,cQ];omega
theorem J4{kvs:List (κ×V)}{k:κ}(v:V)(h:rZ kvs k=none):putK kvs k v=kvs++[(k,v)]:=by unfold putK;rw[Av,h];exact aj (by decide)
theorem vT.isSome_eq{o:Option V}{u:Option aa}(r:vT o u):o.isSome=u.isSome:=by
 cases o with
 |none=>cases u with
  |none=>rfl
  |some _=>exact(show False from r).elim
 |some _=>cases u with
  |none=>exact(show False from r).elim
  |some _=>rfl
theorem vT.getD{o:Option V}{u:Option aa}{d:V}{d':aa}(r:vT o u)(rd:RelV d d'):RelV (o.getD d) (u.getD d'):=by
 cases o with
 |none=>cases u with
  |none=>exact rd
  |some _=>exact(show False from r).elim
 |some _=>cases u with
  |none=>exact(show False from r).elim
  |some _=>exact r
theorem KV.val{kvs:List (κ×V)}{vs:List (κ×aa)}(r:KV kvs vs)(k:κ):vT (rZ kvs k) (valueAt vs k):=by
 unfold KV at r
 induction r with
 |nil=>exact True.intro
 |@cons p q ps qs h t ih=>
  obtain⟨h1,h2⟩:=h;by_cases e:p.1=k
  ·have e':q.1=k:=h1.symm.trans e;have b:valueAt (q::qs) k=some q.2:=by simp[valueAt,dE,e']
   rw[xV e,b];exact h2
  ·have e':¬q.1=k:=λz=>e (h1.trans z);have b:valueAt (q::qs) k=valueAt qs k:=by simp[valueAt,dE,e']
   rw[xW e,b];exact ih
theorem KV.any{kvs:List (κ×V)}{vs:List (κ×aa)}(r:KV kvs vs)(k:κ):(kvs.any λkv=>decide (kv.1=k))=vs.any λkv=>decide (kv.1=k):=by
 unfold KV at r
 induction r with
 |nil=>rfl
 |cons h t ih=>rw[eF,eF,ih,h.1]
theorem KV.repl{kvs:List (κ×V)}{vs:List (κ×aa)}(r:KV kvs vs)(k:κ)(ry:RelV y u):
  KV (kvs.map λkv=>if kv.1=k then (kv.1,y)else kv) (vs.map λkv=>if kv.1=k then (kv.1,u)else kv):=by
 unfold KV at r ⊢
 induction r with
 |nil=>exact .nil
 |@cons p q ps qs h t ih=>
  rw[ar,ar];refine .cons ?_ ih;obtain⟨h1,h2⟩:=h;by_cases e:p.1=k
  ·rw[ai e,ai (h1.symm.trans e)];exact⟨h1,ry⟩
  ·rw[aj e,aj (λz=>e (h1.trans z))];exact⟨h1,h2⟩
theorem KV.put{kvs:List (κ×V)}{vs:List (κ×aa)}(r:KV kvs vs)(k:κ)(ry:RelV y u):KV (putK kvs k y) (stored vs k u):=by
 unfold putK stored;rw[r.any k];by_cases e:(vs.any λkv=>decide (kv.1=k))=true
 ·rw[ai e,ai e];exact r.repl k ry
 ·rw[aj e,aj e];exact ny r ⟨rfl,ry⟩
theorem KV.length{kvs:List (κ×V)}{vs:List (κ×aa)}(r:KV kvs vs):kvs.length=vs.length:=jT r
end
theorem zt{P:aA}{w:av}{k:Key}(r:RelV (kV k) u):(oI P w).is k u=true:=by
 cases k with
 |inl i=>obtain⟨t,e⟩:=(show ∃t,u=Value.int i t from r);subst e;exact D8 P w i t
 |inr x=>obtain⟨t,e⟩:=(show ∃t,u=Value.str x t from r);subst e;exact D9 P w x t
theorem B8{P:aA}{w:av}:∀{ks:List Key} {us:List aa},Vals (ks.map kV) us->ItemsAre (oI P w) ks us
 |[],_,r=>by rw[bJ]at r;cases r;exact .nil
 |k::ks,_,r=>by
  rw[ar]at r;cases r with
  |cons h t=>exact .cons (zt h) (B8 t)
abbrev KT(H:Hp):List (List Key×V)->List (List Key×Addr×aa)->Prop:=eL λp q=>p.1=q.1/\H q.2.1=some (.tup (p.1.map kV))/\RelV p.2 q.2.2
variable{kvs:List (List Key×V)}{xs:List (List Key×Addr×aa)}
theorem KT.val{H:Hp}(r:KT H kvs xs)(k:List Key):vT (rZ kvs k) ((atKey xs k).map (·.2)):=by
 induction r with
 |nil=>exact True.intro
 |@cons p q ps qs h t ih=>
  obtain⟨h1,_,h2⟩:=h;by_cases e:p.1=k
  ·have e':q.1=k:=h1.symm.trans e;have b:atKey (q::qs) k=some q.2:=by simp[atKey,dE,e']
   rw[xV e,b];exact h2
  ·have e':¬q.1=k:=λz=>e (h1.trans z);have b:atKey (q::qs) k=atKey qs k:=by simp[atKey,dE,e']
   rw[xW e,b];exact ih
theorem KT.repl{H:Hp}(r:KT H kvs xs)(k:List Key)(ry:RelV y u):
  KT H (kvs.map λkv=>if kv.1=k then (kv.1,y)else kv) (xs.map (putAt k u)):=by
 induction r with
 |nil=>exact .nil
 |@cons p q ps qs h t ih=>
  rw[ar,ar];refine .cons ?_ ih;obtain⟨h1,h2,h3⟩:=h;unfold putAt;by_cases e:p.1=k
  ·rw[ai e,ai (h1.symm.trans e)];exact⟨h1,h2,ry⟩
  ·rw[aj e,aj (λz=>e (h1.trans z))];exact⟨h1,h2,h3⟩
theorem KT.put{H:Hp}(r:KT H kvs xs)(k:List Key){b:Addr}(hb:H b=some (.tup (k.map kV)))(ry:RelV y u):
  KT H (putK kvs k y) (storedH xs k b u):=by
 have e:(kvs.any λkv=>decide (kv.1=k))=(atKey xs k).isSome:=by rw[Av,(r.val k).isSome_eq,Option.isSome_map]
 unfold putK storedH;rw[e];by_cases q:(atKey xs k).isSome=true
 ·rw[ai q,ai q];exact r.repl k ry
 ·rw[aj q,aj q];exact ny r ⟨rfl,hb,ry⟩
variable{H':Hp}
theorem KT.keeps{H:Hp}(r:KT H kvs xs)(ht:∀b ys,H b=some (.tup ys)->H' b=some (.tup ys)):KT H' kvs xs:=
 Paired.mapP r λ_ _ z=>⟨z.1,ht _ _ z.2.1,z.2.2⟩
section
variable{P:aA}{w:av}{H:Hp}{h:Heap}{a:Addr}
theorem Pg{u:HO}(ok:HOk P w H h)(e:Rd H a u):pD P w H h a u:=e.ok ok
theorem B9{kvs:List (Key×V)}(ok:HOk P w H h)(e:Rd H a (.dK kvs)):kvs.length<=sizeLine/\(a==sysModules)=false/\∃vs,KV kvs vs/\h.DictOf (oI P w) a vs:=
 show pD P w H h a (.dK kvs) from Pg ok e
theorem J5{kvs:List (Key×V)}(ok:HOk P w H h)(e:H a=some (.dK kvs)):kvs.length<=sizeLine/\(a==sysModules)=false/\∃vs,KV kvs vs/\h.DictOf (oI P w) a vs:=B9 ok (.inl e)
theorem Dr{ks:List Key}(ok:HOk P w H h)(e:H a=some (.tup (ks.map kV))):(tupleKind (oI P w)).is h ks a:=by obtain⟨_,its,r,o,h1,h2,n,h3⟩:=(show pD P w H h a (.tup (ks.map kV)) from ok a _ e);exact⟨o,its.toArray,n,h1,h2,h3,by simpa using B8 r⟩
theorem Eh(ok:HOk P w H h)(e:Rd H a (.dT kvs)):kvs.length<=sizeLine/\(a==sysModules)=false/\
  ∃xs,KT H kvs xs/\h.DictOfH (tupleKind (oI P w)) a xs:=by
 obtain⟨z,y,xs,r,o,es,ep,h1,h2,h3,h4,h5⟩:=(show pD P w H h a (.dT kvs) from Pg ok e);refine⟨z,y,xs,r,o,es,ep,h1,h2,h3,h4,λx hx=>?_,h5⟩;have all:∀{l:List (List Key×V)} {m:List (List Key×Addr×aa)},KT H l m->∀x∈m,(tupleKind (oI P w)).is h x.1 x.2.1:=by
  intro l m q
  induction q with
  |nil=>intro x hx;exact nomatch hx
  |@cons p q ps qs hq t ih=>
   intro x hx;rcases aP.mp hx with e|hx
   ·subst e;exact Dr ok (by rw[<-hq.1];exact hq.2.1)
   ·exact ih x hx
 exact all r x hx
theorem Us(ok:HOk P w H h)(e:H a=some (.dT kvs)):kvs.length<=sizeLine/\(a==sysModules)=false/\
  ∃xs,KT H kvs xs/\h.DictOfH (tupleKind (oI P w)) a xs:=Eh ok (.inl e)
end
def DGet(H:Hp)(a:Addr)(y:V)(r:Option V):Prop:=
 (∃kvs k,Rd H a (.dK kvs)/\y=kV k/\r=rZ kvs k)\/∃kvs k b,Rd H a (.dT kvs)/\y=.ref b/\H b=some (.tup (k.map kV))/\r=rZ kvs k
def J6(H:Hp)(a:Addr)(y v:V)(H':Hp):Prop:=
 (∃kvs k,H a=some (.dK kvs)/\y=kV k/\kvs.length<sizeLine/\H'=upd H a (.dK (putK kvs k v)))\/
 ∃kvs k b,H a=some (.dT kvs)/\y=.ref b/\H b=some (.tup (k.map kV))/\kvs.length<sizeLine/\H'=upd H a (.dT (putK kvs k v))
theorem J6.k{H:Hp}{a:Addr}{kvs:List (Key×V)}{k:Key}{v:V}(e:H a=some (.dK kvs))(hl:kvs.length<sizeLine):J6 H a (kV k) v (upd H a (.dK (putK kvs k v))):=.inl ⟨kvs,k,e,rfl,hl,rfl⟩
variable{Q:aa->ae->Prop}{h':Heap}
section
variable{X:Cx}{pins:bY}{σ:St}{H:Hp}{s:ae}{a:Addr}{y v:V}{u r:aa}{o:Option V}{A:aE}{E:aa->ae->Prop}
theorem Inv.big(I:Inv X pins σ H s):sysModules<s.heap.objs.size:=by have h:mainGlobals<s.heap.objs.size:=(I.mod.glob.keeps I.bk).lt;exact Nat.lt_trans (by decide) h
theorem Iv(hu:A.units+1<cLine)(I:Inv X pins σ H s)(g:DGet H a y (some v))(ry:RelV y u)(h:∀w' s',Inv X pins σ H s'->RelV v w'->Q w' s'):
  wpAny (model X.prog X.w) A (getItem (.ref a) u) Q E s:=by
 rcases g with ⟨kvs,k,e,ey,l⟩|⟨kvs,k,b,e,ey,eb,l⟩
 ·subst ey;obtain⟨z,hd,vs,rel,dd⟩:=B9 I.hok e;obtain⟨w',hw,rw'⟩:=vT.some_of (v:=v) (o:=valueAt vs k) (by rw[l];exact rel.val k);exact wpAny_getItem_of (zt ry) dd.mapOf hw (h w' _ (I.tok _) rw')
 ·subst ey;cases (show u=Value.ref b from ry);obtain⟨z,hd,xs,rel,dd⟩:=Eh I.hok e;obtain⟨w',hw,rw'⟩:=vT.some_of (v:=v) (o:=(atKey xs k).map (·.2)) (by rw[l];exact rel.val k)
  obtain⟨p,hp,hp2⟩:=Option.map_eq_some_iff.mp hw;refine wpAny_getItem_heap (jG hu) (Dr I.hok eb) dd hp ?_;rw[hp2];exact h w' _ (I.tok _) rw'
theorem Ab{ob:HO}(I:Inv X pins σ H s)(mu:Mut (H a))(hs:eG a s.heap h')(he:∃q,h'.get? a=some q)(new:pD X.prog X.w (upd H a ob) h' a ob):
  Inv X pins σ (upd H a ob) { s with heap:=h',toks:=t' }:=
 I.write (x:=a) (e:=a) mu (.inl rfl) (λb q hb z=>(hs.2 b hb).trans z) he new
theorem FR{P:aA}{w:av}{kvs:List (Key×V)}{vs:List (Key×aa)}(z:kvs.length<=sizeLine)(hd:(a==sysModules)=false)(rel:KV kvs vs)(dd:h'.DictOf (oI P w) a vs):
  pD P w H' h' a (.dK kvs):=⟨z,hd,vs,rel,dd⟩
theorem Iw{Q:Unit->ae->Prop}(hu:A.units+1<cLine)(I:Inv X pins σ H s)(g:J6 H a y v H')(ry:RelV y u)(rv:RelV v r)(h:∀s',Inv X pins σ H' s'->Q () s'):
  wpAny (model X.prog X.w) A (setItem (.ref a) u r) Q E s:=by
 rcases g with ⟨kvs,k,e,ey,l,eH⟩|⟨kvs,k,b,e,ey,eb,l,eH⟩
 ·subst ey eH;obtain⟨z,hd,vs,rel,dd⟩:=J5 I.hok e;have hz:vs.length<=sizeLine:=by rw[<-rel.length];exact z
  have hl:(putK kvs k v).length<=sizeLine:=by have:=tV kvs k v;omega
  refine wpAny_setItem_pairs (hsz:=hz) (zt ry) dd λh' dd' hs=>h _ ?_;have he:∃q,h'.get? a=some q:=let ⟨q,_,_,hq,_⟩:=dd';⟨q,hq⟩;exact Ab I (by rw[e];exact True.intro) hs he (FR hl hd (rel.put k rv) dd')
 ·subst ey eH;cases (show u=Value.ref b from ry);obtain⟨z,hd,xs,rel,dd⟩:=Us I.hok e;have hz:xs.length<=sizeLine:=by rw[<-jT rel];exact z
  have hl:(putK kvs k v).length<=sizeLine:=by have:=tV kvs k v;omega
  refine wpAny_setItem_heap (hsz:=hz) (jG hu) (Dr I.hok eb) dd λh' dd' hs=>h _ ?_;obtain⟨q,es,ep,hq,h2,h3,h4,_,h5⟩:=dd';refine Ab I (by rw[e];exact True.intro) hs ⟨q,hq⟩ ⟨hl,hd,_,(rel.put k eb rv).keeps λc ys ec=>?_,q,es,ep,hq,h2,h3,h4,h5⟩;rw[og (TZ ec e (λz=>nomatch z))];exact ec
end
section
variable{X:Cx}{pins:bY}{σ:St}{H:Hp}{s:ae}{a:Addr}{kvs:List (Key×V)}{k:Key}{u:aa}{A:aE}{E:aa->ae->Prop}
theorem Ut(I:Inv X pins σ H s)(e:Rd H a (.dK kvs))(h:∀t s',Inv X pins σ H s'->Q (.int kvs.length t) s'):wpAny (model X.prog X.w) A (call (.builtin "len") [.ref a]) Q E s:=by obtain⟨z,hd,vs,rel,dd⟩:=B9 I.hok e;refine call_len_dict hd dd (by rw[<-rel.length];rw[bK]at z;omega) ?_;rw[<-rel.length];exact h _ _ (I.tok _)
end
def Qr(i:Expr):Prop:=∀ov iv,subscripted i false ov iv=operate [ov,iv] (getItem ov iv)
variable{pos:Pos}
theorem M6{prog:aA}{w:av}{A:aE}{E:aa->ae->Prop}{s:ae}{env:Env}{value slice:Expr}{id:String}
  (hl:typeLookup (.type T) "__getitem__" = pure (some (.builtin id))) (hs:Qr slice)
  (h:wpAny (model prog w) A (eval value env) (λo s₁=>wpAny (model prog w) A (eval slice env) (λi s₂=>s₂.TypeIs o T/\wpAny (model prog w) A (getItem o i) Q E s₂) E s₁) E s):
  wpAny (model prog w) A (eval (.Subscript value slice pos) env) Q E s:=by
 refine kE (bT h (λo s₁ h₁=>bT h₁ (λi s₂ h₂=>?_) λ_ _ x=>x) λ_ _ x=>x);obtain⟨hT,h₂⟩:=h₂;unfold subscriptTail;refine ag ?_;rw[getitemInPython_of_ne hT.not_modules];refine ag (wpAny_specialOf hT hl ?_);have fin:wpAny (model prog w) A (subscripted slice false o i) (λr s₃=>wpAny (model prog w) A (letTemporaryGo value o r>>=λ_=>pure r) Q E s₃) E s₂:=by rw[hs o i];exact wpAny_operating (bT h₂ (λr s₃ h₃=>ag (wpAny_letTemporaryGo (au h₃))) λ_ _ x=>x)
 first
  |exact au (ag fin)
  |exact ag (au (ag fin))
  |exact ag fin
variable{X:Cx}{a:Addr}
theorem Ei{H:Hp}{s:ae}{o:Option V}(I:Inv X pins σ H s)(g:DGet H a y o):s.TypeIs (.ref a) "dict" := by
 rcases g with ⟨kvs,k,e,_,_⟩|⟨kvs,k,b,e,_,_,_⟩
 ·obtain⟨_,_,vs,_,dd⟩:=B9 I.hok e;exact dd.typeIs
 ·obtain⟨_,_,xs,_,dd⟩:=Eh I.hok e;exact dd.typeIs
def Uu(td ty:TE):TE:=λσ H Q=>td σ H λx H1=>ty σ H1 λy H2=>∃a v,x=.ref a/\DGet H2 a y (some v)/\Q v H2
def Ph(td ty tv:TE):TS:=λD σ H=>tv σ H λv H1=>td σ H1 λx H2=>ty σ H2 λy H3=>∃a H4,x=.ref a/\J6 H3 a y v H4/\D.nx σ H4
section
variable{X:Cx}{o i e value:Expr}{pos pos' tpos:Pos}{td ty tv:TE}
theorem M7(hu:X.A.units+1<cLine)(ho:PE X o td)(hi:PE X i ty)(hs:Qr i):PE X (.Subscript o i pos) (Uu td ty):=by intro pins s σ H Q I h;refine M6 F.slot_dict_getitem.lookup hs (thn (ho pins s σ H _ I h) λu s1 ⟨x,H1,I1,rx,q1⟩=>thn (hi pins s1 σ H1 _ I1 q1) λiv s2 ⟨y,H2,I2,ry,a,v,ex,g,q2⟩=>?_);subst ex;obtain rfl:u=Value.ref a:=rx;exact⟨Ei I2 g,Iv hu I2 g ry λw' s3 I3 rw'=>⟨v,H2,I3,rw',q2⟩⟩
theorem M8(hu:X.A.units+1<cLine)(ho:PE X o td)(hi:PE X i ty)(hv:PE X value tv)(hs:swapsWith value (some (.Subscript o i pos')) pos.line X.env=pure false):
  PS X (.Assign [.Subscript o i pos'] value pos) (Ph td ty tv):=by
 intro pins s σ H D I h;refine wpAny_Assign_Subscript (thn (hv pins s σ H _ I h) λr s1 ⟨v,H1,I1,rv,q1⟩=>thn (ho pins s1 σ H1 _ I1 q1) λu s2 ⟨x,H2,I2,rx,q2⟩=>thn (hi pins s2 σ H2 _ I2 q2) λiv s3 ⟨y,H3,I3,ry,a,H4,ex,g,q3⟩=>?_) hs;subst ex;obtain rfl:u=Value.ref a:=rx;exact Iw hu I3 g ry rv λs4 I4=>⟨σ,H4,I4,q3⟩
end
theorem Ej{P:aA}{w:av}{H:Hp}(h:Heap)(hb:sysModules<h.objs.size):pD P w H (h.push { cls:=.type "dict", data:=.dict #[] }) h.objs.size (.dK []):=
 ⟨bW _,beq_eq_false_iff_ne.mpr (cJ (bf hb)),[],.nil,Heap.DictOf.new h⟩
def FU:TE:=λ_ H Q=>∀p,H p=none->Q (.ref p) (upd H p (.dK []))
section
variable{X:Cx}{pos:Pos}
theorem Aw:PE X (.Dict [] [] pos) FU:=λpins s σ H Q I h=>
 wpAny_Dict_empty ⟨.ref s.heap.objs.size,_,I.laid (a:=s.heap.objs.size) (o:=.dK []) (t':=s.toks) (λ_ _ q=>aH _ q) (az _) (Ej s.heap I.big),rfl,h _ (I.hok.fresh (az _))⟩
end
def Ds:List (TE×TE)->St->Hp->(List (V×V)->Hp->Prop)->Prop
 |[],_,H,Q=>Q [] H
 |(tk,tv)::r,σ,H,Q=>tk σ H λx H1=>tv σ H1 λy H2=>Ds r σ H2 λps H3=>Q ((x,y)::ps) H3
abbrev VV:List (V×V)->List (aa×aa)->Prop:=eL λp q=>RelV p.1 q.1/\RelV p.2 q.2
def PPs(X:Cx)(pos:Pos)(keys:List (Option Expr))(values:List Expr)(trs:List (TE×TE)):Prop:=
 ∀(pins:bY) (s:ae) (σ:St) (H:Hp) (Q:List (V×V)->Hp->Prop),Inv X pins σ H s->Ds trs σ H Q->
  wpAny (model X.prog X.w) X.A (evalPairs (pairTrees keys values X.env pos)) (λvs s'=>∃ps H',Inv X pins σ H' s'/\VV ps vs/\Q ps H') X.xe s
theorem M9:PPs X pos [] [] []:=λpins s σ H Q I h=>pairTrees_nil_walk ⟨[],H,I,.nil,h⟩
variable{trs:List (TE×TE)}
theorem J7{k v:Expr}{ks:List (Option Expr)}{vs:List Expr}{tk tv:TE}(hk:PE X k tk)(hv:PE X v tv)(hr:PPs X pos ks vs trs):
  PPs X pos (some k::ks) (v::vs) ((tk,tv)::trs):=λpins s σ H Q I h=>
 pairTrees_cons_walk (thn (hk pins s σ H _ I h) λu s1 ⟨x,H1,I1,rx,q1⟩=>thn (hv pins s1 σ H1 _ I1 q1) λw2 s2 ⟨y,H2,I2,ry,q2⟩=>
  thn (hr pins s2 σ H2 _ I2 q2) λws s3 ⟨ps,H3,I3,rel,q3⟩=>⟨(x,y)::ps,H3,I3,.cons ⟨rx,ry⟩ rel,q3⟩)
def vZ(kvs more:List (Key×V)):List (Key×V):=more.foldl (λacc kv=>putK acc kv.1 kv.2) kvs
theorem KV.merge:∀{more:List (Key×V)} {rs:List (Key×aa)} {kvs:List (Key×V)} {vs:List (Key×aa)},KV more rs->KV kvs vs->KV (vZ kvs more) (merged vs rs):=by
 intro more rs kvs vs r;unfold KV at r
 induction r generalizing kvs vs with
 |nil=>intro q;exact q
 |@cons p q ps qs h t ih=>
  intro r0;have e:KV (putK kvs p.1 p.2) (stored vs q.1 q.2):=by have:=r0.put p.1 h.2;rw[<-h.1];exact this
  exact ih e
theorem w5:∀(more kvs:List (Key×V)),(vZ kvs more).length<=kvs.length+more.length
 |[],kvs=>by show kvs.length<=kvs.length+0;omega
 |p::r,kvs=>by have h1:=w5 r (putK kvs p.1 p.2);have h2:=tV kvs p.1 p.2;show (vZ (putK kvs p.1 p.2) r).length<=_;rw[aF];omega
theorem Ax{P:aA}{w:av}:∀{kvs:List (Key×V)} {ws:List (aa×aa)},VV (kvs.map λkv=>(kV kv.1,kv.2)) ws->∃rs,Carries (oI P w) ws rs/\KV kvs rs
 |[],_,r=>by rw[bJ]at r;cases r;exact⟨[],True.intro,.nil⟩
 |p::kvs,_,r=>by
  rw[ar]at r;cases r with
  |@cons a b as bs h t=>obtain⟨rs,c,q⟩:=Ax (P:=P) (w:=w) t;obtain⟨b1,b2⟩:=b;exact⟨(p.1,b2)::rs,⟨zt h.1,rfl,c⟩,.cons ⟨rfl,h.2⟩ q⟩
def J8(trs:List (TE×TE)):TE:=λσ H Q=>∀p,H p=none->Ds trs σ (upd H p (.dK [])) λps H2=>H2 p=some (.dK [])/\∃kvs:List (Key×V),ps=kvs.map (λkv=>(kV kv.1,kv.2))/\kvs.length<=15/\Q (.ref p) (upd H2 p (.dK (vZ [] kvs)))
theorem Na{keys:List (Option Expr)}{values:List Expr}(h:PPs X pos keys values trs)(hall:keys.all (·.isSome)=true)(hl:keys.length=values.length)(h0:keys≠[])
  (h15:keys.length<=15):PE X (.Dict keys values pos) (J8 trs):=by
 intro pins s σ H Q I q;have hn:=I.hok.fresh (az s.heap.objs.size);have I1:=I.laid (a:=s.heap.objs.size) (o:=.dK []) (h':=s.heap.push { cls:=.type "dict", data:=.dict #[] }) (t':=s.toks) (λ_ _ q=>aH _ q) (az _) (Ej s.heap I.big);refine wpAny_Dict_walk (knd:=oI X.prog X.w) hall hl h0 h15 (thn (h pins _ σ _ _ I1 (q _ hn)) λws s2 ⟨ps,H2,I2,rel,e,kvs,ep,lk,q2⟩=>?_);subst ep;obtain⟨rs,c,rk⟩:=Ax (P:=X.prog) (w:=X.w) rel;obtain⟨z,hd,vs0,r0,dd⟩:=J5 I2.hok e;cases r0;refine⟨rs,c,dd,λh' dd' hs=>⟨.ref s.heap.objs.size,_,?_,rfl,q2⟩⟩;have hz:(vZ [] kvs).length<=sizeLine:=by have h1:=w5 kvs [];rw[cQ]at h1;rw[bK];omega
 have he:∃q,h'.get? s.heap.objs.size=some q:=let ⟨q,_,_,hq,_⟩:=dd';⟨q,hq⟩;exact Ab I2 (by rw[e];exact True.intro) hs he (FR hz hd (rk.merge .nil) dd')
structure M1(X:Cx)(o:Expr)(m:Str)(apos:Pos)(e:Expr)(cpos:Pos):Prop where
 base:attributeBase o m X.env (eval o X.env)=eval o X.env
 few:((backTo cpos (starEach [e] X.env)).all (λx=>!x.1)&&(backToKw cpos (keywordEach [] X.env)).all (λx=>x.1.isSome)
  && decide (([e]:List Expr).length+([]:List dO).length+(if ([]:List dO).isEmpty then 0 else 1)<30))=true
 line:(apos.endLine==cpos.line)=true
 trees:backTo cpos (starEach [e] X.env)=[(false,eval e X.env)]
structure M2(X:Cx)(o:Expr)(m:Str)(apos:Pos)(e f:Expr)(cpos:Pos):Prop where
 base:attributeBase o m X.env (eval o X.env)=eval o X.env
 few:((backTo cpos (starEach [e,f] X.env)).all (λx=>!x.1)&&(backToKw cpos (keywordEach [] X.env)).all (λx=>x.1.isSome)
  && decide (([e,f]:List Expr).length+([]:List dO).length+(if ([]:List dO).isEmpty then 0 else 1)<30))=true
 line:(apos.endLine==cpos.line)=true
 trees:backTo cpos (starEach [e,f] X.env)=[(false,eval e X.env),(false,eval f X.env)]
def IsD(H:Hp)(a:Addr):Prop:=(∃kvs,Rd H a (.dK kvs))\/∃kvs,Rd H a (.dT kvs)
theorem FV{H:Hp}{s:ae}(I:Inv X pins σ H s)(d:IsD H a):
  s.TypeIs (.ref a) "dict" /\ (∀b,Value.ref a=.ref b->∃ob,s.heap.get? b=some ob/\ob.dict=none)/\(a==sysModules)=false:=by
 rcases d with ⟨kvs,e⟩|⟨kvs,e⟩
 ·obtain⟨_,hd,vs,_,dd⟩:=B9 I.hok e;refine⟨dd.typeIs,λb q=>?_,hd⟩;cases q;obtain⟨ob,_,_,h1,h2,_⟩:=dd;exact⟨ob,h1,h2.2.1⟩
 ·obtain⟨_,hd,xs,_,dd⟩:=Eh I.hok e;refine⟨dd.typeIs,λb q=>?_,hd⟩;cases q;obtain⟨ob,_,_,h1,h2,_⟩:=dd;exact⟨ob,h1,h2.2.1⟩
section
variable{X:Cx}{pins:bY}{σ:St}{H:Hp}{s:ae}{a:Addr}{y d:V}{u r:aa}{o:Option V}{A:aE}{E:aa->ae->Prop}
theorem Qs(hu:A.units+1<cLine)(I:Inv X pins σ H s)(g:DGet H a y o)(ry:RelV y u)(h:∀w' s',Inv X pins σ H s'->RelV (o.getD .non) w'->Q w' s'):
  wpAny (model X.prog X.w) A (call (.builtin "dict.get") [.ref a,u]) Q E s:=by
 rcases g with ⟨kvs,k,e,ey,l⟩|⟨kvs,k,b,e,ey,eb,l⟩
 ·subst ey;obtain⟨z,hd,vs,rel,dd⟩:=B9 I.hok e;refine iM jQ dd.typeIs mI (mB _ _) (meets_dict_get (oI X.prog X.w) a (zt ry) hd) ⟨_,dd.mapOf,h _ _ (I.tok _) ?_⟩;rw[l];exact(rel.val k).getD rfl
 ·subst ey;cases (show u=Value.ref b from ry);obtain⟨z,hd,xs,rel,dd⟩:=Eh I.hok e;refine iM jQ dd.typeIs mI (mB _ _) (meetsH_dict_get (tupleKind (oI X.prog X.w)) a b hd) ⟨jG hu,k,xs,Dr I.hok eb,dd,h _ _ (I.tok _) ?_⟩;rw[l];exact(rel.val k).getD rfl
end
def Qt(td ty:TE):TE:=λσ H Q=>td σ H λx H1=>∃a,x=.ref a/\IsD H1 a/\ty σ H1 λy H2=>∃o,DGet H2 a y o/\Q (o.getD .non) H2
section
variable{X:Cx}{o e f:Expr}{apos cpos:Pos}{td ty tx:TE}
theorem J9(hu:X.A.units+1<cLine)(ho:PE X o td)(he:PE X e ty)(m:M1 X o "get" apos e cpos):PE X (.Call (.Attribute o "get" apos) [e] [] cpos) (Qt td ty):=by intro pins s σ H Q I h;refine mC m.base m.few m.line jK jQ F.type_dict_get (thn (ho pins s σ H _ I h) λu s1 ⟨x,H1,I1,rx,a,ex,d,q1⟩=>?_);subst ex;obtain rfl:u=Value.ref a:=rx;obtain⟨t1,t2,_⟩:=FV I1 d;refine⟨t1,t2,?_⟩;rw[m.trees];refine hZ rfl (ju (fT (thn (he pins s1 σ H1 _ I1 q1) λiv s2 ⟨y,H2,I2,ry,ov,g,q2⟩=>ik ?_)));exact Qs hu I2 g ry λw' s3 I3 rw'=>⟨_,H2,I3,rw',q2⟩
end
end L2
namespace Att
open PySem PySem.W PySem.Calls PyProof.Rows
theorem zX{P:gH}{h:Heap}:∀(ns:List Int) (vs:List aa),WellAll P h vs (ns.map WData.int)->gB vs ns:=by
 intro ns
 induction ns with
 |nil=>intro vs w;rw[bJ]at w;cases w;exact .nil
 |cons n ns ih=>
  intro vs w;rw[ar]at w;cases w with
  |cons a b=>cases a;exact .cons _ _ (ih _ b)
theorem Iy{l:fG}{n:Nat}(hn:l.most=some n){P:gH}{h:Heap}{args:List WData}{vals:List aa}
  (hpre:l.row.toRowW.claim.pre args=true) (hwl:WellAll P h vals args):
  ∃a vs ns,vals=[Value.ref a]/\args=[WData.list (ns.map WData.int)]/\h.get? a=some { cls:=.type "list", data:=.seq vs.toArray }/\gB vs ns/\ns.length<=n:=by
 have hsh:WShape.hasAll [] args [.list .int]=true:=(pre_splitW hpre).1;have hc:l.pre.holds [] { args:=args }=true:=(pre_splitW hpre).2;obtain⟨d,r,rfl,h1,h2⟩:=hasAllW_cons hsh;obtain rfl:=hasAllW_nil h2;obtain⟨xs,rfl,h3⟩:=hasW_list h1;obtain⟨ns,rfl⟩:=items_int h3;have hlen:ns.length<=n:=by
  unfold OpenLaw.pre at hc;have h4:(WTm.not (.lt (.lit (.int (n:Int))) (.len (.arg 0)))).holds [] { args:=[.list (ns.map .int)] }=true:=by have h4:=(holds_andW hc).1;rw[hn]at h4;exact h4
  have h5:=condW_of h4 (w_not (w_lt w_lit (w_len_list (w_arg rfl))));rw[ah]at h5;refine mJ λq=>?_;have q':(n:Int)<((ns.length:Nat):Int):=by omega
  first
   |(rw[aV q']at h5;exact aq h5 (by decide))
   |(simp at h5;omega)
 cases hwl with
 |cons w1 w2=>
  cases w2;cases w1 with
  |list ho hall=>exact⟨_,_,ns,rfl,rfl,ho,zX ns _ hall,hlen⟩
theorem IA(l:fG)(args:List WData):l.row.toRowW.claim.post args (.bool true) args=true:=
 postW_of (r:=l.row.toRowW) (X:=(true==true))
  (show nE [] (.bool true) .bool=true by first|rfl|decide|simp[nE,WShape.arms,WShape.armsAll])
  (show (WTm.eq .res (.lit (.bool true))).value [] { args:=args,res:=some (.bool true),after:=args }=some (.bool (true==true)) from w_eq_bool (w_res rfl) w_lit) rfl
theorem attach_call{l:fG}{n:Nat}{q:aA}{loose:aG}{XP:(Str->Option aa)->Heap->Prop}{YP:av->Heap->Prop}{d:DefRec}
  (hn:l.most=some n) (hdf:d.params.defaults=[])
  (call:∀(w:av) (s₀ s₁:ae) (mg mb:Str->Option aa) (fa:Addr) (o:Obj) (pm cd doc:aa) (a:Addr) (vs:List aa) (ns:List Int),
   Ground q loose [] XP w s₀ mg mb s₁.heap->YP w s₁.heap->
   s₁.heap.get? fa=some o->o.data=.func (docDef d.name d.params d.body d.scope pm cd doc)->s₁.heap.CodeRec cd d.name->mg d.name=some (.ref fa)->
   s₁.heap.get? a=some { cls:=.type "list", data:=.seq vs.toArray }->gB vs ns->ns.length<=n->s₁.gens=#[]->
   codeAny (model l.prog w) callerA (.call (.ref fa) ⟨[.ref a],[]⟩) (λr s'=>r=.ok (.ret (.bool true))/\OldK s₁.heap s'.heap/\s'.os=s₁.os/\dj s'.gens) s₁):
  WalkO q loose XP YP l.row.toRowW d [] (λf vs=>kG f vs):=by
 intro w s₀ s₁ mg mb G Y fa o pm cd doc dV kV ho hd hcd hD hmg hg args vals as hpre hlay hrd hwl hlo;obtain rfl:dV=.none:=Dflts.none hD hdf;obtain rfl:kV=.none:=Dflts.noKw hD;obtain⟨a,vs,ns,rfl,rfl,hobj,hints,hlen⟩:=Iy hn hpre hwl;refine enter_call (fD (call w s₀ s₁ mg mb fa o pm cd doc a vs ns G Y ho (fd_plain hd) hcd hmg hobj hints hlen hg) λr s' hq=>?_);obtain⟨rfl,h2,h3,h4⟩:=hq;exact⟨.inl ⟨.bool true,.bool true,[],rfl,λ_=>rfl,.bool true,IA l _,λ_=>⟨List.Pairwise.nil,λ_ hm=>(nomatch hm)⟩⟩,h2,h3,h4⟩
end Att
namespace L2
open PySem PySem.Spec PyProof.Rows
theorem Ca:∀{vs:List aa} {ns:List Int},gB vs ns->Vals (ns.map V.int) vs
 |_,_,.nil=>.nil
 |_,_,.cons n t h=>.cons ⟨t,rfl⟩ (Ca h)
def Qu(H:Hp):Prop:=∀b,H b=none\/∃o xs,H b=some (.frz o (.lst xs))
variable{a:Addr}{fd:bL}{sp:Sp}
theorem Ka{P:aA}{w:av}{K:ao}{mg mb:Str->Option aa}{CX:CXT}{k:Nat}{fa:Addr}{x:Str}{s₁:ae}{vs:List aa}{ns:List Int}
  (KX:K.In s₁.heap) (hns:s₁.heap.Ns mainGlobals mg) (hb:s₁.heap.Ns builtinsNs mb) (hbb:∀x:Str,x≠"__name__" -> mb x=bootBuiltins x) (hlim:s₁.heap.NoLimit) (hg:s₁.gens=#[])
  (ha:s₁.heap.get? a=some { cls:=.type "list", data:=.seq vs.toArray }) (hi:gB vs ns) (hl:ns.length<=sizeLine) (hr:qa k callerA)
  (F:∀base:Heap,K.In base->base.Ns mainGlobals mg->sF P w K mg base CX k fa fd [x] sp) (hbind:∀(s:ae) (u:aa),fJ s fd ⟨[u],[]⟩ [(x,u)])
  (hsp:∀H:Hp,Qu H->SqL K H a (ns.map V.int)->sp [.ref a] H (λv _=>v=.bl true) λ_ _ _=>False)
  (hCX:∀H e s',CX [] H s₁ (λ_ _ _=>False) e s'->False):
  codeAny (model P w) callerA (.call (.ref fa) ⟨[.ref a],[]⟩) (λr s'=>r=.ok (.ret (.bool true))/\OldK s₁.heap s'.heap/\s'.os=s₁.os/\dj s'.gens) s₁:=by
 have rv:=Ca hi;have lenV:=hi.length;have core:∀H:Hp,Qu H->SqL K H a (ns.map V.int)->HOk P w H s₁.heap->(∀b,H b≠none->b=a)->(H a≠none->K.lookup a=none)->
   codeAny (model P w) callerA (.call (.ref fa) ⟨[.ref a],[]⟩) (λr s'=>r=.ok (.ret (.bool true))/\OldK s₁.heap s'.heap/\s'.os=s₁.os/\dj s'.gens) s₁:=by
  intro H hO hS hok hA hK;have base_of:∀{b:Addr} {o:Obj},s₁.heap.get? b=some o->H b=none->(De s₁.heap H).get? b=some o:=λe n=>JJ e n;have noA:∀{b:Addr} {o:Obj} {es:Array DictEntry} {ep:Nat},s₁.heap.get? b=some o->o.data=.dict es ep->H b=none:=λ{b o es ep} e d=>by
   cases q:H b with
   |none=>rfl
   |some u=>have e':b=a:=hA b (by rw[q];simp);subst e';rw[ha]at e;cases e;have d':Data.seq vs.toArray _=Data.dict es ep:=d;cases d'
  have nsK:∀{b:Addr} {m:Str->Option aa},s₁.heap.Ns b m->(De s₁.heap H).Ns b m:=λ{b m} ⟨o,es,ep,e,d,r⟩=>⟨o,es,ep,base_of e (noA e d),d,r⟩;have hKb:K.In (De s₁.heap H):=λb o e=>base_of (KX b o e) (by
   cases q:H b with
   |none=>rfl
   |some u=>
    have e':b=a:=hA b (by rw[q];simp);subst e';rw[hK (by rw[q];simp)]at e;cases e)
  have hM:Mod K mg (De s₁.heap H):=⟨hKb,nsK hns,⟨mb,nsK hb,hbb⟩,let ⟨mc,h1,h2⟩:=hlim;⟨mc,nsK h1,h2⟩⟩;have e0:FM P w K mg (De s₁.heap H) callerA [] s₁ H:=⟨rfl,hM,λb o e=>MG e,Nat.le_of_eq (Ie _ _),trivial,λb hb=>aq (show b∈([]:List Addr) from hb) (by simp),hok,.of_eq hg⟩;refine fD ((F _ hKb (nsK hns)).run callerA [] s₁ H ⟨[.ref a],[]⟩ [.ref a] [.ref a] _ _ hr e0 (hbind s₁ (.ref a)) (.cons rfl .nil) (hsp H hO hS)) λr s' h=>?_;cases r with
  |error e=>exact(hCX H e s' h).elim
  |ok fl=>
   cases fl with
   |next=>exact cv h
   |brk=>exact cv h
   |cont=>exact cv h
   |ret u=>
    obtain⟨v,H',os,bare,un,hok',r',q⟩:=h;have q':v=.bl true:=q;subst q';obtain rfl:u=Value.bool true:=r';refine⟨rfl,OldK.of_keep λb o e=>?_,os,bare⟩;cases q:H b with
    |none=>exact un.keep b o e q (by intro z;exact aq (show b∈([]:List Addr) from z) (by simp)) (by simp)
    |some u=>
     rcases hO b with z|⟨ob,xs,z⟩
     ·rw[q]at z;cases z
     ·have z2:=un.frzs b ob _ z;obtain⟨e1,_⟩:=hok b _ z;obtain⟨e2,_⟩:=hok' b _ z2;rw[e]at e1;cases e1;exact e2
 cases hk:K.lookup a with
 |some o=>have e:=KX a o hk;rw[ha]at e;cases e;refine core (λ_=>none) (λ_=>.inl rfl) (.inr ⟨_,vs.toArray,_,hk,rfl,rfl,rfl,by rw[aT,lenV];exact hl,by simpa using rv⟩) (λb u z=>by have z':(none:Option HO)=some u:=z;cases z') (λb z=>aq rfl z) λz=>aq rfl z
 |none=>
  refine core (λb=>if b=a then some (.frz { cls:=.type "list", data:=.seq vs.toArray } (.lst (ns.map V.int)))else none) (λb=>?_) (.inl (.inr ⟨{ cls:=.type "list", data:=.seq vs.toArray },ai rfl⟩)) (λb u z=>?_) (λb z=>?_) λ_=>hk
  ·by_cases hb:b=a
   ·exact .inr ⟨_,_,ai hb⟩
   ·exact .inl (aj hb)
  ·by_cases hb:b=a
   ·have z':=(ai hb).symm.trans z;cases z';subst hb;exact⟨ha,by rw[ah];exact hl,vs,_,rv,ha⟩
   ·have z':=(aj hb).symm.trans z;cases z'
  ·by_cases hb:b=a
   ·exact hb
   ·exact aq (aj hb) z
theorem Nc{l:fG}{n k:Nat}{q:aA}{loose:aG}{XP:(Str->Option aa)->Heap->Prop}{YP:av->Heap->Prop}{d:DefRec}{K:gH->ao}{CX:av->CXT}{sp:av->Sp}{x:Str}
  (hn:l.most=some n) (hn2:n<=sizeLine) (hdf:d.params.defaults=[]) (hr:qa k callerA)
  (hY:∀(w:av) (h:Heap),YP w h->(K w.params).In h)
  (F:∀(w:av) (mg:Str->Option aa) (fa:Addr) (h:Heap),(K w.params).In h->h.Ns mainGlobals mg->mg d.name=some (.ref fa)->
   ∃fd:bL,(∀(s:ae) (u:aa),fJ s fd ⟨[u],[]⟩ [(x,u)])/\
    ∀base:Heap,(K w.params).In base->base.Ns mainGlobals mg->sF l.prog w (K w.params) mg base (CX w) k fa fd [x] (sp w))
  (hsp:∀(w:av) (H:Hp) (a:Addr) (ns:List Int),ns.length<=n->Qu H->SqL (K w.params) H a (ns.map V.int)->sp w [.ref a] H (λv _=>v=.bl true) λ_ _ _=>False)
  (hCX:∀(w:av) (H:Hp) (s:ae) (e:aa) (s':ae),CX w [] H s (λ_ _ _=>False) e s'->False):
  W.WalkO q loose XP YP l.row.toRowW d [] (λf vs=>kG f vs):=by
 refine Att.attach_call hn hdf λw s₀ s₁ mg mb fa o pm cd doc a vs ns G Y ho hd hcd hmg hobj hints hlen hg=>?_;have KX:=hY w _ Y;obtain⟨fd,hb,hF⟩:=F w mg fa _ KX G.T.g hmg;exact Ka KX G.T.g G.T.b G.T.builtins G.T.nolimit hg hobj hints (bS hlen hn2) hr hF hb (λH hO hS=>hsp w H a ns hlen hO hS) λH e s'=>hCX w H s₁ e s'
def inClass(s:Stmt)(j:Nat):Stmt:=match s with
 |.ClassDef _ _ _ body _ _ _ _ _ _ _=>body.getD j (.Pass ⟨0,0,0,0⟩)
 |_=>.Pass ⟨0,0,0,0⟩
def tW(s:Stmt):Arguments:=match s with
 |.FunctionDef _ a _ _ _ _ _ _ _ _=>a
 |_=>{ posonlyargs:=[],args:=[],vararg:=none,kwonlyargs:=[],kw_defaults:=[],kwarg:=none,defaults:=[] }
def oY(s:Stmt):List Stmt:=match s with
 |.FunctionDef _ _ b _ _ _ _ _ _ _=>b
 |_=>[]
def ou(s:Stmt):cx:=match s with
 |.FunctionDef _ _ _ _ _ _ sc _ _ _=>sc
 |_=>{ kind:=.function,names:=[],isGenerator:=false,isCoroutine:=false }
abbrev CX0:CXT:=λ_ _ _ _ _ _=>False
abbrev E0:XK:=λ_ _ _=>False
theorem zu{X:Cx}:Passes CX0 X E0:=λ_ _ _ _ _ _ _ h=>h.elim
structure Fun(K:ao)(x qual:Str)(st:Stmt)(f:Addr)(fd:bL):Prop where
 ex:∃(oc:aa) (od:Option Addr) (kV doc pm:aa) (an:Option Addr) (cdv ct:aa) (osl:Array (Option aa)),
  fd=fK x qual (tW st) (oY st) (ou st) .none kV doc pm an cdv ct/\K.lookup f=some ⟨oc,od,.func fd,osl⟩/\W.codeIn K cdv qual=true
 kp:eM K (.ref f)=true
variable{qual:Str}{st:Stmt}{ps:aG}
section
variable{P:aA}{w:av}{K:ao}{mg:Str->Option aa}{base:Heap}
theorem Fun.ok{x:Str}{f:Addr}{N:aG}{k:Nat}(F:Fun K x qual st f fd)(S:pV N ps (ou st))(len:∀vs H Q E,sp vs H Q E->vs.length=ps.length)
  (hbody:∀(cdv:aa) (A:aE) (outer:List Env) (s:ae) (H:Hp) (vs:bp) (Q:VK) (E:XK),qa k (A.deeper (envOfC qual (ou st) s.heap.objs.size f cdv))->sp vs H Q E->
   ∃t,PSs (Ed CX0 P w K mg base N qual (ou st) f cdv A outer s H E).nox (oY st) t/\t { nx:=λ_ H'=>Q .non H',rt:=Q } (start N vs) H):sF P w K mg base CX0 (k+1) f fd ps sp:=by
 obtain⟨oc,od,kV,doc,pm,an,cdv,ct,osl,rfl,lk,hcd⟩:=F.ex;refine Pe lk hcd S len λA outer s H vs Q E hr hsp=>?_;obtain⟨t,h,q⟩:=hbody cdv A outer s H vs Q E hr hsp;exact⟨t,h.nox,q⟩
theorem Fun.binds{x:Str}{f:Addr}(F:Fun K x qual st f fd)
  (h:∀(kV doc pm:aa) (an:Option Addr) (cdv ct:aa) (us:List aa),us.length=ps.length->bindArgs (fK x qual (tW st) (oY st) (ou st) .none kV doc pm an cdv ct) ⟨us,[]⟩=pure (ps.zip us)):Binds K fd ps []:=by
 obtain⟨oc,od,kV,doc,pm,an,cdv,ct,osl,rfl,lk,hcd⟩:=F.ex;exact .all (h kV doc pm an cdv ct)
end
theorem Kb{A:aE}{k:Nat}(hr:qa k A):A.units+1<cLine:=jH (Nat.add_le_add_left (by decide:1<=64) _) hr.units
theorem wI{n:Nat}(h:n<=1000):n<sizeLine:=jH h (by decide)
section
variable{X:Cx}
theorem pv(i:Nat){x:Str}{pos:Pos}(hN:X.N[i]?=some x:=by rfl)(hv:Vis X.env.scope x:=by first|exact Or.inl rfl|exact Or.inr (Or.inl rfl)|exact Or.inr (Or.inr rfl))(hd:(x==("__debug__" : Str))=false:=by decide)
  (hcd:(x==("__classdict__" : Str))=false:=by decide):PE X (.Name x pos) (uE i):=PK hN hv hd hcd
end
variable{B:Prop}
theorem Ek{A:Prop}(h:B):if false=true then A else B:=by rw[aj bj];exact h
theorem El{A:Prop}(h:A):if true=true then A else B:=by rw[ai rfl];exact h
def oj(H H':Hp):Prop:=∀b o,H b=some o->H' b=some o
theorem oj.refl(H:Hp):oj H H:=λ_ _ h=>h
theorem oj.trans{H H1 H2:Hp}(a:oj H H1)(b:oj H1 H2):oj H H2:=λc o h=>b c o (a c o h)
theorem oj.seq{K:ao}{H H':Hp}{xs:bp}(e:oj H H')(h:SqL K H a xs):SqL K H' a xs:=by
 rcases h with (h|⟨o,h⟩)|h
 ·exact .inl (.inl (e _ _ h))
 ·exact .inl (.inr ⟨o,e _ _ h⟩)
 ·exact .inr h
end L2
set_option maxHeartbeats 4000000
namespace L3
open PySem PySem.Spec PyProof.Rows L2
abbrev St:=L2.St
theorem Ay{α β:Type}{f:α->β->Sem (ForInStep β)}{g:β->α->β}:∀(l:List α) (b:β),(∀x∈l,∀c,f x c=pure (ForInStep.yield (g c x)))->(forIn l b f:Sem β)=pure (l.foldl g b)
 |[],b,_=>by simp
 |x::r,b,h=>by rw[jR,h x aS b];show (forIn r (g b x) f:Sem β)=_;rw[Ay r (g b x) λy hy c=>h y (ba _ hy) c];rfl
def vK(cells:List (Str×Addr))(cs:List (Str×Addr))(x:Str×cU):List (Str×Addr):=if (x.2==NameKind.free)=true then (x.1,(cells.lookup x.1).getD 0)::cs else cs
def sL(cells:List (Str×Addr))(names:List (Str×cU)):List (Str×Addr):=names.foldl (vK cells) []
variable{scope:cx}{env:Env}
theorem BM(h:∀x∈scope.names,x.2=.free->∃c,env.cells.lookup x.1=some c):
  closureFor scope env=pure (sL env.cells scope.names):=by
 simp only[closureFor];rw[Ay (g:=vK env.cells) scope.names [] λx hx c=>by
  obtain⟨n,k⟩:=x;by_cases hk:k=.free
  ·subst hk;obtain⟨a,e⟩:=h _ hx rfl;have e':env.cells.lookup n=some a:=e;simp only[vK,cellOf,e',beq_self_eq_true,if_true,jO];rfl
  ·have hb:(k==NameKind.free)=false:=by simpa using hk
   simp only[vK,hb,fm,if_false]]
 rfl
theorem Em{cells:List (Str×Addr)}:∀(names:List (Str×cU)) (acc:List (Str×Addr)),(∀x∈names,x.2=.free->∃c,cells.lookup x.1=some c)->(∀x c,acc.lookup x=some c->cells.lookup x=some c)->
  ∀x c,(names.foldl (vK cells) acc).lookup x=some c->cells.lookup x=some c
 |[],acc,_,ha,x,c,e=>ha x c e
 |y::r,acc,h,ha,x,c,e=>by
  refine Em r (vK cells acc y) (λz hz=>h z (ba _ hz)) (λz d ez=>?_) x c e;obtain⟨n,k⟩:=y;unfold vK at ez;split at ez
  ·rename_i hk;obtain⟨a,ea⟩:=h (n,k) aS (by simpa using hk);have ea':cells.lookup n=some a:=ea;rw[dD]at ez;cases hb:z==n with
   |true=>rw[hb]at ez;have ez':some ((cells.lookup n).getD 0)=some d:=ez;rw[ea']at ez';rw[eJ hb,ea'];exact ez'
   |false=>rw[hb]at ez;exact ha z d ez
  ·exact ha z d ez
theorem Cb{cells:List (Str×Addr)}:∀(names:List (Str×cU)) (acc:List (Str×Addr)) (x:Str),(∃c,acc.lookup x=some c)->∃c,(names.foldl (vK cells) acc).lookup x=some c
 |[],_,_,h=>h
 |y::r,acc,x,h=>by
  refine Cb r (vK cells acc y) x ?_;unfold vK;split
  ·rw[dD];cases x==y.1 with
   |true=>exact⟨_,rfl⟩
   |false=>exact h
  ·exact h
theorem AA{cells:List (Str×Addr)}:∀(names:List (Str×cU)) (acc:List (Str×Addr)) (x:Str),(x,NameKind.free)∈names->∃c,(names.foldl (vK cells) acc).lookup x=some c
 |[],_,_,h=>by cases h
 |y::r,acc,x,h=>by
  rcases aP.mp h with e|h
  ·subst e;refine Cb r _ x ?_;unfold vK;rw[ai (by simp),dD];simp
  ·exact AA r _ x h
theorem u6{env:Env}(x:Str):∀(names:List (Str×cU)),
  (names.map λ(n,k)=>if (k==NameKind.free&&env.scope.kind==.function&&env.kindOf n==some .cell)then (n,NameKind.cell)else (n,k)).lookup x=
   (names.lookup x).map λk=>if (k==NameKind.free&&env.scope.kind==.function&&env.kindOf x==some .cell)=true then NameKind.cell else k
 |[]=>rfl
 |(n,k)::r=>by
  have ih:=u6 (env:=env) x r;rw[ar,dD (k:=n)];show cH x ((if (k==NameKind.free&&env.scope.kind==.function&&env.kindOf n==some .cell)=true then (n,NameKind.cell)else (n,k))::_)=_;cases hx:x==n with
  |true=>
   have e:=eJ hx;subst e;split
   ·rename_i hc;simp only[dD,hx,eA,hc,if_true]
   ·rename_i hc;simp only[dD,hx,eA];rw[aj hc]
  |false=>
   rw[<-ih];split
   ·simp only[dD,hx]
   ·simp only[dD,hx]
theorem FW{x:Str}(hcell:∀y∈scope.names,y.2≠.cell)(h:(relabel scope env).names.lookup x=some .cell\/(relabel scope env).names.lookup x=some .free):(x,NameKind.free)∈scope.names:=by
 have e:=u6 (env:=env) x scope.names;have h':(scope.names.lookup x).map (λk=>if (k==NameKind.free&&env.scope.kind==.function&&env.kindOf x==some .cell)=true then NameKind.cell else k)=some .cell\/
   (scope.names.lookup x).map (λk=>if (k==NameKind.free&&env.scope.kind==.function&&env.kindOf x==some .cell)=true then NameKind.cell else k)=some .free:=by
  rw[<-e];exact h
 cases q:scope.names.lookup x with
 |none=>rw[q]at h';rcases h' with z|z<;>cases z
 |some k=>
  rw[q]at h';have hm:=mem_of_lookup q;have hc:=hcell _ hm;cases k with
  |free=>exact hm
  |cell=>exact aq rfl hc
  |_=>rcases h' with z|z<;>cases z
theorem BN{x:Str}(h:scope.names.lookup x=some .free):(relabel scope env).names.lookup x=some .cell\/(relabel scope env).names.lookup x=some .free:=by
 have e:=u6 (env:=env) x scope.names;have e':(relabel scope env).names.lookup x=(scope.names.lookup x).map λk=>if (k==NameKind.free&&env.scope.kind==.function&&env.kindOf x==some .cell)=true then NameKind.cell else k:=e
 rw[e',h,eA];split
 ·exact .inl rfl
 ·exact .inr rfl
def pY(X:Cx)(N':aG)(scope:cx)(cl:List (Str×Addr))(C:Addr)(fp:List Addr)(s:ae)(H:Hp):Cx:=
 { X with N:=N',s₀:=s,H₀:=H,env:=compEnvC scope cl C X.env,outer:=X.stack,ex:=fp,fn:=λ_=>false,pn:=[],xe:=λ_ _=>False }
def PIf(X:Cx)(ifs:List Expr)(t:TT):Prop:=
 ∀(pins:bY) (s:ae) (σ:St) (H:Hp) (Q:Bool->Hp->Prop),Inv X pins σ H s->t σ H Q->
  wpAny (model X.prog X.w) X.A (forIn ifs true λc r=>if r=true then do let ok<-isTrue c X.env (eval c X.env);pure (ForInStep.yield ok)else pure (ForInStep.yield r)) (TP X pins σ Q) X.xe s
def VD:TT:=λ_ H Q=>Q true H
variable{X:Cx}
theorem Nd:PIf X [] VD:=λ_ _ _ H _ I h=>wpAny_tests_nil ⟨H,I,h⟩
theorem Nf{c:Expr}{t:TT}(h:PT X c t):PIf X [c] t:=λpins s σ H Q I hq=>wpAny_tests_one (h pins s σ H Q I hq)
variable{elt iter:Expr}{ifs:List Expr}{pos:Pos}
section
variable{prog:aA}{w:av}{A:aE}{R:dP->ae->Prop}{s:ae}
theorem Dt{target:Expr}{it acc:aa}(J:Nat->ae->Prop)
  (turn:∀n s,J n s->wpAny (model prog w) A (pyNext it) (λr s₁=>match r with
   |none=>R (.ok .next) s₁
   |some v=>wpAny (model prog w) A (letOwnedTupleGo target it v) (λ_ s₁'=>wpAny (model prog w) A (assign target env v) (λ_ s₂=>
     wpAny (model prog w) A (forIn ifs true λc r=>if r=true then do let ok<-isTrue c env (eval c env);pure (ForInStep.yield ok)else pure (ForInStep.yield r)) (λok s₃=>
      if ok=true then wpAny (model prog w) A (eval elt env) (λx s₄=>
       wpAny (model prog w) A (call (.builtin "list.append") [acc,x]) (λ_ s₅=>∃m,m<n/\J m s₅) (notedBy (model prog w) A env λe s'=>R (.error e) s') s₄) (notedBy (model prog w) A env λe s'=>R (.error e) s') s₃
      else ∃m,m<n/\J m s₃) (notedBy (model prog w) A env λe s'=>R (.error e) s') s₂) (notedBy (model prog w) A env λe s'=>R (.error e) s') s₁')
      (notedBy (model prog w) A env λe s'=>R (.error e) s') s₁) (notedBy (model prog w) A env λe s'=>R (.error e) s') s)
  (n:Nat) (h:J n s):
  codeAny (model prog w) A (.compLoop (.ListComp elt [⟨target,iter,ifs,0⟩] scope pos) 0 it acc env) R s:=by
 refine codeAny_loop rfl J (λn s hI=>?_) n h;show wpAny _ A ((compTurn (.ListComp elt [⟨target,iter,ifs,0⟩] scope pos) 0 it acc env).onRaise (λx=>do noteFrame x env;theTreesLotGoes x)) _ _ s;refine wpAny_noted ?_;rw[compTurn_list];refine ag (wpAny_standAt (ag (bT (turn n s hI) (λr s₁ h₁=>?_) λ_ _ h'=>h')));cases r with
 |none=>exact au h₁
 |some v=>
  refine ag (bT h₁ (λ_ s₁' h₁'=>?_) λ_ _ h'=>h');refine ag (bT h₁' (λ_ s₂ h₂=>ag (bT h₂ (λok s₃ h₃=>?_) λ_ _ h'=>h')) λ_ _ h'=>h');cases ok with
  |false=>exact au ⟨rfl,h₃⟩
  |true=>exact ag (ag (bT h₃ (λx s₄ h₄=>ag (bT h₄ (λ_ s₅ h₅=>au (au ⟨rfl,h₅⟩)) λ_ _ h'=>h')) λ_ _ h'=>h'))
end
def rJ(k:Nat)(cap:List Nat)(σ:St):St:=f9 k none++cap.map λj=>(σ[j]?).join
variable{σ:St}{i:Nat}
theorem Cc{k:Nat}{cap:List Nat}{v:V}(h:(rJ k cap σ)[i]?=some (some v)):k<=i:=by
 by_cases hi:k<=i
 ·exact hi
 ·unfold rJ at h;rw[c8 (by rw[cf];omega),fO]at h;split at h<;>cases h
variable{N N':aG}
theorem IB{k:Nat}{cap:List Nat}{v:V}{x:Str}(hcap:(N'.drop k).map some=cap.map λj=>N[j]?)(hx:N'[i]?=some x)(h:(rJ k cap σ)[i]?=some (some v)):
  ∃j:Nat,N[j]?=some x/\σ[j]?=some (some v)/\x∈N'.drop k:=by
 have hi:=Cc h;unfold rJ at h;rw[c7 (by rw[cf];exact hi),cf,bt]at h;have hd:(N'.drop k)[i - k]?=some x:=by rw[dv,show k+(i - k)=i by omega];exact hx
 have e:=aQ (λl=>l[i - k]?) hcap;simp only[bt,hd,eA]at e;cases q:cap[i - k]? with
 |none=>rw[q]at h;cases h
 |some j=>
  rw[q]at h e;simp only[eA,Option.some.injEq]at h e;refine⟨j,e.symm,?_,cu hd⟩;cases z:σ[j]? with
  |none=>rw[z]at h;cases h
  |some o=>rw[z]at h;have h':o=some v:=h;rw[h']
def AB(wi:TI)(g:TG)(tt:TT)(te:TE)(k:Nat)(cap:List Nat):TE:=λσ H Q=>wi σ H λJ H1=>∀p,H1 p=none->
 ∃W:Nat->Nat->bp->Hp->Prop,(∃m,W 0 m [] (upd H1 p (.lst [])))/\∀i m acc H2,W i m acc H2->
  (J.stop i H2/\Q (.ref p) H2)\/
   (J.go i H2/\∀x H3,J.yld i H2 x H3->g x (rJ k cap σ) H3 λσ4 H4=>σ4.drop k=(rJ k cap σ).drop k/\tt σ4 H4 λb H5=>
    if b=true then te σ4 H5 λy H6=>∃acc',H6 p=some (.lst acc')/\acc'.length<sizeLine/\∃m',m'<m/\W (i+1) m' (acc'++[y]) (upd H6 p (.lst (acc'++[y])))
    else ∃m',m'<m/\W (i+1) m' acc H5)
variable{tg:Expr}{wi:TI}{tt:TT}{te:TE}
theorem Cd{pins:bY}{s:ae}{H:Hp}{use:Option (aa->Sem Unit)}{P:aa->ae->Prop}{Q:V->Hp->Prop}{k:Nat}{cap:List Nat}{g:TG}
  (hc:X.calm=true) (hi:PI X tg iter wi)
  (body:∀(cl:List (Str×Addr)) (C:Addr) (fp:List Addr) (s:ae) (H:Hp),PG (pY X N' scope cl C fp s H) tg g/\PIf (pY X N' scope cl C fp s H) ifs tt/\PE (pY X N' scope cl C fp s H) elt te)
  (hkind:scope.kind=.function) (hcell:(scope.names.all λy=>y.2 != .cell)=true)
  (hloc:(scope.names.all λy=>y.2 != .local||scope.names.lookup y.1==some .local)=true)
  (hfree:(scope.names.all λy=>y.2 != .free||(X.env.kindOf y.1==some .cell||X.env.kindOf y.1==some .free))=true)
  (hlen:N'.length=k+cap.length) (hcap:(N'.drop k).map some=cap.map λj=>X.N[j]?)
  (hcf:((N'.drop k).all λx=>scope.names.lookup x==some .free)=true)
  (hs:∀x,foldedSetIterable iter X.env x=pure x)
  (I:Inv X pins σ H s) (h:AB wi g tt te k cap σ H Q)
  (fin:∀a C m u s4 H3,s4.heap.Ns C m->Inv X pins σ H3 s4->BJ X pins H3 C->Q (.ref a) H3->compPost (model X.prog X.w) X.A X.xe use P (.ref a) C (.ok u) s4):
  wpAny (model X.prog X.w) X.A (comprehension (.ListComp elt [⟨tg,iter,ifs,0⟩] scope pos) scope X.env (firstIterPos [⟨tg,iter,ifs,0⟩] pos) (newList []) false (eval iter X.env) use) P X.xe s:=by
 have hcell':∀y∈scope.names,y.2≠.cell:=λy hy e=>by have z:=bB.mp hcell y hy;rw[e]at z;exact aq z (by decide)
 have hloc':∀y∈scope.names,y.2=.local->scope.names.lookup y.1=some .local:=λy hy e=>by have z:=bB.mp hloc y hy;rw[e]at z;simpa using z
 have hfree':∀y∈scope.names,y.2=.free->X.env.kindOf y.1=some .cell\/X.env.kindOf y.1=some .free:=λy hy e=>by have z:=bB.mp hfree y hy;rw[e]at z;simpa using z
 have hcl:∀y∈scope.names,y.2=.free->∃c,X.env.cells.lookup y.1=some c:=λy hy e=>I.ok.has y.1 (hfree' y hy e);refine wpAny_comprehension_free rfl hs (BM hcl) hkind hloc' (thn (hi pins s σ H _ I h) λxv s₁ h₁=>thn h₁ λit s₂ h₂=>?_);obtain⟨ita,fp,tn,J,H2,e,I2,T,st2,f2,R2⟩:=h₂;subst e;obtain⟨W,⟨m0,w0⟩,turn⟩:=R2 s₂.heap.objs.size (I2.hok.fresh (az _));refine dZ (wpAny_newFunctionEnv hcell' (by intro y hy;simp at hy) (λh₁ hns₁ hsb₁=>?_) hkind);dsimp only at hns₁ hsb₁ ⊢;generalize hp:s₂.heap.push { cls:=.type "list", dict:=none,data:=.seq ([]:List aa).toArray }=hpL at hns₁ hsb₁ ⊢;have hsz:hpL.objs.size=s₂.heap.objs.size+1:=by rw[<-hp,cF]
 have I3:Inv X pins σ (upd H2 s₂.heap.objs.size (.lst [])) { s₂ with heap:=hpL }:=by rw[<-hp];exact I2.laid (t':=s₂.toks) (λb u e=>aH _ e) (az _) ⟨bW _,[],0,.nil,bq _ rfl⟩
 have old:∀b o,hpL.get? b=some o->h₁.get? b=some o:=λb o e=>hsb₁.extBut b o (bf (aM e)) (aH _ e);have older:∀b o,s₂.heap.get? b=some o->hpL.get? b=some o:=λb o e=>by rw[<-hp];exact aH _ e
 have hfpS:∀b∈fp,b<s₂.heap.objs.size:=λb hb=>let ⟨o,e,_⟩:=T.obj _ _ st2 b hb;aM e;have sub:∀x c,(sL X.env.cells scope.names).lookup x=some c->X.env.cells.lookup x=some c:=Em scope.names [] hcl (λx c e=>by cases e);have ok':(pY X N' scope (sL X.env.cells scope.names) hpL.objs.size fp { s₂ with heap:=hpL } (upd H2 s₂.heap.objs.size (.lst []))).Ok:={
  mod:=I3.ok.mod
  kind:=hkind
  glob:=I3.ok.glob
  blt:=I3.ok.blt
  above:=az _
  inj:=λx y c h1 h2=>I3.ok.inj x y c (sub x c h1) (sub y c h2)
  has:=λx hx=>AA scope.names [] x (FW hcell' hx)
  cab:=λx c hf _=>aq (show false=true from hf) bj
  hd:=I3.ok.hd
  frames:=I3.ok.frames
  stk:=.inl rfl
  exf:=λb hb=>⟨(by
   show b≠hpL.objs.size;rw[hsz];exact bf (ee (hfpS b hb))),λx c e=>(f2 b hb).2.2.2.2.1 x c (sub x c e)⟩
  bs:=I3.bs
  bsz:=bS I3.ok.bsz I3.sz
  noex:=λb o e hb=>by
   rcases(f2 b hb).2.2.2.1 with z|z
   ·exact I3.ok.noex b o e z
   ·exact aq (bU (aM e) (bS I3.ok.bsz z)) (cG _)
  exfs:=λb hb z=>(aP.mp (I3.stkSub b z)).elim (f2 b hb).2.1 (f2 b hb).2.2.1
  funs:=I3.stack
  frf:=I3.stkFree }
 have IX:Inv (pY X N' scope (sL X.env.cells scope.names) hpL.objs.size fp { s₂ with heap:=hpL } (upd H2 s₂.heap.objs.size (.lst []))) [] (rJ k cap σ) (upd H2 s₂.heap.objs.size (.lst []))
   { s₂ with heap:=h₁,toks:=s₂.toks+([]:List (Str×aa)).length }:={
  ok:=ok'
  os:=rfl
  bare:=I3.bare
  base:=Un.kept old
  loc:=⟨_,hns₁,λi x v e1 e2 _=>by
   obtain⟨j,hj,hσ,hm⟩:=IB hcap e1 e2;have hx:scope.names.lookup x=some .free:=by simpa using bB.mp hcf x hm
   have hk:=hfree' (x,.free) (mem_of_lookup hx) rfl;obtain⟨m,hn,hl⟩:=I3.loc;obtain⟨u,r,lk⟩:=hl j x v hj hσ (hk.elim (λz=>.inr (.inl z)) λz=>.inr (.inr z));refine⟨u,r,.inr ⟨BN hx,?_⟩⟩;rcases lk with ⟨z,_⟩|⟨_,c,e,o,ho,hd⟩
   ·rcases hk with y|y
    ·rw[y]at z;cases z
    ·rw[y]at z;cases z
   ·obtain⟨c',e'⟩:=AA (cells:=X.env.cells) scope.names [] x (mem_of_lookup hx);have ec:=sub x c' e';rw[e]at ec;have ec':c=c':=bZ ec;subst ec';exact⟨c,e',o,old _ _ ho,hd⟩⟩
  cell:=λx c e=>by obtain⟨v,o,ho,hd⟩:=I3.cell x c (sub x c e);exact⟨v,o,old _ _ ho,hd⟩
  free:=I3.hok.fresh (az _)
  freeC:=λx c e=>I3.freeC x c (sub x c e)
  pin:=λp hp=>aq (show p∈([]:bY) from hp) (by simp)
  hok:=I3.hok.kept old
  len:=by
   show (rJ k cap σ).length=N'.length;rw[hlen];unfold rJ;rw[ay,cf,ah] }
 have stat:∀{H':Hp},(∀b∈fp,H' b=none)->∀b∈fp,BJ (pY X N' scope (sL X.env.cells scope.names) hpL.objs.size fp { s₂ with heap:=hpL } (upd H2 s₂.heap.objs.size (.lst []))) [] H' b:=λhn b hb=>⟨hn b hb,(ok'.exf b hb).1,ok'.exfs b hb,.inl hb,(ok'.exf b hb).2,λp hp=>aq (show p∈([]:bY) from hp) (by simp)⟩
 have st4:tn 0 h₁:=T.keep _ _ _ st2 λb _ o e=>old b o (older b o e);have loop:codeAny (model X.prog X.w) X.A (.compLoop (.ListComp elt [⟨tg,iter,ifs,0⟩] scope pos) 0 (.ref ita) (.ref s₂.heap.objs.size) (compEnvC scope (sL X.env.cells scope.names) hpL.objs.size X.env))
   (compPost (model X.prog X.w) X.A X.xe use P (.ref s₂.heap.objs.size) hpL.objs.size) { s₂ with heap:=h₁,toks:=s₂.toks+([]:List (Str×aa)).length }:=by
  refine Dt (λn s'=>∃i acc H',Inv (pY X N' scope (sL X.env.cells scope.names) hpL.objs.size fp { s₂ with heap:=hpL } (upd H2 s₂.heap.objs.size (.lst []))) [] (rJ k cap σ) H' s'/\tn i s'.heap/\(∀b∈fp,H' b=none)/\W i n acc H')
   ?_ m0 ⟨0,[],_,IX,st4,λb hb=>?_,w0⟩
  ·rintro n s3 ⟨i,acc,H3,I4,st3,fr3,w3⟩;rcases turn i n acc H3 w3 with ⟨stop,qn⟩|⟨go,step⟩
   ·refine thn (T.done (pY X N' scope (sL X.env.cells scope.names) hpL.objs.size fp { s₂ with heap:=hpL } (upd H2 s₂.heap.objs.size (.lst []))) rfl rfl rfl hc i [] s3 _ H3 _ I4 (stat fr3) st3 stop) λr s4 ⟨hr,I5⟩=>?_;subst hr;obtain⟨m,hn,_⟩:=id I5.loc;have U:=I5.base;refine fin _ _ m _ _ _ hn (I3.call' (s':=s4) (ch:=fp) I5.os ⟨λb o e n hb hx=>U.keep b o e n hb hx,λb o e n hb hx=>U.slot b o e n hb hx,U.free,λb o e hx=>U.there b o e hx,U.tups,U.frzs,U.tbls⟩ I5.hok I5.bare
     λb hb=>⟨(f2 b hb).2.2.2.1,(f2 b hb).2.1,(f2 b hb).2.2.2.2.1,(f2 b hb).2.2.2.2.2⟩) (I3.fpOk (az _) I5.free) qn
   ·refine thn (T.item (pY X N' scope (sL X.env.cells scope.names) hpL.objs.size fp { s₂ with heap:=hpL } (upd H2 s₂.heap.objs.size (.lst []))) rfl rfl rfl hc i [] s3 _ H3 _ I4 (stat fr3) st3 go) λr s4 ⟨u,hr,h4⟩=>?_;subst hr;refine thn h4 λ_ s5 ⟨x,H5,I5,r5,y5,st5,fr5⟩=>?_;have I5':=I5.pinned (stat fr5) (T.obj _ _ st5);have again:∀{H8:Hp} {s8:ae} {σ8:St} {acc8:bp} {m':Nat},Inv (pY X N' scope (sL X.env.cells scope.names) hpL.objs.size fp { s₂ with heap:=hpL } (upd H2 s₂.heap.objs.size (.lst []))) ([]++Am fp s5.heap) σ8 H8 s8->σ8.drop k=(rJ k cap σ).drop k->m'<n->W (i+1) m' acc8 H8->
      ∃m,m<n/\∃i acc H',Inv (pY X N' scope (sL X.env.cells scope.names) hpL.objs.size fp { s₂ with heap:=hpL } (upd H2 s₂.heap.objs.size (.lst []))) [] (rJ k cap σ) H' s8/\tn i s8.heap/\(∀b∈fp,H' b=none)/\W i m acc H':=λ{H8 s8 σ8 acc8 m'} I8 hd8 hm8 w8=>by
     refine⟨m',hm8,i+1,acc8,H8,I8.unpinned.weak (IX.len.trans I8.len.symm) (λj v e=>?_),T.keep _ _ _ st5 λb hb o e=>(I8.pin (b,o) (bD _ (bD _ (tu hb e)))).1,λb hb=>?_,w8⟩
     ·have hj:=Cc e;have q:(σ8.drop k)[j - k]?=((rJ k cap σ).drop k)[j - k]?:=by rw[hd8]
      rw[dv,dv,show k+(j - k)=j by omega]at q;rw[q];exact e
     ·obtain⟨o,e,d⟩:=T.obj _ _ st5 b hb;exact(I8.pin (b,o) (bD _ (bD _ (tu hb e)))).2.1
    refine bT ((body _ _ _ _ _).1 _ s5 _ H5 x u _ I5' r5 (step x H5 y5)) (λ_ s6 h6=>?_) λ_ _ f=>f.elim;obtain⟨σ6,H6,I6,hd6,q6⟩:=h6;refine bT ((body _ _ _ _ _).2.1 _ s6 σ6 H6 _ I6 q6) (λb s7 h7=>?_) λ_ _ f=>f.elim;obtain⟨H7,I7,q7⟩:=h7;cases b with
    |false=>rw[aj bj]at q7;rw[aj bj];obtain⟨m',hm',w7⟩:=q7;exact again I7 hd6 hm' w7
    |true=>rw[ai rfl]at q7;rw[ai rfl];refine bT ((body _ _ _ _ _).2.2 _ s7 σ6 H7 _ I7 q7) (λyv s8 h8=>?_) λ_ _ f=>f.elim;obtain⟨y,H8,I8,r8,acc',hp8,hl8,m',hm',w8⟩:=h8;refine bT (yK (X:=pY X N' scope (sL X.env.cells scope.names) hpL.objs.size fp { s₂ with heap:=hpL } (upd H2 s₂.heap.objs.size (.lst []))) _ s8 σ6 H8 (.ref s₂.heap.objs.size) [y] (.ref s₂.heap.objs.size) [yv] (λ_ Hx=>Hx=upd H8 s₂.heap.objs.size (.lst (acc'++[y]))) I8 rfl (.cons r8 .nil) ⟨_,acc',y,rfl,rfl,hp8,hl8,rfl⟩) (λ_ s9 h9=>?_) λ_ _ f=>f.elim;obtain⟨_,H9,I9,_,e9⟩:=h9;subst e9;exact again I9 hd6 hm' w8
  ·have z:b≠s₂.heap.objs.size:=bf (hfpS b hb);rw[og z];exact(f2 b hb).1
 exact codeAny_compStart_list loop (T.self _ 0 _ _ _ st4 loop)
theorem Ng{k:Nat}{cap:List Nat}{g:TG}
  (hc:X.calm=true) (hi:PI X tg iter wi)
  (body:∀(cl:List (Str×Addr)) (C:Addr) (fp:List Addr) (s:ae) (H:Hp),PG (pY X N' scope cl C fp s H) tg g/\PIf (pY X N' scope cl C fp s H) ifs tt/\PE (pY X N' scope cl C fp s H) elt te)
  (hkind:scope.kind=.function:=by rfl) (hcell:(scope.names.all λy=>y.2 != .cell)=true:=by rfl)
  (hloc:(scope.names.all λy=>y.2 != .local||scope.names.lookup y.1==some .local)=true:=by rfl)
  (hfree:(scope.names.all λy=>y.2 != .free||(X.env.kindOf y.1==some .cell||X.env.kindOf y.1==some .free))=true:=by rfl)
  (hlen:N'.length=k+cap.length:=by rfl) (hcap:(N'.drop k).map some=cap.map λj=>X.N[j]?:=by rfl)
  (hcf:((N'.drop k).all λx=>scope.names.lookup x==some .free)=true:=by rfl)
  (hs:∀x,foldedSetIterable iter X.env x=pure x:=by intro _;rfl):
  PE X (.ListComp elt [⟨tg,iter,ifs,0⟩] scope pos) (AB wi g tt te k cap):=by
 intro pins s σ H Q I h;exact Cd hc hi body hkind hcell hloc hfree hlen hcap hcf hs I h λa C m u s4 H3 hn back fpC qn=>⟨m,hn,λh' hs'=>⟨.ref a,H3,back.turned (t':=s4.toks) (λb o hb e=>(hs'.2 b hb).trans e) fpC.1 fpC.2.1 fpC.2.2.2.1 fpC.2.2.2.2.1 fpC.2.2.2.2.2,rfl,qn⟩⟩
def Its(x:Str):It:=⟨λi _=>i<x.cps.size,λi H v H'=>H'=H/\∃c,x.cps[i]?=some c/\v=.str ⟨#[c]⟩,λi _=>i=x.cps.size⟩
theorem Qv{M:Model}{A:aE}{E:aa->ae->Prop}{s:ae}{it:Addr}{c:Str}{t:Tok}{Q:Unit->ae->Prop}(hQ:Q () s):wpAny M A (letOwnedTupleGo tg (.ref it) (.str c t)) Q E s:=by unfold letOwnedTupleGo;cases tg<;>exact au hQ
theorem En{P:aA}{w:av}{K:ao}(it:Addr)(ty:String)(x:Str)(t:Tok)
  (hW:∀A:aE,A.handled=none->Walks P w A it [it] [it] x.cps.size (SignAt x) (λi h=>h.IsStrIter it ty x t i))
  (hS:∀(A:aE) (i:Nat) (s:ae) (Q:aa->ae->Prop) (E:aa->ae->Prop),s.heap.IsStrIter it ty x t i->Q (.ref it) s->wpAny (model P w) A (pyIter (.ref it)) Q E s):
  Turn P w K tg (Its x) [it] it (λi h=>h.IsStrIter it ty x t i) where
 mem:=by simp
 obj:=λi h st b hb=>by
  have e:b=it:=by simpa using hb
  subst e;obtain⟨o,e,c,d⟩:=st;exact⟨o,e,λv z=>by rw[d]at z;cases z⟩
 keep:=λi h h' st k=>by obtain⟨o,e,r⟩:=st;exact⟨o,k it (by simp) o e,r⟩
 item:=by intro X hP hw hK hc i pins s σ H E I hf st hg;subst hP hw hK;obtain⟨f0,f1,f2,f3,f4,f5⟩:=hf it (by simp);refine(hW _ (I.ok.hd hc)).item i s _ _ hg st λv h' tk hv st' kk=>?_;obtain⟨c,t',hc',rfl⟩:=hv;have I1:Inv X pins σ H { s with heap:=h',toks:=tk }:=I.turned (λb o hb e=>kk b o (by simpa using hb) e) f0 f1 f3 f4 f5;exact⟨_,rfl,Qv ⟨.str ⟨#[c]⟩,H,I1,⟨t',rfl⟩,⟨rfl,c,hc',rfl⟩,st',λb hb=>(hf b hb).1⟩⟩
 done:=by intro X hP hw hK hc i pins s σ H E I hf st hg;subst hP hw hK;obtain⟨f0,f1,f2,f3,f4,f5⟩:=hf it (by simp);have hg':i=x.cps.size:=hg;subst hg';exact(hW _ (I.ok.hd hc)).done s _ _ st λh' tk kk=>⟨rfl,I.turned (λb o hb e=>kk b o (by simpa using hb) e) f0 f1 f3 f4 f5⟩
 self:=hS
variable{tl:TE}
section
variable{X:Cx}{tg:Expr}
def Uv(tl:TE):TI:=λσ H R=>tl σ H λv H1=>∃x,v=.str x/\R (Its x) H1
theorem Qw{l:Expr}(hl:PE X l tl):PI X tg l (Uv tl):=by
 intro pins s σ H R I h;refine thn (hl pins s σ H _ I h) λv s1 ⟨x,H1,I1,r1,q1⟩=>?_;obtain⟨z,e,q⟩:=q1;subst e;obtain⟨t,rfl⟩:=r1;have fp:∀b∈[s1.heap.objs.size],BJ X pins H1 b:=λb hb=>by
  have e:b=s1.heap.objs.size:=by simpa using hb
  subst e;exact I1.fpOk (az _) (I1.hok.fresh (az _))
 cases ha:z.cps.all (· < 128)
 ·refine wpAny_pyIter_wide ha ⟨s1.heap.objs.size,[s1.heap.objs.size],_,_,H1,rfl,I1.kept (t':=s1.toks) λb o e=>aH _ e,En _ "str_iterator" z t (λA hA=>Walks.strWide hA _ z t) (λA i s Q E st hQ=>wpAny_pyIter_striter_wide st hQ),⟨_,bq _ rfl,rfl,rfl⟩,fp,q⟩
 ·refine wpAny_pyIter_ascii ha ⟨s1.heap.objs.size,[s1.heap.objs.size],_,_,H1,rfl,I1.kept (t':=s1.toks) λb o e=>aH _ e,En _ "str_ascii_iterator" z t (λA hA=>Walks.strAscii hA _ z t) (λA i s Q E st hQ=>wpAny_pyIter_striter_ascii st hQ),⟨_,bq _ rfl,rfl,rfl⟩,fp,q⟩
end
section
variable{X:Cx}
theorem IC:OpR X (compareOp .LtE) (λx y H Q=>∃i j,x=.str i/\y=.str j/\Q (.bl (!decide (j.cps.toList<i.cps.toList))) H):=by intro pins s σ H x y v u Q I rx ry h;obtain⟨i,j,rfl,rfl,q⟩:=h;obtain⟨t,rfl⟩:=rx;obtain⟨t',rfl⟩:=ry;exact PySem.P.le_str (oR I q rfl)
theorem Eo:OpR X (compareOp .IsNot) (λx y H Q=>∃i j,x=.bl i/\y=.bl j/\Q (.bl (i != j)) H):=by intro pins s σ H x y v u Q I rx ry h;obtain⟨i,j,rfl,rfl,q⟩:=h;cases rx;cases ry;exact isnot_bool (oR I q rfl)
theorem Kc(hc:X.calm=true):p9 X (.builtin "all") (λxs H Q=>∃(p:Addr) (bs:List Bool),xs=[.ref p]/\SqL X.K H p (bs.map V.bl)/\Q (.bl (bs.all id)) H):=by
 intro pins s σ H xs us Q I r h;obtain⟨p,bs,rfl,hq,q⟩:=h;obtain⟨u,rfl,ru⟩:=vals1 r;cases ru;obtain⟨its,rv,pl,hz⟩:=I.list hq;have hlt:p<s.heap.objs.size:=by obtain⟨o,ho,_⟩:=pl.isList;exact aM ho
 have hl:bs.length=its.length:=by have:=rv.length;rw[ah]at this;exact this
 refine call_all_walk (fo pl.isList ⟨s.heap.objs.size,_,_,_,_,_,λi=>(bs[i]?).getD true,rfl,iU (show X.A.in1.handled=none from I.ok.hd hc) _ p (bf hlt) its.toArray,⟨⟨_,bq _ rfl,rfl,rfl⟩,?_⟩,?_,λh' tk hk=>?_⟩)
 ·exact pl.isList.at λo e=>aH _ e
 ·intro i v s' Q' E' hv hQ';have hv':its[i]?=some v:=by simpa using hv
  have hi:i<its.length:=(bP.mp hv').1;have hb:(bs.map V.bl)[i]?=some (.bl (bs[i]'(by omega))):=by simp[show i<bs.length by omega]
  obtain⟨u,hu,ru⟩:=rv.get hb;rw[hv']at hu;cases hu;cases ru;refine cO ?_;have e:(bs[i]?).getD true=bs[i]'(by omega):=by simp[show i<bs.length by omega]
  rw[<-e];exact hQ'
 ·refine⟨.bl (bs.all id),H,?_,?_,q⟩
  ·exact I.kept (t':=tk) λb o e=>hk b o (by simp;exact bf (aM e)) (aH _ e)
  ·show Value.bool _=Value.bool _;congr 1;rw[aT,<- hl];rw[de];simp only[bB,cm,id];constructor
   ·intro hh b hb;obtain⟨i,hi,rfl⟩:=ib.mp hb;have:=hh i hi;simpa [hi]using this
   ·intro hh i hi;simp only[aI hi,jO];exact hh _ (cj hi)
end
inductive Dq where
 |non|bl (b:Bool)|int (i:Int)|str (x:Str)|tup (ds:List Dq)|lst (ds:List Dq)
mutual
def Rep(K:ao)(H:Hp):Dq->V->Prop
 |.non,v=>v=.non
 |.bl b,v=>v=.bl b
 |.int i,v=>v=.int i
 |.str x,v=>v=.str x
 |.tup ds,v=>∃a xs,v=.ref a/\SqT K H a xs/\nZ K H ds xs
 |.lst ds,v=>∃a xs,v=.ref a/\SqL K H a xs/\nZ K H ds xs
def nZ(K:ao)(H:Hp):List Dq->bp->Prop
 |[],xs=>xs=[]
 |d::ds,xs=>∃v r,xs=v::r/\Rep K H d v/\nZ K H ds r
end
mutual
def eqD:Dq->Dq->Bool
 |.non,.non=>true
 |.bl a,.bl b=>a==b
 |.bl a,.int b=>(if a then 1 else 0)==b
 |.int a,.bl b=>a==(if b then 1 else 0)
 |.int a,.int b=>a==b
 |.str a,.str b=>a==b
 |.tup a,.tup b=>sM a b
 |.lst a,.lst b=>sM a b
 |_,_=>false
def sM:List Dq->List Dq->Bool
 |[],[]=>true
 |a::r,b::q=>eqD a b&&sM r q
 |_,_=>false
end
mutual
def dpt:Dq->Nat
 |.tup ds=>qk ds+1
 |.lst ds=>qk ds+1
 |_=>0
def qk:List Dq->Nat
 |[]=>0
 |d::r=>max (dpt d) (qk r)
end
mutual
theorem Ke:∀d:Dq,eqD d d=true
 |.non=>by unfold eqD;rfl
 |.bl b=>by unfold eqD;simp
 |.int i=>by unfold eqD;simp
 |.str x=>by unfold eqD;simp
 |.tup ds=>by unfold eqD;exact yL ds
 |.lst ds=>by unfold eqD;exact yL ds
theorem yL:∀ds:List Dq,sM ds ds=true
 |[]=>by unfold sM;rfl
 |d::r=>by unfold sM;rw[Ke d,yL r];rfl
end
theorem n8{K:ao}{H:Hp}:∀{ds:List Dq} {xs:bp},nZ K H ds xs->ds.length=xs.length
 |[],xs,h=>by unfold nZ at h;subst h;rfl
 |d::ds,xs,h=>by unfold nZ at h;obtain⟨v,r,rfl,_,h2⟩:=h;rw[aF,aF,n8 h2]
def eAt(ds ds':List Dq)(j:Nat):Bool:=match ds[j]?,ds'[j]? with
 |some a,some b=>eqD a b
 |_,_=>true
theorem AC:∀(ds ds':List Dq),sM ds ds'=true ↔ ds.length=ds'.length/\∀j,j<ds.length->eAt ds ds' j=true
 |[],[]=>by simp[sM]
 |[],b::q=>by simp[sM]
 |a::r,[]=>by simp[sM]
 |a::r,b::q=>by
  have ih:=AC r q;unfold sM;rw[bo,ih,aF,aF];constructor
  ·rintro⟨h1,h2,h3⟩;refine⟨by omega,λj hj=>?_⟩;cases j with
   |zero=>exact h1
   |succ j=>exact h3 j (by omega)
  ·rintro⟨h1,h2⟩;exact⟨h2 0 (by omega),by omega,λj hj=>h2 (j+1) (by omega)⟩
variable{ds ds':List Dq}
theorem u7{n m:Nat}(hn:ds.length=n)(hm:ds'.length=m):((bg (min n m)).all (eAt ds ds')&&n==m)=sM ds ds':=by
 rw[de,AC,bo,bB];subst hn hm;constructor
 ·rintro⟨h1,h2⟩;have e:ds.length=ds'.length:=by simpa using h2
  exact⟨e,λj hj=>h1 j (cm.mpr (by omega))⟩
 ·rintro⟨e,h⟩;exact⟨λj hj=>h j (by have:=cm.mp hj;omega),by simpa using e⟩
theorem v3{n:Nat}(hn:ds.length=n)(hm:ds'.length=n):(bg n).all (eAt ds ds')=sM ds ds':=by rw[<-u7 hn hm];simp
theorem AD(h:ds.length≠ds'.length):sM ds ds'=false:=by
 cases e:sM ds ds' with
 |false=>rfl
 |true=>exact aq ((AC ds ds').mp e).1 h
section
variable{X:Cx}{pins:bY}{σ:St}{H:Hp}{s:ae}
theorem Pi(I:Inv X pins σ H s){a:Addr}{xs ys:bp}(h:SqL X.K H a xs)(h':SqT X.K H a ys):False:=by obtain⟨its,_,p,_⟩:=I.list h;obtain⟨its',_,p',_⟩:=I.tuple h';exact SeqAt.ne_of_list_tuple p.isList (show s.heap.IsTuple a its'.toArray from p') rfl
mutual
theorem AE(I:Inv X pins σ H s):∀(d d':Dq) (v:V),Rep X.K H d v->Rep X.K H d' v->eqD d d'=true
 |.non,d',v,h,h'=>by unfold Rep at h;subst h;cases d'<;>unfold Rep at h'<;>first|rfl|(exact nomatch h')|(obtain⟨_,_,e,_⟩:=h';exact nomatch e)
 |.bl b,d',v,h,h'=>by unfold Rep at h;subst h;cases d'<;>unfold Rep at h'<;>first|(obtain⟨_,_,e,_⟩:=h';cases e)|(cases h'<;>simp[eqD])
 |.int b,d',v,h,h'=>by unfold Rep at h;subst h;cases d'<;>unfold Rep at h'<;>first|(obtain⟨_,_,e,_⟩:=h';cases e)|(cases h'<;>simp[eqD])
 |.str b,d',v,h,h'=>by unfold Rep at h;subst h;cases d'<;>unfold Rep at h'<;>first|(obtain⟨_,_,e,_⟩:=h';cases e)|(cases h'<;>simp[eqD])
 |.tup ds,d',v,h,h'=>by
  unfold Rep at h;obtain⟨a,xs,rfl,hq,hr⟩:=h;cases d' with
  |tup ds'=>unfold Rep at h';obtain⟨a',xs',e,hq',hr'⟩:=h';cases e;have ex:=I.tuple_inj hq hq';subst ex;unfold eqD;exact yM I ds ds' xs hr hr'
  |lst ds'=>unfold Rep at h';obtain⟨a',xs',e,hq',hr'⟩:=h';cases e;exact(Pi I hq' hq).elim
  |_=>unfold Rep at h';exact nomatch h'
 |.lst ds,d',v,h,h'=>by
  unfold Rep at h;obtain⟨a,xs,rfl,hq,hr⟩:=h;cases d' with
  |lst ds'=>unfold Rep at h';obtain⟨a',xs',e,hq',hr'⟩:=h';cases e;have ex:=I.list_inj hq hq';subst ex;unfold eqD;exact yM I ds ds' xs hr hr'
  |tup ds'=>unfold Rep at h';obtain⟨a',xs',e,hq',hr'⟩:=h';cases e;exact(Pi I hq hq').elim
  |_=>unfold Rep at h';exact nomatch h'
theorem yM(I:Inv X pins σ H s):∀(ds ds':List Dq) (xs:bp),nZ X.K H ds xs->nZ X.K H ds' xs->sM ds ds'=true
 |[],ds',xs,h,h'=>by
  unfold nZ at h;subst h;cases ds' with
  |nil=>rfl
  |cons d r=>unfold nZ at h';obtain⟨_,_,e,_⟩:=h';exact nomatch e
 |d::ds,ds',xs,h,h'=>by
  unfold nZ at h;obtain⟨v,r,rfl,h1,h2⟩:=h;cases ds' with
  |nil=>unfold nZ at h';exact nomatch h'
  |cons d' r'=>unfold nZ at h';obtain⟨v',q,e,h1',h2'⟩:=h';cases e;unfold sM;rw[AE I d d' v h1 h1',yM I ds r' r h2 h2'];rfl
end
mutual
theorem Kg(I:Inv X pins σ H s):∀(d d':Dq) (x y:V) (u v:aa) (A:aE),Rep X.K H d x->Rep X.K H d' y->RelV x u->RelV y v->A.units+dpt d+dpt d'<cLine->iQ A s u v (eqD d d')
 |.tup ds,d',x,y,u,v,A,hx,hy,ru,rv,hu=>by
  unfold Rep at hx;obtain⟨a,xs,rfl,hq,hr⟩:=hx;cases ru;obtain⟨its,rx,p,_⟩:=I.tuple hq;have p:s.heap.IsTuple a its.toArray:=p;cases d' with
  |non=>unfold Rep at hy;subst hy;cases rv;exact SeqAt.EqAt.tuple_none p (by omega)
  |bl b=>unfold Rep at hy;subst hy;cases rv;exact SeqAt.EqAt.tuple_bool b p (by omega)
  |int b=>unfold Rep at hy;subst hy;obtain⟨t,rfl⟩:=rv;exact SeqAt.EqAt.tuple_int b t p (by omega)
  |str b=>unfold Rep at hy;subst hy;obtain⟨t,rfl⟩:=rv;exact SeqAt.EqAt.tuple_str b t p (by omega)
  |lst ds'=>unfold Rep at hy;obtain⟨b,ys,rfl,hq',hr'⟩:=hy;cases rv;obtain⟨its',ry,p',_⟩:=I.list hq';exact SeqAt.EqAt.tuple_list p p'.isList (by omega)
  |tup ds'=>
   have hy0:=hy;unfold Rep at hy;obtain⟨b,ys,rfl,hq',hr'⟩:=hy;cases rv;obtain⟨its',ry,p',_⟩:=I.tuple hq';have p':s.heap.IsTuple b its'.toArray:=p';by_cases hab:a=b
   ·subst hab;have e:eqD (.tup ds) (.tup ds')=true:=AE I _ _ (.ref a) (by unfold Rep;exact⟨a,xs,rfl,hq,hr⟩) hy0;rw[e];exact f7 _
   ·have hd:dpt (.tup ds)=qk ds+1:=by rw[dpt]
    have hd':dpt (.tup ds')=qk ds'+1:=by rw[dpt]
    have q:=SeqAt.RcAt.tuples (A:=A) (e:=eAt ds ds') p p' (by omega) λj h1 h2=>by have z:=u9 I ds ds' xs ys its its' A.in1 hr hr' rx ry (by show A.units+1+qk ds+qk ds'<cLine;omega) j (by simpa using h1) (by simpa using h2);simpa using z
    rw[u7 (by rw[n8 hr,rx.length];simp) (by rw[n8 hr',ry.length];simp)]at q;exact jI hab (by unfold eqD;exact q)
 |.lst ds,d',x,y,u,v,A,hx,hy,ru,rv,hu=>by
  unfold Rep at hx;obtain⟨a,xs,rfl,hq,hr⟩:=hx;cases ru;obtain⟨its,rx,p,_⟩:=I.list hq;have p:=p.isList;cases d' with
  |non=>unfold Rep at hy;subst hy;cases rv;exact SeqAt.EqAt.list_none p (by omega)
  |bl b=>unfold Rep at hy;subst hy;cases rv;exact SeqAt.EqAt.list_bool b p (by omega)
  |int b=>unfold Rep at hy;subst hy;obtain⟨t,rfl⟩:=rv;exact SeqAt.EqAt.list_int b t p (by omega)
  |str b=>unfold Rep at hy;subst hy;obtain⟨t,rfl⟩:=rv;exact SeqAt.EqAt.list_str b t p (by omega)
  |tup ds'=>unfold Rep at hy;obtain⟨b,ys,rfl,hq',hr'⟩:=hy;cases rv;obtain⟨its',ry,p',_⟩:=I.tuple hq';exact SeqAt.EqAt.list_tuple p (show s.heap.IsTuple b its'.toArray from p') (by omega)
  |lst ds'=>
   have hy0:=hy;unfold Rep at hy;obtain⟨b,ys,rfl,hq',hr'⟩:=hy;cases rv;obtain⟨its',ry,p',_⟩:=I.list hq';have p':=p'.isList;by_cases hab:a=b
   ·subst hab;have e:eqD (.lst ds) (.lst ds')=true:=AE I _ _ (.ref a) (by unfold Rep;exact⟨a,xs,rfl,hq,hr⟩) hy0;rw[e];exact f7 _
   ·have hd:dpt (.lst ds)=qk ds+1:=by rw[dpt]
    have hd':dpt (.lst ds')=qk ds'+1:=by rw[dpt]
    by_cases hl:its.length=its'.length
    ·have q:=SeqAt.RcAt.lists (A:=A) (e:=eAt ds ds') p p' (by simpa using hl) (by omega) λj h1 h2=>by have z:=u9 I ds ds' xs ys its its' A.in1 hr hr' rx ry (by show A.units+1+qk ds+qk ds'<cLine;omega) j (by simpa using h1) (by simpa using h2);simpa using z
     rw[v3 (by rw[n8 hr,rx.length];simp) (by rw[n8 hr',ry.length,<- hl];simp)]at q;exact jI hab (by unfold eqD;exact q)
    ·have e:eqD (.lst ds) (.lst ds')=false:=by unfold eqD;exact AD (by rw[n8 hr,n8 hr',rx.length,ry.length];exact hl)
     rw[e];exact jI hab (SeqAt.RcAt.lists_lengths p p' (by simpa using hl) (by omega))
 |.non,d',x,y,u,v,A,hx,hy,ru,rv,hu=>by
  unfold Rep at hx;subst hx;cases d' with
  |tup ds'=>unfold Rep at hy;obtain⟨b,ys,rfl,hq',hr'⟩:=hy;cases rv;cases ru;obtain⟨its',ry,p',_⟩:=I.tuple hq';exact SeqAt.EqAt.none_tuple (show s.heap.IsTuple b its'.toArray from p') (by omega)
  |lst ds'=>unfold Rep at hy;obtain⟨b,ys,rfl,hq',hr'⟩:=hy;cases rv;cases ru;obtain⟨its',ry,p',_⟩:=I.list hq';exact SeqAt.EqAt.none_list p'.isList (by omega)
  |_=>unfold Rep at hy;subst hy;exact Au ru rv rfl rfl
 |.bl c,d',x,y,u,v,A,hx,hy,ru,rv,hu=>by
  unfold Rep at hx;subst hx;cases d' with
  |tup ds'=>unfold Rep at hy;obtain⟨b,ys,rfl,hq',hr'⟩:=hy;cases rv;cases ru;obtain⟨its',ry,p',_⟩:=I.tuple hq';exact SeqAt.EqAt.bool_tuple c (show s.heap.IsTuple b its'.toArray from p') (by omega)
  |lst ds'=>unfold Rep at hy;obtain⟨b,ys,rfl,hq',hr'⟩:=hy;cases rv;cases ru;obtain⟨its',ry,p',_⟩:=I.list hq';exact SeqAt.EqAt.bool_list c p'.isList (by omega)
  |_=>unfold Rep at hy;subst hy;exact Au ru rv rfl rfl
 |.int c,d',x,y,u,v,A,hx,hy,ru,rv,hu=>by
  unfold Rep at hx;subst hx;cases d' with
  |tup ds'=>unfold Rep at hy;obtain⟨b,ys,rfl,hq',hr'⟩:=hy;cases rv;obtain⟨t,rfl⟩:=ru;obtain⟨its',ry,p',_⟩:=I.tuple hq';exact SeqAt.EqAt.int_tuple c t (show s.heap.IsTuple b its'.toArray from p') (by omega)
  |lst ds'=>unfold Rep at hy;obtain⟨b,ys,rfl,hq',hr'⟩:=hy;cases rv;obtain⟨t,rfl⟩:=ru;obtain⟨its',ry,p',_⟩:=I.list hq';exact SeqAt.EqAt.int_list c t p'.isList (by omega)
  |_=>unfold Rep at hy;subst hy;exact Au ru rv rfl rfl
 |.str c,d',x,y,u,v,A,hx,hy,ru,rv,hu=>by
  unfold Rep at hx;subst hx;cases d' with
  |tup ds'=>unfold Rep at hy;obtain⟨b,ys,rfl,hq',hr'⟩:=hy;cases rv;obtain⟨t,rfl⟩:=ru;obtain⟨its',ry,p',_⟩:=I.tuple hq';exact SeqAt.EqAt.str_tuple c t (show s.heap.IsTuple b its'.toArray from p') (by omega)
  |lst ds'=>unfold Rep at hy;obtain⟨b,ys,rfl,hq',hr'⟩:=hy;cases rv;obtain⟨t,rfl⟩:=ru;obtain⟨its',ry,p',_⟩:=I.list hq';exact SeqAt.EqAt.str_list c t p'.isList (by omega)
  |_=>unfold Rep at hy;subst hy;exact Au ru rv rfl rfl
theorem u9(I:Inv X pins σ H s):∀(ds ds':List Dq) (xs ys:bp) (us vs:List aa) (A:aE),nZ X.K H ds xs->nZ X.K H ds' ys->Vals xs us->Vals ys vs->A.units+qk ds+qk ds'<cLine->
  ∀(j:Nat) (h1:j<us.length) (h2:j<vs.length),iQ A s us[j] vs[j] (eAt ds ds' j)
 |[],ds',xs,ys,us,vs,A,hx,hy,ru,rv,hu,j,h1,h2=>by
  have:=n8 hx;have:=ru.length;simp only[cQ]at *
  omega
 |d::ds,[],xs,ys,us,vs,A,hx,hy,ru,rv,hu,j,h1,h2=>by
  have:=n8 hy;have:=rv.length;simp only[cQ]at *
  omega
 |d::ds,d'::ds',xs,ys,us,vs,A,hx,hy,ru,rv,hu,j,h1,h2=>by
  unfold nZ at hx hy;obtain⟨x,xr,rfl,hx1,hx2⟩:=hx;obtain⟨y,yr,rfl,hy1,hy2⟩:=hy;have e1:qk (d::ds)=max (dpt d) (qk ds):=by rw[qk]
  have e2:qk (d'::ds')=max (dpt d') (qk ds'):=by rw[qk]
  cases ru with
  |cons r1 r2=>
   cases rv with
   |cons q1 q2=>
    cases j with
    |zero=>exact Kg I d d' x y _ _ A hx1 hy1 r1 q1 (by omega)
    |succ j=>exact u9 I ds ds' xr yr _ _ A hx2 hy2 r2 q2 (by omega) j (by simpa using h1) (by simpa using h2)
end
def G3:Dq->Dq->Bool
 |.tup _,.tup _=>true
 |.lst _,.lst _=>true
 |_,_=>false
def FX(K:ao)(neg:Bool):R2:=λx y H Q=>∃d d',Rep K H d x/\Rep K H d' y/\G3 d d'=true/\dpt d<=20/\dpt d'<=20/\Q (.bl (if neg then !eqD d d' else eqD d d')) H
theorem Qx(hu:X.A.units+64<cLine):OpR X (compareOp .Eq) (FX X.K false):=by
 intro pins s σ H x y u v Q I ru rv h;obtain⟨d,d',hx,hy,hd,h1,h2,q⟩:=h;cases d with
 |tup ds=>
  cases d' with
  |tup ds'=>
   have hd1:dpt (.tup ds)=qk ds+1:=by rw[dpt]
   have hd2:dpt (.tup ds')=qk ds'+1:=by rw[dpt]
   unfold Rep at hx hy;obtain⟨a,xs,rfl,hq,hr⟩:=hx;obtain⟨b,ys,rfl,hq',hr'⟩:=hy;cases ru;cases rv;obtain⟨its,rx,p,_⟩:=I.tuple hq;obtain⟨its',ry,p',_⟩:=I.tuple hq';refine SeqAt.eq_tupleAt (e:=eAt ds ds') (show s.heap.IsTuple a its.toArray from p) (show s.heap.IsTuple b its'.toArray from p') (by omega) (λj h1 h2=>?_) ?_
   ·have z:=u9 I ds ds' xs ys its its' X.A.in1 hr hr' rx ry (by show X.A.units+1+qk ds+qk ds'<cLine;omega) j (by simpa using h1) (by simpa using h2);simpa using z
   ·rw[u7 (by rw[n8 hr,rx.length];simp) (by rw[n8 hr',ry.length];simp)];unfold eqD at q;exact oR I q rfl
  |_=>exact nomatch hd
 |lst ds=>
  cases d' with
  |lst ds'=>
   have hd1:dpt (.lst ds)=qk ds+1:=by rw[dpt]
   have hd2:dpt (.lst ds')=qk ds'+1:=by rw[dpt]
   unfold Rep at hx hy;obtain⟨a,xs,rfl,hq,hr⟩:=hx;obtain⟨b,ys,rfl,hq',hr'⟩:=hy;cases ru;cases rv;obtain⟨its,rx,p,_⟩:=I.list hq;obtain⟨its',ry,p',_⟩:=I.list hq';by_cases hl:its.length=its'.length
   ·refine SeqAt.eq_listAt (e:=eAt ds ds') p.isList p'.isList (by simpa using hl) (by omega) (λj h1 h2=>?_) ?_
    ·have z:=u9 I ds ds' xs ys its its' X.A.in1 hr hr' rx ry (by show X.A.units+1+qk ds+qk ds'<cLine;omega) j (by simpa using h1) (by simpa using h2);simpa using z
    ·rw[v3 (by rw[n8 hr,rx.length];simp) (by rw[n8 hr',ry.length,<- hl];simp)];unfold eqD at q;exact oR I q rfl
   ·refine SeqAt.eq_list_lengthsAt p.isList p'.isList (by simpa using hl) (by omega) ?_;have e:sM ds ds'=false:=AD (by rw[n8 hr,n8 hr',rx.length,ry.length];exact hl);unfold eqD at q;rw[e]at q;exact oR I q rfl
  |_=>exact nomatch hd
 |_=>exact nomatch hd
theorem Qy(hu:X.A.units+64<cLine):OpR X (compareOp .NotEq) (FX X.K true):=by
 intro pins s σ H x y u v Q I ru rv h;obtain⟨d,d',hx,hy,hd,h1,h2,q⟩:=h;cases d with
 |tup ds=>
  cases d' with
  |tup ds'=>
   have hd1:dpt (.tup ds)=qk ds+1:=by rw[dpt]
   have hd2:dpt (.tup ds')=qk ds'+1:=by rw[dpt]
   unfold Rep at hx hy;obtain⟨a,xs,rfl,hq,hr⟩:=hx;obtain⟨b,ys,rfl,hq',hr'⟩:=hy;cases ru;cases rv;obtain⟨its,rx,p,_⟩:=I.tuple hq;obtain⟨its',ry,p',_⟩:=I.tuple hq';have w:=SeqAt.RcNeAt.tuples (A:=X.A) (e:=eAt ds ds') (show s.heap.IsTuple a its.toArray from p) (show s.heap.IsTuple b its'.toArray from p') (by omega) (λj h1 h2=>by
    have z:=u9 I ds ds' xs ys its its' X.A.in1 hr hr' rx ry (by show X.A.units+1+qk ds+qk ds'<cLine;omega) j (by simpa using h1) (by simpa using h2);simpa using z)
   rw[u7 (by rw[n8 hr,rx.length];simp) (by rw[n8 hr',ry.length];simp)]at w;unfold eqD at q;exact w X.prog X.w X.xe _ (oR I q rfl)
  |_=>exact nomatch hd
 |lst ds=>
  cases d' with
  |lst ds'=>
   have hd1:dpt (.lst ds)=qk ds+1:=by rw[dpt]
   have hd2:dpt (.lst ds')=qk ds'+1:=by rw[dpt]
   unfold Rep at hx hy;obtain⟨a,xs,rfl,hq,hr⟩:=hx;obtain⟨b,ys,rfl,hq',hr'⟩:=hy;cases ru;cases rv;obtain⟨its,rx,p,_⟩:=I.list hq;obtain⟨its',ry,p',_⟩:=I.list hq';by_cases hl:its.length=its'.length
   ·have w:=SeqAt.RcNeAt.lists (A:=X.A) (e:=eAt ds ds') p.isList p'.isList (by simpa using hl) (by omega) (λj h1 h2=>by
     have z:=u9 I ds ds' xs ys its its' X.A.in1 hr hr' rx ry (by show X.A.units+1+qk ds+qk ds'<cLine;omega) j (by simpa using h1) (by simpa using h2);simpa using z)
    rw[v3 (by rw[n8 hr,rx.length];simp) (by rw[n8 hr',ry.length,<- hl];simp)]at w;unfold eqD at q;exact w X.prog X.w X.xe _ (oR I q rfl)
   ·have e:sM ds ds'=false:=AD (by rw[n8 hr,n8 hr',rx.length,ry.length];exact hl);unfold eqD at q;rw[e]at q;exact SeqAt.RcNeAt.lists_lengths p.isList p'.isList (by simpa using hl) (by omega) X.prog X.w X.xe _ (oR I q rfl)
  |_=>exact nomatch hd
 |_=>exact nomatch hd
end
theorem Ce{K:ao}{H:Hp}:∀l:aG,nZ K H (l.map Dq.str) (l.map V.str)
 |[]=>by rw[bJ,bJ];unfold nZ;rfl
 |x::r=>by rw[ar,ar];unfold nZ;exact⟨_,_,rfl,(by unfold Rep;rfl),Ce r⟩
theorem yN:∀l:aG,qk (l.map Dq.str)=0
 |[]=>by rw[bJ,qk]
 |x::r=>by rw[ar];unfold qk;rw[yN r];unfold dpt;rfl
inductive StrsAre:List Expr->bp->Prop
 |nil:StrsAre [] []
 |cons {x:Str} {j:Nat} {pos:Pos} {es:List Expr} {vs:bp} (h:StrsAre es vs):StrsAre (.Constant (.str x) j pos::es) (.str x::vs)
theorem r6{n:Nat}(h:n<=1000):n<=sizeLine:=gm (wI h)
theorem oj.new{p:Addr}{H H1:Hp}(x:oj H H1)(hp:H1 p=none)(o:HO):oj H (upd H1 p o):=λb u e=>by have z:=x b u e;rw[og (qO z hp)];exact z
structure ID(K:ao)(x qual:Str)(st:Stmt)(f:Addr)(fd:bL)(T:Addr):Prop where
 ex:∃(oc:aa) (od:Option Addr) (kV doc pm:aa) (an:Option Addr) (cdv ct:aa) (osl:Array (Option aa)),
  fd=fK x qual (tW st) (oY st) (ou st) (.ref T) kV doc pm an cdv ct/\K.lookup f=some ⟨oc,od,.func fd,osl⟩/\W.codeIn K cdv qual=true
 kp:eM K (.ref f)=true
variable{qual:Str}{st:Stmt}{f T:Addr}{fd:bL}{ps:aG}
section
variable{P:aA}{w:av}{K:ao}{mg:Str->Option aa}{base:Heap}
theorem ID.ok{x:Str}{k:Nat}{sp:Sp}(F:ID K x qual st f fd T)(S:pV N ps (ou st))(len:∀vs H Q E,sp vs H Q E->vs.length=ps.length)
  (hbody:∀(cdv:aa) (A:aE) (outer:List Env) (s:ae) (H:Hp) (vs:bp) (Q:VK) (E:XK),qa k (A.deeper (envOfC qual (ou st) s.heap.objs.size f cdv))->sp vs H Q E->
   ∃t,PSs (Ed CX0 P w K mg base N qual (ou st) f cdv A outer s H E).nox (oY st) t/\t { nx:=λ_ H'=>Q .non H',rt:=Q } (L2.start N vs) H):sF P w K mg base CX0 (k+1) f fd ps sp:=by
 obtain⟨oc,od,kV,doc,pm,an,cdv,ct,osl,rfl,lk,hcd⟩:=F.ex;refine Pe lk hcd S len λA outer s H vs Q E hr hsp=>?_;obtain⟨t,h,q⟩:=hbody cdv A outer s H vs Q E hr hsp;exact⟨t,h.nox,q⟩
end
theorem ID.binds{K:ao}{x:Str}{ds:List aa}{o:Obj}{items:Array aa}{n:Nat}(F:ID K x qual st f fd T)(ho:K.lookup T=some o)(hs:o.data=.seq items n)
  (h:∀(kV doc pm:aa) (an:Option Addr) (cdv ct:aa) (us:List aa),us.length=ps.length - ds.length->∃k,bindArgs (fK x qual (tW st) (oY st) (ou st) (.ref T) kV doc pm an cdv ct) ⟨us,[]⟩=seqItems? (.ref T)>>=k/\k (some items)=pure (ps.zip (us++ds))):Binds K fd ps ds:=by
 obtain⟨oc,od,kV,doc,pm,an,cdv,ct,osl,rfl,lk,hcd⟩:=F.ex;intro s us KX hl;obtain⟨k,h1,h2⟩:=h kV doc pm an cdv ct us (by rw[ay]at hl;omega);exact BindsTo.of_defaults (k:=k) rfl (KX _ _ ho) hs h1 h2
section
variable{X:Cx}
theorem FY:OpR X (binaryOp .Mult) (λx y H Q=>∃z n,x=.str z/\y=.int n/\MulOk z n/\Q (.str (gE z n)) H):=by intro pins s σ H x y v u Q I rx ry h;obtain⟨z,n,rfl,rfl,hm,q⟩:=h;obtain⟨t,rfl⟩:=rx;obtain⟨t',rfl⟩:=ry;exact SB.mul hm λt2 k=>⟨.str _,H,I.tok _,⟨t2,rfl⟩,q⟩
end
section
variable{X:Cx}(K:ao)
theorem Kh(hK:X.K=K:=by rfl):IxR X (M3 K):=by subst hK;exact G2
theorem Ep{l:Expr}(hl:PE X l tl)(hK:X.K=K:=by rfl):PI X tg l (JP K tl):=by subst hK;exact MM hl
theorem Nh{l:Expr}(hl:PE X l tl)(hK:X.K=K:=by rfl):PI X tg l (P5 K tl):=by subst hK;exact P6 hl
theorem Ni{es:List Expr}{k:Nat}{t:TGs}{n:Nat}(hc:X.calm=true)(h:PGs X es t)(hn:(assignEach es X.env).length=n:=by rfl)(hst:(assignEach es X.env).findIdx? (·.1)=none:=by rfl)(hK:X.K=K:=by rfl):PG X (.Tuple es k pos) (PY K n t):=by subst hK;exact PZ hc h hn hst
variable{o e:Expr}{es:List Expr}{to:TE}{t:TA}{name:Str}{apos cpos:Pos}{T id:String}{r:V->bp->Hp->VK->Prop}
theorem Ki(pa:kF T)(slot:Slot T name id)(hty:typeOf (.builtin id)=pure (.type "method_descriptor"))(hm:MtR X id r)(ho:PE X o to)(ha:PA X (e::es) t)
  (hbase:attributeBase o name X.env (eval o X.env)=eval o X.env:=by rfl)
  (hfew:((backTo cpos (starEach (e::es) X.env)).all (λx=>!x.1)&&(backToKw cpos (keywordEach [] X.env)).all (λx=>x.1.isSome)
   && decide ((e::es).length+([]:List dO).length+(if ([]:List dO).isEmpty then 0 else 1)<30))=true:=by rfl)
  (hline:(apos.endLine==cpos.line)=true:=by rfl) (hs:starEach (e::es) X.env=(false,eval e X.env)::starEach es X.env:=by rfl) (hplain:(backTo cpos (starEach es X.env)).any (·.1)=false:=by rfl) (hK:X.K=K:=by rfl):
  PE X (.Call (.Attribute o name apos) (e::es) [] cpos) (tBM K T r to t):=by subst hK;exact Ur pa slot hty hm ho ha hbase hfew hline hs hplain
end
end L3
namespace L2
open PySem PySem.Spec PyProof.Rows
variable{a:Addr}
section
variable{X:Cx}{pins:bY}{σ:St}{H:Hp}{s:ae}
theorem uI{H:Hp}{c:Addr}{u v:HO}(e:H a=some u)(q:H c=some v)(d:u≠v)(n:HO):upd H a n c=some v:=by rw[og (λz=>by subst z;rw[e]at q;exact d (bZ q))];exact q
theorem Inv.freeze{kvs:List (Key×V)}(I:Inv X pins σ H s)(e:H a=some (.dK kvs)):∃o,Inv X pins σ (upd H a (.frz o (.dK kvs))) s:=by
 obtain⟨z,y,vs,r,ob,es,ep,e1,c⟩:=(show pD X.prog X.w H s.heap a (.dK kvs) from I.hok a _ e);refine⟨ob,?_⟩;have I':=I.step (H':=upd H a (.frz ob (.dK kvs))) (h':=s.heap) (g':=s.gens) (d':=s.drawn) (t':=s.toks) (ch:=[]) (λ_ z=>nomatch z) (λb o _ _ _ q _=>q) (λb o _ _ _ q _=>⟨o.slots,q⟩)
  (λb o _ _ n=>by rw[og (λz=>by subst z;rw[e]at n;cases n)];exact n) (λb o _ q=>⟨o,q⟩) (λb xs q=>uI e q (λz=>nomatch z) _) (λb o u q=>uI e q (λz=>nomatch z) _)
  (λb ps q=>⟨#[],by rw[uI e q (λz=>nomatch z) _];simp⟩) (λm q=>q) ?_ I.bare
 ·obtain⟨h,g,d,t,os⟩:=s;exact I'
 ·intro b u q;have st:∀{b:Addr} {u:HO},pD X.prog X.w H s.heap b u->pD X.prog X.w (upd H a (.frz ob (.dK kvs))) s.heap b u:=λ{b u} x=>x.stay (λ_ _ _ q=>q) (λc q=>uI e q (λz=>nomatch z) _) λc xs q=>uI e q (λz=>nomatch z) _
  by_cases hb:b=a
  ·subst hb;rw[oa]at q;cases q;exact⟨e1,st (I.hok b _ e)⟩
  ·rw[og hb]at q;exact st (I.hok b u q)
theorem PE.ghost{e:Expr}{t:TE}(h:PE X e t):PE X e (λσ H Q=>t σ H λx H1=>Q x H1\/∃a kvs,H1 a=some (.dK kvs)/\∀o,Q x (upd H1 a (.frz o (.dK kvs)))):=λpins s σ H Q I hq=>
 thn (h pins s σ H _ I hq) λu s1 ⟨x,H1,I1,r1,q1⟩=>by
  rcases q1 with q|⟨a,kvs,e,q⟩
  ·exact⟨x,H1,I1,r1,q⟩
  ·obtain⟨o,I2⟩:=I1.freeze e;exact⟨x,_,I2,r1,q o⟩
end
end L2
namespace L4
open PySem PySem.Spec PyProof.Rows L2 L3
abbrev St:=L2.St
inductive D where
 |non|bl (b:Bool)|int (i:Int)|str (x:Str)
 |tup (ds:List D)|lst (ds:List D)
 |fzl (ds:List D)
 |obj (c:Nat) (ns:aG) (ds:List D)
 |dic (ks:List Key) (ds:List D)
abbrev aC:=List D
structure Bg where
 K:ao
 ca:Nat->Addr
mutual
def Rep(G:Bg)(H:Hp):D->V->Prop
 |.non,v=>v=.non
 |.bl b,v=>v=.bl b
 |.int i,v=>v=.int i
 |.str x,v=>v=.str x
 |.tup ds,v=>∃a xs,v=.ref a/\SqT G.K H a xs/\nZ G H ds xs
 |.lst ds,v=>∃a xs,v=.ref a/\H a=some (.lst xs)/\nZ G H ds xs
 |.fzl ds,v=>∃a xs,v=.ref a/\SqL G.K H a xs/\nZ G H ds xs
 |.obj c ns ds,v=>∃a dx xs,v=.ref a/\H a=some (.ins (G.ca c) dx (ns.zip xs))/\ns.length=xs.length/\nZ G H ds xs
 |.dic ks ds,v=>∃a o xs,v=.ref a/\H a=some (.frz o (.dK (ks.zip xs)))/\ks.length=xs.length/\nZ G H ds xs
def nZ(G:Bg)(H:Hp):aC->bp->Prop
 |[],xs=>xs=[]
 |d::ds,xs=>∃v r,xs=v::r/\Rep G H d v/\nZ G H ds r
end
variable{H':Hp}{a:Addr}{xs:bp}
theorem SqT.mono{K:ao}{H:Hp}(e:oj H H')(h:SqT K H a xs):SqT K H' a xs:=by
 rcases h with (h|⟨o,h⟩)|h
 ·exact .inl (.inl (e _ _ h))
 ·exact .inl (.inr ⟨o,e _ _ h⟩)
 ·exact .inr h
mutual
theorem Rep.mono{G:Bg}{H H':Hp}(e:oj H H'):∀(d:D) (v:V),Rep G H d v->Rep G H' d v
 |.non,v,h=>by unfold Rep at h ⊢;exact h
 |.bl b,v,h=>by unfold Rep at h ⊢;exact h
 |.int i,v,h=>by unfold Rep at h ⊢;exact h
 |.str x,v,h=>by unfold Rep at h ⊢;exact h
 |.tup ds,v,h=>by unfold Rep at h ⊢;obtain⟨a,xs,rfl,h1,h2⟩:=h;exact⟨a,xs,rfl,SqT.mono e h1,nZ.mono e ds xs h2⟩
 |.lst ds,v,h=>by unfold Rep at h ⊢;obtain⟨a,xs,rfl,h1,h2⟩:=h;exact⟨a,xs,rfl,e _ _ h1,nZ.mono e ds xs h2⟩
 |.fzl ds,v,h=>by unfold Rep at h ⊢;obtain⟨a,xs,rfl,h1,h2⟩:=h;exact⟨a,xs,rfl,e.seq h1,nZ.mono e ds xs h2⟩
 |.obj c ns ds,v,h=>by unfold Rep at h ⊢;obtain⟨a,dx,xs,rfl,h1,h2,h3⟩:=h;exact⟨a,dx,xs,rfl,e _ _ h1,h2,nZ.mono e ds xs h3⟩
 |.dic ks ds,v,h=>by unfold Rep at h ⊢;obtain⟨a,o,xs,rfl,h1,h2,h3⟩:=h;exact⟨a,o,xs,rfl,e _ _ h1,h2,nZ.mono e ds xs h3⟩
theorem nZ.mono{G:Bg}{H H':Hp}(e:oj H H'):∀(ds:aC) (xs:bp),nZ G H ds xs->nZ G H' ds xs
 |[],xs,h=>by unfold nZ at h ⊢;exact h
 |d::ds,xs,h=>by unfold nZ at h ⊢;obtain⟨v,r,rfl,h1,h2⟩:=h;exact⟨v,r,rfl,Rep.mono e d v h1,nZ.mono e ds r h2⟩
end
variable{d:D}{ds:aC}
section
variable{G:Bg}{H:Hp}
theorem oO:nZ G H [] []:=by unfold nZ;rfl
theorem oJ{v:V}(h:Rep G H d v)(r:nZ G H ds xs):nZ G H (d::ds) (v::xs):=by unfold nZ;exact⟨v,xs,rfl,h,r⟩
theorem n8:∀{ds:aC} {xs:bp},nZ G H ds xs->ds.length=xs.length
 |[],xs,h=>by unfold nZ at h;subst h;rfl
 |d::ds,xs,h=>by unfold nZ at h;obtain⟨v,r,rfl,_,h2⟩:=h;rw[aF,aF,n8 h2]
theorem qe:∀{ds es:aC} {xs ys:bp},nZ G H ds xs->nZ G H es ys->nZ G H (ds++es) (xs++ys)
 |[],es,xs,ys,h,h'=>by unfold nZ at h;subst h;exact h'
 |d::ds,es,xs,ys,h,h'=>by unfold nZ at h;obtain⟨v,r,rfl,h1,h2⟩:=h;exact oJ h1 (qe h2 h')
theorem pS:∀{ds:aC} {xs:bp} {i:Nat} {d:D},nZ G H ds xs->ds[i]?=some d->∃v,xs[i]?=some v/\Rep G H d v
 |[],xs,i,d,h,e=>by simp at e
 |d'::ds,xs,i,d,h,e=>by
  unfold nZ at h;obtain⟨v,r,rfl,h1,h2⟩:=h;cases i with
  |zero=>simp at e;subst e;exact⟨v,rfl,h1⟩
  |succ i=>simpa using pS (i:=i) (d:=d) h2 (by simpa using e)
theorem Cf:∀{ds:aC} {xs:bp} (n:Nat),nZ G H ds xs->nZ G H (ds.drop n) (xs.drop n)
 |ds,xs,0,h=>h
 |[],xs,n+1,h=>by unfold nZ at h;subst h;exact oO
 |d::ds,xs,n+1,h=>by unfold nZ at h;obtain⟨v,r,rfl,h1,h2⟩:=h;exact Cf n h2
theorem Cg:∀{ds:aC} {xs:bp} (n:Nat),nZ G H ds xs->nZ G H (ds.take n) (xs.take n)
 |ds,xs,0,h=>oO
 |[],xs,n+1,h=>by unfold nZ at h;subst h;exact oO
 |d::ds,xs,n+1,h=>by unfold nZ at h;obtain⟨v,r,rfl,h1,h2⟩:=h;exact oJ h1 (Cg n h2)
theorem sS(h:SqT G.K H a xs)(r:nZ G H ds xs):Rep G H (.tup ds) (.ref a):=by unfold Rep;exact⟨a,xs,rfl,h,r⟩
theorem tX(h:H a=some (.lst xs))(r:nZ G H ds xs):Rep G H (.lst ds) (.ref a):=by unfold Rep;exact⟨a,xs,rfl,h,r⟩
theorem ql(i:Int):Rep G H (.int i) (.int i):=by unfold Rep;rfl
theorem q9(i:Bool):Rep G H (.bl i) (.bl i):=by unfold Rep;rfl
theorem va(i:Str):Rep G H (.str i) (.str i):=by unfold Rep;rfl
theorem xX:Rep G H .non .non:=by unfold Rep;rfl
end
inductive Sl where
 |un
 |im (d:D)
 |ls (ds:aC)
 |pm (ds:aC)
 |dk (ks:List Key) (ds:aC)
 |ob (c:Nat) (ns:aG) (ds:aC)
abbrev aU:=List Sl
def Sl.own:Sl->Bool
 |.ls _=>true
 |.pm _=>true
 |.dk _ _=>true
 |.ob _ _ _=>true
 |_=>false
structure Fr where
 B0:Hp
 B:Hp
 A:List Addr
def xp(G:Bg)(F:Fr)(H0 H:Hp)(o:Option V):Sl->Prop
 |.un=>True
 |.im d=>∃v,o=some v/\Rep G H0 d v
 |.ls ds=>∃a xs,o=some (.ref a)/\H a=some (.lst xs)/\H0 a=none/\F.B a=none/\nZ G H0 ds xs
 |.pm ds=>∃a xs,o=some (.ref a)/\H a=some (.lst xs)/\H0 a=none/\a∈F.A/\nZ G H0 ds xs
 |.dk ks ds=>∃a xs,o=some (.ref a)/\H a=some (.dK (ks.zip xs))/\H0 a=none/\F.B a=none/\ks.length=xs.length/\nZ G H0 ds xs
 |.ob c ns ds=>∃a dx xs,o=some (.ref a)/\H a=some (.ins (G.ca c) dx (ns.zip xs))/\H0 a=none/\a∈F.A/\ns.length=xs.length/\nZ G H0 ds xs
structure oq(G:Bg)(F:Fr)(σ:St)(ρ:aU)(H0 H:Hp):Prop where
 sub:oj H0 H
 g0:oj F.B0 H0
 keep:∀b o,F.B b=some o->b∉F.A->H b=some o
 fr:∀b o,H0 b=some o->F.B0 b=some o\/F.B b=none
 am:∀a∈F.A,∃o,H a=some o
 len:σ.length=ρ.length
 sl:∀(i:Nat) (s:Sl),ρ[i]?=some s->xp G F H0 H (σ[i]?).join s
 ap:∀(i j:Nat) (s t:Sl) (a:Addr),i≠j->ρ[i]?=some s->ρ[j]?=some t->s.own=true->t.own=true->(σ[i]?).join=some (.ref a)->(σ[j]?).join=some (.ref a)->False
variable{G:Bg}{F:Fr}{H0:Hp}
theorem xp.at{H:Hp}{o:Option V}{s:Sl}(h:xp G F H0 H o s)(e:s.own=true):∃a u,o=some (.ref a)/\H a=some u/\H0 a=none/\(F.B a=none\/a∈F.A):=by
 cases s with
 |un=>cases e
 |im d=>cases e
 |ls ds=>obtain⟨a,xs,h1,h2,h3,h4,_⟩:=h;exact⟨a,_,h1,h2,h3,.inl h4⟩
 |pm ds=>obtain⟨a,xs,h1,h2,h3,h4,_⟩:=h;exact⟨a,_,h1,h2,h3,.inr h4⟩
 |dk ks ds=>obtain⟨a,xs,h1,h2,h3,h4,_⟩:=h;exact⟨a,_,h1,h2,h3,.inl h4⟩
 |ob c ns ds=>obtain⟨a,dx,xs,h1,h2,h3,h4,_⟩:=h;exact⟨a,_,h1,h2,h3,.inr h4⟩
variable{H0':Hp}
theorem xp.grow{H:Hp}{o:Option V}{s:Sl}(h:xp G F H0 H o s)(h0:oj H0 H0')(hk:∀a u,o=some (.ref a)->s.own=true->H a=some u->H' a=some u)
  (hn:∀a u,o=some (.ref a)->s.own=true->H a=some u->H0 a=none->H0' a=none):xp G F H0' H' o s:=by
 cases s with
 |un=>trivial
 |im d=>obtain⟨v,h1,h2⟩:=h;exact⟨v,h1,Rep.mono h0 _ _ h2⟩
 |ls ds=>obtain⟨a,xs,h1,h2,h3,h4,h5⟩:=h;exact⟨a,xs,h1,hk _ _ h1 rfl h2,hn _ _ h1 rfl h2 h3,h4,nZ.mono h0 _ _ h5⟩
 |pm ds=>obtain⟨a,xs,h1,h2,h3,h4,h5⟩:=h;exact⟨a,xs,h1,hk _ _ h1 rfl h2,hn _ _ h1 rfl h2 h3,h4,nZ.mono h0 _ _ h5⟩
 |dk ks ds=>obtain⟨a,xs,h1,h2,h3,h4,h5,h6⟩:=h;exact⟨a,xs,h1,hk _ _ h1 rfl h2,hn _ _ h1 rfl h2 h3,h4,h5,nZ.mono h0 _ _ h6⟩
 |ob c ns ds=>obtain⟨a,dx,xs,h1,h2,h3,h4,h5,h6⟩:=h;exact⟨a,dx,xs,h1,hk _ _ h1 rfl h2,hn _ _ h1 rfl h2 h3,h4,h5,nZ.mono h0 _ _ h6⟩
variable{i j:Nat}
section
variable{G:Bg}{F:Fr}{σ:St}{ρ:aU}{H0 H H0' H':Hp}
theorem oq.bNone(R:oq G F σ ρ H0 H){b:Addr}(h:H b=none):F.B b=none:=by
 cases e:F.B b with
 |none=>rfl
 |some o=>
  by_cases ha:b∈F.A
  ·obtain⟨xs,q⟩:=R.am b ha;rw[q]at h;cases h
  ·have q:=R.keep b o e ha;rw[q]at h;cases h
theorem oq.grow(R:oq G F σ ρ H0 H)(hs:oj H H')(h0:oj H0 H0')(sub':oj H0' H')(hf:∀b o,H0' b=some o->H0 b=some o\/H b=none):oq G F σ ρ H0' H' where
 sub:=sub'
 g0:=R.g0.trans h0
 keep:=λb o e n=>hs _ _ (R.keep b o e n)
 fr:=λb o e=>by
  rcases hf b o e with q|q
  ·exact R.fr b o q
  ·exact .inr (R.bNone q)
 am:=λa ha=>let ⟨xs,q⟩:=R.am a ha;⟨xs,hs _ _ q⟩
 len:=R.len
 sl:=λi s e=>(R.sl i s e).grow h0 (λa u _ _ q=>hs _ _ q) λa u _ _ q q0=>by
  cases z:H0' a with
  |none=>rfl
  |some o=>
   rcases hf a o z with y|y
   ·rw[y]at q0;cases q0
   ·rw[y]at q;cases q
 ap:=R.ap
theorem oh{H:Hp}{p:Addr}(hp:H p=none)(o:HO):oj H (upd H p o):=oj.new (oj.refl H) hp o
theorem oq.h0none(R:oq G F σ ρ H0 H){p:Addr}(hp:H p=none):H0 p=none:=by
 cases e:H0 p with
 |none=>rfl
 |some o=>have:=R.sub _ _ e;rw[this]at hp;cases hp
theorem Kj{H0 H:Hp}(s:oj H0 H)(p:Addr)(o:HO):oj (upd H0 p o) (upd H p o):=λb u e=>by
 by_cases hb:b=p
 ·subst hb;rw[oa]at e ⊢;exact e
 ·rw[og hb]at e ⊢;exact s _ _ e
theorem oq.newIm(R:oq G F σ ρ H0 H){p:Addr}(hp:H p=none)(o:HO):oq G F σ ρ (upd H0 p o) (upd H p o):=
 R.grow (oh hp o) (oh (R.h0none hp) o) (Kj R.sub p o) λb u e=>by
  by_cases hb:b=p
  ·subst hb;exact .inr hp
  ·rw[og hb]at e;exact .inl e
theorem oq.newOwn(R:oq G F σ ρ H0 H){p:Addr}(hp:H p=none)(o:HO):oq G F σ ρ H0 (upd H p o):=
 R.grow (oh hp o) (oj.refl _) (λb u e=>by rw[og (qO (R.sub _ _ e) hp)];exact R.sub _ _ e) λb u e=>.inl e
def Apart(σ:St)(ρ:aU)(p:Addr):Prop:=∀(i:Nat) (s:Sl),ρ[i]?=some s->s.own=true->(σ[i]?).join≠some (.ref p)
theorem oq.apart(R:oq G F σ ρ H0 H){p:Addr}(hp:H p=none):Apart σ ρ p:=λi s e so z=>by obtain⟨a,u,h1,h2,_⟩:=(R.sl i s e).at so;rw[z]at h1;cases h1;rw[hp]at h2;cases h2
theorem oq.freeze(R:oq G F σ ρ H0 H){p:Addr}{o:HO}(hp:H p=some o)(h0:H0 p=none)(hb:F.B p=none)(ap:Apart σ ρ p):oq G F σ ρ (upd H0 p o) H where
 sub:=λb u e=>by
  by_cases hb:b=p
  ·subst hb;rw[oa]at e;cases e;exact hp
  ·rw[og hb]at e;exact R.sub _ _ e
 g0:=R.g0.trans (oh h0 o)
 keep:=R.keep
 fr:=λb u e=>by
  by_cases hb':b=p
  ·subst hb';exact .inr hb
  ·rw[og hb']at e;exact R.fr _ _ e
 am:=R.am
 len:=R.len
 sl:=λi s e=>(R.sl i s e).grow (oh h0 o) (λa u _ _ q=>q) λa u z so q q0=>by rw[og (λy=>ap i s e so (by rw[z,y]))];exact q0
 ap:=R.ap
theorem Er{σ:St}{v:Option V}(hi:i<σ.length):((σ.set i v)[j]?).join=if j=i then v else (σ[j]?).join:=by
 rw[bQ];by_cases h:i=j
 ·subst h;simp[hi]
 ·rw[aj h,aj (λz=>h z.symm)]
theorem oq.set(R:oq G F σ ρ H0 H){v:V}{s:Sl}(hs:xp G F H0 H (some v) s)(ap:s.own=true->∀a,v=.ref a->∀(j:Nat) (t:Sl),j≠i->ρ[j]?=some t->t.own=true->(σ[j]?).join≠some (.ref a)):
  oq G F (σ.set i (some v)) (ρ.set i s) H0 H where
 sub:=R.sub
 g0:=R.g0
 keep:=R.keep
 fr:=R.fr
 am:=R.am
 len:=by rw[dF,dF,R.len]
 sl:=λj t e=>by
  rw[bQ]at e;by_cases h:i=j
  ·subst h;rw[ai rfl]at e;split at e
   ·rename_i hi;cases e;rw[Er (by rw[R.len];exact hi),ai rfl];exact hs
   ·cases e
  ·rw[aj h]at e;have hh:=R.sl j t e;rw[bQ,aj h];exact hh
 ap:=λj k t u a hjk ej ek tj tk vj vk=>by
  have gen:∀{m:Nat} {x:Sl},(ρ.set i s)[m]?=some x->m≠i->ρ[m]?=some x/\((σ.set i (some v))[m]?).join=(σ[m]?).join:=λ{m x} e hm=>by rw[bQ,aj (λz=>hm z.symm)]at e;exact⟨e,by rw[bQ,aj (λz=>hm z.symm)]⟩
  have self:∀{x:Sl},(ρ.set i s)[i]?=some x->x=s/\((σ.set i (some v))[i]?).join=some v:=λ{x} e=>by
   rw[bQ,ai rfl]at e;split at e
   ·rename_i hi;cases e;exact⟨rfl,by rw[Er (by rw[R.len];exact hi),ai rfl]⟩
   ·cases e
  by_cases hj:j=i
  ·subst hj;obtain⟨rfl,ev⟩:=self ej;rw[ev]at vj;cases vj;obtain⟨e2,e3⟩:=gen ek (λz=>hjk z.symm);rw[e3]at vk;exact ap tj a rfl k u (λz=>hjk z.symm) e2 tk vk
  ·obtain⟨e2,e3⟩:=gen ej hj;by_cases hk:k=i
   ·subst hk;obtain⟨rfl,ev⟩:=self ek;rw[ev]at vk;cases vk;rw[e3]at vj;exact ap tk a rfl j t hj e2 tj vj
   ·obtain⟨e4,e5⟩:=gen ek hk;rw[e3]at vj;rw[e5]at vk;exact R.ap j k t u a hjk e2 e4 tj tk vj vk
theorem oq.setIm(R:oq G F σ ρ H0 H)(i:Nat){v:V}(h:Rep G H0 d v):oq G F (σ.set i (some v)) (ρ.set i (.im d)) H0 H:=R.set ⟨v,rfl,h⟩ λz=>by cases z
theorem oq.setLs(R:oq G F σ ρ H0 H)(i:Nat){p:Addr}(hp:H p=some (.lst xs))(h0:H0 p=none)(hb:F.B p=none)(ap:Apart σ ρ p)(h:nZ G H0 ds xs):oq G F (σ.set i (some (.ref p))) (ρ.set i (.ls ds)) H0 H:=
 R.set ⟨p,xs,rfl,hp,h0,hb,h⟩ λ_ a e j t _ ej tj=>by cases e;exact ap j t ej tj
theorem oq.mut(R:oq G F σ ρ H0 H){s s':Sl}{o:HO}(hi:ρ[i]?=some s)(so:s.own=true)(ha:(σ[i]?).join=some (.ref a))(ok:∀H',H' a=some o->xp G F H0 H' (some (.ref a)) s')
  (so':s'.own=true):oq G F σ (ρ.set i s') H0 (upd H a o):=by
 obtain⟨a',u,e1,e2,e3,e4⟩:=(R.sl i s hi).at so;rw[ha]at e1;cases e1;exact {
  sub:=λb w e=>by rw[og (λz=>by rw[z,e3]at e;cases e)];exact R.sub _ _ e
  g0:=R.g0
  keep:=λb w e n=>by
   have nb:b≠a:=λz=>by
    subst z;rcases e4 with q|q
    ·rw[q]at e;cases e
    ·exact n q
   rw[og nb];exact R.keep b w e n
  fr:=R.fr
  am:=λb hb=>by
   by_cases z:b=a
   ·subst z;exact⟨o,oa⟩
   ·rw[og z];exact R.am b hb
  len:=by rw[dF];exact R.len
  sl:=λj t e=>by
   rw[bQ]at e;by_cases h:i=j
   ·subst h;rw[ai rfl]at e;split at e
    ·cases e;rw[ha];exact ok _ oa
    ·cases e
   ·rw[aj h]at e;refine(R.sl j t e).grow (oj.refl _) (λb w z to q=>?_) λb w _ _ _ q=>q;rw[og (λy=>by subst y;exact R.ap j i t s b (λy=>h y.symm) e hi to so z ha)];exact q
  ap:=λj k t u b hjk ej ek tj tk vj vk=>by
   have gen:∀{m:Nat} {x:Sl},(ρ.set i s')[m]?=some x->∃y,ρ[m]?=some y/\(x.own=true->y.own=true):=λ{m x} e=>by
    rw[bQ]at e;by_cases h:i=m
    ·subst h;exact⟨s,hi,λ_=>so⟩
    ·rw[aj h]at e;exact⟨x,e,λq=>q⟩
   obtain⟨y,ey,oy⟩:=gen ej;obtain⟨z,ez,oz⟩:=gen ek;exact R.ap j k y z b hjk ey ez (oy tj) (oz tk) vj vk }
end
abbrev FE:=aU->Option (D×aU)
abbrev FT:=aU->Option (Bool×aU)
abbrev FA:=aU->Option (aC×aU)
def tF(G:Bg)(f:FE):TE:=λσ H Q=>∃F ρ H0 d ρ',oq G F σ ρ H0 H/\f ρ=some (d,ρ')/\∀v H0' H',oj H0 H0'->oq G F σ ρ' H0' H'->Rep G H0' d v->Q v H'
def tFT(G:Bg)(f:FT):TT:=λσ H Q=>∃F ρ H0 d ρ',oq G F σ ρ H0 H/\f ρ=some (d,ρ')/\∀H0' H',oj H0 H0'->oq G F σ ρ' H0' H'->Q d H'
def tFA(G:Bg)(f:FA):TA:=λσ H Q=>∃F ρ H0 ds ρ',oq G F σ ρ H0 H/\f ρ=some (ds,ρ')/\∀xs H0' H',oj H0 H0'->oq G F σ ρ' H0' H'->nZ G H0' ds xs->Q xs H'
def tFN(G:Bg)(f:FA):TE:=λσ H Q=>∃F ρ H0 ds ρ',oq G F σ ρ H0 H/\f ρ=some (ds,ρ')/\∀p xs H0' H',oj H0 H0'->oq G F σ ρ' H0' H'->H' p=some (.lst xs)->H0' p=none->F.B p=none->Apart σ ρ' p->nZ G H0' ds xs->Q (.ref p) H'
variable{X:Cx}{e:Expr}
theorem PE.weak{t t':TE}(h:PE X e t)(w:∀σ H Q,t' σ H Q->t σ H Q):PE X e t':=λpins s σ H Q I hq=>h pins s σ H Q I (w _ _ _ hq)
variable{t':TT}
theorem PT.weak{t:TT}(h:PT X e t)(w:∀σ H Q,t' σ H Q->t σ H Q):PT X e t':=λpins s σ H Q I hq=>h pins s σ H Q I (w _ _ _ hq)
theorem PW.weak{t:TT}(h:PW X e t)(w:∀σ H Q,t' σ H Q->t σ H Q):PW X e t':=λwh pins s σ H Q I hq=>h wh pins s σ H Q I (w _ _ _ hq)
theorem PA.weak{e:List Expr}{t t':TA}(h:PA X e t)(w:∀σ H Q,t' σ H Q->t σ H Q):PA X e t':=λpos pins s σ H Q I hq=>h pos pins s σ H Q I (w _ _ _ hq)
noncomputable def cC(d:D):FE:=λρ=>some (d,ρ)
noncomputable def cV(i:Nat):FE:=λρ=>match ρ[i]? with
 |some (.im d)=>some (d,ρ)
 |_=>none
noncomputable def c1(g:D->Option D) (f:FE):FE:=λρ=>match f ρ with
 |some (d,ρ')=>match g d with
  |some x=>some (x,ρ')
  |none=>none
 |none=>none
noncomputable def c2(g:D->D->Option D) (f f':FE):FE:=λρ=>match f ρ with
 |some (x,ρ1)=>match f' ρ1 with
  |some (y,ρ2)=>match g x y with
   |some z=>some (z,ρ2)
   |none=>none
  |none=>none
 |none=>none
variable{f:FE}{ρ ρ':aU}
theorem Ac{g:D->Option D}{z:D}(h:c1 g f ρ=some (z,ρ')):∃d,f ρ=some (d,ρ')/\g d=some z:=by
 unfold c1 at h;cases e:f ρ with
 |none=>rw[e]at h;cases h
 |some p=>
  obtain⟨d,ρ1⟩:=p;rw[e]at h;cases e2:g d with
  |none=>simp only[e2]at h;cases h
  |some x=>simp only[e2]at h;cases h;exact⟨d,rfl,e2⟩
variable{f':FE}
theorem Du{g:D->D->Option D}{z:D}(h:c2 g f f' ρ=some (z,ρ')):∃x y ρ1,f ρ=some (x,ρ1)/\f' ρ1=some (y,ρ')/\g x y=some z:=by
 unfold c2 at h;cases e:f ρ with
 |none=>rw[e]at h;cases h
 |some p=>
  obtain⟨x,ρ1⟩:=p;simp only[e]at h;cases e2:f' ρ1 with
  |none=>simp only[e2]at h;cases h
  |some q=>
   obtain⟨y,ρ2⟩:=q;simp only[e2]at h;cases e3:g x y with
   |none=>simp only[e3]at h;cases h
   |some w=>simp only[e3]at h;cases h;exact⟨x,y,ρ1,rfl,e2,e3⟩
variable{pos:Pos}{op:eP}{es:List Expr}
section
variable{X:Cx}{G:Bg}
theorem Qz{i j pos}:PE X (.Constant (.int i) j pos) (tF G (cC (.int i))):=PE.weak Fv λσ H Q h=>by obtain⟨F,ρ,H0,d,ρ',R,e,k⟩:=h;cases e;exact k _ _ _ (oj.refl _) R (ql i)
theorem Uw{i j pos}:PE X (.Constant (.bool i) j pos) (tF G (cC (.bl i))):=PE.weak T1 λσ H Q h=>by obtain⟨F,ρ,H0,d,ρ',R,e,k⟩:=h;cases e;exact k _ _ _ (oj.refl _) R (q9 i)
theorem QA{i j pos}:PE X (.Constant (.str i) j pos) (tF G (cC (.str i))):=PE.weak JK λσ H Q h=>by obtain⟨F,ρ,H0,d,ρ',R,e,k⟩:=h;cases e;exact k _ _ _ (oj.refl _) R (va i)
theorem QB{j pos}:PE X (.Constant .none j pos) (tF G (cC .non)):=PE.weak PL λσ H Q h=>by obtain⟨F,ρ,H0,d,ρ',R,e,k⟩:=h;cases e;exact k _ _ _ (oj.refl _) R xX
theorem Nj(h:cV i ρ=some (d,ρ')):ρ[i]?=some (.im d)/\ρ'=ρ:=by
 unfold cV at h;split at h
 ·rename_i e;cases h;exact⟨e,rfl⟩
 ·cases h
theorem ra{α:Type}{o:Option (Option α)}{v:α}(h:o.join=some v):o=some (some v):=by
 cases o with
 |none=>cases h
 |some u=>cases u with
  |none=>cases h
  |some w=>cases h;rfl
theorem FZ(h:PE X e (uE i)):PE X e (tF G (cV i)):=PE.weak h λσ H Q hh=>by obtain⟨F,ρ,H0,d,ρ',R,e,k⟩:=hh;obtain⟨e1,rfl⟩:=Nj e;obtain⟨v,e2,e3⟩:=R.sl i _ e1;exact⟨v,ra e2,k _ _ _ (oj.refl _) R e3⟩
theorem Nk{v:V}(h:PE X e (tC v))(r:∀H,Rep G H d v):PE X e (tF G (cC d)):=PE.weak h λσ H Q hh=>by obtain⟨F,ρ,H0,d',ρ',R,e,k⟩:=hh;cases e;exact k _ _ _ (oj.refl _) R (r _)
def OpD(G:Bg)(r:R2)(g:D->D->Option D):Prop:=∀x y z H0 H v u (Q:VK),g x y=some z->oj H0 H->Rep G H0 x v->Rep G H0 y u->(∀w,(∀H0',oj H0 H0'->Rep G H0' z w)->Q w H)->r v u H Q
theorem G4{r:R2}{g:D->D->Option D}(ho:OpD G r g):∀σ H Q,tF G (c2 g f f') σ H Q->tOp r (tF G f) (tF G f') σ H Q:=λσ H Q hh=>by obtain⟨F,ρ,H0,d,ρ',R,e,k⟩:=hh;obtain⟨x,y,ρ1,e1,e2,e3⟩:=Du e;refine⟨F,ρ,H0,x,ρ1,R,e1,λv H1 H1' s1 R1 r1=>⟨F,ρ1,H1,y,ρ',R1,e2,λu H2 H2' s2 R2 r2=>?_⟩⟩;exact ho x y d H2 H2' v u Q e3 R2.sub (Rep.mono s2 _ _ r1) r2 λw hw=>k w H2 H2' (s1.trans s2) R2 (hw _ (oj.refl _))
theorem Ux{a b:Expr}{op:iX}{r:R2}{g:D->D->Option D}(hr:OpR X (binaryOp op) r)(ho:OpD G r g)(ha:PE X a (tF G f))(hb:PE X b (tF G f')):PE X (.BinOp a op b pos) (tF G (c2 g f f')):=PE.weak (GU hr ha hb) (G4 ho)
theorem QC{a b:Expr}{r:R2}{g:D->D->Option D}(hr:OpR X (compareOp op) r)(ho:OpD G r g)(ha:PE X a (tF G f))(hb:PE X b (tF G f'))(hm:behindInMarks op b=false):PE X (.Compare a [op] [b] pos) (tF G (c2 g f f')):=PE.weak (MR hr ha hb hm) (G4 ho)
theorem Uy{a b:Expr}{r:R2}{g:D->D->Option D}(hr:IxR X r)(ho:OpD G r g)(ha:PE X a (tF G f))(hb:PE X b (tF G f'))(hs:G1 b):PE X (.Subscript a b pos) (tF G (c2 g f f')):=PE.weak (Pf hr ha hb hs) (G4 ho)
def cT(f:FE):FT:=λρ=>match f ρ with
 |some (.bl b,ρ')=>some (b,ρ')
 |_=>none
theorem G5{b:Bool}(h:cT f ρ=some (b,ρ')):f ρ=some (.bl b,ρ'):=by
 unfold cT at h;split at h
 ·rename_i e;cases h;exact e
 ·cases h
theorem G6:∀σ H Q,tFT G (cT f) σ H Q->JU (tF G f) σ H Q:=λσ H Q hh=>by obtain⟨F,ρ,H0,d,ρ',R,e,k⟩:=hh;refine⟨F,ρ,H0,_,ρ',R,G5 e,λv H0' H' s R' r=>?_⟩;unfold Rep at r;exact⟨d,r,k _ _ s R'⟩
theorem Nl{a b:Expr}{r:R2}{g:D->D->Option D}(hr:OpR X (compareOp op) r)(ho:OpD G r g)(ha:PE X a (tF G f))(hb:PE X b (tF G f'))(hm:behindInMarks op b=false):
  PT X (.Compare a [op] [b] pos) (tFT G (cT (c2 g f f'))):=PT.weak (MS hr ha hb hm) λσ H Q hh=>by
 obtain⟨F,ρ,H0,d,ρ',R,e,k⟩:=G6 σ H Q hh;exact G4 ho σ H _ ⟨F,ρ,H0,d,ρ',R,e,k⟩
theorem Nn(h:PE X e (tF G f))(he:∀whole,isTrue e X.env whole=(do let v<-whole;standAt e.pos;holding [v] (truthy v)):=by intro _;rfl):PT X e (tFT G (cT f)):=PT.weak (PM h he) λσ H Q hh=>by obtain⟨F,ρ,H0,d,ρ',R,e,k⟩:=hh;refine⟨F,ρ,H0,_,ρ',R,G5 e,λv H0' H' s R' r=>?_⟩;unfold Rep at r;exact⟨d,r,k _ _ s R'⟩
def qu(f:FT):FT:=λρ=>match f ρ with
 |some (b,ρ')=>some (!b,ρ')
 |none=>none
def tY(f g:FT):FT:=λρ=>match f ρ with
 |some (true,ρ')=>g ρ'
 |r=>r
def uJ(f g:FT):FT:=λρ=>match f ρ with
 |some (false,ρ')=>g ρ'
 |r=>r
theorem Np{a:Expr}{f:FT}(h:PT X a (tFT G f)):PT X (.UnaryOp .Not a pos) (tFT G (qu f)):=PT.weak (PR h) λσ H Q hh=>by
 obtain⟨F,ρ,H0,d,ρ',R,e,k⟩:=hh;unfold qu at e;cases e1:f ρ with
 |none=>simp only[e1]at e;cases e
 |some p=>obtain⟨b,ρ1⟩:=p;simp only[e1]at e;cases e;exact⟨F,ρ,H0,b,_,R,e1,λH0' H' s R'=>k _ _ s R'⟩
theorem QD{f g:FT}:∀σ H Q,tFT G (tY f g) σ H Q->T2 (tFT G f) (tFT G g) σ H Q:=λσ H Q hh=>by
 obtain⟨F,ρ,H0,d,ρ',R,e,k⟩:=hh;unfold tY at e;cases e1:f ρ with
 |none=>simp only[e1]at e;cases e
 |some p=>
  obtain⟨b,ρ1⟩:=p;cases b with
  |true=>simp only[e1]at e;exact⟨F,ρ,H0,true,ρ1,R,e1,λH0' H' s R'=>El ⟨F,ρ1,H0',d,ρ',R',e,λH2 H2' s2 R2=>k _ _ (s.trans s2) R2⟩⟩
  |false=>simp only[e1]at e;cases e;exact⟨F,ρ,H0,false,_,R,e1,λH0' H' s R'=>Ek (k _ _ s R')⟩
theorem Uz{f g:FT}:∀σ H Q,tFT G (uJ f g) σ H Q->tOr (tFT G f) (tFT G g) σ H Q:=λσ H Q hh=>by
 obtain⟨F,ρ,H0,d,ρ',R,e,k⟩:=hh;unfold uJ at e;cases e1:f ρ with
 |none=>simp only[e1]at e;cases e
 |some p=>
  obtain⟨b,ρ1⟩:=p;cases b with
  |false=>simp only[e1]at e;exact⟨F,ρ,H0,false,ρ1,R,e1,λH0' H' s R'=>Ek ⟨F,ρ1,H0',d,ρ',R',e,λH2 H2' s2 R2=>k _ _ (s.trans s2) R2⟩⟩
  |true=>simp only[e1]at e;cases e;exact⟨F,ρ,H0,true,_,R,e1,λH0' H' s R'=>El (k _ _ s R')⟩
theorem Kk{a:Expr}{f:FT}(h:PT X a (tFT G f)):PW X (.BoolOp .And [a] pos) (tFT G f):=MJ h
theorem Nq{a:Expr}{f:FT}(h:PT X a (tFT G f)):PW X (.BoolOp .Or [a] pos) (tFT G f):=PN h
theorem Nr{a b:Expr}{rest:List Expr}{f g:FT}(ha:PT X a (tFT G f))(hb:PW X (.BoolOp .And (b::rest) pos) (tFT G g)):PW X (.BoolOp .And (a::b::rest) pos) (tFT G (tY f g)):=PW.weak (PQ ha hb) QD
theorem Kl{a b:Expr}{rest:List Expr}{f g:FT}(ha:PT X a (tFT G f))(hb:PW X (.BoolOp .Or (b::rest) pos) (tFT G g)):PW X (.BoolOp .Or (a::b::rest) pos) (tFT G (uJ f g)):=PW.weak (T3 ha hb) Uz
def ro(f g:FE):FE:=λρ=>match f ρ with
 |some (.bl true,ρ')=>g ρ'
 |some (.bl false,ρ')=>some (.bl false,ρ')
 |_=>none
def Dv(f:FE):FE:=λρ=>match f ρ with
 |some (.bl b,ρ')=>some (.bl !b,ρ')
 |_=>none
def cIf(c:FT)(f g:FE):FE:=λρ=>match c ρ with
 |some (true,ρ')=>f ρ'
 |some (false,ρ')=>g ρ'
 |none=>none
theorem QE{a:Expr}{op}(h:PE X a (tF G f)):PE X (.BoolOp op [a] pos) (tF G f):=PU h
theorem Km:(∃ρ1,f ρ=some (.bl true,ρ1))\/(∃ρ1,f ρ=some (.bl false,ρ1))\/(∀b ρ1,f ρ≠some (.bl b,ρ1)):=by
 by_cases h1:∃ρ1,f ρ=some (.bl true,ρ1)
 ·exact .inl h1
 by_cases h2:∃ρ1,f ρ=some (.bl false,ρ1)
 ·exact .inr (.inl h2)
 refine .inr (.inr λb ρ1 z=>?_);cases b with
 |true=>exact h1 ⟨ρ1,z⟩
 |false=>exact h2 ⟨ρ1,z⟩
theorem IE{g:FE}(h:∀b ρ1,f ρ≠some (.bl b,ρ1)):ro f g ρ=none:=by
 unfold ro;split
 ·rename_i e;exact aq e (h _ _)
 ·rename_i e;exact aq e (h _ _)
 ·rfl
theorem QF{a b:Expr}{rest:List Expr}{g:FE}(ha:PE X a (tF G f))(hb:PE X (.BoolOp .And (b::rest) pos) (tF G g)):PE X (.BoolOp .And (a::b::rest) pos) (tF G (ro f g)):=PE.weak (PV ha hb) λσ H Q hh=>by
 obtain⟨F,ρ,H0,d,ρ',R,e,k⟩:=hh;rcases Km (f:=f) (ρ:=ρ)with ⟨ρ1,e1⟩|⟨ρ1,e1⟩|e1
 ·have e':g ρ1=some (d,ρ'):=by unfold ro at e;simp only[e1]at e;exact e
  refine⟨F,ρ,H0,_,ρ1,R,e1,λv H1 H1' s R' r=>?_⟩;unfold Rep at r;refine⟨true,r,?_⟩;exact El ⟨F,ρ1,H1,d,ρ',R',e',λv H2 H2' s2 R2 r2=>k _ _ _ (s.trans s2) R2 r2⟩
 ·have e':some (D.bl false,ρ1)=some (d,ρ'):=by unfold ro at e;simp only[e1]at e;exact e
  cases e';refine⟨F,ρ,H0,_,_,R,e1,λv H1 H1' s R' r=>?_⟩;have r':=r;unfold Rep at r';refine⟨false,r',?_⟩;exact Ek (k _ _ _ s R' (q9 false))
 ·rw[IE e1]at e;cases e
theorem QG{a:Expr}(ha:PE X a (tF G f)):PE X (.UnaryOp .Not a pos) (tF G (Dv f)):=PE.weak (PX ha) λσ H Q hh=>by
 obtain⟨F,ρ,H0,d,ρ',R,e,k⟩:=hh;unfold Dv at e;split at e
 ·rename_i b ρ1 e1;cases e;refine⟨F,ρ,H0,_,_,R,e1,λv H1 H1' s R' r=>?_⟩;unfold Rep at r;exact⟨b,r,k _ _ _ s R' (q9 _)⟩
 ·cases e
theorem UA{c a b:Expr}{h:FT}{g:FE}(hc:PT X c (tFT G h))(ha:PE X a (tF G f))(hb:PE X b (tF G g)):PE X (.IfExp c a b pos) (tF G (cIf h f g)):=PE.weak (JL hc ha hb) λσ H Q hh=>by
 obtain⟨F,ρ,H0,d,ρ',R,e,k⟩:=hh;unfold cIf at e;cases e1:h ρ with
 |none=>simp only[e1]at e;cases e
 |some p=>
  obtain⟨b,ρ1⟩:=p;refine⟨F,ρ,H0,b,ρ1,R,e1,λH1 H1' s R'=>?_⟩;cases b with
  |true=>simp only[e1]at e;exact El ⟨F,ρ1,H1,d,ρ',R',e,λv H2 H2' s2 R2 r2=>k _ _ _ (s.trans s2) R2 r2⟩
  |false=>simp only[e1]at e;exact Ek ⟨F,ρ1,H1,d,ρ',R',e,λv H2 H2' s2 R2 r2=>k _ _ _ (s.trans s2) R2 r2⟩
noncomputable def ox:FA:=λρ=>some ([],ρ)
noncomputable def nU(f:FE) (g:FA):FA:=λρ=>match f ρ with
 |some (d,ρ1)=>match g ρ1 with
  |some (ds,ρ2)=>some (d::ds,ρ2)
  |none=>none
 |none=>none
theorem xq{g:FA}(h:nU f g ρ=some (ds,ρ')):∃d r ρ1,f ρ=some (d,ρ1)/\g ρ1=some (r,ρ')/\ds=d::r:=by
 unfold nU at h;cases e:f ρ with
 |none=>rw[e]at h;cases h
 |some p=>
  obtain⟨x,ρ1⟩:=p;simp only[e]at h;cases e2:g ρ1 with
  |none=>simp only[e2]at h;cases h
  |some q=>obtain⟨y,ρ2⟩:=q;simp only[e2]at h;cases h;exact⟨x,y,ρ1,rfl,e2,rfl⟩
theorem sq:PA X [] (tFA G ox):=PA.weak uo λσ H Q hh=>by obtain⟨F,ρ,H0,d,ρ',R,e,k⟩:=hh;cases e;exact k _ _ _ (oj.refl _) R oO
theorem rb{g:FA}(ha:PE X e (tF G f))(hr:PA X es (tFA G g))(hs:starEach (e::es) X.env=(false,eval e X.env)::starEach es X.env:=by rfl):PA X (e::es) (tFA G (nU f g)):=PA.weak (qH ha hr hs) λσ H Q hh=>by obtain⟨F,ρ,H0,d,ρ',R,e,k⟩:=hh;obtain⟨x,r,ρ1,e1,e2,rfl⟩:=xq e;exact⟨F,ρ,H0,x,ρ1,R,e1,λv H1 H1' s R' rv=>⟨F,ρ1,H1,r,ρ',R',e2,λxs H2 H2' s2 R2 rs=>k _ _ _ (s.trans s2) R2 (oJ (Rep.mono s2 _ _ rv) rs)⟩⟩
def pG(g:FA):FE:=λρ=>match g ρ with
 |some (ds,ρ')=>if ds.length<=1000 then some (.tup ds,ρ')else none
 |none=>none
def oU(g:FA):FA:=λρ=>match g ρ with
 |some (ds,ρ')=>if ds.length<=1000 then some (ds,ρ')else none
 |none=>none
theorem QH{x1}{g:FA}(h:PA X es (tFA G g)):PE X (.Tuple es x1 pos) (tF G (pG g)):=PE.weak (Qj h) λσ H Q hh=>by
 obtain⟨F,ρ,H0,d,ρ',R,e,k⟩:=hh;unfold pG at e;cases e1:g ρ with
 |none=>simp only[e1]at e;cases e
 |some p=>
  obtain⟨ds,ρ1⟩:=p;simp only[e1]at e;split at e
  ·rename_i hl;cases e;refine⟨F,ρ,H0,_,_,R,e1,λxs H1 H1' s R' rs=>⟨by rw[<-n8 rs];exact r6 hl,λp hp=>?_⟩⟩;exact k _ _ _ (s.trans (oh (R'.h0none hp) _)) (R'.newIm hp _) (sS (SqT.of oa) (nZ.mono (oh (R'.h0none hp) _) _ _ rs))
  ·cases e
theorem Nt{g:FA}(h:PA X es (tFA G g)):PE X (.List es pos) (tFN G (oU g)):=PE.weak (JZ h) λσ H Q hh=>by
 obtain⟨F,ρ,H0,d,ρ',R,e,k⟩:=hh;unfold oU at e;cases e1:g ρ with
 |none=>simp only[e1]at e;cases e
 |some p=>
  obtain⟨ds,ρ1⟩:=p;simp only[e1]at e;split at e
  ·rename_i hl;cases e;refine⟨F,ρ,H0,_,_,R,e1,λxs H1 H1' s R' rs=>⟨by rw[<-n8 rs];exact r6 hl,λp hp=>?_⟩⟩;exact k _ _ _ _ s (R'.newOwn hp _) oa (R'.h0none hp) (R'.bNone hp) (R'.apart hp) rs
  ·cases e
def cL(g:FA):FE:=λρ=>match g ρ with
 |some (ds,ρ')=>some (.lst ds,ρ')
 |none=>none
theorem Nu{g:FA}(h:cL g ρ=some (d,ρ')):∃ds,g ρ=some (ds,ρ')/\d=.lst ds:=by
 unfold cL at h;cases e:g ρ with
 |none=>simp only[e]at h;cases h
 |some p=>obtain⟨ds,ρ1⟩:=p;simp only[e]at h;cases h;exact⟨ds,rfl,rfl⟩
theorem UB{g:FA}:∀σ H Q,tF G (cL g) σ H Q->tFN G g σ H Q:=λσ H Q hh=>by obtain⟨F,ρ,H0,d,ρ',R,e,k⟩:=hh;obtain⟨ds,e1,rfl⟩:=Nu e;refine⟨F,ρ,H0,ds,ρ',R,e1,λp xs H1 H1' s R' hp h0 hb ap rs=>?_⟩;exact k _ _ _ (s.trans (oh h0 _)) (R'.freeze hp h0 hb ap) (tX oa (nZ.mono (oh h0 _) _ _ rs))
theorem QI{g:FA}(h:PE X e (tFN G g)):PE X e (tF G (cL g)):=PE.weak h UB
end
inductive Out where
 |nx (ρ:aU)|bk (ρ:aU)|ct (ρ:aU)
 |rt (d:D) (ρ:aU)
 |rn (ds:aC) (ρ:aU)
abbrev FS:=aU->Option Out
def G7(G:Bg)(F:Fr)(H0:Hp)(E:Ends):Out->Prop
 |.nx ρ'=>∀σ' H0' H',oj H0 H0'->oq G F σ' ρ' H0' H'->E.nx σ' H'
 |.bk ρ'=>∀σ' H0' H',oj H0 H0'->oq G F σ' ρ' H0' H'->E.bk σ' H'
 |.ct ρ'=>∀σ' H0' H',oj H0 H0'->oq G F σ' ρ' H0' H'->E.ct σ' H'
 |.rt d ρ'=>∀v σ' H0' H',oj H0 H0'->oq G F σ' ρ' H0' H'->Rep G H0' d v->E.rt v H'
 |.rn ds ρ'=>∀p xs σ' H0' H',oj H0 H0'->oq G F σ' ρ' H0' H'->H' p=some (.lst xs)->H0' p=none->F.B p=none->Apart σ' ρ' p->nZ G H0' ds xs->E.rt (.ref p) H'
def tFS(G:Bg)(f:FS):TS:=λE σ H=>∃F ρ H0 o,oq G F σ ρ H0 H/\f ρ=some o/\G7 G F H0 E o/\(∀p,E.rt p=E.rt p)
variable{H1:Hp}
theorem G7.back{E:Ends}{o:Out}(h:G7 G F H0 E o)(s:oj H0 H1):G7 G F H1 E o:=by
 cases o with
 |nx ρ=>exact λσ' H0' H' s' R=>h σ' H0' H' (s.trans s') R
 |bk ρ=>exact λσ' H0' H' s' R=>h σ' H0' H' (s.trans s') R
 |ct ρ=>exact λσ' H0' H' s' R=>h σ' H0' H' (s.trans s') R
 |rt d ρ=>exact λv σ' H0' H' s' R=>h v σ' H0' H' (s.trans s') R
 |rn ds ρ=>exact λp xs σ' H0' H' s' R=>h p xs σ' H0' H' (s.trans s') R
theorem PS.weak{e:Stmt}{t t':TS}(h:PS X e t)(w:∀E σ H,t' E σ H->t E σ H):PS X e t':=λpins s σ H D I hq=>h pins s σ H D I (w _ _ _ hq)
theorem PSs.weak{e:List Stmt}{t t':TS}(h:PSs X e t)(w:∀E σ H,t' E σ H->t E σ H):PSs X e t':=λpins s σ H D I hq=>h pins s σ H D I (w _ _ _ hq)
def o5:FS:=λρ=>some (.nx ρ)
noncomputable def n9(f g:FS):FS:=λρ=>match f ρ with
 |some (.nx ρ')=>g ρ'
 |r=>r
variable{σ:St}{st:Stmt}{tg:Expr}{gs:aC->aU->Option aU}{N:aG}{vs:bp}{np:Nat}
section
variable{X:Cx}{G:Bg}
theorem QJ{E:Ends}{H:Hp}(h:tFS G o5 E σ H):E.nx σ H:=by obtain⟨F,ρ,H0,o,R,e,k,_⟩:=h;cases e;exact k _ _ _ (oj.refl _) R
theorem Nv:PSs X [] (tFS G o5):=PSs.weak MK λE σ H h=>QJ h
theorem Kn{rest:List Stmt}{f g:FS}(h1:PS X st (tFS G f))(h2:PSs X rest (tFS G g)):PSs X (st::rest) (tFS G (n9 f g)):=PSs.weak (Al h1 h2) λE σ H h=>by
 obtain⟨F,ρ,H0,o,R,e,k,k2⟩:=h;unfold n9 at e;cases e1:f ρ with
 |none=>simp only[e1]at e;cases e
 |some o1=>
  cases o1 with
  |nx ρ1=>simp only[e1]at e;exact⟨F,ρ,H0,_,R,e1,λσ' H0' H' s R'=>⟨F,ρ1,H0',o,R',e,k.back s,k2⟩,k2⟩
  |bk ρ1=>simp only[e1]at e;cases e;exact⟨F,ρ,H0,_,R,e1,k,k2⟩
  |ct ρ1=>simp only[e1]at e;cases e;exact⟨F,ρ,H0,_,R,e1,k,k2⟩
  |rt d ρ1=>simp only[e1]at e;cases e;exact⟨F,ρ,H0,_,R,e1,k,k2⟩
  |rn d ρ1=>simp only[e1]at e;cases e;exact⟨F,ρ,H0,_,R,e1,k,k2⟩
theorem Nw{f:FS}(h1:PS X st (tFS G f)):PSs X [st] (tFS G f):=Dg h1
noncomputable def oQ(f:FE):FS:=λρ=>match f ρ with
 |some (d,ρ')=>some (.rt d ρ')
 |none=>none
noncomputable def qI(f:FA):FS:=λρ=>match f ρ with
 |some (d,ρ')=>some (.rn d ρ')
 |none=>none
theorem oK{α:Type}{f:aU->Option (α×aU)}:f ρ=none\/∃d ρ',f ρ=some (d,ρ'):=by
 cases e:f ρ with
 |none=>exact .inl rfl
 |some p=>exact .inr ⟨p.1,p.2,rfl⟩
theorem Nx(h:PE X e (tF G f)):PS X (.Return (some e) pos) (tFS G (oQ f)):=PS.weak (Fw h) λE σ H hh=>by
 obtain⟨F,ρ,H0,o,R,e,k,k2⟩:=hh;unfold oQ at e;rcases oK (f:=f) (ρ:=ρ)with e1|⟨d,ρ',e1⟩<;>simp only[e1]at e
 ·cases e
 ·cases e;exact⟨F,ρ,H0,d,ρ',R,e1,λv H0' H' s R' r=>k _ _ _ _ s R' r⟩
theorem Ko{f:FA}(h:PE X e (tFN G f)):PS X (.Return (some e) pos) (tFS G (qI f)):=PS.weak (Fw h) λE σ H hh=>by
 obtain⟨F,ρ,H0,o,R,e,k,k2⟩:=hh;unfold qI at e;rcases oK (f:=f) (ρ:=ρ)with e1|⟨d,ρ',e1⟩<;>simp only[e1]at e
 ·cases e
 ·cases e;exact⟨F,ρ,H0,d,ρ',R,e1,λp xs H0' H' s R' h1 h2 h3 h4 h5=>k _ _ _ _ _ s R' h1 h2 h3 h4 h5⟩
noncomputable def oV(f:FE):FS:=λρ=>match f ρ with
 |some (_,ρ')=>some (.nx ρ')
 |none=>none
theorem Kp(h:PE X e (tF G f))(hs:swapsWith e none pos.line X.env=pure false:=by rfl):PS X (.Expr e pos) (tFS G (oV f)):=PS.weak (GQ h hs) λE σ H hh=>by
 obtain⟨F,ρ,H0,o,R,e,k,k2⟩:=hh;unfold oV at e;rcases oK (f:=f) (ρ:=ρ)with e1|⟨d,ρ',e1⟩<;>simp only[e1]at e
 ·cases e
 ·cases e;exact⟨F,ρ,H0,d,ρ',R,e1,λv H0' H' s R' r=>k _ _ _ s R'⟩
noncomputable def sIf(c:FT) (f g:FS):FS:=λρ=>match c ρ with
 |some (true,ρ')=>f ρ'
 |some (false,ρ')=>g ρ'
 |none=>none
theorem QK{c:Expr}{a b:List Stmt}{h:FT}{f g:FS}(hc:PT X c (tFT G h))(ha:PSs X a (tFS G f))(hb:PSs X b (tFS G g)):PS X (.If c a b pos) (tFS G (sIf h f g)):=PS.weak (T8 hc ha hb) λE σ H hh=>by
 obtain⟨F,ρ,H0,o,R,e,k,k2⟩:=hh;unfold sIf at e;rcases oK (f:=h) (ρ:=ρ)with e1|⟨d,ρ',e1⟩
 ·simp only[e1]at e;cases e
 ·refine⟨F,ρ,H0,d,ρ',R,e1,λH0' H' s R'=>?_⟩;cases d with
  |true=>simp only[e1]at e;exact El ⟨F,ρ',H0',o,R',e,k.back s,k2⟩
  |false=>simp only[e1]at e;exact Ek ⟨F,ρ',H0',o,R',e,k.back s,k2⟩
abbrev FG:=D->aU->Option aU
def tFG(G:Bg)(n:Nat)(g:FG):TG:=λv σ H Q=>∃F ρ H0 d ρ',oq G F σ ρ H0 H/\Rep G H0 d v/\g d ρ=some ρ'/\∀σ',σ'.drop n=σ.drop n->oq G F σ' ρ' H0 H->Q σ' H
def Kq(G:Bg)(n:Nat)(g:aC->aU->Option aU):TGs:=λvs σ H Q=>∃F ρ H0 ds ρ',oq G F σ ρ H0 H/\nZ G H0 ds vs/\g ds ρ=some ρ'/\∀σ',σ'.drop n=σ.drop n->oq G F σ' ρ' H0 H->Q σ' H
theorem PG.weak{t t':TG}(h:PG X e t)(w:∀v σ H Q,t' v σ H Q->t v σ H Q):PG X e t':=λpins s σ H x u Q I r hq=>h pins s σ H x u Q I r (w _ _ _ _ hq)
theorem PGs.weak{e:List Expr}{t t':TGs}(h:PGs X e t)(w:∀v σ H Q,t' v σ H Q->t v σ H Q):PGs X e t':=λpins s σ H x u Q I r hq=>h pins s σ H x u Q I r (w _ _ _ _ hq)
def gN(i:Nat):FG:=λd ρ=>some (ρ.set i (.im d))
theorem Es{α:Type}{l:List α}{n:Nat}{x:α}(h:i<n):(l.set i x).drop n=l.drop n:=by apply mr;intro j;rw[dv,dv,bQ,aj (by omega)]
theorem Kr(n:Nat)(h:PG X tg (uF i))(hi:i<n):PG X tg (tFG G n (gN i)):=PG.weak h λv σ H Q hh=>by obtain⟨F,ρ,H0,d,ρ',R,r,e,k⟩:=hh;cases e;exact k _ (Es hi) (R.setIm i r)
def pT:aC->aU->Option aU:=λds ρ=>match ds with
 |[]=>some ρ
 |_=>none
def oo(g:FG)(gs:aC->aU->Option aU):aC->aU->Option aU:=λds ρ=>match ds with
 |d::r=>match g d ρ with
  |some ρ'=>gs r ρ'
  |none=>none
 |[]=>none
theorem Ny{n:Nat}(h:PGs X [] T9):PGs X [] (Kq G n pT):=PGs.weak h λv σ H Q hh=>by
 obtain⟨F,ρ,H0,ds,ρ',R,r,e,k⟩:=hh;cases ds with
 |nil=>cases e;unfold nZ at r;exact⟨r,k _ rfl R⟩
 |cons d ds=>cases e
theorem Ks{n:Nat}{g:FG}(h:PGs X (e::es) (Pb (tFG G n g) (Kq G n gs))):PGs X (e::es) (Kq G n (oo g gs)):=PGs.weak h λv σ H Q hh=>by
 obtain⟨F,ρ,H0,ds,ρ',R,r,e,k⟩:=hh;cases ds with
 |nil=>cases e
 |cons d ds=>
  unfold nZ at r;obtain⟨v1,r1,rfl,q1,q2⟩:=r;unfold oo at e;cases e1:g d ρ with
  |none=>simp only[e1]at e;cases e
  |some ρ1=>simp only[e1]at e;exact⟨v1,r1,rfl,F,ρ,H0,d,ρ1,R,q1,e1,λσ' s R'=>⟨F,ρ1,H0,ds,ρ',R',q2,e,λσ'' s' R''=>k _ (s'.trans s) R''⟩⟩
def gT(gs:aC->aU->Option aU)(n:Nat):FG:=λd ρ=>match d with
 |.tup ds=>if ds.length=n then gs ds ρ else none
 |_=>none
theorem NA{n m:Nat}{k:Nat}(h:PG X (.Tuple es k pos) (PY G.K m (Kq G n gs))):PG X (.Tuple es k pos) (tFG G n (gT gs m)):=PG.weak h λv σ H Q hh=>by
 obtain⟨F,ρ,H0,d,ρ',R,r,e,k⟩:=hh;cases d with
 |tup ds=>
  unfold gT at e;simp only at e;split at e
  ·rename_i hl;unfold Rep at r;obtain⟨a,xs,rfl,h1,h2⟩:=r;exact⟨a,xs,rfl,SqT.mono R.sub h1,by rw[<-n8 h2];exact hl,F,ρ,H0,ds,ρ',R,h2,e,k⟩
  ·cases e
 |_=>cases e
def IF(f:FE)(g:FG):FS:=λρ=>match f ρ with
 |some (d,ρ')=>match g d ρ' with
  |some ρ2=>some (.nx ρ2)
  |none=>none
 |none=>none
theorem NB{g:FG}{n:Nat}(h:PS X st (yI (tF G f) (tFG G n g))):PS X st (tFS G (IF f g)):=PS.weak h λE σ H hh=>by
 obtain⟨F,ρ,H0,o,R,e,k,k2⟩:=hh;unfold IF at e;rcases oK (f:=f) (ρ:=ρ)with e1|⟨d,ρ',e1⟩<;>simp only[e1]at e
 ·cases e
 ·cases e2:g d ρ' with
  |none=>simp only[e2]at e;cases e
  |some ρ2=>simp only[e2]at e;cases e;exact⟨F,ρ,H0,d,ρ',R,e1,λv H0' H' s R' r=>⟨F,ρ',H0',d,ρ2,R',r,e2,λσ' _ R2=>k _ _ _ s R2⟩⟩
def oT(i:Nat)(f:FE):FS:=λρ=>match f ρ with
 |some (d,ρ')=>some (.nx (ρ'.set i (.im d)))
 |none=>none
theorem G8(h:PS X st (yI (tF G f) (uF i))):PS X st (tFS G (oT i f)):=PS.weak h λE σ H hh=>by
 obtain⟨F,ρ,H0,o,R,e,k,k2⟩:=hh;unfold oT at e;rcases oK (f:=f) (ρ:=ρ)with e1|⟨d,ρ',e1⟩<;>simp only[e1]at e
 ·cases e
 ·cases e;exact⟨F,ρ,H0,d,ρ',R,e1,λv H0' H' s R' r=>k _ _ _ s (R'.setIm i r)⟩
def tD(i:Nat)(f:FA):FS:=λρ=>match f ρ with
 |some (d,ρ')=>some (.nx (ρ'.set i (.ls d)))
 |none=>none
theorem Kt{f:FA}(h:PS X st (yI (tFN G f) (uF i))):PS X st (tFS G (tD i f)):=PS.weak h λE σ H hh=>by
 obtain⟨F,ρ,H0,o,R,e,k,k2⟩:=hh;unfold tD at e;rcases oK (f:=f) (ρ:=ρ)with e1|⟨d,ρ',e1⟩<;>simp only[e1]at e
 ·cases e
 ·cases e;exact⟨F,ρ,H0,d,ρ',R,e1,λp xs H0' H' s R' h1 h2 h3 h4 h5=>k _ _ _ s (R'.setLs i h1 h2 h3 h4 h5)⟩
def stE(n:Nat)(ds:aC):aU:=ds.map Sl.im++f9 (n - ds.length) .un
def fnD(np n:Nat)(f:FS):aC->Option D:=λds=>if ds.length=np then match f (stE n ds)with
 |some (.rt d _)=>some d
 |some (.rn ds _)=>some (.lst ds)
 |some (.nx _)=>some .non
 |_=>none
 else none
def fnN(np n:Nat)(f:FS):aC->Option aC:=λds=>if ds.length=np then match f (stE n ds)with
 |some (.rn ds _)=>some ds
 |_=>none
 else none
def spF(G:Bg)(g:aC->Option D):Sp:=λvs H Q _=>∃H0 ds d,oj H0 H/\nZ G H0 ds vs/\g ds=some d/\
 ∀v H0' H',oj H0 H0'->oj H0' H'->oj H H'->(∀b o,H0' b=some o->H0 b=some o\/H b=none)->Rep G H0' d v->Q v H'
def spN(G:Bg)(g:aC->Option aC):Sp:=λvs H Q _=>∃H0 ds d,oj H0 H/\nZ G H0 ds vs/\g ds=some d/\
 ∀p xs H0' H',oj H0 H0'->oj H0' H'->oj H H'->(∀b o,H0' b=some o->H0 b=some o\/H b=none)->H p=none->H' p=some (.lst xs)->H0' p=none->nZ G H0' d xs->Q (.ref p) H'
theorem Ad{n:Nat}{s:Sl}(h:(stE n ds)[i]?=some s):s=.un\/∃d,ds[i]?=some d/\s=.im d:=by
 unfold stE at h;by_cases hi:i<ds.length
 ·rw[c8 (by simpa using hi),bt,aI hi]at h;cases h;exact .inr ⟨_,aI hi,rfl⟩
 ·rw[c7 (by simpa using hi),fO]at h;split at h
  ·cases h;exact .inl rfl
  ·cases h
theorem r9{v:V}(h:vs[i]?=some v):((L2.start N vs)[i]?).join=some v:=by unfold L2.start;have hi:=(bP.mp h).1;rw[c8 (by simpa using hi),bt,h];rfl
theorem Ci{H:Hp}(s:oj H0 H)(r:nZ G H0 ds vs)(hl:vs.length<=N.length):oq G ⟨H0,H,[]⟩ (L2.start N vs) (stE N.length ds) H0 H where
 sub:=s
 g0:=oj.refl _
 keep:=λb o e _=>e
 fr:=λb o e=>.inl e
 am:=λa h=>by cases h
 len:=by unfold L2.start stE;rw[ay,ay,ah,ah,cf,cf,n8 r]
 sl:=λi t e=>by
  rcases Ad e with rfl|⟨d,e1,rfl⟩
  ·trivial
  ·obtain⟨v,e2,e3⟩:=pS r e1;exact⟨v,r9 e2,e3⟩
 ap:=λi j t u a _ e _ ht=>by rcases Ad e with rfl|⟨d,_,rfl⟩<;>cases ht
theorem Et{n:Nat}{f:FS}(h:fnD np n f ds=some d):ds.length=np/\((∃ρ,f (stE n ds)=some (.rt d ρ))\/(∃xs ρ,f (stE n ds)=some (.rn xs ρ)/\d=.lst xs)\/∃ρ,f (stE n ds)=some (.nx ρ)/\d=.non):=by
 unfold fnD at h;split at h
 ·rename_i hl;refine⟨hl,?_⟩;split at h
  ·rename_i e;cases h;exact .inl ⟨_,e⟩
  ·rename_i e;cases h;exact .inr (.inl ⟨_,_,e,rfl⟩)
  ·rename_i e;cases h;exact .inr (.inr ⟨_,e,rfl⟩)
  ·cases h
 ·cases h
theorem Eu{n:Nat}{f:FS}{xs:aC}(h:fnN np n f ds=some xs):ds.length=np/\∃ρ,f (stE n ds)=some (.rn xs ρ):=by
 unfold fnN at h;split at h
 ·rename_i hl;refine⟨hl,?_⟩;split at h
  ·rename_i e;cases h;exact⟨_,e⟩
  ·cases h
 ·cases h
end
variable{E:XK}
theorem NC{f:FS}{H:Hp}{Q:VK}(hN:np<=N.length)(h:spF G (fnD np N.length f) vs H Q E):tFS G f { nx:=λ_ H'=>Q .non H',rt:=Q } (L2.start N vs) H:=by
 obtain⟨H0,ds,d,s,r,e,k⟩:=h;obtain⟨hl,e'⟩:=Et e;clear e;have R:=Ci (N:=N) s r (by rw[<-n8 r,hl];exact hN);have fin:∀{σ':St} {ρ':aU} {H0' H':Hp},oq G ⟨H0,H,[]⟩ σ' ρ' H0' H'->oj H H'/\oj H0' H'/\∀b o,H0' b=some o->H0 b=some o\/H b=none:=λR'=>⟨λb o e=>R'.keep b o e (by simp),R'.sub,R'.fr⟩;rcases e' with ⟨ρ,e⟩|⟨xs,ρ,e,rfl⟩|⟨ρ,e,rfl⟩
 ·refine⟨_,_,H0,_,R,e,λv σ' H0' H' s' R' rv=>?_,λ_=>rfl⟩;obtain⟨h1,h2,h3⟩:=fin R';exact k v H0' H' s' h2 h1 h3 rv
 ·refine⟨_,_,H0,_,R,e,λp ys σ' H0' H' s' R' hp h0 hb ap rs=>?_,λ_=>rfl⟩;have R2:=R'.freeze hp h0 hb ap;obtain⟨h1,h2,h3⟩:=fin R2;exact k _ _ H' (s'.trans (oh h0 _)) h2 h1 h3 (tX oa (nZ.mono (oh h0 _) _ _ rs))
 ·refine⟨_,_,H0,_,R,e,λσ' H0' H' s' R'=>?_,λ_=>rfl⟩;obtain⟨h1,h2,h3⟩:=fin R';exact k _ H0' H' s' h2 h1 h3 xX
theorem ND{f:FS}{H:Hp}{Q:VK}(hN:np<=N.length)(h:spN G (fnN np N.length f) vs H Q E):tFS G f { nx:=λ_ H'=>Q .non H',rt:=Q } (L2.start N vs) H:=by obtain⟨H0,ds,d,s,r,e,k⟩:=h;obtain⟨hl,ρ,e⟩:=Eu e;have R:=Ci (N:=N) s r (by rw[<-n8 r,hl];exact hN);refine⟨_,_,H0,_,R,e,λp ys σ' H0' H' s' R' hp h0 hb ap rs=>?_,λ_=>rfl⟩;exact k p ys H0' H' s' R'.sub (λb o e=>R'.keep b o e (by simp)) R'.fr hb hp h0 rs
theorem UC{g:aC->Option D}(hg:∀ds d,g ds=some d->ds.length=np):∀vs H Q E,spF G g vs H Q E->vs.length=np:=λvs H Q E h=>by obtain⟨H0,ds,d,_,r,e,_⟩:=h;rw[<-n8 r];exact hg _ _ e
theorem UD{g:aC->Option aC}(hg:∀ds d,g ds=some d->ds.length=np):∀vs H Q E,spN G g vs H Q E->vs.length=np:=λvs H Q E h=>by obtain⟨H0,ds,d,_,r,e,_⟩:=h;rw[<-n8 r];exact hg _ _ e
theorem NF{n:Nat}{f:FS}:∀ds d,fnD np n f ds=some d->ds.length=np:=λ_ _ h=>(Et h).1
theorem NG{n:Nat}{f:FS}:∀ds d,fnN np n f ds=some d->ds.length=np:=λ_ _ h=>(Eu h).1
def yO{α:Type}(g:aC->Option α)(a:FA):aU->Option (α×aU):=λρ=>match a ρ with
 |some (ds,ρ')=>match g ds with
  |some d=>some (d,ρ')
  |none=>none
 |none=>none
abbrev n4(g:aC->Option D)(a:FA):FE:=yO g a
abbrev o6(g:aC->Option aC)(a:FA):FA:=yO g a
theorem xt{α:Type}{g:aC->Option α}{a:FA}{d:α}(h:yO g a ρ=some (d,ρ')):∃ds,a ρ=some (ds,ρ')/\g ds=some d:=by
 unfold yO at h;rcases oK (f:=a) (ρ:=ρ)with e1|⟨ds,ρ1,e1⟩<;>simp only[e1]at h
 ·cases h
 ·cases e2:g ds with
  |none=>simp only[e2]at h;cases h
  |some x=>simp only[e2]at h;cases h;exact⟨ds,e1,e2⟩
variable{dvs:bp}{dds:aC}
section
variable{X:Cx}{G:Bg}
theorem NH{g:aC->Option D}{a:FA}(hd:∀H,nZ G H dds dvs):∀σ H Q,tF G (n4 (λds=>g (ds++dds)) a) σ H Q->wY (spF G g) dvs E (tFA G a) σ H Q:=λσ H Q hh=>by obtain⟨F,ρ,H0,d,ρ',R,e,k⟩:=hh;obtain⟨ds,e1,e2⟩:=xt e;refine⟨F,ρ,H0,ds,ρ',R,e1,λxs H1 H1' s R' rs=>⟨H1,ds++dds,d,R'.sub,qe rs (hd _),e2,λv H2 H2' s1 s2 s3 fr rv=>?_⟩⟩;exact k v H2 H2' (s.trans s1) (R'.grow s3 s1 s2 fr) rv
theorem NI{g:aC->Option aC}{a:FA}(hd:∀H,nZ G H dds dvs):∀σ H Q,tFN G (o6 (λds=>g (ds++dds)) a) σ H Q->wY (spN G g) dvs E (tFA G a) σ H Q:=λσ H Q hh=>by obtain⟨F,ρ,H0,d,ρ',R,e,k⟩:=hh;obtain⟨ds,e1,e2⟩:=xt e;refine⟨F,ρ,H0,ds,ρ',R,e1,λxs H1 H1' s R' rs=>⟨H1,ds++dds,d,R'.sub,qe rs (hd _),e2,λp ys H2 H2' s1 s2 s3 fr hn hp h0 rv=>?_⟩⟩;exact k p ys H2 H2' (s.trans s1) (R'.grow s3 s1 s2 fr) hp h0 (R'.bNone hn) (R'.apart hn) rv
end
variable{ff:FE}{m:Str}{ta:TE}{apos:Pos}{c:Nat}
section
variable{X:Cx}{G:Bg}
theorem NJ{g:aC->Option D}{a:FA}(hd:∀H,nZ G H dds dvs)(h:PE X e (wY (spF G g) dvs E (tFA G a))):PE X e (tF G (n4 (λds=>g (ds++dds)) a)):=PE.weak h (NH hd)
theorem Ku{g:aC->Option aC}{a:FA}(hd:∀H,nZ G H dds dvs)(h:PE X e (wY (spN G g) dvs E (tFA G a))):PE X e (tFN G (o6 (λds=>g (ds++dds)) a)):=PE.weak h (NI hd)
theorem IG{g:aC->Option aC}(h:PE X e (wY (spN G g) [] E Ec)):PE X e (tFN G (o6 g ox)):=PE.weak h λσ H Q hh=>by obtain⟨F,ρ,H0,d,ρ',R,e,k⟩:=hh;obtain⟨ds,e1,e2⟩:=xt e;cases e1;exact⟨H0,[],d,R.sub,oO,e2,λp ys H2 H2' s1 s2 s3 fr hn hp h0 rv=>k p ys H2 H2' s1 (R.grow s3 s1 s2 fr) hp h0 (R.bNone hn) (R.apart hn) rv⟩
def IH:aG->aC->Str->Option D
 |n::ns,d::ds,f=>if n=f then some d else IH ns ds f
 |_,_,_=>none
theorem Cj{H:Hp}:∀{ns:aG} {ds:aC} {xs:bp} {f:Str} {d:D},nZ G H ds xs->IH ns ds f=some d->∃v,(ns.zip xs).lookup f=some v/\Rep G H d v
 |[],ds,xs,f,d,r,e=>by simp[IH]at e
 |n::ns,[],xs,f,d,r,e=>by simp[IH]at e
 |n::ns,d'::ds,xs,f,d,r,e=>by
  unfold nZ at r;obtain⟨v,q,rfl,h1,h2⟩:=r;unfold IH at e;by_cases hn:n=f
  ·rw[ai hn]at e;cases e;subst hn;exact⟨v,by simp[cH],h1⟩
  ·rw[aj hn]at e;obtain⟨w,e1,e2⟩:=Cj h2 e;refine⟨w,?_,e2⟩;have hb:(f==n)=false:=beq_eq_false_iff_ne.mpr λz=>hn z.symm;simp only[dc,cH,hb];exact e1
def oF(ok:Nat->Bool)(f:Str):D->Option D
 |.obj c ns ds=>if ok c=true then IH ns ds f else none
 |_=>none
theorem Kv{f:Str}{ok:Nat->Bool}(he:PE X e (tF G ff))(hc:∀c,ok c=true->Cls X.K (G.ca c)/\tw X.K (G.ca c) f)(hb:attributeBase e f X.env (eval e X.env)=eval e X.env:=by rfl):PE X (.Attribute e f pos) (tF G (c1 (oF ok f) ff)):=PE.weak (Qh he hb) λσ H Q hh=>by
 obtain⟨F,ρ,H0,d,ρ',R,e,k⟩:=hh;obtain⟨x,e1,e2⟩:=Ac e;cases x with
 |obj c ns ds=>
  unfold oF at e2;simp only at e2;split at e2
  ·rename_i hk;refine⟨F,ρ,H0,_,ρ',R,e1,λv H1 H1' s R' r=>?_⟩;unfold Rep at r;obtain⟨a,dx,xs,rfl,h1,h2,h3⟩:=r;obtain⟨w,l1,l2⟩:=Cj h3 e2;exact⟨a,_,dx,_,w,rfl,R'.sub _ _ h1,(hc c hk).1,(hc c hk).2,l1,k _ _ _ s R' l2⟩
  ·cases e2
 |_=>cases e2
def MOk(X:Cx)(C:Addr)(m:Str)(sp:Sp)(dvs:bp)(E:XK):Prop:=∃(k:Nat) (f:Addr) (fd:bL) (ps:aG) (ds:List aa),Cls X.K C/\Meth X.K C m f/\sF X.prog X.w X.K X.mg X.base CX0 k f fd ps sp/\qa k X.A/\Binds X.K fd ps ds/\Vals dvs ds/\Passes CX0 X E
def pj(g:Nat->Option (aC->Option D))(m:Str)(f:FE)(a:FA):FE:=λρ=>match f ρ with
 |some (.obj c ns ds,ρ1)=>match g c with
  |some h=>if ns.contains m=true then none else match a ρ1 with
   |some (es,ρ2)=>match h (.obj c ns ds::es)with
    |some d=>some (d,ρ2)
    |none=>none
   |none=>none
  |none=>none
 |_=>none
theorem AF{g:Nat->Option (aC->Option D)}{a:FA}(h:pj g m f a ρ=some (d,ρ')):
  ∃c ns ds ρ1 hh es,f ρ=some (.obj c ns ds,ρ1)/\g c=some hh/\ns.contains m=false/\a ρ1=some (es,ρ')/\hh (.obj c ns ds::es)=some d:=by
 unfold pj at h;split at h
 ·rename_i c ns ds ρ1 e1;cases e2:g c with
  |none=>simp only[e2]at h;cases h
  |some hh=>
   simp only[e2]at h;cases e3:ns.contains m with
   |true=>simp only[e3,if_true]at h;cases h
   |false=>
    simp only[e3,fm,if_false]at h;rcases oK (f:=a) (ρ:=ρ1)with e4|⟨es,ρ2,e4⟩<;>simp only[e4]at h
    ·cases h
    ·cases e5:hh (.obj c ns ds::es)with
     |none=>simp only[e5]at h;cases h
     |some x=>simp only[e5]at h;cases h;exact⟨c,ns,ds,ρ1,hh,es,e1,e2,e3,e4,e5⟩
 ·cases h
theorem xu{m:Str}:∀{ns:aG} {xs:bp},ns.contains m=false->(ns.zip xs).lookup m=none
 |[],xs,h=>rfl
 |n::ns,[],h=>rfl
 |n::ns,x::xs,h=>by rw[me,jv]at h;simp only[dc,cH,h.1];exact xu h.2
theorem Kw{o:Expr}{t:TA}{pl:Sem Bool}(T:Addr->Sp->Prop)(hT:∀C sp,T C sp->MOk X C m sp dvs E)(he:PE X o ta)(ha:PA X (e::es) t)
  (hst:starEach (e::es) X.env=(false,eval e X.env)::starEach es X.env:=by rfl) (hpl:(backTo pos (starEach es X.env)).any (·.1)=false:=by rfl)
  (ht:eval (.Call (.Attribute o m apos) (e::es) [] pos) X.env=(do
   let ov<-eval o X.env
   standAt apos.atName
   let (f,first)<-holding [ov] (getMethod ov m pl)
   callWith pos f first (backTo pos (starEach (e::es) X.env)) (backToKw pos (keywordEach [] X.env))):=by rfl):
  PE X (.Call (.Attribute o m apos) (e::es) [] pos) (λσ H Q=>ta σ H λx H1=>∃a C dx fs sp,x=.ref a/\H1 a=some (.ins C dx fs)/\T C sp/\fs.lookup m=none/\t σ H1 λvs H2=>sp (x::(vs++dvs)) H2 Q E):=by
 intro pins s σ H Q I h;refine mP (pl:=pl) (thn (he pins s σ H _ I h) λu s1 ⟨x,H1,I1,rx,a,C,dx,fs,sp,ex,ea,ht,l,q⟩=>?_) ht;obtain⟨k,f,fd,ps,ds,c,hm,F,hr,hb,hd,hx⟩:=hT C sp ht;subst ex;obtain rfl:u=Value.ref a:=rx;refine Ao I1 ea c hm l ?_;refine j6 (first:=[.ref a]) (h₀:=X.base) I.ok.mod.kin hm.kp (thn (ha pos pins s1 σ H1 _ I1 q) λus s2 ⟨vs,H2,I2,r,q2⟩=>⟨I2.kIn,?_⟩) hst hpl;exact Dh (us:=.ref a::us) (vs:=.ref a::vs) F hr hb hd hx I2 (.cons rfl r) q2
theorem II{o:Expr}{pl:Sem Bool}(T:Addr->Sp->Prop)(hT:∀C sp,T C sp->MOk X C m sp dvs E)(he:PE X o ta)
  (ht:eval (.Call (.Attribute o m apos) [] [] pos) X.env=(do
   let ov<-eval o X.env
   standAt apos.atName
   let (f,first)<-holding [ov] (getMethod ov m pl)
   callWith pos f first (backTo pos (starEach [] X.env)) (backToKw pos (keywordEach [] X.env))):=by rfl):
  PE X (.Call (.Attribute o m apos) [] [] pos) (λσ H Q=>ta σ H λx H1=>∃a C dx fs sp,x=.ref a/\H1 a=some (.ins C dx fs)/\T C sp/\fs.lookup m=none/\sp (x::dvs) H1 Q E):=by
 intro pins s σ H Q I h;refine mP (pl:=pl) (thn (he pins s σ H _ I h) λu s1 ⟨x,H1,I1,rx,a,C,dx,fs,sp,ex,ea,ht,l,q⟩=>?_) ht;obtain⟨k,f,fd,ps,ds,c,hm,F,hr,hb,hd,hx⟩:=hT C sp ht;subst ex;obtain rfl:u=Value.ref a:=rx;refine Ao I1 ea c hm l ?_;exact W.callWith_K0 (first:=[.ref a]) I1.kIn hm.kp (Dh (us:=[.ref a]) (vs:=[.ref a]) F hr hb hd hx I1 (.cons rfl .nil) q)
def MT(G:Bg)(g:Nat->Option (aC->Option D)):Addr->Sp->Prop:=λC sp=>∃c h,g c=some h/\C=G.ca c/\sp=spF G h
theorem NK{o:Expr}{a:FA}{g:Nat->Option (aC->Option D)}(h:PE X (.Call (.Attribute o m apos) (e::es) [] pos) (λσ H Q=>tF G f σ H λx H1=>∃a' C dx fs sp,x=.ref a'/\H1 a'=some (.ins C dx fs)/\MT G g C sp/\fs.lookup m=none/\tFA G a σ H1 λvs H2=>sp (x::(vs++[])) H2 Q E)):
  PE X (.Call (.Attribute o m apos) (e::es) [] pos) (tF G (pj g m f a)):=PE.weak h λσ H Q hh=>by
 obtain⟨F,ρ,H0,d,ρ',R,e,k⟩:=hh;obtain⟨c,ns,ds,ρ1,hh,es',e1,e2,e3,e4,e5⟩:=AF e;refine⟨F,ρ,H0,_,ρ1,R,e1,λv H1 H1' s R' r=>?_⟩;have r0:=r;unfold Rep at r;obtain⟨a',dx,xs,rfl,h1,h2,h3⟩:=r;refine⟨a',_,dx,_,_,rfl,R'.sub _ _ h1,⟨c,hh,e2,rfl,rfl⟩,xu e3,F,ρ1,H1,es',ρ',R',e4,λys H2 H2' s2 R2 rs=>?_⟩;show spF G hh (V.ref a'::(ys++[])) H2' Q E;rw[bz];exact⟨H2,_,d,R2.sub,oJ (Rep.mono s2 _ _ r0) rs,e5,λv H3 H3' t1 t2 t3 fr rv=>k v H3 H3' (s.trans (s2.trans t1)) (R2.grow t3 t1 t2 fr) rv⟩
theorem Kx{o:Expr}{g:Nat->Option (aC->Option D)}(h:PE X (.Call (.Attribute o m apos) [] [] pos) (λσ H Q=>tF G f σ H λx H1=>∃a' C dx fs sp,x=.ref a'/\H1 a'=some (.ins C dx fs)/\MT G g C sp/\fs.lookup m=none/\sp (x::[]) H1 Q E)):
  PE X (.Call (.Attribute o m apos) [] [] pos) (tF G (pj g m f ox)):=PE.weak h λσ H Q hh=>by
 obtain⟨F,ρ,H0,d,ρ',R,e,k⟩:=hh;obtain⟨c,ns,ds,ρ1,hh,es',e1,e2,e3,e4,e5⟩:=AF e;cases e4;refine⟨F,ρ,H0,_,_,R,e1,λv H1 H1' s R' r=>?_⟩;have r0:=r;unfold Rep at r;obtain⟨a',dx,xs,rfl,h1,h2,h3⟩:=r;refine⟨a',_,dx,_,_,rfl,R'.sub _ _ h1,⟨c,hh,e2,rfl,rfl⟩,xu e3,?_⟩;exact⟨H1,_,d,R'.sub,oJ r0 oO,e5,λv H3 H3' t1 t2 t3 fr rv=>k v H3 H3' (s.trans t1) (R'.grow t3 t1 t2 fr) rv⟩
def spI(G:Bg)(c:Nat)(g:aC->Option (aG×aC)):Sp:=λvs H Q _=>∃(p dx:Addr) (us:bp) (H0:Hp) (ds:aC) (ns:aG) (es:aC),vs=.ref p::us/\H p=some (.ins (G.ca c) dx [])/\H0 p=none/\oj H0 H/\nZ G H0 ds us/\g ds=some (ns,es)/\
 ∀ys dx' H0' H',oj H0 H0'->oj H0' H'->(∀b o,H b=some o->b≠p->H' b=some o)->(∀b o,H0' b=some o->H0 b=some o\/H b=none)->H0' p=none->H' p=some (.ins (G.ca c) dx' (ns.zip ys))->ns.length=ys.length->nZ G H0' es ys->Q .non H'
def pb(c:Nat)(g:aC->Option (aG×aC))(a:FA):FE:=λρ=>match a ρ with
 |some (ds,ρ')=>match g ds with
  |some (ns,es)=>some (.obj c ns es,ρ')
  |none=>none
 |none=>none
theorem NL{g:aC->Option (aG×aC)}{a:FA}(hd:∀H,nZ G H dds dvs)(h:PE X e (Pd (G.ca c) (spI G c g) dvs E (tFA G a))):PE X e (tF G (pb c (λds=>g (ds++dds)) a)):=PE.weak h λσ H Q hh=>by
 obtain⟨F,ρ,H0,d,ρ',R,e,k⟩:=hh;unfold pb at e;rcases oK (f:=a) (ρ:=ρ)with e1|⟨ds,ρ1,e1⟩<;>simp only[e1]at e
 ·cases e
 ·cases e2:g (ds++dds)with
  |none=>simp only[e2]at e;cases e
  |some q=>
   obtain⟨ns,es⟩:=q;simp only[e2]at e;cases e;refine⟨F,ρ,H0,ds,ρ',R,e1,λxs H1 H1' s R' rs x dx hx hdx ne=>?_⟩;have hx2:(upd H1' dx (.own x)) x=none:=by rw[og (λz=>ne z.symm)];exact hx
   have sx:oj H1' (upd (upd H1' dx (.own x)) x (.ins (G.ca c) dx [])):=(oh hdx _).trans (oh hx2 _);refine⟨x,dx,_,H1,ds++dds,ns,es,rfl,oa,R'.h0none hx,R'.sub.trans sx,qe rs (hd _),e2,λys dx' H2 H2' t1 t2 t3 fr h0 hp hl ry=>⟨rfl,?_⟩⟩;have t4:oj H1' H2':=λb o e=>t3 b o (sx b o e) (qO e hx);have fr1:∀b o,H2 b=some o->H1 b=some o\/H1' b=none:=λb o e=>by
    rcases fr b o e with q|q
    ·exact .inl q
    ·cases z:H1' b with
     |none=>exact .inr rfl
     |some u=>rw[sx b u z]at q;cases q
   have R2:=R'.grow t4 t1 t2 fr1;have hb:F.B x=none:=R'.bNone hx;have R3:=R2.freeze hp h0 hb (λi t ei to z=>R'.apart hx i t ei to z);refine k _ _ _ (s.trans (t1.trans (oh h0 _))) R3 ?_;unfold Rep;exact⟨x,dx',ys,rfl,oa,hl,nZ.mono (oh h0 _) _ _ ry⟩
def o7(c0:Nat)(i:Nat)(f:Str)(ff:FE):FS:=λρ=>match ff ρ with
 |some (d,ρ1)=>match ρ1[i]? with
  |some (.ob c ns ds)=>if c=c0 then if ns.contains f=true then none else if ds.length=ns.length then if ns.length<900 then some (.nx (ρ1.set i (.ob c (ns++[f]) (ds++[d]))))else none else none else none
  |_=>none
 |none=>none
theorem Ew{f:Str}{v:V}:∀{ns:aG} {xs:bp},ns.contains f=false->ns.length=xs.length->uG f v (ns.zip xs)=(ns++[f]).zip (xs++[v])
 |[],[],h,l=>rfl
 |[],x::xs,h,l=>by cases l
 |n::ns,[],h,l=>by cases l
 |n::ns,x::xs,h,l=>by
  rw[me,jv]at h;have hn:¬n=f:=λz=>by rw[z]at h;simp at h
  have ih:=Ew (f:=f) (v:=v) (ns:=ns) (xs:=xs) h.2 (by simpa using l);show uG f v ((n,x)::ns.zip xs)=_;rw[show uG f v ((n,x)::ns.zip xs)=(if n=f then (n,v)::ns.zip xs else (n,x)::uG f v (ns.zip xs)) from rfl,aj hn,ih];rfl
theorem NM{c0:Nat}{f:Str}(h:PS X st (Uk X.K (uE i) (tF G ff) f))(hc:Cls X.K (G.ca c0)/\tw X.K (G.ca c0) f):PS X st (tFS G (o7 c0 i f ff)):=PS.weak h λE σ H hh=>by
 obtain⟨F,ρ,H0,o,R,e,k,k2⟩:=hh;unfold o7 at e;rcases oK (f:=ff) (ρ:=ρ)with e1|⟨d,ρ1,e1⟩<;>simp only[e1]at e
 ·cases e
 ·split at e
  ·rename_i c ns ds e2;split at e
   ·rename_i hcc;subst hcc;split at e
    ·cases e
    rename_i hnc;split at e
    ·rename_i hl;split at e
     ·rename_i h9;cases e;refine⟨F,ρ,H0,d,ρ1,R,e1,λv H1 H1' s R' r=>?_⟩;obtain⟨a,dx,xs,e3,e4,e5,e6,e7,e8⟩:=R'.sl i _ e2;refine⟨_,ra e3,a,_,dx,_,rfl,e4,hc.1,hc.2,by rw[eC];omega,?_⟩;have hnf:ns.contains f=false:=by simpa using hnc
      rw[Ew hnf e7];refine k _ _ _ s (R'.mut e2 rfl e3 (λH' hH=>?_) rfl);exact⟨a,dx,xs++[v],rfl,hH,e5,e6,by rw[ay,ay,e7];rfl,qe e8 (oJ r oO)⟩
     ·cases e
    ·cases e
   ·cases e
  ·cases e
def stI(c n:Nat)(ds:aC):aU:=.ob c [] []::stE (n - 1) ds
def fnI(c np n:Nat)(f:FS):aC->Option (aG×aC):=λds=>if ds.length=np then match f (stI c n ds)with
 |some (.nx ρ)=>match (ρ:aU)[0]? with
  |some (Sl.ob c' ns es)=>if c'=c then if ns.length=es.length then some (ns,es)else none else none
  |_=>none
 |_=>none
 else none
theorem AG{n:Nat}{f:FS}{q:aG×aC}(h:fnI c np n f ds=some q):ds.length=np/\∃ρ,f (stI c n ds)=some (.nx ρ)/\ρ[0]?=some (.ob c q.1 q.2)/\q.1.length=q.2.length:=by
 unfold fnI at h;split at h
 ·rename_i hl;refine⟨hl,?_⟩;split at h
  ·rename_i ρ e;split at h
   ·rename_i c' ns es e2;split at h
    ·rename_i hc;split at h
     ·rename_i h3;subst hc;cases h;exact⟨ρ,e,e2,h3⟩
     ·cases h
    ·cases h
   ·cases h
  ·cases h
 ·cases h
theorem G9{f:FS}{H:Hp}{Q:VK}(hN:np+1<=N.length)(h:spI G c (fnI c np N.length f) vs H Q E):tFS G f { nx:=λ_ H'=>Q .non H',rt:=Q } (L2.start N vs) H:=by
 obtain⟨p,dx,us,H0,ds,ns,es,rfl,hp,h0,s,r,e,k⟩:=h;obtain⟨hl,ρ,e1,e2,e3⟩:=AG e;have hul:us.length=np:=by rw[<-n8 r];exact hl
 have gets:∀{i:Nat} {t:Sl},(stI c N.length ds)[i]?=some t->(i=0/\t=.ob c [] [])\/t=.un\/∃(j:Nat) (d:D),i=j+1/\ds[j]?=some d/\t=.im d:=λ{i t} e=>by
  cases i with
  |zero=>cases e;exact .inl ⟨rfl,rfl⟩
  |succ j=>
   have e':(stE (N.length - 1) ds)[j]?=some t:=e;rcases Ad e' with rfl|⟨d,e1,rfl⟩
   ·exact .inr (.inl rfl)
   ·exact .inr (.inr ⟨j,d,rfl,e1,rfl⟩)
 have R:oq G ⟨H0,H,[p]⟩ (L2.start N (.ref p::us)) (stI c N.length ds) H0 H:={
  sub:=s
  g0:=oj.refl _
  keep:=λb o e _=>e
  fr:=λb o e=>.inl e
  am:=λa ha=>by
   have ea:a=p:=by simpa using ha
   subst ea;exact⟨_,hp⟩
  len:=by unfold L2.start stI stE;simp only[ay,ah,cf,aF];have:=n8 r;omega
  sl:=λi t e=>by
   rcases gets e with ⟨rfl,rfl⟩|rfl|⟨j,d,rfl,e1,rfl⟩
   ·exact⟨p,dx,[],r9 rfl,hp,h0,by simp,rfl,oO⟩
   ·trivial
   ·obtain⟨v,e2,e3⟩:=pS r e1;exact⟨v,r9 (by simpa using e2),e3⟩
  ap:=λi j t u a hij ei ej ht hu=>by
   rcases gets ei with ⟨rfl,rfl⟩|rfl|⟨_,_,_,_,rfl⟩
   ·rcases gets ej with ⟨rfl,rfl⟩|rfl|⟨_,_,_,_,rfl⟩
    ·exact aq rfl hij
    ·cases hu
    ·cases hu
   ·cases ht
   ·cases ht }
 refine⟨_,_,H0,_,R,e1,λσ' H0' H' s' R'=>?_,λ_=>rfl⟩;obtain⟨a,dx',ys,q1,q2,q3,q4,q5,q6⟩:=R'.sl 0 _ e2;have ea:a=p:=by simpa using q4
 subst ea;exact k ys dx' H0' H' s' R'.sub (λb o e n=>R'.keep b o e (by simpa using n)) R'.fr q3 q2 q5 q6
end
def Sl.L:Sl->Option aC
 |.ls ds=>some ds
 |.pm ds=>some ds
 |_=>none
def Sl.putL:Sl->aC->Sl
 |.pm _,ds=>.pm ds
 |_,ds=>.ls ds
theorem Sl.L_own{s:Sl}(h:s.L=some ds):s.own=true:=by cases s<;>first|rfl|cases h
theorem Sl.putL_L{s:Sl}:(s.putL ds).L=some ds:=by cases s<;>rfl
section
variable{G:Bg}{F:Fr}{σ:St}{ρ:aU}{H0 H:Hp}
theorem xp.lst{o:Option V}{s:Sl}{ds:aC}(h:xp G F H0 H o s)(e:s.L=some ds):∃a xs,o=some (.ref a)/\H a=some (.lst xs)/\H0 a=none/\nZ G H0 ds xs:=by
 cases s with
 |ls ds'=>cases e;obtain⟨a,xs,h1,h2,h3,h4,h5⟩:=h;exact⟨a,xs,h1,h2,h3,h5⟩
 |pm ds'=>cases e;obtain⟨a,xs,h1,h2,h3,h4,h5⟩:=h;exact⟨a,xs,h1,h2,h3,h5⟩
 |_=>cases e
theorem oq.mutL(R:oq G F σ ρ H0 H){s:Sl}{ds':aC}{xs':bp}(hi:ρ[i]?=some s)(hs:s.L=some ds)(ha:(σ[i]?).join=some (.ref a))(r:nZ G H0 ds' xs'):
  oq G F σ (ρ.set i (s.putL ds')) H0 (upd H a (.lst xs')):=by
 have ok:=R.sl i s hi;rw[ha]at ok;refine R.mut hi (Sl.L_own hs) ha (λH' hH=>?_) (Sl.L_own Sl.putL_L);cases s with
 |ls ds0=>obtain⟨b,xs,h1,h2,h3,h4,h5⟩:=ok;cases h1;exact⟨a,xs',rfl,hH,h3,h4,r⟩
 |pm ds0=>obtain⟨b,xs,h1,h2,h3,h4,h5⟩:=ok;cases h1;exact⟨a,xs',rfl,hH,h3,h4,r⟩
 |_=>cases hs
end
def pZ(ρ:aU)(i:Nat):Option aC:=match ρ[i]? with
 |some s=>s.L
 |none=>none
theorem rF(h:pZ ρ i=some ds):∃s,ρ[i]?=some s/\s.L=some ds:=by
 unfold pZ at h;cases e:ρ[i]? with
 |none=>rw[e]at h;cases h
 |some s=>rw[e]at h;exact⟨s,rfl,h⟩
def putAt(ρ:aU)(i:Nat)(ds:aC):aU:=match ρ[i]? with
 |some s=>ρ.set i (s.putL ds)
 |none=>ρ
def v5(i:Nat)(f:FE):FE:=λρ=>match pZ ρ i with
 |some _=>match f ρ with
  |some (d,ρ1)=>match pZ ρ1 i with
   |some ds=>if ds.length<1000 then some (.non,putAt ρ1 i (ds++[d]))else none
   |none=>none
  |none=>none
 |none=>none
section
variable{X:Cx}{G:Bg}
theorem qP{H:Hp}(R:oq G F σ ρ H0 H)(h:pZ ρ i=some ds):∃a xs,σ[i]?=some (some (.ref a))/\H a=some (.lst xs)/\nZ G H0 ds xs/\
  (∀ds' xs',nZ G H0 ds' xs'->oq G F σ (putAt ρ i ds') H0 (upd H a (.lst xs'))):=by
 obtain⟨s,e1,e2⟩:=rF h;obtain⟨a,xs,e3,e4,e5,e6⟩:=(R.sl i s e1).lst e2;refine⟨a,xs,ra e3,e4,e6,λds' xs' r=>?_⟩;unfold putAt;rw[e1];exact R.mutL e1 e2 e3 r
theorem IJ(h:PE X e (tBM G.K "list" Dp (uE i) (tFA G (nU f ox)))):PE X e (tF G (v5 i f)):=PE.weak h λσ H Q hh=>by
 obtain⟨F,ρ,H0,d,ρ',R,e,k⟩:=hh;unfold v5 at e;cases e0:pZ ρ i with
 |none=>simp only[e0]at e;cases e
 |some ds0=>
  simp only[e0]at e;rcases oK (f:=f) (ρ:=ρ)with e1|⟨x,ρ1,e1⟩<;>simp only[e1]at e
  ·cases e
  ·cases e2:pZ ρ1 i with
   |none=>simp only[e2]at e;cases e
   |some ds=>
    simp only[e2]at e;split at e
    ·rename_i hl;cases e;obtain⟨a,xs,s1,s2,s3,_⟩:=qP R e0;refine⟨.ref a,s1,.inl ⟨rfl,xs,SqL.of s2⟩,F,ρ,H0,[x],ρ1,R,by unfold nU;rw[e1];rfl,λys H1 H1' s R' rs=>?_⟩;unfold nZ at rs;obtain⟨v,r0,rfl,rv,rn⟩:=rs;unfold nZ at rn;subst rn;obtain⟨a',xs',t1,t2,t3,t4⟩:=qP R' e2;rw[s1]at t1;cases t1;exact⟨a,xs',v,rfl,rfl,t2,by rw[<-n8 t3];exact wI (by omega),k _ _ _ s (t4 _ _ (qe t3 (oJ rv oO))) xX⟩
    ·cases e
def He(i:Nat):FE:=λρ=>match pZ ρ i with
 |some (d::ds)=>some (d,putAt ρ i ds)
 |_=>none
theorem NN(h:PE X e (tBM G.K "list" FQ (uE i) (Ap (tC (.int 0)) Ec))):PE X e (tF G (He i)):=PE.weak h λσ H Q hh=>by
 obtain⟨F,ρ,H0,d,ρ',R,e,k⟩:=hh;unfold He at e;split at e
 ·rename_i d' ds e0;cases e;obtain⟨a,xs,s1,s2,s3,s4⟩:=qP R e0;unfold nZ at s3;obtain⟨v,r,rfl,r1,r2⟩:=s3;refine⟨.ref a,s1,.inl ⟨rfl,_,SqL.of s2⟩,a,v::r,0,0,v,rfl,rfl,s2,by decide,by decide,?_,rfl,?_⟩
  ·unfold seqIndex?;simp
  ·exact k _ _ _ (oj.refl _) (s4 _ _ r2) r1
 ·cases e
theorem xY{i:Int}(r:nZ G H0 ds xs)(h:atI ds i=some d):∃v,atI xs i=some v/\Rep G H0 d v:=by
 unfold atI at h ⊢;rw[<-n8 r];cases e:ixN ds.length i with
 |none=>rw[e]at h;cases h
 |some j=>rw[e]at h;exact pS r h
def zY(i:Nat)(f:FE):FE:=λρ=>match pZ ρ i with
 |some _=>match f ρ with
  |some (.int j,ρ1)=>match pZ ρ1 i with
   |some ds=>match atI ds j with
    |some d=>some (d,ρ1)
    |none=>none
   |none=>none
  |_=>none
 |none=>none
theorem QL(h:PE X e (tOp (M3 G.K) (uE i) (tF G f))):PE X e (tF G (zY i f)):=PE.weak h λσ H Q hh=>by
 obtain⟨F,ρ,H0,d,ρ',R,e,k⟩:=hh;unfold zY at e;cases e9:pZ ρ i with
 |none=>simp only[e9]at e;cases e
 |some ds9=>
  simp only[e9]at e;obtain⟨a9,xs9,ev,_⟩:=qP R e9;split at e
  ·rename_i j ρ1 e1;cases e0:pZ ρ1 i with
   |none=>simp only[e0]at e;cases e
   |some ds=>
    simp only[e0]at e;cases e2:atI ds j with
    |none=>simp only[e2]at e;cases e
    |some x=>simp only[e2]at e;cases e;refine⟨.ref a9,ev,F,ρ,H0,_,_,R,e1,λu H1 H1' s R' r=>?_⟩;unfold Rep at r;subst r;obtain⟨a,xs,s1,s2,s3,s4⟩:=qP R' e0;rw[ev]at s1;cases s1;obtain⟨w,w1,w2⟩:=xY s3 e2;exact⟨_,xs,j,w,rfl,rfl,SqL.of s2,w1,k _ _ _ s R' w2⟩
  ·cases e
def cFz(i:Nat):FE:=λρ=>match ρ[i]? with
 |some (.ls ds)=>some (.lst ds,ρ.set i (.im (.lst ds)))
 |some (.dk ks ds)=>some (.dic ks ds,ρ.set i (.im (.dic ks ds)))
 |some (.im d)=>some (d,ρ)
 |_=>none
theorem oq.toIm{H:Hp}(R:oq G F σ ρ H0 H){s:Sl}{p:Addr}{o:HO}(hi:ρ[i]?=some s)(hs:(σ[i]?).join=some (.ref p))(so:s.own=true)(hp:H p=some o)(h0:H0 p=none)(hb:F.B p=none)(r:Rep G (upd H0 p o) d (.ref p)):
  oq G F σ (ρ.set i (.im d)) (upd H0 p o) H where
 sub:=λb u e=>by
  by_cases hb:b=p
  ·subst hb;rw[oa]at e;cases e;exact hp
  ·rw[og hb]at e;exact R.sub _ _ e
 g0:=R.g0.trans (oh h0 o)
 keep:=R.keep
 fr:=λb u e=>by
  by_cases hb':b=p
  ·subst hb';exact .inr hb
  ·rw[og hb']at e;exact R.fr _ _ e
 am:=R.am
 len:=by rw[dF];exact R.len
 sl:=λj t e=>by
  rw[bQ]at e;by_cases h:i=j
  ·subst h;rw[ai rfl]at e;split at e
   ·cases e;exact⟨_,hs,r⟩
   ·cases e
  ·rw[aj h]at e;refine(R.sl j t e).grow (oh h0 o) (λa u _ _ q=>q) λa u z to q q0=>?_;rw[og (λy=>by subst y;exact R.ap j i t s a (λy=>h y.symm) e hi to so z hs)];exact q0
 ap:=λj k t u b hjk ej ek tj tk vj vk=>by
  have gen:∀{m:Nat} {x:Sl},(ρ.set i (.im d))[m]?=some x->x.own=true->ρ[m]?=some x:=λ{m x} e xo=>by
   rw[bQ]at e;by_cases h:i=m
   ·subst h;rw[ai rfl]at e;split at e
    ·cases e;cases xo
    ·cases e
   ·rw[aj h]at e;exact e
  exact R.ap j k t u b hjk (gen ej tj) (gen ek tk) tj tk vj vk
theorem oq.toImD{H:Hp}(R:oq G F σ ρ H0 H){s:Sl}{p:Addr}{o:HO}(hi:ρ[i]?=some s)(hs:(σ[i]?).join=some (.ref p))(so:s.own=true)(h0:H0 p=none)(hb:F.B p=none)(r:Rep G (upd H0 p o) d (.ref p)):
  oq G F σ (ρ.set i (.im d)) (upd H0 p o) (upd H p o) where
 sub:=λb u e=>by
  by_cases hb:b=p
  ·subst hb;rw[oa]at e ⊢;exact e
  ·rw[og hb]at e ⊢;exact R.sub _ _ e
 g0:=R.g0.trans (oh h0 o)
 keep:=λb u e n=>by rw[og (λz=>by subst z;rw[hb]at e;cases e)];exact R.keep b u e n
 fr:=λb u e=>by
  by_cases hb':b=p
  ·subst hb';exact .inr hb
  ·rw[og hb']at e;exact R.fr _ _ e
 am:=λb hm=>by
  by_cases hb':b=p
  ·subst hb';exact⟨o,oa⟩
  ·rw[og hb'];exact R.am b hm
 len:=by rw[dF];exact R.len
 sl:=λj t e=>by
  rw[bQ]at e;by_cases h:i=j
  ·subst h;rw[ai rfl]at e;split at e
   ·cases e;exact⟨_,hs,r⟩
   ·cases e
  ·rw[aj h]at e;refine(R.sl j t e).grow (oh h0 o) (λa u z to q=>?_) λa u z to q q0=>?_
   ·rw[og (λy=>by subst y;exact R.ap j i t s a (λy=>h y.symm) e hi to so z hs)];exact q
   ·rw[og (λy=>by subst y;exact R.ap j i t s a (λy=>h y.symm) e hi to so z hs)];exact q0
 ap:=λj k t u b hjk ej ek tj tk vj vk=>by
  have gen:∀{m:Nat} {x:Sl},(ρ.set i (.im d))[m]?=some x->x.own=true->ρ[m]?=some x:=λ{m x} e xo=>by
   rw[bQ]at e;by_cases h:i=m
   ·subst h;rw[ai rfl]at e;split at e
    ·cases e;cases xo
    ·cases e
   ·rw[aj h]at e;exact e
  exact R.ap j k t u b hjk (gen ej tj) (gen ek tk) tj tk vj vk
theorem UE(h:PE X e (uE i)):PE X e (tF G (cFz i)):=PE.weak (PE.ghost h) λσ H Q hh=>by
 obtain⟨F,ρ,H0,d,ρ',R,e,k⟩:=hh;unfold cFz at e;split at e
 ·rename_i ds e0;cases e;obtain⟨a,xs,h1,h2,h3,h4,h5⟩:=R.sl i _ e0;have rr:Rep G (upd H0 a (.lst xs)) (.lst ds) (.ref a):=tX oa (nZ.mono (oh h3 _) _ _ h5);exact⟨_,ra h1,.inl (k _ _ _ (oh h3 _) (R.toIm e0 h1 rfl h2 h3 h4 rr) rr)⟩
 ·rename_i ks ds e0;cases e;obtain⟨a,xs,h1,h2,h3,h4,h5,h6⟩:=R.sl i _ e0;refine⟨_,ra h1,.inr ⟨a,_,h2,λo=>?_⟩⟩;have rr:Rep G (upd H0 a (.frz o (.dK (ks.zip xs)))) (.dic ks ds) (.ref a):=by unfold Rep;exact⟨a,o,xs,rfl,oa,h5,nZ.mono (oh h3 _) _ _ h6⟩
  exact k _ _ _ (oh h3 _) (R.toImD e0 h1 rfl h3 h4 rr) rr
 ·rename_i d' e0;cases e;obtain⟨v,e2,e3⟩:=R.sl i _ e0;exact⟨v,ra e2,.inl (k _ _ _ (oj.refl _) R e3)⟩
 ·cases e
def NO(i:Nat):FA:=λρ=>match ρ[i]? with
 |some (.ls ds)=>some (ds,ρ.set i .un)
 |_=>none
theorem NP(h:PE X e (uE i)):PE X e (tFN G (NO i)):=PE.weak h λσ H Q hh=>by
 obtain⟨F,ρ,H0,d,ρ',R,e,k⟩:=hh;unfold NO at e;split at e
 ·rename_i ds e0;cases e;obtain⟨a,xs,h1,h2,h3,h4,h5⟩:=R.sl i _ e0;have gen:∀{m:Nat} {x:Sl},(ρ.set i .un)[m]?=some x->x.own=true->m≠i/\ρ[m]?=some x:=λ{m x} e xo=>by
   rw[bQ]at e;by_cases h:i=m
   ·subst h;rw[ai rfl]at e;split at e
    ·cases e;cases xo
    ·cases e
   ·rw[aj h]at e;exact⟨λz=>h z.symm,e⟩
  have R':oq G F σ (ρ.set i .un) H0 H:={
   sub:=R.sub,g0:=R.g0,keep:=R.keep,fr:=R.fr,am:=R.am
   len:=by rw[dF];exact R.len
   sl:=λj t e=>by
    rw[bQ]at e;by_cases h:i=j
    ·subst h;rw[ai rfl]at e;split at e
     ·cases e;trivial
     ·cases e
    ·rw[aj h]at e;exact R.sl j t e
   ap:=λj k t u b hjk ej ek tj tk vj vk=>R.ap j k t u b hjk (gen ej tj).2 (gen ek tk).2 tj tk vj vk }
  refine⟨_,ra h1,k a xs _ _ (oj.refl _) R' h2 h3 h4 (λj t ej to z=>?_) h5⟩;obtain⟨nj,ej'⟩:=gen ej to;exact R.ap j i t _ a nj ej' e0 to rfl z h1
 ·cases e
end
def spM(G:Bg)(g:aC->aC->Option (D×aC)):Sp:=λvs H Q _=>∃(a:Addr) (us xs:bp) (H0:Hp) (es ds:aC) (d:D) (es':aC),vs=.ref a::us/\H a=some (.lst xs)/\H0 a=none/\oj H0 H/\nZ G H0 es xs/\nZ G H0 ds us/\g es ds=some (d,es')/\
 ∀v xs' H0' H',oj H0 H0'->oj H0' H'->(∀b o,H b=some o->b≠a->H' b=some o)->(∀b o,H0' b=some o->H0 b=some o\/H b=none)->H0' a=none->H' a=some (.lst xs')->nZ G H0' es' xs'->Rep G H0' d v->Q v H'
def stM(n:Nat)(es ds:aC):aU:=.pm es::stE (n - 1) ds
def zv(ρ:aU):Option aC:=match ρ with
 |.pm es::_=>some es
 |_=>none
def fnM(np n:Nat)(f:FS):aC->aC->Option (D×aC):=λes ds=>if ds.length=np then match f (stM n es ds)with
 |some (.rt d ρ)=>match zv ρ with
  |some es'=>some (d,es')
  |none=>none
 |some (.rn xs ρ)=>match zv ρ with
  |some es'=>some (.lst xs,es')
  |none=>none
 |_=>none
 else none
theorem AH{es:aC}(h:zv ρ=some es):ρ[0]?=some (.pm es):=by
 unfold zv at h;split at h
 ·cases h;rfl
 ·cases h
variable{es':aC}
theorem Ex{n:Nat}{f:FS}{es:aC}(h:fnM np n f es ds=some (d,es')):ds.length=np/\((∃ρ,f (stM n es ds)=some (.rt d ρ)/\ρ[0]?=some (.pm es'))\/∃xs ρ,f (stM n es ds)=some (.rn xs ρ)/\ρ[0]?=some (.pm es')/\d=.lst xs):=by
 unfold fnM at h;split at h
 ·rename_i hl;refine⟨hl,?_⟩;split at h
  ·rename_i x ρ e;cases e2:zv ρ with
   |none=>simp only[e2]at h;cases h
   |some q=>simp only[e2]at h;cases h;exact .inl ⟨ρ,e,AH e2⟩
  ·rename_i x ρ e;cases e2:zv ρ with
   |none=>simp only[e2]at h;cases h
   |some q=>simp only[e2]at h;cases h;exact .inr ⟨x,ρ,e,AH e2,rfl⟩
  ·cases h
 ·cases h
variable{b:FS}
section
variable{X:Cx}{G:Bg}
theorem NQ{f:FS}{H:Hp}{Q:VK}(hN:np+1<=N.length)(h:spM G (fnM np N.length f) vs H Q E):tFS G f { nx:=λ_ H'=>Q .non H',rt:=Q } (L2.start N vs) H:=by
 obtain⟨a,us,xs,H0,es,ds,d,es',rfl,ha,h0,s,r1,r,e,k⟩:=h;obtain⟨hl,e1⟩:=Ex e;have hul:us.length=np:=by rw[<-n8 r];exact hl
 have gets:∀{i:Nat} {t:Sl},(stM N.length es ds)[i]?=some t->(i=0/\t=.pm es)\/t=.un\/∃(j:Nat) (d:D),i=j+1/\ds[j]?=some d/\t=.im d:=λ{i t} e=>by
  cases i with
  |zero=>cases e;exact .inl ⟨rfl,rfl⟩
  |succ j=>
   have e':(stE (N.length - 1) ds)[j]?=some t:=e;rcases Ad e' with rfl|⟨d,e1,rfl⟩
   ·exact .inr (.inl rfl)
   ·exact .inr (.inr ⟨j,d,rfl,e1,rfl⟩)
 have R:oq G ⟨H0,H,[a]⟩ (L2.start N (.ref a::us)) (stM N.length es ds) H0 H:={
  sub:=s
  g0:=oj.refl _
  keep:=λb o e _=>e
  fr:=λb o e=>.inl e
  am:=λb hb=>by
   have eb:b=a:=by simpa using hb
   subst eb;exact⟨_,ha⟩
  len:=by unfold L2.start stM stE;simp only[ay,ah,cf,aF];have:=n8 r;omega
  sl:=λi t e=>by
   rcases gets e with ⟨rfl,rfl⟩|rfl|⟨j,d,rfl,e1,rfl⟩
   ·exact⟨a,xs,r9 rfl,ha,h0,by simp,r1⟩
   ·trivial
   ·obtain⟨v,e2,e3⟩:=pS r e1;exact⟨v,r9 (by simpa using e2),e3⟩
  ap:=λi j t u b hij ei ej ht hu=>by
   rcases gets ei with ⟨rfl,rfl⟩|rfl|⟨_,_,_,_,rfl⟩
   ·rcases gets ej with ⟨rfl,rfl⟩|rfl|⟨_,_,_,_,rfl⟩
    ·exact aq rfl hij
    ·cases hu
    ·cases hu
   ·cases ht
   ·cases ht }
 have fin:∀{v:V} {σ':St} {ρ':aU} {H0' H':Hp},oj H0 H0'->oq G ⟨H0,H,[a]⟩ σ' ρ' H0' H'->ρ'[0]?=some (.pm es')->Rep G H0' d v->Q v H':=λs' R' e2 rv=>by
  obtain⟨a',ys,q1,q2,q3,q4,q5⟩:=R'.sl 0 _ e2;have ea:a'=a:=by simpa using q4
  subst ea;exact k _ ys _ _ s' R'.sub (λb o e n=>R'.keep b o e (by simpa using n)) R'.fr q3 q2 q5 rv
 rcases e1 with ⟨ρ,e1,e2⟩|⟨zs,ρ,e1,e2,rfl⟩
 ·exact⟨_,_,H0,_,R,e1,λv σ' H0' H' s' R' rv=>fin s' R' e2 rv,λ_=>rfl⟩
 ·refine⟨_,_,H0,_,R,e1,λp ys σ' H0' H' s' R' hp hp0 hb ap rs=>?_,λ_=>rfl⟩;exact fin (s'.trans (oh hp0 _)) (R'.freeze hp hp0 hb ap) e2 (tX oa (nZ.mono (oh hp0 _) _ _ rs))
theorem Pj{g:aC->aC->Option (D×aC)}(hg:∀es ds d,g es ds=some d->ds.length=np):∀vs H Q E,spM G g vs H Q E->vs.length=np+1:=λvs H Q E h=>by obtain⟨a,us,xs,H0,es,ds,d,es',rfl,_,_,_,_,r,e,_⟩:=h;rw[aF,<- n8 r,hg _ _ _ e]
theorem NR{n:Nat}{f:FS}:∀es ds d,fnM np n f es ds=some d->ds.length=np:=λ_ _ d h=>(Ex (d:=d.1) (es':=d.2) h).1
theorem oq.call1{H:Hp}(R:oq G F σ ρ H0 H){s:Sl}{es:aC}{b:Addr}{zs:bp}(hi:ρ[i]?=some s)(hs:s.L=some es)(hb:(σ[i]?).join=some (.ref b))
  (s1:oj H0 H0') (s2:oj H0' H') (s3:∀c o,H c=some o->c≠b->H' c=some o) (fr:∀c o,H0' c=some o->H0 c=some o\/H c=none) (h0:H0' b=none) (hz:H' b=some (.lst zs)) (r:nZ G H0' es' zs):
  oq G F σ (ρ.set i (s.putL es')) H0' H':=by
 have so:=Sl.L_own hs;obtain⟨b',u,e1,e2,e3,e4⟩:=(R.sl i s hi).at so;rw[hb]at e1;cases e1;exact {
  sub:=s2
  g0:=R.g0.trans s1
  keep:=λc o e n=>by
   refine s3 c o (R.keep c o e n) λz=>?_;subst z;rcases e4 with q|q
   ·rw[q]at e;cases e
   ·exact n q
  fr:=λc o e=>by
   rcases fr c o e with q|q
   ·exact R.fr c o q
   ·exact .inr (R.bNone q)
  am:=λc hc=>by
   by_cases z:c=b
   ·subst z;exact⟨_,hz⟩
   ·obtain⟨o,q⟩:=R.am c hc;exact⟨o,s3 c o q z⟩
  len:=by rw[dF];exact R.len
  sl:=λj t e=>by
   rw[bQ]at e;by_cases h:i=j
   ·subst h;rw[ai rfl]at e;split at e
    ·cases e;rw[hb];have ok:=R.sl i s hi;rw[hb]at ok;cases s with
     |ls ds0=>obtain⟨c,xs,h1,h2,h3,h4,h5⟩:=ok;cases h1;exact⟨b,zs,rfl,hz,h0,h4,r⟩
     |pm ds0=>obtain⟨c,xs,h1,h2,h3,h4,h5⟩:=ok;cases h1;exact⟨b,zs,rfl,hz,h0,h4,r⟩
     |_=>cases hs
    ·cases e
   ·rw[aj h]at e;refine(R.sl j t e).grow s1 (λc w z to q=>s3 c w q λy=>?_) λc w z to q q0=>?_
    ·subst y;exact R.ap j i t s c (λy=>h y.symm) e hi to so z hb
    ·cases y:H0' c with
     |none=>rfl
     |some o=>
      rcases fr c o y with x|x
      ·rw[x]at q0;cases q0
      ·rw[x]at q;cases q
  ap:=λj k t u c hjk ej ek tj tk vj vk=>by
   have gen:∀{m:Nat} {x:Sl},(ρ.set i (s.putL es'))[m]?=some x->∃y,ρ[m]?=some y/\(x.own=true->y.own=true):=λ{m x} e=>by
    rw[bQ]at e;by_cases h:i=m
    ·subst h;exact⟨s,hi,λ_=>so⟩
    ·rw[aj h]at e;exact⟨x,e,λq=>q⟩
   obtain⟨y,ey,oy⟩:=gen ej;obtain⟨z,ez,oz⟩:=gen ek;exact R.ap j k y z c hjk ey ez (oy tj) (oz tk) vj vk }
def pd(g:aC->aC->Option (D×aC))(i:Nat)(a:FA):FE:=λρ=>match pZ ρ i with
 |some _=>match a ρ with
  |some (ds,ρ1)=>match pZ ρ1 i with
   |some es=>match g es ds with
    |some (d,es')=>some (d,putAt ρ1 i es')
    |none=>none
   |none=>none
  |none=>none
 |none=>none
theorem QM{g:aC->aC->Option (D×aC)}{a:FA}(h:PE X e (wY (spM G g) [] E (Ap (uE i) (tFA G a)))):PE X e (tF G (pd g i a)):=PE.weak h λσ H Q hh=>by
 obtain⟨F,ρ,H0,d,ρ',R,e,k⟩:=hh;unfold pd at e;cases e0:pZ ρ i with
 |none=>simp only[e0]at e;cases e
 |some ds0=>
  simp only[e0]at e;rcases oK (f:=a) (ρ:=ρ)with e1|⟨ds,ρ1,e1⟩<;>simp only[e1]at e
  ·cases e
  ·cases e2:pZ ρ1 i with
   |none=>simp only[e2]at e;cases e
   |some es=>
    simp only[e2]at e;cases e3:g es ds with
    |none=>simp only[e3]at e;cases e
    |some q=>
     obtain⟨d1,es'⟩:=q;simp only[e3]at e;cases e;obtain⟨b,xs,s1,s2,s3,_⟩:=qP R e0;refine⟨.ref b,s1,F,ρ,H0,ds,ρ1,R,e1,λys H1 H1' s R' rs=>?_⟩;obtain⟨s,es0,es1⟩:=rF e2;obtain⟨b',xs',t1,t2,t3,t4⟩:=(R'.sl i s es0).lst es1;rw[ra t1]at s1;cases s1;refine⟨b,ys,xs',H1,es,ds,d,es',?_,t2,t3,R'.sub,t4,rs,e3,λv zs H2 H2' u1 u2 u3 fr w0 w1 w2 w3=>?_⟩
     ·show V.ref b::ys++[]=_;rw[bz]
     ·refine k _ _ _ (oj.trans ‹oj H0 H1› u1) ?_ w3;unfold putAt;rw[es0];exact R'.call1 es0 es1 t1 u1 u2 u3 fr w0 w1 w2
def Walk(G:Bg)(J:It)(ds:aC)(H0:Hp):Prop:=∀(i:Nat) (H1 H1':Hp),oj H0 H1->oj H1 H1'->
 (∀d,ds[i]?=some d->J.go i H1'/\∀x H2',J.yld i H1' x H2'->∃H2,oj H1 H2/\oj H2 H2'/\oj H1' H2'/\(∀b o,H2 b=some o->H1 b=some o\/H1' b=none)/\Rep G H2 d x)/\(i=ds.length->J.stop i H1')
def tFI(G:Bg)(f:FA):TI:=λσ H R=>∃F ρ H0 ds ρ',oq G F σ ρ H0 H/\f ρ=some (ds,ρ')/\∀J H0' H',oj H0 H0'->oq G F σ ρ' H0' H'->Walk G J ds H0'->R J H'
theorem PI.weak{t t':TI}(h:PI X tg e t)(w:∀σ H R,t' σ H R->t σ H R):PI X tg e t':=λpins s σ H R I hq=>h pins s σ H R I (w _ _ _ hq)
theorem AI(h:SqL G.K H0 a xs)(r:nZ G H0 ds xs):Walk G (Itl G.K a) ds H0:=λi H1 H1' s s'=>by have h1:SqL G.K H1' a xs:=(s.trans s').seq h;refine⟨λd e=>?_,λhl=>⟨xs,h1,by rw[<-n8 r,hl];exact az _⟩⟩;obtain⟨v,e1,e2⟩:=pS r e;refine⟨⟨xs,v,h1,e1⟩,λx H2' y=>?_⟩;obtain⟨e3,e4⟩:=y;have e5:=e4 xs h1;rw[e1]at e5;cases e5;subst e3;exact⟨H1,oj.refl _,s',oj.refl _,λb o e=>.inl e,Rep.mono s _ _ e2⟩
theorem Kz(h:SqT G.K H0 a xs)(r:nZ G H0 ds xs):Walk G (Itt G.K a) ds H0:=λi H1 H1' s s'=>by have h1:SqT G.K H1' a xs:=SqT.mono (s.trans s') h;refine⟨λd e=>?_,λhl=>⟨xs,h1,by rw[<-n8 r,hl];exact az _⟩⟩;obtain⟨v,e1,e2⟩:=pS r e;refine⟨⟨xs,v,h1,e1⟩,λx H2' y=>?_⟩;obtain⟨e3,e4⟩:=y;have e5:=e4 xs h1;rw[e1]at e5;cases e5;subst e3;exact⟨H1,oj.refl _,s',oj.refl _,λb o e=>.inl e,Rep.mono s _ _ e2⟩
def iL(f:FE):FA:=λρ=>match f ρ with
 |some (.lst ds,ρ')=>some (ds,ρ')
 |some (.fzl ds,ρ')=>some (ds,ρ')
 |_=>none
def iT(f:FE):FA:=λρ=>match f ρ with
 |some (.tup ds,ρ')=>some (ds,ρ')
 |_=>none
theorem Ey(h:PI X tg e (JP G.K (tF G f))):PI X tg e (tFI G (iL f)):=PI.weak h λσ H R hh=>by
 obtain⟨F,ρ,H0,ds,ρ',R,e,k⟩:=hh;unfold iL at e;split at e
 ·rename_i ds' ρ1 e1;cases e;refine⟨F,ρ,H0,_,_,R,e1,λv H1 H1' s R' r=>?_⟩;unfold Rep at r;obtain⟨a,xs,rfl,r1,r2⟩:=r;exact⟨a,rfl,⟨xs,R'.sub.seq (SqL.of r1)⟩,k _ _ _ s R' (AI (SqL.of r1) r2)⟩
 ·rename_i ds' ρ1 e1;cases e;refine⟨F,ρ,H0,_,_,R,e1,λv H1 H1' s R' r=>?_⟩;unfold Rep at r;obtain⟨a,xs,rfl,r1,r2⟩:=r;exact⟨a,rfl,⟨xs,R'.sub.seq r1⟩,k _ _ _ s R' (AI r1 r2)⟩
 ·cases e
theorem NS(h:PI X tg e (P5 G.K (tF G f))):PI X tg e (tFI G (iT f)):=PI.weak h λσ H R hh=>by
 obtain⟨F,ρ,H0,ds,ρ',R,e,k⟩:=hh;unfold iT at e;split at e
 ·rename_i ds' ρ1 e1;cases e;refine⟨F,ρ,H0,_,_,R,e1,λv H1 H1' s R' r=>?_⟩;unfold Rep at r;obtain⟨a,xs,rfl,r1,r2⟩:=r;exact⟨a,rfl,⟨xs,SqT.mono R'.sub r1⟩,k _ _ _ s R' (Kz r1 r2)⟩
 ·cases e
def xZ(lo:Int)(n:Nat):aC:=(bg n).map λ(i:Nat)=>D.int (lo+(i:Int))
theorem KA{lo:Int}{n:Nat}:Walk G (Itr lo n) (xZ lo n) H0:=λi H1 H1' s s'=>by
 refine⟨λd e=>?_,λhl=>by show n<=i;rw[hl];simp[xZ]⟩;unfold xZ at e;rw[bt]at e;by_cases hi:i<n
 ·rw[l5 hi]at e;cases e;refine⟨hi,λx H2' y=>?_⟩;obtain⟨e3,rfl⟩:=y;subst e3;exact⟨H1,oj.refl _,s',oj.refl _,λb o e=>.inl e,ql _⟩
 ·rw[fQ (by simpa using hi)]at e;cases e
def iR1(f:FE):FA:=λρ=>match f ρ with
 |some (.int n,ρ')=>if -1000000<=n/\n<=1000000 then some (xZ 0 n.toNat,ρ')else none
 |_=>none
theorem F0(h:PI X tg e (Pc (tFA G (nU f ox)))):PI X tg e (tFI G (iR1 f)):=PI.weak h λσ H R hh=>by
 obtain⟨F,ρ,H0,ds,ρ',R,e,k⟩:=hh;unfold iR1 at e;split at e
 ·rename_i n ρ1 e1;split at e
  ·rename_i hn;cases e;refine⟨F,ρ,H0,[.int n],_,R,by unfold nU;rw[e1];rfl,λxs H1 H1' s R' rs=>?_⟩;unfold nZ at rs;obtain⟨v,r0,rfl,rv,rn⟩:=rs;unfold nZ at rn;unfold Rep at rv;subst rn rv;exact⟨n,rfl,by omega,by omega,k _ _ _ s R' KA⟩
  ·cases e
 ·cases e
def forL(g:FG)(b:FS):aC->FS
 |[],ρ=>some (.nx ρ)
 |d::r,ρ=>match g d ρ with
  |none=>none
  |some ρ1=>match b ρ1 with
   |some (.nx ρ2)=>forL g b r ρ2
   |some (.ct ρ2)=>forL g b r ρ2
   |some (.bk ρ2)=>some (.nx ρ2)
   |some (.rt d ρ2)=>some (.rt d ρ2)
   |some (.rn d ρ2)=>some (.rn d ρ2)
   |none=>none
def sd(s:FA)(g:FG)(b:FS):FS:=λρ=>match s ρ with
 |some (ds,ρ')=>forL g b ds ρ'
 |none=>none
theorem NT{n:Nat}{s:FA}{g:FG}(h:PS X st (P7 (tFI G s) (tFG G n g) (tFS G b))):PS X st (tFS G (sd s g b)):=PS.weak h λE σ H hh=>by
 obtain⟨F,ρ,H0,o,R,e,k,k2⟩:=hh;unfold sd at e;rcases oK (f:=s) (ρ:=ρ)with e1|⟨ds,ρ1,e1⟩<;>simp only[e1]at e
 ·cases e
 ·refine⟨F,ρ,H0,ds,ρ1,R,e1,λJ H1 H1' s1 R1 wk=>?_⟩;refine⟨λi m σ H=>m=ds.length - i/\i<=ds.length/\∃ρi Hi,oj H1 Hi/\oq G F σ ρi Hi H/\forL g b (ds.drop i) ρi=some o,⟨_,rfl,bW _,ρ1,H1,oj.refl _,R1,e⟩,?_⟩;rintro i m σi Hi' ⟨rfl,hi,ρi,Hi,si,Ri,ei⟩;by_cases hlt:i<ds.length
  ·have ed:ds.drop i=ds[i]::ds.drop (i+1):=hE hlt;rw[ed]at ei;unfold forL at ei;obtain⟨go,yl⟩:=(wk i Hi Hi' si Ri.sub).1 ds[i] (aI hlt);refine .inr ⟨go,λσ' H'=>∃ρi Hi,oj H1 Hi/\oq G F σ' ρi Hi H'/\forL g b (ds.drop (i+1)) ρi=some o,λσ' H' q=>⟨ds.length - (i+1),by omega,rfl,hlt,q⟩,λx H' y=>?_⟩;obtain⟨H2,t1,t2,t3,t4,t5⟩:=yl x H' y;have R2:=Ri.grow t3 t1 t2 t4;cases e2:g ds[i] ρi with
   |none=>simp only[e2]at ei;cases ei
   |some ρ2=>
    simp only[e2]at ei;refine⟨F,ρi,H2,_,ρ2,R2,t5,e2,λσ3 _ R3=>?_⟩;have kk:=k.back (s1.trans (si.trans t1));cases e3:b ρ2 with
    |none=>simp only[e3]at ei;cases ei
    |some q=>
     refine⟨F,ρ2,H2,q,R3,e3,?_,λ_=>rfl⟩;cases q with
     |nx ρ3=>simp only[e3]at ei;exact λσ' H0' H' s' R'=>⟨ρ3,H0',si.trans (t1.trans s'),R',ei⟩
     |ct ρ3=>simp only[e3]at ei;exact λσ' H0' H' s' R'=>⟨ρ3,H0',si.trans (t1.trans s'),R',ei⟩
     |bk ρ3=>simp only[e3]at ei;cases ei;exact kk
     |rt d ρ3=>simp only[e3]at ei;cases ei;exact kk
     |rn d ρ3=>simp only[e3]at ei;cases ei;exact kk
  ·have ez:ds.drop i=[]:=lI (by omega);rw[ez]at ei;unfold forL at ei;cases ei;exact .inl ⟨(wk i Hi Hi' si Ri.sub).2 (by omega),k _ _ _ (s1.trans si) Ri⟩
def whL(c:FT)(b:FS):Nat->FS
 |0,_=>none
 |n+1,ρ=>match c ρ with
  |some (false,ρ1)=>some (.nx ρ1)
  |some (true,ρ1)=>match b ρ1 with
   |some (.nx ρ2)=>whL c b n ρ2
   |some (.ct ρ2)=>whL c b n ρ2
   |some (.bk ρ2)=>some (.nx ρ2)
   |some (.rt d ρ2)=>some (.rt d ρ2)
   |some (.rn d ρ2)=>some (.rn d ρ2)
   |none=>none
  |none=>none
theorem IK{c:FT}(n:Nat)(h:PS X st (JN (tFT G c) (tFS G b))):PS X st (tFS G (whL c b n)):=PS.weak h λE σ H hh=>by
 obtain⟨F,ρ,H0,o,R,e,k,k2⟩:=hh;refine⟨λm σ H=>∃ρi Hi,oj H0 Hi/\oq G F σ ρi Hi H/\whL c b m ρi=some o,⟨n,ρ,H0,oj.refl _,R,e⟩,?_⟩;rintro m σi Hi' ⟨ρi,Hi,si,Ri,ei⟩;cases m with
 |zero=>cases ei
 |succ m=>
  unfold whL at ei;rcases oK (f:=c) (ρ:=ρi)with e1|⟨t,ρ1,e1⟩
  ·simp only[e1]at ei;cases ei
  ·refine⟨F,ρi,Hi,t,ρ1,Ri,e1,λH1 H1' s1 R1=>?_⟩;cases t with
   |false=>simp only[e1]at ei;cases ei;exact Ek (k _ _ _ (si.trans s1) R1)
   |true=>
    simp only[e1]at ei;refine El ⟨λσ' H'=>∃ρi Hi,oj H0 Hi/\oq G F σ' ρi Hi H'/\whL c b m ρi=some o,λσ' H' q=>⟨m,fZ m,q⟩,?_⟩;have kk:=k.back (si.trans s1);cases e3:b ρ1 with
    |none=>simp only[e3]at ei;cases ei
    |some q=>
     refine⟨F,ρ1,H1,q,R1,e3,?_,λ_=>rfl⟩;cases q with
     |nx ρ3=>simp only[e3]at ei;exact λσ' H0' H' s' R'=>⟨ρ3,H0',si.trans (s1.trans s'),R',ei⟩
     |ct ρ3=>simp only[e3]at ei;exact λσ' H0' H' s' R'=>⟨ρ3,H0',si.trans (s1.trans s'),R',ei⟩
     |bk ρ3=>simp only[e3]at ei;cases ei;exact kk
     |rt d ρ3=>simp only[e3]at ei;cases ei;exact kk
     |rn d ρ3=>simp only[e3]at ei;cases ei;exact kk
end
def Sl.cap:Sl->Sl
 |.im d=>.im d
 |.ls ds=>.pm ds
 |.pm ds=>.pm ds
 |_=>.un
def xw(k:Nat)(cap:List Nat)(ρ:aU):aU:=f9 k .un++cap.map λj=>((ρ[j]?).getD .un).cap
def rf:List Nat->aU->aU->Option aU
 |[],_,ρ=>some ρ
 |j::cap,t::ts,ρ=>match pZ ρ j with
  |some _=>match t with
   |.pm ds=>rf cap ts (putAt ρ j ds)
   |_=>none
  |none=>rf cap ts ρ
 |_::_,[],_=>none
def rW(k:Nat)(cap:List Nat)(g:FG)(ft:FT)(fe:FE):aC->aU->Option (aC×aU)
 |[],ρ=>some ([],ρ)
 |d::r,ρ=>match g d (xw k cap ρ)with
  |none=>none
  |some ρ1=>match ft ρ1 with
   |some (true,ρ2)=>match fe ρ2 with
    |some (x,ρ3)=>match rf cap (ρ3.drop k) ρ with
     |some ρ'=>match rW k cap g ft fe r ρ' with
      |some (xs,ρ'')=>some (x::xs,ρ'')
      |none=>none
     |none=>none
    |none=>none
   |some (false,ρ2)=>match rf cap (ρ2.drop k) ρ with
    |some ρ'=>rW k cap g ft fe r ρ'
    |none=>none
   |none=>none
def oB(k:Nat)(cap:List Nat)(s:FA)(g:FG)(ft:FT)(fe:FE):FA:=λρ=>match s ρ with
 |some (ds,ρ')=>if ds.length<=1000 then rW k cap g ft fe ds ρ' else none
 |none=>none
def pF:FT:=λρ=>some (true,ρ)
theorem vc:∀{cap:List Nat} {ts ρ ρ':aU},rf cap ts ρ=some ρ'->ρ'.length=ρ.length/\
  (∀(j:Nat) (s':Sl),ρ'[j]?=some s'->∃s,ρ[j]?=some s/\((s'=s/\(s.L≠none->j∉cap))\/∃(m:Nat) (ds ds0:aC),cap[m]?=some j/\ts[m]?=some (Sl.pm ds)/\s.L=some ds0/\s'=s.putL ds))
 |[],ts,ρ,ρ',h=>by cases h;exact⟨rfl,λj s' e=>⟨s',e,.inl ⟨rfl,λ_ z=>by cases z⟩⟩⟩
 |j0::cap,[],ρ,ρ',h=>by cases h
 |j0::cap,t::ts,ρ,ρ',h=>by
  unfold rf at h;cases e0:pZ ρ j0 with
  |none=>
   simp only[e0]at h;obtain⟨h1,h2⟩:=vc h;refine⟨h1,λj s' e=>?_⟩;obtain⟨s,e1,q⟩:=h2 j s' e;refine⟨s,e1,?_⟩;rcases q with ⟨rfl,q⟩|⟨m,ds,ds0,q1,q2,q3,q4⟩
   ·refine .inl ⟨rfl,λz y=>?_⟩;rcases aP.mp y with y|y
    ·subst y;unfold pZ at e0;rw[e1]at e0;exact z e0
    ·exact q z y
   ·exact .inr ⟨m+1,ds,ds0,q1,q2,q3,q4⟩
  |some ds1=>
   simp only[e0]at h;cases t with
   |pm ds=>
    simp only at h;obtain⟨s0,e1,e2⟩:=rF e0;unfold putAt at h;rw[e1]at h;simp only at h;obtain⟨h1,h2⟩:=vc h;refine⟨by rw[h1,dF],λj s' e=>?_⟩;obtain⟨s,e3,q⟩:=h2 j s' e;by_cases hj:j0=j
    ·subst hj;rw[bQ,ai rfl]at e3;split at e3
     ·cases e3;refine⟨s0,e1,.inr ?_⟩;rcases q with ⟨rfl,q⟩|⟨m,ds',ds0,q1,q2,q3,q4⟩
      ·exact⟨0,ds,ds1,rfl,rfl,e2,rfl⟩
      ·refine⟨m+1,ds',ds1,q1,q2,e2,?_⟩;rw[q4];cases s0<;>rfl
     ·cases e3
    ·rw[bQ,aj hj]at e3;refine⟨s,e3,?_⟩;rcases q with ⟨rfl,q⟩|⟨m,ds',ds0,q1,q2,q3,q4⟩
     ·refine .inl ⟨rfl,λz y=>?_⟩;rcases aP.mp y with y|y
      ·exact hj y.symm
      ·exact q z y
     ·exact .inr ⟨m+1,ds',ds0,q1,q2,q3,q4⟩
   |_=>cases h
def BO(cap:List Nat)(σ:St)(ρ:aU):List Addr:=cap.filterMap λj=>match pZ ρ j,(σ[j]?).join with
 |some _,some (.ref a)=>some a
 |_,_=>none
theorem v7{cap:List Nat}:a∈BO cap σ ρ ↔ ∃j∈cap,(∃ds,pZ ρ j=some ds)/\(σ[j]?).join=some (.ref a):=by
 unfold BO;rw[jC];constructor
 ·rintro⟨j,hj,e⟩;refine⟨j,hj,?_⟩;split at e
  ·rename_i ds a' e1 e2;cases e;exact⟨⟨ds,e1⟩,e2⟩
  ·cases e
 ·rintro⟨j,hj,⟨ds,e1⟩,e2⟩;refine⟨j,hj,?_⟩;rw[e1,e2]
variable{H1':Hp}{ft:FT}{fe:FE}
section
variable{X:Cx}{G:Bg}{F:Fr}{σ:St}{ρ:aU}{H0 H:Hp}
theorem AJ{k:Nat}{cap:List Nat}{s:Sl}(h:(xw k cap ρ)[i]?=some s):s=.un\/∃m j,i=k+m/\cap[m]?=some j/\s=((ρ[j]?).getD .un).cap:=by
 unfold xw at h;by_cases hi:i<k
 ·rw[c8 (by simpa using hi),fO,ai hi]at h;cases h;exact .inl rfl
 ·rw[c7 (by simpa using mJ hi),cf,bt]at h;cases e:cap[i - k]? with
  |none=>rw[e]at h;cases h
  |some j=>rw[e]at h;cases h;exact .inr ⟨i - k,j,by omega,e,rfl⟩
theorem x3{k:Nat}{cap:List Nat}{m:Nat}(h:cap[m]?=some j):((rJ k cap σ)[k+m]?).join=(σ[j]?).join:=by unfold rJ;rw[c7 (by simp),cf,show k+m - k=m by omega,bt,h];rfl
theorem oq.cap(R:oq G F σ ρ H0 H)(k:Nat)(cap:List Nat)(nd:cap.Nodup):oq G ⟨H0,H,BO cap σ ρ⟩ (rJ k cap σ) (xw k cap ρ) H0 H where
 sub:=R.sub
 g0:=oj.refl _
 keep:=λb o e _=>e
 fr:=λb o e=>.inl e
 am:=λa ha=>by obtain⟨j,hj,⟨ds,e1⟩,e2⟩:=v7.mp ha;obtain⟨s,e3,e4⟩:=rF e1;obtain⟨a',xs,h1,h2,_⟩:=(R.sl j s e3).lst e4;rw[e2]at h1;cases h1;exact⟨_,h2⟩
 len:=by unfold rJ xw;rw[ay,ay,cf,cf,ah,ah]
 sl:=λi s e=>by
  rcases AJ e with rfl|⟨m,j,rfl,e1,rfl⟩
  ·trivial
  ·rw[x3 e1];cases e2:ρ[j]? with
   |none=>trivial
   |some s=>
    have ok:=R.sl j s e2;have mem:∀{a:Addr} {ds:aC},s.L=some ds->(σ[j]?).join=some (.ref a)->a∈BO cap σ ρ:=λh1 h2=>v7.mpr ⟨j,cu e1,⟨_,by unfold pZ;rw[e2];exact h1⟩,h2⟩;cases s with
    |un=>trivial
    |im d=>exact ok
    |ls ds=>obtain⟨a,xs,h1,h2,h3,h4,h5⟩:=ok;exact⟨a,xs,h1,h2,h3,mem rfl h1,h5⟩
    |pm ds=>obtain⟨a,xs,h1,h2,h3,h4,h5⟩:=ok;exact⟨a,xs,h1,h2,h3,mem rfl h1,h5⟩
    |dk ks ds=>trivial
    |ob c ns ds=>trivial
 ap:=λi i' s t a hii e e' so to v v'=>by
  rcases AJ e with rfl|⟨m,j,rfl,e1,rfl⟩
  ·cases so
  rcases AJ e' with rfl|⟨m',j',rfl,e1',rfl⟩
  ·cases to
  rw[x3 e1]at v;rw[x3 e1']at v';have own:∀{j:Nat},(((ρ[j]?).getD Sl.un).cap).own=true->∃s,ρ[j]?=some s/\s.own=true:=λ{j} h=>by
   cases z:ρ[j]? with
   |none=>rw[z]at h;cases h
   |some s=>rw[z]at h;refine⟨s,rfl,?_⟩;cases s<;>first|rfl|cases h
  obtain⟨s,z,zo⟩:=own so;obtain⟨s',z',zo'⟩:=own to;by_cases hj:j=j'
  ·subst hj;have:m=m':=(List.getElem?_inj (bP.mp e1).1 nd).mp (e1.trans e1'.symm);exact hii (by rw[this])
  ·exact R.ap j j' s s' a hj z z' zo zo' v v'
theorem oq.uncap(R:oq G F σ ρ H0 H){k:Nat}{cap:List Nat}{σ4:St}{ρ4:aU}(R4:oq G ⟨H0,H,BO cap σ ρ⟩ σ4 ρ4 H1 H1')(hd:σ4.drop k=(rJ k cap σ).drop k)(hu:rf cap (ρ4.drop k) ρ=some ρ'):oq G F σ ρ' H1 H1':=by
 obtain⟨hl,hc⟩:=vc hu;have at4:∀{m j:Nat},cap[m]?=some j->(σ4[k+m]?).join=(σ[j]?).join:=λ{m j} e=>by
  have q:(σ4.drop k)[m]?=((rJ k cap σ).drop k)[m]?:=by rw[hd]
  rw[dv,dv]at q;rw[q];exact x3 e
 have nA:∀{j:Nat} {s:Sl} {a:Addr},ρ[j]?=some s->s.own=true->(σ[j]?).join=some (.ref a)->(s.L≠none->j∉cap)->a∉BO cap σ ρ:=λ{j s a} e so z hn ha=>by
  obtain⟨i,hi,⟨ds,e1⟩,e2⟩:=v7.mp ha;obtain⟨t,e3,e4⟩:=rF e1;by_cases hij:i=j
  ·subst hij;rw[e]at e3;cases e3;exact hn (by rw[e4];simp) hi
  ·exact R.ap i j t s a hij e3 e (Sl.L_own e4) so e2 z
 have hA:∀a∈BO cap σ ρ,F.B a=none\/a∈F.A:=λa ha=>by obtain⟨i,hi,⟨ds,e1⟩,e2⟩:=v7.mp ha;obtain⟨t,e3,e4⟩:=rF e1;obtain⟨a',u,h1,h2,h3,h4⟩:=(R.sl i t e3).at (Sl.L_own e4);rw[e2]at h1;cases h1;exact h4
 have own':∀{j:Nat} {s':Sl},ρ'[j]?=some s'->s'.own=true->∃s,ρ[j]?=some s/\s.own=true:=λ{j s'} e so=>by
  obtain⟨s,e1,q⟩:=hc j s' e;rcases q with ⟨rfl,q⟩|⟨m,ds,ds0,q1,q2,q3,q4⟩
  ·exact⟨s',e1,so⟩
  ·exact⟨s,e1,Sl.L_own q3⟩
 exact {
  sub:=R4.sub
  g0:=R.g0.trans R4.g0
  keep:=λb o e n=>by
   refine R4.keep b o (R.keep b o e n) λha=>?_;rcases hA b ha with q|q
   ·rw[q]at e;cases e
   ·exact n q
  fr:=λb o e=>by
   rcases R4.fr b o e with q|q
   ·exact R.fr b o q
   ·exact .inr (R.bNone q)
  am:=λa ha=>by
   obtain⟨o,q⟩:=R.am a ha;by_cases z:a∈BO cap σ ρ
   ·exact R4.am a z
   ·exact⟨o,R4.keep a o q z⟩
  len:=by rw[hl];exact R.len
  sl:=λj s' e=>by
   obtain⟨s,e1,q⟩:=hc j s' e;rcases q with ⟨rfl,q⟩|⟨m,ds,ds0,q1,q2,q3,q4⟩
   ·refine(R.sl j s' e1).grow R4.g0 (λa u z so y=>R4.keep a u y (nA e1 so z q)) λa u z so y y0=>?_;cases w:H1 a with
    |none=>rfl
    |some o=>
     rcases R4.fr a o w with x|x
     ·have x':H0 a=some o:=x;rw[x']at y0;cases y0
     ·have x':H a=none:=x;rw[x']at y;cases y
   ·rw[dv]at q2;obtain⟨a,xs,h1,h2,h3,h4,h5⟩:=R4.sl _ _ q2;rw[at4 q1]at h1;have ok:=R.sl j s e1;subst q4;cases s with
    |ls ds1=>obtain⟨a',xs',g1,g2,g3,g4,g5⟩:=ok;rw[h1]at g1;cases g1;exact⟨a,xs,h1,h2,h3,g4,h5⟩
    |pm ds1=>obtain⟨a',xs',g1,g2,g3,g4,g5⟩:=ok;rw[h1]at g1;cases g1;exact⟨a,xs,h1,h2,h3,g4,h5⟩
    |_=>cases q3
  ap:=λi j s t a hij ei ej so to v v'=>by
   obtain⟨s0,z,zo⟩:=own' ei so;obtain⟨t0,y,yo⟩:=own' ej to;exact R.ap i j s0 t0 a hij z y zo yo v v' }
theorem v8{k:Nat}{cap:List Nat}{ts:aU}{p:Addr}(h:Apart σ ρ p)(hu:rf cap ts ρ=some ρ'):Apart σ ρ' p:=λi s' e so=>by
 obtain⟨s,e1,q⟩:=(vc hu).2 i s' e;rcases q with ⟨rfl,q⟩|⟨m,ds,ds0,q1,q2,q3,q4⟩
 ·exact h i s' e1 so
 ·exact h i s e1 (Sl.L_own q3)
theorem Hf{k:Nat}{cap:List Nat}{s:FA}{g:FG}(nd:cap.Nodup):∀σ H Q,tFN G (oB k cap s g ft fe) σ H Q->AB (tFI G s) (tFG G k g) (tFT G ft) (tF G fe) k cap σ H Q:=λσ H Q hh=>by
 obtain⟨F,ρ,H0,es,ρ',R,e,kk⟩:=hh;unfold oB at e;rcases oK (f:=s) (ρ:=ρ)with e1|⟨ds,ρ1,e1⟩<;>simp only[e1]at e
 ·cases e
 ·split at e
  ·rename_i hlen;refine⟨F,ρ,H0,ds,ρ1,R,e1,λJ H1 H1' s1 R1 wk p hp=>?_⟩;refine⟨λi m acc H2=>m=ds.length - i/\i<=ds.length/\∃ρi Hi dn rest,oj H1 Hi/\oq G F σ ρi Hi H2/\H2 p=some (.lst acc)/\Hi p=none/\Apart σ ρi p/\nZ G Hi dn acc/\dn.length<=i/\rW k cap g ft fe (ds.drop i) ρi=some (rest,ρ')/\es=dn++rest,
    ⟨_,rfl,bW _,ρ1,H1,[],es,oj.refl _,R1.newOwn hp _,oa,R1.h0none hp,R1.apart hp,oO,az _,e,rfl⟩,?_⟩
   rintro i m acc H2 ⟨rfl,hi,ρi,Hi,dn,rest,si,Ri,hp2,hp0,apt,rs,hdn,ei,rfl⟩;by_cases hlt:i<ds.length
   ·have ed:ds.drop i=ds[i]::ds.drop (i+1):=hE hlt;rw[ed]at ei;unfold rW at ei;obtain⟨go,yl⟩:=(wk i Hi H2 si Ri.sub).1 ds[i] (aI hlt);refine .inr ⟨go,λx H3 y=>?_⟩;obtain⟨Hj,t1,t2,t3,t4,t5⟩:=yl x H3 y;have R2:=Ri.grow t3 t1 t2 t4;have hp3:H3 p=some (.lst acc):=t3 _ _ hp2;have hpj:Hj p=none:=by
     cases w:Hj p with
     |none=>rfl
     |some o=>
      rcases t4 p o w with z|z
      ·rw[hp0]at z;cases z
      ·rw[hp2]at z;cases z
    have RC:=R2.cap k cap nd;have npA:p∉BO cap σ ρi:=λz=>by obtain⟨j,_,⟨ds',q1⟩,q2⟩:=v7.mp z;obtain⟨t,q3,q4⟩:=rF q1;exact apt j t q3 (Sl.L_own q4) q2
    cases e2:g ds[i] (xw k cap ρi)with
    |none=>simp only[e2]at ei;cases ei
    |some ρ2=>
     simp only[e2]at ei;refine⟨_,_,Hj,ds[i],ρ2,RC,t5,e2,λσ4 hd4 R4=>⟨hd4,?_⟩⟩;rcases oK (f:=ft) (ρ:=ρ2)with e3|⟨b,ρ3,e3⟩
     ·simp only[e3]at ei;cases ei
     ·refine⟨_,ρ2,Hj,b,ρ3,R4,e3,λH5 H5' s5 R5=>?_⟩;have keepP:∀{σ':St} {ρ'':aU} {Ha Ha':Hp},oq G ⟨Hj,H3,BO cap σ ρi⟩ σ' ρ'' Ha Ha'->Ha' p=some (.lst acc)/\Ha p=none:=λRz=>by
       refine⟨Rz.keep p _ hp3 npA,?_⟩;refine Option.eq_none_iff_forall_ne_some.mpr λo w2=>?_;rcases Rz.fr p o w2 with z|z
       ·have z':Hj p=some o:=z;rw[hpj]at z';cases z'
       ·have z':H3 p=none:=z;rw[hp3]at z';cases z'
      cases b with
      |false=>
       simp only[e3]at ei;refine Ek ?_;cases e4:rf cap (ρ3.drop k) ρi with
       |none=>simp only[e4]at ei;cases ei
       |some ρn=>simp only[e4]at ei;obtain⟨w1,w2⟩:=keepP R5;exact⟨ds.length - (i+1),by omega,rfl,hlt,ρn,H5,dn,rest,si.trans (t1.trans s5),R2.uncap R5 hd4 e4,w1,w2,v8 (k:=k) apt e4,nZ.mono (t1.trans s5) _ _ rs,by omega,ei,rfl⟩
      |true=>
       simp only[e3]at ei;refine El ?_;rcases oK (f:=fe) (ρ:=ρ3)with e5|⟨x5,ρ5,e5⟩
       ·simp only[e5]at ei;cases ei
       ·simp only[e5]at ei;refine⟨_,ρ3,H5,x5,ρ5,R5,e5,λv H6 H6' s6 R6 rv=>?_⟩;obtain⟨w1,w2⟩:=keepP R6;cases e4:rf cap (ρ5.drop k) ρi with
        |none=>simp only[e4]at ei;cases ei
        |some ρn=>
         simp only[e4]at ei;cases e6:rW k cap g ft fe (ds.drop (i+1)) ρn with
         |none=>simp only[e6]at ei;cases ei
         |some q=>
          obtain⟨rest',ρz⟩:=q;simp only[e6]at ei;cases ei;have Rn:=R2.uncap R6 hd4 e4;have lacc:acc.length=dn.length:=(n8 rs).symm;refine⟨acc,w1,wI (by omega),ds.length - (i+1),by omega,rfl,hlt,ρn,H6,dn++[x5],rest',si.trans (t1.trans (s5.trans s6)),?_,oa,w2,v8 (k:=k) apt e4,qe (nZ.mono (t1.trans (s5.trans s6)) _ _ rs) (oJ rv oO),by rw[ay,aZ];omega,e6,by rw[bw];rfl⟩;exact {
           sub:=λb o e=>by rw[og (λz=>by rw[z,w2]at e;cases e)];exact Rn.sub b o e
           g0:=Rn.g0
           keep:=λb o e n=>by rw[og (λz=>by subst z;rw[R1.bNone hp]at e;cases e)];exact Rn.keep b o e n
           fr:=Rn.fr
           am:=λb hb=>by
            by_cases z:b=p
            ·subst z;exact⟨_,oa⟩
            ·rw[og z];exact Rn.am b hb
           len:=Rn.len
           sl:=λj t ej=>(Rn.sl j t ej).grow (oj.refl _) (λb u z to q=>by rw[og (λy=>v8 (k:=k) apt e4 j t ej to (by rw[z,y]))];exact q) λb u _ _ _ q=>q
           ap:=Rn.ap }
   ·have ez:ds.drop i=[]:=lI (by omega);rw[ez]at ei;unfold rW at ei;cases ei;rw[bz]at kk;exact .inl ⟨(wk i Hi H2 si Ri.sub).2 (by omega),kk p acc Hi H2 (s1.trans si) Ri hp2 hp0 (R1.bNone hp) apt rs⟩
  ·cases e
theorem KB{k:Nat}{cap:List Nat}{s:FA}{g:FG}(nd:cap.Nodup)(h:PE X e (AB (tFI G s) (tFG G k g) (tFT G ft) (tF G fe) k cap)):PE X e (tFN G (oB k cap s g ft fe)):=PE.weak h (Hf nd)
theorem KC:PIf X [] (tFT G pF):=λpins s σ H Q I h=>by obtain⟨F,ρ,H0,b,ρ',R,e,k⟩:=h;cases e;exact Nd pins s σ H Q I (k _ _ (oj.refl _) R)
end
def qQ:D->Bool
 |.non=>true|.bl _=>true|.int _=>true|.str _=>true|_=>false
def vD:D->V
 |.non=>.non|.bl b=>.bl b|.int i=>.int i|.str x=>.str x|_=>.non
variable{r':R2}{g':D->D->Option D}{neg:Bool}{r:bp->Hp->VK->Prop}
section
variable{X:Cx}{G:Bg}{H:Hp}
theorem sG{v:V}(h:Rep G H d v)(f:qQ d=true):v=vD d:=by cases d<;>first|(unfold Rep at h;exact h)|cases f
theorem x4(f:qQ d=true):∀H,Rep G H d (vD d):=λH=>by cases d<;>first|(unfold Rep;rfl)|cases f
theorem yP:∀{ds:aC} {xs:bp},nZ G H ds xs->ds.all qQ=true->xs=ds.map vD
 |[],xs,h,f=>by unfold nZ at h;exact h
 |d::ds,xs,h,f=>by unfold nZ at h;obtain⟨v,r,rfl,h1,h2⟩:=h;rw[fz,bo]at f;rw[ar,sG h1 f.1,yP h2 f.2]
theorem EA(f:qQ d=true):wZ (vD d)=true:=by cases d<;>first|rfl|cases f
theorem Ck:∀{ds:aC},ds.all qQ=true->(ds.map vD).all wZ=true
 |[],_=>rfl
 |d::ds,f=>by rw[fz,bo]at f;rw[ar,fz,EA f.1,Ck f.2];rfl
theorem OpR.or{f:aa->aa->Sem aa}{r:R2}(h:OpR X f r)(h':OpR X f r'):OpR X f (λx y H Q=>r x y H Q\/r' x y H Q):=λpins s σ H x y v u Q I rx ry q=>q.elim (h pins s σ H x y v u Q I rx ry) (h' pins s σ H x y v u Q I rx ry)
theorem OpD.or{r:R2}{g:D->D->Option D}(h:OpD G r g)(h':OpD G r' g'):OpD G (λx y H Q=>r x y H Q\/r' x y H Q) (λx y=>match g x y with|some z=>some z|none=>g' x y):=λx y z H0 H v u Q e s rx ry k=>by
 cases e1:g x y with
 |some w=>simp only[e1]at e;cases e;exact .inl (h x y _ H0 H v u Q e1 s rx ry k)
 |none=>simp only[e1]at e;exact .inr (h' x y z H0 H v u Q e s rx ry k)
def dI(C:Int->Int->Bool)(g:Int->Int->D):D->D->Option D
 |.int a,.int b=>if C a b=true then some (g a b)else none
 |_,_=>none
theorem Hg{C:Int->Int->Bool}{C':Int->Int->Prop}{g:Int->Int->D}{g':Int->Int->V}(hC:∀a b,C a b=true->C' a b)(hf:∀a b,qQ (g a b)=true/\vD (g a b)=g' a b):OpD G (rI C' g') (dI C g):=λx y z H0 H v u Q e s rx ry k=>by
 unfold dI at e;split at e
 ·rename_i a b;split at e
  ·rename_i hc;cases e;unfold Rep at rx ry;exact⟨a,b,rx,ry,hC _ _ hc,by rw[<-(hf a b).2];exact k _ λH0' _=>x4 (hf a b).1 H0'⟩
  ·cases e
 ·cases e
theorem yQ{g:Int->Int->D}{g':Int->Int->V}(hf:∀a b,qQ (g a b)=true/\vD (g a b)=g' a b):OpD G (rI0 g') (dI (λ_ _=>true) g):=λx y z H0 H v u Q e s rx ry k=>by
 unfold dI at e;split at e
 ·rename_i a b;split at e
  ·cases e;unfold Rep at rx ry;exact⟨a,b,rx,ry,by rw[<-(hf a b).2];exact k _ λH0' _=>x4 (hf a b).1 H0'⟩
  ·cases e
 ·cases e
def o9:=dI (λ_ _=>true) λa b=>.int (a+b)
def KD:=dI (λ_ _=>true) λa b=>.int (a - b)
def xy(a:Int):Bool:=decide (-(2 ^ 64)<a)&&decide (a<2 ^ 64)
def sH:=dI (λa b=>xy a||xy b) λa b=>.int (a * b)
def rG:=dI (λ_ b=>decide (0<b)) λa b=>.int (a % b)
def w6:=dI (λ_ b=>decide (0<b)&&decide (b<1073741824)) λa b=>.int (a / b)
def ya:=dI (λa b=>decide (0<=b)&&decide (b<=1000000)&&decide (a.natAbs<2 ^ 64)) λa b=>.int (a ^ b.toNat)
def yR:=dI (λ_ _=>true) λa b=>.bl (decide (a<b))
def rK:=dI (λ_ _=>true) λa b=>.bl (decide (a<=b))
def KE:=dI (λ_ _=>true) λa b=>.bl (decide (b<a))
def QN:=dI (λ_ _=>true) λa b=>.bl (decide (b<=a))
theorem QO:OpD G (rI0 λi j=>.int (i+j)) o9:=yQ λ_ _=>⟨rfl,rfl⟩
theorem QP:OpD G (rI0 λi j=>.int (i - j)) KD:=yQ λ_ _=>⟨rfl,rfl⟩
theorem QQ:OpD G (rI MO λi j=>.int (i * j)) sH:=Hg (λa b h=>by
 unfold xy at h;simp only[mQ,bo,bR]at h;exact h) λ_ _=>⟨rfl,rfl⟩
theorem QR:OpD G (rI (λ_ j=>0<j) λi j=>.int (i % j)) rG:=Hg (λa b h=>by simpa using h) λ_ _=>⟨rfl,rfl⟩
theorem QS:OpD G (rI P9 λi j=>.int (i / j)) w6:=Hg (λa b h=>by unfold P9;simpa using h) λ_ _=>⟨rfl,rfl⟩
theorem QT:OpD G (rI Uc λi j=>.int (i ^ j.toNat)) ya:=Hg (λa b h=>by
 simp only[bo,bR]at h;exact⟨h.1.1,h.1.2,h.2⟩) λ_ _=>⟨rfl,rfl⟩
theorem UF:OpD G (rI0 λi j=>.bl (decide (i<j))) yR:=yQ λ_ _=>⟨rfl,rfl⟩
theorem UG:OpD G (rI0 λi j=>.bl (decide (i<=j))) rK:=yQ λ_ _=>⟨rfl,rfl⟩
theorem UH:OpD G (rI0 λi j=>.bl (decide (j<i))) KE:=yQ λ_ _=>⟨rfl,rfl⟩
theorem UI:OpD G (rI0 λi j=>.bl (decide (j<=i))) QN:=yQ λ_ _=>⟨rfl,rfl⟩
def Cm:D->D->Option D
 |.str a,.str b=>if a.length+b.length<=100000 then some (.str (a++b))else none
 |_,_=>none
theorem AK{n:Nat}(h:n<=100000):n<=sizeLine:=bS h (by rw[bK];decide)
theorem NU:OpD G (λx y H Q=>∃i j,x=.str i/\y=.str j/\i.length+j.length<=sizeLine/\Q (.str (i++j)) H) Cm:=λx y z H0 H v u Q e s rx ry k=>by
 unfold Cm at e;split at e
 ·rename_i a b;split at e
  ·rename_i hl;cases e;unfold Rep at rx ry;exact⟨a,b,rx,ry,AK hl,k _ λ_ _=>va _⟩
  ·cases e
 ·cases e
def KF:D->D->Option D
 |.str a,.str b=>some (.bl (!decide (b.cps.toList<a.cps.toList)))
 |_,_=>none
theorem QU:OpD G (λx y H Q=>∃i j,x=.str i/\y=.str j/\Q (.bl (!decide (j.cps.toList<i.cps.toList))) H) KF:=λx y z H0 H v u Q e s rx ry k=>by
 unfold KF at e;split at e
 ·rename_i a b;cases e;unfold Rep at rx ry;exact⟨a,b,rx,ry,k _ λ_ _=>q9 _⟩
 ·cases e
def yb:D->D->Option D
 |.non,.non=>some (.bl true)
 |_,.non=>some (.bl false)
 |_,_=>none
def KG:D->D->Option D
 |.non,.non=>some (.bl false)
 |_,.non=>some (.bl true)
 |_,_=>none
theorem Hh{v:V}(h:Rep G H d v):decide (v=.non)=(match d with|.non=>true|_=>false):=by
 cases d<;>unfold Rep at h
 ·subst h;rfl
 ·subst h;rfl
 ·subst h;rfl
 ·subst h;rfl
 ·obtain⟨a,xs,rfl,_⟩:=h;rfl
 ·obtain⟨a,xs,rfl,_⟩:=h;rfl
 ·obtain⟨a,xs,rfl,_⟩:=h;rfl
 ·obtain⟨a,dx,xs,rfl,_⟩:=h;rfl
 ·obtain⟨a,ob,xs,rfl,_⟩:=h;rfl
theorem QV:OpD G (λx y H Q=>y=.non/\Q (.bl (decide (x=.non))) H) yb:=λx y z H0 H v u Q e s rx ry k=>by
 have e0:=Hh rx;cases y<;>first|(cases x<;>cases e)|skip
 all_goals (unfold Rep at ry;refine⟨ry,?_⟩;rw[e0];exact k _ λ_ _=>q9 _)
theorem NV:OpD G (λx y H Q=>y=.non/\Q (.bl (!decide (x=.non))) H) KG:=λx y z H0 H v u Q e s rx ry k=>by
 have e0:=Hh rx;cases y<;>first|(cases x<;>cases e)|skip
 all_goals (unfold Rep at ry;refine⟨ry,?_⟩;rw[e0];exact k _ λ_ _=>q9 _)
def wJ:D->D->Option D
 |.bl a,.bl b=>some (.bl (a != b))
 |_,_=>none
theorem IM:OpD G (λx y H Q=>∃i j,x=.bl i/\y=.bl j/\Q (.bl (i != j)) H) wJ:=λx y z H0 H v u Q e s rx ry k=>by
 unfold wJ at e;split at e
 ·rename_i a b;cases e;unfold Rep at rx ry;exact⟨a,b,rx,ry,k _ λ_ _=>q9 _⟩
 ·cases e
mutual
def toD:D->Option L3.Dq
 |.non=>some .non
 |.bl b=>some (.bl b)
 |.int i=>some (.int i)
 |.str x=>some (.str x)
 |.tup ds=>match yS ds with
  |some l=>some (.tup l)
  |none=>none
 |.lst ds=>match yS ds with
  |some l=>some (.lst l)
  |none=>none
 |.fzl _=>none
 |.obj _ _ _=>none
 |.dic _ _=>none
def yS:aC->Option (List L3.Dq)
 |[]=>some []
 |d::ds=>match toD d with
  |some x=>match yS ds with
   |some l=>some (x::l)
   |none=>none
  |none=>none
end
mutual
theorem Dw:∀(d:D) (v:V) (x:L3.Dq),Rep G H d v->toD d=some x->L3.Rep G.K H x v
 |.non,v,x,h,e=>by unfold toD at e;cases e;unfold Rep at h;unfold L3.Rep;exact h
 |.bl b,v,x,h,e=>by unfold toD at e;cases e;unfold Rep at h;unfold L3.Rep;exact h
 |.int b,v,x,h,e=>by unfold toD at e;cases e;unfold Rep at h;unfold L3.Rep;exact h
 |.str b,v,x,h,e=>by unfold toD at e;cases e;unfold Rep at h;unfold L3.Rep;exact h
 |.tup ds,v,x,h,e=>by
  unfold toD at e;cases e1:yS ds with
  |none=>simp only[e1]at e;cases e
  |some l=>simp only[e1]at e;cases e;unfold Rep at h;obtain⟨a,xs,rfl,h1,h2⟩:=h;unfold L3.Rep;exact⟨a,xs,rfl,h1,AL ds xs l h2 e1⟩
 |.lst ds,v,x,h,e=>by
  unfold toD at e;cases e1:yS ds with
  |none=>simp only[e1]at e;cases e
  |some l=>simp only[e1]at e;cases e;unfold Rep at h;obtain⟨a,xs,rfl,h1,h2⟩:=h;unfold L3.Rep;exact⟨a,xs,rfl,SqL.of h1,AL ds xs l h2 e1⟩
 |.fzl _,v,x,h,e=>by unfold toD at e;cases e
 |.obj _ _ _,v,x,h,e=>by unfold toD at e;cases e
 |.dic _ _,v,x,h,e=>by unfold toD at e;cases e
theorem AL:∀(ds:aC) (xs:bp) (l:List L3.Dq),nZ G H ds xs->yS ds=some l->L3.nZ G.K H l xs
 |[],xs,l,h,e=>by unfold yS at e;cases e;unfold nZ at h;unfold L3.nZ;exact h
 |d::ds,xs,l,h,e=>by
  unfold yS at e;cases e1:toD d with
  |none=>simp only[e1]at e;cases e
  |some x=>
   simp only[e1]at e;cases e2:yS ds with
   |none=>simp only[e2]at e;cases e
   |some l'=>simp only[e2]at e;cases e;unfold nZ at h;obtain⟨v,r,rfl,h1,h2⟩:=h;unfold L3.nZ;exact⟨v,r,rfl,Dw d v x h1 e1,AL ds r l' h2 e2⟩
end
def BP(neg:Bool):D->D->Option D:=λx y=>match qQ x&&qQ y&&JS (vD x) (vD y)with
 |true=>some (.bl (if neg then !decide (vD x=vD y)else decide (vD x=vD y)))
 |false=>none
def EB(neg:Bool):D->D->Option D:=λx y=>match toD x,toD y with
 |some a,some b=>if G3 a b&&decide (dpt a<=20)&&decide (dpt b<=20)then some (.bl (if neg then !eqD a b else eqD a b))else none
 |_,_=>none
def dEq(neg:Bool):D->D->Option D:=λx y=>match BP neg x y with
 |some z=>some z
 |none=>EB neg x y
theorem QW:OpD G rEq (BP false):=λx y z H0 H v u Q e s rx ry k=>by
 unfold BP at e;cases e1:qQ x&&qQ y&&JS (vD x) (vD y)with
 |false=>simp only[e1]at e;cases e
 |true=>simp only[e1]at e;cases e;simp only[bo]at e1;rw[sG rx e1.1.1,sG ry e1.1.2];exact⟨e1.2,k _ λ_ _=>q9 _⟩
theorem QX:OpD G rNe (BP true):=λx y z H0 H v u Q e s rx ry k=>by
 unfold BP at e;cases e1:qQ x&&qQ y&&JS (vD x) (vD y)with
 |false=>simp only[e1]at e;cases e
 |true=>simp only[e1]at e;cases e;simp only[bo]at e1;rw[sG rx e1.1.1,sG ry e1.1.2];exact⟨e1.2,k _ λ_ _=>q9 _⟩
theorem KH:OpD G (FX G.K neg) (EB neg):=λx y z H0 H v u Q e s rx ry k=>by
 unfold EB at e;cases e1:toD x with
 |none=>simp only[e1]at e;cases e
 |some a=>
  cases e2:toD y with
  |none=>simp only[e1,e2]at e;cases e
  |some b=>
   simp only[e1,e2]at e;split at e
   ·rename_i hc;cases e;simp only[bo,bR]at hc;exact⟨a,b,Dw x v a (Rep.mono s _ _ rx) e1,Dw y u b (Rep.mono s _ _ ry) e2,hc.1.1,hc.1.2,hc.2,k _ λ_ _=>q9 _⟩
   ·cases e
theorem QY(hu:X.A.units+64<cLine)(hK:X.K=G.K:=by rfl):OpR X (compareOp .Eq) (λx y H Q=>rEq x y H Q\/FX G.K false x y H Q):=by rw[<-hK];exact OpR.or Ud (Qx hu)
theorem QZ(hu:X.A.units+64<cLine)(hK:X.K=G.K:=by rfl):OpR X (compareOp .NotEq) (λx y H Q=>rNe x y H Q\/FX G.K true x y H Q):=by rw[<-hK];exact OpR.or Ue (Qy hu)
theorem UJ:OpD G (λx y H Q=>rEq x y H Q\/FX G.K false x y H Q) (dEq false):=OpD.or QW KH
theorem UK:OpD G (λx y H Q=>rNe x y H Q\/FX G.K true x y H Q) (dEq true):=OpD.or QX KH
def KI:D->Option aC
 |.tup ds=>some ds
 |.lst ds=>some ds
 |.fzl ds=>some ds
 |_=>none
theorem Hk{v:V}(h:Rep G H d v)(e:KI d=some ds):∃p xs,v=.ref p/\(SqL G.K H p xs\/SqT G.K H p xs)/\nZ G H ds xs:=by
 cases d with
 |tup l=>cases e;unfold Rep at h;obtain⟨a,xs,rfl,h1,h2⟩:=h;exact⟨a,xs,rfl,.inr h1,h2⟩
 |lst l=>cases e;unfold Rep at h;obtain⟨a,xs,rfl,h1,h2⟩:=h;exact⟨a,xs,rfl,.inl (SqL.of h1),h2⟩
 |fzl l=>cases e;unfold Rep at h;obtain⟨a,xs,rfl,h1,h2⟩:=h;exact⟨a,xs,rfl,.inl h1,h2⟩
 |_=>cases e
def dIn(neg:Bool):D->D->Option D:=λx y=>match KI y with
 |some ds=>if qQ x&&ds.all qQ then some (.bl (if neg then !inV (vD x) (ds.map vD)else inV (vD x) (ds.map vD)))else none
 |none=>none
theorem Hl{K:ao}{H:Hp}{p:Addr}(s:oj H H')(h:SqL K H p xs\/SqT K H p xs):SqL K H' p xs\/SqT K H' p xs:=h.imp s.seq (SqT.mono s)
theorem Pk:OpD G (rIn G.K neg) (dIn neg):=λx y z H0 H v u Q e s rx ry k=>by
 unfold dIn at e;cases e1:KI y with
 |none=>simp only[e1]at e;cases e
 |some ds=>
  simp only[e1]at e;split at e
  ·rename_i hc;cases e;simp only[bo]at hc;obtain⟨p,xs,rfl,h1,h2⟩:=Hk ry e1;refine⟨p,xs,rfl,Hl s h1,?_,?_,?_⟩
   ·rw[sG rx hc.1];exact EA hc.1
   ·rw[yP h2 hc.2];exact Ck hc.2
   ·rw[sG rx hc.1,yP h2 hc.2];exact k _ λ_ _=>q9 _
  ·cases e
theorem Q0(hK:X.K=G.K:=by rfl):OpR X (compareOp .In) (rIn G.K false):=by rw[<-hK];exact Iu
theorem IP(hK:X.K=G.K:=by rfl):OpR X (compareOp .NotIn) (rIn G.K true):=by rw[<-hK];exact Dl
def dIx:D->D->Option D
 |.tup ds,.int i=>atI ds i
 |.lst ds,.int i=>atI ds i
 |.fzl ds,.int i=>atI ds i
 |.str x,.int i=>if x.length<=100000 then (atI x.cps.toList i).map λc=>.str ⟨#[c]⟩else none
 |_,_=>none
theorem UL:OpD G (rIx G.K) dIx:=λx y z H0 H v u Q e s rx ry k=>by
 cases y with
 |int i=>
  unfold Rep at ry;subst ry;cases x with
  |tup ds=>unfold Rep at rx;obtain⟨a,xs,rfl,h1,h2⟩:=rx;obtain⟨w,w1,w2⟩:=xY h2 (show atI ds i=some z from e);exact .inr (.inl ⟨a,xs,i,w,rfl,rfl,SqT.mono s h1,w1,k _ λH0' s'=>Rep.mono s' _ _ w2⟩)
  |lst ds=>unfold Rep at rx;obtain⟨a,xs,rfl,h1,h2⟩:=rx;obtain⟨w,w1,w2⟩:=xY h2 (show atI ds i=some z from e);exact .inl ⟨a,xs,i,w,rfl,rfl,s.seq (SqL.of h1),w1,k _ λH0' s'=>Rep.mono s' _ _ w2⟩
  |fzl ds=>unfold Rep at rx;obtain⟨a,xs,rfl,h1,h2⟩:=rx;obtain⟨w,w1,w2⟩:=xY h2 (show atI ds i=some z from e);exact .inl ⟨a,xs,i,w,rfl,rfl,s.seq h1,w1,k _ λH0' s'=>Rep.mono s' _ _ w2⟩
  |str t=>
   unfold Rep at rx;subst rx;unfold dIx at e;simp only at e;split at e
   ·rename_i hl;cases e1:atI t.cps.toList i with
    |none=>rw[e1]at e;cases e
    |some c=>rw[e1]at e;cases e;exact .inr (.inr ⟨t,i,c,rfl,rfl,AK hl,e1,k _ λ_ _=>va _⟩)
   ·cases e
  |_=>cases e
 |_=>cases x<;>cases e
theorem VE(hK:X.K=G.K:=by rfl):IxR X (rIx G.K):=by rw[<-hK];exact Qo
def Cn(G:Bg)(r:bp->Hp->VK->Prop)(g:D->Option D):Prop:=∀x z H0 H v (Q:VK),g x=some z->oj H0 H->Rep G H0 x v->(∀w,(∀H0',oj H0 H0'->Rep G H0' z w)->Q w H)->r [v] H Q
theorem Pm{g:D->Option D}(hr:Cn G r g)(h:PE X e (tCB r (tFA G (nU f ox)))):PE X e (tF G (c1 g f)):=PE.weak h λσ H Q hh=>by obtain⟨F,ρ,H0,d,ρ',R,e,k⟩:=hh;obtain⟨x,e1,e2⟩:=Ac e;refine⟨F,ρ,H0,[x],ρ',R,by unfold nU;rw[e1];rfl,λys H1 H1' s R' rs=>?_⟩;unfold nZ at rs;obtain⟨v,r0,rfl,rv,rn⟩:=rs;unfold nZ at rn;subst rn;exact hr x d H1 H1' v Q e2 R'.sub rv λw hw=>k _ _ _ s R' (hw _ (oj.refl _))
theorem p9.or{f:aa}{r':bp->Hp->VK->Prop}(h:p9 X f r)(h':p9 X f r'):p9 X f (λx H Q=>r x H Q\/r' x H Q):=λpins s σ H xs us Q I rv q=>q.elim (h pins s σ H xs us Q I rv) (h' pins s σ H xs us Q I rv)
def pP:D->Option D
 |.tup ds=>some (.int ds.length)
 |.lst ds=>some (.int ds.length)
 |.fzl ds=>some (.int ds.length)
 |.str x=>if x.length<=100000 then some (.int x.length)else none
 |.dic ks ds=>some (.int ks.length)
 |_=>none
theorem IQ:p9 X (.builtin "len") (λxs H Q=>∃a kvs,xs=[V.ref a]/\Rd H a (.dK kvs)/\Q (.int kvs.length) H):=by intro pins s σ H xs us Q I r h;obtain⟨a,kvs,rfl,ha,q⟩:=h;obtain⟨u,rfl,ru⟩:=vals1 r;cases ru;exact Ut I ha λt s' I'=>⟨.int kvs.length,H,I',⟨t,rfl⟩,q⟩
def Pn(K:ao):bp->Hp->VK->Prop:=λxs H Q=>(∃p ys,xs=[.ref p]/\(SqL K H p ys\/SqT K H p ys)/\Q (.int ys.length) H)\/((∃z,xs=[.str z]/\z.length<=sizeLine/\Q (.int z.length) H)\/(∃a kvs,xs=[V.ref a]/\Rd H a (.dK kvs)/\Q (.int kvs.length) H))
theorem IR(hK:X.K=G.K:=by rfl):p9 X (.builtin "len") (Pn G.K):=by rw[<-hK];exact p9.or Dm (p9.or Dn IQ)
theorem Q1:Cn G (Pn G.K) pP:=λx z H0 H v Q e s rx k=>by
 cases x with
 |tup ds=>cases e;unfold Rep at rx;obtain⟨a,xs,rfl,h1,h2⟩:=rx;refine .inl ⟨a,xs,rfl,.inr (SqT.mono s h1),?_⟩;rw[<-n8 h2];exact k _ λ_ _=>ql _
 |lst ds=>cases e;unfold Rep at rx;obtain⟨a,xs,rfl,h1,h2⟩:=rx;refine .inl ⟨a,xs,rfl,.inl (s.seq (SqL.of h1)),?_⟩;rw[<-n8 h2];exact k _ λ_ _=>ql _
 |fzl ds=>cases e;unfold Rep at rx;obtain⟨a,xs,rfl,h1,h2⟩:=rx;refine .inl ⟨a,xs,rfl,.inl (s.seq h1),?_⟩;rw[<-n8 h2];exact k _ λ_ _=>ql _
 |str t=>
  unfold pP at e;simp only at e;split at e
  ·rename_i hl;cases e;unfold Rep at rx;exact .inr (.inl ⟨t,by rw[rx],AK hl,k _ λ_ _=>ql _⟩)
  ·cases e
 |dic ks ds=>cases e;unfold Rep at rx;obtain⟨a,o,xs,rfl,h1,h2,h3⟩:=rx;refine .inr (.inr ⟨a,_,rfl,.inr ⟨o,s _ _ h1⟩,?_⟩);rw[eC,<- h2,dG];exact k _ λ_ _=>ql _
 |_=>cases e
def NW:D->Option D
 |.int i=>some (.int i)
 |.bl b=>some (.int (if b then 1 else 0))
 |_=>none
theorem Q2:Cn G (λxs H Q=>(∃i,xs=[.int i]/\Q (.int i) H)\/∃k,xs=[.bl k]/\Q (.int (if k then 1 else 0)) H) NW:=λx z H0 H v Q e s rx k=>by
 cases x with
 |int i=>cases e;unfold Rep at rx;subst rx;exact .inl ⟨i,rfl,k _ λ_ _=>ql _⟩
 |bl b=>cases e;unfold Rep at rx;subst rx;exact .inr ⟨b,rfl,k _ λ_ _=>ql _⟩
 |_=>cases e
def BQ:aC->Option (List Bool)
 |[]=>some []
 |.bl b::r=>(BQ r).map (b::·)
 |_=>none
theorem AM:∀{ds:aC} {xs:bp} {bs:List Bool},nZ G H ds xs->BQ ds=some bs->xs=bs.map V.bl
 |[],xs,bs,h,e=>by cases e;unfold nZ at h;exact h
 |.bl b::r,xs,bs,h,e=>by
  unfold nZ at h;obtain⟨v,q,rfl,h1,h2⟩:=h;unfold BQ at e;cases e1:BQ r with
  |none=>rw[e1]at e;cases e
  |some l=>rw[e1]at e;cases e;unfold Rep at h1;subst h1;rw[AM h2 e1];rfl
 |.non::r,xs,bs,h,e=>by cases e
 |.int _::r,xs,bs,h,e=>by cases e
 |.str _::r,xs,bs,h,e=>by cases e
 |.tup _::r,xs,bs,h,e=>by cases e
 |.lst _::r,xs,bs,h,e=>by cases e
 |.fzl _::r,xs,bs,h,e=>by cases e
 |.obj _ _ _::r,xs,bs,h,e=>by cases e
 |.dic _ _::r,xs,bs,h,e=>by cases e
def tE:D->Option D
 |.lst ds=>(BQ ds).map λbs=>.bl (bs.all id)
 |_=>none
theorem Q3:Cn G (λxs H Q=>∃(p:Addr) (bs:List Bool),xs=[.ref p]/\SqL G.K H p (bs.map V.bl)/\Q (.bl (bs.all id)) H) tE:=λx z H0 H v Q e s rx k=>by
 cases x with
 |lst ds=>
  unfold tE at e;simp only at e;cases e1:BQ ds with
  |none=>rw[e1]at e;cases e
  |some bs=>rw[e1]at e;cases e;unfold Rep at rx;obtain⟨a,xs,rfl,h1,h2⟩:=rx;rw[AM h2 e1]at h1;exact⟨a,bs,rfl,s.seq (SqL.of h1),k _ λ_ _=>q9 _⟩
 |_=>cases e
theorem IS(hc:X.calm=true)(hK:X.K=G.K:=by rfl):p9 X (.builtin "all") (λxs H Q=>∃(p:Addr) (bs:List Bool),xs=[.ref p]/\SqL G.K H p (bs.map V.bl)/\Q (.bl (bs.all id)) H):=by rw[<-hK];exact Kc hc
inductive Ty where
 |b (n:String)|c (k:Nat)
def Ty.val(G:Bg):Ty->aa
 |.b n=>.type n
 |.c k=>.ref (G.ca k)
def Ty.v(G:Bg):Ty->V
 |.b n=>.ty n
 |.c k=>.ref (G.ca k)
def tyD:D->Ty
 |.non=>.b "NoneType" |.bl _=>.b "bool" |.int _=>.b "int" |.str _=>.b "str" |.tup _=>.b "tuple" |.lst _=>.b "list" |.fzl _=>.b "list" |.dic _ _=>.b "dict" |.obj c _ _=>.c c
structure IT(K:ao)(C:Addr):Prop where
 cl:Cls K C
 ha:cI K (.ref C) "__class__" = some (some (.builtin "object.__class__"))
 hn:W.specialIn K (.builtin "object.__class__") "__get__" = some (some (.builtin "getset_descriptor.__get__"))
 htk:W.takesIn K (.builtin "object.__class__")=some true
 hm:W.mroIn K C (.type "object")=some true
theorem KJ{pins:bY}{s:ae}{A:aE}{E:aa->ae->Prop}{Q:aa->ae->Prop}{c:aa}{b:Bool}{v:V}{u:aa}(I:Inv X pins σ H s)(hK:X.K=G.K)(hd:Rep G H d v)(rv:RelV v u)(hc:∀k ns ds,d=.obj k ns ds->IT X.K (G.ca k))
  (e:cA X.K ((tyD d).val G) c=some b) (h:∀tk,Q (.bool b) { s with toks:=tk }):wpAny (model X.prog X.w) A (call (.builtin "isinstance") [u,c]) Q E s:=by
 cases d with
 |non=>unfold Rep at hd;subst hd;exact sY I rv .non e h
 |bl x=>unfold Rep at hd;subst hd;exact sY I rv (.bl x) e h
 |int x=>unfold Rep at hd;subst hd;exact sY I rv (.int x) e h
 |str x=>unfold Rep at hd;subst hd;exact sY I rv (.str x) e h
 |tup ds=>unfold Rep at hd;obtain⟨a,xs,rfl,h1,h2⟩:=hd;cases rv;rw[<-hK]at h1;obtain⟨its,_,p,_⟩:=I.tuple h1;obtain⟨o,q1,q2,_⟩:=p;exact cn W.kitx_tuple I.kIn ⟨o,q1,q2⟩ e (λz=>nomatch z) h
 |lst ds=>unfold Rep at hd;obtain⟨a,xs,rfl,h1,h2⟩:=hd;exact sY I rv (.lst h1) e h
 |fzl ds=>unfold Rep at hd;obtain⟨a,xs,rfl,h1,h2⟩:=hd;cases rv;rw[<-hK]at h1;obtain⟨its,_,p,_⟩:=I.list h1;obtain⟨o,n,q1,q2,_⟩:=p;exact cn kq I.kIn ⟨o,q1,q2⟩ e (λz=>nomatch z) h
 |dic ks ds=>unfold Rep at hd;obtain⟨a,o,xs,rfl,h1,h2,h3⟩:=hd;cases rv;obtain⟨q0,_,_,vs,_,ob,es,ep,q1,q2,_⟩:=(show pD X.prog X.w H s.heap a (.frz o (.dK (ks.zip xs))) from I.hok a _ h1);exact cn kr I.kIn ⟨ob,q1,q2.1⟩ e (λz=>nomatch z) h
 |obj k ns ds=>have ci:=hc k ns ds rfl;unfold Rep at hd;obtain⟨a,dx,xs,rfl,h1,h2,h3⟩:=hd;exact sY I rv (.ins h1 ci.cl ci.ha ci.hn ci.htk ci.hm) e h
def qv(t:Ty->Option Bool):D->Option D:=λd=>(t (tyD d)).map .bl
theorem Cp(c:Ty){t:Ty->Option Bool}(ht:∀y b,t y=some b->cA X.K (y.val G) (c.val G)=some b)(hc:∀k b,t (.c k)=some b->IT X.K (G.ca k))(hK:X.K=G.K:=by rfl):
  p9 X (.builtin "isinstance") (λxs H Q=>∃d x b,xs=[x,c.v G]/\Rep G H d x/\t (tyD d)=some b/\Q (.bl b) H):=by
 intro pins s σ H xs us Q I r h;obtain⟨d,x,b,rfl,hd,e,q⟩:=h;obtain⟨u,w',rfl,ru,rw'⟩:=vals2 r;have ew:w'=c.val G:=by cases c<;>exact rw'
 subst ew;exact KJ I hK hd ru (λk ns ds z=>by subst z;exact hc k b e) (ht _ _ e) λtk=>⟨.bl b,H,I.tok _,rfl,q⟩
theorem Hm{c:Ty}{t:Ty->Option Bool}(h:PE X e (tCB (λxs H Q=>∃d x b,xs=[x,c.v G]/\Rep G H d x/\t (tyD d)=some b/\Q (.bl b) H) (Ap (tF G f) (Ap (tC (c.v G)) Ec)))):PE X e (tF G (c1 (qv t) f)):=PE.weak h λσ H Q hh=>by
 obtain⟨F,ρ,H0,d,ρ',R,e,k⟩:=hh;obtain⟨x,e1,e2⟩:=Ac e;unfold qv at e2;cases e3:t (tyD x)with
 |none=>rw[e3]at e2;cases e2
 |some b=>rw[e3]at e2;cases e2;exact⟨F,ρ,H0,x,ρ',R,e1,λv H1 H1' s R' r=>⟨x,v,b,rfl,Rep.mono R'.sub _ _ r,e3,k _ _ _ s R' (q9 b)⟩⟩
def qF(f g:FE):FA:=λρ=>match f ρ with
 |some (.lst xs,ρ1)=>match g ρ1 with
  |some (.lst ys,ρ2)=>if xs.length+ys.length<=1000 then some (xs++ys,ρ2)else none
  |_=>none
 |_=>none
theorem NX{a b:Expr}{g:FE}(ha:PE X a (tF G f))(hb:PE X b (tF G g)):PE X (.BinOp a .Add b pos) (tFN G (qF f g)):=PE.weak (GU Qq ha hb) λσ H Q hh=>by
 obtain⟨F,ρ,H0,d,ρ',R,e,k⟩:=hh;unfold qF at e;split at e
 ·rename_i xs ρ1 e1;split at e
  ·rename_i ys ρ2 e2;split at e
   ·rename_i hl;cases e;refine⟨F,ρ,H0,_,ρ1,R,e1,λv H1 H1' s R' r=>⟨F,ρ1,H1,_,_,R',e2,λu H2 H2' s2 R2 r2=>?_⟩⟩;have r':=Rep.mono s2 _ _ r;unfold Rep at r' r2;obtain⟨a1,xs1,rfl,h1,h2⟩:=r';obtain⟨a2,xs2,rfl,h3,h4⟩:=r2;refine⟨a1,a2,xs1,xs2,rfl,rfl,R2.sub _ _ h1,R2.sub _ _ h3,by rw[<-n8 h2,<- n8 h4];exact r6 hl,λp hp=>?_⟩;exact k p _ _ _ (s.trans s2) (R2.newOwn hp _) oa (R2.h0none hp) (R2.bNone hp) (R2.apart hp) (qe h2 h4)
   ·cases e
  ·cases e
 ·cases e
def uK(f:FE):FA:=λρ=>match f ρ with
 |some (d,ρ1)=>match KI d with
  |some ds=>some (ds,ρ1)
  |none=>none
 |none=>none
theorem KL(h:PE X e (tCB (λxs H Q=>∃p ys,xs=[.ref p]/\(SqL G.K H p ys\/SqT G.K H p ys)/\∀l,H l=none->Q (.ref l) (upd H l (.lst ys))) (tFA G (nU f ox)))):PE X e (tFN G (uK f)):=PE.weak h λσ H Q hh=>by
 obtain⟨F,ρ,H0,ds,ρ',R,e,k⟩:=hh;unfold uK at e;rcases oK (f:=f) (ρ:=ρ)with e1|⟨d,ρ1,e1⟩<;>simp only[e1]at e
 ·cases e
 ·cases e2:KI d with
  |none=>simp only[e2]at e;cases e
  |some ds'=>simp only[e2]at e;cases e;refine⟨F,ρ,H0,[d],_,R,by unfold nU;rw[e1];rfl,λys H1 H1' s R' rs=>?_⟩;unfold nZ at rs;obtain⟨v,r0,rfl,rv,rn⟩:=rs;unfold nZ at rn;subst rn;obtain⟨p,xs,rfl,h1,h2⟩:=Hk rv e2;exact⟨p,xs,rfl,Hl R'.sub h1,λl hl=>k l _ _ _ s (R'.newOwn hl _) oa (R'.h0none hl) (R'.bNone hl) (R'.apart hl) h2⟩
theorem F1(hK:X.K=G.K:=by rfl):p9 X (.type "list") (λxs H Q=>∃p ys,xs=[.ref p]/\(SqL G.K H p ys\/SqT G.K H p ys)/\∀l,H l=none->Q (.ref l) (upd H l (.lst ys))):=by rw[<-hK];exact Do
def EC(f:FE):FE:=λρ=>match f ρ with
 |some (.lst ds,ρ1)=>some (.tup ds,ρ1)
 |some (.tup ds,ρ1)=>some (.tup ds,ρ1)
 |_=>none
theorem KM(h:PE X e (tCB (λxs H Q=>∃p ys,xs=[.ref p]/\((SqL G.K H p ys/\∀l,H l=none->Q (.ref l) (upd H l (.tup ys)))\/(SqT G.K H p ys/\Q (.ref p) H))) (tFA G (nU f ox)))):PE X e (tF G (EC f)):=PE.weak h λσ H Q hh=>by
 obtain⟨F,ρ,H0,ds,ρ',R,e,k⟩:=hh;unfold EC at e;split at e
 ·rename_i xs ρ1 e1;cases e;refine⟨F,ρ,H0,[_],_,R,by unfold nU;rw[e1];rfl,λys H1 H1' s R' rs=>?_⟩;unfold nZ at rs;obtain⟨v,r0,rfl,rv,rn⟩:=rs;unfold nZ at rn;subst rn;unfold Rep at rv;obtain⟨p,zs,rfl,h1,h2⟩:=rv;refine⟨p,zs,rfl,.inl ⟨SqL.of (R'.sub _ _ h1),λl hl=>?_⟩⟩;exact k _ _ _ (s.trans (oh (R'.h0none hl) _)) (R'.newIm hl _) (sS (SqT.of oa) (nZ.mono (oh (R'.h0none hl) _) _ _ h2))
 ·rename_i xs ρ1 e1;cases e;refine⟨F,ρ,H0,[_],_,R,by unfold nU;rw[e1];rfl,λys H1 H1' s R' rs=>?_⟩;unfold nZ at rs;obtain⟨v,r0,rfl,rv,rn⟩:=rs;unfold nZ at rn;subst rn;have rv0:=rv;unfold Rep at rv;obtain⟨p,zs,rfl,h1,h2⟩:=rv;exact⟨p,zs,rfl,.inr ⟨SqT.mono R'.sub h1,k _ _ _ s R' rv0⟩⟩
 ·cases e
theorem IU(hK:X.K=G.K:=by rfl):p9 X (.type "tuple") (λxs H Q=>∃p ys,xs=[.ref p]/\((SqL G.K H p ys/\∀l,H l=none->Q (.ref l) (upd H l (.tup ys)))\/(SqT G.K H p ys/\Q (.ref p) H))):=by rw[<-hK];exact BL
def cutD(xs:aC)(lo hi:Option Int):aC:=(xs.drop (HT.sIx xs.length 0 lo)).take (HT.sIx xs.length xs.length hi - HT.sIx xs.length 0 lo)
theorem AN{lo hi:Option Int}(r:nZ G H0 ds xs):nZ G H0 (cutD ds lo hi) (Di xs lo hi):=by unfold cutD Di;rw[<-n8 r];exact Cg _ (Cf _ r)
def cSl(f:FE)(lo hi:Option Int):FA:=λρ=>match f ρ with
 |some (.lst ds,ρ1)=>some (cutD ds lo hi,ρ1)
 |some (.fzl ds,ρ1)=>some (cutD ds lo hi,ρ1)
 |_=>none
def tO(o:Option Int):TO:=λ_ H Q=>Q o H
theorem IV{lo hi:Option Int}(h:PE X e (tSl (Ir G.K) (tF G f) (tO lo) (tO hi))):PE X e (tFN G (cSl f lo hi)):=PE.weak h λσ H Q hh=>by
 obtain⟨F,ρ,H0,ds,ρ',R,e,k⟩:=hh;have gen:∀{a:Addr} {xs:bp} {ds':aC} {H1 H1':Hp},oj H0 H1->oq G F σ ρ' H1 H1'->SqL G.K H1 a xs->nZ G H1 ds' xs->ds=cutD ds' lo hi->Ir G.K (.ref a) lo hi H1' Q:=λ{a xs ds' H1 H1'} s R' h1 h2 e=>by subst e;exact⟨a,xs,rfl,R'.sub.seq h1,λp hp=>k p _ _ _ s (R'.newOwn hp _) oa (R'.h0none hp) (R'.bNone hp) (R'.apart hp) (AN h2)⟩
 unfold cSl at e;split at e
 ·rename_i xs ρ1 e1;cases e;refine⟨F,ρ,H0,_,_,R,e1,λv H1 H1' s R' r=>?_⟩;unfold Rep at r;obtain⟨a,ys,rfl,h1,h2⟩:=r;exact gen s R' (SqL.of h1) h2 rfl
 ·rename_i xs ρ1 e1;cases e;refine⟨F,ρ,H0,_,_,R,e1,λv H1 H1' s R' r=>?_⟩;unfold Rep at r;obtain⟨a,ys,rfl,h1,h2⟩:=r;exact gen s R' h1 h2 rfl
 ·cases e
theorem KN{n:Int}{j pos}:PO X (some (.Constant (.int n) j pos)) (tO (some n)):=λpins s σ H Q I h=>GZ Fv pins s σ H Q I ⟨n,rfl,h⟩
theorem UM(hK:X.K=G.K:=by rfl):SlR X (Ir G.K):=by rw[<-hK];exact M4
end
def Sl.bor:Sl->Sl
 |.un=>.un
 |.im d=>.im d
 |.ls ds=>.im (.lst ds)
 |.pm ds=>.im (.lst ds)
 |.dk _ _=>.un
 |.ob c ns ds=>.im (.obj c ns ds)
variable{fa fb fc:FE}{op':eP}
section
variable{X:Cx}{G:Bg}
theorem oq.bor{H:Hp}(R:oq G F σ ρ H0 H):oq G ⟨H,H,[]⟩ σ (ρ.map Sl.bor) H H where
 sub:=oj.refl _
 g0:=oj.refl _
 keep:=λb o e _=>e
 fr:=λb o e=>.inl e
 am:=λa h=>by cases h
 len:=by rw[ah];exact R.len
 sl:=λi s e=>by
  rw[bt]at e;cases e1:ρ[i]? with
  |none=>rw[e1]at e;cases e
  |some t=>
   rw[e1]at e;cases e;have ok:=R.sl i t e1;cases t with
   |un=>trivial
   |im d=>obtain⟨v,h1,h2⟩:=ok;exact⟨v,h1,Rep.mono R.sub _ _ h2⟩
   |ls ds=>obtain⟨a,xs,h1,h2,h3,h4,h5⟩:=ok;exact⟨_,h1,tX h2 (nZ.mono R.sub _ _ h5)⟩
   |pm ds=>obtain⟨a,xs,h1,h2,h3,h4,h5⟩:=ok;exact⟨_,h1,tX h2 (nZ.mono R.sub _ _ h5)⟩
   |dk ks ds=>trivial
   |ob c ns ds=>obtain⟨a,dx,xs,h1,h2,h3,h4,h5,h6⟩:=ok;exact⟨_,h1,by unfold Rep;exact⟨a,dx,xs,rfl,h2,h5,nZ.mono R.sub _ _ h6⟩⟩
 ap:=λi j s t a _ e _ so=>by
  rw[bt]at e;cases e1:ρ[i]? with
  |none=>rw[e1]at e;cases e
  |some t=>rw[e1]at e;cases e;cases t<;>cases so
theorem oq.unbor{σ':St}{H:Hp}(R:oq G F σ ρ H0 H)(R':oq G ⟨H,H,[]⟩ σ' ρ' H1 H1'):oq G F σ ρ H0 H1':=
 R.grow (λb o e=>R'.keep b o e (by simp)) (oj.refl _) (λb o e=>R'.keep b o (R.sub _ _ e) (by simp)) λb o e=>.inl e
def xA(f:FE):FE:=λρ=>match f (ρ.map Sl.bor)with
 |some (d,_)=>if qQ d=true then some (d,ρ)else none
 |none=>none
def w9(f:FT):FT:=λρ=>match f (ρ.map Sl.bor)with
 |some (d,_)=>some (d,ρ)
 |none=>none
theorem Q4(h:PE X e (tF G f)):PE X e (tF G (xA f)):=PE.weak h λσ H Q hh=>by
 obtain⟨F,ρ,H0,d,ρ',R,e,k⟩:=hh;unfold xA at e;rcases oK (f:=f) (ρ:=ρ.map Sl.bor)with e1|⟨x,ρ1,e1⟩<;>simp only[e1]at e
 ·cases e
 ·split at e
  ·rename_i hf;cases e;refine⟨_,_,H,d,ρ1,R.bor,e1,λv H1 H1' s R' r=>?_⟩;rw[sG r hf];exact k _ _ _ (oj.refl _) (R.unbor R') (x4 hf _)
  ·cases e
theorem NY{f:FT}(h:PT X e (tFT G f)):PT X e (tFT G (w9 f)):=PT.weak h λσ H Q hh=>by
 obtain⟨F,ρ,H0,d,ρ',R,e,k⟩:=hh;unfold w9 at e;rcases oK (f:=f) (ρ:=ρ.map Sl.bor)with e1|⟨x,ρ1,e1⟩<;>simp only[e1]at e
 ·cases e
 ·cases e;exact⟨_,_,H,d,ρ1,R.bor,e1,λH1 H1' s R'=>k _ _ (oj.refl _) (R.unbor R')⟩
def qm(g g':D->D->Option D)(fa fb fc:FE):FE:=λρ=>match fa ρ with
 |some (x,ρ1)=>match fb ρ1 with
  |some (y,ρ2)=>match g x y with
   |some (.bl true)=>match fc ρ2 with
    |some (z,ρ3)=>match g' y z with
     |some w=>some (w,ρ3)
     |none=>none
    |none=>none
   |some (.bl false)=>some (.bl false,ρ2)
   |_=>none
  |none=>none
 |none=>none
theorem ED{r:R2}{g:D->D->Option D}(ho:OpD G r g)(ho':OpD G r' g'):∀σ H Q,tF G (qm g g' fa fb fc) σ H Q->FC r r' (tF G fa) (tF G fb) (tF G fc) σ H Q:=λσ H Q hh=>by
 obtain⟨F,ρ,H0,d,ρ',R,e,k⟩:=hh;unfold qm at e;rcases oK (f:=fa) (ρ:=ρ)with e1|⟨x,ρ1,e1⟩<;>simp only[e1]at e
 ·cases e
 rcases oK (f:=fb) (ρ:=ρ1)with e2|⟨y,ρ2,e2⟩<;>simp only[e2]at e
 ·cases e
 refine⟨F,ρ,H0,x,ρ1,R,e1,λv H1 H1' s1 R1 r1=>⟨F,ρ1,H1,y,ρ2,R1,e2,λu H2 H2' s2 R2 r2=>?_⟩⟩;split at e
 ·rename_i e3;refine ho x y _ H2 H2' v u _ e3 R2.sub (Rep.mono s2 _ _ r1) r2 λw hw=>?_;have hw':=hw H2 (oj.refl _);unfold Rep at hw';refine⟨true,hw',El ?_⟩;rcases oK (f:=fc) (ρ:=ρ2)with e4|⟨z,ρ3,e4⟩<;>simp only[e4]at e
  ·cases e
  cases e5:g' y z with
  |none=>simp only[e5]at e;cases e
  |some q=>simp only[e5]at e;cases e;refine⟨F,ρ2,H2,z,_,R2,e4,λt H3 H3' s3 R3 r3=>?_⟩;exact ho' y z _ H3 H3' u t Q e5 R3.sub (Rep.mono s3 _ _ r2) r3 λw hw=>k w H3 H3' (s1.trans (s2.trans s3)) R3 (hw _ (oj.refl _))
 ·rename_i e3;cases e;refine ho x y _ H2 H2' v u _ e3 R2.sub (Rep.mono s2 _ _ r1) r2 λw hw=>?_;have hw':=hw H2 (oj.refl _);unfold Rep at hw';exact⟨false,hw',Ek (k _ _ _ (s1.trans s2) R2 (q9 false))⟩
 ·cases e
theorem KO{a b c:Expr}{r:R2}{g:D->D->Option D}(hr:OpR X (compareOp op) r)(hr':OpR X (compareOp op') r')(ho:OpD G r g)(ho':OpD G r' g')(ha:PE X a (tF G fa))(hb:PE X b (tF G fb))(hc:PE X c (tF G fc))
  (hm:lastMarks [op,op'] [b,c]=false:=by with_unfolding_all rfl):PE X (.Compare a [op,op'] [b,c] pos) (tF G (qm g g' fa fb fc)):=PE.weak (JV hr hr' ha hb hc hm) (ED ho ho')
theorem IW{a b c:Expr}{r:R2}{g:D->D->Option D}(hr:OpR X (compareOp op) r)(hr':OpR X (compareOp op') r')(ho:OpD G r g)(ho':OpD G r' g')(ha:PE X a (tF G fa))(hb:PE X b (tF G fb))(hc:PE X c (tF G fc))
  (hm:lastMarks [op,op'] [b,c]=false:=by with_unfolding_all rfl):PT X (.Compare a [op,op'] [b,c] pos) (tFT G (cT (qm g g' fa fb fc))):=PT.weak (JW hr hr' ha hb hc hm) λσ H Q hh=>by
 obtain⟨F,ρ,H0,d,ρ',R,e,k⟩:=G6 σ H Q hh;exact ED ho ho' σ H _ ⟨F,ρ,H0,d,ρ',R,e,k⟩
end
def uL(P:aA)(w:av)(K:ao)(mg:Str->Option aa)(base:Heap)(k:Nat)(x:Str)(ps:aG)(sp:Sp):Prop:=
 ∃(f:Addr) (fd:bL),mg x=some (.ref f)/\eM K (.ref f)=true/\Binds K fd ps []/\sF P w K mg base CX0 k f fd ps sp
def Dx(G:Bg)(P:aA)(w:av)(mg:Str->Option aa)(base:Heap)(k:Nat)(x:Str)(c:Nat)(ps:aG)(dvs:bp)(g:aC->Option (aG×aC)):Prop:=
 ∃(f:Addr) (fd:bL) (ds:List aa),Mk G.K (G.ca c) f/\mg x=some (.ref (G.ca c))/\Binds G.K fd ps ds/\Vals dvs ds/\sF P w G.K mg base CX0 k f fd ps (spI G c g)
def yT(G:Bg)(P:aA)(w:av)(mg:Str->Option aa)(base:Heap)(k:Nat)(m:Str)(c:Nat)(h:aC->Option D):Prop:=
 ∃(f:Addr) (fd:bL) (ps:aG),Cls G.K (G.ca c)/\Meth G.K (G.ca c) m f/\Binds G.K fd ps []/\sF P w G.K mg base CX0 k f fd ps (spF G h)
section
variable{X:Cx}{G:Bg}{k:Nat}{x m:Str}{p pos apos:Pos}{e o:Expr}{es:List Expr}{a:FA}{ps:aG}
theorem zw{α:Type}(g:aC->α):(λds=>g (ds++[]))=g:=funext λds=>by rw[bz]
theorem Q5{g:aC->Option D}(D:uL X.prog X.w X.K X.mg X.base k x ps (spF G g))(hr:qa k X.A)(ha:PA X (e::es) (tFA G a))(hg:Gl X x:=by rfl)(hdb:(x==("__debug__" : Str))=false:=by decide)(he:starEach (e::es) X.env=(false,eval e X.env)::starEach es X.env:=by rfl)(hpl:(backTo pos (starEach es X.env)).any (·.1)=false:=by rfl):
  PE X (.Call (.Name x p) (e::es) [] pos) (tF G (n4 g a)):=by
 obtain⟨f,fd,h1,h2,h3,h4⟩:=D;have q:=NJ (dvs:=[]) (dds:=[]) (λ_=>oO) (xQ (p:=p) (pos:=pos) h4 hr hg h1 h2 h3 .nil zu ha hdb he hpl);rw[zw]at q;exact q
theorem NZ{g:aC->Option aC}(D:uL X.prog X.w X.K X.mg X.base k x ps (spN G g))(hr:qa k X.A)(ha:PA X (e::es) (tFA G a))(hg:Gl X x:=by rfl)(hdb:(x==("__debug__" : Str))=false:=by decide)(he:starEach (e::es) X.env=(false,eval e X.env)::starEach es X.env:=by rfl)(hpl:(backTo pos (starEach es X.env)).any (·.1)=false:=by rfl):
  PE X (.Call (.Name x p) (e::es) [] pos) (tFN G (o6 g a)):=by
 obtain⟨f,fd,h1,h2,h3,h4⟩:=D;have q:=Ku (dvs:=[]) (dds:=[]) (λ_=>oO) (xQ (p:=p) (pos:=pos) h4 hr hg h1 h2 h3 .nil zu ha hdb he hpl);rw[zw]at q;exact q
theorem KP{g:aC->Option aC}(D:uL X.prog X.w X.K X.mg X.base k x ps (spN G g))(hr:qa k X.A)(hg:Gl X x:=by rfl)(hdb:(x==("__debug__" : Str))=false:=by decide):PE X (.Call (.Name x p) [] [] pos) (tFN G (o6 g ox)):=by obtain⟨f,fd,h1,h2,h3,h4⟩:=D;exact IG (J0 h4 hr hg h1 h2 h3 .nil zu hdb)
theorem N0{g:aC->aC->Option (D×aC)}(D:uL X.prog X.w X.K X.mg X.base k x ps (spM G g))(hr:qa k X.A)(hv:PE X e (uE i))(ha:PA X es (tFA G a))(hg:Gl X x:=by rfl)(hdb:(x==("__debug__" : Str))=false:=by decide)(he:starEach (e::es) X.env=(false,eval e X.env)::starEach es X.env:=by rfl)(hpl:(backTo pos (starEach es X.env)).any (·.1)=false:=by rfl):
  PE X (.Call (.Name x p) (e::es) [] pos) (tF G (pd g i a)):=by
 obtain⟨f,fd,h1,h2,h3,h4⟩:=D;exact QM (xQ (p:=p) (pos:=pos) h4 hr hg h1 h2 h3 .nil zu (qH hv ha he) hdb he hpl)
theorem N1{g:aC->Option (aG×aC)}(M:Dx G X.prog X.w X.mg X.base k x c ps dvs g)(hd:∀H,nZ G H dds dvs)(hr:qa (k+1) X.A)(ha:PA X (e::es) (tFA G a))(hK:X.K=G.K:=by rfl)(hg:Gl X x:=by rfl)(hdb:(x==("__debug__" : Str))=false:=by decide)
  (he:starEach (e::es) X.env=(false,eval e X.env)::starEach es X.env:=by rfl) (hpl:(backTo pos (starEach es X.env)).any (·.1)=false:=by rfl):
  PE X (.Call (.Name x p) (e::es) [] pos) (tF G (pb c (λds=>g (ds++dds)) a)):=by
 obtain⟨f,fd,ds,h1,h2,h3,h4,h5⟩:=M;rw[<-hK]at h1 h3 h5;exact NL hd (MW (p:=p) (pos:=pos) h1 h5 hr hg h2 h3 h4 zu ha hdb he hpl)
theorem Po{g:Nat->Option (aC->Option D)}(M:∀c h,g c=some h->yT G X.prog X.w X.mg X.base k m c h)(hr:qa k X.A)(hK:X.K=G.K):∀C sp,MT G g C sp->MOk X C m sp [] E0:=λC sp h=>by obtain⟨c,h,e,rfl,rfl⟩:=h;obtain⟨f,fd,ps,q1,q2,q3,q4⟩:=M c h e;rw[<-hK]at q1 q2 q3 q4;exact⟨k,f,fd,ps,[],q1,q2,q4,hr,q3,.nil,zu⟩
theorem IY{g:Nat->Option (aC->Option D)}{pl:Sem Bool}(M:∀c h,g c=some h->yT G X.prog X.w X.mg X.base k m c h)(hr:qa k X.A)(ho:PE X o (tF G f))(ha:PA X (e::es) (tFA G a))(hK:X.K=G.K:=by rfl)
  (hst:starEach (e::es) X.env=(false,eval e X.env)::starEach es X.env:=by rfl) (hpl:(backTo pos (starEach es X.env)).any (·.1)=false:=by rfl)
  (ht:eval (.Call (.Attribute o m apos) (e::es) [] pos) X.env=(do
   let ov<-eval o X.env
   standAt apos.atName
   let (f,first)<-holding [ov] (getMethod ov m pl)
   callWith pos f first (backTo pos (starEach (e::es) X.env)) (backToKw pos (keywordEach [] X.env))):=by rfl):
  PE X (.Call (.Attribute o m apos) (e::es) [] pos) (tF G (pj g m f a)):=NK (E:=E0) (Kw (dvs:=[]) (MT G g) (Po M hr hK) ho ha hst hpl ht)
theorem F2{g:Nat->Option (aC->Option D)}{pl:Sem Bool}(M:∀c h,g c=some h->yT G X.prog X.w X.mg X.base k m c h)(hr:qa k X.A)(ho:PE X o (tF G f))(hK:X.K=G.K:=by rfl)
  (ht:eval (.Call (.Attribute o m apos) [] [] pos) X.env=(do
   let ov<-eval o X.env
   standAt apos.atName
   let (f,first)<-holding [ov] (getMethod ov m pl)
   callWith pos f first (backTo pos (starEach [] X.env)) (backToKw pos (keywordEach [] X.env))):=by rfl):
  PE X (.Call (.Attribute o m apos) [] [] pos) (tF G (pj g m f ox)):=Kx (E:=E0) (II (dvs:=[]) (MT G g) (Po M hr hK) ho ht)
end
section
variable{P:aA}{w:av}{K:ao}{mg:Str->Option aa}{base:Heap}{x qual:Str}{st:Stmt}{f T:Addr}{fd:bL}{N ps:aG}{k:Nat}{G:Bg}
abbrev xa(P:aA)(w:av)(K:ao)(mg:Str->Option aa)(base:Heap)(N:aG)(qual:Str)(st:Stmt)(f:Addr)(cdv:aa)(A:aE)(outer:List Env)(s:ae)(H:Hp)(E:XK):Cx:=(Ed CX0 P w K mg base N qual (ou st) f cdv A outer s H E).nox
theorem Hn{n:Nat}{g:aC->Option D}(hg:g=fnD np n b)(hp:ps.length=np)(hN:N.length=n)(F:Fun K x qual st f fd)(S:pV N ps (ou st))(body:∀(cdv:aa) (A:aE) (outer:List Env) (s:ae) (H:Hp) (E:XK),qa k (A.deeper (envOfC qual (ou st) s.heap.objs.size f cdv))->PSs (xa P w K mg base N qual st f cdv A outer s H E) (oY st) (tFS G b)):
  sF P w K mg base CX0 (k+1) f fd ps (spF G g):=by
 subst hg hp hN;exact F.ok S (UC NF) λcdv A outer s H vs Q E hr h=>⟨_,body cdv A outer s H E hr,NC (by have:=aQ b0 S.pre;rw[br]at this;omega) h⟩
theorem UN{n:Nat}{g:aC->Option aC}(hg:g=fnN np n b)(hp:ps.length=np)(hN:N.length=n)(F:Fun K x qual st f fd)(S:pV N ps (ou st))(body:∀(cdv:aa) (A:aE) (outer:List Env) (s:ae) (H:Hp) (E:XK),qa k (A.deeper (envOfC qual (ou st) s.heap.objs.size f cdv))->PSs (xa P w K mg base N qual st f cdv A outer s H E) (oY st) (tFS G b)):
  sF P w K mg base CX0 (k+1) f fd ps (spN G g):=by
 subst hg hp hN;exact F.ok S (UD NG) λcdv A outer s H vs Q E hr h=>⟨_,body cdv A outer s H E hr,ND (by have:=aQ b0 S.pre;rw[br]at this;omega) h⟩
theorem UO{n:Nat}{g:aC->aC->Option (D×aC)}{p:Str}{ps:aG}(hg:g=fnM np n b)(hp:ps.length=np)(hN:N.length=n)(F:Fun K x qual st f fd)(S:pV N (p::ps) (ou st))(body:∀(cdv:aa) (A:aE) (outer:List Env) (s:ae) (H:Hp) (E:XK),qa k (A.deeper (envOfC qual (ou st) s.heap.objs.size f cdv))->PSs (xa P w K mg base N qual st f cdv A outer s H E) (oY st) (tFS G b)):
  sF P w K mg base CX0 (k+1) f fd (p::ps) (spM G g):=by
 subst hg hp hN;exact F.ok S (Pj NR) λcdv A outer s H vs Q E hr h=>⟨_,body cdv A outer s H E hr,NQ (by have:=aQ b0 S.pre;rw[br,aF]at this;omega) h⟩
theorem Pp{g:aC->Option (aG×aC)}(hg:∀ds q,g ds=some q->ds.length=np):∀vs H Q E,spI G c g vs H Q E->vs.length=np+1:=λvs H Q E h=>by obtain⟨p,dx,us,H0,ds,ns,es,rfl,_,_,_,r,e,_⟩:=h;rw[aF,<- n8 r,hg _ _ e]
theorem UP{n:Nat}{g:aC->Option (aG×aC)}{p:Str}{ps:aG}(hg:g=fnI c np n b)(hp:ps.length=np)(hN:N.length=n)(F:Fun K x qual st f fd)(S:pV N (p::ps) (ou st))(body:∀(cdv:aa) (A:aE) (outer:List Env) (s:ae) (H:Hp) (E:XK),qa k (A.deeper (envOfC qual (ou st) s.heap.objs.size f cdv))->PSs (xa P w K mg base N qual st f cdv A outer s H E) (oY st) (tFS G b)):
  sF P w K mg base CX0 (k+1) f fd (p::ps) (spI G c g):=by
 subst hg hp hN;exact F.ok S (Pp λds q h=>(AG h).1) λcdv A outer s H vs Q E hr h=>⟨_,body cdv A outer s H E hr,G9 (by have:=aQ b0 S.pre;rw[br,aF]at this;omega) h⟩
theorem Q6{n:Nat}{g:aC->Option (aG×aC)}{p:Str}{ps:aG}(hg:g=fnI c np n b)(hp:ps.length=np)(hN:N.length=n)(F:ID K x qual st f fd T)(S:pV N (p::ps) (ou st))(body:∀(cdv:aa) (A:aE) (outer:List Env) (s:ae) (H:Hp) (E:XK),qa k (A.deeper (envOfC qual (ou st) s.heap.objs.size f cdv))->PSs (xa P w K mg base N qual st f cdv A outer s H E) (oY st) (tFS G b)):
  sF P w K mg base CX0 (k+1) f fd (p::ps) (spI G c g):=by
 subst hg hp hN;exact F.ok S (Pp λds q h=>(AG h).1) λcdv A outer s H vs Q E hr h=>⟨_,body cdv A outer s H E hr,G9 (by have:=aQ b0 S.pre;rw[br,aF]at this;omega) h⟩
end
section
variable{X:Cx}{G:Bg}
def wK(G:Bg)(mg:Str->Option aa)(x:Str)(d:D):Prop:=∃(v:V) (u:aa),mg x=some u/\RelV v u/\∀H,Rep G H d v
theorem KQ{x:Str}(h:wK G X.mg x d)(hg:Gl X x:=by rfl)(hd:(x==("__debug__" : Str))=false:=by decide):PE X (.Name x pos) (tF G (cC d)):=by obtain⟨v,u,h1,h2,h3⟩:=h;exact Nk (GP hg h1 h2 hd) h3
def UQ:FS:=λ_=>none
def pR(T:String):Ty->Option Bool
 |.b n=>if n="NoneType" then some false else if n="bool" then some (T=="bool" ||T=="int")else if n="int" then some (T=="int")else if n="str" then some (T=="str")else if n="tuple" then some (T=="tuple")else if n="list" then some (T=="list")else if n="dict" then some (T=="dict")else none
 |.c _=>none
theorem KR{T:String}:∀k b,pR T (.c k)=some b->IT X.K (G.ca k):=λk b h=>by cases h
theorem KU:∀y b,pR "list" y=some b->cA X.K (y.val G) (.type "list")=some b:=λy b h=>by
 cases y with
 |c k=>cases h
 |b n=>
  unfold pR at h;simp only at h
  iterate 7 (split at h;· rename_i e;subst e;cases h;first|rfl|kernel_rfl)
  cases h
theorem N2:∀y b,pR "str" y=some b->cA X.K (y.val G) (.type "str")=some b:=λy b h=>by
 cases y with
 |c k=>cases h
 |b n=>
  unfold pR at h;simp only at h
  iterate 7 (split at h;· rename_i e;subst e;cases h;first|rfl|kernel_rfl)
  cases h
end
end L4
namespace L3
open PySem PySem.Spec PyProof.Rows L2
theorem N3{X:Cx}{i:Nat}{y:Str}{py spos:Pos}{elt iter tg:Expr}{ifs:List Expr}{scope:cx}{pos:Pos}{N':aG}{k:Nat}{cap:List Nat}{wi:TI}{g:TG}{tt:TT}{te:TE}
  (hc:X.calm=true) (hN:X.N.Nodup) (hy:X.N[i]?=some y) (hyl:Loc X.env.scope y) (hi:PI X tg iter wi)
  (body:∀(cl:List (Str×Addr)) (C:Addr) (fp:List Addr) (s:ae) (H:Hp),PG (pY X N' scope cl C fp s H) tg g/\PIf (pY X N' scope cl C fp s H) ifs tt/\PE (pY X N' scope cl C fp s H) elt te)
  (hkind:scope.kind=.function:=by rfl) (hcell:(scope.names.all λy=>y.2 != .cell)=true:=by rfl)
  (hloc:(scope.names.all λy=>y.2 != .local||scope.names.lookup y.1==some .local)=true:=by rfl)
  (hfree:(scope.names.all λy=>y.2 != .free||(X.env.kindOf y.1==some .cell||X.env.kindOf y.1==some .free))=true:=by rfl)
  (hlen:N'.length=k+cap.length:=by rfl) (hcap:(N'.drop k).map some=cap.map λj=>X.N[j]?:=by rfl)
  (hcf:((N'.drop k).all λx=>scope.names.lookup x==some .free)=true:=by rfl)
  (hs:∀x,foldedSetIterable iter X.env x=pure x:=by intro _;rfl)
  (hsw:swapsWith (.ListComp elt [⟨tg,iter,ifs,0⟩] scope pos) (some (.Name y py)) spos.line X.env=pure true:=by rfl)
  (hfy:X.fn y=true\/X.env.scope.names.lookup y=some .local:=by first|exact .inl rfl|exact .inr rfl|assumption):
  PS X (.Assign [.Name y py] (.ListComp elt [⟨tg,iter,ifs,0⟩] scope pos) spos) (yI (AB wi g tt te k cap) (uF i)):=by
 intro pins s σ H D I h;rw[exec_Assign_Name_used _ _ _ _ hsw];refine ag (wpAny_standAt (ag ?_));show wpAny _ X.A (do let _<-comprehension (.ListComp elt [⟨tg,iter,ifs,0⟩] scope pos) scope X.env _ (newList []) false (eval iter X.env) (some (assign (.Name y py) X.env))) _ _ s;refine ag (bT (Cd (P:=λ_ s'=>SP X pins D .next s') hc hi body hkind hcell hloc hfree hlen hcap hcf hs I h λa C m u s4 H3 hn back fpC qn=>?_) (λ_ s' hq=>au (au hq)) λ_ _ e=>e);obtain⟨oC,esC,nC,gC,dC,rC⟩:=id hn;have I7:=back.pinned (fp:=[C]) (λb hb=>aW.mp hb▸fpC) (λb hb=>aW.mp hb▸⟨oC,gC,λv z=>by rw[dC]at z;cases z⟩);show wpAny _ X.A (assign (.Name y py) X.env (.ref a)) _ _ s4;refine thn (GR (pos:=py) hN hy hyl hfy _ s4 σ H3 (.ref a) (.ref a) (λσ' H'=>D.nx σ' H') I7 rfl qn) λ_ s6 ⟨σ6,H6,I8,q6⟩=>?_;obtain⟨p1,p2,_⟩:=I8.pin (C,oC) (bD _ (bD _ (tu (by simp) gC)));exact⟨m,⟨oC,esC,nC,p1,dC,rC⟩,λh' hs'=>⟨σ6,H6,I8.unpinned.turned (t':=s6.toks) (λb o hb e=>(hs'.2 b hb).trans e) p2 fpC.2.1 fpC.2.2.2.1 fpC.2.2.2.2.1 fpC.2.2.2.2.2,q6⟩⟩
end L3
namespace L4
open PySem PySem.Spec PyProof.Rows L2 L3
variable{st:Stmt}{te:TE}{i:Nat}{ft:FT}{fe:FE}
section
variable{X:Cx}{G:Bg}
theorem EE{te':TE}{g:TG}(h:PS X st (yI te g))(w:∀σ H Q,te' σ H Q->te σ H Q):PS X st (yI te' g):=PS.weak h λE σ H hh=>w _ _ _ hh
theorem KW{k:Nat}{cap:List Nat}{s:FA}{g:FG}(nd:cap.Nodup)(h:PS X st (yI (AB (tFI G s) (tFG G k g) (tFT G ft) (tF G fe) k cap) (uF i))):PS X st (tFS G (oT i (cL (oB k cap s g ft fe)))):=G8 (EE (EE h (Hf nd)) UB)
end
variable{es0 es':aC}{np:Nat}{b:FS}
section
variable{f g h:FS}{c:FT}{e e' e2:FE}{a a':FA}{ρ ρ' ρ1 ρ2 ρ3:aU}{d x y z:D}{o:Out}{ds xs ys:aC}
theorem nV(h:f ρ=some (.nx ρ')):n9 f g ρ=g ρ':=by unfold n9;rw[h]
theorem oW(h:f ρ=some (.rt d ρ')):n9 f g ρ=some (.rt d ρ'):=by unfold n9;rw[h]
theorem ph(h:c ρ=some (true,ρ')):sIf c f g ρ=f ρ':=by unfold sIf;rw[h]
theorem oZ(h:c ρ=some (false,ρ')):sIf c f g ρ=g ρ':=by unfold sIf;rw[h]
theorem oG(h:e ρ=some (d,ρ')):oT i e ρ=some (.nx (ρ'.set i (.im d))):=by unfold oT;rw[h]
theorem yc(h:a ρ=some (ds,ρ')):tD i a ρ=some (.nx (ρ'.set i (.ls ds))):=by unfold tD;rw[h]
theorem oM(h:e ρ=some (d,ρ')):oQ e ρ=some (.rt d ρ'):=by unfold oQ;rw[h]
theorem tZ(h:a ρ=some (ds,ρ')):qI a ρ=some (.rn ds ρ'):=by unfold qI;rw[h]
theorem pW(h:e ρ=some (d,ρ')):oV e ρ=some (.nx ρ'):=by unfold oV;rw[h]
theorem om{g:D->D->Option D}(h1:e ρ=some (x,ρ1))(h2:e' ρ1=some (y,ρ2))(h3:g x y=some z):c2 g e e' ρ=some (z,ρ2):=by unfold c2;rw[h1];simp only[h2,h3]
theorem oX{g:D->Option D}(h1:e ρ=some (x,ρ1))(h3:g x=some z):c1 g e ρ=some (z,ρ1):=by unfold c1;rw[h1];simp only[h3]
theorem KY(h1:e (ρ.map Sl.bor)=some (d,ρ1))(hf:qQ d=true):xA e ρ=some (d,ρ):=by unfold xA;rw[h1];simp only[hf,if_true]
theorem Dy{b:Bool}(h1:c (ρ.map Sl.bor)=some (b,ρ1)):w9 c ρ=some (b,ρ):=by unfold w9;rw[h1]
theorem pL{b:Bool}(h1:e ρ=some (.bl b,ρ1)):cT e ρ=some (b,ρ1):=by unfold cT;rw[h1]
theorem qJ{b:Bool}(h1:c ρ=some (b,ρ1)):qu c ρ=some (!b,ρ1):=by unfold qu;rw[h1]
theorem tG{b:Bool}{c':FT}(h1:c ρ=some (false,ρ1))(h2:c' ρ1=some (b,ρ2)):uJ c c' ρ=some (b,ρ2):=by unfold uJ;rw[h1];exact h2
theorem nX(h1:e ρ=some (d,ρ1))(h2:a ρ1=some (ds,ρ2)):nU e a ρ=some (d::ds,ρ2):=by unfold nU;rw[h1];simp only[h2]
theorem nY{α:Type}{g:aC->Option α}{r:α}(h1:a ρ=some (ds,ρ1))(h2:g ds=some r):yO g a ρ=some (r,ρ1):=by unfold yO;rw[h1];simp only[h2]
theorem px(h1:a ρ=some (ds,ρ1)):cL a ρ=some (.lst ds,ρ1):=by unfold cL;rw[h1]
theorem DA(h1:a ρ=some (ds,ρ1))(hl:ds.length<=1000):oU a ρ=some (ds,ρ1):=by unfold oU;rw[h1];simp only[hl,if_true]
theorem uq(h1:a ρ=some (ds,ρ1))(hl:ds.length<=1000):pG a ρ=some (.tup ds,ρ1):=by unfold pG;rw[h1];simp only[hl,if_true]
theorem rL(h1:e ρ=some (.lst xs,ρ1))(h2:e' ρ1=some (.lst ys,ρ2))(hl:xs.length+ys.length<=1000):qF e e' ρ=some (xs++ys,ρ2):=by unfold qF;rw[h1];simp only[h2,hl,if_true]
theorem qR{g:aC->aC->Option (D×aC)}{es:aC}(h0:pZ ρ i=some es0)(h1:a ρ=some (ds,ρ1))(h2:pZ ρ1 i=some es)(h3:g es ds=some (d,es')):pd g i a ρ=some (d,putAt ρ1 i es'):=by unfold pd;rw[h0];simp only[h1,h2,h3]
theorem yU{es:aC}(h0:pZ ρ i=some es0)(h1:e ρ=some (d,ρ1))(h2:pZ ρ1 i=some es)(hl:es.length<1000):v5 i e ρ=some (.non,putAt ρ1 i (es++[d])):=by unfold v5;rw[h0];simp only[h1,h2,hl,if_true]
theorem p5{s:FA}{g:FG}(h1:s ρ=some (ds,ρ1)):sd s g f ρ=forL g f ds ρ1:=by unfold sd;rw[h1]
theorem vd{k:Nat}{cap:List Nat}{s:FA}{g:FG}(h1:s ρ=some (ds,ρ1))(hl:ds.length<=1000):oB k cap s g ft fe ρ=rW k cap g ft fe ds ρ1:=by unfold oB;rw[h1];simp only[hl,if_true]
theorem Q7{n:Nat}{es:aC}(hl:ds.length=np)(h:b (L4.stM n es ds)=some (.rt d ρ))(h0:zv ρ=some es'):fnM np n b es ds=some (d,es'):=by unfold fnM;rw[ai hl,h];simp only[h0]
theorem Q8{n:Nat}{es:aC}(hl:ds.length=np)(h:b (L4.stM n es ds)=some (.rn xs ρ))(h0:zv ρ=some es'):fnM np n b es ds=some (.lst xs,es'):=by unfold fnM;rw[ai hl,h];simp only[h0]
theorem yV{n:Nat}(hl:ds.length=np)(h:b (L4.stE n ds)=some (.rn xs ρ)):fnN np n b ds=some xs:=by unfold fnN;rw[ai hl,h]
theorem oP{n:Nat}(hl:ds.length=np)(h:b (L4.stE n ds)=some (.rt d ρ)):fnD np n b ds=some d:=by unfold fnD;rw[ai hl,h]
end
theorem sZ{a b:Int}(h:xy a=true\/xy b=true):sH (.int a) (.int b)=some (.int (a * b)):=by unfold sH dI;simp only;rw[ai (by simpa using h)]
theorem t8{a b:Int}(h:0<b):rG (.int a) (.int b)=some (.int (a % b)):=by unfold rG dI;simp only;rw[ai (by simpa using h)]
theorem div_pos{a b:Int}(h:0<b)(h':b<1073741824):w6 (.int a) (.int b)=some (.int (a / b)):=by unfold w6 dI;simp only;rw[ai (by simp[h,h'])]
theorem EF{a:Int}(h:0<=a)(h':a<2147483647):xy a=true:=by unfold xy;simp only[bo,bR];omega
def yW:D->Option Key
 |.int i=>some (.inl i)
 |.str x=>some (.inr x)
 |_=>none
def rX:List Key->aC->Key->Option D
 |k::ks,d::ds,j=>if k=j then some d else rX ks ds j
 |_,_,_=>none
def N4(ks:List Key)(ds:aC)(k:Key)(d:D):aC:=cR (λk' d'=>if k'=k then d else d') ks ds
def AO(ks:List Key)(k:Key):Bool:=ks.any λk'=>decide (k'=k)
variable{d:D}{a:Addr}{kvs:List (Key×V)}{f f' fk:FE}{pos apos cpos:Pos}{tg e:Expr}
section
variable{X:Cx}{G:Bg}{H:Hp}
theorem yd{v:V}{k:Key}(h:Rep G H d v)(e:yW d=some k):v=kV k:=by
 cases d<;>first|cases e|skip
 all_goals (unfold Rep at h;exact h)
theorem AQ:∀{ks:List Key} {ds:aC} {xs:bp} (j:Key),nZ G H ds xs->ks.length=xs.length->match rX ks ds j with
  |some d=>∃v,rZ (ks.zip xs) j=some v/\Rep G H d v
  |none=>rZ (ks.zip xs) j=none
 |[],ds,xs,j,r,l=>by cases ds<;>rfl
 |k::ks,ds,[],j,r,l=>by cases l
 |k::ks,[],x::xs,j,r,l=>by unfold nZ at r;cases r
 |k::ks,d::ds,x::xs,j,r,l=>by
  unfold nZ at r;obtain⟨v,q,e,h1,h2⟩:=r;cases e;unfold rX;by_cases hk:k=j
  ·rw[ai hk];exact⟨x,xV (p:=(k,x)) hk,h1⟩
  ·rw[aj hk];have ih:=AQ (ks:=ks) (ds:=ds) (xs:=xs) j h2 (by simpa using l);have e1:rZ ((k::ks).zip (x::xs)) j=rZ (ks.zip xs) j:=xW (p:=(k,x)) hk;rw[e1];exact ih
theorem DB{k:Key}:∀{ks:List Key} {xs:bp},ks.length=xs.length->((ks.zip xs).any λkv=>decide (kv.1=k))=AO ks k
 |[],xs,_=>by cases xs<;>rfl
 |k'::ks,[],l=>by cases l
 |k'::ks,x::xs,l=>by unfold AO;rw[dc,eF,eF,DB (by simpa using l)];rfl
theorem Ho{k:Key}{v:V}:∀{ks:List Key} {xs:bp},ks.length=xs.length->(ks.zip xs).map (λkv=>if kv.1=k then (kv.1,v)else kv)=ks.zip (cR (λk' x=>if k'=k then v else x) ks xs)
 |[],xs,_=>by cases xs<;>rfl
 |k'::ks,[],l=>by cases l
 |k'::ks,x::xs,l=>by
  rw[dc,ar,Ho (by simpa using l),du,dc];congr 1;by_cases hk:k'=k
  ·rw[ai hk,ai hk]
  ·rw[aj hk,aj hk]
theorem EG{k:Key}{d:D}{v:V}(hd:Rep G H d v):∀{ks:List Key} {ds:aC} {xs:bp},nZ G H ds xs->ks.length=xs.length->nZ G H (N4 ks ds k d) (cR (λk' x=>if k'=k then v else x) ks xs)
 |[],ds,xs,r,l=>by unfold N4;cases ds<;>cases xs<;>exact oO
 |k'::ks,ds,[],r,l=>by cases l
 |k'::ks,[],x::xs,r,l=>by unfold nZ at r;cases r
 |k'::ks,d'::ds,x::xs,r,l=>by
  unfold nZ at r;obtain⟨w,q,e,h1,h2⟩:=r;cases e;unfold N4;rw[du,du];refine oJ ?_ (EG hd h2 (by simpa using l));by_cases hk:k'=k
  ·rw[ai hk,ai hk];exact hd
  ·rw[aj hk,aj hk];exact h1
theorem _root_.L2.DGet.kf{H:Hp}{o:Obj}{k:Key}(e:H a=some (.frz o (.dK kvs))):DGet H a (kV k) (rZ kvs k):=.inl ⟨kvs,k,.inr ⟨o,e⟩,rfl,rfl⟩
def qK:D->D->Option D:=λx y=>match x,yW y with
 |.dic ks ds,some k=>rX ks ds k
 |_,_=>none
theorem N5{a b:Expr}(hu:X.A.units+1<cLine)(ha:PE X a (tF G f))(hb:PE X b (tF G f'))(hs:Qr b:=by exact λ_ _=>rfl):PE X (.Subscript a b pos) (tF G (c2 qK f f')):=PE.weak (M7 hu ha hb hs) λσ H Q hh=>by
 obtain⟨F,ρ,H0,d,ρ',R,e,k⟩:=hh;obtain⟨x,y,ρ1,e1,e2,e3⟩:=Du e;refine⟨F,ρ,H0,x,ρ1,R,e1,λv H1 H1' s1 R1 r1=>⟨F,ρ1,H1,y,ρ',R1,e2,λu H2 H2' s2 R2 r2=>?_⟩⟩;have r1':=Rep.mono s2 _ _ r1;cases x with
 |dic ks ds=>
  unfold qK at e3;cases ek:yW y with
  |none=>simp only[ek]at e3;cases e3
  |some j=>simp only[ek]at e3;unfold Rep at r1';obtain⟨p,ob,xs,rfl,h1,h2,h3⟩:=r1';have lv:=AQ (ks:=ks) j h3 h2;rw[e3]at lv;obtain⟨w,w1,w2⟩:=lv;refine⟨p,w,rfl,?_,k w H2 H2' (s1.trans s2) R2 w2⟩;rw[yd r2 ek,<- w1];exact DGet.kf (R2.sub _ _ h1)
 |_=>unfold qK at e3;cases e3
def Cq:D->D->Option D:=λx y=>match x,yW y with
 |.dic ks ds,some k=>some ((rX ks ds k).getD .non)
 |_,_=>none
theorem KZ{a b:Expr}(hu:X.A.units+1<cLine)(ha:PE X a (tF G f))(hb:PE X b (tF G f'))(m:M1 X a "get" apos b cpos):PE X (.Call (.Attribute a "get" apos) [b] [] cpos) (tF G (c2 Cq f f')):=PE.weak (J9 hu ha hb m) λσ H Q hh=>by
 obtain⟨F,ρ,H0,d,ρ',R,e,k⟩:=hh;obtain⟨x,y,ρ1,e1,e2,e3⟩:=Du e;cases x with
 |dic ks ds=>
  refine⟨F,ρ,H0,_,ρ1,R,e1,λv H1 H1' s1 R1 r1=>?_⟩;have r1':=r1;unfold Rep at r1';obtain⟨p,ob,xs,rfl,h1,h2,h3⟩:=r1';refine⟨p,rfl,.inl ⟨_,.inr ⟨_,R1.sub _ _ h1⟩⟩,F,ρ1,H1,y,ρ',R1,e2,λu H2 H2' s2 R2 r2=>?_⟩;unfold Cq at e3;cases ek:yW y with
  |none=>simp only[ek]at e3;cases e3
  |some j=>
   simp only[ek]at e3;cases e3;have lv:=AQ (ks:=ks) j (nZ.mono s2 _ _ h3) h2;refine⟨rZ (ks.zip xs) j,?_,?_⟩
   ·rw[yd r2 ek];exact DGet.kf (R2.sub _ _ (s2 _ _ h1))
   ·cases el:rX ks ds j with
    |none=>rw[el]at lv k;rw[lv];exact k _ H2 H2' (s1.trans s2) R2 xX
    |some z=>rw[el]at lv k;obtain⟨w,w1,w2⟩:=lv;rw[w1];exact k _ H2 H2' (s1.trans s2) R2 w2
 |_=>unfold Cq at e3;cases e3
def ye(i:Nat):FS:=λρ=>some (.nx (ρ.set i (.dk [] [])))
theorem K0(h:PS X st (yI FU (uF i))):PS X st (tFS G (ye i)):=PS.weak h λE σ H hh=>by obtain⟨F,ρ,H0,o,R,e,k,k2⟩:=hh;cases e;intro p hp;have R1:=R.newOwn hp (.dK []);refine k _ _ _ (oj.refl _) (R1.set (s:=.dk [] []) ⟨p,[],rfl,oa,R.h0none hp,R.bNone hp,rfl,oO⟩ λ_ a ea j t _ ej to=>?_);cases ea;exact R.apart hp j t ej to
def pB(i:Nat)(fk fv:FE):FS:=λρ=>match fv ρ with
 |some (d,ρ1)=>match ρ1[i]? with
  |some (.dk _ _)=>match fk ρ1 with
   |some (y,ρ2)=>match yW y with
    |some k=>match ρ2[i]? with
     |some (.dk ks ds)=>if ks.length<1000 then if ds.length=ks.length then some (.nx (ρ2.set i (if AO ks k=true then .dk ks (N4 ks ds k d)else .dk (ks++[k]) (ds++[d]))))else none else none
     |_=>none
    |none=>none
   |none=>none
  |_=>none
 |none=>none
theorem K1{fv:FE}(h:PS X st (Ph (uE i) (tF G fk) (tF G fv))):PS X st (tFS G (pB i fk fv)):=PS.weak h λE σ H hh=>by
 obtain⟨F,ρ,H0,o,R,e,k,k2⟩:=hh;unfold pB at e;rcases oK (f:=fv) (ρ:=ρ)with e1|⟨d,ρ1,e1⟩<;>simp only[e1]at e
 ·cases e
 split at e
 ·rename_i ks0 ds0 ei;rcases oK (f:=fk) (ρ:=ρ1)with e2|⟨y,ρ2,e2⟩<;>simp only[e2]at e
  ·cases e
  cases ek:yW y with
  |none=>simp only[ek]at e;cases e
  |some j=>
   simp only[ek]at e;split at e
   ·rename_i ks ds ei2;split at e
    ·rename_i hl;split at e
     ·rename_i hl2;cases e;refine⟨F,ρ,H0,d,ρ1,R,e1,λv H1 H1' s1 R1 r1=>?_⟩;obtain⟨a0,xs0,a1,_⟩:=R1.sl i _ ei;refine⟨_,ra a1,F,ρ1,H1,y,ρ2,R1,e2,λu H2 H2' s2 R2 r2=>?_⟩;obtain⟨a,xs,b1,b2,b3,b4,b5,b6⟩:=R2.sl i _ ei2;rw[a1]at b1;cases b1;refine⟨a0,upd H2' a0 (.dK (putK (ks.zip xs) j v)),rfl,?_,?_⟩
      ·rw[yd r2 ek];exact J6.k b2 (by rw[eC];exact jH (Nat.min_le_left _ _) (wI (by omega)))
      ·have rv:=Rep.mono s2 _ _ r1;refine k _ _ _ (s1.trans s2) (R2.mut ei2 rfl a1 (λH' hH=>?_) ?_)
       ·by_cases hk:AO ks j=true
        ·rw[ai hk];refine⟨a0,cR (λk' x=>if k'=j then v else x) ks xs,rfl,?_,b3,b4,by rw[jy,b5,dG],EG rv b6 b5⟩;rw[hH];unfold putK;rw[DB b5,ai hk,Ho b5]
        ·rw[aj hk];refine⟨a0,xs++[v],rfl,?_,b3,b4,by rw[ay,ay,b5];rfl,qe b6 (oJ rv oO)⟩;rw[hH];unfold putK;rw[DB b5,aj hk,mR b5];rfl
       ·split<;>rfl
     ·cases e
    ·cases e
   ·cases e
 ·cases e
def AR:D->Option D
 |.lst ds=>(BQ ds).map λbs=>.bl (bs.any id)
 |_=>none
theorem IZ(hc:X.calm=true)(hK:X.K=G.K:=by rfl):p9 X (.builtin "any") (λxs H Q=>∃(p:Addr) (bs:List Bool),xs=[.ref p]/\SqL G.K H p (bs.map V.bl)/\Q (.bl (bs.any id)) H):=by
 rw[<-hK];intro pins s σ H xs us Q I r h;obtain⟨p,bs,rfl,hq,q⟩:=h;obtain⟨u,rfl,ru⟩:=vals1 r;cases ru;obtain⟨its,rv,pl,hz⟩:=I.list hq;have hlt:p<s.heap.objs.size:=by obtain⟨o,ho,_⟩:=pl.isList;exact aM ho
 have hl:bs.length=its.length:=by have:=rv.length;rw[ah]at this;exact this
 refine call_any_walk (fo pl.isList ⟨s.heap.objs.size,_,_,_,_,_,λi=>(bs[i]?).getD false,rfl,iU (show X.A.in1.handled=none from I.ok.hd hc) _ p (bf hlt) its.toArray,⟨⟨_,bq _ rfl,rfl,rfl⟩,?_⟩,?_,λh' tk hk=>?_⟩)
 ·exact pl.isList.at λo e=>aH _ e
 ·intro i v s' Q' E' hv hQ';have hv':its[i]?=some v:=by simpa using hv
  have hi:i<its.length:=(bP.mp hv').1;have hb:(bs.map V.bl)[i]?=some (.bl (bs[i]'(by omega))):=by simp[show i<bs.length by omega]
  obtain⟨u,hu,ru⟩:=rv.get hb;rw[hv']at hu;cases hu;cases ru;refine cO ?_;have e:(bs[i]?).getD false=bs[i]'(by omega):=by simp[show i<bs.length by omega]
  rw[<-e];exact hQ'
 ·refine⟨.bl (bs.any id),H,?_,?_,q⟩
  ·exact I.kept (t':=tk) λb o e=>hk b o (by simp;exact bf (aM e)) (aH _ e)
  ·show Value.bool _=Value.bool _;congr 1;rw[aT,<- hl];rw[de];simp only[fq,cm,id];constructor
   ·rintro⟨i,hi,h⟩;exact⟨bs[i],cj hi,by simpa [hi]using h⟩
   ·rintro⟨b,hb,h⟩;obtain⟨i,hi,rfl⟩:=ib.mp hb;exact⟨i,hi,by simpa [hi]using h⟩
theorem Q9:Cn G (λxs H Q=>∃(p:Addr) (bs:List Bool),xs=[.ref p]/\SqL G.K H p (bs.map V.bl)/\Q (.bl (bs.any id)) H) AR:=λx z H0 H v Q e s rx k=>by
 cases x with
 |lst ds=>
  unfold AR at e;simp only at e;cases e1:BQ ds with
  |none=>rw[e1]at e;cases e
  |some bs=>rw[e1]at e;cases e;unfold Rep at rx;obtain⟨a,xs,rfl,h1,h2⟩:=rx;rw[AM h2 e1]at h1;exact⟨a,bs,rfl,s.seq (SqL.of h1),k _ λ_ _=>q9 _⟩
 |_=>cases e
def iS(f:FE):FA:=λρ=>match f ρ with
 |some (.str x,ρ')=>some (x.cps.toList.map λc=>D.str ⟨#[c]⟩,ρ')
 |_=>none
theorem N6(h:PI X tg e (Uv (tF G f))):PI X tg e (tFI G (iS f)):=PI.weak h λσ H R hh=>by
 obtain⟨F,ρ,H0,ds,ρ',R,e,k⟩:=hh;unfold iS at e;split at e
 ·rename_i x ρ1 e1;cases e;refine⟨F,ρ,H0,_,_,R,e1,λv H1 H1' s R' r=>?_⟩;unfold Rep at r;refine⟨x,r,k _ _ _ s R' λi H2 H2' t t'=>⟨λd ed=>?_,λhl=>?_⟩⟩
  ·rw[bt]at ed;cases ec:x.cps.toList[i]? with
   |none=>rw[ec]at ed;cases ed
   |some c=>
    rw[ec]at ed;cases ed;have ec':x.cps[i]?=some c:=by simpa using ec
    refine⟨(Array.getElem?_eq_some_iff.mp ec').1,λz H3 y=>?_⟩;obtain⟨e3,c',hc',rfl⟩:=y;rw[ec']at hc';cases hc';subst e3;exact⟨H2,oj.refl _,t',oj.refl _,λb o e=>.inl e,va _⟩
  ·show i=x.cps.size;rw[hl,ah];simp
 ·cases e
def zx(f g:FE):FE:=λρ=>match f ρ with
 |some (.tup (x::xs),ρ1)=>match g ρ1 with
  |some (.tup ys,ρ2)=>if xs.length+ys.length<=900 then some (.tup (x::xs++ys),ρ2)else none
  |_=>none
 |_=>none
theorem N7{a b:Expr}{g:FE}(ha:PE X a (tF G f))(hb:PE X b (tF G g))(hK:X.K=G.K:=by rfl):PE X (.BinOp a .Add b pos) (tF G (zx f g)):=PE.weak (GU G0 ha hb) λσ H Q hh=>by
 rw[hK];obtain⟨F,ρ,H0,d,ρ',R,e,k⟩:=hh;unfold zx at e;split at e
 ·rename_i x xs ρ1 e1;split at e
  ·rename_i ys ρ2 e2;split at e
   ·rename_i hl;cases e;refine⟨F,ρ,H0,_,ρ1,R,e1,λv H1 H1' s R' r=>⟨F,ρ1,H1,_,_,R',e2,λu H2 H2' s2 R2 r2=>?_⟩⟩;have r':=Rep.mono s2 _ _ r;have r0:=r';unfold Rep at r' r2;obtain⟨a1,xs1,rfl,h1,h2⟩:=r';obtain⟨a2,xs2,rfl,h3,h4⟩:=r2;have l1:=n8 h2;have l2:=n8 h4;rw[aF]at l1;refine⟨a1,a2,xs1,xs2,rfl,rfl,SqT.mono R2.sub h1,SqT.mono R2.sub h3,(λz=>by rw[z]at l1;cases l1),by rw[<-l1,<- l2];exact r6 (by omega),λz=>?_,λ_ p hp=>?_⟩
    ·have ey:ys=[]:=by rw[z]at l2;exact hU.mp l2
     subst ey;rw[bz]at k;exact k _ _ _ (s.trans s2) R2 r0
    ·exact k _ _ _ ((s.trans s2).trans (oh (R2.h0none hp) _)) (R2.newIm hp _) (sS (SqT.of oa) (nZ.mono (oh (R2.h0none hp) _) _ _ (qe h2 h4)))
   ·cases e
  ·cases e
 ·cases e
end
section
variable{X:Cx}{G:Bg}
abbrev FO:=aU->Option (Option Int×aU)
def tFO(G:Bg)(f:FO):TO:=λσ H Q=>∃F ρ H0 d ρ',oq G F σ ρ H0 H/\f ρ=some (d,ρ')/\∀H0' H',oj H0 H0'->oq G F σ ρ' H0' H'->Q d H'
def oNo:FO:=λρ=>some (none,ρ)
def oAt(f:FE):FO:=λρ=>match f ρ with
 |some (.int i,ρ')=>some (some i,ρ')
 |_=>none
theorem PO.weak{e:Option Expr}{t t':TO}(h:PO X e t)(w:∀σ H Q,t' σ H Q->t σ H Q):PO X e t':=λpins s σ H Q I hq=>h pins s σ H Q I (w _ _ _ hq)
theorem Rb:PO X none (tFO G oNo):=PO.weak MZ λσ H Q hh=>by obtain⟨F,ρ,H0,d,ρ',R,e,k⟩:=hh;cases e;exact k _ _ (oj.refl _) R
theorem Re(h:PE X e (tF G f)):PO X (some e) (tFO G (oAt f)):=PO.weak (GZ h) λσ H Q hh=>by
 obtain⟨F,ρ,H0,d,ρ',R,e,k⟩:=hh;unfold oAt at e;split at e
 ·rename_i i ρ1 e1;cases e;refine⟨F,ρ,H0,_,_,R,e1,λv H1 H1' s R' r=>?_⟩;unfold Rep at r;exact⟨i,r,k _ _ s R'⟩
 ·cases e
def vU(f:FE)(lo hi:FO):FA:=λρ=>match f ρ with
 |some (d,ρ1)=>match d with
  |.lst ds=>match lo ρ1 with
   |some (l,ρ2)=>match hi ρ2 with
    |some (h,ρ3)=>some (cutD ds l h,ρ3)
    |none=>none
   |none=>none
  |.fzl ds=>match lo ρ1 with
   |some (l,ρ2)=>match hi ρ2 with
    |some (h,ρ3)=>some (cutD ds l h,ρ3)
    |none=>none
   |none=>none
  |_=>none
 |none=>none
theorem F3{lo hi:FO}(h:PE X e (tSl (Ir G.K) (tF G f) (tFO G lo) (tFO G hi))):PE X e (tFN G (vU f lo hi)):=PE.weak h λσ H Q hh=>by
 obtain⟨F,ρ,H0,ds,ρ',R,e,k⟩:=hh;unfold vU at e;rcases oK (f:=f) (ρ:=ρ)with e1|⟨d,ρ1,e1⟩<;>simp only[e1]at e
 ·cases e
 have gen:∀(xs:aC),(∀{H1:Hp} {v:V},Rep G H1 d v->∃a ys,v=.ref a/\SqL G.K H1 a ys/\nZ G H1 xs ys)->(match lo ρ1 with
   |some (l,ρ2)=>match hi ρ2 with
    |some (h,ρ3)=>some (cutD xs l h,ρ3)
    |none=>none
   |none=>none)=some (ds,ρ')->tSl (Ir G.K) (tF G f) (tFO G lo) (tFO G hi) σ H Q:=λxs rd e=>by
  rcases oK (f:=lo) (ρ:=ρ1)with e2|⟨l,ρ2,e2⟩<;>simp only[e2]at e
  ·cases e
  rcases oK (f:=hi) (ρ:=ρ2)with e3|⟨u,ρ3,e3⟩<;>simp only[e3]at e
  ·cases e
  cases e;refine⟨F,ρ,H0,d,ρ1,R,e1,λv H1 H1' s1 R1 r1=>⟨F,ρ1,H1,l,ρ2,R1,e2,λH2 H2' s2 R2=>⟨F,ρ2,H2,u,_,R2,e3,λH3 H3' s3 R3=>?_⟩⟩⟩;obtain⟨a,ys,rfl,q1,q2⟩:=rd (Rep.mono (s2.trans s3) _ _ r1);exact⟨a,ys,rfl,R3.sub.seq q1,λp hp=>k p _ _ _ (s1.trans (s2.trans s3)) (R3.newOwn hp _) oa (R3.h0none hp) (R3.bNone hp) (R3.apart hp) (AN q2)⟩
 cases d with
 |lst xs=>exact gen xs (λr=>by unfold Rep at r;obtain⟨a,ys,rfl,q1,q2⟩:=r;exact⟨a,ys,rfl,SqL.of q1,q2⟩) e
 |fzl xs=>exact gen xs (λr=>by unfold Rep at r;exact r) e
 |_=>cases e
def EH:D->D->Option D
 |.str x,.int n=>if 0<=n/\n<=1000/\x.length<=100 then some (.str (gE x n))else none
 |_,_=>none
end
section
variable{X:Cx}{G:Bg}
def xB:FE:=λ_=>none
theorem K2:PE X e (tF G xB):=λpins s σ H Q I h=>by obtain⟨F,ρ,H0,d,ρ',R,e,_⟩:=h;cases e
def F4(G:Bg)(c:Nat)(t:Ty->Option Bool):Prop:=(∀y b,t y=some b->cA G.K (y.val G) (.ref (G.ca c))=some b)/\∀j b,t (.c j)=some b->IT G.K (G.ca j)
theorem F5{c:Nat}{t:Ty->Option Bool}(h:F4 G c t)(hK:X.K=G.K:=by rfl):p9 X (.builtin "isinstance") (λxs H Q=>∃d x b,xs=[x,(Ty.c c).v G]/\Rep G H d x/\t (tyD d)=some b/\Q (.bl b) H):=
 Cp (X:=X) (.c c) (by rw[hK];exact h.1) (by rw[hK];exact h.2) hK
end
def ddp(acc:List Key)(k:Key):List Key:=if acc.any (λz=>decide (z=k))then acc else acc++[k]
def tU(ks:List Key):List Key:=ks.foldl ddp []
theorem N8(acc:List Key)(k j:Key):(ddp acc k).any (λz=>decide (z=j))=(acc.any (λz=>decide (z=j))||decide (j=k)):=by
 unfold ddp;by_cases h:acc.any (λz=>decide (z=k))=true
 ·rw[ai h];by_cases e:j=k
  ·subst e;rw[h];simp
  ·simp[e]
 ·rw[aj h,List.any_append];by_cases e:j=k
  ·subst e;simp
  ·have hb:¬k=j:=λz=>e z.symm;simp[hb,e]
theorem Hr(acc:List Key)(k:Key):(ddp acc k).length=if acc.any (λz=>decide (z=k))=true then acc.length else acc.length+1:=by unfold ddp;split<;>simp
theorem Cr(ks:List Key)(i:Nat)(h:i<ks.length):tU (ks.take (i+1))=ddp (tU (ks.take i)) ks[i]:=by unfold tU;rw[List.take_add_one,aI h,List.foldl_append];rfl
theorem K3(ks:List Key):(tU ks).length<=ks.length:=by
 have gen:∀(l:List Key) (acc:List Key),(l.foldl ddp acc).length<=acc.length+l.length:=by
  intro l
  induction l with
  |nil=>intro acc;simp
  |cons k l ih=>
   intro acc;rw[mS,aF];have h1:=ih (ddp acc k);have h2:(ddp acc k).length<=acc.length+1:=by rw[Hr];split<;>omega
   omega
 have:=gen ks [];simpa [tU]using this
theorem set_same{prog:aA}{w:av}{h:Heap}{S S':Key->Bool}{n n':Nat}(hS:h.SetOf (oI prog w) a S n)(e:∀k,S k=S' k)(en:n=n'):h.SetOf (oI prog w) a S' n':=by obtain rfl:S=S':=funext e;subst en;exact hS
section
variable{prog:aA}{w:av}{A:aE}{R:dP->ae->Prop}{I:Addr}{fp wr:List Addr}{GG:Array gv->Array gv->Prop}{n:Nat}{PP:Nat->aa->Prop}{SS:Nat->ae->Prop}
theorem K4(W:WalksS prog w A.in1 I fp wr GG n PP SS)(S:Addr)(hSf:S∉fp)(ks:List Key)(hn:ks.length=n)
  (hval:∀i v (h:i<ks.length),PP i v->(oI prog w).is ks[i] v=true/\v.scannable=true) (hb:n+1<scanBound):∀(k i:Nat) (s:ae),n - i=k->i<=n->SS i s->
   s.heap.SetOf (oI prog w) S (λj=>(tU (ks.take i)).any (λz=>decide (z=j))) (tU (ks.take i)).length->
   (∀s',Moved (S::wr) GG s s'->s'.heap.SetOf (oI prog w) S (λj=>(tU ks).any (λz=>decide (z=j))) (tU ks).length->R (.ok (.ret .none)) s')->
   codeAny (model prog w) A (.builtin "set.update.loop" ⟨[.ref S,.ref I],[]⟩) R s:=by
 have hSw:S∉wr:=λz=>hSf (W.sub _ z);have up:∀b∈wr,b∈S::wr:=λb z=>ba _ z;intro k
 induction k with
 |zero=>
  intro i s hk hi hst hS hR;obtain rfl:i=n:=by omega
  refine eD fP ?_;rw[fj dt _];show wpAny _ A.in1 (pyNext (.ref I)>>=_) _ _ s;refine ag (W.done s _ _ hst λs' hm=>?_);show wpAny _ A.in1 (ret Value.none) _ _ s';rw[jr (by omega)]at hS;refine au (hR s' (hm.mono up) ?_);obtain⟨o,es,ep,t,ho,more⟩:=hS;exact⟨o,es,ep,t,hm.heap S _ hSw ho,more⟩
 |succ k ih=>
  intro i s hk hi hst hS hR;have hlt:i<n:=by omega
  have hlk:i<ks.length:=by omega
  refine eD fP ?_;rw[fj dt _];show wpAny _ A.in1 (pyNext (.ref I)>>=_) _ _ s;refine ag (W.item i s _ _ hlt hst λv s' hP hst' hm=>?_);obtain⟨kv,sc⟩:=hval i v hlk hP;have hS':s'.heap.SetOf (oI prog w) S (λj=>(tU (ks.take i)).any (λz=>decide (z=j))) (tU (ks.take i)).length:=by obtain⟨o,es,ep,t,ho,more⟩:=hS;exact⟨o,es,ep,t,hm.heap S _ hSw ho,more⟩
  show wpAny _ A.in1 (holding [v] (setAdd S v)>>=_) _ _ s';refine ag (cz ?_);unfold setAdd;refine cz ?_;refine ag ((oI prog w).pyHash (k:=ks[i]) kv ?_);have room:(tU (ks.take i)).length+1<scanBound:=by have:=K3 (ks.take i);rw[br]at this;omega
  refine wpAny_setAddHashed_of (knd:=oI prog w) (s:={ s' with toks:=s'.toks+1 }) kv sc hS' room λh' hsb hS2=>?_;have hSi:h'.SetOf (oI prog w) S (λj=>(tU (ks.take (i+1))).any (λz=>decide (z=j))) (tU (ks.take (i+1))).length:=
   set_same hS2 (λj=>by rw[Cr ks i hlk,N8]) (by rw[Cr ks i hlk,Hr])
  refine au ⟨iI dt _,ih (i+1) _ (by omega) hlt (W.frame _ s' _ _ hst' (iO _) λb z o e=>?_) hSi λs'' hm'' hS''=>?_⟩
  ·rw[hsb.2 b (λy:b=S=>hSf (by rw[<-y];exact z))];exact e
  ·refine hR s'' (kx W.gtrans ((hm.mono up).then_heap (iO _) λb o z e=>?_) hm'') hS'';rw[hsb.2 b (λy:b=S=>z (by rw[y];exact aS))];exact e
end
theorem N9(l:Addr)(us:Array aa)(m:Nat)(b:Addr)(o:Obj)(ws:Array aa)(m2:Nat)(hc:o.cls=.type "tuple")(hd:o.data=.seq ws m2)(z0:¬(!us.isEmpty&&fN (us.size+ws.size))=true)(z1:us.size<=sizeLine)(z2:us.size+ws.size<=sizeLine+1):
  Meets (cW.«list.extend» ⟨[.ref l,.ref b],[]⟩) (λ_ R s=>s.heap.get? l=some { cls:=.type "list", data:=.seq us m }/\s.heap.get? b=some o/\R (.ok (.ret Value.none)) { s with heap:=s.heap.update l (eI λx=>x++ws),toks:=s.toks }):=by
 obtain⟨c,dd,data,sl⟩:=o;cases hc;cases hd;refine .of_wp λprog w A R s h=>?_;obtain⟨hp,g,d,tk,os⟩:=s;obtain⟨hl,hb,h⟩:=h;have f2:=lD;have f3:=AutoSeq1.sub_list_list;have f4:=AutoSeq1.sub_tuple_list;have f5:=AutoSeq1.sub_list_tuple;have z3:(us++ws).size<=sizeLine+1:=Array.size_append (xs:=us) (ys:=ws)▸z2
 wp_walk using (wpAny_updateSeq hl rfl (hz:=z1) (_hz':=z3)),lE hl,lE hb
 exact⟨_,rfl,h⟩
section
variable{X:Cx}{G:Bg}
def EI(K:ao):V->bp->Hp->VK->Prop:=λx vs H Q=>∃l b xs zs,x=.ref l/\vs=[.ref b]/\H l=some (.lst xs)/\SqT K H b zs/\xs.length+zs.length<=sizeLine/\Q .non (upd H l (.lst (xs++zs)))
theorem F6:MtM X "list.extend" (EI X.K):=by
 intro pins s σ H x vs v us Q I rx rv h;obtain⟨l,b,xs,zs,rfl,rfl,hH,hB,hz,q⟩:=h;cases rx;obtain⟨u,rfl,ru⟩:=rv.one;cases ru;obtain⟨z,its,n,r,hl,e⟩:=I.lstM hH;obtain⟨its2,r2,⟨o,e2,hc,n2,hd⟩,hz2⟩:=I.tuple hB;have hl2:=r2.length;have hsz:its.toArray.size+its2.toArray.size<=sizeLine:=by rw[aT,aT];omega
 have hlong:¬(!its.toArray.isEmpty&&fN (its.toArray.size+its2.toArray.size))=true:=by rw[Ef hsz,mZ];exact bj
 refine iR jF ⟨_,e,rfl⟩ l4 (lU _ _)
  (N9 l its.toArray n b o its2.toArray n2 hc hd hlong (by rw[aT];omega) (by omega)) ⟨e,e2,?_⟩
 refine⟨.non,_,I.lset (its':=its++its2) hH e (by simp) (r.append r2) ?_,rfl,q⟩;rw[ay];omega
def zy(i:Nat)(f:FE):FE:=λρ=>match pZ ρ i with
 |some _=>match f ρ with
  |some (.tup es,ρ1)=>match pZ ρ1 i with
   |some ds=>if ds.length+es.length<=1000 then some (.non,putAt ρ1 i (ds++es))else none
   |none=>none
  |_=>none
 |none=>none
theorem F7(h:PE X e (tBM G.K "list" (EI G.K) (uE i) (Ap (tF G f) Ec))):PE X e (tF G (zy i f)):=PE.weak h λσ H Q hh=>by
 obtain⟨F,ρ,H0,d,ρ',R,e,k⟩:=hh;unfold zy at e;cases e0:pZ ρ i with
 |none=>simp only[e0]at e;cases e
 |some ds0=>
  simp only[e0]at e;rcases oK (f:=f) (ρ:=ρ)with e1|⟨x,ρ1,e1⟩<;>simp only[e1]at e
  ·cases e
  ·cases x with
   |tup es=>
    cases e2:pZ ρ1 i with
    |none=>simp only[e2]at e;cases e
    |some ds=>
     simp only[e2]at e;split at e
     ·rename_i hl;cases e;obtain⟨a,xs,s1,s2,s3,_⟩:=qP R e0;refine⟨.ref a,s1,.inl ⟨rfl,xs,SqL.of s2⟩,F,ρ,H0,_,ρ1,R,e1,λv H1 H1' s R' rs=>?_⟩;unfold Rep at rs;obtain⟨p,ys,rfl,hp,rs⟩:=rs;obtain⟨a',xs',t1,t2,t3,t4⟩:=qP R' e2;rw[s1]at t1;cases t1;refine⟨a,p,xs',ys,rfl,rfl,t2,SqT.mono R'.sub hp,?_,k _ _ _ s (t4 _ _ (qe t3 rs)) xX⟩;rw[<-n8 t3,<- n8 rs];exact r6 hl
     ·cases e
   |_=>cases e
end
abbrev one(j:Nat)(led pl:Bool):jc:=⟨7,#[j],#[],0,led,0,pl⟩
abbrev prb(i q:Nat):iF:=⟨i,0,i,q,none⟩
section
variable{j i q:Nat}{led pl:Bool}{h h1:Int}
theorem uM(i:Nat):(one j led pl).slot i=if j=i then .live 0 else .empty:=by
 by_cases z:j<i
 ·have:j≠i:=by omega
  simp[m9,gf,fV,gq,z,this]
 ·simp[m9,gf,fV,gq,z]
theorem UR(i:Nat):jS 7 i - i=0:=by unfold jS;split<;>omega
theorem Ht:(one j led pl).advance (prb i q)=prb ((i * 5+1+q / 32) % 8) (q / 32):=by unfold SetTable.advance SetTable.leap;simp[UR]
theorem US{F:Nat->Int}(e:F 0=h1):∀(f:Nat) (p:iF),cP (one j led pl) F h f p=cP (one j led pl) (λ_=>h1) h f p
 |0,p=>rfl
 |f+1,p=>by
  unfold cP;rw[uM];by_cases z:j=p.j
  ·rw[ai z];dsimp only;rw[e,US e f]
  ·rw[aj z]
theorem Hu(hh:h1≠h):∀(n f i q:Nat),q<32 ^ n->n+2<=f->∃j',j'≠j/\cP (one j led pl) (λ_=>h1) h f (prb i q)=some (.empty j' none)
 |n,0,i,q,_,hf=>aq hf (by omega)
 |n,f+1,i,q,hq,hf=>by
  unfold cP;rw[uM];by_cases z:j=i
  ·rw[ai z];dsimp only;rw[aj (by simpa using hh),Ht];cases n with
   |zero=>
    obtain⟨f,rfl⟩:∃g,f=g+1:=⟨f - 1,by omega⟩;unfold cP;rw[uM];have q0:q=0:=by simpa using hq
    have:¬j=(i * 5+1+q / 32) % 8:=by subst z q0;omega
    rw[aj this];exact⟨_,λe=>this e.symm,rfl⟩
   |succ n=>exact Hu hh n f _ _ (by rw[Nat.pow_succ]at hq;omega) (by omega)
  ·rw[aj z];exact⟨_,λe=>z e.symm,rfl⟩
theorem I0{n:Nat}(hn:n<=13)(hq:q<32 ^ n):(∃j',j'≠j/\(one j led pl).probe (λ_=>h1) h (prb i q)=some (.empty j' none))\/(h1=h/\j=i/\(one j led pl).probe (λ_=>h1) h (prb i q)=some (.candidate j 0 (prb ((i * 5+1+q / 32) % 8) (q / 32)))):=by
 by_cases hh:h1=h
 ·by_cases z:j=i
  ·right;refine⟨hh,z,?_⟩;subst z hh;show cP _ _ _ (219+1) _=_;unfold cP;rw[uM,ai rfl];dsimp only;rw[ai (by simp),Ht]
  ·left;refine⟨i,λe=>z e.symm,?_⟩;show cP _ _ _ (219+1) _=_;unfold cP;rw[uM,aj z]
 ·exact .inl (Hu hh n 220 i q hq (by omega))
end
variable{ks k1 k2:List Key}{a2:Addr}{ep:Nat}
section
variable{prog:aA}{w:av}{A:aE}{E:aa->ae->Prop}{s:ae}
abbrev TK(prog:aA)(w:av):=IsTupleKey (oI prog w)
theorem cls_val(n:Nat){v:aa}(h:carriedByValue v=true):ofAClassStatement n v=pure false:=by
 cases v with
 |ref a=>simp[carriedByValue]at h
 |_=>first|rfl|simp[ofAClassStatement]|(unfold ofAClassStatement;rfl)
theorem Hv{Q:Bool->ae->Prop}(hk:TK prog w s.heap ks a)(h:Q false s):wpAny (model prog w) A (ofAClassStatement 8 (.ref a)) Q E s:=by
 have hT:=hk.typeIs;obtain⟨o,items,n,ho,_,hd,hi⟩:=hk;unfold ofAClassStatement;refine ag (iK hT ?_);show wpAny _ _ (pure true>>=_) _ _ s;refine ag (au ?_);simp only[Bool.not_true,fm,if_false];refine ag (df ho hd ?_);refine ag ?_;show wpAny _ _ (forIn items _ _) _ _ s;rw[<-mf];refine ir _ (λrest r s'=>r.1=none/\s'=s/\∀v∈rest,carriedByValue v=true) _ ?_ ?_ _ _ ⟨rfl,rfl,hi.byValue⟩
 ·rintro v rest r s' ⟨hr,rfl,hall⟩;rw[cls_val _ (hall v aS)];refine ag (au ?_);simp only[fm,if_false];exact au ⟨rfl,rfl,λu hu'=>hall u (ba _ hu')⟩
 ·rintro⟨r1,r2⟩ s' ⟨hr,rfl,_⟩;simp only at hr;subst hr;exact au h
theorem Oa(n:Nat){v:aa}(h:carriedByValue v=true):∃b,hashByValue n v=pure b:=by
 cases v with
 |ref a=>simp[carriedByValue]at h
 |_=>cases n<;>first|exact⟨_,rfl⟩|(unfold hashByValue;exact⟨_,rfl⟩)
theorem Ob{Q:Bool->ae->Prop}(hk:TK prog w s.heap ks a)(h:∀b,Q b s):wpAny (model prog w) A (hashByValue 8 (.ref a)) Q E s:=by
 have hT:=hk.typeIs;obtain⟨o,items,n,ho,_,hd,hi⟩:=hk;unfold hashByValue;refine ag (wpAny_specialOf hT F.slot_tuple_hash.lookup ?_);show wpAny _ _ (seqItems? (.ref a)>>=_) _ _ s;refine ag (df ho hd ?_);refine ag ?_;show wpAny _ _ (forIn items _ _) _ _ s;rw[<-mf];refine ir _ (λrest r s'=>s'=s/\∀v∈rest,carriedByValue v=true) _ ?_ ?_ _ _ ⟨rfl,hi.byValue⟩
 ·rintro v rest r s' ⟨rfl,hall⟩;obtain⟨b,hb⟩:=Oa 7 (hall v aS);rw[hb];refine ag (au ?_);cases b
  ·exact au (au (h _))
  ·exact au ⟨rfl,λu hu'=>hall u (ba _ hu')⟩
 ·rintro⟨r1,r2⟩ s' ⟨rfl,_⟩;cases r1 with
  |none=>exact au (h _)
  |some b=>exact au (h _)
theorem Oc{a1:Addr}{Q:Bool->ae->Prop}(h1:TK prog w s.heap k1 a1)(h2:TK prog w s.heap k2 a2)(h:Q false s):wpAny (model prog w) A (searchCouldBeSeen (.ref a2) [.ref a1]) Q E s:=by
 unfold searchCouldBeSeen;refine ag ?_;show wpAny _ _ (forIn [Value.ref a1] _ _) _ _ s;refine ir _ (λrest r s'=>r=(none,())/\s'=s/\∀v∈rest,v=.ref a1) _ ?_ ?_ _ _ ⟨rfl,rfl,λv hv=>by simpa using hv⟩
 ·rintro v rest r s' ⟨rfl,rfl,hall⟩;obtain rfl:=hall v aS;have go:∀v∈rest,v=Value.ref a1:=λu hu'=>hall u (ba _ hu');dsimp only;split
  ·exact au ⟨rfl,rfl,go⟩
  ·refine ag (lO h2 ?_);refine ag (lO h1 ?_);refine ag (Hv h2 ?_);refine ag (Hv h1 ?_);exact au ⟨rfl,rfl,go⟩
 ·rintro r s' ⟨rfl,rfl,_⟩;exact au h
theorem xC{S a1 a2:Addr}{k1 k2:List Key}{o:Obj}{ep j:Nat}{led pl:Bool}{h h1:Int}{Q:SetFound->ae->Prop}(hu:A.units<cLine)(t1:TK prog w s.heap k1 a1)(t2:TK prog w s.heap k2 a2)(ne:k1≠k2)
  (ho:s.heap.get? S=some o) (hd:o.data=.set #[(h1,.ref a1)] ep (one j led pl)) (hQ:∀j',j'≠j->Q (.free j' false) s):∀(fuel n i q:Nat) (st:Option iF),n<=13->1<=fuel->(i=j->n+2<=fuel)->q<32 ^ n->st.getD ((one j led pl).probeStart h)=prb i q->wpAny (model prog w) A (setSearchFrom S (.ref a2) h true fuel st) Q E s
 |0,n,i,q,st,_,hf,_,_,_=>aq hf (by omega)
 |fuel+1,n,i,q,st,hn,_,hf,hq,hst=>by
  unfold setSearchFrom;refine ag (fW ho hd rfl ?_);dsimp only;rw[aj (by simp[mK])];have P:=I0 (led:=led) (pl:=pl) (j:=j) (i:=i) (h:=h) (h1:=h1) hn hq;unfold SetTable.probe at P ⊢;rw[hst,US (h1:=h1) rfl];rcases P with ⟨j',hj,e⟩|⟨e1,e2,e⟩
  ·rw[e];exact au (hQ j' hj)
  ·rw[e];dsimp only;rw[show List.map (λx:Int×aa=>x.snd) (Array.filter (λx=>x.fst==h) #[(h1,Value.ref a1)]).toList=[.ref a1] by simp[e1]];have hf2:=hf e2.symm;have si:∀led,(one j led pl).sameMemory 0 7=some true:=λ_=>rfl;cases led;refine ag (Oc t1 t2 ?_)
   all_goals
    refine ag (cz (wpAny_eqBool_tuple hu t1 t2 ?_));refine ag (fW ho hd rfl ?_);rw[aO ne];dsimp only;rw[aj (by decide),si];dsimp only;rw[ai rfl,uM,ai rfl];refine ag (wpAny_isSame_ref_self ?_);refine ag (au ?_);cases n with
    |zero=>
     have q0:q=0:=by simpa using hq
     exact xC hu t1 t2 ne ho hd hQ fuel 0 _ _ _ hn (by omega) (λe=>aq e (by subst e2 q0;omega)) (by rw[q0];decide) rfl
    |succ n=>exact xC hu t1 t2 ne ho hd hQ fuel n _ _ _ (by omega) (by omega) (λ_=>by omega) (by rw[Nat.pow_succ]at hq;omega) rfl
theorem Hw{S:Addr}{o:Obj}{es:Array (Int×aa)}{t:jc}{h:Int}{P:Nat->Prop}{Q:Bool->ae->Prop}(ho:s.heap.get? S=some o)(hd:o.data=.set es ep t)(hf:t.fits es.size=true)(t2:TK prog w s.heap ks a2)
  (hs:∀Q:SetFound->ae->Prop,(∀j',P j'->Q (.free j' false) s)->wpAny (model prog w) A (setSearch S (.ref a2) h true) Q E s) (hT:∀j',P j'->(t.put j').1.tooFull=false) (hz:∀j',P j'->(ef es (t.put j').2 (h,Value.ref a2)).size<=sizeLine)
  (hQ:∀j' pl,P j'->Q true { s with heap:=s.heap.update S (kH (ef es (t.put j').2 (h,.ref a2)) { (t.put j').1 with plain:=pl }) }):wpAny (model prog w) A (setAddHashed S (.ref a2) h) Q E s:=by
 unfold setAddHashed setAddHashedIn;refine cz (ag (fW ho hd hf ?_));dsimp only;rw[aj (by simp[byScan,Value.scannable])];refine ag (hs _ λj' hj=>?_);dsimp only;refine ag (fW ho hd hf ?_);dsimp only;have fin:∀b:Bool,wpAny (model prog w) A (do
   storeSet S (ef es (t.put j').2 (h,.ref a2)) (if b=true then (t.put j').1 else { (t.put j').1 with plain:=false })
   if (!false&&(if b=true then (t.put j').1 else { (t.put j').1 with plain:=false }).tooFull)=true then do setRelay S (SetTable.grown (es.size+1));pure true else pure true) Q E s:=λb=>by
  refine ag (wpAny_storeSet_of ho hd ?_ (hz j' hj));have e:(if b=true then (t.put j').1 else { (t.put j').1 with plain:=false })={ (t.put j').1 with plain:=if b=true then (t.put j').1.plain else false }:=by cases b<;>rfl
  rw[e,aj (by have:=hT j' hj;unfold mL jW at this ⊢;rw[this];decide)];exact au (hQ _ _ hj)
 split
 ·exact ag (Ob t2 λb=>fin b)
 ·exact ag (au (fin true))
end
section
variable{j i q:Nat}{led pl:Bool}{h h1:Int}
theorem AS(i:Nat):(iG 0 0 led).put i=(one i led true,0):=by simp[j8,iG,gf,fV,gq,ef]
theorem Ae{α:Type}(x y:α):((one j led pl).put i).1.place.size=2/\((one j led pl).put i).1.dummies=#[]/\((one j led pl).put i).1.mask=7/\(ef #[x] ((one j led pl).put i).2 y).size=2:=by
 by_cases z:j<i
 ·simp[j8,gf,fV,gq,ef,z]
 ·simp[j8,gf,fV,gq,ef,z]
end
variable{led:Bool}{j:Nat}
section
variable{prog:aA}{w:av}{A:aE}{E:aa->ae->Prop}{s:ae}
theorem K5{hp:Heap}{S:Addr}{o:Obj}{es es':Array (Int×aa)}{t t':jc}(ho:hp.get? S=some o)(hd:o.data=.set es ep t):(hp.update S (kH es' t')).get? S=some { o with data:=.set es' (ep+1) t' }:=by have:=lQ (kH es' t') ho (by rw[putSet_of es' t' hd];rfl);rw[putSet_of es' t' hd]at this;exact this
theorem Ja{S:Addr}{o:Obj}{h:Int}{Q:Bool->ae->Prop}(ho:s.heap.get? S=some o)(hd:o.data=.set #[] ep (.fresh 0 0 led))(t2:TK prog w s.heap ks a)
  (hQ:∀h' j pl,eG S s.heap h'->h'.get? S=some { o with data:=.set #[(h,.ref a)] (ep+1) (one j led pl) }->Q true { s with heap:=h' }):wpAny (model prog w) A (setAddHashed S (.ref a) h) Q E s:=by
 refine Hw (P:=λ_=>True) ho hd rfl t2 (λQ hq=>?_) (λj' _=>by rw[AS];rfl) (λj' _=>by rw[AS,bK];exact gm (by decide:1<_)) λj' pl _=>hQ _ j' pl (ic ..) ?_
 ·unfold setSearch setSearchFrom;refine ag (fW ho hd rfl ?_);dsimp only;rw[aj (by simp[mK,iG]),show ∀F p,(iG 0 0 led).probe F h p=some (.empty p.j p.dummy) from λ_ _=>rfl];exact au (hq _ trivial)
 ·rw[K5 ho hd,AS];rfl
theorem F8{S a1:Addr}{o:Obj}{pl:Bool}{h h1:Int}{Q:Bool->ae->Prop}(hu:A.units<cLine)(t1:TK prog w s.heap k1 a1)(t2:TK prog w s.heap k2 a2)(ne:k1≠k2)
  (ho:s.heap.get? S=some o) (hd:o.data=.set #[(h1,.ref a1)] ep (one j led pl))
  (hQ:∀h' es t,eG S s.heap h'->h'.get? S=some { o with data:=.set es (ep+1) t }->es.size=2->t.fits 2=true->Q true { s with heap:=h' }):wpAny (model prog w) A (setAddHashed S (.ref a2) h) Q E s:=by
 refine Hw (P:=λj'=>j'≠j) ho hd rfl t2 (λQ hq=>?_) (λj' _=>?_) (λj' _=>by rw[(Ae _ _).2.2.2,bK];decide) λj' pl' _=>hQ _ _ _ (ic ..) (K5 ho hd) (Ae _ _).2.2.2 ?_
 ·have hb:iJ h<32 ^ 13:=by unfold iJ;omega
  exact xC hu t1 t2 ne ho hd hq 100000 13 (iJ h % 8) (iJ h) none (by omega) (by omega) (λ_=>by omega) hb (by show SetTable.Probe.mk _ _ _ _ _=_;rw[UR])
 ·obtain⟨a,b,c,_⟩:=Ae (j:=j) (i:=j') (led:=led) (pl:=pl) 0 0;unfold mL jW;rw[a,b,c];rfl
 ·obtain⟨a,b,c,_⟩:=Ae (j:=j) (i:=j') (led:=led) (pl:=pl) 0 0;unfold SetTable.fits jW;dsimp only;rw[a,b,c];rfl
end
variable{h':Heap}
section
variable{prog:aA}{w:av}{A:aE}{R:dP->ae->Prop}{I:Addr}{fp wr:List Addr}{GG:Array gv->Array gv->Prop}{PP:Nat->aa->Prop}{SS:Nat->ae->Prop}
theorem TK.kept{h:Heap}(t:TK prog w h ks a)(e:∀o,h.get? a=some o->h'.get? a=some o):TK prog w h' ks a:=by obtain⟨o,its,n,ho,m⟩:=t;exact⟨o,its,n,e o ho,m⟩
def Rf(h:Heap)(S:Addr)(n:Nat):Prop:=∃o es ep t,h.get? S=some o/\o.ExactSet/\o.data=.set es ep t/\es.size<scanBound/\t.fits es.size=true/\es.size=n
theorem Jb(W:WalksS prog w A.in1 I fp wr GG 2 PP SS){S a1:Addr}{o:Obj}{s:ae}(hSf:S∉fp)(ne:k1≠k2)(n1:a1∉S::wr)(n2:a2∉S::wr)(p1:∀v,PP 0 v->v=.ref a1)(p2:∀v,PP 1 v->v=.ref a2)(hu:A.in1.units<cLine)
  (hst:SS 0 s) (t1:TK prog w s.heap k1 a1) (t2:TK prog w s.heap k2 a2) (ho:s.heap.get? S=some o) (hx:o.ExactSet) (hd:o.data=.set #[] ep (.fresh 0 0 led)) (hR:∀s',Moved (S::wr) GG s s'->Rf s'.heap S 2->R (.ok (.ret .none)) s'):
   codeAny (model prog w) A (.builtin "set.update.loop" ⟨[.ref S,.ref I],[]⟩) R s:=by
 have hSw:S∉wr:=λz=>hSf (W.sub _ z);have up:∀b∈wr,b∈S::wr:=λb z=>ba _ z;have q1:a1∉wr:=λz=>n1 (up _ z);have q2:a2∉wr:=λz=>n2 (up _ z);have e1:a1≠S:=λz=>n1 (by rw[z];exact aS);have e2:a2≠S:=λz=>n2 (by rw[z];exact aS);refine eD fP ?_;rw[fj dt _];show wpAny _ A.in1 (pyNext (.ref I)>>=_) _ _ s;refine ag (W.item 0 s _ _ (by decide) hst λv s1 hP st1 m1=>?_);obtain rfl:=p1 v hP;show wpAny _ A.in1 (holding _ (setAdd S _)>>=_) _ _ s1;refine ag (cz ?_);unfold setAdd;refine cz ?_;have u1:TK prog w s1.heap k1 a1:=t1.kept λo=>m1.heap a1 o q1;have u2:TK prog w s1.heap k2 a2:=t2.kept λo=>m1.heap a2 o q2;refine ag (mh hu u1 ?_);refine Ja (m1.heap S _ hSw ho) hd u1 λh' j pl hb hg=>?_;refine au ⟨iI dt _,?_⟩;have st1':=W.frame (0+1) s1 h' _ st1 (eh _ (k1.length+1)) λb z o e=>by rw[hb.2 b (λy:b=S=>hSf (by rw[<-y];exact z))];exact e
 have m1':Moved (S::wr) GG s { s1 with heap:=h',toks:=s1.toks+(k1.length+1) }:=(m1.mono up).then_heap (eh _ _) λb o z e=>by rw[hb.2 b (λy:b=S=>z (by rw[y];exact aS))];exact e
 have v1:TK prog w h' k1 a1:=u1.kept λo e=>by rw[hb.2 a1 e1];exact e
 have v2:TK prog w h' k2 a2:=u2.kept λo e=>by rw[hb.2 a2 e2];exact e
 refine eD fP ?_;rw[fj dt _];show wpAny _ A.in1 (pyNext (.ref I)>>=_) _ _ _;refine ag (W.item 1 _ _ _ (by decide) st1' λv s2 hP st2 m2=>?_);obtain rfl:=p2 v hP;show wpAny _ A.in1 (holding _ (setAdd S _)>>=_) _ _ s2;refine ag (cz ?_);unfold setAdd;refine cz ?_;have w1:TK prog w s2.heap k1 a1:=v1.kept λo=>m2.heap a1 o q1;have w2:TK prog w s2.heap k2 a2:=v2.kept λo=>m2.heap a2 o q2;refine ag (mh hu w2 ?_);refine F8 hu w1 w2 ne (m2.heap S _ hSw hg) rfl λh2 es t hb2 hg2 z2 f2=>?_;refine au ⟨iI dt _,?_⟩;have st2':=W.frame (1+1) s2 h2 _ st2 (eh _ (k2.length+1)) λb z o e=>by rw[hb2.2 b (λy:b=S=>hSf (by rw[<-y];exact z))];exact e
 have m2':=kx W.gtrans m1' ((m2.mono up).then_heap (tk:=s2.toks+(k2.length+1)) (eh _ _) λb o z e=>by rw[hb2.2 b (λy:b=S=>z (by rw[y];exact aS))];exact e);refine eD fP ?_;rw[fj dt _];show wpAny _ A.in1 (pyNext (.ref I)>>=_) _ _ _;refine ag (W.done _ _ _ st2' λs3 m3=>?_);show wpAny _ A.in1 (ret Value.none) _ _ s3;refine au (hR s3 (kx W.gtrans m2' (m3.mono up)) ?_);exact⟨_,es,_,t,m3.heap S _ hSw hg2,hx,rfl,by rw[z2];decide,by rw[z2];exact f2,z2⟩
end
theorem sub_tuple_set:isSubtype (.type "tuple") (.type "set")=pure false:=by rw[isSubtype_type];kernel_rfl
theorem sub_tuple_frozenset:isSubtype (.type "tuple") (.type "frozenset")=pure false:=by rw[isSubtype_type];kernel_rfl
variable{ax:Addr}{itO:Obj}
section
variable{prog:aA}{w:av}{A:aE}{E:aa->ae->Prop}{s:ae}{Q:aa->ae->Prop}
abbrev vV(led:Bool):Obj:={ cls:=.type "set", dict:=none,data:=.set #[] 0 (.fresh 0 0 led) }
abbrev inK(ks:List Key):Key->Bool:=λj=>(tU ks).any (λz=>decide (z=j))
structure UT(prog:aA)(w:av)(h:Heap)(a:Addr)(items:Array aa)(ks:List Key):Prop where
 len:ks.length=items.size
 key:∀i v (hi:i<ks.length),items[i]?=some v->(oI prog w).is ks[i] v=true/\v.scannable=true
 bnd:items.size+1<scanBound
def Od(s:ae)(PS:Heap->Prop)(E:aa->ae->Prop):dP->ae->Prop:=
 wants (λr s2=>r=.none/\∃h2 k2,s2={ s with heap:=h2,toks:=k2 }/\PS h2/\∀b o,b<s.heap.objs.size->s.heap.get? b=some o->h2.get? b=some o) E
theorem EJ{items:Array aa}{SS:Nat->Heap->Prop}(K:UT prog w s.heap ax items ks)(hlt:ax<s.heap.objs.size)
  (W:Walks prog w A.in1 (s.heap.objs.size+1) [s.heap.objs.size+1,ax] [s.heap.objs.size+1] items.size (λi v=>items[i]?=some v) SS) (st:SS 0 ((s.heap.push (vV led)).push itO)) {R:dP->ae->Prop}
  (hR:∀h2 k2,h2.SetOf (oI prog w) s.heap.objs.size (inK ks) (tU ks).length->(∀b o,b<s.heap.objs.size->s.heap.get? b=some o->h2.get? b=some o)->R (.ok (.ret .none)) { s with heap:=h2,toks:=k2 }) (tk:Nat):
  codeAny (model prog w) A (.builtin "set.update.loop" ⟨[.ref s.heap.objs.size,.ref (s.heap.objs.size+1)],[]⟩) R { s with heap:=(s.heap.push (vV led)).push itO,toks:=tk }:=by
 have notin:s.heap.objs.size∉[s.heap.objs.size+1,ax]:=by
  intro z;rcases aP.mp z with z|z
  ·exact aq z (bf (fZ _))
  ·exact aq (aW.mp z) (gn hlt)
 have e0:((s.heap.push (vV led)).push itO).get? s.heap.objs.size=some (vV led):=aH _ (bq _ rfl);refine K4 W.toS s.heap.objs.size notin ks K.len (λi v hi hv=>K.key i v hi hv) K.bnd (items.size - 0) 0 _ (by omega) (bW _) st ?_ λs2 mv S2=>?_
 ·exact⟨_,#[],0,_,e0,⟨rfl,rfl,rfl⟩,rfl,λe he=>by simp at he,λk=>by simp[tU],by unfold scanBound;decide,by rfl,rfl⟩
 ·obtain⟨h2,g2,d2,k2,o2⟩:=s2;have eg:g2=s.gens:=mv.gens;have ed:d2=s.drawn:=mv.drawn;have eo:o2=s.os:=mv.os;subst eg ed eo;refine hR h2 k2 S2 λb o hb e=>mv.heap b o (λz=>?_) (aH _ (aH _ e));rcases aP.mp z with z|z
  ·exact aq z (bf hb)
  ·exact aq (aW.mp z) (bf (ee hb))
theorem F9(a:aa){Q₁:aa->ae->Prop}(h:Q₁ (.ref s.heap.objs.size) { s with heap:=s.heap.push (vV (!w.params.followText "set-order")) }):
  codeAny (model prog w) A (.call (.builtin "set.__new__") ⟨[.type "set", a],[]⟩) (wants Q₁ E) s:=by
 refine codeAny_of_tree ?_;show wpAny _ A.in1 (do checkBuiltinCall "set.__new__" ⟨[.type "set", a],[]⟩;again (.builtin "set.__new__" ⟨[.type "set", a],[]⟩)) _ _ s;refine ag (wpAny_of_eq (F.newCall_set_1 a) (au ⟨iI mT _,eD F.entry_set_new ?_⟩));rw[fj mT _];unfold cW.«set.__new__» nP;have hsub:=sub_set_self;obtain⟨hp,g,d,tk,os⟩:=s;dsimp only
 wp_walk
 refine wpAny_askSetting (au ?_);dsimp only;simp only[newObj];refine ag (wpAny_alloc (au ?_));exact au h
theorem AU{o:Obj}{T:String}{PS:Heap->Prop}(ho:s.heap.get? ax=some o)(hc:o.cls=.type T)
  (u1:isSubtype (.type T) (.type "set")=pure false) (u2:isSubtype (.type T) (.type "frozenset")=pure false) (u3:(Value.type T==Value.type "dict")=false)
  (itr:∀(A:aE) (Q:aa->ae->Prop) (E:aa->ae->Prop) (s1:ae),s1.heap.get? ax=some o->Q (.ref s1.heap.objs.size) { s1 with heap:=s1.heap.push itO }->wpAny (model prog w) A (pyIter (.ref ax)) Q E s1)
  (fil:∀tk (R:dP->ae->Prop),(∀h2 k2,PS h2->(∀b o,b<s.heap.objs.size->s.heap.get? b=some o->h2.get? b=some o)->R (.ok (.ret .none)) { s with heap:=h2,toks:=k2 })->
   codeAny (model prog w) A.in1.in1 (.builtin "set.update.loop" ⟨[.ref s.heap.objs.size,.ref (s.heap.objs.size+1)],[]⟩) R { s with heap:=(s.heap.push (vV (!w.params.followText "set-order"))).push itO,toks:=tk })
  (h:∀h2 k2,PS h2->(∀b o,b<s.heap.objs.size->s.heap.get? b=some o->h2.get? b=some o)->Q (.ref s.heap.objs.size) { s with heap:=h2,toks:=k2 }):
  wpAny (model prog w) A (call (.type "set") [.ref ax]) Q E s:=by
 have hlt:ax<s.heap.objs.size:=aM ho;obtain⟨c,tl,hmro⟩:=dH.mro;have made:=dH.made;have subs:=dH.sub;refine kC (codeAny_of_tree ?_);show wpAny _ _ (callAny (.type "set") _) _ _ _;refine au ⟨Code.quiet_builtin _ (by decide +kernel),eD F.entry_type_call ?_⟩;rw[Around.under_plain (weight_type_call_type "set" [.ref ax] []) rfl];have n1:=dH.notType;have n2:=dH.canCreate;have n3:=F.typeCall_set_1 (.ref ax)
 repeat (any_goals (first|assumption|wp_step))
 let led:Bool:=!w.params.followText "set-order";refine fD (F9 (.ref ax) (E:=E) (Q₁:=λv s1=>v=.ref s.heap.objs.size/\s1={ s with heap:=s.heap.push (vV led) }) ⟨rfl,rfl⟩) λr s1 hr=>?_;cases r with
 |error e=>exact hr
 |ok fl=>
  cases fl with
  |ret v=>
   obtain⟨rfl,rfl⟩:=hr;have e0:(s.heap.push (vV led)).get? s.heap.objs.size=some (vV led):=bq _ rfl;have ty0:Shared.TypeIs { s with heap:=s.heap.push (vV led) } (.ref s.heap.objs.size) "set" := ⟨_,e0,rfl⟩;have l1:=dH.init.lookup;have l2:=dH.init.bind (.ref s.heap.objs.size)
   repeat (any_goals (first|assumption|wp_step))
   refine fD (codeAny_call_builtin (R:=Od s PS E) dH.init.plain F.entry_set_init (check_set_init_1 ty0 ?_)) λr2 s2 hr2=>?_
   ·obtain⟨oc,od,oda,osl⟩:=o;cases hc;have e1:(s.heap.push (vV led)).get? ax=some { cls:=.type T,dict:=od,data:=oda,slots:=osl }:=aH _ ho;unfold cW.«set.__init__» noKeywords nO;generalize gP:pyIter=PP
    wp_walk
    subst gP;refine itr _ _ _ _ e1 ?_;refine ag (wpAny_runValue ?_);have ez:(s.heap.push (vV led)).objs.size=s.heap.objs.size+1:=cF _ _;show codeAny _ _ (.builtin "set.update.loop" ⟨[.ref s.heap.objs.size,.ref (s.heap.push (vV led)).objs.size],[]⟩) _ _;rw[ez];refine fil _ _ λh2 k2 S2 kk=>?_;show wpAny _ _ _ _ _ _;refine au ?_;show wpAny _ _ (ret Value.none) _ _ _;exact au ⟨rfl,h2,k2,rfl,S2,kk⟩
   ·cases r2 with
    |error e=>exact hr2
    |ok fl2=>
     cases fl2 with
     |ret r=>
      obtain⟨rfl,h2,k2,rfl,S2,kk⟩:=hr2
      repeat (any_goals (first|assumption|wp_step))
      exact h _ _ S2 kk
     |_=>exact hr2.elim
  |_=>exact hr.elim
end
variable{S:ao->Hp->Addr->Nat->Prop}{ds:aC}
section
variable{X:Cx}{G:Bg}{H:Hp}{pins:bY}{σ:St}{s:ae}
theorem K6{P:aA}{w:av}{k:Key}{v:aa}(h:(oI P w).is k v=true):v.scannable=true:=by rcases pH h with ⟨i,t,_,rfl⟩|⟨x,t,_,rfl⟩<;>rfl
theorem K7{its:List aa}(r:Vals (ks.map kV) its)(hb:ks.length+1<scanBound):UT X.prog X.w s.heap a its.toArray ks:=by
 have hl:ks.length=its.length:=by have:=r.length;rw[ah]at this;exact this
 refine⟨by rw[aT];exact hl,λi v hi hv=>?_,by rw[aT];omega⟩;have e:(ks.map kV)[i]?=some (kV ks[i]):=by rw[bt,aI hi];rfl
 obtain⟨u,hu,ru⟩:=r.get e;have eu:v=u:=by rw[List.getElem?_toArray]at hv;rw[hv]at hu;exact bZ hu
 subst eu;have:=zt (P:=X.prog) (w:=X.w) ru;exact⟨this,K6 this⟩
theorem Pq(I:Inv X pins σ H s)(h:SqT X.K H a (ks.map kV)):TK X.prog X.w s.heap ks a:=by
 obtain⟨its,r,p,_⟩:=I.tuple h;obtain⟨o,ho,hc,n,hd⟩:=p;refine⟨o,_,n,ho,hc,hd,?_⟩;have gen:∀(ks:List Key) (its:List aa),Vals (ks.map kV) its->PySem.ItemsAre (oI X.prog X.w) ks its:=λks=>by
  induction ks with
  |nil=>intro its r;cases r;exact .nil
  |cons k ks ih=>intro its r;cases r with|cons h1 h2=>exact .cons (zt h1) (ih _ h2)
 exact gen ks its r
def Rg(K:ao)(H:Hp)(a:Addr)(n:Nat):Prop:=∃ks,(SqL K H a (ks.map kV)\/SqT K H a (ks.map kV))/\ks.length+1<scanBound/\n=(tU ks).length
def Rh(K:ao)(H:Hp)(a:Addr)(n:Nat):Prop:=Rg K H a n\/
 ∃(p q:Addr) (k1 k2:List Key),SqL K H a [.ref p,.ref q]/\SqT K H p (k1.map kV)/\SqT K H q (k2.map kV)/\k1≠k2/\n=2
def Rj(X:Cx)(S:ao->Hp->Addr->Nat->Prop):Prop:=∀{pins:bY} {σ:St} {H:Hp} {s:ae} {A:aE} {E:aa->ae->Prop} {Q:aa->ae->Prop} {a:Addr} {n:Nat},Inv X pins σ H s->A.handled=none->A.units+8<cLine->S X.K H a n->
 (∀h2 k2,Rf h2 s.heap.objs.size n->(∀b o,b<s.heap.objs.size->s.heap.get? b=some o->h2.get? b=some o)->Q (.ref s.heap.objs.size) { s with heap:=h2,toks:=k2 })->wpAny (model X.prog X.w) A (call (.type "set") [.ref a]) Q E s
theorem UU:Rj X (Rg):=by
 intro pins σ H s A E Q a n I hh hu hq h;have h3:A.in1.in1.in1.handled=none:=by simp[hh]
 have gt:∀{h2:Heap} {ks:List Key},h2.SetOf (oI X.prog X.w) s.heap.objs.size (inK ks) (tU ks).length->Rf h2 s.heap.objs.size (tU ks).length:=λS=>by obtain⟨o,es,ep,t,ho,hex,hd,_,_,hz,hf,hn⟩:=S;exact⟨o,es,ep,t,ho,hex,hd,hz,hf,hn⟩
 have it:∀{o:Obj} {led:Bool},o.isFreed=false->((s.heap.push (vV led)).push o).get? (s.heap.objs.size+1)=some o:=λ{o led} z=>by rw[show s.heap.objs.size+1=(s.heap.push (vV led)).objs.size from(cF _ _).symm];exact bq _ z
 obtain⟨ks,hq|hq,hb,rfl⟩:=hq
 ·obtain⟨its,r,p,_⟩:=I.list hq;obtain⟨o,ho,hc,n,hd⟩:=p.isList;have hne:a≠s.heap.objs.size+1:=bf (ee (aM ho));refine AU ho hc F.sub_list_set lW (by decide) (itO:={ cls:=.type "list_iterator", data:=.fields #[.ref a,.int 0 0] })
   (λA Q E s1 e k=>fo ⟨o,e,hc,n,hd⟩ k) (λtk R hR=>EJ (K7 r hb) (aM ho) (iU h3 _ a hne its.toArray) ⟨⟨_,it rfl,rfl,rfl⟩,⟨o,aH _ (aH _ ho),hc,n,hd⟩⟩ (λh2 k2 S=>hR h2 k2 (gt S)) tk) h
 ·obtain⟨its,r,p,_⟩:=I.tuple hq;obtain⟨o,ho,hc,n,hd⟩:=p;have hne:a≠s.heap.objs.size+1:=bf (ee (aM ho));refine AU ho hc sub_tuple_set sub_tuple_frozenset (by decide) (itO:={ cls:=.type "tuple_iterator", data:=.fields #[.ref a,.int 0 0] })
   (λA Q E s1 e k=>jB ⟨o,e,hc,n,hd⟩ k) (λtk R hR=>EJ (K7 r hb) (aM ho) (Walks.tuple h3 _ a hne its.toArray) ⟨⟨_,it rfl,rfl,rfl⟩,⟨o,aH _ (aH _ ho),hc,n,hd⟩⟩ (λh2 k2 S=>hR h2 k2 (gt S)) tk) h
theorem UV:Rj X (Rh):=by
 intro pins σ H s A E Q a n I hh hu hq h;rcases hq with hq|⟨p,q,k1,k2,hq,h1,h2,ne,rfl⟩
 ·exact UU I hh hu hq h
 have h3:A.in1.in1.in1.handled=none:=by simp[hh]
 have it:∀{o:Obj} {led:Bool},o.isFreed=false->((s.heap.push (vV led)).push o).get? (s.heap.objs.size+1)=some o:=λ{o led} z=>by rw[show s.heap.objs.size+1=(s.heap.push (vV led)).objs.size from(cF _ _).symm];exact bq _ z
 obtain⟨its,r,pp,_⟩:=I.list hq;obtain⟨o,ho,hc,n,hd⟩:=pp.isList;have hne:a≠s.heap.objs.size+1:=bf (ee (aM ho));obtain⟨u,v,rfl,ru,rv⟩:∃u v,its=[u,v]/\RelV (.ref p) u/\RelV (.ref q) v:=by cases r with|cons c1 r=>cases r with|cons c2 r=>cases r;exact⟨_,_,rfl,c1,c2⟩
 cases ru;cases rv;have t1:=Pq I h1;have t2:=Pq I h2;have far:∀{b:Addr} {ks:List Key},TK X.prog X.w s.heap ks b->b∉s.heap.objs.size::[s.heap.objs.size+1]:=λ{b ks} t z=>by
  obtain⟨o,_,_,e,_⟩:=t;have:=aM e;rcases aP.mp z with z|z
  ·exact aq z (bf this)
  ·exact aq (aW.mp z) (bf (ee this))
 have notin:s.heap.objs.size∉[s.heap.objs.size+1,a]:=by
  intro z;rcases aP.mp z with z|z
  ·exact aq z (bf (fZ _))
  ·exact aq (aW.mp z) (gn (aM ho))
 refine AU ho hc F.sub_list_set lW (by decide) (itO:={ cls:=.type "list_iterator", data:=.fields #[.ref a,.int 0 0] })
  (λA Q E s1 e k=>fo ⟨o,e,hc,n,hd⟩ k) (λtk R hR=>?_) h
 have ke:∀{b:Addr} {o':Obj},s.heap.get? b=some o'->((s.heap.push (vV (!X.w.params.followText "set-order"))).push { cls:=.type "list_iterator", data:=.fields #[.ref a,.int 0 0] }).get? b=some o':=λe=>aH _ (aH _ e);refine Jb (iU h3 _ a hne #[.ref p,.ref q]).toS notin ne (far t1) (far t2) (λv e=>(bZ e).symm) (λv e=>(bZ e).symm) (by show A.units+1+1+1<cLine;omega) ⟨⟨_,it rfl,rfl,rfl⟩,⟨o,ke ho,hc,n,hd⟩⟩ (t1.kept λo=>ke) (t2.kept λo=>ke)
  (aH _ (bq _ rfl)) ⟨rfl,rfl,rfl⟩ rfl λs2 mv S2=>?_
 obtain⟨h2,g2,d2,k2,o2⟩:=s2;have eg:g2=s.gens:=mv.gens;have ed:d2=s.drawn:=mv.drawn;have eo:o2=s.os:=mv.os;subst eg ed eo;exact hR h2 k2 S2 λb o hb e=>mv.heap b o (λz=>by
  rcases aP.mp z with z|z
  ·exact aq z (bf hb)
  ·exact aq (aW.mp z) (bf (ee hb))) (ke e)
def DC(S:ao->Hp->Addr->Nat->Prop)(K:ao)(te:TE):TE:=λσ H Q=>te σ H λx H1=>∃a n,x=.ref a/\S K H1 a n/\Q (.int n) H1
theorem Jc{p1 p2 p3 p4:Pos}(hV:Rj X S)(hu:X.A.units+64<cLine)(hc:X.calm=true)(g1:Gl X "len")(m1:X.mg "len" = none)(g2:Gl X "set")(m2:X.mg "set" = none)(he:PE X e te)
  (z1:starEach [Expr.Call (.Name "set" p2) [e] [] p3] X.env=[(false,eval (.Call (.Name "set" p2) [e] [] p3) X.env)]:=by rfl) (z2:starEach [e] X.env=[(false,eval e X.env)]:=by rfl):PE X (.Call (.Name "len" p1) [.Call (.Name "set" p2) [e] [] p3] [] p4) (DC S X.K te):=by
 intro pins s σ H Q I h;refine dX (vX I g1 m1 m5 ?_ (by decide) (by decide));refine callWith_builtin1 ?_ z1 rfl;rw[z1];show wpAny _ _ (spliced [(false,eval (.Call (.Name "set" p2) [e] [] p3) X.env)]) _ _ s;refine fT ?_;refine dX (vX I g2 m2 Pv.boot_set ?_ (by decide) (by decide));refine callWith_type1 (thn (qH he uo z2 p3 pins s σ H (λvs H1=>match vs with
  |[x]=>∃a n,x=.ref a/\S X.K H1 a n/\Q (.int n) H1
  |_=>False) I h) λus s1 ⟨vs,H1,I1,r1,q1⟩=>?_) z2 rfl
 match vs,r1,q1 with
 |[x],r1,q1=>
 obtain⟨a,n,e1,hq,q⟩:=q1;subst e1;obtain⟨u,rfl,ru⟩:=vals1 r1;cases ru;refine hV I1 (I1.ok.hd hc) (by omega) hq λh2 k2 S2 kk=>?_;refine ik ?_;obtain⟨o,es,ep,t,ho,hex,hd,hz,hf,hn⟩:=S2;have I2:Inv X pins σ H1 { s1 with heap:=h2,toks:=k2 }:=I1.kept λb o e=>kk b o (aM e) e;refine call_len_set ho hex hd hf (by unfold scanBound at hz;omega) ⟨.int n,H1,I2.tok _,⟨_,by rw[hn]⟩,q⟩
def xb:aC->Option (List Key)
 |[]=>some []
 |d::ds=>match yW d,xb ds with
  |some k,some ks=>some (k::ks)
  |_,_=>none
theorem wN:∀{ds:aC} {xs:bp} {ks:List Key},nZ G H ds xs->xb ds=some ks->xs=ks.map kV
 |[],xs,ks,r,e=>by cases e;unfold nZ at r;exact r
 |d::ds,xs,ks,r,e=>by
  unfold xb at e;cases e1:yW d with
  |none=>rw[e1]at e;cases e
  |some k=>
   cases e2:xb ds with
   |none=>rw[e1,e2]at e;cases e
   |some ks'=>rw[e1,e2]at e;cases e;unfold nZ at r;obtain⟨v,r',rfl,h1,h2⟩:=r;rw[yd h1 e1,wN h2 e2];rfl
def rM(ds:aC):Option D:=match xb ds with
 |some ks=>if ks.length<=1000 then some (.int (tU ks).length)else none
 |none=>none
def Rk:aC->Option D
 |[.tup x,.tup y]=>match xb x,xb y with
  |some k1,some k2=>if k1=k2 then none else some (.int 2)
  |_,_=>none
 |_=>none
def AV(g:aC->Option D):D->Option D
 |.lst ds=>match rM ds with
  |some r=>some r
  |none=>g ds
 |.tup ds=>rM ds
 |.fzl ds=>rM ds
 |_=>none
abbrev DE:D->Option D:=AV Rk
theorem Oe{g:aC->Option D}{r:D}(h:rM ds=some r):AV g (.lst ds)=some r:=by show (match rM ds with|some r=>some r|none=>g ds)=some r;rw[h]
theorem Ga{g:aC->Option D}(hK:X.K=G.K)(hO:∀{H a n},Rg X.K H a n->S X.K H a n)
  (hg:∀{ds d H1 H1' a xs},g ds=some d->SqL X.K H1' a xs->nZ G H1 ds xs->oj H1 H1'->∃n:Nat,S X.K H1' a n/\d=.int n)
  (h:PE X e (DC S X.K (tF G f))):PE X e (tF G (c1 (AV g) f)):=PE.weak h λσ H Q hh=>by
 obtain⟨F,ρ,H0,d,ρ',R,e,k⟩:=hh;obtain⟨x,e1,e2⟩:=Ac e;have key:∀{ds:aC} {xs:bp} {a:Addr} {H1 H1':Hp},rM ds=some d->nZ G H1 ds xs->oj H0 H1->oq G F σ ρ' H1 H1'->(SqL X.K H1' a xs\/SqT X.K H1' a xs)->
   ∃a' n,V.ref a=.ref a'/\S X.K H1' a' n/\Q (.int n) H1':=λ{ds xs a H1 H1'} ed rs s R' hq=>by
  unfold rM at ed;cases ek:xb ds with
  |none=>rw[ek]at ed;cases ed
  |some ks=>
   rw[ek]at ed;simp only at ed;split at ed
   ·rename_i hl;cases ed;rw[wN rs ek]at hq;exact⟨a,_,rfl,hO ⟨ks,hq,by unfold scanBound;omega,rfl⟩,k _ _ _ s R' (ql _)⟩
   ·cases ed
 refine⟨F,ρ,H0,x,ρ',R,e1,λv H1 H1' s R' r=>?_⟩;cases x with
 |lst ds=>
  unfold Rep at r;obtain⟨a,xs,rfl,h1,h2⟩:=r;have hq:SqL X.K H1' a xs:=SqL.of (R'.sub _ _ h1);replace e2:(match rM ds with|some r=>some r|none=>g ds)=some d:=e2;cases e3:rM ds with
  |some r=>rw[e3]at e2;cases e2;exact key e3 h2 s R' (.inl hq)
  |none=>rw[e3]at e2;obtain⟨n,h3,rfl⟩:=hg e2 hq h2 R'.sub;exact⟨a,n,rfl,h3,k _ _ _ s R' (ql _)⟩
 |tup ds=>unfold Rep at r;obtain⟨a,xs,rfl,h1,h2⟩:=r;rw[<-hK]at h1;exact key e2 h2 s R' (.inr (SqT.mono R'.sub h1))
 |fzl ds=>unfold Rep at r;obtain⟨a,xs,rfl,h1,h2⟩:=r;rw[<-hK]at h1;exact key e2 h2 s R' (.inl (R'.sub.seq h1))
 |_=>cases e2
theorem Of(hK:X.K=G.K):∀{ds d H1 H1' a xs},Rk ds=some d->SqL X.K H1' a xs->nZ G H1 ds xs->oj H1 H1'->∃n:Nat,Rh X.K H1' a n/\d=.int n:=λ{ds d H1 H1' a xs} e2 hq h2 s=>by
 unfold Rk at e2;split at e2
 ·rename_i x y;split at e2
  ·rename_i k1 k2 f1 f2;split at e2
   ·cases e2
   ·rename_i ne;cases e2;unfold nZ nZ nZ at h2;obtain⟨v1,r1,rfl,c1,v2,r2,rfl,c2,rfl⟩:=h2;unfold Rep at c1 c2;obtain⟨p,ys,rfl,d1,d2⟩:=c1;obtain⟨q,zs,rfl,d3,d4⟩:=c2;rw[<-hK,wN d2 f1]at d1;rw[<-hK,wN d4 f2]at d3;exact⟨2,.inr ⟨p,q,k1,k2,hq,SqT.mono s d1,SqT.mono s d3,ne,rfl⟩,rfl⟩
  ·cases e2
 ·cases e2
theorem Jd(hK:X.K=G.K)(h:PE X e (DC Rh X.K (tF G f))):PE X e (tF G (c1 DE f)):=Ga hK .inl (Of hK) h
end
theorem Hy{P:aA}{w:av}{k:Key}{v:aa}(h:(oI P w).is k v=true):RelV (kV k) v:=by
 rcases pH h with ⟨i,t,rfl,rfl⟩|⟨x,t,rfl,rfl⟩
 ·exact⟨t,rfl⟩
 ·exact⟨t,rfl⟩
def Itd(a:Addr)(o:Obj)(kvs:List (Key×V)):It:=
 ⟨λi H=>i<kvs.length/\H a=some (.frz o (.dK kvs)),λi H x H'=>H'=H/\∃k z,kvs[i]?=some (k,z)/\x=kV k,λi H=>kvs.length<=i/\H a=some (.frz o (.dK kvs))⟩
section
variable{X:Cx}{pins:bY}{σ:St}{H:Hp}{s:ae}
theorem ua{o:Obj}{es:Array DictEntry}(I:Inv X pins σ H s)(e:H a=some (.frz o (.dK kvs)))(hd:o.data=.dict es ep):
  (a==sysModules)=false/\s.heap.get? a=some o/\∃vs,KV kvs vs/\s.heap.DictAt (oI X.prog X.w) a vs ep:=by
 obtain⟨q0,_,y,vs,r,ob,es',ep',q1,q2,q3,q4⟩:=(show pD X.prog X.w H s.heap a (.frz o (.dK kvs)) from I.hok a _ e);rw[q0]at q1;cases q1;rw[hd]at q3;cases q3;exact⟨y,q0,vs,r,o,es,q0,q2,hd,q4⟩
theorem Rl{vs:List (Key×aa)}(r:KV kvs vs){k:Key}{x:aa}(e:vs[i]?=some (k,x)):∃z,kvs[i]?=some (k,z):=by
 induction r generalizing i with
 |nil=>cases e
 |@cons p q l l' h _ ih=>
  cases i with
  |zero=>obtain⟨pk,pv⟩:=p;cases e;exact⟨pv,by rw[show pk=k from h.1];rfl⟩
  |succ i=>exact ih e
end
theorem Je{P:aA}{w:av}{K:ao}(a it:Addr)(o:Obj)(kvs:List (Key×V)):Turn P w K tg (Itd a o kvs) [it] it (λi h=>∃es ep,o.data=.dict es ep/\h.IsKeyIter it a i kvs.length ep) where
 mem:=by simp
 obj:=λi h st b hb=>by
  have e:b=it:=by simpa using hb
  subst e;obtain⟨es,ep,hd,ob,e,c,d⟩:=st;exact⟨ob,e,λv z=>by rw[d]at z;cases z⟩
 keep:=λi h h' st k=>by obtain⟨es,ep,hd,x⟩:=st;exact⟨es,ep,hd,x.at λo e=>k it (by simp) o e⟩
 item:=by
  intro X hP hw hK hc i pins s σ H E I hf st hg;subst hP hw hK;obtain⟨hi,he⟩:=hg;obtain⟨es,ep,hd,ki⟩:=st;obtain⟨f0,f1,f2,f3,f4,f5⟩:=hf it (by simp);obtain⟨_,_,vs,r,da⟩:=ua I he hd;have hl:kvs.length=vs.length:=r.length;have hne:a≠it:=λz=>by subst z;rw[he]at f0;cases f0
  have W:=Walks.dictKeys (knd:=oI X.prog X.w) (A:=X.A) (I.ok.hd hc) it a hne vs ep;refine W.item i s _ _ (by omega) ⟨by rw[<-hl];exact ki,da⟩ λv h' tk hv st' kk=>?_;obtain⟨k,x,hx,hk⟩:=hv;obtain⟨z,hz⟩:=Rl r hx;have I1:Inv X pins σ H { s with heap:=h',toks:=tk }:=I.turned (λb o hb e=>kk b o (by simpa using hb) e) f0 f1 f3 f4 f5;obtain⟨ki',_⟩:=st';rw[<-hl]at ki';obtain⟨ob,e,c,d⟩:=id ki';exact⟨v,rfl,GT (s:={ s with heap:=h',toks:=tk }) e c d (by decide) ⟨kV k,H,I1,Hy hk,⟨rfl,k,z,hz,rfl⟩,⟨es,ep,hd,ki'⟩,λb hb=>(hf b hb).1⟩⟩
 done:=by intro X hP hw hK hc i pins s σ H E I hf st hg;subst hP hw hK;obtain⟨hi,he⟩:=hg;obtain⟨es,ep,hd,ki⟩:=st;obtain⟨f0,f1,f2,f3,f4,f5⟩:=hf it (by simp);obtain⟨_,_,vs,r,da⟩:=ua I he hd;have hl:kvs.length=vs.length:=r.length;exact wpAny_pyNext_dict_end (I.ok.hd hc) (by rw[<-hl];exact ki) da (fQ (by rw[<-hl];exact hi)) λh' eb=>⟨rfl,I.turned (t':=s.toks) (λb o hb e=>eb b o hb e) f0 f1 f3 f4 f5⟩
 self:=λ_ _ _ _ _ st h=>by obtain⟨es,ep,hd,ki⟩:=st;exact wpAny_pyIter_keyiter ki h
variable{tl:TE}
section
variable{X:Cx}{G:Bg}{tg:Expr}
def UW(tl:TE):TI:=λσ H R=>tl σ H λx H1=>∃a o kvs,x=.ref a/\H1 a=some (.frz o (.dK kvs))/\R (Itd a o kvs) H1
theorem Og{l:Expr}(hl:PE X l tl):PI X tg l (UW tl):=by
 intro pins s σ H R I h;refine thn (hl pins s σ H _ I h) λv s1 ⟨x,H1,I1,r1,q1⟩=>?_;obtain⟨a,o,kvs,e,he,q⟩:=q1;subst e;cases r1;obtain⟨q0,_,y,vs,r,ob,es,ep,e1,e2,e3,e4⟩:=(show pD X.prog X.w H1 s1.heap a (.frz o (.dK kvs)) from I1.hok a _ he);rw[q0]at e1;cases e1;have hl:kvs.length=vs.length:=r.length;refine wpAny_pyIter_dict (knd:=oI X.prog X.w) (kvs:=vs) (ep:=ep) y ⟨o,es,q0,e2,e3,e4⟩ ?_;refine⟨s1.heap.objs.size,[s1.heap.objs.size],_,_,H1,rfl,I1.kept (t':=s1.toks) λb o e=>aH _ e,Je a _ o kvs,⟨es,ep,e3,⟨_,bq _ rfl,rfl,by rw[hl];rfl⟩⟩,λb hb=>?_,q⟩;have e:b=s1.heap.objs.size:=by simpa using hb
 subst e;exact I1.fpOk (az _) (I1.hok.fresh (az _))
def Gb:Key->D
 |.inl i=>.int i
 |.inr x=>.str x
theorem Hz(k:Key){H:Hp}:Rep G H (Gb k) (kV k):=by
 cases k with
 |inl i=>exact ql i
 |inr x=>exact va x
def iD(f:FE):FA:=λρ=>match f ρ with
 |some (.dic ks ds,ρ1)=>if ks.length=ds.length then some (ks.map Gb,ρ1)else none
 |_=>none
theorem K8{tg:Expr}(h:PI X tg e (UW (tF G f))):PI X tg e (tFI G (iD f)):=PI.weak h λσ H R hh=>by
 obtain⟨F,ρ,H0,ds,ρ',R,e,k⟩:=hh;unfold iD at e;split at e
 ·rename_i ks ds' ρ1 e1;split at e
  ·rename_i hlen;cases e;refine⟨F,ρ,H0,_,_,R,e1,λv H1 H1' s R' r=>?_⟩;unfold Rep at r;obtain⟨a,o,xs,rfl,r1,r2,r3⟩:=r;have hz:(ks.zip xs).length=ks.length:=by rw[eC,<- r2,dG]
   refine⟨a,o,_,rfl,R'.sub _ _ r1,k _ _ _ s R' λi H2 H2' t t'=>⟨λd ed=>?_,λhl=>?_⟩⟩
   ·rw[bt]at ed;cases ek:ks[i]? with
    |none=>rw[ek]at ed;cases ed
    |some j=>
     rw[ek]at ed;cases ed;have hi:i<ks.length:=(bP.mp ek).1;refine⟨⟨by rw[hz];exact hi,t' _ _ (t _ _ r1)⟩,λz H3 y=>?_⟩;obtain⟨e3,k',z',hk',rfl⟩:=y;subst e3;have:k'=j:=by rw[ly]at hk';have:=hk'.1;rw[ek]at this;exact(bZ this).symm
     subst this;exact⟨H2,oj.refl _,t',oj.refl _,λb o e=>.inl e,Hz _⟩
   ·refine⟨by rw[hz,hl,ah];exact az _,t' _ _ (t _ _ r1)⟩
  ·cases e
 ·cases e
end
variable{xs:bp}
section
variable{X:Cx}{pins:bY}{σ:St}{H:Hp}{s:ae}
theorem Inv.turnedLaid{T:Addr}{t':Nat}{ch:List Addr}(I:Inv X pins σ H s)(hf:∀b∈ch,BJ X pins H b)(k:∀b o,b∉ch->s.heap.get? b=some o->h'.get? b=some o)
  (hT:s.heap.objs.size<=T) (new:pD X.prog X.w (upd H T (.tup xs)) h' T (.tup xs)):Inv X pins σ (upd H T (.tup xs)) { s with heap:=h',toks:=t' }:=by
 have nT:H T=none:=I.hok.fresh hT;have ne:∀{b:Addr} {u:HO},H b=some u->b≠T:=λe z=>by subst z;rw[nT]at e;cases e
 have nch:∀{b:Addr} {u:HO},H b=some u->b∉ch:=λe z=>by have:=(hf _ z).1;rw[e]at this;cases this
 have lt:∀{b:Addr} {o:Obj},s.heap.get? b=some o->b≠T:=λe z=>by subst z;exact aq (bU (aM e) hT) (cG _)
 refine I.step (g':=s.gens) (d':=s.drawn) (ch:=ch) (λb hb=>?_) (λb o _ _ hc e _=>k b o hc e) (λb o _ _ hc e _=>⟨o.slots,k b o hc e⟩) (λb o _ e n=>by rw[og (lt e)];exact n) (λb o hc e=>⟨o,k b o hc e⟩)
  (λb ys e=>by rw[og (ne e)];exact e) (λb o u e=>by rw[og (ne e)];exact e) (λb ps e=>⟨#[],by rw[og (ne e),e];simp⟩) (λm hm=>?_) (λb u e=>?_) I.bare
 ·obtain⟨f0,f1,f2,f3,f4,f5⟩:=hf b hb;exact⟨f3,f1,f4,f5⟩
 ·exact hm.at' λo e=>k _ o (λz=>(hf _ z).2.1 rfl) e
 ·by_cases hb:b=T
  ·subst hb;rw[oa]at e;cases e;exact new
  ·rw[og hb]at e;refine(I.hok b u e).stay (λc v hc q=>k c v ?_ q) (λc q=>by rw[og (ne q)];exact q) λc ys q=>by rw[og (ne q)];exact q
   rcases hc with rfl|hc
   ·exact nch e
   ·exact nch hc
def Itz(l1 l2:Addr):It:=
 ⟨λi H=>∃xs ys x y,H l1=some (.lst xs)/\H l2=some (.lst ys)/\xs[i]?=some x/\ys[i]?=some y,
  λi H v H'=>∃p x y,H p=none/\v=.ref p/\H'=upd H p (.tup [x,y])/\(∀xs,H l1=some (.lst xs)->xs[i]?=some x)/\∀ys,H l2=some (.lst ys)->ys[i]?=some y,
  λi H=>∃xs ys,H l1=some (.lst xs)/\H l2=some (.lst ys)/\(xs.length<=i\/ys.length<=i)⟩
end
structure K9(z TI TO i1 i2:Addr):Prop where
 a:TI≠z
 b:TO≠z
 c:i1≠z
 d:i2≠z
 e:TI≠TO
 f:TI≠i1
 g:TI≠i2
 h:TO≠i1
 i:TO≠i2
 j:i1≠i2
theorem La(n:Nat):K9 (n+4) (n+2) (n+3) n (n+1) where
 a:=(by omega:(n+2:Nat)≠n+4)
 b:=(by omega:(n+3:Nat)≠n+4)
 c:=(by omega:(n:Nat)≠n+4)
 d:=(by omega:(n+1:Nat)≠n+4)
 e:=(by omega:(n+2:Nat)≠n+3)
 f:=(by omega:(n+2:Nat)≠n)
 g:=(by omega:(n+2:Nat)≠n+1)
 h:=(by omega:(n+3:Nat)≠n)
 i:=(by omega:(n+3:Nat)≠n+1)
 j:=(by omega:(n:Nat)≠n+1)
def zTn(z TI TO i1 i2 l1 l2:Addr)(i:Nat)(h:Heap):Prop:=bX h z TI TO .none/\bF h TI (.ref i1) (.ref i2)/\(∃a b,bF h TO a b)/\h.IsListIter i1 l1 i/\h.IsListIter i2 l2 i
variable{elts:List Expr}
theorem Lb{P:aA}{w:av}{K:ao}{x1}{z TI TO i1 i2 l1 l2:Addr}(D:K9 z TI TO i1 i2):Turn P w K (.Tuple elts x1 pos) (Itz l1 l2) [z,TI,TO,i1,i2] z (zTn z TI TO i1 i2 l1 l2) where
 mem:=by simp
 obj:=λi h st b hb=>by
  obtain⟨hz,h1,⟨a,c,h2⟩,⟨o3,h3,_,d3⟩,⟨o4,h4,_,d4⟩⟩:=st;simp only[aP,bu,or_false]at hb;rcases hb with rfl|rfl|rfl|rfl|rfl
  ·exact⟨_,hz,λv y=>nomatch y⟩
  ·exact⟨_,h1,λv y=>nomatch y⟩
  ·exact⟨_,h2,λv y=>nomatch y⟩
  ·exact⟨o3,h3,λv y=>by rw[d3]at y;cases y⟩
  ·exact⟨o4,h4,λv y=>by rw[d4]at y;cases y⟩
 keep:=λi h h' st k=>by obtain⟨hz,h1,⟨a,c,h2⟩,h3,h4⟩:=st;exact⟨k z (by simp) _ hz,k TI (by simp) _ h1,⟨a,c,k TO (by simp) _ h2⟩,h3.at λo e=>k i1 (by simp) o e,h4.at λo e=>k i2 (by simp) o e⟩
 item:=by
  intro X hP hw hK hc i pins s σ H E I hf st hg;subst hP hw hK;obtain⟨xs,ys,x,y,q1,q2,qx,qy⟩:=hg;obtain⟨hz,hTI,⟨a,b,hTO⟩,h1,h2⟩:=st;obtain⟨its,r1,p1,_⟩:=I.list (SqL.of q1);obtain⟨jts,r2,p2,_⟩:=I.list (SqL.of q2);obtain⟨u1,hu1,ru1⟩:=r1.get qx;obtain⟨u2,hu2,ru2⟩:=r2.get qy;have nf:∀{l:Addr} {u:HO} {c:Addr},H l=some u->c∈[z,TI,TO,i1,i2]->l≠c:=λe hm w=>by subst w;have:=(hf _ hm).1;rw[e]at this;cases this
  have DD:dN z TI TO i1 i2 l1 l2:=⟨D.a,D.b,D.c,D.d,D.e,D.f,D.g,D.h,D.i,D.j,nf q1 (by simp),nf q1 (by simp),nf q1 (by simp),nf q1 (by simp),nf q2 (by simp),nf q2 (by simp),nf q2 (by simp),nf q2 (by simp)⟩;refine wpAny_pyNext_zip_item DD hz hTI hTO h1 h2 p1.isList p2.isList (x:=u1) (y:=u2) (by simpa using hu1) (by simpa using hu2) λh' a1 a2 a3 a4 a5 a6 kk=>?_;refine⟨_,rfl,lC (s:={ s with heap:=h' }) a1 λh2' hz' sb=>?_⟩;have lt:∀{c:Addr} {o:Obj},s.heap.get? c=some o->s.heap.objs.size≠c:=λe w=>aq (aM e) (by rw[w];exact cG _);have Tz:s.heap.objs.size≠z:=lt hz;have hp:bF h2' s.heap.objs.size u1 u2:=sb.extBut _ _ Tz a5;have ch4:∀b∈[z,TO,i1,i2],b∈[z,TI,TO,i1,i2]:=λb hb=>by simp at hb ⊢;rcases hb with rfl|rfl|rfl|rfl<;>simp
  have ok:pD X.prog X.w (upd H s.heap.objs.size (.tup [x,y])) h2' s.heap.objs.size (.tup [x,y]):=⟨by rw[bK];show 2<=16777216;decide,[u1,u2],.cons ru1 (.cons ru2 .nil),_,hp,rfl,_,rfl⟩;have I1:=Inv.turnedLaid (h':=h2') (t':=s.toks) (T:=s.heap.objs.size) (xs:=[x,y]) (ch:=[z,TO,i1,i2]) I (λb hb=>hf b (ch4 b hb))
   (λb o hb e=>sb.extBut _ _ (λw=>hb (by simp[w])) (kk b o (λw=>hb (by simp[w])) (λw=>hb (by simp[w])) (λw=>hb (by simp[w])) (λw=>hb (by simp[w])) e)) (az _) ok
  refine⟨.ref s.heap.objs.size,_,I1,rfl,⟨_,x,y,I.hok.fresh (az _),rfl,rfl,λxs' e=>?_,λys' e=>?_⟩,⟨hz',sb.extBut _ _ D.a (kk _ _ D.a D.e D.f D.g hTI),⟨_,_,sb.extBut _ _ D.b a2⟩,a3.extBut sb.extBut D.c,a4.extBut sb.extBut D.d⟩,λb hb=>?_⟩
  ·rw[q1]at e;cases e;exact qx
  ·rw[q2]at e;cases e;exact qy
  ·rw[og (λw=>?_)]
   ·exact(hf b hb).1
   ·simp only[aP,bu,or_false]at hb;rcases hb with hb|hb|hb|hb|hb
    ·exact lt hz (w.symm.trans hb)
    ·exact lt hTI (w.symm.trans hb)
    ·exact lt hTO (w.symm.trans hb)
    ·obtain⟨o,e,_⟩:=h1;exact lt e (w.symm.trans hb)
    ·obtain⟨o,e,_⟩:=h2;exact lt e (w.symm.trans hb)
 done:=by
  intro X hP hw hK hc i pins s σ H E I hf st hg;subst hP hw hK;obtain⟨xs,ys,q1,q2,hend⟩:=hg;obtain⟨hz,hTI,⟨a,b,hTO⟩,h1,h2⟩:=st;obtain⟨its,r1,p1,_⟩:=I.list (SqL.of q1);obtain⟨jts,r2,p2,_⟩:=I.list (SqL.of q2);have nf:∀{l:Addr} {u:HO} {c:Addr},H l=some u->c∈[z,TI,TO,i1,i2]->l≠c:=λe hm w=>by subst w;have:=(hf _ hm).1;rw[e]at this;cases this
  have DD:dN z TI TO i1 i2 l1 l2:=⟨D.a,D.b,D.c,D.d,D.e,D.f,D.g,D.h,D.i,D.j,nf q1 (by simp),nf q1 (by simp),nf q1 (by simp),nf q1 (by simp),nf q2 (by simp),nf q2 (by simp),nf q2 (by simp),nf q2 (by simp)⟩;have e1:=r1.length;have e2:=r2.length;refine wpAny_pyNext_zip_end (I.ok.hd hc) DD hz hTI hTO h1 h2 p1.isList p2.isList ?_ λh' kk=>⟨rfl,?_⟩
  ·rcases hend with w|w
   ·exact .inl (by simp;omega)
   ·exact .inr (by simp;omega)
  ·have ch4:∀b∈[z,TO,i1,i2],b∈[z,TI,TO,i1,i2]:=λb hb=>by simp at hb ⊢;rcases hb with rfl|rfl|rfl|rfl<;>simp
   have nch:∀{b:Addr} {u:HO},H b=some u->b∉[z,TO,i1,i2]:=λe w=>by have:=(hf _ (ch4 _ w)).1;rw[e]at this;cases this
   have k:∀b o,b∉[z,TO,i1,i2]->s.heap.get? b=some o->h'.get? b=some o:=λb o hb e=>kk b o (λw=>hb (by simp[w])) (λw=>hb (by simp[w])) (λw=>hb (by simp[w])) (λw=>hb (by simp[w])) e;refine I.step (g':=s.gens) (d':=s.drawn) (t':=s.toks) (ch:=[z,TO,i1,i2]) (λb hb=>?_) (λb o _ _ hc e _=>k b o hc e) (λb o _ _ hc e _=>⟨o.slots,k b o hc e⟩) (λb o _ e n=>n) (λb o hc e=>⟨o,k b o hc e⟩)
    (λb ys e=>e) (λb o u e=>e) (λb ps e=>⟨#[],by rw[e];simp⟩) (λm hm=>?_) (λb u e=>?_) I.bare
   ·obtain⟨f0,f1,f2,f3,f4,f5⟩:=hf b (ch4 b hb);exact⟨f3,f1,f4,f5⟩
   ·exact hm.at' λo e=>k _ o (λw=>(hf _ (ch4 _ w)).2.1 rfl) e
   ·refine(I.hok b u e).stay (λc v hc q=>k c v ?_ q) (λc q=>q) λc ys q=>q;rcases hc with rfl|hc
    ·exact nch e
    ·exact nch hc
 self:=λ_ _ _ _ _ st h=>iu st.1 h
section
variable{X:Cx}{G:Bg}{elts:List Expr}{x1:Nat}{tpos:Pos}
def UX(ta:TA):TI:=λσ H R=>ta σ H λvs H1=>∃a b xs ys,vs=[.ref a,.ref b]/\H1 a=some (.lst xs)/\H1 b=some (.lst ys)/\R (Itz a b) H1
theorem Rm{a b:Expr}{ta:TA}{p:Pos}(hg:Gl X "zip")(hm:X.mg "zip" = none)(ha:PA X [a,b] ta)(hs:starEach [a,b] X.env=[(false,eval a X.env),(false,eval b X.env)]:=by rfl)(hs2:starEach [b] X.env=[(false,eval b X.env)]:=by rfl):
  PI X (.Tuple elts x1 tpos) (.Call (.Name "zip" p) [a,b] [] pos) (UX ta):=by
 intro pins s σ H R I h;refine Call_ (vX I hg hm boot_zip (callWith_type1 (thn (ha pos pins s σ H _ I h) λus s1 ⟨vs,H1,I1,r1,q1⟩=>?_) (by rw[hs,hs2]) (by rw[hs2];rfl)));obtain⟨a',b',xs,ys,rfl,e1,e2,q⟩:=q1;obtain⟨u,v,rfl,ru,rv⟩:=vals2 r1;cases ru;cases rv;obtain⟨its,_,p1,_⟩:=I1.list (SqL.of e1);obtain⟨jts,_,p2,_⟩:=I1.list (SqL.of e2);refine call_zip_2 p1.isList p2.isList λh' z1 z2 z3 z4 z5 z6 kk=>?_;refine iu z1 ?_;have I2:Inv X pins σ H1 { s1 with heap:=h' }:=I1.kept (t':=s1.toks) kk;have D:=La s1.heap.objs.size;refine⟨_,_,_,_,H1,rfl,I2,Lb D,⟨z1,z2,⟨_,_,z3⟩,z4,z5⟩,λc hc=>?_,q⟩;have hc':s1.heap.objs.size<=c:=by simp only[aP,bu,or_false]at hc;rcases hc with rfl|rfl|rfl|rfl|rfl<;>first|exact eh _ _|exact az _
 exact I1.fpOk hc' (I1.hok.fresh hc')
def uN(ds es:aC):aC:=cR (λd e=>D.tup [d,e]) ds es
def iZ(f:FA):FA:=λρ=>match f ρ with
 |some ([.lst ds,.lst es],ρ1)=>some (uN ds es,ρ1)
 |_=>none
theorem AW(ds es:aC):(uN ds es).length=min ds.length es.length:=by unfold uN;rw[jy]
theorem Oh{f:FA}(h:PI X tg e (UX (tFA G f))):PI X tg e (tFI G (iZ f)):=PI.weak h λσ H R hh=>by
 obtain⟨F,ρ,H0,ds,ρ',R,e,k⟩:=hh;unfold iZ at e;split at e
 ·rename_i ds' es' ρ1 e1;cases e;refine⟨F,ρ,H0,_,_,R,e1,λvs H1 H1' s R' rs=>?_⟩;unfold nZ at rs;obtain⟨v1,r1,rfl,h1,rs⟩:=rs;unfold nZ at rs;obtain⟨v2,r2,rfl,h2,rs⟩:=rs;unfold nZ at rs;subst rs;unfold Rep at h1 h2;obtain⟨a,xs,rfl,a1,a2⟩:=h1;obtain⟨b,ys,rfl,b1,b2⟩:=h2;refine⟨a,b,xs,ys,rfl,R'.sub _ _ a1,R'.sub _ _ b1,k _ _ _ s R' λi H2 H2' t t'=>?_⟩;have g1:H2' a=some (.lst xs):=t' _ _ (t _ _ a1);have g2:H2' b=some (.lst ys):=t' _ _ (t _ _ b1);refine⟨λd ed=>?_,λhl=>⟨xs,ys,g1,g2,?_⟩⟩
  ·unfold uN at ed;rw[ia]at ed;cases ex:ds'[i]? with
   |none=>rw[ex]at ed;cases ed
   |some dx=>
    cases ey:es'[i]? with
    |none=>rw[ex,ey]at ed;cases ed
    |some dy=>
     rw[ex,ey]at ed;cases ed;obtain⟨vx,x1',x2⟩:=pS a2 ex;obtain⟨vy,y1',y2⟩:=pS b2 ey;refine⟨⟨xs,ys,vx,vy,g1,g2,x1',y1'⟩,λx H3 y=>?_⟩;obtain⟨p,x',y',hp,rfl,rfl,w1,w2⟩:=y;have e1':=w1 xs g1;have e2':=w2 ys g2;rw[x1']at e1';rw[y1']at e2';cases e1';cases e2';have p0:H2 p=none:=by
      cases q:H2 p with
      |none=>rfl
      |some o=>have:=t' _ _ q;rw[hp]at this;cases this
     refine⟨upd H2 p (.tup [vx,vy]),oh p0 _,λb o e=>?_,oh hp _,λb o e=>?_,sS (SqT.of oa) ?_⟩
     ·by_cases hb:b=p
      ·subst hb;rw[oa]at e ⊢;exact e
      ·rw[og hb]at e ⊢;exact t' _ _ e
     ·by_cases hb:b=p
      ·subst hb;exact .inr hp
      ·rw[og hb]at e;exact .inl e
     ·have m:=t.trans (oh p0 (.tup [vx,vy]));exact oJ (Rep.mono m _ _ x2) (oJ (Rep.mono m _ _ y2) oO)
  ·rw[AW]at hl;rw[<-n8 a2,<- n8 b2];omega
 ·cases e
end
mutual
def noC(N c:Nat):D->Bool
 |.non=>true
 |.bl _=>true
 |.int _=>true
 |.str _=>true
 |.tup ds=>EK N c ds
 |.lst ds=>EK N c ds
 |.fzl ds=>EK N c ds
 |.obj k _ ds=>decide (k<N)&&decide (k≠c)&&EK N c ds
 |.dic _ ds=>EK N c ds
def EK(N c:Nat):aC->Bool
 |[]=>true
 |d::ds=>noC N c d&&EK N c ds
end
def without(H:Hp)(a:Addr):Hp:=λb=>if b=a then none else H b
theorem AX{H:Hp}{b:Addr}(h:b≠a):without H a b=H b:=by unfold without;rw[aj h]
theorem yf{H:Hp}{b:Addr}{o:HO}(h:without H a b=some o):b≠a/\H b=some o:=by
 unfold without at h;by_cases hb:b=a
 ·rw[ai hb]at h;cases h
 ·rw[aj hb]at h;exact⟨hb,h⟩
theorem rq{H:Hp}{b:Addr}{u v:HO}(ha:H a=some u)(hb:H b=some v)(d:u≠v):without H a b=some v:=by rw[AX (λz=>by subst z;rw[ha]at hb;exact d (bZ hb))];exact hb
section
variable{G:Bg}{H:Hp}{a dx:Addr}{fs:List (Str×V)}{N c:Nat}
theorem EL(ha:H a=some (.ins (G.ca c) dx fs)){p:Addr}(h:SqT G.K H p xs):SqT G.K (without H a) p xs:=by
 rcases h with (h|⟨o,h⟩)|h
 ·exact .inl (.inl (rq ha h (λz=>nomatch z)))
 ·exact .inl (.inr ⟨o,rq ha h (λz=>nomatch z)⟩)
 ·exact .inr h
theorem EM(ha:H a=some (.ins (G.ca c) dx fs)){p:Addr}(h:SqL G.K H p xs):SqL G.K (without H a) p xs:=by
 rcases h with (h|⟨o,h⟩)|h
 ·exact .inl (.inl (rq ha h (λz=>nomatch z)))
 ·exact .inl (.inr ⟨o,rq ha h (λz=>nomatch z)⟩)
 ·exact .inr h
mutual
theorem zz(inj:∀j k,j<N->k<N->G.ca j=G.ca k->j=k)(hc:c<N)(ha:H a=some (.ins (G.ca c) dx fs)):∀(d:D) (v:V),noC N c d=true->Rep G H d v->Rep G (without H a) d v
 |.non,v,_,h=>by unfold Rep at h ⊢;exact h
 |.bl _,v,_,h=>by unfold Rep at h ⊢;exact h
 |.int _,v,_,h=>by unfold Rep at h ⊢;exact h
 |.str _,v,_,h=>by unfold Rep at h ⊢;exact h
 |.tup ds,v,n,h=>by unfold noC at n;unfold Rep at h ⊢;obtain⟨p,xs,e,h1,h2⟩:=h;exact⟨p,xs,e,EL ha h1,qV inj hc ha ds xs n h2⟩
 |.lst ds,v,n,h=>by unfold noC at n;unfold Rep at h ⊢;obtain⟨p,xs,e,h1,h2⟩:=h;exact⟨p,xs,e,rq ha h1 (λz=>nomatch z),qV inj hc ha ds xs n h2⟩
 |.fzl ds,v,n,h=>by unfold noC at n;unfold Rep at h ⊢;obtain⟨p,xs,e,h1,h2⟩:=h;exact⟨p,xs,e,EM ha h1,qV inj hc ha ds xs n h2⟩
 |.obj k ns ds,v,n,h=>by unfold noC at n;simp only[bo,bR]at n;unfold Rep at h ⊢;obtain⟨p,dx',xs,e,h1,h2,h3⟩:=h;refine⟨p,dx',xs,e,rq ha h1 (λz=>?_),h2,qV inj hc ha ds xs n.2 h3⟩;injection z with z1;exact n.1.2 (inj k c n.1.1 hc z1.symm)
 |.dic ks ds,v,n,h=>by unfold noC at n;unfold Rep at h ⊢;obtain⟨p,o,xs,e,h1,h2,h3⟩:=h;exact⟨p,o,xs,e,rq ha h1 (λz=>nomatch z),h2,qV inj hc ha ds xs n h3⟩
theorem qV(inj:∀j k,j<N->k<N->G.ca j=G.ca k->j=k)(hc:c<N)(ha:H a=some (.ins (G.ca c) dx fs)):∀(ds:aC) (xs:bp),EK N c ds=true->nZ G H ds xs->nZ G (without H a) ds xs
 |[],xs,_,h=>by unfold nZ at h ⊢;exact h
 |d::ds,xs,n,h=>by unfold EK at n;simp only[bo]at n;unfold nZ at h ⊢;obtain⟨v,r,e,h1,h2⟩:=h;exact⟨v,r,e,zz inj hc ha d v n.1 h1,qV inj hc ha ds r n.2 h2⟩
end
end
def xD:Sl->Sl
 |.im d=>.im d
 |_=>.un
def ub(N:Nat)(f:FE):FE:=λρ=>match ρ with
 |.ob c ns ds::r=>match f (.im (.obj c ns ds)::r.map xD)with
  |some (d,_)=>if (decide (c<N)&&noC N c d)=true then some (d,ρ)else none
  |none=>none
 |_=>none
section
variable{X:Cx}{G:Bg}
theorem Gc{s:Sl}:(xD s).own=false:=by cases s<;>rfl
theorem Oi{N:Nat}(inj:∀j k,j<N->k<N->G.ca j=G.ca k->j=k)(h:PE X e (tF G f)):PE X e (tF G (ub N f)):=PE.weak h λσ H Q hh=>by
 obtain⟨F,ρ,H0,d,ρ',R,e,k⟩:=hh;unfold ub at e;split at e
 ·rename_i c ns ds r;rcases oK (f:=f) (ρ:=.im (.obj c ns ds)::r.map xD)with e1|⟨x,ρ1,e1⟩<;>simp only[e1]at e
  ·cases e
  split at e
  ·rename_i hn;cases e;simp only[bo,bR]at hn;obtain⟨a,dx,xs,h1,h2,h3,h4,h5,h6⟩:=R.sl 0 _ rfl;have RL:oq G ⟨upd H0 a (.ins (G.ca c) dx (ns.zip xs)),H,[]⟩ σ (.im (.obj c ns ds)::r.map xD) (upd H0 a (.ins (G.ca c) dx (ns.zip xs))) H:={
    sub:=λb o q=>by
     by_cases hb:b=a
     ·subst hb;rw[oa]at q;cases q;exact h2
     ·rw[og hb]at q;exact R.sub _ _ q
    g0:=oj.refl _
    keep:=λb o q _=>q
    fr:=λb o q=>.inl q
    am:=λb q=>by cases q
    len:=by have:=R.len;simpa using this
    sl:=λi s q=>by
     cases i with
     |zero=>cases q;exact⟨.ref a,h1,by unfold Rep;exact⟨a,dx,xs,rfl,oa,h5,nZ.mono (oh h3 _) _ _ h6⟩⟩
     |succ i=>
      have q':(r.map xD)[i]?=some s:=q;rw[bt]at q';cases q1:r[i]? with
      |none=>rw[q1]at q';cases q'
      |some t=>
       rw[q1]at q';cases q';have ok:=R.sl (i+1) t q1;cases t with
       |im d=>obtain⟨v,g1,g2⟩:=ok;exact⟨v,g1,Rep.mono (oh h3 _) _ _ g2⟩
       |_=>trivial
    ap:=λi j s t b _ qi _ so=>by
     cases i with
     |zero=>cases qi;cases so
     |succ i=>
      have q':(r.map xD)[i]?=some s:=qi;rw[bt]at q';cases q1:r[i]? with
      |none=>rw[q1]at q';cases q'
      |some t=>rw[q1]at q';cases q';rw[Gc]at so;cases so }
   refine⟨_,_,_,d,ρ1,RL,e1,λv H1 H1' s R' rd=>?_⟩;have ha:H1 a=some (.ins (G.ca c) dx (ns.zip xs)):=s _ _ oa;have s0:oj H0 (without H1 a):=λb o q=>by
    have hb:b≠a:=λz=>by subst z;rw[h3]at q;cases q
    rw[AX hb];exact s b o (by rw[og hb];exact q)
   refine k v (without H1 a) H1' s0 ?_ (zz inj hn.1 ha d v hn.2 rd);refine R.grow (λb o q=>R'.keep b o q (by simp)) s0 (λb o q=>R'.sub _ _ (yf q).2) λb o q=>?_;obtain⟨hb,q⟩:=yf q;rcases R'.fr b o q with z|z
   ·have z':upd H0 a (.ins (G.ca c) dx (ns.zip xs)) b=some o:=z;rw[og hb]at z';exact .inl z'
   ·exact .inr z
  ·cases e
 ·cases e
end
section
variable{X:Cx}{pins:bY}{σ:St}{H:Hp}{s:ae}{a:Addr}{A:aE}{E:aa->ae->Prop}
theorem Ro{k:Key}{z:V}{u r:aa}{Q:aa->ae->Prop}(I:Inv X pins σ H s)(e:H a=some (.dK kvs))(ry:RelV (kV k) u)(rz:RelV z r)(hl:kvs.length<sizeLine)
  (h1:∀v w s',rZ kvs k=some v->Inv X pins σ H s'->RelV v w->Q w s') (h2:∀s',rZ kvs k=none->Inv X pins σ (upd H a (.dK (putK kvs k z))) s'->Q r s'):
  wpAny (model X.prog X.w) A (call (.builtin "dict.setdefault") [.ref a,u,r]) Q E s:=by
 obtain⟨y,hd,vs,rel,dd⟩:=J5 I.hok e;have hz:vs.length<=sizeLine:=by rw[<-rel.length];exact y
 have hp:(putK kvs k z).length<=sizeLine:=by have:=tV kvs k z;omega
 have rv:=rel.val k;refine iM lJ dd.typeIs F.entry_dict_setdefault (F.args_dict_setdefault_3 _ _ _) (kt_meets_setdefault (oI X.prog X.w) a (zt ry) hd r) ⟨vs,dd,hz,λw hw=>?_,λhn h' dd' hs=>?_⟩
 ·rw[hw]at rv;cases ev:rZ kvs k with
  |none=>rw[ev]at rv;exact rv.elim
  |some v=>rw[ev]at rv;exact h1 v w _ ev (I.tok _) rv
 ·rw[hn]at rv;cases ev:rZ kvs k with
  |some v=>rw[ev]at rv;exact rv.elim
  |none=>have he:∃q,h'.get? a=some q:=let ⟨q,_,_,hq,_⟩:=dd';⟨q,hq⟩;exact h2 _ ev (Ab I (by rw[e];exact True.intro) hs he (FR hp hd (rel.put k rz) dd'))
def Lc(td ty tx:TE):TE:=λσ H Q=>td σ H λx H1=>∃a,x=.ref a/\IsD H1 a/\ty σ H1 λy H2=>tx σ H2 λz H3=>∃kvs k,H3 a=some (.dK kvs)/\y=kV k/\kvs.length<sizeLine/\
 (∀v,rZ kvs k=some v->Q v H3)/\(rZ kvs k=none->Q z (upd H3 a (.dK (putK kvs k z))))
theorem Ld{o f:Expr}{td ty tx:TE}(ho:PE X o td)(he:PE X e ty)(hf:PE X f tx)(m:M2 X o "setdefault" apos e f cpos):PE X (.Call (.Attribute o "setdefault" apos) [e,f] [] cpos) (Lc td ty tx):=by
 intro pins s σ H Q I h;refine mC m.base m.few m.line jK lJ F.type_dict_setdefault (thn (ho pins s σ H _ I h) λu s1 ⟨x,H1,I1,rx,a,ex,d,q1⟩=>?_);subst ex;obtain rfl:u=Value.ref a:=rx;obtain⟨t1,t2,_⟩:=FV I1 d;refine⟨t1,t2,?_⟩;rw[m.trees];refine hZ rfl (ju (fT (thn (he pins s1 σ H1 _ I1 q1) λiv s2 ⟨y,H2,I2,ry,q2⟩=>
  fT (thn (hf pins s2 σ H2 _ I2 q2) λfv s3 ⟨z,H3,I3,rz,kvs,k,e3,ey,hl,g1,g2⟩=>ik ?_))))
 subst ey;exact Ro I3 e3 ry rz hl (λv w s' ev I' rw'=>⟨v,H3,I',rw',g1 v ev⟩) λs' ev I'=>⟨z,_,I',rz,g2 ev⟩
end
def BR(ks:List Key)(dss:List aC)(k:Key)(d:D):List Key×List aC:=
 if AO ks k=true then (ks,cR (λk' ds=>if k'=k then ds++[d]else ds) ks dss)else (ks++[k],dss++[[d]])
theorem EN{k:Key}:AO ks k=true ↔ k∈ks:=by unfold AO;rw[fq];exact⟨λ⟨x,h1,h2⟩=>bA h2▸h1,λh=>⟨k,h,aV rfl⟩⟩
variable{vs:bp}
theorem Le{k:Key}{v:V}:ks.length=vs.length->rZ (ks.zip vs) k=some v->∃j:Nat,ks[j]?=some k/\vs[j]?=some v:=by
 induction ks generalizing vs with
 |nil=>intro _ h;cases h
 |cons k0 ks ih=>
  intro hl h;cases vs with
  |nil=>cases hl
  |cons v0 vs=>
   unfold rZ at h;rw[dc,dE]at h;by_cases e:k0=k
   ·subst e;simp only[decide_true]at h;cases h;exact⟨0,rfl,rfl⟩
   ·simp only[e,decide_false]at h;obtain⟨j,h1,h2⟩:=ih (by simpa using hl) h;exact⟨j+1,h1,h2⟩
theorem Lf{k:Key}:ks.length=vs.length->rZ (ks.zip vs) k=none->k∉ks:=by
 induction ks generalizing vs with
 |nil=>intro _ _ h;cases h
 |cons k0 ks ih=>
  intro hl h hm;cases vs with
  |nil=>cases hl
  |cons v0 vs=>
   unfold rZ at h;rw[dc,dE]at h;by_cases e:k0=k
   ·subst e;simp only[decide_true]at h;cases h
   ·simp only[e,decide_false]at h;rcases aP.mp hm with z|z
    ·exact e z.symm
    ·exact ih (by simpa using hl) h z
structure Grp(G:Bg)(F:Fr)(H0 H:Hp)(a:Addr)(ks:List Key)(dss:List aC)(bs:List Addr):Prop where
 at_:H a=some (.dK (ks.zip (bs.map V.ref)))
 n0:H0 a=none
 nB:F.B a=none
 len:ks.length=bs.length
 len':bs.length=dss.length
 nd:bs.Nodup
 kd:ks.Nodup
 each:∀(i:Nat) (b:Addr) (ds:aC),bs[i]?=some b->dss[i]?=some ds->∃xs,H b=some (.lst xs)/\H0 b=none/\F.B b=none/\nZ G H0 ds xs
section
variable{G:Bg}{F:Fr}{σ:St}{ρ:aU}{H0 H H0' H':Hp}{a:Addr}{ks:List Key}{dss:List aC}{bs:List Addr}
theorem Grp.grow(g:Grp G F H0 H a ks dss bs)(hs:oj H H')(h0:oj H0 H0')(hf:∀b o,H0' b=some o->H0 b=some o\/H b=none):Grp G F H0' H' a ks dss bs where
 at_:=hs _ _ g.at_
 n0:=by
  cases q:H0' a with
  |none=>rfl
  |some o=>
   rcases hf a o q with z|z
   ·rw[g.n0]at z;cases z
   ·rw[g.at_]at z;cases z
 nB:=g.nB
 len:=g.len
 len':=g.len'
 nd:=g.nd
 kd:=g.kd
 each:=λi b ds e1 e2=>by
  obtain⟨xs,q1,q2,q3,q4⟩:=g.each i b ds e1 e2;refine⟨xs,hs _ _ q1,?_,q3,nZ.mono h0 _ _ q4⟩;cases q:H0' b with
  |none=>rfl
  |some o=>
   rcases hf b o q with z|z
   ·rw[q2]at z;cases z
   ·rw[q1]at z;cases z
theorem oq.still(R:oq G F σ ρ H0 H)(no:∀s∈ρ,s.own=false):oq G ⟨H0,H,[]⟩ σ ρ H0 H where
 sub:=R.sub
 g0:=oj.refl _
 keep:=λb o e _=>e
 fr:=λb o e=>.inl e
 am:=λa h=>by cases h
 len:=R.len
 sl:=λi s e=>by
  have ok:=R.sl i s e;have n:=no s (cu e);cases s with
  |un=>trivial
  |im d=>exact ok
  |_=>cases n
 ap:=λi j s t b _ e _ so=>by rw[no s (cu e)]at so;cases so
theorem oq.touch(R:oq G F σ ρ H0 H)(no:∀s∈ρ,s.own=false)(hk:∀b o,H b=some o->(H0 b≠none\/F.B b≠none)->H' b=some o)(ha:∀b o,H b=some o->∃o',H' b=some o'):oq G F σ ρ H0 H' where
 sub:=λb o e=>hk b o (R.sub _ _ e) (.inl (by rw[e];exact λz=>nomatch z))
 g0:=R.g0
 keep:=λb o e n=>hk b o (R.keep b o e n) (.inr (by rw[e];exact λz=>nomatch z))
 fr:=R.fr
 am:=λb hb=>by obtain⟨o,e⟩:=R.am b hb;exact ha b o e
 len:=R.len
 sl:=λi s e=>by
  have ok:=R.sl i s e;have n:=no s (cu e);cases s with
  |un=>trivial
  |im d=>exact ok
  |_=>cases n
 ap:=λi j s t b _ e _ so=>by rw[no s (cu e)]at so;cases so
theorem Rp{bs:List Addr}(h:bs.Nodup){b:Addr}(e1:bs[i]?=some b)(e2:bs[j]?=some b):i=j:=by obtain⟨h1,q1⟩:=bP.mp e1;obtain⟨h2,q2⟩:=bP.mp e2;exact(jL h).mp (q1.trans q2.symm)
theorem Rq{ks:List Key}(h:ks.Nodup){b:Key}(e1:ks[i]?=some b)(e2:ks[j]?=some b):i=j:=by obtain⟨h1,q1⟩:=bP.mp e1;obtain⟨h2,q2⟩:=bP.mp e2;exact(jL h).mp (q1.trans q2.symm)
theorem Grp.more(g:Grp G F H0 H a ks dss bs){k:Key}{b:Addr}{v:V}(ek:ks[j]?=some k)(eb:bs[j]?=some b)(hx:H b=some (.lst xs))(rd:Rep G H0 d v):
  Grp G F H0 (upd H b (.lst (xs++[v]))) a (BR ks dss k d).1 (BR ks dss k d).2 bs:=by
 have hm:AO ks k=true:=EN.mpr (cu ek);unfold BR;rw[ai hm];have ne:a≠b:=λz=>by subst z;rw[g.at_]at hx;cases hx
 refine⟨by rw[og ne];exact g.at_,g.n0,g.nB,g.len,?_,g.nd,g.kd,λi c ds e1 e2=>?_⟩
 ·rw[jy,<- g.len',<- g.len,dG,g.len]
 ·rw[ia]at e2;cases q1:ks[i]? with
  |none=>rw[q1]at e2;cases e2
  |some k'=>
   cases q2:dss[i]? with
   |none=>rw[q1,q2]at e2;cases e2
   |some ds'=>
    rw[q1,q2]at e2;cases e2;obtain⟨ys,w1,w2,w3,w4⟩:=g.each i c ds' e1 q2;by_cases hk:k'=k
    ·subst hk;have ij:=Rq g.kd q1 ek;subst ij;rw[e1]at eb;cases eb;rw[w1]at hx;cases hx;rw[ai rfl];exact⟨_,oa,w2,w3,qe w4 (oJ rd oO)⟩
    ·rw[aj hk];have nc:c≠b:=λz=>by subst z;have ij:=Rp g.nd e1 eb;subst ij;rw[q1]at ek;cases ek;exact hk rfl
     exact⟨ys,by rw[og nc];exact w1,w2,w3,w4⟩
theorem Grp.fresh(g:Grp G F H0 H a ks dss bs){k:Key}{p:Addr}{v:V}(hk:k∉ks)(hp:H p=none)(h0:H0 p=none)(hB:F.B p=none)(rd:Rep G H0 d v):
  Grp G F H0 (upd (upd (upd H p (.lst [])) a (.dK ((ks++[k]).zip ((bs++[p]).map V.ref)))) p (.lst [v])) a (BR ks dss k d).1 (BR ks dss k d).2 (bs++[p]):=by
 have hm:¬AO ks k=true:=λz=>hk (EN.mp z);unfold BR;rw[aj hm];have ne:a≠p:=λz=>by subst z;rw[g.at_]at hp;cases hp
 have np:p∉bs:=λz=>by
  obtain⟨i,hi,e⟩:=jz z;have e1:bs[i]?=some p:=by rw[aI hi,e]
  obtain⟨ds,e2⟩:∃ds,dss[i]?=some ds:=⟨dss[i]'(by rw[<-g.len'];exact hi),aI _⟩;obtain⟨ys,w1,_⟩:=g.each i p ds e1 e2;rw[hp]at w1;cases w1
 refine⟨by rw[og ne,oa],g.n0,g.nB,by simp[g.len],by simp[g.len'],?_,?_,λi c ds e1 e2=>?_⟩
 ·rw[bO];refine⟨g.nd,by simp,λx hx y hy=>?_⟩;rw[aW]at hy;subst hy;exact λz=>np (z▸hx)
 ·rw[bO];refine⟨g.kd,by simp,λx hx y hy=>?_⟩;rw[aW]at hy;subst hy;exact λz=>hk (z▸hx)
 ·by_cases hi:i<bs.length
  ·rw[c8 hi]at e1;rw[c8 (by rw[<-g.len'];exact hi)]at e2;obtain⟨ys,w1,w2,w3,w4⟩:=g.each i c ds e1 e2;have nc:c≠p:=λz=>np (z▸cu e1);have na:c≠a:=λz=>by subst z;rw[g.at_]at w1;cases w1
   exact⟨ys,by rw[og nc,og na,og nc];exact w1,w2,w3,w4⟩
  ·have hi':i=bs.length:=by have:i<(bs++[p]).length:=(bP.mp e1).1;rw[ay,aZ]at this;omega
   subst hi';rw[c7 (az _),j9]at e1;rw[g.len',c7 (az _),j9]at e2;cases e1;cases e2;exact⟨[v],oa,h0,hB,oJ rd oO⟩
def EO(G:Bg)(fk:FE):TS:=Pa (tBM G.K "list" Dp (Lc (uE 1) (tF G fk) (Ul Ec)) (Ap (uE 2) Ec))
theorem Lg{D0:Ends}{x:D}{k:Key}{vr:V}(R:oq G F σ ρ H0 H)(no:∀s∈ρ,s.own=false)(h1:σ[1]?=some (some (.ref a)))(h2:σ[2]?=some (some vr))(rd:Rep G H0 d vr)
  (g:Grp G F H0 H a ks dss bs) (hk:fk ρ=some (x,ρ)) (ek:yW x=some k) (l1:ks.length<1000) (l2:∀ds∈dss,ds.length<1000)
  (kont:∀Hi Hj bs',oj H0 Hi->oq G F σ ρ Hi Hj->Grp G F Hi Hj a (BR ks dss k d).1 (BR ks dss k d).2 bs'->D0.nx σ Hj):EO G fk D0 σ H:=by
 refine⟨.ref a,h1,a,rfl,.inl ⟨_,.inl g.at_⟩,_,_,_,x,ρ,oq.still R no,hk,λv H1 H1' s R1 r=>?_⟩;have hs:oj H H1':=λb o e=>R1.keep b o e (by simp);have hf:∀b o,H1 b=some o->H0 b=some o\/H b=none:=R1.fr;have R2:oq G F σ ρ H1 H1':=R.grow hs s R1.sub hf;have g2:Grp G F H1 H1' a ks dss bs:=g.grow hs s hf;have rd2:=Rep.mono s _ _ rd;refine⟨bW _,λp hp=>?_⟩;have np:a≠p:=λz=>by subst z;rw[g2.at_]at hp;cases hp
 have R3:oq G F σ ρ H1 (upd H1' p (.lst [])):=R2.newOwn hp _;have g3:Grp G F H1 (upd H1' p (.lst [])) a ks dss bs:=g2.grow (oh hp _) (oj.refl _) λb o e=>.inl e;have lz:(ks.zip (bs.map V.ref)).length<sizeLine:=by rw[eC,ah,<- g.len,dG,bK];omega
 refine⟨_,k,g3.at_,yd r ek,lz,λw ev=>?_,λev=>?_⟩
 ·obtain⟨j,e1,e2⟩:=Le (by rw[ah];exact g.len) ev;rw[bt]at e2;cases eb:bs[j]? with
  |none=>rw[eb]at e2;cases e2
  |some b=>
   rw[eb]at e2;cases e2;obtain⟨ds,ed⟩:∃ds,dss[j]?=some ds:=⟨dss[j]'(by rw[<-g.len'];exact(bP.mp eb).1),aI _⟩;obtain⟨xs,w1,w2,w3,w4⟩:=g3.each j b ds eb ed;have lx:xs.length<sizeLine:=by rw[<-n8 w4,bK];have:=l2 ds (cu ed);omega
   refine⟨.inl ⟨rfl,xs,SqL.of w1⟩,vr,h2,b,xs,vr,rfl,rfl,w1,lx,?_⟩;refine kont H1 _ bs s (oq.touch R3 no (λc o e z=>?_) λc o e=>?_) (g3.more e1 eb w1 rd2)
   ·have nc:c≠b:=λy=>by
     subst y;rcases z with z|z
     ·exact z w2
     ·exact z w3
    rw[og nc];exact e
   ·by_cases y:c=b
    ·subst y;exact⟨_,oa⟩
    ·rw[og y];exact⟨o,e⟩
 ·have nk:=Lf (by rw[ah];exact g.len) ev;have h0p:H1 p=none:=R2.h0none hp;have hBp:F.B p=none:=R2.bNone hp;have ez:putK (ks.zip (bs.map V.ref)) k (.ref p)=(ks++[k]).zip ((bs++[p]).map V.ref):=by rw[J4 _ ev,aR,mR (by rw[ah];exact g.len)];rfl
  rw[ez];have q0:upd (upd H1' p (.lst [])) a (.dK ((ks++[k]).zip ((bs++[p]).map V.ref))) p=some (.lst []):=by rw[og (λz=>np z.symm),oa]
  refine⟨.inl ⟨rfl,[],SqL.of q0⟩,vr,h2,p,[],vr,rfl,rfl,q0,by rw[bK];decide,?_⟩;refine kont H1 _ (bs++[p]) s (oq.touch R3 no (λc o e z=>?_) λc o e=>?_) (g2.fresh nk hp h0p hBp rd2)
  ·have n1:c≠p:=λy=>by
    subst y;rcases z with z|z
    ·exact z h0p
    ·exact z hBp
   have n2:c≠a:=λy=>by
    subst y;rcases z with z|z
    ·exact z g2.n0
    ·exact z g2.nB
   rw[bI,og n1,og n2];exact e
  ·by_cases y:c=p
   ·subst y;exact⟨_,oa⟩
   ·rw[og y];by_cases y2:c=a
    ·subst y2;exact⟨_,oa⟩
    ·rw[og y2];exact⟨o,e⟩
end
def yX(vk:D->Option D):aC->List Key->List aC->Option (List Key×List aC)
 |[],ks,dss=>some (ks,dss)
 |d::r,ks,dss=>match vk d with
  |some x=>match yW x with
   |some k=>if (decide (ks.length<1000)&&dss.all λds=>decide (ds.length<1000))=true then yX vk r (BR ks dss k d).1 (BR ks dss k d).2 else none
   |none=>none
  |none=>none
def Gd(vk:D->Option D):FS:=λρ=>match ρ with
 |[.im (.lst L),.un,.un]=>match yX vk L [] []with
  |some (ks,dss)=>some (.rt (.dic ks (dss.map .lst)) [.im (.lst L),.un,.un])
  |none=>none
 |_=>none
variable{F:Fr}{H0:Hp}
section
variable{X:Cx}{G:Bg}
theorem zA{Hq:Hp}:∀(bs:List Addr) (dss:List aC),bs.length=dss.length->(∀(i:Nat) (b:Addr) (ds:aC),bs[i]?=some b->dss[i]?=some ds->∃xs,Hq b=some (.lst xs)/\nZ G Hq ds xs)->
  nZ G Hq (dss.map .lst) (bs.map V.ref)
 |[],[],_,_=>oO
 |[],_::_,h,_=>by cases h
 |_::_,[],h,_=>by cases h
 |b::bs,ds::dss,h,k=>by obtain⟨xs,h1,h2⟩:=k 0 b ds rfl rfl;exact oJ (tX h1 h2) (zA bs dss (by simpa using h) λi b ds e1 e2=>k (i+1) b ds e1 e2)
theorem Oj{σ:St}{H:Hp}{dss:List aC}{bs:List Addr}{L:aC}{s2:Sl}(R:oq G F σ [.im (.lst L),.un,s2] H0 H)(g:Grp G F H0 H a ks dss bs)(o:Obj):
  ∃Hq,oj H0 Hq/\oq G F σ [.im (.lst L),.un,.un] Hq (upd H a (.frz o (.dK (ks.zip (bs.map V.ref)))))/\Rep G Hq (.dic ks (dss.map .lst)) (.ref a):=by
 have mb:∀{b:Addr},b∈bs->∃xs,H b=some (.lst xs)/\H0 b=none/\F.B b=none:=λ{b} hb=>by obtain⟨i,hi,e⟩:=jz hb;obtain⟨xs,w1,w2,w3,_⟩:=g.each i b (dss[i]'(by rw[<-g.len'];exact hi)) (by rw[aI hi,e]) (aI _);exact⟨xs,w1,w2,w3⟩
 have na:a∉bs:=λz=>by obtain⟨xs,w1,_⟩:=mb z;rw[g.at_]at w1;cases w1
 have s0:oj H0 (λc=>if c=a then some (.frz o (.dK (ks.zip (bs.map V.ref))))else if c∈bs then H c else H0 c):=λc u e=>by
  have n1:c≠a:=λz=>by subst z;rw[g.n0]at e;cases e
  have n2:c∉bs:=λz=>by obtain⟨_,_,w2,_⟩:=mb z;rw[w2]at e;cases e
  show (if c=a then _ else if c∈bs then H c else H0 c)=_;rw[aj n1,aj n2];exact e
 refine⟨_,s0,?_,?_⟩
 ·exact {
   sub:=λc u e=>by
    have e':(if c=a then some (HO.frz o (.dK (ks.zip (bs.map V.ref))))else if c∈bs then H c else H0 c)=some u:=e;by_cases n1:c=a
    ·subst n1;rw[ai rfl]at e';rw[oa];exact e'
    ·rw[aj n1]at e';rw[og n1];by_cases n2:c∈bs
     ·rw[ai n2]at e';exact e'
     ·rw[aj n2]at e';exact R.sub _ _ e'
   g0:=R.g0.trans s0
   keep:=λc u e n=>by rw[og (λz=>by subst z;rw[g.nB]at e;cases e)];exact R.keep c u e n
   fr:=λc u e=>by
    have e':(if c=a then some (HO.frz o (.dK (ks.zip (bs.map V.ref))))else if c∈bs then H c else H0 c)=some u:=e;by_cases n1:c=a
    ·subst n1;exact .inr g.nB
    ·rw[aj n1]at e';by_cases n2:c∈bs
     ·obtain⟨_,_,_,w3⟩:=mb n2;exact .inr w3
     ·rw[aj n2]at e';exact R.fr _ _ e'
   am:=λc hc=>by
    by_cases n1:c=a
    ·subst n1;exact⟨_,oa⟩
    ·rw[og n1];exact R.am c hc
   len:=R.len
   sl:=λi s e=>by
    match i,e with
    |0,e=>cases e;obtain⟨v,w1,w2⟩:=R.sl 0 _ rfl;exact⟨v,w1,Rep.mono s0 _ _ w2⟩
    |1,e=>cases e;trivial
    |2,e=>cases e;trivial
    |i+3,e=>cases e
   ap:=λi j s t b _ e _ so=>by
    match i,e with
    |0,e=>cases e;cases so
    |1,e=>cases e;cases so
    |2,e=>cases e;cases so
    |i+3,e=>cases e }
 ·unfold Rep;refine⟨a,o,bs.map V.ref,rfl,by show (if a=a then _ else _)=_;rw[ai rfl],by rw[ah];exact g.len,zA bs dss g.len' λi b ds e1 e2=>?_⟩;obtain⟨xs,w1,w2,w3,w4⟩:=g.each i b ds e1 e2;have hb:=cu e1;refine⟨xs,?_,nZ.mono s0 _ _ w4⟩;show (if b=a then _ else if b∈bs then H b else H0 b)=_;have nb:b≠a:=λz=>na (by rw[<-z];exact hb);rw[aj nb,ai hb];exact w1
def Lh{L:aC}{s2:Sl}(h:s2.own=false):∀s∈[Sl.im (.lst L),.un,s2],s.own=false:=λs hs=>by
 simp only[aP,bu,or_false]at hs;rcases hs with rfl|rfl|rfl
 ·rfl
 ·rfl
 ·exact h
theorem Jf{st1 st2 st3:Stmt}{vk:D->Option D}(h1:PS X st1 (yI FU (uF 1)))(h2:PS X st2 (P7 (tFI G (iL (cV 0))) (uF 2) (EO G (c1 vk (cV 2)))))
  (h3:PS X st3 (T7 (λσ H Q=>uE 1 σ H λx H1=>Q x H1\/∃a kvs,H1 a=some (.dK kvs)/\∀o,Q x (upd H1 a (.frz o (.dK kvs)))))):PSs X [st1,st2,st3] (tFS G (Gd vk)):=
 PSs.weak (Al h1 (Al h2 (Dg h3))) λE σ H hh=>by
  obtain⟨F,ρ,H0,o,R,e,k,k2⟩:=hh;unfold Gd at e;split at e
  ·rename_i L;cases eg:yX vk L [] []with
   |none=>simp only[eg]at e;cases e
   |some p=>
    obtain⟨KS,DSS⟩:=p;simp only[eg]at e;cases e;intro p hp;have R1:oq G F (σ.set 1 (some (.ref p))) [.im (.lst L),.un,.un] H0 (upd H p (.dK [])):=(R.newOwn hp (.dK [])).set (i:=1) (v:=.ref p) (s:=.un) trivial (λz=>by cases z);have hlen:σ.length=3:=R.len;have g1:Grp G F H0 (upd H p (.dK [])) p [] [] []:=⟨oa,R.h0none hp,R.bNone hp,rfl,rfl,fw,fw,λi b ds e1=>by cases e1⟩;have v1:(σ.set 1 (some (V.ref p)))[1]?=some (some (.ref p)):=by rw[hX (by rw[hlen];decide)]
    refine⟨_,_,_,L,_,oq.still R1 (Lh rfl),rfl,λJ Ha Hb s Ra wk=>?_⟩;have hs:oj (upd H p (.dK [])) Hb:=λb o e=>Ra.keep b o e (by simp);have R2:=R1.grow hs s Ra.sub Ra.fr;have g2:=g1.grow hs s Ra.fr;refine⟨λi m σ' H'=>m=L.length - i/\i<=L.length/\∃Hi ks dss bs s2,oj Ha Hi/\Sl.own s2=false/\oq G F σ' [.im (.lst L),.un,s2] Hi H'/\σ'[1]?=some (some (.ref p))/\Grp G F Hi H' p ks dss bs/\yX vk (L.drop i) ks dss=some (KS,DSS),
     ⟨_,rfl,bW _,Ha,[],[],[],.un,oj.refl _,rfl,R2,v1,g2,eg⟩,?_⟩
    rintro i m σi Hi' ⟨rfl,hi,Hi,ks,dss,bs,s2,si,n2,Ri,vi,gi,ei⟩;by_cases hlt:i<L.length
    ·have ed:L.drop i=L[i]::L.drop (i+1):=hE hlt;rw[ed]at ei;unfold yX at ei;cases ev:vk L[i]with
     |none=>simp only[ev]at ei;cases ei
     |some x=>
      simp only[ev]at ei;cases ek:yW x with
      |none=>simp only[ek]at ei;cases ei
      |some kk=>
       simp only[ek]at ei;split at ei
       ·rename_i hb;simp only[bo,bR,bB]at hb;obtain⟨go,yl⟩:=(wk i Hi Hi' si Ri.sub).1 L[i] (aI hlt);refine .inr ⟨go,λσ' H'=>∃Hi ks dss bs s2,oj Ha Hi/\Sl.own s2=false/\oq G F σ' [.im (.lst L),.un,s2] Hi H'/\σ'[1]?=some (some (.ref p))/\Grp G F Hi H' p ks dss bs/\yX vk (L.drop (i+1)) ks dss=some (KS,DSS),
         λσ' H' q=>⟨L.length - (i+1),by omega,rfl,hlt,q⟩,λxv H' y=>?_⟩
        obtain⟨H2,t1,t2,t3,t4,t5⟩:=yl xv H' y;have hl3:σi.length=3:=Ri.len;have R3:oq G F (σi.set 2 (some xv)) [.im (.lst L),.un,.im L[i]] H2 H':=(Ri.grow t3 t1 t2 t4).setIm 2 t5;have w1:(σi.set 2 (some xv))[1]?=some (some (.ref p)):=by rw[jt (by decide)];exact vi
        have w2:(σi.set 2 (some xv))[2]?=some (some xv):=by rw[hX (by rw[hl3];decide)]
        refine Lg R3 (Lh rfl) w1 w2 t5 (gi.grow t3 t1 t4) (by show c1 vk (cV 2) _=_;unfold c1 cV;simp only[lG,List.getElem?_cons_zero,ev]) ek hb.1 (λds hd=>hb.2 ds hd) λHc Hd bs' sc Rc gc=>?_;exact⟨Hc,_,_,bs',_,si.trans (t1.trans sc),rfl,Rc,w1,gc,ei⟩
       ·cases ei
    ·have hi':i=L.length:=by omega
     refine .inl ⟨(wk i Hi Hi' si Ri.sub).2 hi',?_⟩;subst hi';rw[List.drop_length]at ei;cases ei;refine⟨.ref p,vi,.inr ⟨p,_,gi.at_,λo=>?_⟩⟩;obtain⟨Hq,q1,q2,q3⟩:=Oj Ri gi o;exact k _ _ Hq _ (s.trans (si.trans q1)) q2 q3
  ·cases e
end
section
variable{X:Cx}{G:Bg}
theorem Ol:∀y b,pR "int" y=some b->cA X.K (y.val G) (.type "int")=some b:=λy b h=>by
 cases y with
 |c k=>cases h
 |b n=>
  unfold pR at h;simp only at h
  iterate 7 (split at h;· rename_i e;subst e;cases h;first|rfl|kernel_rfl)
  cases h
theorem Li:∀y b,pR "bool" y=some b->cA X.K (y.val G) (.type "bool")=some b:=λy b h=>by
 cases y with
 |c k=>cases h
 |b n=>
  unfold pR at h;simp only at h
  iterate 7 (split at h;· rename_i e;subst e;cases h;first|rfl|kernel_rfl)
  cases h
theorem kit_tuple:∀y b,pR "tuple" y=some b->cA X.K (y.val G) (.type "tuple")=some b:=λy b h=>by
 cases y with
 |c k=>cases h
 |b n=>
  unfold pR at h;simp only at h
  iterate 7 (split at h;· rename_i e;subst e;cases h;first|rfl|kernel_rfl)
  cases h
end
theorem AY:entryFor table "dict_itemiterator.__iter__" = some cW.«dict_keyiterator.__iter__»:=by
 refine entryFor_alias (id':="dict_keyiterator.__iter__") ?_ rfl ?_ ?_
 ·kernel_rfl
 ·decide +kernel
 ·kernel_rfl
theorem Om{vs:List (Key×aa)}(r:KV kvs vs){k:Key}{x:aa}(e:vs[i]?=some (k,x)):∃z,kvs[i]?=some (k,z)/\RelV z x:=by
 induction r generalizing i with
 |nil=>cases e
 |@cons p q l l' h _ ih=>
  cases i with
  |zero=>obtain⟨pk,pv⟩:=p;cases e;exact⟨pv,by rw[show pk=k from h.1];rfl,h.2⟩
  |succ i=>exact ih e
def Iti(a:Addr)(o:Obj)(kvs:List (Key×V)):It:=
 ⟨λi H=>i<kvs.length/\H a=some (.frz o (.dK kvs)),λi H v H'=>∃p k z,H p=none/\v=.ref p/\H'=upd H p (.tup [kV k,z])/\kvs[i]?=some (k,z),λi H=>kvs.length<=i/\H a=some (.frz o (.dK kvs))⟩
def iTn(it a:Addr)(o:Obj)(n:Nat)(i:Nat)(h:Heap):Prop:=∃es ep ok ov,o.data=.dict es ep/\IsItemIter h it a i n ep ok ov
theorem Ge{P:aA}{w:av}{K:ao}{x1}(a it:Addr)(o:Obj)(kvs:List (Key×V)):Turn P w K (.Tuple elts x1 pos) (Iti a o kvs) [it] it (iTn it a o kvs.length) where
 mem:=by simp
 obj:=λi h st b hb=>by
  have e:b=it:=by simpa using hb
  subst e;obtain⟨es,ep,ok,ov,hd,q⟩:=st;exact⟨_,q,λv z=>nomatch z⟩
 keep:=λi h h' st k=>by obtain⟨es,ep,ok,ov,hd,q⟩:=st;exact⟨es,ep,ok,ov,hd,k it (by simp) _ q⟩
 item:=by
  intro X hP hw hK hc i pins s σ H E I hf st hg;subst hP hw hK;obtain⟨hi,he⟩:=hg;obtain⟨es,ep,ok,ov,hd,ki⟩:=st;obtain⟨_,_,vs,r,da⟩:=ua I he hd;have hl:kvs.length=vs.length:=r.length;obtain⟨⟨k,x⟩,hx⟩:∃q,vs[i]?=some q:=⟨vs[i]'(by rw[<-hl];exact hi),aI _⟩;obtain⟨z,hz,rz⟩:=Om r hx;rw[hl]at ki;refine wpAny_pyNext_items_item ki da hx λkey h' hk q1 q2 q3 kk=>?_;refine⟨_,rfl,wpAny_letOwnedTupleGo_items (s:={ s with heap:=h' }) q1 λh2 q4 sb=>?_⟩;have lt:s.heap.objs.size≠it:=λw=>aq (aM ki) (by rw[w];exact cG _);have hp:h2.get? s.heap.objs.size=some { cls:=.type "tuple", data:=.seq #[key,x] }:=sb.extBut _ _ lt q2;have ok':pD X.prog X.w (upd H s.heap.objs.size (.tup [kV k,z])) h2 s.heap.objs.size (.tup [kV k,z]):=⟨by rw[bK];show 2<=16777216;decide,[key,x],.cons (Hy hk) (.cons rz .nil),_,hp,rfl,_,rfl⟩;have I1:=Inv.turnedLaid (h':=h2) (t':=s.toks) (T:=s.heap.objs.size) (xs:=[kV k,z]) (ch:=[it]) I hf
   (λb o hb e=>sb.extBut _ _ (λw=>hb (by simp[w])) (kk b o (λw=>hb (by simp[w])) e)) (az _) ok'
  refine⟨.ref s.heap.objs.size,_,I1,rfl,⟨_,k,z,I.hok.fresh (az _),rfl,rfl,hz⟩,⟨es,ep,key,x,hd,by rw[hl];exact q4⟩,λb hb=>?_⟩;rw[og (λw=>?_)]
  ·exact(hf b hb).1
  ·have e:b=it:=by simpa using hb
   exact lt (w.symm.trans e)
 done:=by intro X hP hw hK hc i pins s σ H E I hf st hg;subst hP hw hK;obtain⟨hi,he⟩:=hg;obtain⟨es,ep,ok,ov,hd,ki⟩:=st;obtain⟨f0,f1,f2,f3,f4,f5⟩:=hf it (by simp);obtain⟨_,_,vs,r,da⟩:=ua I he hd;have hl:kvs.length=vs.length:=r.length;rw[hl]at ki;exact wpAny_pyNext_items_end (I.ok.hd hc) ki da (fQ (by rw[<-hl];exact hi)) λh' eb=>⟨rfl,I.turned (t':=s.toks) (λb o hb e=>eb b o hb e) f0 f1 f3 f4 f5⟩
 self:=λA i s Q E st h=>by obtain⟨es,ep,ok,ov,hd,ki⟩:=st;have hT:s.TypeIs (.ref it) "dict_itemiterator" := ⟨_,ki,rfl⟩;refine wpAny_pyIter_slot hT lg (dB lg hT AY ?_ (F.args_dict_itemiterator_iter_1 _));show wpAny _ _ (ret (.ref it)) _ _ s;exact au ⟨_,rfl,"dict_itemiterator", _,hT,F.slot_dict_itemiterator_next.lookup,h⟩
section
variable{X:Cx}{G:Bg}{elts:List Expr}{x1:Nat}{tpos:Pos}
def Lj(tl:TE):TI:=λσ H R=>tl σ H λx H1=>∃a o kvs,x=.ref a/\H1 a=some (.frz o (.dK kvs))/\R (Iti a o kvs) H1
theorem Lk{o:Expr}(ho:PE X o tl)(hbase:attributeBase o "items" X.env (eval o X.env)=eval o X.env:=by rfl)(hline:(apos.endLine==cpos.line)=true:=by rfl):
  PI X (.Tuple elts x1 tpos) (.Call (.Attribute o "items" apos) [] [] cpos) (Lj tl):=by
 intro pins s σ H R I h;refine wpAny_Call_method0_late hbase hline (thn (ho pins s σ H _ I h) λv s1 ⟨x,H1,I1,r1,a,ob,kvs,e,he,q⟩=>?_);subst e;obtain rfl:v=Value.ref a:=r1;obtain⟨t1,t2,t3⟩:=FV I1 (.inl ⟨kvs,.inr ⟨ob,he⟩⟩);refine⟨"dict", "dict.items", jK,mD,F.type_dict_items,t1,t2,hZ rfl (PySem.evalArgs_none ?_)⟩;obtain⟨q0,_,y,vs,r,ob',es,ep,e1,e2,e3,e4⟩:=(show pD X.prog X.w H1 s1.heap a (.frz ob (.dK kvs)) from I1.hok a _ he);rw[q0]at e1;cases e1;have hl:kvs.length=vs.length:=r.length;have da:s1.heap.DictAt (oI X.prog X.w) a vs ep:=⟨ob,es,q0,e2,e3,e4⟩;refine iM mD t1 F.entry_dict_items (F.args_dict_items_1 _) (meets_dict_items (oI X.prog X.w) a y) ⟨⟨vs,da.dictOf⟩,?_⟩;have I2:Inv X pins σ H1 { s1 with heap:=s1.heap.push { cls:=.type "dict_items", data:=.fields #[.ref a] } }:=I1.kept (t':=s1.toks) λb o e=>aH _ e;refine wpAny_pyIter_items (knd:=oI X.prog X.w) (kvs:=vs) (ep:=ep) ⟨_,bq _ rfl,rfl,rfl⟩ (da.push _) ?_;refine⟨_,[_],_,_,H1,rfl,I2.kept (t':=s1.toks) λb o e=>aH _ e,Ge a _ ob kvs,⟨es,ep,.none,.none,e3,by rw[hl];exact bq _ rfl⟩,λb hb=>?_,q⟩;have e:=aW.mp hb;subst e;exact I2.fpOk (az _) (I2.hok.fresh (az _))
def iIt(f:FE):FA:=λρ=>match f ρ with
 |some (.dic ks ds,ρ1)=>some (uN (ks.map Gb) ds,ρ1)
 |_=>none
theorem Jg(h:PI X tg e (Lj (tF G f))):PI X tg e (tFI G (iIt f)):=PI.weak h λσ H R hh=>by
 obtain⟨F,ρ,H0,ds,ρ',R,e,k⟩:=hh;unfold iIt at e;split at e
 ·rename_i ks ds' ρ1 e1;cases e;refine⟨F,ρ,H0,_,_,R,e1,λv H1 H1' s R' r=>?_⟩;unfold Rep at r;obtain⟨a,o,xs,rfl,r1,r2,r3⟩:=r;have hz:(ks.zip xs).length=ks.length:=by rw[eC,<- r2,dG]
  have lx:xs.length=ds'.length:=(n8 r3).symm;refine⟨a,o,_,rfl,R'.sub _ _ r1,k _ _ _ s R' λi H2 H2' t t'=>⟨λd ed=>?_,λhl=>?_⟩⟩
  ·unfold uN at ed;rw[ia,bt]at ed;cases ek:ks[i]? with
   |none=>rw[ek]at ed;cases ed
   |some j=>
    cases ey:ds'[i]? with
    |none=>rw[ek,ey]at ed;cases ed
    |some dy=>
     rw[ek,ey]at ed;cases ed;have hi:i<ks.length:=(bP.mp ek).1;obtain⟨vy,y1,y2⟩:=pS r3 ey;refine⟨⟨by rw[hz];exact hi,t' _ _ (t _ _ r1)⟩,λx H3 y=>?_⟩;obtain⟨p,k',z,hp,rfl,rfl,hk'⟩:=y;rw[ly]at hk';have a1:=hk'.1;have a2:=hk'.2;rw[ek]at a1;rw[y1]at a2;cases a1;cases a2;have p0:H2 p=none:=by
      cases q:H2 p with
      |none=>rfl
      |some o=>have:=t' _ _ q;rw[hp]at this;cases this
     refine⟨upd H2 p (.tup [kV k',z]),oh p0 _,λb o e=>?_,oh hp _,λb o e=>?_,sS (SqT.of oa) ?_⟩
     ·by_cases hb:b=p
      ·subst hb;rw[oa]at e ⊢;exact e
      ·rw[og hb]at e ⊢;exact t' _ _ e
     ·by_cases hb:b=p
      ·subst hb;exact .inr hp
      ·rw[og hb]at e;exact .inl e
     ·have m:=t.trans (oh p0 (.tup [kV k',z]));exact oJ (Hz _) (oJ (Rep.mono m _ _ y2) oO)
  ·refine⟨by rw[hz,hl,AW,ah,<- lx,<- r2,dG];exact az _,t' _ _ (t _ _ r1)⟩
 ·cases e
end
def hold(F:Fr)(p:Addr)(o:HO):Fr:=⟨F.B0,λb=>if b=p then some o else F.B b,F.A⟩
theorem Ag{p:Addr}{o:HO}:(hold F p o).B p=some o:=by show (if p=p then _ else _)=_;rw[ai rfl]
theorem wQ{p b:Addr}{o:HO}(h:b≠p):(hold F p o).B b=F.B b:=by show (if b=p then _ else _)=_;rw[aj h]
theorem xp.frame{G:Bg}{F':Fr}{H:Hp}{o:Option V}{s:Sl}(h:xp G F H0 H o s)(hA:F'.A=F.A)(hB:∀a,o=some (.ref a)->s.own=true->F.B a=none->F'.B a=none):xp G F' H0 H o s:=by
 cases s with
 |un=>trivial
 |im d=>exact h
 |ls ds=>obtain⟨a,xs,h1,h2,h3,h4,h5⟩:=h;exact⟨a,xs,h1,h2,h3,hB a h1 rfl h4,h5⟩
 |pm ds=>obtain⟨a,xs,h1,h2,h3,h4,h5⟩:=h;exact⟨a,xs,h1,h2,h3,by rw[hA];exact h4,h5⟩
 |dk ks ds=>obtain⟨a,xs,h1,h2,h3,h4,h5,h6⟩:=h;exact⟨a,xs,h1,h2,h3,hB a h1 rfl h4,h5,h6⟩
 |ob c ns ds=>obtain⟨a,dx,xs,h1,h2,h3,h4,h5,h6⟩:=h;exact⟨a,dx,xs,h1,h2,h3,by rw[hA];exact h4,h5,h6⟩
section
variable{X:Cx}{G:Bg}{F:Fr}{σ:St}{ρ:aU}{H0 H:Hp}{p:Addr}{o:HO}
theorem oq.hold(R:oq G F σ ρ H0 H)(hp:H p=none)(o:HO):oq G (L4.hold F p o) σ ρ H0 (upd H p o) where
 sub:=(R.newOwn hp o).sub
 g0:=R.g0
 keep:=λb u e n=>by
  by_cases hb:b=p
  ·subst hb;rw[Ag]at e;rw[oa];exact e
  ·rw[wQ hb]at e;exact(R.newOwn hp o).keep b u e n
 fr:=λb u e=>by
  have hb:b≠p:=λz=>by subst z;rw[R.h0none hp]at e;cases e
  rw[wQ hb];exact R.fr b u e
 am:=(R.newOwn hp o).am
 len:=R.len
 sl:=λi s e=>by refine xp.frame ((R.newOwn hp o).sl i s e) rfl λa h1 so hB=>?_;obtain⟨a',u,q1,q2,_⟩:=(R.sl i s e).at so;rw[h1]at q1;cases q1;rw[wQ (λz=>by subst z;rw[hp]at q2;cases q2)];exact hB
 ap:=R.ap
theorem oq.unhold(R:oq G (L4.hold F p o) σ ρ H0 H)(hB:F.B p=none):oq G F σ ρ H0 H where
 sub:=R.sub
 g0:=R.g0
 keep:=λb u e n=>R.keep b u (by rw[wQ (λz=>by subst z;rw[hB]at e;cases e)];exact e) n
 fr:=λb u e=>by
  rcases R.fr b u e with z|z
  ·exact .inl z
  ·by_cases hb:b=p
   ·subst hb;exact .inr hB
   ·rw[wQ hb]at z;exact .inr z
 am:=R.am
 len:=R.len
 sl:=λi s e=>xp.frame (R.sl i s e) rfl λa h1 so q=>by
  by_cases hb:a=p
  ·subst hb;exact hB
  ·rw[wQ hb]at q;exact q
 ap:=R.ap
theorem oq.layHeld(R:oq G (L4.hold F p o) σ ρ H0 H)(hB:F.B p=none)(h0:H0 p=none)(nA:p∉F.A)(u:HO):oq G F σ ρ (upd H0 p u) (upd H p u) where
 sub:=λb v e=>by
  by_cases hb:b=p
  ·subst hb;rw[oa]at e ⊢;exact e
  ·rw[og hb]at e ⊢;exact R.sub _ _ e
 g0:=(oq.unhold R hB).g0.trans (oh h0 u)
 keep:=λb v e n=>by rw[og (λz=>by subst z;rw[hB]at e;cases e)];exact(oq.unhold R hB).keep b v e n
 fr:=λb v e=>by
  by_cases hb:b=p
  ·subst hb;exact .inr hB
  ·rw[og hb]at e;exact(oq.unhold R hB).fr _ _ e
 am:=λb hb=>by
  have hb':b≠p:=λz=>by subst z;exact nA hb
  rw[og hb'];exact R.am b hb
 len:=R.len
 sl:=λj t e=>by
  have ne:∀a,(σ[j]?).join=some (.ref a)->t.own=true->a≠p:=λa z to y=>by
   subst y;obtain⟨a',v,q1,_,_,q4⟩:=(R.sl j t e).at to;rw[z]at q1;cases q1;rcases q4 with q|q
   ·rw[Ag]at q;cases q
   ·exact nA q
  refine((oq.unhold R hB).sl j t e).grow (oh h0 u) (λa v z to q=>?_) λa v z to q q0=>?_
  ·rw[og (ne a z to)];exact q
  ·rw[og (ne a z to)];exact q0
 ap:=R.ap
def se:List (Str×FE)->aU->Option (aC×aU)
 |[],ρ=>some ([],ρ)
 |(_,f)::r,ρ=>match f ρ with
  |some (d,ρ1)=>match se r ρ1 with
   |some (ds,ρ2)=>some (d::ds,ρ2)
   |none=>none
  |none=>none
def Ll(G:Bg)(kfs:List (Str×FE)):List (TE×TE):=kfs.map λq=>(tC (.str q.1),tF G q.2)
theorem ER:∀(kfs:List (Str×FE)) (ρ ρ':aU) (ds:aC) (H0 H:Hp) (Q:List (V×V)->Hp->Prop),oq G F σ ρ H0 H->se kfs ρ=some (ds,ρ')->
  (∀vs H1 H1',oj H0 H1->oq G F σ ρ' H1 H1'->nZ G H1 ds vs->Q (cR (λk v=>(V.str k,v)) (kfs.map (·.1)) vs) H1')->Ds (Ll G kfs) σ H Q
 |[],ρ,ρ',ds,H0,H,Q,R,e,k=>by cases e;exact k [] H0 H (oj.refl _) R oO
 |(x,f)::r,ρ,ρ',ds,H0,H,Q,R,e,k=>by
  unfold se at e;cases e1:f ρ with
  |none=>simp only[e1]at e;cases e
  |some q=>
   obtain⟨d,ρ1⟩:=q;simp only[e1]at e;cases e2:se r ρ1 with
   |none=>simp only[e2]at e;cases e
   |some q=>obtain⟨ds',ρ2⟩:=q;simp only[e2]at e;cases e;refine⟨F,ρ,H0,d,ρ1,R,e1,λv H1 H1' s R1 rv=>?_⟩;exact ER r ρ1 _ ds' H1 H1' _ R1 e2 λvs H2 H2' s2 R2 rs=>k (v::vs) H2 H2' (s.trans s2) R2 (oJ (Rep.mono s2 _ _ rv) rs)
theorem ES:∀(more acc:List (Key×V)),((acc++more).map (·.1)).Nodup->vZ acc more=acc++more
 |[],acc,_=>by rw[bz];rfl
 |q::r,acc,h=>by
  have nq:(acc.any λkv=>decide (kv.1=q.1))=false:=by rw[ip];intro z;obtain⟨y,hy,ey⟩:=fq.mp z;rw[aR,bO]at h;exact h.2.2 y.1 (cg hy) q.1 (cg aS) (bA ey)
  have e:putK acc q.1 q.2=acc++[q]:=by unfold putK;rw[nq];rfl
  show vZ (putK acc q.1 q.2) r=_;rw[e,ES r (acc++[q]) (by simpa using h)];simp
theorem Jh{H:Hp}{p:Addr}{x y:HO}:upd (upd H p x) p y=upd H p y:=by
 funext b
 by_cases hb:b=p
 ·subst hb;rw[oa,oa]
 ·rw[og hb,og hb,og hb]
def yg(kfs:List (Str×FE)):FE:=λρ=>match se kfs ρ with
 |some (ds,ρ')=>some (.dic (kfs.map λq=>Sum.inr q.1) ds,ρ')
 |none=>none
theorem AZ:∀{kfs:List (Str×FE)} {ρ ρ':aU} {ds:aC},se kfs ρ=some (ds,ρ')->ds.length=kfs.length
 |[],ρ,ρ',ds,e=>by cases e;rfl
 |(x,f)::r,ρ,ρ',ds,e=>by
  unfold se at e;cases e1:f ρ with
  |none=>simp only[e1]at e;cases e
  |some q=>
   obtain⟨d,ρ1⟩:=q;simp only[e1]at e;cases e2:se r ρ1 with
   |none=>simp only[e2]at e;cases e
   |some q=>obtain⟨ds',ρ2⟩:=q;simp only[e2]at e;cases e;rw[aF,aF,AZ e2]
theorem ET:∀(ks:aG) (vs:bp),cR (λk v=>(V.str k,v)) ks vs=((ks.map λk=>(Sum.inr k:Key)).zip vs).map λkv=>(kV kv.1,kv.2)
 |[],vs=>rfl
 |k::ks,[]=>rfl
 |k::ks,v::vs=>by show (V.str k,v)::_=_;rw[ET ks vs];rfl
theorem HA{kfs:List (Str×FE)}(h:PE X e (J8 (Ll G kfs)))(nd:(kfs.map λq=>(Sum.inr q.1:Key)).Nodup)(h15:kfs.length<=15):PE X e (tF G (yg kfs)):=PE.weak (PE.ghost h) λσ H Q hh=>by
 obtain⟨F,ρ,H0,d,ρ',R,e,k⟩:=hh;unfold yg at e;cases e1:se kfs ρ with
 |none=>simp only[e1]at e;cases e
 |some q=>
  obtain⟨ds,ρ1⟩:=q;simp only[e1]at e;cases e;intro p hp;have hB:F.B p=none:=R.bNone hp;have nA:p∉F.A:=λz=>by obtain⟨u,q⟩:=R.am p z;rw[hp]at q;cases q
  refine ER kfs ρ _ ds H0 _ _ (oq.hold R hp (.dK [])) e1 λvs H1 H1' s R1 rs=>?_;have q0:H1' p=some (.dK []):=R1.keep p _ Ag nA;have h0:H1 p=none:=by
   cases q:H1 p with
   |none=>rfl
   |some u=>
    rcases R1.fr p u q with z|z
    ·have:=R.g0 _ _ z;rw[R.h0none hp]at this;cases this
    ·rw[Ag]at z;cases z
  have lv:(kfs.map λq=>(Sum.inr q.1:Key)).length=vs.length:=by rw[ah,<- AZ e1,n8 rs]
  have kn:(((kfs.map λq=>(Sum.inr q.1:Key)).zip vs).map (·.1))=kfs.map λq=>(Sum.inr q.1:Key):=List.map_fst_zip (by rw[lv];exact az _)
  refine⟨q0,(kfs.map λq=>(Sum.inr q.1:Key)).zip vs,?_,?_,.inr ⟨p,_,oa,λob=>?_⟩⟩
  ·rw[ET,aK];rfl
  ·rw[eC,<- lv,dG,ah];exact h15
  ·rw[Jh,ES _ [] (by rw[bI,kn];exact nd),bI];refine k _ _ _ (s.trans (oh h0 _)) (oq.layHeld R1 hB h0 nA _) ?_;unfold Rep;exact⟨p,ob,vs,rfl,oa,lv,nZ.mono (oh h0 _) _ _ rs⟩
end
def spL(G:Bg)(g:aC->aC->Option (D×aC)):Sp:=λvs H Q E=>∃(a:Addr) (us:bp),vs=us++[.ref a]/\spM G g (.ref a::us) H Q E
def stL(n:Nat)(es ds:aC):aU:=ds.map Sl.im++.pm es::f9 (n - ds.length - 1) .un
def Ji(i:Nat)(ρ:aU):Option aC:=match ρ[i]? with
 |some (.pm es)=>some es
 |_=>none
def fnL(np n:Nat)(f:FS):aC->aC->Option (D×aC):=λes ds=>if ds.length=np then match f (stL n es ds)with
 |some (.rt d ρ)=>match Ji np ρ with
  |some es'=>some (d,es')
  |none=>none
 |some (.rn xs ρ)=>match Ji np ρ with
  |some es'=>some (.lst xs,es')
  |none=>none
 |_=>none
 else none
theorem Cs{ρ:aU}{es:aC}(h:Ji i ρ=some es):ρ[i]?=some (.pm es):=by
 unfold Ji at h;split at h
 ·rename_i e;cases h;exact e
 ·cases h
theorem EU{n:Nat}{f:FS}{es:aC}(h:fnL np n f es ds=some (d,es')):ds.length=np/\((∃ρ,f (stL n es ds)=some (.rt d ρ)/\ρ[np]?=some (.pm es'))\/∃xs ρ,f (stL n es ds)=some (.rn xs ρ)/\ρ[np]?=some (.pm es')/\d=.lst xs):=by
 unfold fnL at h;split at h
 ·rename_i hl;refine⟨hl,?_⟩;split at h
  ·rename_i x ρ e;cases e2:Ji np ρ with
   |none=>simp only[e2]at h;cases h
   |some q=>simp only[e2]at h;cases h;exact .inl ⟨ρ,e,Cs e2⟩
  ·rename_i x ρ e;cases e2:Ji np ρ with
   |none=>simp only[e2]at h;cases h
   |some q=>simp only[e2]at h;cases h;exact .inr ⟨x,ρ,e,Cs e2,rfl⟩
  ·cases h
 ·cases h
theorem DF{n:Nat}{es:aC}{t:Sl}(h:(stL n es ds)[i]?=some t):(i=ds.length/\t=.pm es)\/t=.un\/∃d,ds[i]?=some d/\t=.im d:=by
 unfold stL at h;by_cases hi:i<ds.length
 ·rw[c8 (by simpa using hi),bt,aI hi]at h;cases h;exact .inr (.inr ⟨_,aI hi,rfl⟩)
 ·rw[c7 (by simpa using hi),ah]at h;cases q:i - ds.length with
  |zero=>rw[q]at h;cases h;exact .inl ⟨by omega,rfl⟩
  |succ m=>
   rw[q,lG,fO]at h;split at h
   ·cases h;exact .inr (.inl rfl)
   ·cases h
variable{N:aG}{E:XK}{es:List Expr}
section
variable{X:Cx}{G:Bg}
theorem On{us:bp}{es:aC}{H:Hp}(ha:H a=some (.lst xs))(h0:H0 a=none)(s:oj H0 H)(r1:nZ G H0 es xs)(r:nZ G H0 ds us)(hN:us.length+1<=N.length):oq G ⟨H0,H,[a]⟩ (L2.start N (us++[.ref a])) (stL N.length es ds) H0 H:={
  sub:=s
  g0:=oj.refl _
  keep:=λb o e _=>e
  fr:=λb o e=>.inl e
  am:=λb hb=>by rw[aW]at hb;subst hb;exact⟨_,ha⟩
  len:=by unfold L2.start stL;simp only[ay,ah,cf,aF,cQ];have:=n8 r;omega
  sl:=λi t e=>by
   rcases DF e with ⟨rfl,rfl⟩|rfl|⟨d,e1,rfl⟩
   ·exact⟨a,xs,r9 (by rw[n8 r,c7 (az _),j9];rfl),ha,h0,aW.mpr rfl,r1⟩
   ·trivial
   ·obtain⟨v,e2,e3⟩:=pS r e1;exact⟨v,r9 (by rw[c8 (bP.mp e2).1];exact e2),e3⟩
  ap:=λi j t u b hij ei ej ht hu=>by
   rcases DF ei with ⟨rfl,rfl⟩|rfl|⟨_,_,rfl⟩
   ·rcases DF ej with ⟨rfl,rfl⟩|rfl|⟨_,_,rfl⟩
    ·exact aq rfl hij
    ·cases hu
    ·cases hu
   ·cases ht
   ·cases ht }
theorem Oo{f:FS}{H:Hp}{Q:VK}(hN:np+1<=N.length)(h:spL G (fnL np N.length f) vs H Q E):tFS G f { nx:=λ_ H'=>Q .non H',rt:=Q } (L2.start N vs) H:=by
 obtain⟨a,us,rfl,b,us',xs,H0,es,ds,d,es',e0,ha,h0,s,r1,r,e,k⟩:=h;cases e0;obtain⟨hl,e1⟩:=EU e;have R:=On (N:=N) ha h0 s r1 r (by rw[<-n8 r,hl];exact hN);have fin:∀{v:V} {σ':St} {ρ':aU} {H0' H':Hp},oj H0 H0'->oq G ⟨H0,H,[a]⟩ σ' ρ' H0' H'->ρ'[np]?=some (.pm es')->Rep G H0' d v->Q v H':=λs' R' e2 rv=>by obtain⟨a',ys,q1,q2,q3,q4,q5⟩:=R'.sl np _ e2;have ea:a'=a:=aW.mp q4;subst ea;exact k _ ys _ _ s' R'.sub (λb o e n=>R'.keep b o e (λz=>n (aW.mp z))) R'.fr q3 q2 q5 rv
 rcases e1 with ⟨ρ,e1,e2⟩|⟨zs,ρ,e1,e2,rfl⟩
 ·exact⟨_,_,H0,_,R,e1,λv σ' H0' H' s' R' rv=>fin s' R' e2 rv,λ_=>rfl⟩
 ·refine⟨_,_,H0,_,R,e1,λp ys σ' H0' H' s' R' hp hp0 hb ap rs=>?_,λ_=>rfl⟩;exact fin (s'.trans (oh hp0 _)) (R'.freeze hp hp0 hb ap) e2 (tX oa (nZ.mono (oh hp0 _) _ _ rs))
theorem UY{g:aC->aC->Option (D×aC)}(hg:∀es ds d,g es ds=some d->ds.length=np):∀vs H Q E,spL G g vs H Q E->vs.length=np+1:=λvs H Q E h=>by obtain⟨a,us,rfl,h⟩:=h;have:=Pj hg _ _ _ _ h;rw[ay];exact this
theorem Oq{n:Nat}{f:FS}:∀es ds d,fnL np n f es ds=some d->ds.length=np:=λ_ _ d h=>(EU (d:=d.1) (es':=d.2) h).1
def Jj(G:Bg)(i:Nat)(a:FA):TA:=λσ H Q=>∃F ρ H0 ds ρ' es,oq G F σ ρ H0 H/\a ρ=some (ds,ρ')/\pZ ρ' i=some es/\∀xs b H0' H',oj H0 H0'->oq G F σ ρ' H0' H'->nZ G H0' ds xs->σ[i]?=some (some (.ref b))->Q (xs++[.ref b]) H'
theorem Lm(hv:PE X e (uE i))(hs:starEach [e] X.env=[(false,eval e X.env)]:=by rfl):PA X [e] (Jj G i ox):=PA.weak (qH hv uo hs) λσ H Q hh=>by obtain⟨F,ρ,H0,ds,ρ',es,R,e,el,k⟩:=hh;cases e;obtain⟨b,xs,s1,_⟩:=qP R el;exact⟨.ref b,s1,k [] b _ _ (oj.refl _) R oO s1⟩
theorem Jk{g:FA}(ha:PE X e (tF G f))(hr:PA X es (Jj G i g))(hs:starEach (e::es) X.env=(false,eval e X.env)::starEach es X.env:=by rfl):PA X (e::es) (Jj G i (nU f g)):=PA.weak (qH ha hr hs) λσ H Q hh=>by obtain⟨F,ρ,H0,d,ρ',es,R,e,el,k⟩:=hh;obtain⟨x,r,ρ1,e1,e2,rfl⟩:=xq e;exact⟨F,ρ,H0,x,ρ1,R,e1,λv H1 H1' s R' rv=>⟨F,ρ1,H1,r,ρ',es,R',e2,el,λxs b H2 H2' s2 R2 rs sb=>k _ _ _ _ (s.trans s2) R2 (oJ (Rep.mono s2 _ _ rv) rs) sb⟩⟩
def uO(g:aC->aC->Option (D×aC))(i:Nat)(a:FA):FE:=λρ=>match a ρ with
 |some (ds,ρ1)=>match pZ ρ1 i with
  |some es=>match g es ds with
   |some (d,es')=>some (d,putAt ρ1 i es')
   |none=>none
  |none=>none
 |none=>none
theorem Os{g:aC->aC->Option (D×aC)}{a:FA}(h:PE X e (wY (spL G g) [] E (Jj G i a))):PE X e (tF G (uO g i a)):=PE.weak h λσ H Q hh=>by
 obtain⟨F,ρ,H0,d,ρ',R,e,k⟩:=hh;unfold uO at e;rcases oK (f:=a) (ρ:=ρ)with e1|⟨ds,ρ1,e1⟩<;>simp only[e1]at e
 ·cases e
 ·cases e2:pZ ρ1 i with
  |none=>simp only[e2]at e;cases e
  |some es=>
   simp only[e2]at e;cases e3:g es ds with
   |none=>simp only[e3]at e;cases e
   |some q=>obtain⟨d1,es'⟩:=q;simp only[e3]at e;cases e;refine⟨F,ρ,H0,ds,ρ1,es,R,e1,e2,λys b H1 H1' s R' rs sb=>?_⟩;obtain⟨s,es0,es1⟩:=rF e2;obtain⟨b',xs',t1,t2,t3,t4⟩:=(R'.sl i s es0).lst es1;rw[ra t1]at sb;cases sb;refine⟨b,ys,bz _,b,ys,xs',H1,es,ds,d,es',rfl,t2,t3,R'.sub,t4,rs,e3,λv zs H2 H2' u1 u2 u3 fr w0 w1 w2 w3=>?_⟩;refine k _ _ _ (oj.trans ‹oj H0 H1› u1) ?_ w3;unfold putAt;rw[es0];exact R'.call1 es0 es1 t1 u1 u2 u3 fr w0 w1 w2
theorem Ot{k:Nat}{x:Str}{p:Pos}{a:FA}{ps:aG}{g:aC->aC->Option (D×aC)}(D:uL X.prog X.w X.K X.mg X.base k x ps (spL G g))(hr:qa k X.A)(ha:PA X (e::es) (Jj G i a))(hg:Gl X x:=by rfl)(hdb:(x==("__debug__" : Str))=false:=by decide)(he:starEach (e::es) X.env=(false,eval e X.env)::starEach es X.env:=by rfl)(hpl:(backTo pos (starEach es X.env)).any (·.1)=false:=by rfl):
  PE X (.Call (.Name x p) (e::es) [] pos) (tF G (uO g i a)):=by
 obtain⟨f,fd,h1,h2,h3,h4⟩:=D;exact Os (xQ (p:=p) (pos:=pos) h4 hr hg h1 h2 h3 .nil zu ha hdb he hpl)
def xE(i:Nat)(f:FE):FE:=λρ=>match pZ ρ i with
 |some _=>match f ρ with
  |some (.int k,ρ1)=>match pZ ρ1 i with
   |some ds=>if 0<=k then match ds[k.toNat]? with
    |some d=>if k<1000000 then some (d,putAt ρ1 i (ds.eraseIdx k.toNat))else none
    |none=>none
    else none
   |none=>none
  |_=>none
 |none=>none
theorem A0:∀{H:Hp} {ds:aC} {xs:bp} (n:Nat),nZ G H ds xs->nZ G H (ds.eraseIdx n) (xs.eraseIdx n)
 |H,[],xs,n,h=>by unfold nZ at h;subst h;exact oO
 |H,d::ds,xs,0,h=>by unfold nZ at h;obtain⟨v,r,rfl,h1,h2⟩:=h;exact h2
 |H,d::ds,xs,n+1,h=>by unfold nZ at h;obtain⟨v,r,rfl,h1,h2⟩:=h;exact oJ h1 (A0 n h2)
theorem Ln(h:PE X e (tBM G.K "list" FQ (uE i) (tFA G (nU f ox)))):PE X e (tF G (xE i f)):=PE.weak h λσ H Q hh=>by
 obtain⟨F,ρ,H0,d,ρ',R,e,k⟩:=hh;unfold xE at e;cases e0:pZ ρ i with
 |none=>simp only[e0]at e;cases e
 |some ds0=>
  simp only[e0]at e;split at e
  ·rename_i n ρ1 e1;cases e2:pZ ρ1 i with
   |none=>simp only[e2]at e;cases e
   |some ds=>
    simp only[e2]at e;split at e
    ·rename_i hn;cases e3:ds[n.toNat]? with
     |none=>simp only[e3]at e;cases e
     |some d'=>
      simp only[e3]at e;split at e
      ·rename_i hb;cases e;obtain⟨a,xs,s1,s2,s3,_⟩:=qP R e0;refine⟨.ref a,s1,.inl ⟨rfl,xs,SqL.of s2⟩,F,ρ,H0,[.int n],ρ1,R,by unfold nU;rw[e1];rfl,λys H1 H1' s R' rs=>?_⟩;unfold nZ at rs;obtain⟨v,r0,rfl,rv,rn⟩:=rs;unfold nZ at rn;unfold Rep at rv;subst rn rv;obtain⟨a',xs',t1,t2,t3,t4⟩:=qP R' e2;rw[s1]at t1;cases t1;obtain⟨y,y1,y2⟩:=pS t3 e3;have hlt:=(bP.mp y1).1;exact⟨a,xs',n,n.toNat,y,rfl,rfl,t2,by omega,by omega,ku hn (by omega),y1,k _ _ _ s (t4 _ _ (A0 _ t3)) y2⟩
      ·cases e
    ·cases e
  ·cases e
end
section
variable{P:aA}{w:av}{K:ao}{mg:Str->Option aa}{base:Heap}{x qual:Str}{st:Stmt}{f T:Addr}{fd:bL}{N ps:aG}{k:Nat}{G:Bg}
theorem UZ{n:Nat}{g:aC->aC->Option (D×aC)}(hg:g=fnL np n b)(hp:ps.length=np+1)(hN:N.length=n)(F:Fun K x qual st f fd)(S:pV N ps (ou st))(body:∀(cdv:aa) (A:aE) (outer:List Env) (s:ae) (H:Hp) (E:XK),qa k (A.deeper (envOfC qual (ou st) s.heap.objs.size f cdv))->PSs (xa P w K mg base N qual st f cdv A outer s H E) (oY st) (tFS G b)):
  sF P w K mg base CX0 (k+1) f fd ps (spL G g):=by
 subst hg hN;refine F.ok S (λvs H Q E h=>?_) λcdv A outer s H vs Q E hr h=>⟨_,body cdv A outer s H E hr,Oo (by have:=aQ b0 S.pre;rw[br]at this;omega) h⟩;rw[hp];exact UY Oq vs H Q E h
end
end L4
namespace L4
open PySem PySem.Spec PySem.Calls PyProof.Rows PySem.W L2 L3
def pQ{α:Type}(c:Nat->Nat->Bool):KasT α->α
 |.ret a=>a
 |.ask i j k=>pQ c (k (c i j))
def sf{α:Type}(P:Nat->Nat->Prop)(R:α->Prop):KasT α->Prop
 |.ret a=>R a
 |.ask i j k=>P i j/\∀b,sf P R (k b)
theorem sf.run{α:Type}{P:Nat->Nat->Prop}{R:α->Prop}(c:Nat->Nat->Bool):∀(t:KasT α),sf P R t->R (pQ c t)
 |.ret a,h=>h
 |.ask i j k,h=>sf.run c (k (c i j)) (h.2 (c i j))
theorem sf.bind{α β:Type}{P:Nat->Nat->Prop}{R:α->Prop}{S:β->Prop}{f:α->KasT β}(hf:∀a,R a->sf P S (f a)):∀{t:KasT α},sf P R t->sf P S (t.bind f)
 |.ret a,h=>hf a h
 |.ask i j k,h=>⟨h.1,λb=>sf.bind hf (h.2 b)⟩
theorem HB{α:Type}{cmp:Nat->Nat->(Bool->ae->Prop)->ae->Prop}{c:Nat->Nat->Bool}{P:Nat->Nat->Prop}{s:ae}{Q:α->ae->Prop}(hc:∀i j C,P i j->C (c i j) s->cmp i j C s):
  ∀{R:α->Prop} {t:KasT α},sf P R t->Q (pQ c t) s->t.kasWp cmp Q s
 |R,.ret a,_,q=>q
 |R,.ask i j k,h,q=>hc i j _ h.1 (HB hc (h.2 (c i j)) q)
def pe(n:Nat)(p:Array Nat):Prop:=p.toList.Perm (bg n)
variable{p:Array Nat}
theorem pe.getD{n:Nat}(h:pe n p)(hn:0<n)(i:Nat):p.getD i 0<n:=by
 unfold Array.getD;split
 ·rename_i hi;have:p[i]∈p.toList:=by simp
  exact cm.mp (h.mem_iff.mp this)
 ·exact hn
theorem pe.rev{n:Nat}(h:pe n p)(i j:Nat):pe n (cX p i j):=by unfold pe cX mirror;exact(lu.mp (foldl_swaps_perm _ _ _ _)).trans h
theorem pe.bub{n:Nat}(h:pe n p)(i j:Nat):pe n (bubble p i j):=(lu.mp (bubble_perm _ _ _)).trans h
abbrev In2(n:Nat):Nat->Nat->Prop:=λi j=>i<n/\j<n
theorem DG{n:Nat}(hn:0<n){p:Array Nat}(h:pe n p):∀f k,sf (In2 n) (λ_=>True) (cK p f k)
 |0,k=>trivial
 |f+1,k=>⟨⟨h.getD hn _,h.getD hn _⟩,λb=>by cases b<;>first|exact trivial|exact DG hn h f (k+1)⟩
theorem yh{n:Nat}(hn:0<n):∀f (p:Array Nat) k q,pe n p->sf (In2 n) (λr=>pe n r.1) (fH f p k q)
 |0,p,k,q,h=>h
 |f+1,p,k,q,h=>⟨⟨h.getD hn _,h.getD hn _⟩,λb=>by
   cases b with
   |true=>
    show sf _ _ (if q > 0 then _ else _);split
    ·exact yh hn f _ _ _ (h.rev _ _)
    ·exact yh hn f _ _ _ h
   |false=>
    refine⟨⟨h.getD hn _,h.getD hn _⟩,λd=>?_⟩;cases d with
    |true=>exact h
    |false=>exact yh hn f _ _ _ h⟩
theorem EV{n:Nat}(hn:0<n)(h:pe n p)(k m:Nat):sf (In2 n) (λr=>pe n r.2) (eK k m p):=
 sf.bind (P:=In2 n) (R:=λ_=>True) (S:=λ(r:Nat×Array Nat)=>pe n r.2) (f:=λm=>.ret (m,cX p 0 k)) (λa _=>h.rev 0 k) (DG hn (h.rev 0 k) _ _)
theorem yi{n:Nat}(hn:0<n)(h:pe n p)(k m:Nat):sf (In2 n) (λr=>pe n r.2) (dJ k m p):=
 sf.bind (λr hr=>by
  show sf _ _ (if r.2.2 > 0 then _ else _);split
  ·exact EV hn (hr.rev _ _) _ _
  ·exact EV hn hr _ _) (yh hn _ p _ _ h)
theorem Ct{n:Nat}(hn:0<n)(h:pe n p)(m:Nat):sf (In2 n) (λr=>pe n r.2) (di m p):=
 sf.bind (λk _=>by
  show sf _ _ (if (k==m)=true then _ else _);split
  ·exact h
  ·split
   ·refine⟨⟨h.getD hn _,h.getD hn _⟩,λb=>?_⟩;cases b with
    |true=>exact h
    |false=>exact yi hn (h.rev _ _) _ _
   ·exact yi hn h _ _) (DG hn h _ _)
theorem yY{n:Nat}(hn:0<n){p:Array Nat}(h:pe n p)(k:Nat):∀f l r,sf (In2 n) (λ_=>True) (fF p k f l r)
 |0,l,r=>trivial
 |f+1,l,r=>by
  unfold fF;split
  ·trivial
  ·refine⟨⟨h.getD hn _,h.getD hn _⟩,λb=>?_⟩;cases b with
   |true=>exact yY hn h k f _ _
   |false=>exact yY hn h k f _ _
theorem HC{n:Nat}(hn:0<n):∀f (p:Array Nat) k,pe n p->sf (In2 n) (pe n) (kas_bin f p k)
 |0,p,k,h=>h
 |f+1,p,k,h=>sf.bind (λl _=>HC hn f _ _ (h.bub _ _)) (yY hn h k _ _ _)
theorem yj{n:Nat}(hn:0<n):sf (In2 n) (pe n) (eO n):=
 sf.bind (λr hr=>by
  show sf _ _ (if r.1<n then _ else _);split
  ·exact HC hn _ _ _ hr
  ·exact hr) (Ct hn (p:=gu (bg n)) (by unfold pe;exact iH _) n)
def yk(a:Addr)(h h':Heap):Prop:=∀b o,b≠a->h.get? b=some o->h'.get? b=some o
variable{a:Addr}{Q:aa->ae->Prop}
section
variable{prog:aA}{w:av}{A:aE}{E:aa->ae->Prop}{s:ae}
def xF(c:Nat->Nat->Bool)(vs:List aa):List aa:=(pQ c (eO vs.length)).toList.map λi=>vs.getD i Value.none
theorem Lo(c:Nat->Nat->Bool)(vs:List aa)(h:0<vs.length):(xF c vs).length=vs.length:=by unfold xF;rw[ah];have:=(yj h).run c _;rw[this.length_eq,dw]
theorem Lp(c:Nat->Nat->Bool)(v:aa):xF c [v]=[v]:=rfl
theorem Lq{vs:List aa}{n:Nat}{P:PySem.Fin->ae->Prop}{κ:gx}{c:Nat->Nat->Bool}(ho:s.heap.get? a=some (seqObj "list" vs.toArray n))(h1:0<vs.length)(h64:vs.length<64)
  (hk:∀(h':Heap) (C:gx->ae->Prop),yk a s.heap h'->C κ { s with heap:=h' }->wpAny (model prog w) A (keyKind' vs.toArray) C (λ_ _=>False) { s with heap:=h' })
  (hc:∀(h':Heap) (i j:Nat) (C:Bool->ae->Prop),yk a s.heap h'->i<vs.length/\j<vs.length->C (c i j) { s with heap:=h' }->gG prog w A κ vs i j C { s with heap:=h' })
  (h:∀h' e,yk a s.heap h'->h'.get? a=some (seqObj "list" (xF c vs).toArray e)->P (.done (.ret .none)) { s with heap:=h' }):
  wpAny (model prog w) A (cW.«list.sort» ⟨[.ref a],[]⟩) P E s:=by
 have ha:a<s.heap.objs.size:=aM ho;obtain⟨e1,o1⟩:∃e1,(s.heap.update a (eI λ_=>(#[]:Array aa))).get? a=some (seqObj "list" #[] e1):=⟨_,get?_update_seq ho λ_=>#[]⟩;generalize hw:((s.heap.update a (eI λ_=>(#[]:Array aa))).push (seqObj "tuple" vs.toArray 0)).push (seqObj "list" #[] 0)=h3;have kb:yk a s.heap h3:=λb o hb q=>by rw[<-hw];exact aH _ (aH _ ((jq s.heap _ (cJ hb)).trans q))
 have o3:h3.get? a=some (seqObj "list" #[] e1):=by rw[<-hw];exact aH _ (aH _ o1)
 rw[list_sort_plain];refine ag (listItems_at ho rfl (ag (jX ho rfl ?_ (by rw[aT,bK];omega) (bW _))));refine ag (ky o1 rfl (ag (wpAny_newTuple ?_ (by show vs.length<=_;rw[bK];omega))));refine ag (wpAny_newList (cz ?_) (bW _));show wpAny (model prog w) A _ P E { s with heap:=((s.heap.update a (eI λ_=>(#[]:Array aa))).push (seqObj "tuple" vs.toArray 0)).push (seqObj "list" #[] 0) };rw[hw];dsimp only;obtain⟨c2,hc2⟩:∃c2,(h3.update a (eI λ_=>(xF c vs).toArray)).get? a=some (seqObj "list" (xF c vs).toArray c2):=⟨_,get?_update_seq o3 λ_=>(xF c vs).toArray⟩;have fin:=h _ c2 (λb o hb q=>(jq h3 _ (cJ hb)).trans (kb b o hb q)) hc2;have szo:(xF c vs).toArray.size<=sizeLine+1:=by rw[aT,Lo c vs h1,bK];omega
 by_cases h2:2<=vs.length
 ·have hn2:¬vs.toArray.size<2:=by rw[aT];omega
  rw[aj hn2,aj hn2];refine ag (bT (hk h3 (λk s'=>k=κ/\s'={ s with heap:=h3 }) kb ⟨rfl,rfl⟩) ?_ λ_ _ x=>x.elim);rintro k s' ⟨rfl,rfl⟩;refine ag (bT (kat_run (Q:=λst' s'=>s'={ s with heap:=h3 }/\(arrOf st').map (·.2)=(xF c vs).toArray/\failedOf st'=none) (G:=λp s'=>p=pQ c (eO vs.length)/\s'={ s with heap:=h3 }) rfl h2 h64 ?_ ?_) ?_ λ_ _ e=>e)
  ·rintro p st' s' _ har hf ⟨rfl,rfl⟩;exact⟨rfl,kat_snds rfl har,hf⟩
  ·exact HB (P:=In2 vs.length) (λi j C q r=>hc h3 i j C kb q r) (yj h1) ⟨rfl,rfl⟩
  ·rintro⟨⟨⟩,st'⟩ s' ⟨rfl,ha2,hf⟩;dsimp only;refine ag (ky o3 rfl ?_);rw[ha2,hf];refine ag (jX o3 rfl ?_ (bW _) szo);simp only[bne_self_eq_false,fm,if_false];exact au fin
 ·obtain⟨v,rfl⟩:∃v,vs=[v]:=by
   cases vs with
   |nil=>cases h1
   |cons v r=>
    cases r with
    |nil=>exact⟨v,rfl⟩
    |cons x y=>exact aq (by simp) h2
  refine ag (au ?_);refine ag (au ?_);refine ag (ky o3 rfl ?_);have eo:Array.map (λx=>x.snd) (arrOf ((),SortSt.mk' general' (#[v].zip #[v]) #[] 7 none).snd)=(xF c [v]).toArray:=by rw[Lp];show Array.map (λx=>x.snd) (#[v].zip #[v])=#[v];simp
  rw[eo];refine ag (jX o3 rfl ?_ (bW _) szo);simp only[bne_self_eq_false,fm,if_false];exact au fin
theorem A3{l:Addr}{T:String}{o:Obj}{n:Nat}{vs:List aa}{κ:gx}{c:Nat->Nat->Bool}(hT:T="list" \/ T="tuple")(ho:s.heap.get? l=some o)(hcl:o.cls=.type T)(hd:o.data=.seq vs.toArray n)(h1:0<vs.length)(h64:vs.length<64)
  (hk:∀(h':Heap) (C:gx->ae->Prop),(∀b o,s.heap.get? b=some o->h'.get? b=some o)->C κ { s with heap:=h' }->wpAny (model prog w) A.in1.in1 (keyKind' vs.toArray) C (λ_ _=>False) { s with heap:=h' })
  (hc:∀(h':Heap) (i j:Nat) (C:Bool->ae->Prop),(∀b o,s.heap.get? b=some o->h'.get? b=some o)->i<vs.length/\j<vs.length->C (c i j) { s with heap:=h' }->gG prog w A.in1.in1 κ vs i j C { s with heap:=h' })
  (h:∀(g h':Heap) e,(∀b o,s.heap.get? b=some o->g.get? b=some o)->(∀b o,g.get? b=some o->h'.get? b=some o)->h'.get? g.objs.size=some (seqObj "list" (xF c vs).toArray e)->Q (.ref g.objs.size) { s with heap:=h' }):
  wpAny (model prog w) A (call (.builtin "sorted") [.ref l]) Q E s:=by
 refine Calls.call_function_entry kind_sorted plain_sorted entry_sorted (args_sorted1 _) ?_;unfold cW.«sorted»;refine ag (m:=checkCount "sorted" 1 1 _) (au (ag (wpAny_collect_seq l hT ho hcl hd (λg gk=>?_) (by rw[bK];simp;omega))));refine ag (wpAny_newList ?_ (by rw[bK];simp;omega));show wpAny _ _ _ _ _ { s with heap:=g.push (seqObj "list" vs.toArray 0) };have on:(g.push (seqObj "list" vs.toArray 0)).get? g.objs.size=some (seqObj "list" vs.toArray 0):=bq _ rfl;have all:∀h',yk g.objs.size (g.push (seqObj "list" vs.toArray 0)) h'->∀b o,g.get? b=some o->h'.get? b=some o:=λh' kb b o q=>kb b o (bf (aM q)) (aH _ q)
 show wpAny _ _ (do let _<-holding [Value.ref g.objs.size] _;_) _ _ _;refine ag (cz (dB slot_list_sort ⟨_,on,rfl⟩ entry_list_sort ?_ (args_list_sort _)));refine Lq (s:={ s with heap:=g.push (seqObj "list" vs.toArray 0) }) on h1 h64 (λh' C kb q=>hk h' C (λb o z=>all h' kb b o (gk b o z)) q) (λh' i j C kb q r=>hc h' i j C (λb o z=>all h' kb b o (gk b o z)) q r) λh' e kb q=>?_;exact⟨_,rfl,au ⟨_,rfl,h g h' e gk (all h' kb) q⟩⟩
end
def ltS(a b:Str):Bool:=decide (a.cps.toList<b.cps.toList)
def pX:aG->aG->Bool
 |[],[]=>false
 |[],_::_=>true
 |_::_,[]=>false
 |x::xs,y::ys=>if x=y then pX xs ys else ltS x y
inductive StrsAre:List aa->aG->Prop
 |nil:StrsAre [] []
 |cons (x:Str) (t:Tok) {vs:List aa} {xs:aG} (h:StrsAre vs xs):StrsAre (.str x t::vs) (x::xs)
theorem StrsAre.len{vs:List aa}{xs:aG}(h:StrsAre vs xs):vs.length=xs.length:=by
 induction h with
 |nil=>rfl
 |cons x t h ih=>rw[aF,aF,ih]
theorem xG:∀{xs:aG} {vs:List aa},Vals (xs.map V.str) vs->StrsAre vs xs
 |[],vs,h=>by cases h;exact .nil
 |x::xs,vs,h=>by
  cases h with
  |cons r h'=>obtain⟨t,rfl⟩:=r;exact .cons x t (xG h')
section
open PySem.SeqAt
open PySem.AutoSeq1 (wpAny_loadPart')
open PySem.MeetsSeq PySem.MeetsSeq2 PySem.MeetsSeq3
theorem BS(l b:Addr)(is js:Array aa)(n m:Nat)(d1 d2:Option Addr)(q1 q2:Array (Option aa))(xs ys:aG)(hi:StrsAre is.toList xs)(hj:StrsAre js.toList ys):
  Meets (cW.«tuple.__lt__» ⟨[.ref l,.ref b],[]⟩)
   (λ_ R s=>s.heap.get? l=some { cls:=.type "tuple", dict:=d1,data:=.seq is n,slots:=q1 }/\s.heap.get? b=some { cls:=.type "tuple", dict:=d2,data:=.seq js m,slots:=q2 }/\R (.ok (.ret (.bool (pX xs ys)))) s):=
 .of_wp λprog w A R s h=>by
  obtain⟨hp,g,d,tk,os⟩:=s;obtain⟨hl,hb,h⟩:=h;have f2:=lD;have z1:is.size=xs.length:=by rw[<-hi.len,cE]
  have z2:js.size=ys.length:=by rw[<-hj.len,cE]
  wp_walk using lL hl,lL hb,ir _ (λrest b s'=>b.1=none/\s'=⟨hp,g,d,tk,os⟩/\∃(vs ws:List aa) (xs' ys':aG),rest=vs.zip ws/\StrsAre vs xs'/\StrsAre ws ys'/\xs'.length+js.size=ys'.length+is.size/\R (.ok (.ret (.bool (pX xs' ys')))) ⟨hp,g,d,tk,os⟩) _
  case turn=>
   rintro⟨y,x⟩ rest b s' ⟨hb',rfl,vs,ws,xs',ys',hz,hv,hw,hlen,hR⟩;cases hv with
   |nil=>cases hz
   |cons a t hv'=>
    cases hw with
    |nil=>cases hz
    |cons c u hw'=>
     rw[dc]at hz;obtain⟨hyx,hrest⟩:=List.cons.inj hz;obtain⟨rfl,rfl⟩:=kj hyx;simp only[aF]at hlen;unfold pX at hR;refine ag (ig a t c u prog w _ _ ?_);by_cases hac:a=c
     ·subst hac;rw[ai rfl]at hR;simp only[beq_self_eq_true]
      wp_walk
      exact⟨rfl,rfl,_,_,_,_,hrest,hv',hw',by omega,hR⟩
     ·rw[aj hac]at hR;rw[beq_false_of_ne hac];have hri:∀(E Q),Q (.bool (decide (a.cps.toList<c.cps.toList))) (⟨hp,g,d,tk,os⟩:ae)->wpAny (model prog w) A.in1 (richCompare .Lt (.str a t) (.str c u)) Q E ⟨hp,g,d,tk,os⟩:=λE Q hq=>(l6 hq:wpAny (model prog w) A.in1 (compareOp .Lt (.str a t) (.str c u)) Q E _)
      wp_walk using hri
      exact⟨_,rfl,by simpa [ltS]using hR⟩
  case fin=>
   rintro⟨b1,b2⟩ s' ⟨hb',rfl,vs,ws,xs',ys',hz,hv,hw,hlen,hR⟩;simp only at hb';subst hb';have hq:pX xs' ys'=decide (is.size<js.size):=by
    cases hv with
    |nil=>
     cases hw with
     |nil=>exact(aO (by simp only[cQ]at hlen;omega)).symm
     |cons c u hw=>exact(aV (by simp only[cQ,aF]at hlen;omega)).symm
    |cons a t hv=>
     cases hw with
     |nil=>exact(aO (by simp only[cQ,aF]at hlen;omega)).symm
     |cons c u hw=>cases hz
   rw[hq]at hR
   wp_walk
   exact⟨_,rfl,by simpa [Builtin.Tuple.tupleCompareSizes]using hR⟩
  case h=>exact⟨rfl,rfl,is.toList,js.toList,xs,ys,rfl,hi,hj,by omega,h⟩
end
section
variable{prog:aA}{w:av}{A:aE}{E:aa->ae->Prop}{s:ae}
theorem Gf{l b:Addr}{is js:Array aa}{xs ys:aG}(hl:cB s.heap l is)(hb:cB s.heap b js)(hi:StrsAre is.toList xs)(hj:StrsAre js.toList ys)(hu:A.units<cLine)(h:Q (.bool (pX xs ys)) s):
  wpAny (model prog w) A (compareOp .Lt (.ref l) (.ref b)) Q E s:=by
 obtain⟨⟨c1,d1,p1,s1⟩,o1,rfl,n,rfl⟩:=id hl;obtain⟨⟨c2,d2,p2,s2⟩,o2,rfl,m,rfl⟩:=id hb;exact richCompare_meets_room (op:=.Lt) ⟨_,o1,rfl⟩ ⟨_,o2,rfl⟩ F.slot_tuple_lt F.entry_tuple_lt (F.args_tuple_lt_2 _ _) (BS l b is js n m d1 d2 s1 s2 xs ys hi hj) ⟨o1,o2,show Value.bool (pX xs ys)≠Value.notImplemented/\Q (.bool (pX xs ys)) s from⟨(λx=>nomatch x),h⟩⟩ hu
end
def ve(c:Nat->Nat->Bool)(n:Nat):List Nat:=(pQ c (eO n)).toList
theorem uP(c:Nat->Nat->Bool){n:Nat}(h:0<n):(ve c n).Perm (bg n):=(yj h).run c _
theorem uc(c:Nat->Nat->Bool){n:Nat}(h:0<n):∀i∈ve c n,i<n:=λi hi=>cm.mp ((uP c h).mem_iff.mp hi)
theorem Cu:∀l:aG,pX l l=false
 |[]=>rfl
 |x::l=>by unfold pX;rw[ai rfl];exact Cu l
theorem Cv:∀(l m:aG),sM (l.map L3.Dq.str) (m.map L3.Dq.str)=decide (l=m)
 |[],[]=>by rw[bJ,sM];simp
 |[],y::m=>by rw[bJ,ar,sM]<;>simp
 |x::l,[]=>by rw[bJ,ar,sM]<;>simp
 |x::l,y::m=>by
  rw[ar,ar,sM,Cv l m,eqD];by_cases h1:x=y
  ·subst h1;by_cases h2:l=m
   ·subst h2;simp
   ·simp[h2]
  ·have:(x==y)=false:=beq_false_of_ne h1;rw[this];simp[h1]
theorem yZ{xs:bp}{us:List aa}(r:Vals xs us):∀(is:List Nat),(∀i∈is,i<xs.length)->Vals (is.map λi=>xs.getD i V.non) (is.map λi=>us.getD i Value.none)
 |[],_=>.nil
 |i::is,h=>by have hi:=h i (.head _);obtain⟨u,e,ru⟩:=r.get (aI hi);refine .cons ?_ (yZ r is λj hj=>h j (.tail _ hj));show RelV (xs.getD i V.non) (us.getD i Value.none);rw[bH,bH,e,aI hi];exact ru
variable{y:V}{e:Expr}{f:FE}
section
variable{X:Cx}{G:Bg}{pins:bY}{σ:St}{H:Hp}{s:ae}
def vg(K:ao)(H:Hp)(y:V)(k:aG):Prop:=∃a b v,y=.ref a/\SqT K H a [.ref b,v]/\SqT K H b (k.map V.str)
theorem Gg(I:Inv X pins σ H s){k:aG}{u:aa}(p:vg X.K H y k)(r:RelV y u):
  ∃a b v,u=.ref a/\cB s.heap a #[.ref b,v]/\SqT X.K H b (k.map V.str):=by
 obtain⟨a,b,v,rfl,h1,h2⟩:=p;cases r;obtain⟨its,ri,ti,_⟩:=I.tuple h1;cases ri with
 |cons q1 q2=>
  cases q1;cases q2 with
  |cons q3 q4=>cases q4;exact⟨a,b,_,rfl,ti,h2⟩
theorem seq_val{pins:bY}{s:ae}{σ:St}{H:Hp}{ys:bp}(I:Inv X pins σ H s)(hq:SqL X.K H a ys\/SqT X.K H a ys):∃its,Vals ys its/\∃T o n,(T="list" \/ T="tuple")/\s.heap.get? a=some o/\o.cls=.type T/\o.data=.seq its.toArray n:=by
 rcases hq with hq|hq
 ·obtain⟨its,ri,pl,_⟩:=I.list hq;obtain⟨o,a1,a2,n,a3⟩:=pl.isList;exact⟨its,ri,_,o,n,.inl rfl,a1,a2,a3⟩
 ·obtain⟨its,ri,⟨o,a1,a2,n,a3⟩,_⟩:=I.tuple hq;exact⟨its,ri,_,o,n,.inr rfl,a1,a2,a3⟩
theorem DH(hu:X.A.units+64<cLine):p9 X (.builtin "sorted") (λxs H Q=>∃(a:Addr) (ys:bp) (ks:List aG),xs=[.ref a]/\(SqL X.K H a ys\/SqT X.K H a ys)/\0<ys.length/\ys.length<64/\ks.length=ys.length/\ks.Nodup/\(∀(i:Nat) (y:V) (k:aG),ys[i]?=some y->ks[i]?=some k->vg X.K H y k)/\
  ∀p,H p=none->Q (.ref p) (upd H p (.lst ((ve (λi j=>pX (ks.getD i []) (ks.getD j [])) ys.length).map λi=>ys.getD i V.non)))):=by
 intro pins s σ H xs us Q I r h;obtain⟨a,ys,ks,rfl,hq,h1,h64,hkl,nd,hp,q⟩:=h;obtain⟨u,rfl,ru⟩:=vals1 r;cases ru;obtain⟨its,ri,T,ob,nn,hT,b1,b2,b3⟩:=seq_val I hq;have hl:ys.length=its.length:=ri.length;have item:∀{h':Heap},(∀b o,s.heap.get? b=some o->h'.get? b=some o)->∀i,i<its.length->∃a b v,its.getD i Value.none=.ref a/\cB h' a #[.ref b,v]/\SqT X.K H b ((ks.getD i []).map V.str)/\its[i]?=some (.ref a):=λ{h'} kk i hi=>by
  have I':Inv X pins σ H { s with heap:=h',toks:=s.toks }:=I.kept kk;have hy:i<ys.length:=by omega
  have hk:i<ks.length:=by omega
  obtain⟨u,e,ru⟩:=ri.get (aI hy);obtain⟨a,b,v,rfl,t,t2⟩:=Gg I' (hp i _ _ (aI hy) (aI hk)) ru;refine⟨a,b,v,?_,t,?_,e⟩
  ·rw[bH,e];rfl
  ·rw[bH,aI hk];exact t2
 refine A3 (κ:=tuples' false) (c:=λi j=>pX (ks.getD i []) (ks.getD j [])) hT b1 b2 b3 (by omega) (by omega) (λh' C kk hC=>?_) (λh' i j C kk hij hC=>?_) λg h' e k1 k2 ho=>?_
 ·
  have I':Inv X pins σ H { s with heap:=h',toks:=s.toks }:=I.kept kk;have tups:∀(l:List aa),(∀v∈l,∃i,i<its.length/\its[i]?=some v)->∃fs,KatTups h' l fs/\fs.length=l.length/\∀f∈fs,∃(b:Addr) (k:aG),f=.ref b/\SqT X.K H b (k.map V.str):=λl=>by
   induction l with
   |nil=>exact λ_=>⟨[],nz,rfl,λf hf=>by cases hf⟩
   |cons v l ih=>
    intro hv;obtain⟨fs,f1,f2,f3⟩:=ih λw hw=>hv w (.tail _ hw);obtain⟨i,hi,ei⟩:=hv v (.head _);obtain⟨a,b,w,_,⟨o,t1,t2,n,t3⟩,t4,t5⟩:=item kk i hi;rw[ei]at t5;cases t5;refine⟨.ref b::fs,ni t1 t2 t3 (by simp) f1,by rw[aF,aF,f2],λf hf=>?_⟩;rcases aP.mp hf with rfl|hf
    ·exact⟨b,_,rfl,t4⟩
    ·exact f3 f hf
  obtain⟨fs,f1,f2,f3⟩:=tups its λv hv=>by obtain⟨i,hi,e⟩:=ib.mp hv;exact⟨i,hi,by rw[aI hi,e]⟩
  refine kat_kind (T:=.type "tuple") f1 (by omega) (λv hv=>?_) (by decide) hC;obtain⟨b,k,rfl,hb⟩:=f3 v hv;obtain⟨_,_,⟨o,t1,t2,_⟩,_⟩:=I'.tuple hb;rw[<-t2];exact(Looks.ld t1).andThen .now
 ·
  have I':Inv X pins σ H { s with heap:=h',toks:=s.toks }:=I.kept kk;obtain⟨a1,b1,v1,e1,⟨o1,g1,c1,n1,d1⟩,k1,_⟩:=item kk i hij.1;obtain⟨a2,b2,v2,e2,⟨o2,g2,c2,n2,d2⟩,k2,_⟩:=item kk j hij.2;unfold gG;by_cases hne:i=j
  ·subst hne;rw[e1]at e2;cases e2;rw[e1];refine kat_lt g1 d1 g1 d1 ?_;show KatLex _ _ _ _ _ _ [(Value.ref b1,Value.ref b1),(v1,v1)] 0 _;refine gz (f7 _ _ _ _ _ (je (gz (f7 _ _ _ _ _ (je (kat_nil ?_))))));rw[Cu]at hC;exact hC
  ·rw[e1,e2];have kne:ks.getD i []≠ks.getD j []:=λz=>hne (by
    have hi:i<ks.length:=by omega
    have hj:j<ks.length:=by omega
    rw[bH,bH,aI hi,aI hj]at z;have pw:=fg.mp nd;rcases iq i j with y|y|y
    ·exact aq z (pw i j hi hj y)
    ·exact y
    ·exact aq z.symm (pw j i hj hi y))
   refine kat_lt g1 d1 g2 d2 ?_;show KatLex _ _ _ _ _ _ [(Value.ref b1,Value.ref b2),(v1,v2)] 0 _;have rp:∀{b:Addr} {k:aG},SqT X.K H b (k.map V.str)->L3.Rep X.K H (L3.Dq.tup (k.map L3.Dq.str)) (.ref b):=λh=>by unfold L3.Rep;exact⟨_,_,rfl,h,Ce _⟩
   have dp:∀l:aG,dpt (L3.Dq.tup (l.map L3.Dq.str))=1:=λl=>by unfold dpt;rw[yN]
   have eq:=Kg I' _ _ _ _ (.ref b1) (.ref b2) X.A.in1.in1 (rp k1) (rp k2) rfl rfl (by rw[dp,dp,iw,iw];omega);rw[show eqD (L3.Dq.tup ((ks.getD i []).map L3.Dq.str)) (L3.Dq.tup ((ks.getD j []).map L3.Dq.str))=false from by rw[eqD,Cv];exact aO kne]at eq;refine gz (eq _ _ _ _ (kat_no ?_));obtain⟨i1,r1,t1,_⟩:=I'.tuple k1;obtain⟨i2,r2,t2,_⟩:=I'.tuple k2;exact kat_one _ _ (Gf t1 t2 (xG r1) (xG r2) (by rw[iw,iw];omega) hC)
 ·have I1:Inv X pins σ H { s with heap:=g,toks:=s.toks }:=I.kept k1;refine⟨.ref g.objs.size,_,I1.laid (t':=s.toks) k2 (az _) ?_,rfl,q _ (I1.hok.fresh (az _))⟩;have hn:0<ys.length:=h1;refine⟨?_,xF _ its,e,?_,ho⟩
  ·rw[ah,(uP _ hn).length_eq,dw,bK];omega
  ·unfold xF;rw[<-hl];exact yZ ri _ λi hi=>uc _ hn i hi
def EW:aC->Option aG
 |[]=>some []
 |.str x::ds=>match EW ds with
  |some xs=>some (x::xs)
  |none=>none
 |_=>none
def Lr:D->Option aG
 |.tup [.tup ks,_]=>EW ks
 |_=>none
def v9:aC->Option (List aG)
 |[]=>some []
 |d::ds=>match Lr d,v9 ds with
  |some k,some ks=>some (k::ks)
  |_,_=>none
def Cw(ds:aC):Option aC:=match v9 ds with
 |some ks=>if ks.Nodup/\0<ds.length/\ds.length<64 then some ((ve (λi j=>pX (ks.getD i []) (ks.getD j [])) ds.length).map λi=>ds.getD i .non)else none
 |none=>none
def A4(f:FE):FA:=λρ=>match f ρ with
 |some (.lst ds,ρ')=>match Cw ds with
  |some es=>some (es,ρ')
  |none=>none
 |_=>none
theorem A5:∀{ds:aC} {xs:bp} {l:aG},nZ G H ds xs->EW ds=some l->xs=l.map V.str
 |[],xs,l,r,e=>by cases e;unfold nZ at r;exact r
 |d::ds,xs,l,r,e=>by
  cases d with
  |str x=>
   unfold EW at e;cases e1:EW ds with
   |none=>rw[e1]at e;cases e
   |some l'=>rw[e1]at e;cases e;unfold nZ at r;obtain⟨v,r',rfl,h1,h2⟩:=r;unfold Rep at h1;subst h1;rw[A5 h2 e1,ar]
  |_=>cases e
theorem Ls{d:D}{v:V}{k:aG}(r:Rep G H d v)(e:Lr d=some k):vg G.K H v k:=by
 unfold Lr at e;split at e
 ·rename_i ks w;unfold Rep at r;obtain⟨a,xs,rfl,h1,h2⟩:=r;unfold nZ at h2;obtain⟨v1,r1,rfl,q1,q2⟩:=h2;unfold nZ at q2;obtain⟨v2,r2,rfl,_,q3⟩:=q2;unfold nZ at q3;subst q3;unfold Rep at q1;obtain⟨b,ys,rfl,p1,p2⟩:=q1;rw[A5 p2 e]at p1;exact⟨a,b,v2,rfl,h1,p1⟩
 ·cases e
theorem Cy:∀{ds:aC} {ks:List aG},v9 ds=some ks->ks.length=ds.length
 |[],ks,e=>by cases e;rfl
 |d::ds,ks,e=>by
  unfold v9 at e;cases e1:Lr d with
  |none=>rw[e1]at e;cases e
  |some k=>
   cases e2:v9 ds with
   |none=>rw[e1,e2]at e;cases e
   |some ks'=>rw[e1,e2]at e;cases e;rw[aF,aF,Cy e2]
theorem CA:∀{ds:aC} {ks:List aG} {xs:bp},nZ G H ds xs->v9 ds=some ks->∀(i:Nat) (y:V) (k:aG),xs[i]?=some y->ks[i]?=some k->vg G.K H y k
 |[],ks,xs,r,e,i,y,k,h1,h2=>by cases e;cases h2
 |d::ds,ks,xs,r,e,i,y,k,h1,h2=>by
  unfold v9 at e;cases e1:Lr d with
  |none=>rw[e1]at e;cases e
  |some k'=>
   cases e2:v9 ds with
   |none=>rw[e1,e2]at e;cases e
   |some ks'=>
    rw[e1,e2]at e;cases e;unfold nZ at r;obtain⟨v,r',rfl,q1,q2⟩:=r;cases i with
    |zero=>cases h1;cases h2;exact Ls q1 e1
    |succ i=>exact CA q2 e2 i y k h1 h2
theorem y3{ds:aC}{xs:bp}(r:nZ G H ds xs):∀(is:List Nat),(∀i∈is,i<ds.length)->nZ G H (is.map λi=>ds.getD i .non) (is.map λi=>xs.getD i V.non)
 |[],_=>oO
 |i::is,h=>by have hi:=h i (.head _);obtain⟨v,e,rv⟩:=pS r (aI hi);refine oJ ?_ (y3 r is λj hj=>h j (.tail _ hj));show Rep G H (ds.getD i .non) (xs.getD i V.non);rw[bH,bH,e,aI hi];exact rv
theorem SqT.same{K:ao}{H0 H1:Hp}{k:aG}(s:oj H0 H1)(p:vg K H0 y k):vg K H1 y k:=by obtain⟨a,b,v,e,h1,h2⟩:=p;exact⟨a,b,v,e,SqT.mono s h1,SqT.mono s h2⟩
theorem EX{g:FE}(hg:∀ρ ds ρ1,g ρ=some (.lst ds,ρ1)->f ρ=some (.lst ds,ρ1)\/f ρ=some (.tup ds,ρ1))(h:PE X e (tCB (λxs H Q=>∃(a:Addr) (ys:bp) (ks:List aG),xs=[.ref a]/\(SqL G.K H a ys\/SqT G.K H a ys)/\0<ys.length/\ys.length<64/\ks.length=ys.length/\ks.Nodup/\(∀(i:Nat) (y:V) (k:aG),ys[i]?=some y->ks[i]?=some k->vg G.K H y k)/\
  ∀p,H p=none->Q (.ref p) (upd H p (.lst ((ve (λi j=>pX (ks.getD i []) (ks.getD j [])) ys.length).map λi=>ys.getD i V.non)))) (tFA G (nU f ox)))):PE X e (tFN G (A4 g)):=PE.weak h λσ H Q hh=>by
 obtain⟨F,ρ,H0,es,ρ',R,e,k⟩:=hh;unfold A4 at e;split at e
 ·rename_i ds ρ1 e1;cases e2:Cw ds with
  |none=>simp only[e2]at e;cases e
  |some es'=>
   simp only[e2]at e;cases e;unfold Cw at e2;cases e3:v9 ds with
   |none=>simp only[e3]at e2;cases e2
   |some ks=>
    simp only[e3]at e2;split at e2
    ·rename_i hh;obtain⟨nd,hn,h64⟩:=hh;cases e2;have xx:∃x,f ρ=some (x,ρ')/\∀H v,Rep G H x v->∃a xs,v=V.ref a/\(H a=some (.lst xs)\/SqT G.K H a xs)/\nZ G H ds xs:=by
      rcases hg _ _ _ e1 with q|q
      ·exact⟨_,q,λH v r=>by unfold Rep at r;obtain⟨a,xs,e,h1,h2⟩:=r;exact⟨a,xs,e,.inl h1,h2⟩⟩
      ·exact⟨_,q,λH v r=>by unfold Rep at r;obtain⟨a,xs,e,h1,h2⟩:=r;exact⟨a,xs,e,.inr h1,h2⟩⟩
     obtain⟨x,ex,hx⟩:=xx;refine⟨F,ρ,H0,[x],_,R,by unfold nU;rw[ex];rfl,λys H1 H1' s R' rs=>?_⟩;unfold nZ at rs;obtain⟨v,r0,rfl,rv,rn⟩:=rs;unfold nZ at rn;subst rn;obtain⟨a,xs,rfl,h1,h2⟩:=hx _ _ rv;have hl:=n8 h2;refine⟨a,xs,ks,rfl,h1.imp (λh=>SqL.of (R'.sub _ _ h)) (SqT.mono R'.sub),by omega,by omega,by rw[Cy e3,hl],nd,λi y kk q1 q2=>SqT.same R'.sub (CA h2 e3 i y kk q1 q2),λp hp=>?_⟩;refine k p _ _ _ s (R'.newOwn hp _) oa (R'.h0none hp) (R'.bNone hp) (R'.apart hp) ?_;rw[<-hl];exact y3 h2 _ λi hi=>uc _ hn i hi
    ·cases e2
 ·cases e
theorem Gh(h:PE X e (tCB (λxs H Q=>∃(a:Addr) (ys:bp) (ks:List aG),xs=[.ref a]/\(SqL G.K H a ys\/SqT G.K H a ys)/\0<ys.length/\ys.length<64/\ks.length=ys.length/\ks.Nodup/\(∀(i:Nat) (y:V) (k:aG),ys[i]?=some y->ks[i]?=some k->vg G.K H y k)/\
  ∀p,H p=none->Q (.ref p) (upd H p (.lst ((ve (λi j=>pX (ks.getD i []) (ks.getD j [])) ys.length).map λi=>ys.getD i V.non)))) (tFA G (nU f ox)))):PE X e (tFN G (A4 f)):=EX (λ_ _ _ h=>.inl h) h
theorem DI(hu:X.A.units+64<cLine)(hK:X.K=G.K:=by rfl):p9 X (.builtin "sorted") (λxs H Q=>∃(a:Addr) (ys:bp) (ks:List aG),xs=[.ref a]/\(SqL G.K H a ys\/SqT G.K H a ys)/\0<ys.length/\ys.length<64/\ks.length=ys.length/\ks.Nodup/\(∀(i:Nat) (y:V) (k:aG),ys[i]?=some y->ks[i]?=some k->vg G.K H y k)/\
  ∀p,H p=none->Q (.ref p) (upd H p (.lst ((ve (λi j=>pX (ks.getD i []) (ks.getD j [])) ys.length).map λi=>ys.getD i V.non)))):=by rw[<-hK];exact DH hu
end
end L4
namespace L4
open PySem PySem.Spec PyProof.Rows L2 L3
section
variable{X:Cx}{G:Bg}
theorem Ou:OpD G (λx y H Q=>∃z n,x=.str z/\y=.int n/\MulOk z n/\Q (.str (gE z n)) H) EH:=λx y z H0 H v u Q e s rx ry k=>by
 unfold EH at e;split at e
 ·rename_i a n;split at e
  ·rename_i hl;obtain⟨h0,h1,h2⟩:=hl;cases e;unfold Rep at rx ry;refine⟨a,n,rx,ry,⟨?_,λh3 h4 h5=>?_,λh3 h4=>?_⟩,k _ λ_ _=>va _⟩
   ·rw[jv];exact⟨aO (by omega),aO (by omega)⟩
   ·have hn:(0:Int)<n:=by omega
    have q:(9223372036854775807:Int) / n >= 9223372036854775:=by have:=Int.le_ediv_of_mul_le (a:=9223372036854775) (b:=9223372036854775807) hn (by omega);exact this
    have:((2:Int) ^ 63 - 1)=9223372036854775807:=by decide
    rw[this]at h5;omega
   ·have hn:n.toNat<=1000:=by omega
    have:a.length * n.toNat<=100 * 1000:=Nat.mul_le_mul h2 hn;refine aO ?_;rw[bK];omega
  ·cases e
 ·cases e
end
def HD:List String:=["NoneType", "bool", "int", "str", "tuple", "list", "dict"]
def CB(n c:Nat):Ty->Option Bool:=λy=>match y with
 |.b x=>if HD.contains x=true then some false else none
 |.c k=>if k<n then some (k==c)else none
def Ah(K:ao)(cs:List Addr)(C:Addr)(c:Nat):Bool:=
 HD.all (λx=>cA K (.type x) (.ref C)==some false)&&(bg cs.length).all λk=>cA K (.ref (cs.getD k 0)) (.ref C)==some (k==c)
theorem CC{B:Bg}{n c:Nat}{cs:List Addr}(h:Ah B.K cs (B.ca c) c=true)(hn:cs.length=n)(hc:∀k,k<n->cs.getD k 0=B.ca k)(hI:∀k,k<n->IT B.K (B.ca k)):F4 B c (CB n c):=by
 unfold Ah at h;rw[bo,bB,bB]at h;refine⟨λy b e=>?_,λj b e=>?_⟩
 ·cases y with
  |b x=>
   unfold CB at e;simp only at e;split at e
   ·rename_i hx;cases e;exact eJ (h.1 x (lR.mp hx))
   ·cases e
  |c k=>
   unfold CB at e;simp only at e;split at e
   ·rename_i hk;cases e;have:=eJ (h.2 k (cm.mpr (by omega)));rw[hc k hk]at this;exact this
   ·cases e
 ·unfold CB at e;simp only at e;split at e
  ·rename_i hk;exact hI j hk
  ·cases e
theorem Rr{l:List Addr}(h:l.Nodup){j k:Nat}(hj:j<l.length)(hk:k<l.length)(e:l.getD j 0=l.getD k 0):j=k:=by
 rw[bH,bH,aI hj,aI hk]at e;have pw:=fg.mp h;rcases iq j k with y|y|y
 ·exact aq e (pw j k hj hk y)
 ·exact y
 ·exact aq e.symm (pw k j hk hj y)
section
variable{B:Bg}{K:ao}{mg:Str->Option aa}{h:Heap}
theorem const_int{x:Str}{i:Int}{t:Tok}(X:K.In h)(Gn:h.Ns mainGlobals mg)(e:gK K mainGlobals x=some (some (.int i t))):wK B mg x (.int i):=
 ⟨.int i,_,jf X Gn e,⟨_,rfl⟩,λ_=>ql _⟩
inductive vm:List aa->aG->Prop
 |nil:vm [] []
 |cons {v:aa} {x:Str} {t:Tok} {vs:List aa} {xs:aG} (e:v=.str x t) (h:vm vs xs):vm (v::vs) (x::xs)
theorem vm.vals{vs:List aa}{xs:aG}(h:vm vs xs):Vals (xs.map V.str) vs:=by
 induction h with
 |nil=>exact .nil
 |cons e h ih=>exact .cons ⟨_,e⟩ ih
theorem A6{H:Hp}:∀xs:aG,nZ B H (xs.map D.str) (xs.map V.str)
 |[]=>oO
 |x::xs=>oJ (va x) (A6 xs)
theorem Gi{x:Str}{a:Addr}{o:Obj}{its:Array aa}{n:Nat}(xs:aG)(X:B.K.In h)(Gn:h.Ns mainGlobals mg)(e:gK B.K mainGlobals x=some (some (.ref a)))(l:B.K.lookup a=some o)(hc:o.cls=.type "tuple")(hd:o.data=.seq its n)(hz:its.size<=1000)
  (r:vm its.toList xs):wK B mg x (.tup (xs.map D.str)):=
 ⟨.ref a,_,jf X Gn e,rfl,λH=>sS (.inr ⟨o,its,n,l,hc,hd,by rw[bK];omega,r.vals⟩) (A6 xs)⟩
end
variable{ns:aG}{np:Nat}{b:FS}
section
variable{f g' h:FS}{c:FT}{e e' e2:FE}{a a':FA}{ρ ρ' ρ1 ρ2 ρ3:aU}{d x y z:D}{ds xs ys:aC}{k:Nat}{cap:List Nat}{g:FG}{ft:FT}{fe:FE}
theorem A7{α:Type}(dd:α->D)(p:α->Bool)(h:α->D):∀l:List α,
  (∀a∈l,∃ρ1 ρ2,g (dd a) (xw k cap ρ)=some ρ1/\ft ρ1=some (p a,ρ2)/\(p a=true->∃ρ3,fe ρ2=some (h a,ρ3)/\rf cap (ρ3.drop k) ρ=some ρ)/\(p a=false->rf cap (ρ2.drop k) ρ=some ρ))->
  rW k cap g ft fe (l.map dd) ρ=some ((l.filter p).map h,ρ)
 |[],_=>rfl
 |a::l,st=>by
  obtain⟨ρ1,ρ2,h1,h2,h3,h4⟩:=st a aS;have ih:=A7 dd p h l λa' ha=>st a' (ba _ ha);rw[ar];unfold rW;rw[h1];simp only[h2];cases hp:p a with
  |true=>obtain⟨ρ3,h5,h6⟩:=h3 hp;simp only[h5,h6,ih,f6,hp,if_true,ar]
  |false=>simp only[h4 hp,ih,f6,hp];rfl
theorem DJ{α:Type}(dd:α->D)(h:α->D)(l:List α)(st:∀a∈l,∃ρ1 ρ3,g (dd a) (xw k cap ρ)=some ρ1/\fe ρ1=some (h a,ρ3)/\rf cap (ρ3.drop k) ρ=some ρ):rW k cap g pF fe (l.map dd) ρ=some (l.map h,ρ):=by have:=A7 (ft:=pF) dd (λ_=>true) h l λa ha=>let ⟨ρ1,ρ3,h1,h2,h3⟩:=st a ha;⟨ρ1,ρ1,h1,rfl,λ_=>⟨ρ3,h2,h3⟩,λz=>by cases z⟩;rw[this,jA.mpr λ_ _=>rfl]
theorem vo(neg:Bool)(a b:Str):dEq neg (.str a) (.str b)=some (.bl (if neg then !decide (a=b)else decide (a=b))):=by
 have e:BP neg (.str a) (.str b)=some (.bl (if neg then !decide (V.str a=V.str b)else decide (V.str a=V.str b))):=rfl;have e2:decide (V.str a=V.str b)=decide (a=b):=by
  by_cases h:a=b
  ·subst h;simp
  ·rw[aO h,aO (λz=>h (by injection z))]
 unfold dEq;rw[e,e2]
theorem Lu(a:Str)(l:aG):inV (V.str a) (l.map V.str)=decide (a∈l):=by
 unfold inV;rw[de,fq,bR];constructor
 ·rintro⟨v,hv,he⟩;obtain⟨b,hb,rfl⟩:=aL.mp hv;have:b=a:=by unfold eqV at he;simpa using he
  rw[<-this];exact hb
 ·intro ha;refine⟨.str a,cg ha,?_⟩;unfold eqV;simp
theorem Jl(l:aG):(l.map D.str).all qQ=true:=by rw[nr,bB];intro x _;rfl
theorem Ov(l:aG):(l.map D.str).map vD=l.map V.str:=by rw[aK];rfl
theorem A8(neg:Bool)(a:Str)(l:aG):dIn neg (.str a) (.lst (l.map D.str))=some (.bl (if neg then !decide (a∈l)else decide (a∈l))):=by unfold dIn;show (if qQ (.str a)&&(l.map D.str).all qQ then some (D.bl (if neg then !inV (vD (.str a)) ((l.map D.str).map vD)else inV (vD (.str a)) ((l.map D.str).map vD)))else none)=_;rw[Jl,Ov];show some (D.bl (if neg then !inV (V.str a) (l.map V.str)else inV (V.str a) (l.map V.str)))=_;rw[Lu]
theorem EY(neg:Bool)(a:Str)(l:aG):dIn neg (.str a) (.tup (l.map D.str))=some (.bl (if neg then !decide (a∈l)else decide (a∈l))):=A8 neg a l
theorem DK:∀bs:List Bool,BQ (bs.map D.bl)=some bs
 |[]=>rfl
 |b::bs=>by rw[ar];unfold BQ;rw[DK bs];rfl
theorem Lv(bs:List Bool):tE (.lst (bs.map D.bl))=some (.bl (bs.all id)):=by unfold tE;simp only[DK];rfl
theorem Lw(bs:List Bool):AR (.lst (bs.map D.bl))=some (.bl (bs.any id)):=by unfold AR;simp only[DK];rfl
theorem DL{α:Type}(l:List α)(p:α->Bool):tE (.lst (l.map λa=>D.bl (p a)))=some (.bl (l.all p)):=by rw[show (l.map λa=>D.bl (p a))=(l.map p).map D.bl by rw[aK];rfl,Lv,nr];rfl
theorem Ow{α:Type}(l:List α)(p:α->Bool):AR (.lst (l.map λa=>D.bl (p a)))=some (.bl (l.any p)):=by rw[show (l.map λa=>D.bl (p a))=(l.map p).map D.bl by rw[aK];rfl,Lw,List.any_map];rfl
theorem A9:∀l:aG,xb (l.map D.str)=some (l.map Sum.inr)
 |[]=>rfl
 |x::l=>by rw[ar];unfold xb;rw[A9 l];rfl
theorem Lx:∀(l acc:List Key),(acc++l).Nodup->l.foldl ddp acc=acc++l
 |[],acc,_=>by rw[bz];rfl
 |k::l,acc,h=>by
  have hn:acc.any (λz=>decide (z=k))=false:=by rw[ip];intro z;obtain⟨y,hy,ey⟩:=fq.mp z;rw[bO]at h;exact h.2.2 y hy k aS (bA ey)
  rw[mS,show ddp acc k=acc++[k] by unfold ddp;rw[hn];rfl,Lx l (acc++[k]) (by simpa using h)];simp
theorem tf{l:aG}(h:l.Nodup):(l.map (Sum.inr:Str->Key)).Nodup:=by unfold List.Nodup at h ⊢;rw[mE];exact h.imp λhne z=>hne (kl z)
theorem zB{l:aG}(h:l.Nodup)(hl:l.length<=1000):rM (l.map D.str)=some (.int l.length):=by unfold rM;rw[A9];simp only[ah,hl,if_true];unfold tU;rw[Lx _ [] (by simpa using tf h)];simp
theorem ud(neg:Bool)(a b:Int):dEq neg (.int a) (.int b)=some (.bl (if neg then !decide (a=b)else decide (a=b))):=by
 have e:BP neg (.int a) (.int b)=some (.bl (if neg then !decide (V.int a=V.int b)else decide (V.int a=V.int b))):=rfl;have e2:decide (V.int a=V.int b)=decide (a=b):=by
  by_cases h:a=b
  ·subst h;simp
  ·rw[aO h,aO (λz=>h (by injection z))]
 unfold dEq;rw[e,e2]
theorem pO(h1:e ρ=some (.bl true,ρ1)):ro e e' ρ=e' ρ1:=by unfold ro;rw[h1]
theorem pK{g:Nat->Option (aC->Option D)}{m:Str}{c:Nat}{hh:aC->Option D}(h1:e ρ=some (.obj c ns xs,ρ1))(h2:g c=some hh)(h3:ns.contains m=false)(h4:a ρ1=some (ys,ρ2))(h5:hh (.obj c ns xs::ys)=some d):pj g m e a ρ=some (d,ρ2):=by unfold pj;rw[h1];simp only[h2,h3,h4,h5];rfl
theorem Ox{c:Nat}{g:aC->Option (aG×aC)}(h1:a ρ=some (ds,ρ1))(h2:g ds=some (ns,xs)):pb c g a ρ=some (.obj c ns xs,ρ1):=by unfold pb;rw[h1];simp only[h2]
theorem wa{n:Nat}(hl:ds.length=np)(h:b (L4.stE n ds)=some (.nx ρ)):fnD np n b ds=some .non:=by unfold fnD;rw[ai hl,h]
theorem Gj{n:Nat}(hl:ds.length=np)(h:b (L4.stE n ds)=some (.rn xs ρ)):fnD np n b ds=some (.lst xs):=by unfold fnD;rw[ai hl,h]
theorem ym:∀{ks:List Key} {ds:aC} {k:Key} {d:D},ks.Nodup->(k,d)∈ks.zip ds->rX ks ds k=some d
 |[],_,k,d,_,h=>by simp at h
 |k'::ks,[],k,d,_,h=>by simp at h
 |k'::ks,d'::ds,k,d,nd,h=>by
  unfold rX;rw[dc]at h;rcases aP.mp h with e|h
  ·cases e;rw[ai rfl]
  ·rw[bV]at nd;rw[aj (λz=>nd.1 (by subst z;exact(iC h).1))];exact ym nd.2 h
theorem CD:∀{ks:List Key} {ds:aC} {k:Key},k∉ks->rX ks ds k=none
 |[],ds,k,_=>by unfold rX;rfl
 |k'::ks,[],k,_=>by unfold rX;rfl
 |k'::ks,d'::ds,k,h=>by unfold rX;rw[aj (λz=>h (by subst z;exact aS))];exact CD λz=>h (ba _ z)
end
end L4
namespace L4
open PySem PySem.Spec PyProof.Rows L2 L3
open PySem.W (nsIn findIn keepIn isFn makesIn fnOf)
def Gk{α:Type}:Nat->(List α->Prop)->Prop
 |0,P=>P []
 |n+1,P=>∀a,Gk n λl=>P (a::l)
theorem Ai{α:Type}:∀{n:Nat} {P:List α->Prop},Gk n P->∀l,l.length=n->P l
 |0,P,h,[],_=>h
 |n+1,P,h,a::l,e=>Ai (P:=λl=>P (a::l)) (h a) l (iN e)
structure CF(K:ao)(C:Addr)(xs:aG):Prop where
 ci:IT K C
 mks:makesIn K C=true
 kp:keepIn K (.ref C)=true
 na:(xs.all λx=>match findIn K (.ref C) x with|some none=>true|_=>false)=true
theorem CF.at{K:ao}{C:Addr}{xs:aG}(c:CF K C xs)(i:Nat){x:Str}(h:xs[i]?=some x):Cls K C/\tw K C x:=⟨c.ci.cl,by
 have e:=bB.mp c.na x (cu h);unfold tw;split at e
 ·rename_i e1;exact e1
 ·cases e⟩
variable{i:Nat}
theorem vW{Q:Nat->Prop}(h:Q i):∀c,(c==i)=true->Q c:=λc e=>by rw[beq_iff_eq]at e;subst e;exact h
theorem orQ{Q:Nat->Prop}{p:Nat->Bool}(h:∀c,p c=true->Q c)(h':Q i):∀c,(p c||c==i)=true->Q c:=λc e=>by
 rw[mQ]at e;rcases e with e|e
 ·exact h c e
 ·exact vW h' c e
structure Yw(P:aA)(w:av)(mg:Str->Option aa)(base:Heap)(G:Bg):Prop where
 m:∃h:Heap,G.K.In h/\h.Ns mainGlobals mg
variable{np:Nat}{b:FS}{vs:bp}{us:List aa}
section
variable{P:aA}{w:av}{mg:Str->Option aa}{base:Heap}{G:Bg}{x m qual:Str}{st:Stmt}{N ps:aG}{k c:Nat}{K:ao}
theorem Yw.g(y:Yw P w mg base G){v:aa}(e:nsIn G.K mainGlobals x=some (some v)):mg x=some v:=by obtain⟨h,X,Gn⟩:=y.m;exact jf X Gn e
theorem Yw.n(y:Yw P w mg base G){xs:aG}(h:(xs.all λx=>match nsIn G.K mainGlobals x with|some none=>true|_=>false)=true)(i:Nat)(hi:xs[i]?=some x):mg x=none:=by
 obtain⟨hh,X,Gn⟩:=y.m;have e:=bB.mp h x (cu hi);split at e
 ·rename_i e1;exact W.mg_none_of X Gn e1
 ·cases e
def GC(K:ao)(x:Str)(i:Int):Prop:=∃t:Tok,nsIn K mainGlobals x=some (some (.int i t))
theorem Yw.ci(y:Yw P w mg base G){i:Int}(q:GC G.K x i):wK G mg x (.int i):=by obtain⟨h,X,Gn⟩:=y.m;obtain⟨t,e⟩:=q;exact const_int X Gn e
def GS(K:ao)(x:Str)(xs:aG):Prop:=∃(a:Addr) (o:Obj) (its:Array aa) (n:Nat),nsIn K mainGlobals x=some (some (.ref a))/\K.lookup a=some o/\o.cls=.type "tuple" /\ o.data=.seq its n/\its.size<=1000/\vm its.toList xs
theorem Yw.cs(y:Yw P w mg base G){xs:aG}(q:GS G.K x xs):wK G mg x (.tup (xs.map D.str)):=by obtain⟨h,X,Gn⟩:=y.m;obtain⟨a,o,its,n,e,l,h1,h2,h3,h4⟩:=q;exact Gi xs X Gn e l h1 h2 h3 h4
def GD(K:ao)(x:Str)(st:Stmt):Prop:=∃(f:Addr) (fd:bL),nsIn K mainGlobals x=some (some (.ref f))/\Fun K x x st f fd
def GM(K:ao)(C:Addr)(m qual:Str)(st:Stmt):Prop:=∃(f:Addr) (fd:bL),findIn K (.ref C) m=some (some (.ref f))/\isFn K (.ref f)=true/\Fun K m qual st f fd
def GJ(K:ao)(C:Addr)(qual:Str)(st:Stmt)(vs:bp):Prop:=∃(f:Addr) (fd:bL) (T:Addr) (o:Obj) (dl:List aa) (n:Nat),findIn K (.ref C) "__init__" = some (some (.ref f))/\isFn K (.ref f)=true/\ID K "__init__" qual st f fd T/\K.lookup T=some o/\o.data=.seq dl.toArray n/\Vals vs dl
abbrev Bdy(P:aA)(w:av)(K:ao)(mg:Str->Option aa)(base:Heap)(N:aG)(qual:Str)(st:Stmt)(k:Nat)(t:TS):Prop:=∀(f:Addr) (cdv:aa) (A:aE) (outer:List Env) (s:ae) (H:Hp) (E:XK),qa k (A.deeper (envOfC qual (ou st) s.heap.objs.size f cdv))->PSs (xa P w K mg base N qual st f cdv A outer s H E) (oY st) t
abbrev Bds(x qual:Str)(st:Stmt)(ps:aG):Prop:=Gk ps.length λus=>∀(kV doc pm:aa) (an:Option Addr) (cdv ct:aa),bindArgs (fnOf x qual (tW st) (oY st) (ou st) .none kV doc pm an cdv ct) ⟨us,[]⟩=pure (ps.zip us)
theorem Bds.ok{f:Addr}{fd:bL}(b:Bds x qual st ps)(F:Fun K x qual st f fd):Binds K fd ps []:=F.binds λkV doc pm an cdv ct us hl=>Ai b us hl kV doc pm an cdv ct
theorem gD{sp:Sp}(y:Yw P w mg base G)(q:GD G.K x st)(bd:Bds x x st ps)(ok:∀f fd,Fun G.K x x st f fd->sF P w G.K mg base CX0 k f fd ps sp):uL P w G.K mg base k x ps sp:=by obtain⟨f,fd,a,F⟩:=q;exact⟨f,fd,y.g a,F.kp,bd.ok F,ok f fd F⟩
theorem gF{n:Nat}{g:aC->Option D}(hg:g=fnD np n b)(y:Yw P w mg base G)(q:GD G.K x st)(S:pV N ps (ou st))(body:Bdy P w G.K mg base N x st k (tFS G b))(hp:ps.length=np:=by rfl)(hN:N.length=n:=by rfl)(bd:Bds x x st ps:=by (repeat intro _);rfl):uL P w G.K mg base (k+1) x ps (spF G g):=
 gD y q bd λf fd F=>Hn hg hp hN F S (body f)
theorem gN'{n:Nat}{g:aC->Option aC}(hg:g=fnN np n b)(y:Yw P w mg base G)(q:GD G.K x st)(S:pV N ps (ou st))(body:Bdy P w G.K mg base N x st k (tFS G b))(hp:ps.length=np:=by rfl)(hN:N.length=n:=by rfl)(bd:Bds x x st ps:=by (repeat intro _);rfl):uL P w G.K mg base (k+1) x ps (spN G g):=
 gD y q bd λf fd F=>UN hg hp hN F S (body f)
theorem gM{n:Nat}{g:aC->aC->Option (D×aC)}{p:Str}(hg:g=fnM np n b)(y:Yw P w mg base G)(q:GD G.K x st)(S:pV N (p::ps) (ou st))(body:Bdy P w G.K mg base N x st k (tFS G b))(hp:ps.length=np:=by rfl)(hN:N.length=n:=by rfl)(bd:Bds x x st (p::ps):=by (repeat intro _);rfl):uL P w G.K mg base (k+1) x (p::ps) (spM G g):=
 gD y q bd λf fd F=>UO hg hp hN F S (body f)
theorem gL{n:Nat}{g:aC->aC->Option (D×aC)}(hg:g=fnL np n b)(y:Yw P w mg base G)(q:GD G.K x st)(S:pV N ps (ou st))(body:Bdy P w G.K mg base N x st k (tFS G b))(hp:ps.length=np+1:=by rfl)(hN:N.length=n:=by rfl)(bd:Bds x x st ps:=by (repeat intro _);rfl):uL P w G.K mg base (k+1) x ps (spL G g):=
 gD y q bd λf fd F=>UZ hg hp hN F S (body f)
theorem gI{n:Nat}{g:aC->Option (aG×aC)}{xs:aG}{p:Str}(hg:g=fnI c np n b)(y:Yw P w mg base G)(C:CF G.K (G.ca c) xs)(a:nsIn G.K mainGlobals x=some (some (.ref (G.ca c))))(q:GM G.K (G.ca c) "__init__" qual st)(S:pV N (p::ps) (ou st))(body:Bdy P w G.K mg base N qual st k (tFS G b))(hp:ps.length=np:=by rfl)(hN:N.length=n:=by rfl)(bd:Bds "__init__" qual st (p::ps):=by (repeat intro _);rfl):Dx G P w mg base (k+1) x c (p::ps) [] g:=by obtain⟨f,fd,i,i',F⟩:=q;exact⟨f,fd,[],⟨C.mks,i,i',C.kp⟩,y.g a,bd.ok F,.nil,UP hg hp hN F S (body f)⟩
theorem EZ(h:Vals vs us):us.length=vs.length:=by
 induction h with
 |nil=>rfl
 |cons _ _ ih=>rw[aF,aF,ih]
theorem Jm(h:Vals vs us):∀j,Vals (vs.drop j) (us.drop j):=by
 induction h with
 |nil=>intro j;rw[ng,ng];exact .nil
 |cons a b ih=>
  intro j;cases j with
  |zero=>exact .cons a b
  |succ j=>exact ih j
theorem gJ{n:Nat}{g:aC->Option (aG×aC)}{xs:aG}{p:Str}(hg:g=fnI c np n b)(y:Yw P w mg base G)(C:CF G.K (G.ca c) xs)(a:nsIn G.K mainGlobals x=some (some (.ref (G.ca c))))(q:GJ G.K (G.ca c) qual st vs)(S:pV N (p::ps) (ou st))(body:Bdy P w G.K mg base N qual st k (tFS G b))(j:Nat)(hp:ps.length=np:=by rfl)(hN:N.length=n:=by rfl)
  (bd:Gk vs.length λdl=>Gk ((p::ps).length - (vs.drop j).length) λus=>∀(T:Addr) (kV doc pm:aa) (an:Option Addr) (cdv ct:aa),∃k,bindArgs (fnOf "__init__" qual (tW st) (oY st) (ou st) (.ref T) kV doc pm an cdv ct) ⟨us,[]⟩=seqItems? (.ref T)>>=k/\k (some dl.toArray)=pure ((p::ps).zip (us++dl.drop j)):=by (repeat intro _);exact⟨_,rfl,rfl⟩):Dx G P w mg base (k+1) x c (p::ps) (vs.drop j) g:=by
 obtain⟨f,fd,T,o,dl,n,i,i',F,l,e,r⟩:=q;refine⟨f,fd,dl.drop j,⟨C.mks,i,i',C.kp⟩,y.g a,F.binds l e λkV doc pm an cdv ct us hl=>?_,Jm r j,Q6 hg hp hN F S (body f)⟩;exact Ai (Ai bd dl (EZ r)) us (by rw[hl,bM,bM,EZ r]) T kV doc pm an cdv ct
end
end L4
namespace L4
open PySem PySem.Spec PyProof.Rows L2 L3
section
variable{X:Cx}{G:Bg}{pins:bY}{σ:St}{H:Hp}{s:ae}
def E1:D->Option D
 |.int i=>some (.int (-i))
 |_=>none
theorem Rt{a:Expr}{f:FE}{pos:Pos}(ha:PE X a (tF G f)):PE X (.UnaryOp .USub a pos) (tF G (c1 E1 f)):=PE.weak (Ua Qf ha) λσ H Q hh=>by
 obtain⟨F,ρ,H0,d,ρ',R,e,k⟩:=hh;unfold c1 at e;split at e
 ·rename_i x ρ1 e1;cases x with
  |int i=>simp only[E1]at e;cases e;refine⟨F,ρ,H0,_,_,R,e1,λv H1 H1' s R' r=>?_⟩;unfold Rep at r;subst r;exact⟨i,rfl,k _ H1 H1' s R' (ql _)⟩
  |_=>simp only[E1]at e;cases e
 ·cases e
end
section
variable{P:aA}{w:av}{mg:Str->Option aa}{base:Heap}{G:Bg}{x m qual:Str}{st:Stmt}{N ps:aG}{k c:Nat}
abbrev Bdi(P:aA)(w:av)(K:ao)(mg:Str->Option aa)(base:Heap)(N:aG)(qual:Str)(st:Stmt)(k:Nat)(t:TS):Prop:=∀{f:Addr} {cdv:aa} {A:aE} {outer:List Env} {s:ae} {H:Hp} {E:XK},qa k (A.deeper (envOfC qual (ou st) s.heap.objs.size f cdv))->PSs (xa P w K mg base N qual st f cdv A outer s H E) (oY st) t
end
end L4
namespace L4
open PySem PySem.Spec PySem.Calls PyProof.Rows PySem.W L2 L3
theorem tm{α β:Type}{c:Nat->Nat->Bool}{f:α->KasT β}:∀t:KasT α,pQ c (t.bind f)=pQ c (f (pQ c t))
 |.ret a=>rfl
 |.ask i j k=>tm (k (c i j))
structure Sto(c:Nat->Nat->Bool)(n:Nat):Prop where
 tr:∀i j k,i<n->j<n->k<n->c i j=true->c j k=true->c i k=true
 tot:∀i j,i<n->j<n->i≠j->c i j=false->c j i=true
def Asc(c:Nat->Nat->Bool)(p:Array Nat)(k:Nat):Prop:=∀i j,i<j->j<k->c (p.getD i 0) (p.getD j 0)=true
def Dsc(c:Nat->Nat->Bool)(p:Array Nat)(k:Nat):Prop:=∀i j,i<j->j<k->c (p.getD j 0) (p.getD i 0)=true
variable{p:Array Nat}
theorem zC(i:Nat):p.getD i 0=p[i]?.getD 0:=Array.getD_eq_getD_getElem? ..
theorem pe.size{n:Nat}(h:pe n p):p.size=n:=by have:=h.length_eq;rw[dw,cE]at this;exact this
theorem pe.ne{n:Nat}(h:pe n p){i j:Nat}(hi:i<n)(hj:j<n)(e:i≠j):p.getD i 0≠p.getD j 0:=by
 have nd:p.toList.Nodup:=h.nodup_iff.mpr List.nodup_range;have hs:=h.size;rw[zC,zC,hG (by omega),hG (by omega)];have pw:=fg.mp nd;intro z;rcases iq i j with y|y|y
 ·exact pw i j (by rw[cE];omega) (by rw[cE];omega) y (by simpa using z)
 ·exact e y
 ·exact pw j i (by rw[cE];omega) (by rw[cE];omega) y (by simpa using z.symm)
section
variable{c:Nat->Nat->Bool}{n:Nat}(o:Sto c n)(hn:0<n)
include o hn
theorem Asc.snoc{p:Array Nat}(h:pe n p){k:Nat}(h1:1<=k)(hk:k<n)(a:Asc c p k)(e:c (p.getD (k - 1) 0) (p.getD k 0)=true):Asc c p (k+1):=λi j hij hj=>by
 by_cases hjk:j=k
 ·subst hjk;by_cases hi:i=j - 1
  ·rw[hi];exact e
  ·exact o.tr _ _ _ (h.getD hn _) (h.getD hn _) (h.getD hn _) (a i (j - 1) (by omega) (by omega)) e
 ·exact a i j hij (by omega)
theorem Dsc.snoc{p:Array Nat}(h:pe n p){k:Nat}(h1:1<=k)(hk:k<n)(a:Dsc c p k)(e:c (p.getD k 0) (p.getD (k - 1) 0)=true):Dsc c p (k+1):=λi j hij hj=>by
 by_cases hjk:j=k
 ·subst hjk;by_cases hi:i=j - 1
  ·rw[hi];exact e
  ·exact o.tr _ _ _ (h.getD hn _) (h.getD hn _) (h.getD hn _) e (a i (j - 1) (by omega) (by omega))
 ·exact a i j hij (by omega)
theorem DM{p:Array Nat}(h:pe n p):∀f k,1<=k->k+f=n->Asc c p k->k<=pQ c (cK p f k)/\pQ c (cK p f k)<=n/\Asc c p (pQ c (cK p f k))/\(pQ c (cK p f k)<n->c (p.getD (pQ c (cK p f k)) 0) (p.getD (pQ c (cK p f k) - 1) 0)=true)
 |0,k,h1,e,a=>⟨az _,by show k<=n;omega,a,λz=>aq z (by show ¬k<n;omega)⟩
 |f+1,k,h1,e,a=>by
  have er:pQ c (cK p (f+1) k)=pQ c (if c (p.getD k 0) (p.getD (k - 1) 0)=true then .ret k else cK p f (k+1)):=rfl;rw[er];cases q:c (p.getD k 0) (p.getD (k - 1) 0)with
  |true=>rw[ai rfl];exact⟨az _,by show k<=n;omega,a,λ_=>q⟩
  |false=>rw[aj (by decide)];have q':=o.tot _ _ (h.getD hn _) (h.getD hn _) (h.ne (by omega) (by omega) (by omega)) q;obtain⟨g1,g2⟩:=DM h f (k+1) (by omega) (by omega) (Asc.snoc o hn h h1 (by omega) a q');exact⟨by omega,g2⟩
theorem E2{p:Array Nat}(h:pe n p):∀f k,1<=k->k+f=n->Dsc c p k->∃m,pQ c (fH f p k 0)=(p,m,0)/\k<=m/\m<=n/\Dsc c p m
 |0,k,h1,e,a=>⟨k,rfl,az _,by omega,a⟩
 |f+1,k,h1,e,a=>by
  have er:pQ c (fH (f+1) p k 0)=pQ c (if c (p.getD k 0) (p.getD (k - 1) 0)=true then (if 0 > 0 then fH f (cX p (k - (0+1)) k) (k+1) 0 else fH f p (k+1) 0)else .ask (p.getD (k - 1) 0) (p.getD k 0) λd=>if d=true then .ret (p,k,0)else fH f p (k+1) (0+1)):=rfl;rw[er];cases q:c (p.getD k 0) (p.getD (k - 1) 0)with
  |true=>rw[ai rfl,aj (by decide)];obtain⟨m,g1,g2,g3,g4⟩:=E2 h f (k+1) (by omega) (by omega) (Dsc.snoc o hn h h1 (by omega) a q);exact⟨m,g1,by omega,g3,g4⟩
  |false=>rw[aj (by decide)];have q':=o.tot _ _ (h.getD hn _) (h.getD hn _) (h.ne (by omega) (by omega) (by omega)) q;refine⟨k,?_,az _,by omega,a⟩;show pQ c (if c (p.getD (k - 1) 0) (p.getD k 0)=true then _ else _)=_;rw[ai q'];rfl
theorem Oy(h:pe n p){k:Nat}(hk:k<=n)(d:Dsc c p k):Asc c (cX p 0 k) k:=λi j hij hj=>by
 have hs:=h.size;have e:∀t,t<k->(cX p 0 k).getD t 0=p.getD (k - 1 - t) 0:=λt ht=>by rw[zC,zC];unfold cX;rw[getElem?_mirror_all (by omega),ai ⟨bW _,ht⟩,Nat.zero_add]
 rw[e i (by omega),e j hj];exact d _ _ (by omega) (by omega)
theorem Ly(h:pe n p){k:Nat}(h1:1<=k)(hk:k<=n)(d:Dsc c p k):1<=(pQ c (eK k n p)).1/\(pQ c (eK k n p)).1<=n/\Asc c (pQ c (eK k n p)).2 (pQ c (eK k n p)).1:=by unfold eK;rw[tm];obtain⟨g1,g2,g3,_⟩:=DM o hn (h.rev 0 k) (n - k) k h1 (by omega) (Oy o hn h hk d);exact⟨by show 1<=pQ c (cK (cX p 0 k) (n - k) k);omega,g2,g3⟩
theorem DN(h:pe n p){k:Nat}(h1:1<=k)(hk:k+1<=n)(d:Dsc c p (k+1)):1<=(pQ c (dJ k n p)).1/\(pQ c (dJ k n p)).1<=n/\Asc c (pQ c (dJ k n p)).2 (pQ c (dJ k n p)).1:=by unfold dJ;rw[tm];obtain⟨m,g1,g2,g3,g4⟩:=E2 o hn h (n - (k+1)) (k+1) (by omega) (by omega) d;rw[g1];show 1<=(pQ c (if 0 > 0 then _ else eK m n p)).1/\_;rw[aj (by decide)];exact Ly o hn h (by omega) g3 g4
theorem Jn(h:pe n p):1<=(pQ c (di n p)).1/\(pQ c (di n p)).1<=n/\Asc c (pQ c (di n p)).2 (pQ c (di n p)).1:=by
 unfold di;rw[tm];obtain⟨g1,g2,g3,g4⟩:=DM o hn h (n - 1) 1 (az _) (by omega) (λi j hij hj=>by omega);generalize pQ c (cK p (n - 1) 1)=m at g1 g2 g3 g4;by_cases e:m=n
 ·rw[ai (by rw[beq_iff_eq];exact e)];exact⟨g1,g2,g3⟩
 ·rw[aj (by rw[beq_iff_eq];exact e)];by_cases e1:m > 1
  ·rw[ai e1];have er:pQ c (.ask (p.getD 0 0) (p.getD (m - 1) 0) λb=>if b=true then .ret (m,p)else dJ m n (cX p 0 m))=pQ c (if c (p.getD 0 0) (p.getD (m - 1) 0)=true then .ret (m,p)else dJ m n (cX p 0 m)):=rfl;rw[er,ai (g3 0 (m - 1) (by omega) (by omega))];exact⟨g1,g2,g3⟩
  ·rw[aj e1];have e2:m=1:=by omega
   subst e2;refine DN o hn h (az _) (by omega) λi j hij hj=>?_;have:i=0/\j=1:=by omega
   obtain⟨rfl,rfl⟩:=this;exact g4 (by omega)
theorem y4{p:Array Nat}(h:pe n p){k:Nat}(hk:k<n)(a:Asc c p k):∀f l r,l<=r->r<=k->r - l<=f->(∀i,i<l->c (p.getD i 0) (p.getD k 0)=true)->(∀i,r<=i->i<k->c (p.getD k 0) (p.getD i 0)=true)->
  pQ c (fF p k f l r)<=k/\(∀i,i<pQ c (fF p k f l r)->c (p.getD i 0) (p.getD k 0)=true)/\∀i,pQ c (fF p k f l r)<=i->i<k->c (p.getD k 0) (p.getD i 0)=true
 |0,l,r,h1,h2,h3,h4,h5=>⟨by show l<=k;omega,h4,λi hi=>h5 i (by have:l<=i:=hi;omega)⟩
 |f+1,l,r,h1,h2,h3,h4,h5=>by
  unfold fF;by_cases e:l >= r
  ·rw[ai e];exact⟨by show l<=k;omega,h4,λi hi=>h5 i (by have:l<=i:=hi;omega)⟩
  ·rw[aj e];show pQ c (if c (p.getD k 0) (p.getD ((l+r) / 2) 0)=true then _ else _)<=k/\(∀i,i<pQ c (if c (p.getD k 0) (p.getD ((l+r) / 2) 0)=true then _ else _)->_)/\∀i,pQ c (if c (p.getD k 0) (p.getD ((l+r) / 2) 0)=true then _ else _)<=i->_;have hm:(l+r) / 2<r:=by omega
   have hm':l<=(l+r) / 2:=by omega
   generalize (l+r) / 2=m at hm hm';cases q:c (p.getD k 0) (p.getD m 0)with
   |true=>
    rw[ai rfl];refine y4 h hk a f l m hm' (by omega) (by omega) h4 λi hi hik=>?_;by_cases z:i=m
    ·rw[z];exact q
    ·exact o.tr _ _ _ (h.getD hn _) (h.getD hn _) (h.getD hn _) q (a m i (by omega) hik)
   |false=>
    rw[aj (by decide)];have q':=o.tot _ _ (h.getD hn _) (h.getD hn _) (h.ne hk (by omega) (by omega)) q;refine y4 h hk a f (m+1) r (by omega) h2 (by omega) (λi hi=>?_) h5;by_cases z:i=m
    ·rw[z];exact q'
    ·exact o.tr _ _ _ (h.getD hn _) (h.getD hn _) (h.getD hn _) (a i m (by omega) (by omega)) q'
theorem Oz(h:pe n p){k m:Nat}(hk:k<n)(hm:m<=k)(a:Asc c p k)(h4:∀i,i<m->c (p.getD i 0) (p.getD k 0)=true)(h5:∀i,m<=i->i<k->c (p.getD k 0) (p.getD i 0)=true):Asc c (bubble p k (k - m)) (k+1):=λi j hij hj=>by
 have hs:=h.size;have e:∀t,(bubble p k (k - m)).getD t 0=if t=m then p.getD k 0 else if m<t/\t<=k then p.getD (t - 1) 0 else p.getD t 0:=λt=>by
  rw[zC,getElem?_bubble (by omega) _ (by omega),show k - (k - m)=m by omega]
  repeat' split
  all_goals rw[zC]
 rw[e,e];by_cases i1:i=m
 ·rw[ai i1,aj (by omega),ai (by omega)];exact h5 _ (by omega) (by omega)
 ·rw[aj i1];by_cases j1:j=m
  ·rw[ai j1,aj (by omega)];exact h4 _ (by omega)
  ·rw[aj j1];by_cases i2:m<i/\i<=k
   ·rw[ai i2,ai (by omega)];exact a _ _ (by omega) (by omega)
   ·rw[aj i2];by_cases j2:m<j/\j<=k
    ·rw[ai j2];exact a _ _ (by omega) (by omega)
    ·rw[aj j2];exact a _ _ (by omega) (by omega)
theorem HE:∀f (p:Array Nat) k,pe n p->1<=k->k+f=n->Asc c p k->Asc c (pQ c (kas_bin f p k)) n
 |0,p,k,h,h1,e,a=>by have:k=n:=e;subst this;exact a
 |f+1,p,k,h,h1,e,a=>by unfold kas_bin;rw[tm];obtain⟨g1,g2,g3⟩:=y4 o hn h (k:=k) (by omega) a k 0 k (bW _) (az _) (by omega) (λi hi=>by omega) (λi hi hik=>by omega);exact HE f _ (k+1) (h.bub _ _) (by omega) (by omega) (Oz o hn h (by omega) g1 a g2 g3)
theorem LA:Asc c (pQ c (eO n)) n:=by
 unfold eO;rw[tm];have h0:pe n (gu (bg n)):=by unfold pe;exact iH _
 obtain⟨g1,g2,g3⟩:=Jn o hn h0;have hp:pe n (pQ c (di n (gu (bg n)))).2:=(Ct hn h0 n).run c _;by_cases e:(pQ c (di n (gu (bg n)))).1<n
 ·rw[ai e,Nat.max_eq_left g1];exact HE o hn _ _ _ hp g1 (by omega) g3
 ·rw[aj e];have e2:(pQ c (di n (gu (bg n)))).1=n:=by omega
  rw[e2]at g3;exact g3
end
end L4
namespace L4
open PySem PySem.Spec PyProof.Rows L2 L3
variable{i:Nat}{Q:aa->ae->Prop}{i1 i2:Addr}{ys:Array aa}
section
variable{prog:aA}{w:av}{A:aE}{E:aa->ae->Prop}{s:ae}
theorem Gm{j t:Addr}{xs:Array aa}{x:aa}(hj:s.heap.IsTupleIter j t i)(ht:s.heap.IsTuple t xs)(hx:xs[i]?=some x)
  (q:∀g,g.IsTupleIter j t (i+1)->eG j s.heap g->Q x { s with heap:=g }):wpAny (model prog w) A (dW (.ref j)) Q E s:=by
 obtain⟨ob,h0,hc,hd⟩:=id hj;obtain⟨ot,t0,_,nt,td⟩:=ht;unfold dW;refine ag (fi (name:=fE "__next__") hj.typeIs gY (dB gY hj.typeIs ll ?_ (lh _)));show wpAny _ _ (field (.ref j) 0>>=_) _ _ _;refine ag (cb h0 hd (x:=.ref t) rfl ?_);show wpAny _ _ (if (Value.ref t==Value.none)=true then _ else _) _ _ _;rw[aj (show ¬((Value.ref t==.none)=true) from bj)];show wpAny _ _ (field (.ref j) 1>>=_) _ _ _;refine ag (cb h0 hd (x:=.int i 0) rfl ?_);show wpAny _ _ (seqItems? (.ref t)>>=_) _ _ _;refine ag (df t0 td ?_);simp only[dY,hx];refine ag (wpAny_setField h0 hd (by simp) (au ⟨x,rfl,au (q _ ?_ (ic ..))⟩));exact⟨_,lQ _ h0 (Obj.isFreed_of_fields (mj hd _)),(Obj.cls_mapFields ..).trans hc,by rw[mj hd];simp[rawInt]⟩
theorem Jo{j t:Addr}{xs:Array aa}(hh:A.handled=none)(hj:s.heap.IsTupleIter j t i)(ht:s.heap.IsTuple t xs)(hx:xs[i]?=none)
  (q:∀g e,Heap.ExtBut j s.heap g->(∃o,g.get? e=some o/\o.cls=.type "StopIteration")->E (.ref e) { s with heap:=g }):wpAny (model prog w) A (dW (.ref j)) Q E s:=by
 obtain⟨ob,h0,hc,hd⟩:=id hj;obtain⟨ot,t0,_,nt,td⟩:=ht;unfold dW;refine ag (fi (name:=fE "__next__") hj.typeIs gY (dB gY hj.typeIs ll ?_ (lh _)));show wpAny _ _ (field (.ref j) 0>>=_) _ _ _;refine ag (cb h0 hd (x:=.ref t) rfl ?_);show wpAny _ _ (if (Value.ref t==Value.none)=true then _ else _) _ _ _;rw[aj (show ¬((Value.ref t==.none)=true) from bj)];show wpAny _ _ (field (.ref j) 1>>=_) _ _ _;refine ag (cb h0 hd (x:=.int i 0) rfl ?_);show wpAny _ _ (seqItems? (.ref t)>>=_) _ _ _;refine ag (df t0 td ?_);simp only[dY,hx];refine ag (iV (ag (wpAny_setField h0 hd (by simp) ?_)));show wpAny _ _ (newExc (.type "StopIteration") []>>=_) _ _ _;refine ag ?_;simp only[newExc,newTuple];refine ag (dZ ?_ (by size_fits));refine ag (m:=firstArgMember _ _) (wpAny_of_eq (a:=Value.none) (by first|rfl|(simp only[firstArgMember];rfl)) ?_);refine dZ ?_ (by size_fits);simp only[raiseNew];refine ag (wpAny_handled ?_)
 first|rw[show A.in1.handled=none from hh]|rw[hh]
 refine ag (au (wpAny_throw ?_));exact q _ _ (((ic ..).extBut.push _).push _) ⟨_,bq _ rfl,rfl⟩
theorem Gp{z TI TO t l:Addr}{k:Nat}{xs:Array aa}{x y a b:aa}(D:dN z TI TO i1 i2 t l)(hz:bX s.heap z TI TO .none)(hTI:bF s.heap TI (.ref i1) (.ref i2))(hTO:bF s.heap TO a b)(h1:s.heap.IsTupleIter i1 t k)(h2:s.heap.IsListIter i2 l k)(ht:s.heap.IsTuple t xs)(hl:s.heap.IsList l ys)(hx:xs[k]?=some x)(hy:ys[k]?=some y)
  (q:∀g,bX g z TI TO (rawInt s.heap.objs.size)->bF g TO x y->g.IsTupleIter i1 t (k+1)->g.IsListIter i2 l (k+1)->bF g s.heap.objs.size x y->g.objs.size=s.heap.objs.size+1->(∀c o,c≠z->c≠TO->c≠i1->c≠i2->s.heap.get? c=some o->g.get? c=some o)->Q (.ref s.heap.objs.size) { s with heap:=g }):
  wpAny (model prog w) A (cW.«zip.__next__» ⟨[.ref z],[]⟩) (λfin s'=>∃v,fin=.done (.ret v)/\Q v s') E s:=by
 show wpAny _ _ (field (.ref z) 2>>=_) _ _ s;refine ag (cb hz rfl (x:=.bool false) rfl ?_);show wpAny _ _ (field (.ref z) 3>>=_) _ _ s;refine ag (cb hz rfl (x:=.ref TI) rfl (ag (df hTI rfl ?_)));show wpAny _ _ (gX (.ref z)>>=_) _ _ s;refine ag ?_;unfold gX;refine ag (cb hz rfl (x:=.none) rfl (au ?_));simp only[if_true];refine ag (iV (ag (cb hz rfl (x:=.ref TO) rfl (ag (fU hz (by simp) λga za ka=>?_)))));replace za:bX ga z TI TO .ellipsis:=za;refine ag ?_;simp only[mM,mU,jR,m6];refine ag (ag (jY ?_));show wpAny _ _ (dW (.ref i1)>>=_) _ _ { s with heap:=ga };refine ag (Gm (h1.extBut ka.extBut D.i1z) (ht.extBut ka.extBut D.l1z) hx λgb jb kb=>au ?_);have tb:bF gb TO a b:=kb.extBut _ _ D.TOi1 (ka.extBut _ _ D.TOz hTO);refine ag (df tb rfl (ag (lX tb λgc tc kc=>?_)));replace tc:bF gc TO x b:=tc;refine ag (wpAny_letGo (au (ag (ag (jY ?_)))));show wpAny _ _ (dW (.ref i2)>>=_) _ _ { s with heap:=gc };refine ag (wpAny_nextOf_list_item (((h2.extBut ka.extBut D.i2z).extBut kb.extBut D.i12.symm).extBut kc.extBut D.TOi2.symm) (((hl.extBut ka.extBut D.l2z).extBut kb.extBut D.l2i1).extBut kc.extBut D.l2TO) hy λgd jd kd=>au ?_);have td:bF gd TO x b:=kd.extBut _ _ D.TOi2 tc;refine ag (df td rfl (ag (lX td λge te ke=>?_)));replace te:bF ge TO x y:=te;refine ag (wpAny_letGo (au (au (ag (df te rfl (ag (wpAny_newTuple ?_)))))));have sz:ge.objs.size=s.heap.objs.size:=by rw[ke.1,kd.1,kc.1,kb.1,ka.1]
 have ze:bX ge z TI TO .ellipsis:=ke.extBut _ _ D.TOz.symm (kd.extBut _ _ D.i2z.symm (kc.extBut _ _ D.TOz.symm (kb.extBut _ _ D.i1z.symm za)));have kk:∀c o,c≠z->c≠TO->c≠i1->c≠i2->s.heap.get? c=some o->ge.get? c=some o:=λc o c1 c2 c3 c4 e=>ke.extBut _ _ c2 (kd.extBut _ _ c4 (kc.extBut _ _ c2 (kb.extBut _ _ c3 (ka.extBut _ _ c1 e))));have j1:ge.IsTupleIter i1 t (k+1):=((jb.extBut kc.extBut D.TOi1.symm).extBut kd.extBut D.i12).extBut ke.extBut D.TOi1.symm;have j2:ge.IsListIter i2 l (k+1):=jd.extBut ke.extBut D.TOi2.symm;have zl:z<ge.objs.size:=aM ze;show wpAny _ _ (kZ (.ref z) (.ref ge.objs.size)>>=_) _ _ _;refine ag ?_;unfold kZ;have zf:bX (ge.push { cls:=.type "tuple", data:=.seq #[x,y] }) z TI TO .ellipsis:=aH _ ze;refine ag (fU zf (by simp) λgg zg kg=>?_);replace zg:bX gg z TI TO (rawInt ge.objs.size):=zg;refine fU zg (by simp) λgh zh kh=>?_;replace zh:bX gh z TI TO (rawInt ge.objs.size):=zh;have up:∀c o,c≠z->ge.get? c=some o->gh.get? c=some o:=λc o c1 e=>kh.extBut _ _ c1 (kg.extBut _ _ c1 (aH _ e));have tp:bF gh ge.objs.size x y:=kh.extBut _ _ (gn zl) (kg.extBut _ _ (gn zl) (bq _ rfl));have sh:gh.objs.size=ge.objs.size+1:=by rw[kh.1,kg.1,cF]
 rw[sz]at zh tp sh;refine au ⟨_,rfl,?_⟩;show Q (.ref ge.objs.size) { s with heap:=gh };rw[sz];obtain⟨o1,e1,r1⟩:=j1;exact q gh zh (up _ _ D.TOz te) ⟨o1,up _ _ D.i1z e1,r1⟩ (j2.at λo e=>up _ o D.i2z e) tp sh λc o c1 c2 c3 c4 e=>up c o c1 (kk c o c1 c2 c3 c4 e)
theorem Jp{z TI TO t l:Addr}{k:Nat}{xs:Array aa}{Q:PySem.Fin->ae->Prop}(hh:A.handled=none)(D:dN z TI TO i1 i2 t l)(hz:bX s.heap z TI TO .none)(hTI:bF s.heap TI (.ref i1) (.ref i2))(h1:s.heap.IsTupleIter i1 t k)(ht:s.heap.IsTuple t xs)(hx:xs[k]?=none)
  (q:∀g e,(∀c o,c≠z->c≠i1->s.heap.get? c=some o->g.get? c=some o)->(∃o,g.get? e=some o/\o.cls=.type "StopIteration")->E (.ref e) { s with heap:=g }):wpAny (model prog w) A (cW.«zip.__next__» ⟨[.ref z],[]⟩) Q E s:=by
 show wpAny _ _ (field (.ref z) 2>>=_) _ _ s;refine ag (cb hz rfl (x:=.bool false) rfl ?_);show wpAny _ _ (field (.ref z) 3>>=_) _ _ s;refine ag (cb hz rfl (x:=.ref TI) rfl (ag (df hTI rfl ?_)));show wpAny _ _ (gX (.ref z)>>=_) _ _ s;refine ag ?_;unfold gX;refine ag (cb hz rfl (x:=.none) rfl (au ?_));simp only[if_true];refine ag (iV (ag (cb hz rfl (x:=.ref TO) rfl (ag (fU hz (by simp) λga za ka=>?_)))));replace za:bX ga z TI TO .ellipsis:=za;refine ag ?_;simp only[mM,mU,jR,m6];refine ag (ag (jY ?_));show wpAny _ _ (dW (.ref i1)>>=_) _ _ { s with heap:=ga };refine ag (Jo hh (h1.extBut ka.extBut D.i1z) (ht.extBut ka.extBut D.l1z) hx λgb e kb he=>?_);obtain⟨oe,he1,he2⟩:=he;have zb:bX gb z TI TO .ellipsis:=kb _ _ D.i1z.symm za;have ne:e≠z:=λw=>by subst w;rw[zb]at he1;cases he1;simp at he2
 exact fU zb (by simp) λgc _ kc=>q gc e (λc o c1 c3 w=>kc.extBut _ _ c1 (kb _ _ c3 (ka.extBut _ _ c1 w))) ⟨oe,kc.extBut _ _ ne he1,he2⟩
theorem Gq{z TI TO t l:Addr}{k:Nat}{xs:Array aa}{x y a b:aa}{Q:Option aa->ae->Prop}(D:dN z TI TO i1 i2 t l)(hz:bX s.heap z TI TO .none)(hTI:bF s.heap TI (.ref i1) (.ref i2))(hTO:bF s.heap TO a b)(h1:s.heap.IsTupleIter i1 t k)(h2:s.heap.IsListIter i2 l k)(ht:s.heap.IsTuple t xs)(hl:s.heap.IsList l ys)(hx:xs[k]?=some x)(hy:ys[k]?=some y)
  (q:∀g,bX g z TI TO (rawInt s.heap.objs.size)->bF g TO x y->g.IsTupleIter i1 t (k+1)->g.IsListIter i2 l (k+1)->bF g s.heap.objs.size x y->g.objs.size=s.heap.objs.size+1->(∀c o,c≠z->c≠TO->c≠i1->c≠i2->s.heap.get? c=some o->g.get? c=some o)->Q (some (.ref s.heap.objs.size)) { s with heap:=g }):
  wpAny (model prog w) A (pyNext (.ref z)) Q E s:=by
 have T:s.TypeIs (.ref z) "zip" := ⟨_,hz,rfl⟩;unfold pyNext;exact ag (wpAny_attempt (fi (name:=fE "__next__") T iE (dB iE T mN (Gp D hz hTI hTO h1 h2 ht hl hx hy λg a1 a2 a3 a4 a5 a6 a7=>au (q g a1 a2 a3 a4 a5 a6 a7)) (mF _))))
theorem Jq{z TI TO t l:Addr}{k:Nat}{xs:Array aa}{Q:Option aa->ae->Prop}(hh:A.handled=none)(D:dN z TI TO i1 i2 t l)(hz:bX s.heap z TI TO .none)(hTI:bF s.heap TI (.ref i1) (.ref i2))(h1:s.heap.IsTupleIter i1 t k)(ht:s.heap.IsTuple t xs)(hx:xs[k]?=none)
  (q:∀g,(∀c o,c≠z->c≠i1->s.heap.get? c=some o->g.get? c=some o)->Q none { s with heap:=g }):wpAny (model prog w) A (pyNext (.ref z)) Q E s:=by
 have T:s.TypeIs (.ref z) "zip" := ⟨_,hz,rfl⟩;unfold pyNext;refine ag (wpAny_attempt (fi (name:=fE "__next__") T iE (dB iE T mN (Jp hh D hz hTI h1 ht hx λg e kk he=>?_) (mF _))));obtain⟨o,e1,e2⟩:=he;exact ag (wpAny_isInstance (T:="StopIteration") (b:=true) ⟨o,e1,e2⟩ isSubtype_stop (au (q _ kk)))
end
abbrev zq1(h:Heap)(t:Addr):Heap:=h.push { cls:=.type "tuple_iterator", data:=.fields #[.ref t,.int 0 0] }
abbrev zq2(h:Heap)(t l:Addr):Heap:=(zq1 h t).push { cls:=.type "list_iterator", data:=.fields #[.ref l,.int 0 0] }
abbrev zq3(h:Heap)(t l:Addr):Heap:=(zq2 h t l).push { cls:=.type "tuple", data:=.seq #[.ref h.objs.size,.ref (zq1 h t).objs.size] }
abbrev zq4(h:Heap)(t l:Addr):Heap:=(zq3 h t l).push { cls:=.type "tuple", data:=.seq #[.none,.none] }
abbrev zq5(h:Heap)(t l:Addr):Heap:=(zq4 h t l).push { cls:=.type "zip", data:=.fields #[.none,.bool false,.bool false,.ref (zq2 h t l).objs.size,.ref (zq3 h t l).objs.size] }
theorem Jr(t l:Addr)(xs ys:Array aa):Meets (cW.«zip.__new__» ⟨[.type "zip", .ref t,.ref l],[]⟩) (λ_ R s=>s.heap.IsTuple t xs/\s.heap.IsList l ys/\R (.ok (.ret (.ref (zq4 s.heap t l).objs.size))) { s with heap:=zq5 s.heap t l }):=
 .of_wp λprog w A R s h=>by
  obtain⟨hp,g,d,tk,os⟩:=s;obtain⟨ht,hl,h⟩:=h;have hs:=sub_zip;have H1:Heap.IsTuple (nD ⟨hp,g,d,tk,os⟩) t xs:=ht;have H2:Heap.IsList (nD ⟨hp.push { cls:=.type "tuple_iterator", data:=.fields #[.ref t,.int 0 0] },g,d,tk,os⟩) l ys:=Heap.IsList.push hl _
  wp_walk using jB H1,fo H2
  exact⟨_,rfl,h⟩
section
variable{prog:aA}{w:av}{A:aE}{E:aa->ae->Prop}{s:ae}
theorem Gr{t l:Addr}{xs:Array aa}(ht:s.heap.IsTuple t xs)(hl:s.heap.IsList l ys)
  (q:∀g,bX g (s.heap.objs.size+4) (s.heap.objs.size+2) (s.heap.objs.size+3) .none->bF g (s.heap.objs.size+2) (.ref s.heap.objs.size) (.ref (s.heap.objs.size+1))->bF g (s.heap.objs.size+3) .none .none->g.IsTupleIter s.heap.objs.size t 0->g.IsListIter (s.heap.objs.size+1) l 0->(∀c o,s.heap.get? c=some o->g.get? c=some o)->Q (.ref (s.heap.objs.size+4)) { s with heap:=g }):
  wpAny (model prog w) A (call (.type "zip") [.ref t,.ref l]) Q E s:=by
 refine callType_new F.called_zip (by decide) (F.typeCall_zip_2 _ _) (F.newCall_zip_2 _ _) (λobj=>F.args_object_init_3 obj _ _) F.entry_zip_new (Jr t l xs ys) ⟨ht,hl,?_⟩;have s1:(zq1 s.heap t).objs.size=s.heap.objs.size+1:=cF ..;have s2:(zq2 s.heap t l).objs.size=s.heap.objs.size+2:=by rw[cF,s1]
 have s3:(zq3 s.heap t l).objs.size=s.heap.objs.size+3:=by rw[cF,s2]
 have s4:(zq4 s.heap t l).objs.size=s.heap.objs.size+4:=by rw[cF,s3]
 have u5:(zq5 s.heap t l).get? (zq4 s.heap t l).objs.size=some _:=bq _ rfl;have u4:(zq5 s.heap t l).get? (zq3 s.heap t l).objs.size=some _:=aH _ (bq _ rfl);have u3:(zq5 s.heap t l).get? (zq2 s.heap t l).objs.size=some _:=aH _ (aH _ (bq _ rfl));have u2:(zq5 s.heap t l).get? (zq1 s.heap t).objs.size=some _:=aH _ (aH _ (aH _ (bq _ rfl)));have u1:(zq5 s.heap t l).get? s.heap.objs.size=some _:=aH _ (aH _ (aH _ (aH _ (bq _ rfl))));show _/\_;rw[s2,s3,s4]at u5;rw[s1,s2]at u3;rw[s3]at u4;rw[s1]at u2;rw[s4];exact⟨⟨_,u5,rfl⟩,q _ u5 u3 u4 ⟨_,u1,rfl,rfl⟩ ⟨_,u2,rfl,rfl⟩ λc o e=>aH _ (aH _ (aH _ (aH _ (aH _ e))))⟩
end
def U0(K:ao)(t l:Addr)(xs ys:bp):It:=
 ⟨λi H=>∃x y,SqT K H t xs/\H l=some (.lst ys)/\xs[i]?=some x/\ys[i]?=some y,
  λi H v H'=>∃p x y,H p=none/\v=.ref p/\H'=upd H p (.tup [x,y])/\xs[i]?=some x/\ys[i]?=some y,
  λi H=>SqT K H t xs/\H l=some (.lst ys)/\xs.length<=i⟩
def zTt(z TI TO i1 i2 t l:Addr)(i:Nat)(h:Heap):Prop:=bX h z TI TO .none/\bF h TI (.ref i1) (.ref i2)/\(∃a b,bF h TO a b)/\h.IsTupleIter i1 t i/\h.IsListIter i2 l i
variable{pos:Pos}
theorem Js{P:aA}{w:av}{K:ao}{elts:List Expr}{x1}{z TI TO t l:Addr}{xs ys:bp}(D:dN z TI TO i1 i2 t l):Turn P w K (.Tuple elts x1 pos) (U0 K t l xs ys) [z,TI,TO,i1,i2] z (zTt z TI TO i1 i2 t l) where
 mem:=by simp
 obj:=λi h st b hb=>by
  obtain⟨hz,h1,⟨a,c,h2⟩,⟨o3,h3,_,d3⟩,⟨o4,h4,_,d4⟩⟩:=st;simp only[aP,bu,or_false]at hb;rcases hb with rfl|rfl|rfl|rfl|rfl
  ·exact⟨_,hz,λv y=>nomatch y⟩
  ·exact⟨_,h1,λv y=>nomatch y⟩
  ·exact⟨_,h2,λv y=>nomatch y⟩
  ·exact⟨o3,h3,λv y=>by rw[d3]at y;cases y⟩
  ·exact⟨o4,h4,λv y=>by rw[d4]at y;cases y⟩
 keep:=λi h h' st k=>by obtain⟨hz,h1,⟨a,c,h2⟩,⟨o3,h3,r3⟩,h4⟩:=st;exact⟨k z (by simp) _ hz,k TI (by simp) _ h1,⟨a,c,k TO (by simp) _ h2⟩,⟨o3,k i1 (by simp) o3 h3,r3⟩,h4.at λo e=>k i2 (by simp) o e⟩
 item:=by
  intro X hP hw hK hc i pins s σ H E I hf st hg;subst hP hw hK;obtain⟨x,y,q1,q2,qx,qy⟩:=hg;obtain⟨hz,hTI,⟨a,b,hTO⟩,h1,h2⟩:=st;obtain⟨its,r1,p1,_⟩:=I.tuple q1;obtain⟨jts,r2,p2,_⟩:=I.list (SqL.of q2);obtain⟨u1,hu1,ru1⟩:=r1.get qx;obtain⟨u2,hu2,ru2⟩:=r2.get qy;have lt:∀{c:Addr} {o:Obj},s.heap.get? c=some o->s.heap.objs.size≠c:=λe w=>aq (aM e) (by rw[w];exact cG _);refine Gq D hz hTI hTO h1 h2 p1 p2.isList (x:=u1) (y:=u2) (by simpa using hu1) (by simpa using hu2) λh' a1 a2 a3 a4 a5 a6 kk=>?_;refine⟨_,rfl,lC (s:={ s with heap:=h' }) a1 λh2' hz' sb=>?_⟩;have Tz:s.heap.objs.size≠z:=lt hz;have hp:bF h2' s.heap.objs.size u1 u2:=sb.extBut _ _ Tz a5;have ch4:∀b∈[z,TO,i1,i2],b∈[z,TI,TO,i1,i2]:=λb hb=>by simp at hb ⊢;rcases hb with rfl|rfl|rfl|rfl<;>simp
  have ok:pD X.prog X.w (upd H s.heap.objs.size (.tup [x,y])) h2' s.heap.objs.size (.tup [x,y]):=⟨by rw[bK];show 2<=16777216;decide,[u1,u2],.cons ru1 (.cons ru2 .nil),_,hp,rfl,_,rfl⟩;have I1:=Inv.turnedLaid (h':=h2') (t':=s.toks) (T:=s.heap.objs.size) (xs:=[x,y]) (ch:=[z,TO,i1,i2]) I (λb hb=>hf b (ch4 b hb))
   (λb o hb e=>sb.extBut _ _ (λw=>hb (by simp[w])) (kk b o (λw=>hb (by simp[w])) (λw=>hb (by simp[w])) (λw=>hb (by simp[w])) (λw=>hb (by simp[w])) e)) (az _) ok
  have DD:=D;refine⟨.ref s.heap.objs.size,_,I1,rfl,⟨_,x,y,I.hok.fresh (az _),rfl,rfl,qx,qy⟩,⟨hz',sb.extBut _ _ D.TIz (kk _ _ D.TIz D.TITO D.TIi1 D.TIi2 hTI),⟨_,_,sb.extBut _ _ D.TOz a2⟩,a3.extBut sb.extBut D.i1z,a4.extBut sb.extBut D.i2z⟩,λb hb=>?_⟩;rw[og (λw=>?_)]
  ·exact(hf b hb).1
  ·simp only[aP,bu,or_false]at hb;rcases hb with hb|hb|hb|hb|hb
   ·exact lt hz (w.symm.trans hb)
   ·exact lt hTI (w.symm.trans hb)
   ·exact lt hTO (w.symm.trans hb)
   ·obtain⟨o,e,_⟩:=h1;exact lt e (w.symm.trans hb)
   ·obtain⟨o,e,_⟩:=h2;exact lt e (w.symm.trans hb)
 done:=by
  intro X hP hw hK hc i pins s σ H E I hf st hg;subst hP hw hK;obtain⟨q1,q2,hend⟩:=hg;obtain⟨hz,hTI,⟨a,b,hTO⟩,h1,h2⟩:=st;obtain⟨its,r1,p1,_⟩:=I.tuple q1;have e1:=r1.length;refine Jq (I.ok.hd hc) D hz hTI h1 p1 (by simp;omega) λh' kk=>⟨rfl,?_⟩;have ch4:∀b∈[z,i1],b∈[z,TI,TO,i1,i2]:=λb hb=>by simp at hb ⊢;rcases hb with rfl|rfl<;>simp
  have nch:∀{b:Addr} {u:HO},H b=some u->b∉[z,i1]:=λe w=>by have:=(hf _ (ch4 _ w)).1;rw[e]at this;cases this
  have k:∀b o,b∉[z,i1]->s.heap.get? b=some o->h'.get? b=some o:=λb o hb e=>kk b o (λw=>hb (by simp[w])) (λw=>hb (by simp[w])) e;refine I.step (g':=s.gens) (d':=s.drawn) (t':=s.toks) (ch:=[z,i1]) (λb hb=>?_) (λb o _ _ hc e _=>k b o hc e) (λb o _ _ hc e _=>⟨o.slots,k b o hc e⟩) (λb o _ e n=>n) (λb o hc e=>⟨o,k b o hc e⟩)
   (λb ys e=>e) (λb o u e=>e) (λb ps e=>⟨#[],by rw[e];simp⟩) (λm hm=>?_) (λb u e=>?_) I.bare
  ·obtain⟨f0,f1,f2,f3,f4,f5⟩:=hf b (ch4 b hb);exact⟨f3,f1,f4,f5⟩
  ·exact hm.at' λo e=>k _ o (λw=>(hf _ (ch4 _ w)).2.1 rfl) e
  ·refine(I.hok b u e).stay (λc v hc q=>k c v ?_ q) (λc q=>q) λc ys q=>q;rcases hc with rfl|hc
   ·exact nch e
   ·exact nch hc
 self:=λ_ _ _ _ _ st h=>iu st.1 h
section
variable{X:Cx}{G:Bg}{elts:List Expr}{x1:Nat}{tpos:Pos}
def Pr(K:ao)(ta:TA):TI:=λσ H R=>ta σ H λvs H1=>∃a b xs ys,vs=[.ref a,.ref b]/\SqT K H1 a xs/\H1 b=some (.lst ys)/\R (U0 K a b xs ys) H1
theorem OA(K:ao){a b:Expr}{ta:TA}{p:Pos}(hg:Gl X "zip")(hm:X.mg "zip" = none)(ha:PA X [a,b] ta)(hK:X.K=K:=by rfl)(hs:starEach [a,b] X.env=[(false,eval a X.env),(false,eval b X.env)]:=by rfl)(hs2:starEach [b] X.env=[(false,eval b X.env)]:=by rfl):
  PI X (.Tuple elts x1 tpos) (.Call (.Name "zip" p) [a,b] [] pos) (Pr K ta):=by
 subst hK;intro pins s σ H R I h;refine Call_ (vX I hg hm boot_zip (callWith_type1 (thn (ha pos pins s σ H _ I h) λus s1 ⟨vs,H1,I1,r1,q1⟩=>?_) (by rw[hs,hs2]) (by rw[hs2];rfl)));obtain⟨a',b',xs,ys,rfl,e1,e2,q⟩:=q1;obtain⟨u,v,rfl,ru,rv⟩:=vals2 r1;cases ru;cases rv;obtain⟨its,_,p1,_⟩:=I1.tuple e1;obtain⟨jts,_,p2,_⟩:=I1.list (SqL.of e2);refine Gr p1 p2.isList λh' z1 z2 z3 z4 z5 kk=>?_;refine iu z1 ?_;have I2:Inv X pins σ H1 { s1 with heap:=h' }:=I1.kept (t':=s1.toks) kk;have D0:=La s1.heap.objs.size;have la:a'<s1.heap.objs.size:=by obtain⟨o,e,_⟩:=p1;exact aM e
 have lb:b'<s1.heap.objs.size:=by obtain⟨o,e,_⟩:=p2.isList;exact aM e
 have ne:∀{c:Addr} (n:Nat),c<s1.heap.objs.size->c≠s1.heap.objs.size+n:=λn h=>bf (bU h (eh _ _));have D:dN (s1.heap.objs.size+4) (s1.heap.objs.size+2) (s1.heap.objs.size+3) s1.heap.objs.size (s1.heap.objs.size+1) a' b':=⟨D0.a,D0.b,D0.c,D0.d,D0.e,D0.f,D0.g,D0.h,D0.i,D0.j,ne 4 la,ne 3 la,ne 0 la,ne 1 la,ne 4 lb,ne 3 lb,ne 0 lb,ne 1 lb⟩;refine⟨_,_,_,_,H1,rfl,I2,Js D,⟨z1,z2,⟨_,_,z3⟩,z4,z5⟩,λc hc=>?_,q⟩;have hc':s1.heap.objs.size<=c:=by simp only[aP,bu,or_false]at hc;rcases hc with rfl|rfl|rfl|rfl|rfl<;>first|exact eh _ _|exact az _
 exact I1.fpOk hc' (I1.hok.fresh hc')
def iZT(f:FA):FA:=λρ=>match f ρ with
 |some ([.tup ds,.lst es],ρ1)=>if ds.length<=es.length then some (uN ds es,ρ1)else none
 |_=>none
theorem LB{tg e:Expr}{f:FA}(h:PI X tg e (Pr G.K (tFA G f))):PI X tg e (tFI G (iZT f)):=PI.weak h λσ H R hh=>by
 obtain⟨F,ρ,H0,ds,ρ',R,e,k⟩:=hh;unfold iZT at e;split at e
 ·rename_i ds' es' ρ1 e1;split at e
  ·rename_i hle;cases e;refine⟨F,ρ,H0,_,_,R,e1,λvs H1 H1' s R' rs=>?_⟩;unfold nZ at rs;obtain⟨v1,r1,rfl,h1,rs⟩:=rs;unfold nZ at rs;obtain⟨v2,r2,rfl,h2,rs⟩:=rs;unfold nZ at rs;subst rs;unfold Rep at h1 h2;obtain⟨a,xs,rfl,a1,a2⟩:=h1;obtain⟨b,ys,rfl,b1,b2⟩:=h2;refine⟨a,b,xs,ys,rfl,SqT.mono R'.sub a1,R'.sub _ _ b1,k _ _ _ s R' λi H2 H2' t t'=>?_⟩;have g1:SqT G.K H2' a xs:=SqT.mono t' (SqT.mono t a1);have g2:H2' b=some (.lst ys):=t' _ _ (t _ _ b1);refine⟨λd ed=>?_,λhl=>⟨g1,g2,?_⟩⟩
   ·unfold uN at ed;rw[ia]at ed;cases ex:ds'[i]? with
    |none=>rw[ex]at ed;cases ed
    |some dx=>
     cases ey:es'[i]? with
     |none=>rw[ex,ey]at ed;cases ed
     |some dy=>
      rw[ex,ey]at ed;cases ed;obtain⟨vx,x1',x2⟩:=pS a2 ex;obtain⟨vy,y1',y2⟩:=pS b2 ey;refine⟨⟨vx,vy,g1,g2,x1',y1'⟩,λx H3 y=>?_⟩;obtain⟨p,x',y',hp,rfl,rfl,e1',e2'⟩:=y;rw[x1']at e1';rw[y1']at e2';cases e1';cases e2';have p0:H2 p=none:=by
       cases q:H2 p with
       |none=>rfl
       |some o=>have:=t' _ _ q;rw[hp]at this;cases this
      refine⟨upd H2 p (.tup [vx,vy]),oh p0 _,λb o e=>?_,oh hp _,λb o e=>?_,sS (SqT.of oa) ?_⟩
      ·by_cases hb:b=p
       ·subst hb;rw[oa]at e ⊢;exact e
       ·rw[og hb]at e ⊢;exact t' _ _ e
      ·by_cases hb:b=p
       ·subst hb;exact .inr hp
       ·rw[og hb]at e;exact .inl e
      ·have m:=t.trans (oh p0 (.tup [vx,vy]));exact oJ (Rep.mono m _ _ x2) (oJ (Rep.mono m _ _ y2) oO)
   ·have:=n8 a2;rw[AW]at hl;omega
  ·cases e
 ·cases e
end
end L4
namespace L4
open PySem PySem.Spec PySem.Calls PyProof.Rows PySem.W L2 L3
variable{y:V}
section
variable{X:Cx}{G:Bg}{pins:bY}{σ:St}{H:Hp}{s:ae}
def BU(K:ao)(H:Hp)(y:V)(k:aG):Prop:=∃a p q,y=.ref a/\k=[p,q]/\SqT K H a [.str p,.str q]
theorem LC(I:Inv X pins σ H s){k:aG}{u:aa}(h:BU X.K H y k)(r:RelV y u):∃a p q t v,u=.ref a/\k=[p,q]/\cB s.heap a #[.str p t,.str q v]:=by
 obtain⟨a,p,q,rfl,rfl,h1⟩:=h;cases r;obtain⟨its,ri,ti,_⟩:=I.tuple h1;cases ri with
 |cons q1 q2=>
  obtain⟨t,rfl⟩:=q1;cases q2 with
  |cons q3 q4=>obtain⟨v,rfl⟩:=q3;cases q4;exact⟨a,p,q,t,v,rfl,rfl,ti⟩
end
variable{its:List aa}
section
variable{prog:aA}{w:av}{A:aE}{s:ae}
def It2(h:Heap)(its:List aa)(ks:List aG):Prop:=∀i,i<its.length->∃a p q t v,its.getD i Value.none=.ref a/\ks.getD i []=[p,q]/\cB h a #[.str p t,.str q v]/\its[i]?=some (.ref a)
theorem Jt{ks:List aG}{C:gx->ae->Prop}(item:It2 s.heap its ks)(h1:0<its.length)(hC:C (tuples' true) s):wpAny (model prog w) A (keyKind' its.toArray) C (λ_ _=>False) s:=by
 have tups:∀(l:List aa),(∀v∈l,∃i,i<its.length/\its[i]?=some v)->∃fs,KatTups s.heap l fs/\fs.length=l.length/\∀f∈fs,∃(x:Str) (t:Tok),f=.str x t:=λl=>by
  induction l with
  |nil=>exact λ_=>⟨[],nz,rfl,λf hf=>by cases hf⟩
  |cons v l ih=>
   intro hv;obtain⟨fs,f1,f2,f3⟩:=ih λw hw=>hv w (.tail _ hw);obtain⟨i,hi,ei⟩:=hv v (.head _);obtain⟨a,p,q,t,w,_,_,⟨o,t1,t2,n,t3⟩,t5⟩:=item i hi;rw[ei]at t5;cases t5;refine⟨.str p t::fs,ni t1 t2 t3 (by simp) f1,by rw[aF,aF,f2],λf hf=>?_⟩;rcases aP.mp hf with rfl|hf
   ·exact⟨p,t,rfl⟩
   ·exact f3 f hf
 obtain⟨fs,f1,f2,f3⟩:=tups its λv hv=>by obtain⟨i,hi,e⟩:=ib.mp hv;exact⟨i,hi,by rw[aI hi,e]⟩
 refine kat_kind (T:=.type "str") f1 (by omega) (λv hv=>?_) (by decide) ?_
 ·obtain⟨x,t,rfl⟩:=f3 v hv;exact .now
 ·rw[show (Value.type "str" != Value.type "tuple")=true by decide];exact hC
theorem LD{ks:List aG}{i j:Nat}{C:Bool->ae->Prop}(item:It2 s.heap its ks)(hij:i<its.length/\j<its.length)(hC:C (pX (ks.getD i []) (ks.getD j [])) s):gG prog w A (tuples' true) its i j C s:=by
 obtain⟨a1,p1,q1,t1,v1,e1,k1,⟨o1,g1,c1,n1,d1⟩,_⟩:=item i hij.1;obtain⟨a2,p2,q2,t2,v2,e2,k2,⟨o2,g2,c2,n2,d2⟩,_⟩:=item j hij.2;unfold gG;rw[e1,e2];rw[k1,k2]at hC;refine kat_lt g1 d1 g2 d2 ?_;show KatLex _ _ _ _ _ _ [(Value.str p1 t1,Value.str p2 t2),(Value.str q1 v1,Value.str q2 v2)] 0 _;refine gz (ig p1 t1 p2 t2 _ _ _ _ ?_);unfold pX at hC;by_cases hpp:p1=p2
 ·subst hpp;rw[ai rfl]at hC;rw[beq_self_eq_true];refine je (gz (ig q1 v1 q2 v2 _ _ _ _ ?_));unfold pX at hC;by_cases hqq:q1=q2
  ·subst hqq;rw[ai rfl]at hC;rw[beq_self_eq_true];exact je (kat_nil hC)
  ·rw[aj hqq]at hC;rw[beq_false_of_ne hqq];exact kat_no (kat_one _ _ (l6 hC))
 ·rw[aj hpp]at hC;rw[beq_false_of_ne hpp];exact kat_no (oneLt_str hC)
end
section
variable{X:Cx}{G:Bg}{pins:bY}{σ:St}{H:Hp}{s:ae}
theorem DO(hu:X.A.units+64<cLine):p9 X (.builtin "sorted") (λxs H Q=>∃(a:Addr) (ys:bp) (ks:List aG),xs=[.ref a]/\SqL X.K H a ys/\0<ys.length/\ys.length<64/\ks.length=ys.length/\(∀(i:Nat) (y:V) (k:aG),ys[i]?=some y->ks[i]?=some k->BU X.K H y k)/\
  ∀p,H p=none->Q (.ref p) (upd H p (.lst ((ve (λi j=>pX (ks.getD i []) (ks.getD j [])) ys.length).map λi=>ys.getD i V.non)))):=by
 intro pins s σ H xs us Q I r h;obtain⟨a,ys,ks,rfl,hq,h1,h64,hkl,hp,q⟩:=h;obtain⟨u,rfl,ru⟩:=vals1 r;cases ru;obtain⟨its,ri,T,ob,nn,hT,b1,b2,b3⟩:=seq_val I (.inl hq);have hl:ys.length=its.length:=ri.length;have item:∀{h':Heap},(∀b o,s.heap.get? b=some o->h'.get? b=some o)->It2 h' its ks:=λ{h'} kk i hi=>by
  have I':Inv X pins σ H { s with heap:=h',toks:=s.toks }:=I.kept kk;have hy:i<ys.length:=by omega
  have hk:i<ks.length:=by omega
  obtain⟨u,e,ru⟩:=ri.get (aI hy);obtain⟨a,p,q,t,v,rfl,ek,ti⟩:=LC I' (hp i _ _ (aI hy) (aI hk)) ru;refine⟨a,p,q,t,v,?_,?_,ti,e⟩
  ·rw[bH,e];rfl
  ·rw[bH,aI hk];exact ek
 refine A3 (κ:=tuples' true) (c:=λi j=>pX (ks.getD i []) (ks.getD j [])) hT b1 b2 b3 (by omega) (by omega) (λh' C kk hC=>Jt (s:={ s with heap:=h' }) (item kk) (by omega) hC) (λh' i j C kk hij hC=>LD (s:={ s with heap:=h' }) (item kk) hij hC) λg h' e k1 k2 ho=>?_
 ·have I1:Inv X pins σ H { s with heap:=g,toks:=s.toks }:=I.kept k1;refine⟨.ref g.objs.size,_,I1.laid (t':=s.toks) k2 (az _) ?_,rfl,q _ (I1.hok.fresh (az _))⟩;have hn:0<ys.length:=h1;refine⟨?_,xF _ its,e,?_,ho⟩
  ·rw[ah,(uP _ hn).length_eq,dw,bK];omega
  ·unfold xF;rw[<-hl];exact yZ ri _ λi hi=>uc _ hn i hi
end
def LF:D->Option aG
 |.tup [.str p,.str q]=>some [p,q]
 |_=>none
def wb:aC->Option (List aG)
 |[]=>some []
 |d::ds=>match LF d,wb ds with
  |some k,some ks=>some (k::ks)
  |_,_=>none
def y6(ds:aC):Option aC:=match wb ds with
 |some ks=>if 0<ds.length/\ds.length<64 then some ((ve (λi j=>pX (ks.getD i []) (ks.getD j [])) ds.length).map λi=>ds.getD i .non)else none
 |none=>none
def y7(f:FE):FA:=λρ=>match f ρ with
 |some (.lst ds,ρ')=>match y6 ds with
  |some es=>some (es,ρ')
  |none=>none
 |_=>none
section
variable{X:Cx}{G:Bg}{H:Hp}
theorem LG{d:D}{v:V}{k:aG}(r:Rep G H d v)(e:LF d=some k):BU G.K H v k:=by
 unfold LF at e;split at e
 ·rename_i p q;cases e;unfold Rep at r;obtain⟨a,xs,rfl,h1,h2⟩:=r;unfold nZ at h2;obtain⟨v1,r1,rfl,q1,q2⟩:=h2;unfold nZ at q2;obtain⟨v2,r2,rfl,q3,q4⟩:=q2;unfold nZ at q4;unfold Rep at q1 q3;subst q4 q1 q3;exact⟨a,p,q,rfl,rfl,h1⟩
 ·cases e
theorem CG:∀{ds:aC} {ks:List aG},wb ds=some ks->ks.length=ds.length
 |[],ks,e=>by cases e;rfl
 |d::ds,ks,e=>by
  unfold wb at e;cases e1:LF d with
  |none=>rw[e1]at e;cases e
  |some k=>
   cases e2:wb ds with
   |none=>rw[e1,e2]at e;cases e
   |some ks'=>rw[e1,e2]at e;cases e;rw[aF,aF,CG e2]
theorem CH:∀{ds:aC} {ks:List aG} {xs:bp},nZ G H ds xs->wb ds=some ks->∀(i:Nat) (y:V) (k:aG),xs[i]?=some y->ks[i]?=some k->BU G.K H y k
 |[],ks,xs,r,e,i,y,k,h1,h2=>by cases e;cases h2
 |d::ds,ks,xs,r,e,i,y,k,h1,h2=>by
  unfold wb at e;cases e1:LF d with
  |none=>rw[e1]at e;cases e
  |some k'=>
   cases e2:wb ds with
   |none=>rw[e1,e2]at e;cases e
   |some ks'=>
    rw[e1,e2]at e;cases e;unfold nZ at r;obtain⟨v,r',rfl,q1,q2⟩:=r;cases i with
    |zero=>cases h1;cases h2;exact LG q1 e1
    |succ i=>exact CH q2 e2 i y k h1 h2
theorem BU.mono{K:ao}{H0 H1:Hp}{k:aG}(s:oj H0 H1)(h:BU K H0 y k):BU K H1 y k:=by obtain⟨a,p,q,e1,e2,h1⟩:=h;exact⟨a,p,q,e1,e2,SqT.mono s h1⟩
theorem E3{e:Expr}{f:FE}(h:PE X e (tCB (λxs H Q=>∃(a:Addr) (ys:bp) (ks:List aG),xs=[.ref a]/\SqL G.K H a ys/\0<ys.length/\ys.length<64/\ks.length=ys.length/\(∀(i:Nat) (y:V) (k:aG),ys[i]?=some y->ks[i]?=some k->BU G.K H y k)/\
  ∀p,H p=none->Q (.ref p) (upd H p (.lst ((ve (λi j=>pX (ks.getD i []) (ks.getD j [])) ys.length).map λi=>ys.getD i V.non)))) (tFA G (nU f ox)))):PE X e (tFN G (y7 f)):=PE.weak h λσ H Q hh=>by
 obtain⟨F,ρ,H0,es,ρ',R,e,k⟩:=hh;unfold y7 at e;split at e
 ·rename_i ds ρ1 e1;cases e2:y6 ds with
  |none=>simp only[e2]at e;cases e
  |some es'=>
   simp only[e2]at e;cases e;unfold y6 at e2;cases e3:wb ds with
   |none=>simp only[e3]at e2;cases e2
   |some ks=>
    simp only[e3]at e2;split at e2
    ·rename_i hh;obtain⟨hn,h64⟩:=hh;cases e2;refine⟨F,ρ,H0,[.lst ds],_,R,by unfold nU;rw[e1];rfl,λys H1 H1' s R' rs=>?_⟩;unfold nZ at rs;obtain⟨v,r0,rfl,rv,rn⟩:=rs;unfold nZ at rn;subst rn;unfold Rep at rv;obtain⟨a,xs,rfl,h1,h2⟩:=rv;have hl:=n8 h2;refine⟨a,xs,ks,rfl,SqL.of (R'.sub _ _ h1),by omega,by omega,by rw[CG e3,hl],λi y kk q1 q2=>BU.mono R'.sub (CH h2 e3 i y kk q1 q2),λp hp=>?_⟩;refine k p _ _ _ s (R'.newOwn hp _) oa (R'.h0none hp) (R'.bNone hp) (R'.apart hp) ?_;rw[<-hl];exact y3 h2 _ λi hi=>uc _ hn i hi
    ·cases e2
 ·cases e
theorem BV(hu:X.A.units+64<cLine)(hK:X.K=G.K:=by rfl):p9 X (.builtin "sorted") (λxs H Q=>∃(a:Addr) (ys:bp) (ks:List aG),xs=[.ref a]/\SqL G.K H a ys/\0<ys.length/\ys.length<64/\ks.length=ys.length/\(∀(i:Nat) (y:V) (k:aG),ys[i]?=some y->ks[i]?=some k->BU G.K H y k)/\
  ∀p,H p=none->Q (.ref p) (upd H p (.lst ((ve (λi j=>pX (ks.getD i []) (ks.getD j [])) ys.length).map λi=>ys.getD i V.non)))):=by rw[<-hK];exact DO hu
end
theorem LH{a b c:Str}(h:ltS a b=true)(h':ltS b c=true):ltS a c=true:=aV (List.lt_trans (bA h) (bA h'))
theorem HF{a b:Str}(e:a≠b)(h:ltS a b=false):ltS b a=true:=by have h1:b.cps.toList<=a.cps.toList:=of_decide_eq_false h;refine aV (Decidable.byContradiction λz=>e ?_);have h2:a.cps.toList<=b.cps.toList:=z;have q:=List.le_antisymm h2 h1;cases a with|mk a=>cases b with|mk b=>cases a;cases b;simp only at q;rw[q]
theorem HG(a:Str):ltS a a=false:=aO (List.lt_irrefl _)
theorem Gs(p q p' q':Str):pX [p,q] [p',q']=if p=p' then (if q=q' then false else ltS q q')else ltS p p':=by unfold pX;unfold pX;unfold pX;rfl
variable{q p' q':Str}
theorem LI{p p2 q2:Str}(h:pX [p,q] [p',q']=true)(h':pX [p',q'] [p2,q2]=true):pX [p,q] [p2,q2]=true:=by
 rw[Gs]at h h' ⊢;by_cases e1:p=p'
 ·subst e1;rw[ai rfl]at h;by_cases e2:p=p2
  ·subst e2;rw[ai rfl]at h' ⊢;split at h
   ·cases h
   ·split at h'
    ·cases h'
    ·rename_i n1 n2;have:=LH h h';rw[aj (λz=>by subst z;rw[HG]at this;cases this)];exact this
  ·rw[aj e2]at h' ⊢;exact h'
 ·rw[aj e1]at h;by_cases e2:p'=p2
  ·subst e2;rw[aj e1];exact h
  ·rw[aj e2]at h';have:=LH h h';rw[aj (λz=>by subst z;rw[HG]at this;cases this)];exact this
theorem OB{p:Str}(e:([p,q]:aG)≠[p',q'])(h:pX [p,q] [p',q']=false):pX [p',q'] [p,q]=true:=by
 rw[Gs]at h ⊢;by_cases e1:p=p'
 ·subst e1;rw[ai rfl]at h ⊢;by_cases e2:q=q'
  ·subst e2;exact aq rfl e
  ·rw[aj e2]at h;rw[aj (cJ e2)];exact HF e2 h
 ·rw[aj e1]at h;rw[aj (cJ e1)];exact HF e1 h
theorem OC(p q:Str):pX [p,q] [p,q]=false:=by rw[Gs,ai rfl,ai rfl]
theorem VF{ks:List aG}(nd:ks.Nodup)(h2:∀k∈ks,∃p q,k=[p,q]):Sto (λi j=>pX (ks.getD i []) (ks.getD j [])) ks.length where
 tr:=λi j k hi hj hk h h'=>by rw[bH,aI hi]at h ⊢;rw[bH,aI hj]at h h';rw[bH,aI hk]at h' ⊢;obtain⟨p1,q1,e1⟩:=h2 _ (cj hi);obtain⟨p2,q2,e2⟩:=h2 _ (cj hj);obtain⟨p3,q3,e3⟩:=h2 _ (cj hk);simp only[jO]at h h' ⊢;rw[e1,e2]at h;rw[e2,e3]at h';rw[e1,e3];exact LI h h'
 tot:=λi j hi hj ne h=>by
  have gi:ks.getD i []=ks[i]:=by rw[bH,aI hi];rfl
  have gj:ks.getD j []=ks[j]:=by rw[bH,aI hj];rfl
  rw[gi,gj]at h;rw[gi,gj];have nq:ks[i]≠ks[j]:=λz=>by
   have pw:=fg.mp nd;rcases iq i j with y|y|y
   ·exact pw i j hi hj y z
   ·exact ne y
   ·exact pw j i hj hi y z.symm
  obtain⟨p1,q1,e1⟩:=h2 _ (cj hi);obtain⟨p2,q2,e2⟩:=h2 _ (cj hj);rw[e1,e2]at h nq;rw[e1,e2];exact OB nq h
theorem LJ{ks:List aG}(nd:ks.Nodup)(h2:∀k∈ks,∃p q,k=[p,q])(h0:0<ks.length):((ve (λi j=>pX (ks.getD i []) (ks.getD j [])) ks.length).map λi=>ks.getD i []).Pairwise λa b=>pX a b=true:=by have a:=LA (VF nd h2) h0;have hs:=(yj h0).run (λi j=>pX (ks.getD i []) (ks.getD j [])) (eO ks.length);have sz:=pe.size hs;rw[mE,fg];intro i j hi hj hij;unfold ve at hi hj ⊢;rw[cE]at hi hj;have:=a i j hij (by omega);rw[zC,zC,hG hi,hG hj]at this;simpa using this
theorem LK{ks ks':List aG}(p:ks.Perm ks')(nd:ks.Nodup)(h2:∀k∈ks,∃p q,k=[p,q])(h0:0<ks.length):
  (ve (λi j=>pX (ks.getD i []) (ks.getD j [])) ks.length).map (λi=>ks.getD i [])=(ve (λi j=>pX (ks'.getD i []) (ks'.getD j [])) ks'.length).map λi=>ks'.getD i []:=by
 have nd':ks'.Nodup:=p.nodup_iff.mp nd;have h2':∀k∈ks',∃p q,k=[p,q]:=λk hk=>h2 k (p.mem_iff.mpr hk);have h0':0<ks'.length:=by rw[<-p.length_eq];exact h0
 have gr:∀l:List aG,(bg l.length).map (λi=>l.getD i [])=l:=λl=>by
  apply mO
  ·rw[ah,dw]
  ·intro i a b;rw[iy,ml,bH,aI b];rfl
 have pm:∀l:List aG,0<l.length->((ve (λi j=>pX (l.getD i []) (l.getD j [])) l.length).map λi=>l.getD i []).Perm l:=λl hl=>by have:=(uP (λi j=>pX (l.getD i []) (l.getD j [])) hl).map λi=>l.getD i [];rw[gr]at this;exact this
 refine List.Perm.eq_of_pairwise (le:=λa b=>pX a b=true) (λa b ha hb h h'=>?_) (LJ nd h2 h0) (LJ nd' h2' h0') ((pm ks h0).trans (p.trans (pm ks' h0').symm));obtain⟨p1,q1,rfl⟩:=h2 a ((pm ks h0).mem_iff.mp ha);obtain⟨p2,q2,rfl⟩:=h2' b ((pm ks' h0').mem_iff.mp hb);have:=LI h h';rw[OC]at this;cases this
end L4
namespace L4
open PySem PySem.Spec PyProof.Rows L2 L3
def GDa(K:ao)(x nm:Str)(st:Stmt):Prop:=∃(f:Addr) (fd:bL),gK K mainGlobals x=some (some (.ref f))/\Fun K nm nm st f fd
variable{b:FS}
theorem gFa{P:aA}{w:av}{mg:Str->Option aa}{base:Heap}{G:Bg}{x nm:Str}{st:Stmt}{N ps:aG}{k np n:Nat}{g:aC->Option D}(hg:g=fnD np n b)(y:Yw P w mg base G)(q:GDa G.K x nm st)(S:pV N ps (ou st))(body:Bdi P w G.K mg base N nm st k (tFS G b))(hp:ps.length=np:=by rfl)(hN:N.length=n:=by rfl)(bd:Bds nm nm st ps:=by (repeat intro _);rfl):uL P w G.K mg base (k+1) x ps (spF G g):=by obtain⟨f,fd,a,F⟩:=q;exact⟨f,fd,y.g a,F.kp,bd.ok F,Hn hg hp hN F S λ_ _ _ _ _ _ hr=>body hr⟩
structure Bz where
 P:aA
 w:av
 mg:Str->Option aa
 base:Heap
 G:Bg
structure ZE(X:Cx)(B:Bz)(e:Expr)(f:FE):Prop where p:PE X e (tF B.G f)
structure ZN(X:Cx)(B:Bz)(e:Expr)(f:FA):Prop where p:PE X e (tFN B.G f)
structure ZT(X:Cx)(B:Bz)(e:Expr)(f:FT):Prop where p:PT X e (tFT B.G f)
structure ZW(X:Cx)(B:Bz)(e:Expr)(f:FT):Prop where p:PW X e (tFT B.G f)
structure ZF(X:Cx)(B:Bz)(e:List Expr)(f:FT):Prop where p:PIf X e (tFT B.G f)
structure ZA(X:Cx)(B:Bz)(e:List Expr)(f:FA):Prop where p:PA X e (tFA B.G f)
structure ZM(X:Cx)(B:Bz)(e:List Expr)(i:Nat)(f:FA):Prop where p:PA X e (Jj B.G i f)
structure ZS(X:Cx)(B:Bz)(e:Stmt)(f:FS):Prop where p:PS X e (tFS B.G f)
structure ZB(X:Cx)(B:Bz)(e:List Stmt)(f:FS):Prop where p:PSs X e (tFS B.G f)
structure ZI(X:Cx)(B:Bz)(tg e:Expr)(f:FA):Prop where p:PI X tg e (tFI B.G f)
structure ZO(X:Cx)(B:Bz)(e:Option Expr)(f:FO):Prop where p:PO X e (tFO B.G f)
structure ZG(X:Cx)(B:Bz)(e:Expr)(n:Nat)(f:FG):Prop where p:PG X e (tFG B.G n f)
structure ZH(X:Cx)(B:Bz)(e:List Expr)(n:Nat)(f:aC->aU->Option aU):Prop where p:PGs X e (Kq B.G n f)
structure ZK(X:Cx)(e:Option Expr)(i:Option Int):Prop where p:PO X e (tO i)
structure ZP(X:Cx)(B:Bz)(pos:Pos)(ks:List (Option Expr))(vs:List Expr)(l:List (Str×FE)):Prop where p:PPs X pos ks vs (Ll B.G l)
structure ZV(X:Cx)(e:Expr)(i:Nat):Prop where p:PE X e (uE i)
abbrev Gz(X:Cx)(x:Str):Prop:=X.env.kindOf x=some .globalImplicit
abbrev Dz(x:Str):Prop:=(x==("__debug__" : Str))=false
abbrev Nz(x:Str):Prop:=(decide (x≠"__name__")&&!(x==("__debug__" : Str)))=true
abbrev Sz(X:Cx)(e:Expr)(es:List Expr):Prop:=starEach (e::es) X.env=(false,eval e X.env)::starEach es X.env
abbrev S1(X:Cx)(e:Expr):Prop:=starEach [e] X.env=[(false,eval e X.env)]
abbrev Lz(X:Cx)(pos:Pos)(es:List Expr):Prop:=(backTo pos (starEach es X.env)).any (·.1)=false
abbrev Wz(X:Cx)(e o:Expr)(pos:Pos):Prop:=swapsWith e (some o) pos.line X.env=pure false
abbrev Az(X:Cx)(o:Expr)(m:Str):Prop:=attributeBase o m X.env (eval o X.env)=eval o X.env
abbrev Ez(p pos:Pos):Prop:=(p.endLine==pos.line)=true
abbrev Iz(e:Expr):Prop:=(λo i=>subscripted e false o i)=λo i=>operate [o,i] (getItem o i)
abbrev Fz(X:Cx)(e:Expr):Prop:=(λx=>foldedSetIterable e X.env x)=λx=>pure x
class Cz(X:Cx)(B:outParam Bz)(k:outParam Nat):Prop where
 P:X.prog=B.P
 w:X.w=B.w
 K:X.K=B.G.K
 mg:X.mg=B.mg
 b:X.base=B.base
 c:X.calm=true
 r:qa k X.A
class Yb(B:Bz):Prop where y:Yw B.P B.w B.mg B.base B.G
class Df(B:Bz)(j:outParam Nat)(x:Str)(sp:Sp):Prop where p:∃ps,uL B.P B.w B.G.K B.mg B.base j x ps sp
class Kf(B:Bz)(j:outParam Nat)(x:Str)(c:Nat)(g:aC->Option (aG×aC))(dds:aC):Prop where
 p:∃ps,Dx B.G B.P B.w B.mg B.base j x c ps (dds.map vD) g
 f:dds.all qQ=true
class Mf(B:Bz)(j:outParam Nat)(m:Str)(g:Nat->Option (aC->Option D)):Prop where p:∀c h,g c=some h->yT B.G B.P B.w B.mg B.base j m c h
class Ff(B:Bz)(ok:Nat->Bool)(f:Str):Prop where p:∀c,ok c=true->Cls B.G.K (B.G.ca c)/\tw B.G.K (B.G.ca c) f
class Af(B:Bz)(c:Nat)(xs:outParam aG):Prop where p:CF B.G.K (B.G.ca c) xs
class Nb(B:Bz)(x:Str):Prop where p:B.mg x=none
class Co(B:Bz)(x:Str)(d:D):Prop where p:wK B.G B.mg x d
class Ic(B:Bz)(x:Str)(t:Ty->Option Bool):Prop where p:∃c,F4 B.G c t/\B.mg x=some (.ref (B.G.ca c))
class Ij(B:Bz)(n:Nat):Prop where p:∀j k,j<n->k<n->B.G.ca j=B.G.ca k->j=k
class OpC(op:iX)(g:D->D->Option D):Prop where p:∀(X:Cx) (G:Bg),∃r,OpR X (binaryOp op) r/\OpD G r g
instance in1:OpC .Mod rG:=⟨λ_ _=>⟨_,Qd,QR⟩⟩
instance in2:OpC .FloorDiv w6:=⟨λ_ _=>⟨_,MP,QS⟩⟩
instance in3:OpC .Mult sH:=⟨λ_ _=>⟨_,Qc,QQ⟩⟩
instance in4:OpC .Sub KD:=⟨λ_ _=>⟨_,Qb,QP⟩⟩
instance in5:OpC .Pow ya:=⟨λ_ _=>⟨_,Qe,QT⟩⟩
instance in6:OpC .Add o9:=⟨λ_ _=>⟨_,Qa,QO⟩⟩
instance in7:OpC .Add Cm:=⟨λ_ _=>⟨_,FD,NU⟩⟩
instance in8:OpC .Mult EH:=⟨λ_ _=>⟨_,FY,Ou⟩⟩
class CmC(op:eP)(g:D->D->Option D):Prop where p:∀(X:Cx) (G:Bg),X.K=G.K->X.A.units+64<cLine->∃r,OpR X (compareOp op) r/\OpD G r g
instance in9:CmC .Eq (dEq false):=⟨λ_ _ h u=>⟨_,QY u h,UJ⟩⟩
instance in10:CmC .NotEq (dEq true):=⟨λ_ _ h u=>⟨_,QZ u h,UK⟩⟩
instance in11:CmC .In (dIn false):=⟨λ_ _ h _=>⟨_,Q0 h,Pk⟩⟩
instance in12:CmC .NotIn (dIn true):=⟨λ_ _ h _=>⟨_,IP h,Pk⟩⟩
instance in13:CmC .Is yb:=⟨λ_ _ _ _=>⟨_,Qg,QV⟩⟩
instance in14:CmC .IsNot KG:=⟨λ_ _ _ _=>⟨_,MQ,NV⟩⟩
instance in15:CmC .IsNot wJ:=⟨λ_ _ _ _=>⟨_,Eo,IM⟩⟩
instance in16:CmC .Lt yR:=⟨λ_ _ _ _=>⟨_,Ug,UF⟩⟩
instance in17:CmC .LtE rK:=⟨λ_ _ _ _=>⟨_,Uh,UG⟩⟩
instance in18:CmC .Gt KE:=⟨λ_ _ _ _=>⟨_,Ui,UH⟩⟩
instance in19:CmC .GtE QN:=⟨λ_ _ _ _=>⟨_,Uj,UI⟩⟩
instance in20:CmC .LtE KF:=⟨λ_ _ _ _=>⟨_,IC,QU⟩⟩
class B1(x:Str)(g:D->Option D):Prop where p:∀(X:Cx) (G:Bg),X.K=G.K->X.calm=true->∃(id:String) (r:bp->Hp->VK->Prop),p9 X (.builtin id) r/\Cn G r g/\bootBuiltins x=some (.builtin id)
instance in21:B1 "len" pP:=⟨λ_ _ h _=>⟨_,_,IR h,Q1,m5⟩⟩
instance in22:B1 "all" tE:=⟨λ_ _ h c=>⟨_,_,IS c h,Q3,boot_all⟩⟩
instance in23:B1 "any" AR:=⟨λ_ _ h c=>⟨_,_,IZ c h,Q9,boot_any⟩⟩
class KtC(x:Str)(T:outParam String):Prop where p:(∀(X:Cx) (G:Bg) y b,pR T y=some b->cA X.K (y.val G) (.type T)=some b)/\bootBuiltins x=some (.type T)
instance in24:KtC "str" "str" := ⟨λ_ _=>N2,Pv.boot_str⟩
instance in25:KtC "int" "int" := ⟨λ_ _=>Ol,Pv.boot_int⟩
instance in26:KtC "bool" "bool" := ⟨λ_ _=>Li,Pv.boot_bool⟩
instance in27:KtC "list" "list" := ⟨λ_ _=>KU,Pv.boot_list⟩
instance in28:KtC "tuple" "tuple" := ⟨λ_ _=>kit_tuple,Pv.boot_tuple⟩
theorem Pu{G:Bg}{H:Hp}:∀{dds:aC},dds.all qQ=true->nZ G H dds (dds.map vD)
 |[],_=>oO
 |d::ds,h=>by rw[fz,bo]at h;exact oJ (x4 h.1 H) (Pu h.2)
theorem eqI{α:Sort u}{a b:α}(h:a=b):a=b:=h
def sees(X:Cx)(i:Nat)(x:Str):Bool:=decide (X.N[i]?=some x)&&(match X.env.scope.names.lookup x with|some .local=>true|some .cell=>true|some .free=>true|_=>false)&&!(x==("__debug__" : Str))&&!(x==("__classdict__" : Str))
def sets(X:Cx)(i:Nat)(x:Str):Bool:=decide X.N.Nodup&&decide (X.N[i]?=some x)&&(match X.env.scope.names.lookup x with|some .local=>true|some .cell=>X.fn x|_=>false)
variable{ft fu:FT}{id T:String}{r:bp->Hp->VK->Prop}{lo:Option Expr}{body:List Stmt}
section
variable{X:Cx}{B:Bz}{k j i n c0:Nat}{x m:Str}{e e' o tg it:Expr}{es:List Expr}{p p2 p3 pos apos:Pos}{f f' f2:FE}{a:FA}{g:D->D->Option D}
theorem pvI(h:sees X i x=true):PE X (.Name x p) (uE i):=by
 unfold sees at h;simp only[bo,bR,fX]at h;obtain⟨⟨⟨h1,h2⟩,h3⟩,h4⟩:=h;refine pv i h1 ?_ h3 h4;unfold Vis;split at h2
 ·rename_i e;exact .inl e
 ·rename_i e;exact .inr (.inl e)
 ·rename_i e;exact .inr (.inr e)
 ·cases h2
theorem U1(h:sees X i x=true):ZE X B (.Name x p) (cV i):=⟨FZ (pvI h)⟩
theorem Ru(h:sees X i x=true):ZE X B (.Name x p) (cFz i):=⟨UE (pvI h)⟩
theorem OD(h:sees X i x=true):ZN X B (.Name x p) (NO i):=⟨NP (pvI h)⟩
theorem DP(h:sets X i x=true):X.N.Nodup/\X.N[i]?=some x/\L2.Loc X.env.scope x/\(X.fn x=true\/X.env.scope.names.lookup x=some .local):=by
 unfold sets at h;simp only[bo,bR]at h;obtain⟨⟨h1,h2⟩,h3⟩:=h;unfold L2.Loc;split at h3
 ·rename_i e;exact⟨h1,h2,.inl e,.inr e⟩
 ·rename_i e;exact⟨h1,h2,.inr e,.inl h3⟩
 ·cases h3
theorem pgI(h:sets X i x=true):PG X (.Name x p) (uF i):=by obtain⟨h1,h2,h3,h4⟩:=DP h;exact GR h1 h2 h3 h4
theorem Rv(h:sets X i x=true)(hi:Nat.blt i n=true):ZG X B (.Name x p) n (gN i):=⟨Kr n (pgI h) (Nat.blt_eq.mp hi)⟩
theorem stW{te:TE}(h:sets X i x=true)(he:PE X e te)(hs:Wz X e (.Name x p) pos):PS X (.Assign [.Name x p] e pos) (yI te (uF i)):=by obtain⟨h1,h2,h3,h4⟩:=DP h;exact P4 h1 h2 h3 he hs h4
theorem Rx(h:sets X i x=true)(he:ZE X B e f)(hs:Wz X e (.Name x p) pos):ZS X B (.Assign [.Name x p] e pos) (oT i f):=⟨G8 (stW h he.p hs)⟩
theorem RA(h:sets X i x=true)(he:ZN X B e a)(hs:Wz X e (.Name x p) pos):ZS X B (.Assign [.Name x p] e pos) (tD i a):=⟨Kt (stW h he.p hs)⟩
theorem RB(h:sets X i x=true)(hs:Wz X (.Dict [] [] p2) (.Name x p) pos):ZS X B (.Assign [.Name x p] (.Dict [] [] p2) pos) (ye i):=⟨K0 (stW h Aw hs)⟩
theorem RD{op:iX}[O:OpC op g](ha:ZE X B e f)(hb:ZE X B e' f'):ZE X B (.BinOp e op e' pos) (c2 g f f'):=by obtain⟨r,h1,h2⟩:=O.p X B.G;exact⟨Ux h1 h2 ha.p hb.p⟩
theorem RE [C:Cz X B k](ha:ZE X B e f)(hb:ZE X B e' f')(hs:Iz e'):ZE X B (.Subscript e e' pos) (c2 dIx f f'):=⟨Uy (VE C.K) UL ha.p hb.p λo i=>congrFun (congrFun hs o) i⟩
theorem OE [C:Cz X B k](h:sees X i x=true)(hb:ZE X B e' f')(hs:Iz e'):ZE X B (.Subscript (.Name x p) e' pos) (zY i f'):=⟨QL (Pf (Kh B.G.K C.K) (pvI h) hb.p λo i=>congrFun (congrFun hs o) i)⟩
theorem RF [C:Cz X B k](ha:ZE X B e f)(hb:ZE X B e' f')(hs:Iz e'):ZE X B (.Subscript e e' pos) (c2 qK f f'):=⟨N5 (Kb C.r) ha.p hb.p λo i=>congrFun (congrFun hs o) i⟩
section
variable{op op':eP}{g':D->D->Option D}
theorem RG [O:CmC op g][C:Cz X B k](ha:ZE X B e f)(hb:ZE X B e' f')(hm:behindInMarks op e'=false):ZE X B (.Compare e [op] [e'] pos) (c2 g f f'):=by obtain⟨r,h1,h2⟩:=O.p X B.G C.K C.r.units;exact⟨QC h1 h2 ha.p hb.p hm⟩
theorem RH [O:CmC op g][C:Cz X B k](ha:ZE X B e f)(hb:ZE X B e' f')(hm:behindInMarks op e'=false):ZT X B (.Compare e [op] [e'] pos) (cT (c2 g f f')):=by obtain⟨r,h1,h2⟩:=O.p X B.G C.K C.r.units;exact⟨Nl h1 h2 ha.p hb.p hm⟩
theorem RI [O:CmC op g][O':CmC op' g'][C:Cz X B k](ha:ZE X B e f)(hb:ZE X B e' f')(hc:ZE X B o f2)(hm:lastMarks [op,op'] [e',o]=false):ZE X B (.Compare e [op,op'] [e',o] pos) (qm g g' f f' f2):=by obtain⟨r,h1,h2⟩:=O.p X B.G C.K C.r.units;obtain⟨r',h3,h4⟩:=O'.p X B.G C.K C.r.units;exact⟨KO h1 h3 h2 h4 ha.p hb.p hc.p hm⟩
theorem RJ [O:CmC op g][O':CmC op' g'][C:Cz X B k](ha:ZE X B e f)(hb:ZE X B e' f')(hc:ZE X B o f2)(hm:lastMarks [op,op'] [e',o]=false):ZT X B (.Compare e [op,op'] [e',o] pos) (cT (qm g g' f f' f2)):=by obtain⟨r,h1,h2⟩:=O.p X B.G C.K C.r.units;obtain⟨r',h3,h4⟩:=O'.p X B.G C.K C.r.units;exact⟨IW h1 h3 h2 h4 ha.p hb.p hc.p hm⟩
end
theorem RK(h:ZE X B e f)(he:(λwhole=>isTrue e X.env whole)=λwhole=>(do let v<-whole;standAt e.pos;holding [v] (truthy v))):ZT X B e (cT f):=⟨Nn h.p λw=>congrFun he w⟩
theorem RM(ha:ZT X B e ft)(hb:ZW X B (.BoolOp .Or (e'::es) pos) fu):ZT X B (.BoolOp .Or (e::e'::es) pos) (uJ ft fu):=⟨PW.pt (Kl ha.p hb.p)⟩
theorem RN(ha:ZT X B e ft)(hb:ZW X B (.BoolOp .And (e'::es) pos) fu):ZT X B (.BoolOp .And (e::e'::es) pos) (tY ft fu):=⟨PW.pt (Nr ha.p hb.p)⟩
theorem RO{d:D}[C:Cz X B k][Q:Co B x d](hg:Gz X x)(hd:Dz x):ZE X B (.Name x pos) (cC d):=⟨KQ (C.mg▸Q.p) hg hd⟩
theorem RP{ok:Nat->Bool}[C:Cz X B k][Q:Ff B ok m](he:ZE X B e f)(hb:Az X e m):ZE X B (.Attribute e m pos) (c1 (oF ok m) f):=⟨Kv he.p (C.K▸Q.p) hb⟩
section
variable(hg:Gz X x)(hd:Dz x)(hs:Sz X e es)(hl:Lz X pos es)
include hg hd
theorem dz{sp:Sp}[C:Cz X B k][Q:Df B j x sp]:∃ps,uL X.prog X.w X.K X.mg X.base j x ps sp:=by rw[C.P,C.w,C.K,C.mg,C.b];exact Q.p
theorem RQ{g:aC->Option aC}[C:Cz X B k][Q:Df B j x (spN B.G g)](hj:dm j k=true):ZN X B (.Call (.Name x p) [] [] pos) (o6 g ox):=by obtain⟨ps,q⟩:=dz hg hd (X:=X) (Q:=Q);exact⟨KP q (C.r.mono (dh.mp hj)) hg hd⟩
include hs hl
theorem RR{g:aC->Option D}[C:Cz X B k][Q:Df B j x (spF B.G g)](ha:ZA X B (e::es) a)(hj:dm j k=true):ZE X B (.Call (.Name x p) (e::es) [] pos) (n4 g a):=by obtain⟨ps,q⟩:=dz hg hd (X:=X) (Q:=Q);exact⟨Q5 q (C.r.mono (dh.mp hj)) ha.p hg hd hs hl⟩
theorem RS{g:aC->Option aC}[C:Cz X B k][Q:Df B j x (spN B.G g)](ha:ZA X B (e::es) a)(hj:dm j k=true):ZN X B (.Call (.Name x p) (e::es) [] pos) (o6 g a):=by obtain⟨ps,q⟩:=dz hg hd (X:=X) (Q:=Q);exact⟨NZ q (C.r.mono (dh.mp hj)) ha.p hg hd hs hl⟩
theorem RT{g:aC->aC->Option (D×aC)}[C:Cz X B k][Q:Df B j x (spM B.G g)](hv:ZV X e i)(ha:ZA X B es a)(hj:dm j k=true):ZE X B (.Call (.Name x p) (e::es) [] pos) (pd g i a):=by obtain⟨ps,q⟩:=dz hg hd (X:=X) (Q:=Q);exact⟨N0 q (C.r.mono (dh.mp hj)) hv.p ha.p hg hd hs hl⟩
theorem RU{g:aC->aC->Option (D×aC)}[C:Cz X B k][Q:Df B j x (spL B.G g)](ha:ZM X B (e::es) i a)(hj:dm j k=true):ZE X B (.Call (.Name x p) (e::es) [] pos) (uO g i a):=by obtain⟨ps,q⟩:=dz hg hd (X:=X) (Q:=Q);exact⟨Ot q (C.r.mono (dh.mp hj)) ha.p hg hd hs hl⟩
theorem RV{g:aC->Option (aG×aC)}{dds:aC}[C:Cz X B k][Q:Kf B j x c0 g dds](ha:ZA X B (e::es) a)(hj:dm (j+1) k=true):ZE X B (.Call (.Name x p) (e::es) [] pos) (pb c0 (λds=>g (ds++dds)) a):=by obtain⟨ps,q⟩:=Q.p;exact⟨N1 (by rw[C.P,C.w,C.mg,C.b];exact q) (λH=>Pu Q.f) (C.r.mono (dh.mp hj)) ha.p C.K hg hd hs hl⟩
end
theorem mz{g:Nat->Option (aC->Option D)}[C:Cz X B k][Q:Mf B j m g]:∀c h,g c=some h->yT B.G X.prog X.w X.mg X.base j m c h:=by rw[C.P,C.w,C.mg,C.b];exact Q.p
theorem RW{g:Nat->Option (aC->Option D)}{pl:Sem Bool}[C:Cz X B k][Q:Mf B j m g](ho:ZE X B o f)(hj:dm j k=true)
  (ht:eval (.Call (.Attribute o m apos) [] [] pos) X.env=(do
   let ov<-eval o X.env
   standAt apos.atName
   let (f,first)<-holding [ov] (getMethod ov m pl)
   callWith pos f first (backTo pos (starEach [] X.env)) (backToKw pos (keywordEach [] X.env)))):ZE X B (.Call (.Attribute o m apos) [] [] pos) (pj g m f ox):=⟨F2 mz (C.r.mono (dh.mp hj)) ho.p C.K ht⟩
theorem RX{g:Nat->Option (aC->Option D)}{pl:Sem Bool}[C:Cz X B k][Q:Mf B j m g](ho:ZE X B o f)(ha:ZA X B (e::es) a)(hj:dm j k=true)(hs:Sz X e es)(hl:Lz X pos es)
  (ht:eval (.Call (.Attribute o m apos) (e::es) [] pos) X.env=(do
   let ov<-eval o X.env
   standAt apos.atName
   let (f,first)<-holding [ov] (getMethod ov m pl)
   callWith pos f first (backTo pos (starEach (e::es) X.env)) (backToKw pos (keywordEach [] X.env)))):ZE X B (.Call (.Attribute o m apos) (e::es) [] pos) (pj g m f a):=⟨IY mz (C.r.mono (dh.mp hj)) ho.p ha.p C.K hs hl ht⟩
section
variable(hg:Gz X x)(hd:Nz x)(hs:S1 X e)
include hg hd hs
theorem cbI{t:TA}[C:Cz X B k][N:Nb B x](hc:p9 X (.builtin id) r)(hv:bootBuiltins x=some (.builtin id))(ha:PA X [e] t):PE X (.Call (.Name x p) [e] [] pos) (tCB r t):=by simp only[bo,bR,fX]at hd;exact Aq hc hg (C.mg▸N.p) hv ha hd.1 hd.2 hs rfl
theorem ctI{t:TA}[C:Cz X B k][N:Nb B x](hc:p9 X (.type T) r)(hv:bootBuiltins x=some (.type T))(ha:PA X [e] t):PE X (.Call (.Name x p) [e] [] pos) (tCB r t):=by simp only[bo,bR,fX]at hd;exact Iq hc hg (C.mg▸N.p) hv ha hd.1 hd.2 hs rfl
theorem RY{g:D->Option D}[Q:B1 x g][C:Cz X B k][N:Nb B x](ha:ZE X B e f):ZE X B (.Call (.Name x p) [e] [] pos) (c1 g f):=by obtain⟨id,r,h1,h2,h3⟩:=Q.p X B.G C.K C.c;exact⟨Pm h2 (cbI hg hd hs h1 h3 (rb ha.p sq hs))⟩
end
section
variable(hs:S1 X e)
include hs
theorem RZ [C:Cz X B k][N:Nb B "list"](hg:Gz X "list")(ha:ZE X B e f):ZN X B (.Call (.Name "list" p) [e] [] pos) (uK f):=⟨KL (ctI hg (by decide) hs (F1 C.K) Pv.boot_list (rb ha.p sq hs))⟩
theorem R0 [C:Cz X B k][N:Nb B "tuple"](hg:Gz X "tuple")(ha:ZE X B e f):ZE X B (.Call (.Name "tuple" p) [e] [] pos) (EC f):=⟨KM (ctI hg (by decide) hs (IU C.K) Pv.boot_tuple (rb ha.p sq hs))⟩
theorem R7 [C:Cz X B k][N:Nb B "sorted"](hg:Gz X "sorted")(ha:ZE X B e f):ZN X B (.Call (.Name "sorted" p) [e] [] pos) (A4 f):=⟨Gh (cbI hg (by decide) hs (DI C.r.units C.K) boot_sorted (rb ha.p sq hs))⟩
theorem R8 [C:Cz X B k][N:Nb B "sorted"](hg:Gz X "sorted")(ha:ZE X B e f):ZN X B (.Call (.Name "sorted" p) [e] [] pos) (y7 f):=⟨E3 (cbI hg (by decide) hs (BV C.r.units C.K) boot_sorted (rb ha.p sq hs))⟩
theorem R9 [C:Cz X B k][N:Nb B "len"][N':Nb B "set"](hg:Gz X "len")(hg':Gz X "set")(ha:ZE X B e f)(z:starEach [Expr.Call (.Name "set" p2) [e] [] p3] X.env=[(false,eval (.Call (.Name "set" p2) [e] [] p3) X.env)]):ZE X B (.Call (.Name "len" p) [.Call (.Name "set" p2) [e] [] p3] [] pos) (c1 DE f):=⟨Jd C.K (Jc UV C.r.units C.c hg (C.mg▸N.p) hg' (C.mg▸N'.p) ha.p z hs)⟩
theorem Sa [C:Cz X B k][N:Nb B "range"](hg:Gz X "range")(ha:ZE X B e f):ZI X B tg (.Call (.Name "range" p) [e] [] pos) (iR1 f):=⟨F0 (Ii hg (C.mg▸N.p) (rb ha.p sq hs) hs)⟩
end
section
variable(hi:Gz X "isinstance")(hg:Gz X x)(hs:starEach [e,.Name x p2] X.env=[(false,eval e X.env),(false,eval (.Name x p2) X.env)])(hs':S1 X (.Name x p2))
include hi hg hs hs'
theorem Sb [Q:KtC x T][C:Cz X B k][N:Nb B "isinstance"][N':Nb B x](ha:ZE X B e f)(hd:Nz x):ZE X B (.Call (.Name "isinstance" p) [e,.Name x p2] [] pos) (c1 (qv (pR T)) f):=by
 simp only[bo,bR,fX]at hd;refine⟨Hm (c:=.b T) (Aq (Cp (.b T) (Q.p.1 X B.G) KR C.K) hi (C.mg▸N.p) boot_isinstance (qH ha.p (qH (MI (v:=.ty T) hg (C.mg▸N'.p) Q.p.2 rfl hd.1 hd.2) uo ?_) ?_) (by decide) (by decide) ?_ ?_)⟩
 ·exact hs'
 ·rw[hs,hs']
 ·rw[hs,hs']
 ·rw[hs'];rfl
theorem Sd{t:Ty->Option Bool}[Q:Ic B x t][C:Cz X B k][N:Nb B "isinstance"](ha:ZE X B e f)(hd:Dz x):ZE X B (.Call (.Name "isinstance" p) [e,.Name x p2] [] pos) (c1 (qv t) f):=by
 obtain⟨c,q1,q2⟩:=Q.p;refine⟨Hm (c:=.c c) (Aq (F5 q1 C.K) hi (C.mg▸N.p) boot_isinstance (qH ha.p (qH (GP (v:=.ref (B.G.ca c)) hg (C.mg▸q2) rfl hd) uo ?_) ?_) (by decide) (by decide) ?_ ?_)⟩
 ·exact hs'
 ·rw[hs,hs']
 ·rw[hs,hs']
 ·rw[hs'];rfl
end
section
variable(hb:Az X o m)(hl:Ez apos pos)(hs:S1 X e)
include hb hl hs
theorem bmI{r:V->bp->Hp->VK->Prop}{to:TE}{t:TA}[C:Cz X B k](pa:kF T)(slot:Slot T m id)(hty:typeOf (.builtin id)=pure (.type "method_descriptor"))(hm:MtR X id r)(ho:PE X o to)(ha:PA X [e] t):PE X (.Call (.Attribute o m apos) [e] [] pos) (tBM B.G.K T r to t):=
 Ki B.G.K pa slot hty hm ho ha hb (by rw[hs];rfl) hl hs rfl C.K
end
section
variable(h:sees X i x=true)(hb:Az X (.Name x p) m)(hl:Ez apos pos)(hs:S1 X e)
include h hb hl hs
theorem Se [C:Cz X B k](hm:m="append")(ha:ZE X B e f):ZE X B (.Call (.Attribute (.Name x p) m apos) [e] [] pos) (v5 i f):=by subst hm;exact⟨IJ (bmI hb hl hs fY jE mm yK (pvI h) (rb ha.p sq hs))⟩
theorem Sf [C:Cz X B k](hm:m="extend")(ha:ZE X B e f):ZE X B (.Call (.Attribute (.Name x p) m apos) [e] [] pos) (zy i f):=by subst hm;exact⟨F7 (bmI hb hl hs fY jF F.type_list_extend (C.K▸F6) (pvI h) (qH ha.p uo hs))⟩
theorem Sg [C:Cz X B k](hm:m="pop")(ha:ZE X B e f):ZE X B (.Call (.Attribute (.Name x p) m apos) [e] [] pos) (xE i f):=by subst hm;exact⟨Ln (bmI hb hl hs fY jP mV Eg (pvI h) (rb ha.p sq hs))⟩
end
theorem Sh [C:Cz X B k](h:sees X i x=true)(hb:Az X (.Name x p) "pop")(hl:Ez apos pos)(hs:S1 X (.Constant (.int 0) j p2)):ZE X B (.Call (.Attribute (.Name x p) "pop" apos) [.Constant (.int 0) j p2] [] pos) (He i):=⟨NN (bmI hb hl hs fY jP mV Eg (pvI h) (qH Fv uo hs))⟩
theorem Si [C:Cz X B k](ha:ZE X B e f)(hb:ZE X B e' f')(h1:Az X e "get")(h2:Ez apos pos)(h3:S1 X e'):ZE X B (.Call (.Attribute e "get" apos) [e'] [] pos) (c2 Cq f f'):=⟨KZ (Kb C.r) ha.p hb.p ⟨h1,by rw[h3];rfl,h2,by rw[h3];rfl⟩⟩
theorem Sj{xs:aG}[C:Cz X B k][Q:Af B c0 xs](hx:xs.contains m=true)(h:sees X i x=true)(hv:ZE X B e f)(hs:Wz X e (.Attribute (.Name x p) m apos) pos):ZS X B (.Assign [.Attribute (.Name x p) m apos] e pos) (o7 c0 i m f):=⟨NM (Qi (pvI h) hv.p hs) (by obtain⟨i,_,e⟩:=jz (lR.mp hx);exact C.K▸Q.p.at i (bP.mpr ⟨_,e⟩))⟩
theorem Sk [C:Cz X B k](h:sees X i x=true)(hk:ZE X B e' f')(hv:ZE X B e f)(hs:Wz X e (.Subscript (.Name x p) e' apos) pos):ZS X B (.Assign [.Subscript (.Name x p) e' apos] e pos) (pB i f' f):=⟨K1 (M8 (Kb C.r) (pvI h) hk.p hv.p hs)⟩
theorem Sm{n:Nat}[Q:Ij B n](h:ZE X B e f):ZE X B e (ub n f):=⟨Oi Q.p h.p⟩
section
variable{ks:List (Option Expr)}{kfs:List (Str×FE)}
theorem Sn:ZP X B pos [] [] []:=⟨M9⟩
theorem So{y:Str}(hv:ZE X B e f)(hr:ZP X B pos ks es kfs):ZP X B pos (some (.Constant (.str y) j p)::ks) (e::es) ((y,f)::kfs):=⟨J7 JK hv.p hr.p⟩
theorem Sq(h:ZP X B pos ks es kfs)(h1:(ks.all (·.isSome)&&decide (ks.length=es.length)&&!ks.isEmpty&&decide (ks.length<=15)&&decide (kfs.map λq=>(Sum.inr q.1:Key)).Nodup&&decide (kfs.length<=15))=true):ZE X B (.Dict ks es pos) (yg kfs):=by simp only[bo,bR,fX]at h1;obtain⟨⟨⟨⟨⟨a1,a2⟩,a3⟩,a4⟩,a5⟩,a6⟩:=h1;exact⟨HA (Na h.p a1 a2 (λz=>by rw[z]at a3;cases a3) a4) a5 a6⟩
end
theorem Sr{hi:Option Expr}{fl fh:FO}[C:Cz X B k](he:ZE X B e f)(hl:ZO X B lo fl)(hh:ZO X B hi fh):ZN X B (.Subscript e (.Slice lo hi none p) pos) (vU f fl fh):=⟨F3 (As (UM C.K) he.p hl.p hh.p)⟩
theorem Ss{hi:Option Expr}{l h:Option Int}[C:Cz X B k](he:ZE X B e f)(hl:ZK X lo l)(hh:ZK X hi h):ZN X B (.Subscript e (.Slice lo hi none p) pos) (cSl f l h):=⟨IV (As (UM C.K) he.p hl.p hh.p)⟩
theorem Su{y:Int}:ZK X (some (.Constant (.int y) j pos)) (some y):=⟨KN⟩
theorem Sv [C:Cz X B k](h:ZE X B e f):ZI X B tg e (iL f):=⟨Ey (Ep B.G.K h.p C.K)⟩
theorem Sw [C:Cz X B k](h:ZE X B e f):ZI X B tg e (iT f):=⟨NS (Nh B.G.K h.p C.K)⟩
theorem Sx(h:ZE X B e f):ZI X B tg e (iD f):=⟨K8 (Og h.p)⟩
theorem Sy(h:ZE X B e f):ZI X B tg e (iS f):=⟨N6 (Qw h.p)⟩
theorem SA{elts:List Expr}{x1:Nat}(h:ZE X B o f)(hb:Az X o "items")(hl:Ez apos pos):ZI X B (.Tuple elts x1 p) (.Call (.Attribute o "items" apos) [] [] pos) (iIt f):=⟨Jg (Lk h.p hb hl)⟩
section
variable(hg:Gz X "zip")(hs:starEach [e,e'] X.env=[(false,eval e X.env),(false,eval e' X.env)])(hs2:S1 X e')
include hg hs hs2
theorem SC [C:Cz X B k][N:Nb B "zip"](ha:ZA X B [e,e'] a):ZI X B (.Tuple es i p2) (.Call (.Name "zip" p) [e,e'] [] pos) (iZ a):=⟨Oh (Rm hg (C.mg▸N.p) ha.p hs hs2)⟩
theorem SD [C:Cz X B k][N:Nb B "zip"](ha:ZA X B [e,e'] a):ZI X B (.Tuple es i p2) (.Call (.Name "zip" p) [e,e'] [] pos) (iZT a):=⟨LB (OA B.G.K hg (C.mg▸N.p) ha.p C.K hs hs2)⟩
end
section
variable{gg:FG}{gs:aC->aU->Option aU}
theorem OF:ZH X B [] n pT:=⟨Ny ML⟩
theorem OG(h1:ZG X B e n gg)(h2:ZH X B es n gs)(hs:(assignEach (e::es) X.env).map (·.2)=assign e X.env::(assignEach es X.env).map (·.2)):ZH X B (e::es) n (oo gg gs):=⟨Ks (JM h1.p h2.p hs)⟩
theorem OH{n' k':Nat}[C:Cz X B k](h:ZH X B es n gs)(hn:(assignEach es X.env).length=n')(ht:(assignEach es X.env).findIdx? (·.1)=none):ZG X B (.Tuple es k' pos) n (gT gs n'):=⟨NA (Ni B.G.K C.c h.p hn ht C.K)⟩
end
def tgN:Expr->aG
 |.Name x _=>[x]
 |.Tuple es _ _=>es.filterMap λe=>match e with|.Name x _=>some x|_=>none
 |_=>[]
def cpN(X:Cx)(tg:Expr)(cap:List Nat):aG:=tgN tg++cap.map λj=>X.N.getD j ""
instance inCz [C:Cz X B k]{N':aG}{sc:cx}{cl:List (Str×Addr)}{A:Addr}{fp:List Addr}{s:ae}{H:Hp}:Cz (pY X N' sc cl A fp s H) B k:=⟨C.P,C.w,C.K,C.mg,C.b,C.c,C.r⟩
def SE(X:Cx)(N':aG)(sc:cx)(n:Nat)(cap:List Nat):Bool:=decide cap.Nodup&&decide (sc.kind=.function)&&(sc.names.all λy=>y.2 != .cell)&&(sc.names.all λy=>y.2 != .local||sc.names.lookup y.1==some .local)&&(sc.names.all λy=>y.2 != .free||(X.env.kindOf y.1==some .cell||X.env.kindOf y.1==some .free))&&decide (N'.length=n+cap.length)&&decide ((N'.drop n).map some=cap.map λj=>X.N[j]?)&&((N'.drop n).all λx=>sc.names.lookup x==some .free)
section
variable{sc:cx}{cap:List Nat}{ifs:List Expr}{gg:FG}{ft:FT}{s:FA}
 (h0:SE X (cpN X tg cap) sc n cap=true) (hs:Fz X it) (hi:ZI X B tg it s)
 (h1:∀(cl:List (Str×Addr)) (A:Addr) (fp:List Addr) (s:ae) (H:Hp),ZG (pY X (cpN X tg cap) sc cl A fp s H) B tg n gg)
 (h2:∀(cl:List (Str×Addr)) (A:Addr) (fp:List Addr) (s:ae) (H:Hp),ZF (pY X (cpN X tg cap) sc cl A fp s H) B ifs ft)
 (h3:∀(cl:List (Str×Addr)) (A:Addr) (fp:List Addr) (s:ae) (H:Hp),ZE (pY X (cpN X tg cap) sc cl A fp s H) B e f)
include h0 hs hi h1 h2 h3
theorem SF [C:Cz X B k]:ZN X B (.ListComp e [⟨tg,it,ifs,0⟩] sc pos) (oB n cap s gg ft f):=by unfold SE at h0;simp only[bo,bR]at h0;obtain⟨⟨⟨⟨⟨⟨⟨a1,a2⟩,a3⟩,a4⟩,a5⟩,a6⟩,a7⟩,a8⟩:=h0;exact⟨KB a1 (Ng (N':=cpN X tg cap) C.c hi.p (λcl A fp s H=>⟨(h1 cl A fp s H).p,(h2 cl A fp s H).p,(h3 cl A fp s H).p⟩) a2 a3 a4 a5 a6 a7 a8 λx=>congrFun hs x)⟩
theorem cpW [C:Cz X B k](h:sets X i x=true)(hw:swapsWith (.ListComp e [⟨tg,it,ifs,0⟩] sc pos) (some (.Name x p)) apos.line X.env=pure true):PS X (.Assign [.Name x p] (.ListComp e [⟨tg,it,ifs,0⟩] sc pos) apos) (yI (AB (tFI B.G s) (tFG B.G n gg) (tFT B.G ft) (tF B.G f) n cap) (uF i))/\cap.Nodup:=by unfold SE at h0;simp only[bo,bR]at h0;obtain⟨⟨⟨⟨⟨⟨⟨a1,a2⟩,a3⟩,a4⟩,a5⟩,a6⟩,a7⟩,a8⟩:=h0;obtain⟨b1,b2,b3,b4⟩:=DP h;exact⟨N3 (N':=cpN X tg cap) C.c b1 b2 b3 hi.p (λcl A fp s H=>⟨(h1 cl A fp s H).p,(h2 cl A fp s H).p,(h3 cl A fp s H).p⟩) a2 a3 a4 a5 a6 a7 a8 (λx=>congrFun hs x) hw b4,a1⟩
theorem SG [C:Cz X B k](h:sets X i x=true)(hw:swapsWith (.ListComp e [⟨tg,it,ifs,0⟩] sc pos) (some (.Name x p)) apos.line X.env=pure true):ZS X B (.Assign [.Name x p] (.ListComp e [⟨tg,it,ifs,0⟩] sc pos) apos) (oT i (cL (oB n cap s gg ft f))):=by have z:=cpW (k:=k) h0 hs hi h1 h2 h3 h hw;exact⟨KW z.2 z.1⟩
end
section
variable{st:Stmt}{sts:List Stmt}{fs fs':FS}{ft:FT}{a':FA}{z1:Nat}
theorem U2(ha:ZE X B e f)(hr:ZA X B es a)(hs:Sz X e es):ZA X B (e::es) (nU f a):=⟨rb ha.p hr.p hs⟩
theorem U3:ZA X B [] ox:=⟨sq⟩
theorem SH(ha:ZE X B e f)(hr:ZM X B es i a)(hs:Sz X e es):ZM X B (e::es) i (nU f a):=⟨Jk ha.p hr.p hs⟩
theorem SI(h:sees X i x=true)(hs:S1 X (.Name x p)):ZM X B [.Name x p] i ox:=⟨Lm (pvI h) hs⟩
theorem SJ(h:sees X i x=true):ZV X (.Name x p) i:=⟨pvI h⟩
theorem SK(h:ZN X B e a):ZE X B e (cL a):=⟨QI h.p⟩
theorem U4{y:Str}:ZE X B (.Constant (.str y) j pos) (cC (.str y)):=⟨QA⟩
theorem U5{y:Int}:ZE X B (.Constant (.int y) j pos) (cC (.int y)):=⟨Qz⟩
theorem U6{y:Bool}:ZE X B (.Constant (.bool y) j pos) (cC (.bl y)):=⟨Uw⟩
theorem U7:ZE X B (.Constant .none j pos) (cC .non):=⟨QB⟩
theorem LL(h1:ZS X B st fs)(h2:ZB X B sts fs'):ZB X B (st::sts) (n9 fs fs'):=⟨Kn h1.p h2.p⟩
theorem U8(h1:ZS X B st fs):ZB X B [st] fs:=⟨Nw h1.p⟩
theorem U9:ZB X B [] o5:=⟨Nv⟩
theorem SL(h:ZE X B e f):ZS X B (.Return (some e) pos) (oQ f):=⟨Nx h.p⟩
theorem SM(h:ZN X B e a):ZS X B (.Return (some e) pos) (qI a):=⟨Ko h.p⟩
theorem SN(h:ZE X B e f)(hs:swapsWith e none pos.line X.env=pure false):ZS X B (.Expr e pos) (oV f):=⟨Kp h.p hs⟩
theorem SO(h:ZT X B e ft)(h1:ZB X B sts fs){sts':List Stmt}(h2:ZB X B sts' fs'):ZS X B (.If e sts sts' pos) (sIf ft fs fs'):=⟨QK h.p h1.p h2.p⟩
theorem SQ:ZE X B e xB:=⟨K2⟩
theorem SR(h:ZA X B es a):ZN X B (.List es pos) (oU a):=⟨Nt h.p⟩
theorem SU(h:ZA X B es a):ZE X B (.Tuple es z1 pos) (pG a):=⟨QH h.p⟩
theorem SV(ha:ZE X B e f)(hb:ZE X B e' f'):ZN X B (.BinOp e .Add e' pos) (qF f f'):=⟨NX ha.p hb.p⟩
theorem SW [C:Cz X B k](ha:ZE X B e f)(hb:ZE X B e' f'):ZE X B (.BinOp e .Add e' pos) (zx f f'):=⟨N7 ha.p hb.p C.K⟩
theorem SX(ha:ZE X B e f)(hb:ZE X B (.BoolOp .And (e'::es) pos) f'):ZE X B (.BoolOp .And (e::e'::es) pos) (ro f f'):=⟨QF ha.p hb.p⟩
theorem SY{op}(ha:ZE X B e f):ZE X B (.BoolOp op [e] pos) f:=⟨QE ha.p⟩
theorem SZ(ha:ZE X B e f):ZE X B (.UnaryOp .Not e pos) (Dv f):=⟨QG ha.p⟩
theorem S0(ha:ZT X B e ft):ZT X B (.UnaryOp .Not e pos) (qu ft):=⟨Np ha.p⟩
theorem S3(h:ZT X B o ft)(ha:ZE X B e f)(hb:ZE X B e' f'):ZE X B (.IfExp o e e' pos) (cIf ft f f'):=⟨UA h.p ha.p hb.p⟩
theorem Va(h:ZT X B e ft):ZF X B [e] ft:=⟨Nf h.p⟩
theorem Vb:ZF X B [] pF:=⟨KC⟩
theorem S4(h:ZE X B e f):ZE X B e (xA f):=⟨Q4 h.p⟩
theorem S5(h:ZT X B e ft):ZT X B e (w9 ft):=⟨NY h.p⟩
theorem S6(h:ZE X B e f):ZO X B (some e) (oAt f):=⟨Re h.p⟩
theorem S7:ZO X B none oNo:=⟨Rb⟩
theorem S8(ha:ZT X B e ft)(hb:ZW X B (.BoolOp .Or (e'::es) pos) fu):ZW X B (.BoolOp .Or (e::e'::es) pos) (uJ ft fu):=⟨Kl ha.p hb.p⟩
theorem S9(h:ZT X B e ft):ZW X B (.BoolOp .Or [e] pos) ft:=⟨Nq h.p⟩
theorem Ta(h:ZT X B e ft):ZW X B (.BoolOp .And [e] pos) ft:=⟨Kk h.p⟩
end
theorem Tb{s:FA}{gg:FG}[C:Cz X B k](hp:iW (model X.prog X.w) X.A X.env X.xe)(hn:X.N.length=n)(hi:ZI X B tg it s)(hg:ZG X B tg n gg)(hb:ZB X B body b)(hs:Fz X it):ZS X B (.For tg it body [] pos) (sd s gg b):=⟨NT (JR hp C.c hi.p hg.p hb.p λx=>congrFun hs x)⟩
theorem Tc(hp:iW (model X.prog X.w) X.A X.env X.xe)(hc:ZT X B e ft)(hb:ZB X B body b):ZS X B (.While e body [] pos) (whL ft b n):=⟨IK n (JO hp hc.p hb.p)⟩
end
end L4
namespace L4
open PySem PySem.Spec PyProof.Rows L2 L3
open PySem.W (fnOf)
def nmO(st:Stmt):aG:=(ou st).names.filterMap λy=>match y.2 with|.local=>some y.1|.cell=>some y.1|_=>none
def psO(st:Stmt):aG:=(tW st).args.map (·.arg)
def okO(N ps:aG)(st:Stmt)(np n:Nat):Bool:=decide ((ou st).kind=.function)&&(ou st).isCoroutine==false&&(ou st).isGenerator==false&&decide N.Nodup&&decide (N.take ps.length=ps)&&(ps.all λx=>match (ou st).names.lookup x with|some .local=>true|some .cell=>true|_=>false)&&((ou st).names.all λy=>y.2 != .free)&&decide (ps.length=np)&&decide (N.length=n)
theorem okk{N ps:aG}{st:Stmt}{np n:Nat}(h:okO N ps st np n=true):pV N ps (ou st)/\ps.length=np/\N.length=n:=by
 unfold okO at h;simp only[bo,bR,beq_iff_eq]at h;obtain⟨⟨⟨⟨⟨⟨⟨⟨h1,h2⟩,h3⟩,h4⟩,h5⟩,h6⟩,h7⟩,h8⟩,h9⟩:=h;refine⟨⟨h1,h2,h3,h4,h5,λx hx=>?_,λy hy e=>?_⟩,h8,h9⟩
 ·have z:=bB.mp h6 x hx;split at z
  ·rename_i e;exact .inl e
  ·rename_i e;exact .inr e
  ·cases z
 ·have z:=bB.mp h7 y hy;rw[e]at z;exact aq z (by decide)
section
variable{B:Bz}[Y:Yb B]{x m qual:Str}{st s0:Stmt}{l:List Stmt}{k c np n:Nat}{b:FS}{p:Str}{ps xs:aG}{N:aG}
abbrev Bdz(B:Bz)(N:aG)(qual:Str)(st:Stmt)(l:List Stmt)(k:Nat)(b:FS):Prop:=∀{f:Addr} {cdv:aa} {A:aE} {outer:List Env} {s:ae} {H:Hp} {E:XK} [Cz (xa B.P B.w B.G.K B.mg B.base N qual st f cdv A outer s H E) B k],ZB (xa B.P B.w B.G.K B.mg B.base N qual st f cdv A outer s H E) B l b
omit Y in
theorem Bdz.ok(h:Bdz B N qual st l k b)(hl:oY st=l):Bdy B.P B.w B.G.K B.mg B.base N qual st k (tFS B.G b):=λf cdv A outer s H E hr=>by subst hl;exact(@h f cdv A outer s H E ⟨rfl,rfl,rfl,rfl,rfl,rfl,hr⟩).p
theorem gF4{g:aC->Option D}(hg:g=fnD np n b)(q:GD B.G.K x st)(hl:oY st=s0::l)(body:Bdz B (nmO st) x st (s0::l) k b)(S:okO (nmO st) (psO st) st np n=true:=by kernel_rfl)(bd:Bds x x st (psO st):=by (repeat intro _);rfl):Df B (k+1) x (spF B.G g):=
 ⟨_,gF hg Y.y q (okk S).1 (body.ok hl) (okk S).2.1 (okk S).2.2 bd⟩
theorem gF5(N:aG){g:aC->Option D}(hg:g=fnD np n b)(q:GD B.G.K x st)(hl:oY st=s0::l)(body:Bdz B N x st (s0::l) k b)(S:okO N (psO st) st np n=true:=by kernel_rfl)(bd:Bds x x st (psO st):=by (repeat intro _);rfl):Df B (k+1) x (spF B.G g):=
 ⟨_,gF hg Y.y q (okk S).1 (body.ok hl) (okk S).2.1 (okk S).2.2 bd⟩
theorem gA4{fx:Str}{g:aC->Option D}(hg:g=fnD np n b)(q:GDa B.G.K x fx st)(hl:oY st=s0::l)(body:Bdz B (nmO st) fx st (s0::l) k b)(S:okO (nmO st) (psO st) st np n=true:=by kernel_rfl)(bd:Bds fx fx st (psO st):=by (repeat intro _);rfl):Df B (k+1) x (spF B.G g):=
 ⟨_,gFa hg Y.y q (okk S).1 (λ{f cdv A outer s H E} hr=>body.ok hl f cdv A outer s H E hr) (okk S).2.1 (okk S).2.2 bd⟩
theorem gN4{g:aC->Option aC}(hg:g=fnN np n b)(q:GD B.G.K x st)(hl:oY st=s0::l)(body:Bdz B (nmO st) x st (s0::l) k b)(S:okO (nmO st) (psO st) st np n=true:=by kernel_rfl)(bd:Bds x x st (psO st):=by (repeat intro _);rfl):Df B (k+1) x (spN B.G g):=
 ⟨_,gN' hg Y.y q (okk S).1 (body.ok hl) (okk S).2.1 (okk S).2.2 bd⟩
theorem gL4{g:aC->aC->Option (D×aC)}(hg:g=fnL np n b)(q:GD B.G.K x st)(hl:oY st=s0::l)(body:Bdz B (nmO st) x st (s0::l) k b)(S:okO (nmO st) (psO st) st (np+1) n=true:=by kernel_rfl)(bd:Bds x x st (psO st):=by (repeat intro _);rfl):Df B (k+1) x (spL B.G g):=
 ⟨_,gL hg Y.y q (okk S).1 (body.ok hl) (okk S).2.1 (okk S).2.2 bd⟩
theorem gM4{g:aC->aC->Option (D×aC)}(hg:g=fnM np n b)(q:GD B.G.K x st)(hl:oY st=s0::l)(hp:psO st=p::ps)(body:Bdz B (nmO st) x st (s0::l) k b)(S:okO (nmO st) (p::ps) st (np+1) n=true:=by kernel_rfl)(bd:Bds x x st (p::ps):=by (repeat intro _);rfl):Df B (k+1) x (spM B.G g):=
 ⟨_,gM hg Y.y q (okk S).1 (body.ok hl) (iN (okk S).2.1) (okk S).2.2 bd⟩
theorem hF4{g:aC->Option D}(C:CF B.G.K (B.G.ca c) xs)(hg:g=fnD np n b)(q:GM B.G.K (B.G.ca c) m qual st)(hl:oY st=s0::l)(body:Bdz B (nmO st) qual st (s0::l) k b)(S:okO (nmO st) (psO st) st np n=true:=by kernel_rfl)(bd:Bds m qual st (psO st):=by (repeat intro _);rfl):yT B.G B.P B.w B.mg B.base (k+1) m c g:=by obtain⟨f,fd,a,i,F⟩:=q;exact⟨f,fd,_,C.ci.cl,⟨a,i,F.kp⟩,bd.ok F,Hn hg (okk S).2.1 (okk S).2.2 F (okk S).1 (body.ok hl f)⟩
theorem gI4{g:aC->Option (aG×aC)}(C:CF B.G.K (B.G.ca c) xs)(a:gK B.G.K mainGlobals x=some (some (.ref (B.G.ca c))))(hg:g=fnI c np n b)(q:GM B.G.K (B.G.ca c) "__init__" qual st)(hl:oY st=s0::l)(hp:psO st=p::ps)(body:Bdz B (nmO st) qual st (s0::l) k b)(S:okO (nmO st) (p::ps) st (np+1) n=true:=by kernel_rfl)(bd:Bds "__init__" qual st (p::ps):=by (repeat intro _);rfl):Kf B (k+1) x c g []:=
 ⟨⟨_,gI hg Y.y C a q (okk S).1 (body.ok hl) (iN (okk S).2.1) (okk S).2.2 bd⟩,rfl⟩
theorem gJ4{g:aC->Option (aG×aC)}{dds:aC}(C:CF B.G.K (B.G.ca c) xs)(a:gK B.G.K mainGlobals x=some (some (.ref (B.G.ca c))))(hg:g=fnI c np n b)(q:GJ B.G.K (B.G.ca c) qual st (dds.map vD))(hl:oY st=s0::l)(hp:psO st=p::ps)(body:Bdz B (nmO st) qual st (s0::l) k b)(j:Nat)(S:okO (nmO st) (p::ps) st (np+1) n=true:=by kernel_rfl)(hf:dds.all qQ=true:=by rfl)
  (bd:Gk (dds.map vD).length λdl=>Gk ((p::ps).length - ((dds.map vD).drop j).length) λus=>∀(T:Addr) (kV doc pm:aa) (an:Option Addr) (cdv ct:aa),∃k,bindArgs (fnOf "__init__" qual (tW st) (oY st) (ou st) (.ref T) kV doc pm an cdv ct) ⟨us,[]⟩=seqItems? (.ref T)>>=k/\k (some dl.toArray)=pure ((p::ps).zip (us++dl.drop j)):=by (repeat intro _);exact⟨_,rfl,rfl⟩):Kf B (k+1) x c g (dds.drop j):=
 ⟨⟨_,by rw[fA];exact gJ hg Y.y C a q (okk S).1 (body.ok hl) j (iN (okk S).2.1) (okk S).2.2 bd⟩,by
  rw[bB]at hf ⊢;exact λd h=>hf d (lY h)⟩
theorem OI(n:Nat)(ca:Nat->Addr):∀k,k<n->((bg n).map ca).getD k 0=ca k:=λk h=>by rw[bH,bt,l5 h];rfl
theorem VG{n:Nat}{ca:Nat->Addr}(h:decide ((bg n).map ca).Nodup=true):∀j k,j<n->k<n->ca j=ca k->j=k:=λj k hj hk e=>by rw[<-OI n ca j hj,<- OI n ca k hk]at e;exact Rr (bA h) (by simpa using hj) (by simpa using hk) e
def Ju:Nat->(Nat->Prop)->Prop
 |0,_=>True
 |n+1,Q=>Q 0/\Ju n λk=>Q (k+1)
theorem Ju.at:∀{n:Nat} {Q:Nat->Prop},Ju n Q->∀k,k<n->Q k
 |_+1,_,h,0,_=>h.1
 |_+1,_,h,k+1,hk=>Ju.at (Q:=λk=>_) h.2 k (Nat.lt_of_succ_lt_succ hk)
end
section
variable{X:Cx}{B:Bz}{k j i n:Nat}{x y:Str}{e e' tg:Expr}{es:List Expr}{p p2 p3 pos apos:Pos}{f f':FE}{a:FA}{st:Stmt}{sts:List Stmt}{fs fs':FS}{ft:FT}
theorem Td{gg:FG}(hn:X.N.length=n)(he:ZE X B e f)(hg:ZG X B tg n gg)(hs:swapsWithSole [tg] e pos.line X.env=pure false)(hw:swappedStores [tg] e X.env=pure none)(h1:(assignEach [tg] X.env).map (·.2)=[assign tg X.env]):ZS X B (.Assign [tg] e pos) (IF f gg):=⟨NB (P3 he.p hg.p hs hw h1)⟩
theorem Te [C:Cz X B k][N:Nb B "int"](hg:Gz X "int")(hs:S1 X e)(ha:ZE X B e f):ZE X B (.Call (.Name "int" p) [e] [] pos) (c1 NW f):=⟨Pm Q2 (ctI hg (by decide) hs Il Pv.boot_int (rb ha.p sq hs))⟩
theorem Tf(ha:ZE X B e f):ZE X B (.UnaryOp .USub e pos) (c1 E1 f):=⟨Rt ha.p⟩
end
end L4
namespace L4
open PySem PySem.Spec PyProof.Rows L2 L3
variable{pos:Pos}
section
variable{X:Cx}{G:Bg}
theorem LM:PE X (.Dict [] [] pos) (J8 []):=PE.weak Aw λσ H Q hh p e=>by
 obtain⟨_,kvs,e1,_,q⟩:=hh p e;cases kvs with
 |nil=>
  have:upd (upd H p (.dK [])) p (.dK (vZ [] []))=upd H p (.dK []):=by
   funext a
   unfold upd;split<;>rfl
  rw[this]at q;exact q
 |cons _ _=>cases e1
theorem LN:PE X (.Dict [] [] pos) (tF G (yg [])):=HA LM fw (bW _)
end
theorem Tg{X:Cx}{B:Bz}:ZE X B (.Dict [] [] pos) (yg []):=⟨LN⟩
section
variable{t:jc}{m n:Nat}
def rs(m i q:Nat):iF:=⟨i,jS m i - i,i,q,none⟩
end
section
variable{ow:Array (Option Nat)}
def lv(ow:Array (Option Nat)):List (Nat×Nat):=(bg 32).filterMap λj=>(ow.getD j none).map (j,·)
end
end L4
namespace L4
open PySem PySem.Spec PySem.Calls PyProof.Rows PySem.W L2 L3
noncomputable abbrev cS(s:Str):FE:=cC (.str s)
noncomputable abbrev a1(e:FE):FA:=nU e ox
end L4
namespace L4
open PySem PySem.Spec PyProof.Rows L2 L3
section
variable{X:Cx}{B:Bz}{k j i m:Nat}{x:Str}{e e':Expr}{es:List Expr}{d:D}{p pos:Pos}{g:D->D->Option D}
theorem Vc{l:List Stmt}:ZB X B l UQ:=⟨λpins s σ H D I h=>by
 obtain⟨F,ρ,H0,o,R,e,_⟩:=h;cases e⟩
end
end L4
namespace HT
open PySem PySem.Spec PyProof.Rows
section
variable{prog:aA}{w:av}{A:aE}{E:aa->ae->Prop}{s:ae}
theorem wX{t sl:Addr}{items:Array aa}{vl vu:aa}{lo hi:Option Int}{Q:aa->ae->Prop}(ht:cB s.heap t items)(hs:s.heap.IsSliceOf sl vl vu .none)(pl:cY vl lo)(pu:cY vu hi)
  (hw:sIx items.size 0 lo=0/\sIx items.size items.size hi=items.size)
  (h:Q (.ref t) s):wpAny (model prog w) A (getItem (.ref t) (.ref sl)) Q E s:=by
 obtain⟨os,hos,hcs,hds⟩:=id hs;have hTs:s.TypeIs (.ref sl) "slice" := ⟨os,hos,hcs⟩;unfold getItem
 try with_reducible refine cz ?_
 first|refine ag (au ?_)|skip
 refine ag (mx ht.typeIs (by decide) ?_);refine ag (fi (name:=fE "__getitem__") ht.typeIs dU
  (dB dU ht.typeIs l3 ?_ (md _ _)))
 show wpAny _ _ (lr (.ref t)>>=_) _ _ s;refine ag (tupleItemsOf_ ht ?_);refine ag (iK hTs ?_);rw[ai (by decide)];refine ag (uH hs pl pu ?_);have hno:((((sIx items.size 0 lo:Nat):Int)==0&&(1:Int)==1&&(sIx items.size items.size hi - sIx items.size 0 lo)==items.size)=true):=by rw[hw.1,hw.2];simp
 show wpAny _ _ (if (((sIx items.size 0 lo:Nat):Int)==0&&(1:Int)==1&&(sIx items.size items.size hi - sIx items.size 0 lo)==items.size)=true then _ else _) _ _ s;rw[ai hno];refine ag (ag (iK ht.typeIs (au ?_)));rw[ai (by decide)];exact ag (iV (au ⟨_,rfl,au h⟩))
end
end HT
namespace L2
open PySem PySem.Spec PyProof.Rows
section
variable{X:Cx}
def Ti(K:ao):V->Option Int->Option Int->Hp->VK->Prop:=λx lo hi H Q=>∃a xs,x=.ref a/\SqT K H a xs/\
 ((HT.sIx xs.length 0 lo=0/\HT.sIx xs.length xs.length hi=xs.length)->Q (.ref a) H)/\(¬(HT.sIx xs.length 0 lo=0/\HT.sIx xs.length xs.length hi=xs.length)->∀p,H p=none->Q (.ref p) (upd H p (.tup (Di xs lo hi))))
theorem OJ:SlR X (Ti X.K):=by
 intro pins s σ H x v vl vu lo hi sl Q I rx hs pl pu h;obtain⟨a,xs,rfl,hx,q1,q2⟩:=h;by_cases hw:HT.sIx xs.length 0 lo=0/\HT.sIx xs.length xs.length hi=xs.length
 ·cases rx;obtain⟨its,r,ht,hz⟩:=I.tuple hx;have hlen:its.toArray.size=xs.length:=by rw[aT];exact r.length.symm
  exact⟨"tuple", _,dU.lookup,ht.typeIs,HT.wX ht hs pl pu (by rw[hlen];exact hw) ⟨.ref a,H,I,rfl,q1 hw⟩⟩
 ·exact Ql pins s σ H _ v vl vu lo hi sl Q I rx hs pl pu ⟨a,xs,rfl,hx,hw,q2 hw⟩
def Vd(K:ao):R2:=λx y H Q=>∃a b xs ys,x=.ref a/\y=.ref b/\SqT K H a xs/\SqT K H b ys/\xs.length+ys.length<=sizeLine/\
 (xs=[]->Q (.ref b) H)/\(ys=[]->Q (.ref a) H)/\∀p,H p=none->Q (.ref p) (upd H p (.tup (xs++ys)))
theorem OK:OpR X (binaryOp .Add) (Vd X.K):=by
 intro pins s σ H x y v u Q I rx ry h;obtain⟨a,b,xs,ys,rfl,rfl,ha,hb,hz,q0,q1,q2⟩:=h;by_cases hx:xs=[]
 ·cases rx;cases ry;obtain⟨its,r1,p1,_⟩:=I.tuple ha;obtain⟨its2,r2,p2,_⟩:=I.tuple hb;have hv:=r1.nil_iff.mpr hx;obtain⟨⟨cls,dd,data,sl⟩,ho,hc,n,hd⟩:=id p1;obtain⟨⟨cls2,dd2,data2,sl2⟩,ho2,hc2,n2,hd2⟩:=id p2;simp only at hc hd hc2 hd2;subst hc hd hc2 hd2;exact j7 ⟨_,ho,rfl⟩ ⟨_,ho2,rfl⟩ jM jV jN jJ (jD _ _)
   (tuple_addW0 _ _ its.toArray its2.toArray n n2 dd dd2 sl sl2 (by simp[hv])) ⟨ho,ho2,⟨.ref b,H,I,rfl,q0 hx⟩⟩
 ·exact G0 pins s σ H _ _ v u Q I rx ry ⟨a,b,xs,ys,rfl,rfl,ha,hb,hx,hz,q1,λ_=>q2⟩
theorem LO:OpR X (compareOp .Is) (λx y H Q=>∃i j,x=.bl i/\y=.bl j/\Q (.bl (i==j)) H):=by intro pins s σ H x y v u Q I rx ry h;obtain⟨i,j,rfl,rfl,q⟩:=h;cases rx;cases ry;exact is_bool (oR I q rfl)
end
end L2
namespace L4
open PySem PySem.Spec PyProof.Rows L2 L3
variable{e:Expr}{f:FE}
section
variable{X:Cx}{G:Bg}
def OL:D->D->Option D
 |.bl a,.bl b=>some (.bl (a==b))
 |_,_=>none
theorem Tj:OpD G (λx y H Q=>∃i j,x=.bl i/\y=.bl j/\Q (.bl (i==j)) H) OL:=λx y z H0 H v u Q e s rx ry k=>by
 unfold OL at e;split at e
 ·rename_i a b;cases e;unfold Rep at rx ry;exact⟨a,b,rx,ry,k _ λ_ _=>q9 _⟩
 ·cases e
instance inIs:CmC .Is OL:=⟨λ_ _ _ _=>⟨_,LO,Tj⟩⟩
def xH(f:FE)(lo hi:FO):FE:=λρ=>match f ρ with
 |some (.tup ds,ρ1)=>match lo ρ1 with
  |some (l,ρ2)=>match hi ρ2 with
   |some (h,ρ3)=>some (.tup (cutD ds l h),ρ3)
   |none=>none
  |none=>none
 |_=>none
theorem Jv{lo hi:FO}(h:PE X e (tSl (Ti G.K) (tF G f) (tFO G lo) (tFO G hi))):PE X e (tF G (xH f lo hi)):=PE.weak h λσ H Q hh=>by
 obtain⟨F,ρ,H0,d,ρ',R,e,k⟩:=hh;unfold xH at e;split at e
 ·rename_i ds ρ1 e1;split at e
  ·rename_i l ρ2 e2;split at e
   ·rename_i hx ρ3 e3;cases e;refine⟨F,ρ,H0,_,_,R,e1,λv H1 H1' s R' r=>⟨F,ρ1,H1,l,ρ2,R',e2,λH2 H2' s2 R2=>⟨F,ρ2,H2,hx,_,R2,e3,λH3 H3' s3 R3=>?_⟩⟩⟩;have r3:=Rep.mono (s2.trans s3) _ _ r;have r0:=r3;unfold Rep at r3;obtain⟨a,ys,rfl,h1,h2⟩:=r3;refine⟨a,ys,rfl,SqT.mono R3.sub h1,λhw=>?_,λ_ p hp=>k _ _ _ ((s.trans (s2.trans s3)).trans (oh (R3.h0none hp) _)) (R3.newIm hp _) (sS (SqT.of oa) (nZ.mono (oh (R3.h0none hp) _) _ _ (AN h2)))⟩;have ec:cutD ds l hx=ds:=by unfold cutD;rw[<-n8 h2]at hw;rw[hw.1,hw.2];simp
    rw[ec]at k;exact k _ _ _ (s.trans (s2.trans s3)) R3 r0
   ·cases e
  ·cases e
 ·cases e
theorem VH(hK:X.K=G.K:=by rfl):SlR X (Ti G.K):=by rw[<-hK];exact OJ
def vL(f g:FE):FE:=λρ=>match f ρ with
 |some (.tup xs,ρ1)=>match g ρ1 with
  |some (.tup ys,ρ2)=>if xs.length+ys.length<=900 then some (.tup (xs++ys),ρ2)else none
  |_=>none
 |_=>none
theorem OM{a b:Expr}{g:FE}{pos:Pos}(ha:PE X a (tF G f))(hb:PE X b (tF G g))(hK:X.K=G.K:=by rfl):PE X (.BinOp a .Add b pos) (tF G (vL f g)):=PE.weak (GU OK ha hb) λσ H Q hh=>by
 rw[hK];obtain⟨F,ρ,H0,d,ρ',R,e,k⟩:=hh;unfold vL at e;split at e
 ·rename_i xs ρ1 e1;split at e
  ·rename_i ys ρ2 e2;split at e
   ·rename_i hl;cases e;refine⟨F,ρ,H0,_,ρ1,R,e1,λv H1 H1' s R' r=>⟨F,ρ1,H1,_,_,R',e2,λu H2 H2' s2 R2 r2=>?_⟩⟩;have r':=Rep.mono s2 _ _ r;have r0:=r';have r3:=r2;unfold Rep at r' r2;obtain⟨a1,xs1,rfl,h1,h2⟩:=r';obtain⟨a2,xs2,rfl,h3,h4⟩:=r2;have l1:=n8 h2;have l2:=n8 h4;refine⟨a1,a2,xs1,xs2,rfl,rfl,SqT.mono R2.sub h1,SqT.mono R2.sub h3,by rw[<-l1,<- l2];exact r6 (by omega),λz=>?_,λz=>?_,λp hp=>?_⟩
    ·have ex:xs=[]:=by rw[z]at l1;exact hU.mp l1
     subst ex;exact k _ _ _ (s.trans s2) R2 r3
    ·have ey:ys=[]:=by rw[z]at l2;exact hU.mp l2
     subst ey;rw[bz]at k;exact k _ _ _ (s.trans s2) R2 r0
    ·exact k _ _ _ ((s.trans s2).trans (oh (R2.h0none hp) _)) (R2.newIm hp _) (sS (SqT.of oa) (nZ.mono (oh (R2.h0none hp) _) _ _ (qe h2 h4)))
   ·cases e
  ·cases e
 ·cases e
def LP(G:Bg)(a n:FA):TA:=λσ H Q=>∃F ρ H0 ds ρ1 ns ρ2,oq G F σ ρ H0 H/\a ρ=some (ds,ρ1)/\n ρ1=some (ns,ρ2)/\∀xs p zs H0' H',oj H0 H0'->oq G F σ ρ2 H0' H'->nZ G H0' ds xs->H' p=some (.lst zs)->H0' p=none->F.B p=none->Apart σ ρ2 p->nZ G H0' ns zs->Q (xs++[.ref p]) H'
theorem LQ{n:FA}(h:PE X e (tFN G n))(hs:starEach [e] X.env=[(false,eval e X.env)]):PA X [e] (LP G ox n):=PA.weak (qH h uo hs) λσ H Q hh=>by obtain⟨F,ρ,H0,ds,ρ1,ns,ρ2,R,e,en,k⟩:=hh;cases e;exact⟨F,ρ,H0,ns,ρ2,R,en,λp zs H1 H1' s R' h1 h2 h3 h4 h5=>k [] p zs _ _ s R' oO h1 h2 h3 h4 h5⟩
theorem Jw{es:List Expr}{g n:FA}(ha:PE X e (tF G f))(hr:PA X es (LP G g n))(hs:starEach (e::es) X.env=(false,eval e X.env)::starEach es X.env):PA X (e::es) (LP G (nU f g) n):=PA.weak (qH ha hr hs) λσ H Q hh=>by obtain⟨F,ρ,H0,ds,ρ1,ns,ρ2,R,e,en,k⟩:=hh;obtain⟨x,r,ρ0,e1,e2,rfl⟩:=xq e;exact⟨F,ρ,H0,x,ρ0,R,e1,λv H1 H1' s R' rv=>⟨F,ρ0,H1,r,ρ1,ns,ρ2,R',e2,en,λxs p zs H2 H2' s2 R2 rs h1 h2 h3 h4 h5=>k _ p zs _ _ (s.trans s2) R2 (oJ (Rep.mono s2 _ _ rv) rs) h1 h2 h3 h4 h5⟩⟩
def Ba(g:aC->aC->Option (D×aC))(a n:FA):FE:=λρ=>match a ρ with
 |some (ds,ρ1)=>match n ρ1 with
  |some (ns,ρ2)=>match g ns ds with
   |some (d,_)=>some (d,ρ2)
   |none=>none
  |none=>none
 |none=>none
theorem oq.temp{F:Fr}{σ:St}{ρ:aU}{H0 H H0' H':Hp}(R:oq G F σ ρ H0 H){b:Addr}{zs:bp}(hb:F.B b=none)(ap:Apart σ ρ b)(s1:oj H0 H0')(s2:oj H0' H')(s3:∀c o,H c=some o->c≠b->H' c=some o)(fr:∀c o,H0' c=some o->H0 c=some o\/H c=none)(hz:H' b=some (.lst zs)):oq G F σ ρ H0' H' where
 sub:=s2
 g0:=R.g0.trans s1
 keep:=λc o e n=>s3 c o (R.keep c o e n) λz=>by rw[z,hb]at e;cases e
 fr:=λc o e=>(fr c o e).elim (R.fr c o) λh=>.inr (R.bNone h)
 am:=λc hc=>by
  obtain⟨o,q⟩:=R.am c hc;by_cases z:c=b
  ·exact⟨_,z▸hz⟩
  ·exact⟨o,s3 c o q z⟩
 len:=R.len
 sl:=λi t e=>(R.sl i t e).grow s1 (λc u z so q=>s3 c u q λw=>ap i t e so (by rw[z,w])) λc u z so q q0=>by
  cases w:H0' c with
  |none=>rfl
  |some o=>
   rcases fr c o w with v|v
   ·rw[v]at q0;cases q0
   ·rw[v]at q;cases q
 ap:=R.ap
theorem ON{g:aC->aC->Option (D×aC)}{a n:FA}{E:XK}(h:PE X e (wY (spL G g) [] E (LP G a n))):PE X e (tF G (Ba g a n)):=PE.weak h λσ H Q hh=>by
 obtain⟨F,ρ,H0,d,ρ',R,e,k⟩:=hh;unfold Ba at e;split at e
 ·rename_i ds ρ1 e1;split at e
  ·rename_i ns ρ2 e2;split at e
   ·rename_i d1 es' e3;cases e;refine⟨F,ρ,H0,ds,ρ1,ns,_,R,e1,e2,λys b zs H1 H1' s R' rs h1 h2 h3 h4 h5=>?_⟩;refine⟨b,ys,bz _,b,ys,zs,H1,ns,ds,_,es',rfl,h1,h2,R'.sub,h5,rs,e3,λv zs' H2 H2' u1 u2 u3 fr w0 w1 w2 w3=>?_⟩;exact k _ _ _ (s.trans u1) (R'.temp h3 h4 u1 u2 u3 fr w1) w3
   ·cases e
  ·cases e
 ·cases e
end
section
variable{X:Cx}{B:Bz}{k j:Nat}{x:Str}{e e':Expr}{es:List Expr}{f f':FE}{a n:FA}{p pos:Pos}{g:aC->aC->Option (D×aC)}
structure ZQ(X:Cx)(B:Bz)(e:List Expr)(f n:FA):Prop where p:PA X e (LP B.G f n)
theorem Tn(h:ZN X B e n)(hs:S1 X e):ZQ X B [e] ox n:=⟨LQ h.p hs⟩
theorem To(ha:ZE X B e f)(hr:ZQ X B es a n)(hs:Sz X e es):ZQ X B (e::es) (nU f a) n:=⟨Jw ha.p hr.p hs⟩
theorem Tp [C:Cz X B k][Q:Df B j x (spL B.G g)](hg:Gz X x)(hd:Dz x)(hs:Sz X e es)(hl:Lz X pos es)(ha:ZQ X B (e::es) a n)(hj:dm j k=true):ZE X B (.Call (.Name x p) (e::es) [] pos) (Ba g a n):=by obtain⟨ps,q⟩:=dz hg hd (X:=X) (Q:=Q);obtain⟨f,fd,h1,h2,h3,h4⟩:=q;exact⟨ON (xQ (p:=p) (pos:=pos) h4 (C.r.mono (dh.mp hj)) hg h1 h2 h3 .nil zu ha.p hd hs hl)⟩
theorem Tq{lo hi:Option Expr}{fl fh:FO}[C:Cz X B k](he:ZE X B e f)(hl:ZO X B lo fl)(hh:ZO X B hi fh):ZE X B (.Subscript e (.Slice lo hi none p) pos) (xH f fl fh):=⟨Jv (As (VH C.K) he.p hl.p hh.p)⟩
theorem Tr [C:Cz X B k](ha:ZE X B e f)(hb:ZE X B e' f'):ZE X B (.BinOp e .Add e' pos) (vL f f'):=⟨OM ha.p hb.p C.K⟩
end
end L4
namespace K14x
open PySem L2 L3 L4
abbrev D:=L4.D
def top(i:Nat):Stmt:=PySem.Challenge.pw_tellworld_k14_what_is_no_stand.main.body.getD i (.Pass ⟨0,0,0,0⟩)
def sj:Nat->Bool:=λc=>c==14
def wc:Nat->Bool:=λc=>c==2
def tH:Nat->Bool:=λc=>c==14
def pM:Nat->Bool:=λc=>c==14
def we:Nat->Bool:=λc=>c==14
def pf:Nat->Bool:=λc=>c==0||c==7
def tI:Nat->Bool:=λc=>c==1
def ue:Nat->Bool:=λc=>c==14
def oA:Nat->Bool:=λc=>c==0||c==1||c==2
def xI:Nat->Bool:=λc=>c==2
def sk:Nat->Bool:=λc=>c==14
def uQ:Nat->Bool:=λc=>c==14
def p6:Nat->Bool:=λc=>c==0||c==1
def tJ:Nat->Bool:=λc=>c==14
def E4:Nat->Bool:=λc=>c==13
def qA:Nat->Bool:=λc=>c==0
def sr:Nat->Bool:=λc=>c==14
abbrev LR:Ty->Option Bool:=CB 15 1
abbrev HH:Ty->Option Bool:=CB 15 0
def wg:L4.D:=(D.int 8)
def wj:L4.D:=(D.int 12)
def Bb:L4.D:=(D.tup [(D.str "it"),(D.str "other"),(D.str "here"),(D.str "the"),(D.str "a"),(D.str "undo"),(D.str "restart")])
def Bc:L4.D:=(D.tup [(D.str "the"),(D.str "a")])
def DQ:L4.D:=(D.tup [(D.str "room"),(D.str "plain"),(D.str "fixed"),(D.str "box"),(D.str "lamp"),(D.str "you")])
def uf:L4.D:=(D.tup [(D.str "room"),(D.str "box"),(D.str "you")])
def ug:L4.D:=(D.tup [(D.str "box"),(D.str "lamp")])
def xc:L4.D:=(D.tup [(D.str "room"),(D.str "you")])
def yn:L4.D:=(D.int 5)
def xf:L4.D:=(D.int 7)
def sT:L4.D:=(D.int 4)
def wm:L4.D:=(D.int 3)
def zD:L4.D:=(D.int 10)
def yp:L4.D:=(D.int 6)
def vp:L4.D:=(D.int 4)
def tK:L4.D:=(D.tup [(D.str "the"),(D.str "a"),(D.str "undo"),(D.str "restart")])
def yq:L4.D:=(D.int 20)
abbrev af:=(cV 0)
abbrev aJ:=(cC (.int 1))
abbrev ak:=(cV 1)
def tL:FS:=(oQ (ro (c1 (qv (pR "str")) af) (ro (qm rK rK aJ (c1 pP af) ak) (c1 tE (cL (oB 1 [] (iS af) (gN 0) pF (qm KF KF (cS "a") af (cS "z"))))))))
def rA:=fnD 2 2 tL
def CI:FS:=(oQ (ro (n4 rA (nU af (a1 (cC wg)))) (c2 (dIn true) af (cC Bb))))
def wU:=fnD 1 1 CI
def CJ:FS:=(oQ (ro (n4 rA (nU af (a1 (cC wj)))) (c2 (dIn true) af (cC Bc))))
def tq:=fnD 1 1 CJ
def zE:FS:=(oQ (ro (c1 (qv (pR "str")) af) (c2 (dIn false) af ak)))
def qb:=fnD 2 2 zE
def Bd:FS:=(oQ (ro (c1 (qv (pR "int")) af) (Dv (c1 (qv (pR "bool")) af))))
def rB:=fnD 1 1 Bd
def vM:FS:=(oQ (ro (c1 (qv (pR "list")) af) (c2 rK (c1 pP af) ak)))
def p8:=fnD 2 2 vM
def Be:FS:=(oQ (cIf (cT (c1 (qv (pR "list")) af)) (cL (uK af)) af))
def xJ:=fnD 1 1 Be
abbrev aw:=(cV 2)
abbrev aB:=(cV 3)
abbrev aN:=(cV 4)
def yt:FS:=(n9 (o7 0 0 "name" ak)
 (n9 (o7 0 0 "words" aw)
 (n9 (o7 0 0 "kind" aB)
 (o7 0 0 "start" aN))))
def yu:=fnI 0 4 5 yt
def zF:FS:=(n9 (o7 1 0 "name" ak)
 (n9 (o7 1 0 "start" aw)
 (o7 1 0 "most" aB)))
def zG:=fnI 1 3 4 zF
abbrev bG:=(cC D.non)
def wo:FS:=(n9 (o7 2 0 "name" ak)
 (n9 (o7 2 0 "others" (cIf (cT (c2 yb aw bG)) (pG ox) aw))
 (n9 (o7 2 0 "form" aB)
 (o7 2 0 "joining" aN))))
def qS:=fnI 2 4 5 wo
def CK:FS:=(n9 (o7 3 0 "term" ak)
 (o7 3 0 "place" aw))
def CL:=fnI 3 2 3 CK
def Bf:FS:=(o7 4 0 "term" ak)
def xK:=fnI 4 1 2 Bf
def xg:FS:=(n9 (o7 6 0 "term" ak)
 (o7 6 0 "value" aw))
def qC:=fnI 6 2 3 xg
def zH:FS:=(n9 (o7 7 0 "term" ak)
 (o7 7 0 "kind" aw))
def qT:=fnI 7 2 3 zH
def Bh:FS:=(o7 9 0 "inner" ak)
def rD:=fnI 9 1 2 Bh
def zI:FS:=(n9 (o7 11 0 "term" ak)
 (o7 11 0 "place" aw))
def sI:=fnI 11 2 3 zI
def Bi:FS:=(n9 (o7 12 0 "term" ak)
 (o7 12 0 "value" aw))
def tM:=fnI 12 2 3 Bi
abbrev aY:=(cV 5)
abbrev c6:=(a1 aw)
abbrev gW:=(a1 aB)
def zJ:FS:=(n9 (o7 13 0 "verb" ak)
 (n9 (o7 13 0 "tests" (n4 xJ c6))
 (n9 (o7 13 0 "deeds" (n4 xJ gW))
 (n9 (o7 13 0 "text" aN)
 (o7 13 0 "refuses" aY)))))
def wq:=fnI 13 5 6 zJ
def uR:FS:=(oQ (c2 (dIn false) (c1 (oF pf "kind") af) (cC uf)))
def uS:=fnD 1 1 uR
def pU:Nat->Option (List D->Option D):=λc=>match c with
 |0=>some uS
 |_=>none
def uT:FS:=(oQ (c2 (dIn false) (c1 (oF pf "kind") af) (cC ug)))
def uU:=fnD 1 1 uT
def qf:Nat->Option (List D->Option D):=λc=>match c with
 |0=>some uU
 |_=>none
def tN:FS:=(oQ (c2 (dIn true) (c1 (oF pf "kind") af) (cC xc)))
def tP:=fnD 1 1 tN
def sm:Nat->Option (List D->Option D):=λc=>match c with
 |0=>some tP
 |_=>none
def vO:FS:=(sIf (qu (cT af)) UQ o5)
def oi:=fnD 2 2 vO
def Bj:FS:=(oQ (c1 pP (cL (oB 1 [1] (iL af) (gN 0) (cT (c2 (dEq false) (c1 (oF pf "kind") af) ak)) af))))
def vq:=fnD 2 2 Bj
def yw:FS:=(qI (oB 1 [] (iL af) (gN 0) (cT (pj sm "is_plainly" af ox)) af))
def qW:=fnN 1 1 yw
abbrev aX:=(cC (.int 0))
abbrev cy:=(cC (.bl false))
def y8:FS:=(n9 (sIf (uJ (qu (cT (c1 (qv LR) af))) (uJ (qu (cT (n4 rB (a1 (c1 (oF p6 "start") af))))) (qu (cT (n4 rB (a1 (c1 (oF tI "most") af))))))) (oQ cy) o5)
 (oQ (ro (qm rK rK aJ (c1 (oF tI "most") af) (cC wm)) (qm rK rK aX (c1 (oF p6 "start") af) (c1 (oF tI "most") af)))))
def y9:=fnD 1 1 y8
abbrev cZ:=(cS "you")
abbrev dq:=(cS "room")
abbrev bC:=(a1 af)
def tQ:FS:=(n9 (oT 1 (ro (c1 (qv (pR "list")) af) (c1 tE (cL (oB 1 [] (iL af) (gN 0) pF (c1 (qv HH) af))))))
 (n9 (oV (n4 oi (nU ak (a1 (cS "things are a list of things")))))
 (n9 (oV (n4 oi (nU (c1 tE (cL (oB 1 [] (iL af) (gN 0) pF (n4 qb (nU (c1 (oF pf "kind") af) (a1 (cC DQ))))))) (a1 (cS "a thing is of no kind")))))
 (n9 (oV (n4 oi (nU (qm rK rK aJ (n4 vq (nU af (a1 dq))) (cC yn)) (a1 (cS "a world has 1 to 5 rooms")))))
 (n9 (oV (n4 oi (nU (c2 (dEq false) (n4 vq (nU af (a1 cZ))) aJ) (a1 (cS "a world has just one you")))))
 (oV (n4 oi (nU (c2 rK (c1 pP (cL (o6 qW bC))) (cC xf)) (a1 (cS "a world has at most 7 things beside rooms and you"))))))))))
def tR:=fnD 1 2 tQ
def ur:FS:=(n9 (oT 1 (ro (n4 p8 (nU af (a1 (cC sT)))) (c1 tE (cL (oB 1 [] (iL af) (gN 0) pF (n4 y9 bC))))))
 (oV (n4 oi (nU ak (a1 (cS "marks are a list of at most 4 marks, each from 0 to at most 3"))))))
def uu:=fnD 1 2 ur
def yx:FS:=(oQ (c2 (dEq false) (c1 DE af) (c1 pP af)))
def qc:=fnD 1 1 yx
def uv:FS:=(n9 (oT 2 (cL (qF (cL (oB 1 [] (iL af) (gN 0) pF (c1 (oF oA "name") af))) (cL (oB 1 [] (iL ak) (gN 0) pF (c1 (oF oA "name") af))))))
 (n9 (oV (n4 oi (nU (c1 tE (cL (oB 1 [] (iL aw) (gN 0) pF (n4 wU bC)))) (a1 (cS "a name is no name")))))
 (oV (n4 oi (nU (n4 qc c6) (a1 (cS "two things or marks have one name")))))))
def uw:=fnD 2 3 uv
def yy:FS:=(qI (qF (cL (oB 1 [] (iL af) (gN 0) (cT (pj qf "has_mark" af ox)) (c1 (oF oA "name") af))) (cL (oB 1 [] (iL ak) (gN 0) pF (c1 (oF oA "name") af)))))
def qo:=fnN 2 2 yy
def xM:FS:=(n9 (sIf (cT (c2 (dEq false) (c1 (oF pf "kind") ak) dq)) (oQ (c2 yb (c1 (oF p6 "start") ak) bG)) o5)
 (n9 (sIf (cT (c2 (dEq false) (c1 (oF pf "kind") ak) cZ)) (oQ (n4 qb (nU (c1 (oF p6 "start") ak) (a1 (cL (oB 1 [] (iL af) (gN 0) (cT (c2 (dEq false) (c1 (oF pf "kind") af) dq)) (c1 (oF oA "name") af))))))) o5)
 (oQ (n4 qb (nU (c1 (oF p6 "start") ak) (a1 (cL (oB 1 [] (iL af) (gN 0) (cT (pj pU "can_hold" af ox)) (c1 (oF oA "name") af)))))))))
def xN:=fnD 2 2 xM
abbrev cM:=(cC (.bl true))
def rN:FS:=(n9 (oT 2 (c2 qK af ak))
 (n9 (sd (iR1 (c1 pP af)) (gN 3) (n9 (sIf (cT (c2 yb aw bG)) (oQ cM) o5)
 (oT 2 (c2 qK af aw))))
 (oQ (c2 yb aw bG))))
def qp:=fnD 2 4 rN
abbrev jm:=(nU ak bC)
def tS:FS:=(n9 (oV (n4 oi (nU (c1 tE (cL (oB 1 [0] (iL af) (gN 0) pF (n4 xN jm)))) (a1 (cS "a start is none")))))
 (n9 (ye 1)
 (n9 (sd (iL af) (gN 2) (pB 1 (c1 (oF oA "name") aw) (c1 (oF p6 "start") aw)))
 (oV (n4 oi (nU (c1 tE (cL (oB 1 [1] (iD (cFz 1)) (gN 0) pF (n4 qp jm)))) (a1 (cS "a thing starts within itself"))))))))
def tT:=fnD 1 3 tS
def wt:FS:=(n9 (sIf (uJ (qu (cT (c1 (qv (pR "tuple")) af))) (qu (cT (qm rK rK aJ (c1 pP af) (cC vp))))) (oQ cy) o5)
 (oQ (ro (c1 tE (cL (oB 1 [] (iT af) (gN 0) pF (n4 tq bC)))) (n4 qc bC))))
def wu:=fnD 1 1 wt
def CM:FS:=(oQ (c1 tE (cL (oB 1 [0] (iT ak) (gN 0) pF (c2 (dIn false) af ak)))))
def wV:=fnD 2 2 CM
def sN:FS:=(n9 (oT 2 (cL (oB 1 [1] (iL af) (gN 0) (cT (c2 (dEq true) (c1 (oF oA "name") af) (c1 (oF oA "name") ak))) af)))
 (oQ (Dv (c1 AR (cL (oB 1 [1] (iL aw) (gN 0) pF (n4 wV (nU (c1 (oF qA "words") af) (a1 (c1 (oF qA "words") ak))))))))))
def sO:=fnD 2 3 sN
def qg:FS:=(n9 (oV (n4 oi (nU (c1 tE (cL (oB 1 [] (iL af) (gN 0) pF (n4 wu (a1 (c1 (oF qA "words") af)))))) (a1 (cS "a thing has 1 to 4 unlike words, as a tuple")))))
 (n9 (oT 1 (cL (o6 qW bC)))
 (oV (n4 oi (nU (c1 tE (cL (oB 1 [1] (iL ak) (gN 0) pF (n4 sO jm)))) (a1 (cS "one thing has all words of another")))))))
def qh:=fnD 1 2 qg
abbrev dr:=(a1 ak)
abbrev gV:=(nU af dr)
def vt:FS:=(n9 (oT 2 (ro (c1 (qv (pR "list")) af) (ro (c1 tE (cL (oB 1 [1] (iL af) (gN 0) pF (n4 qb gV)))) (n4 qc bC))))
 (oV (n4 oi (nU aw (a1 (cS "dark is a list of rooms' names, each once"))))))
def vv:=fnD 2 3 vt
def yz:FS:=(n9 (oT 3 (ro (n4 p8 (nU af (a1 (cC zD)))) (c1 tE (cL (oB 1 [1,2] (iL af) (gN 0) pF xB)))))
 (n9 (oV (n4 oi (nU aB (a1 (cS "ways are a list of at most 10 tuples (room, word, room, mark)")))))
 (oV (n4 oi (nU (n4 qc (a1 (cL (oB 1 [] (iL af) (gN 0) pF (pG (nU (c2 dIx af aX) (a1 (c2 dIx af aJ)))))))) (a1 (cS "two ways lead from one room by one word")))))))
def vw:=fnD 3 4 yz
def xh:FS:=(n9 (oT 1 (ro (n4 p8 (nU af (a1 (cC yp)))) (c1 tE (cL (oB 1 [] (iL af) (gN 0) pF xB)))))
 (oV (n4 oi (nU ak (a1 (cS "verbs are a list of at most 6 verbs"))))))
def ux:=fnD 1 2 xh
def zK:FS:=(oQ (Dv (c1 AR (cL (oB 1 [1] (iL af) (gN 0) pF (c2 (dIn false) af ak))))))
def sJ:=fnD 2 2 zK
abbrev bh:=(cV 6)
abbrev bN:=(cV 7)
def rE:FS:=(n9 (tD 3 (oU ox))
 (n9 (sd (iL (cL (o6 qW bC))) (gN 4) (oV (zy 3 (c1 (oF qA "words") aN))))
 (n9 (tD 5 (oU ox))
 (n9 (sd (iL aw) (gN 6) (oV (zy 5 (zx (pG (a1 (c1 (oF oA "name") bh))) (c1 (oF xI "others") bh)))))
 (n9 (oT 7 (cL (qF (cL (oB 1 [] (iL aw) (gN 0) (cT (c2 KG (c1 (oF wc "joining") af) bG)) (c1 (oF wc "joining") af))) (cL (oB 1 [] (iL ak) (gN 0) pF (c2 dIx af aJ))))))
 (n9 (oV (n4 oi (nU (n4 qc (a1 (cFz 5))) (a1 (cS "two verbs' names are alike")))))
 (n9 (oV (n4 oi (nU (n4 sJ (nU (cL (qF (cFz 5) bN)) (a1 (cFz 3)))) (a1 (cS "a verb's, way's or joining word is a word of a thing")))))
 (n9 (oV (n4 oi (nU (n4 sJ (nU (cL (qF (cFz 5) bN)) (a1 (cC tK)))) (a1 (cS "the, a, undo or restart is a word of the world")))))
 (oV (n4 oi (nU (n4 sJ (nU bN (a1 (cFz 5)))) (a1 (cS "a way's or joining word is a verb's name")))))))))))))
def qq:=fnD 3 8 rE
abbrev fM:=(a1 aN)
def uy:FS:=(n9 (oV (n4 tR bC))
 (n9 (oV (n4 uu dr))
 (n9 (oV (n4 uw gV))
 (n9 (oV (n4 tT bC))
 (n9 (oV (n4 qh bC))
 (n9 (oT 6 (cL (oB 1 [] (iL af) (gN 0) (cT (c2 (dEq false) (c1 (oF pf "kind") af) dq)) (c1 (oF oA "name") af))))
 (n9 (oV (n4 vv (nU aw (a1 bh))))
 (n9 (oV (n4 vw (nU aB (nU bh (a1 (cL (o6 qo gV)))))))
 (n9 (oV (n4 ux fM))
 (oV (n4 qq (nU af (nU aB (a1 (cL (qF aN aY))))))))))))))))
def uz:=fnD 6 7 uy
def LS:FS:=(oQ (pb 13 (λds=>wq (ds++[])) (nU af (nU ak (nU aw (nU aB (a1 cy)))))))
def uA:=fnD 4 4 LS
def CN:FS:=(oQ (pb 13 (λds=>wq (ds++[])) (nU af (nU ak (nU (cL (oU ox)) (nU aw (a1 cM)))))))
def pC:=fnD 3 3 CN
abbrev cp:=(cS "it")
def yA:FS:=(qI (oU (nU (n4 pC (nU (cS "take") (nU (cL (oU (a1 (pb 7 (λds=>qT (ds++[])) (nU cp (a1 (cS "fixed"))))))) (a1 (cS "That stays."))))) (nU (n4 pC (nU (cS "take") (nU (cL (oU (a1 (pb 3 (λds=>CL (ds++[])) (nU cp bC))))) (a1 (cS "You have that."))))) (nU (n4 uA (nU (cS "take") (nU (cL (oU ox)) (nU (cL (oU (a1 (pb 11 (λds=>sI (ds++[])) (nU cp bC))))) (a1 (cS "Taken.")))))) (nU (n4 uA (nU (cS "drop") (nU (cL (oU (a1 (pb 4 (λds=>xK (ds++[])) (a1 cp))))) (nU (cL (oU (a1 (pb 11 (λds=>sI (ds++[])) (nU cp (a1 (cS "here"))))))) (a1 (cS "Dropped.")))))) (a1 (n4 pC (nU (cS "drop") (nU (cL (oU ox)) (a1 (cS "You lack that."))))))))))))
def yB:=fnN 1 1 yA
abbrev c5:=(cS "box")
abbrev gU:=(cS "put")
abbrev kO:=(a1 aX)
def zL:FS:=(qI (oU (nU (n4 pC (nU gU (nU (cL (oU (a1 (pb 9 (λds=>rD (ds++[])) (a1 (pb 4 (λds=>xK (ds++[])) (a1 cp))))))) (a1 (cS "You lack that."))))) (nU (n4 pC (nU gU (nU (cL (oU (a1 (pb 9 (λds=>rD (ds++[])) (a1 (pb 7 (λds=>qT (ds++[])) (nU (cS "other") (a1 c5)))))))) (a1 (cS "It holds nothing."))))) (nU (n4 pC (nU gU (nU (cL (oU (a1 (pb 6 (λds=>qC (ds++[])) (nU (cS "other") kO))))) (a1 (cS "It is shut."))))) (a1 (n4 uA (nU gU (nU (cL (oU ox)) (nU (cL (oU (a1 (pb 11 (λds=>sI (ds++[])) (nU cp (a1 (cS "other"))))))) (a1 (cS "Done."))))))))))))
def zM:=fnN 0 0 zL
abbrev jk:=(nU cp (a1 aJ))
abbrev jn:=(nU cp kO)
def zN:FS:=(qI (oU (nU (n4 pC (nU (cS "open") (nU (cL (oU (a1 (pb 9 (λds=>rD (ds++[])) (a1 (pb 7 (λds=>qT (ds++[])) (nU cp (a1 c5)))))))) (a1 (cS "It has no lid."))))) (nU (n4 pC (nU (cS "open") (nU (cL (oU (a1 (pb 6 (λds=>qC (ds++[])) jk)))) (a1 (cS "It is open."))))) (nU (n4 uA (nU (cS "open") (nU (cL (oU ox)) (nU (cL (oU (a1 (pb 12 (λds=>tM (ds++[])) jk)))) (a1 (cS "Opened.")))))) (nU (n4 pC (nU (cS "shut") (nU (cL (oU (a1 (pb 9 (λds=>rD (ds++[])) (a1 (pb 7 (λds=>qT (ds++[])) (nU cp (a1 c5)))))))) (a1 (cS "It has no lid."))))) (nU (n4 pC (nU (cS "shut") (nU (cL (oU (a1 (pb 6 (λds=>qC (ds++[])) jn)))) (a1 (cS "It is shut."))))) (a1 (n4 uA (nU (cS "shut") (nU (cL (oU ox)) (nU (cL (oU (a1 (pb 12 (λds=>tM (ds++[])) jn)))) (a1 (cS "Shut."))))))))))))))
def zO:=fnN 0 0 zN
abbrev gS:=(cS "lamp")
def xi:FS:=(qI (oU (nU (n4 pC (nU (cS "light") (nU (cL (oU (a1 (pb 9 (λds=>rD (ds++[])) (a1 (pb 7 (λds=>qT (ds++[])) (nU cp (a1 gS)))))))) (a1 (cS "It burns not."))))) (nU (n4 pC (nU (cS "light") (nU (cL (oU (a1 (pb 6 (λds=>qC (ds++[])) jk)))) (a1 (cS "It is lit."))))) (nU (n4 uA (nU (cS "light") (nU (cL (oU ox)) (nU (cL (oU (a1 (pb 12 (λds=>tM (ds++[])) jk)))) (a1 (cS "Lit.")))))) (nU (n4 pC (nU (cS "douse") (nU (cL (oU (a1 (pb 9 (λds=>rD (ds++[])) (a1 (pb 7 (λds=>qT (ds++[])) (nU cp (a1 gS)))))))) (a1 (cS "It burns not."))))) (nU (n4 pC (nU (cS "douse") (nU (cL (oU (a1 (pb 6 (λds=>qC (ds++[])) jn)))) (a1 (cS "It is out."))))) (a1 (n4 uA (nU (cS "douse") (nU (cL (oU ox)) (nU (cL (oU (a1 (pb 12 (λds=>tM (ds++[])) jn)))) (a1 (cS "Doused."))))))))))))))
def xj:=fnN 0 0 xi
abbrev dR:=(cC (.int 2))
def Bk:FS:=(n9 (oT 2 (cL (oB 1 [0] (iL ak) (gN 0) pF (n4 uA (nU (cS "go") (nU xB (nU (cL (oU (a1 (pb 11 (λds=>sI (ds++[])) (nU ak (a1 (c2 dIx af dR))))))) (a1 (cS "You go.")))))))))
 (qI (qF aw (cL (oU (a1 (n4 pC (nU (cS "go") (nU (cL (oU ox)) (a1 (cS "No way there.")))))))))))
def Bl:=fnN 2 3 Bk
def yC:FS:=(qI (oU (a1 (n4 uA (nU (cS "wait") (nU (cL (oU ox)) (nU (cL (oU ox)) (a1 (cS "Time goes by.")))))))))
def yD:=fnN 0 0 yC
def wx:FS:=(qI (qF (cL (qF (cL (qF (cL (qF (cL (qF (cL (o6 yB bC)) (cL (o6 zM ox)))) (cL (o6 zO ox)))) (cL (o6 xj ox)))) (cL (o6 Bl gV)))) (cL (o6 yD ox))))
def qU:=fnN 2 2 wx
def wy:FS:=(qI (qF (cL (oB 1 [] (iT (pG (nU (cS "take") (nU (cS "drop") (nU (cS "open") (nU (cS "shut") (nU (cS "light") (a1 (cS "douse"))))))))) (gN 0) pF (pb 2 (λds=>qS (ds++[D.non,(D.str "one"),D.non])) bC))) (cL (oU (nU (pb 2 (λds=>qS (ds++[])) (nU gU (nU (pG ox) (nU (cS "two") (a1 (cS "in")))))) (nU (pb 2 (λds=>qS (ds++[D.non])) (nU (cS "go") (nU (pG ox) (a1 (cS "way"))))) (a1 (pb 2 (λds=>qS (ds++[D.non])) (nU (cS "wait") (nU (pG ox) (a1 (cS "alone"))))))))))))
def qj:=fnN 0 0 wy
def zc:FS:=(n9 (ye 1)
 (n9 (sd (iL af) (gN 2) (pB 1 (c1 (oF oA "name") aw) aw))
 (oQ (cFz 1))))
def zd:=fnD 1 3 zc
def sP:FS:=(n9 (ye 2)
 (n9 (sd (iL af) (gN 3) (sIf (cT (pj qf "has_mark" aB ox)) (pB 2 (c1 (oF oA "name") aB) aJ) o5))
 (n9 (sd (iL ak) (gN 4) (pB 2 (c1 (oF oA "name") aN) (c1 (oF tI "most") aN)))
 (oQ (cFz 2)))))
def qw:=fnD 2 5 sP
def vP:FS:=(n9 (ye 1)
 (n9 (sd (iL af) (gN 2) (sd (iT (zx (pG (a1 (c1 (oF oA "name") aw))) (c1 (oF xI "others") aw))) (gN 3) (pB 1 aB aw)))
 (oQ (cFz 1))))
def qz:=fnD 1 4 vP
def CO:FS:=(Gd (oF E4 "verb"))
def uV:=fnD 1 3 CO
def vQ:FS:=(qI (oB 1 [1] (iL (c1 (oF pM "kept_things") af)) (gN 0) (cT (c2 (dEq false) (c1 (oF pf "kind") af) ak)) (c1 (oF oA "name") af)))
def sQ:=fnD 2 2 vQ
def su:Nat->Option (List D->Option D):=λc=>match c with
 |14=>some sQ
 |_=>none
def uh:FS:=(qI (qF (c1 (oF we "kept_verbs") af) (c1 (oF uQ "shared_verbs") af)))
def rO:=fnD 1 1 uh
def rl:Nat->Option (List D->Option D):=λc=>match c with
 |14=>some rO
 |_=>none
abbrev kY:=(nU ak c6)
def rP:FS:=(n9 (oV (n4 uz (nU ak (nU aw (nU aB (nU aN (nU aY (a1 (cL (o6 qj ox))))))))))
 (n9 (o7 14 0 "kept_things" (cL (uK ak)))
 (n9 (o7 14 0 "kept_marks" (cL (uK aw)))
 (n9 (o7 14 0 "kept_dark" (cL (uK aB)))
 (n9 (o7 14 0 "kept_ways" (cL (uK aN)))
 (n9 (o7 14 0 "kept_verbs" (cL (uK aY)))
 (n9 (o7 14 0 "shared_verbs" (cL (o6 qj ox)))
 (n9 (o7 14 0 "your_name" (ub 15 (c2 dIx (pj su "of_kind" af (a1 cZ)) aX)))
 (n9 (o7 14 0 "things_by_name" (n4 zd dr))
 (n9 (o7 14 0 "mosts_by_name" (n4 qw kY))
 (n9 (o7 14 0 "verbs_by_word" (ub 15 (n4 qz (a1 (pj rl "all_verbs" af ox)))))
 (n9 (oT 7 (ub 15 (ro (n4 p8 (nU bh (a1 (cC yq)))) (c1 tE (cL (oB 1 [0] (iL bh) (gN 0) pF xB))))))
 (n9 (oV (n4 oi (nU bN (a1 (cS "rules are a list of at most 20 rules, each as it may be")))))
 (n9 (o7 14 0 "kept_rules" (cL (uK bh)))
 (n9 (o7 14 0 "shared_rules" (ub 15 (cL (o6 qU (nU (c1 (oF sr "your_name") af) fM)))))
 (n9 (o7 14 0 "copied_rules" (cL (oB 1 [] (iL bh) (gN 0) pF xB)))
 (o7 14 0 "rules_by_verb" (ub 15 (n4 uV (a1 (cL (qF (c1 (oF sj "copied_rules") af) (c1 (oF sk "shared_rules") af)))))))))))))))))))))))
def rQ:=fnI 14 6 8 rP
def wz:FS:=(oQ (ro (c1 (qv (pR "str")) af) (c2 (dEq false) af ak)))
def pI:=fnD 2 2 wz
def zP:FS:=(oQ (c1 (oF sr "your_name") af))
def zQ:=fnD 1 1 zP
def uW:Nat->Option (List D->Option D):=λc=>match c with
 |14=>some zQ
 |_=>none
def xk:FS:=(qI (oB 1 [] (iL (c1 (oF pM "kept_things") af)) (gN 0) pF (c1 (oF oA "name") af)))
def xl:=fnD 1 1 xk
def ui:Nat->Option (List D->Option D):=λc=>match c with
 |14=>some xl
 |_=>none
def uX:FS:=(oQ (c2 Cq (c1 (oF tJ "things_by_name") af) ak))
def qX:=fnD 2 2 uX
def pJ:Nat->Option (List D->Option D):=λc=>match c with
 |14=>some qX
 |_=>none
def vR:FS:=(oQ (c2 Cq (c1 (oF ue "mosts_by_name") af) ak))
def vS:=fnD 2 2 vR
def rg:Nat->Option (List D->Option D):=λc=>match c with
 |14=>some vS
 |_=>none
abbrev cD:=(cS "mark")
abbrev fL:=(cS "at")
def xm:FS:=(n9 (oT 1 (cL (oB 1 [] (iL (c1 (oF pM "kept_things") af)) (gN 0) (cT (c2 (dEq true) (c1 (oF pf "kind") af) dq)) (pG (nU fL (a1 (c1 (oF oA "name") af)))))))
 (n9 (oT 2 (cL (oB 1 [] (iL (cL (o6 qo (nU (c1 (oF pM "kept_things") af) (a1 (c1 (oF tH "kept_marks") af)))))) (gN 0) pF (pG (nU cD bC)))))
 (qI (y7 (cL (qF ak aw))))))
def pz:=fnD 1 3 xm
def uj:Nat->Option (List D->Option D):=λc=>match c with
 |14=>some pz
 |_=>none
def Bm:FS:=(n9 (sd (iT af) (gN 2) (sIf (cT (c2 (dEq false) (c2 dIx aw aX) ak)) (oQ (c2 dIx aw aJ)) o5))
 (oQ bG))
def vz:=fnD 2 3 Bm
def HI:FS:=(oQ (n4 vz (nU af (a1 (pG (nU fL dr))))))
def sv:=fnD 2 2 HI
def rR:FS:=(n9 (oT 2 (n4 sv gV))
 (n9 (sd (iR1 (c1 pP af)) (gN 3) (n9 (sIf (cT (c2 yb aw bG)) (oQ cM) o5)
 (oT 2 (n4 sv (nU af c6)))))
 (oQ (c2 yb aw bG))))
def o8:=fnD 2 4 rR
def E5:FS:=(oQ (ro (c1 (qv (pR "tuple")) af) (c2 (dEq false) (c1 pP af) dR)))
def rh:=fnD 1 1 E5
abbrev nJ:=(nU (c2 dIx af aX) (a1 (c2 dIx ak aX)))
abbrev kU:=(a1 (c2 dIx ak aJ))
def CP:FS:=(oQ (ro (n4 rh bC) (ro (n4 pI nJ) (n4 pI (nU (c2 dIx af aJ) kU)))))
def qY:=fnD 2 2 CP
def zR:FS:=(n9 (oT 3 (cIf (cT (c1 (qv (pR "str")) aw)) (pj pJ "thing_of" af c6) bG))
 (n9 (sIf (cT (c2 yb aB bG)) (oQ cy) o5)
 (n9 (sIf (cT (c2 (dEq false) ak (pj uW "you" af ox))) (oQ (c2 (dEq false) (c1 (oF pf "kind") aB) dq)) o5)
 (oQ (pj pU "can_hold" aB ox)))))
def uk:=fnD 3 4 zR
def Bn:FS:=(n9 (sIf (cT (c2 (dEq false) (c2 dIx ak aX) cD)) (oQ (ro (n4 rB c6) (qm rK rK aX aw (pj rg "most_of" af kU)))) o5)
 (oQ (n4 uk (nU af (nU (c2 dIx ak aJ) c6)))))
def oH:=fnD 3 3 Bn
def Bo:FS:=(n9 (oT 2 (pj uj "parts" af ox))
 (n9 (sIf (uJ (qu (cT (c1 (qv (pR "tuple")) ak))) (cT (c2 (dEq true) (c1 pP ak) (c1 pP aw)))) (oQ cy) o5)
 (n9 (sd (iZT kY) (gT (oo (gN 3) (oo (gN 4) pT)) 2) (sIf (uJ (qu (cT (n4 rh gW))) (uJ (qu (cT (n4 qY (nU (c2 dIx aB aX) fM)))) (qu (cT (n4 oH (nU af (nU aN (a1 (c2 dIx aB aJ))))))))) (oQ cy) o5))
 (oQ (c1 tE (cL (oB 1 [1] (iL (pj ui "names" af ox)) (gN 0) pF (n4 o8 jm))))))))
def pN:=fnD 2 5 Bo
def wA:FS:=(n9 (sIf (cT (c2 yR ak (c1 pP af))) (oQ (c2 dIx af ak)) o5)
 (oQ aX))
def rS:=fnD 2 2 wA
abbrev dQ:=(cC (.int 2147483647))
abbrev cN:=(cC (.int 6))
abbrev dS:=(cC (.int 10))
abbrev jh:=(cC (.int 48271))
def yE:FS:=(n9 (tD 2 (oU ox))
 (n9 (oT 3 aX)
 (n9 (sIf (cT (c2 QN af (c2 ya dS (cC (.int 18))))) (oT 3 (c2 KD af (c2 ya dS (cC (.int 18))))) o5)
 (n9 (whL (w9 (tY (cT (c2 KE aB aX)) (cT (c2 yR (c1 pP aw) ak)))) (n9 (oV (v5 2 (c2 rG aB (c2 ya dS cN))))
 (oT 3 (c2 w6 aB (c2 ya dS cN)))) 200)
 (n9 (oT 4 (c2 rG (c2 sH (c2 o9 (c2 rG af dQ) aJ) jh) dQ))
 (n9 (sd (iR1 ak) (gN 5) (n9 (oT 4 (c2 rG (c2 sH (c2 o9 (c2 o9 aN (c2 sH (cC (.int 7919)) aY)) aJ) jh) dQ))
 (n9 (oT 6 (c2 rG (c2 sH aN (c2 o9 (c2 w6 aN (cC (.int 1009))) (cC (.int 69621)))) dQ))
 (oV (v5 2 (c2 rG (c2 sH bh (c2 o9 (c2 w6 bh (cC (.int 2003))) (cC (.int 40692)))) (cC (.int 2147483399))))))))
 (qI (vU (cFz 2) oNo (oAt ak)))))))))
def qZ:=fnN 2 7 yE
def zS:FS:=(n9 (sIf (w9 (cT (c2 (dEq false) af (cL (oU ox))))) (oQ aX) o5)
 (oQ (c2 rG (He 0) ak)))
def nW:=fnM 1 2 zS
abbrev nR:=(cC (.int 8))
abbrev gR:=(cC (.int 7))
abbrev ji:=(cC (.int 25))
abbrev eZ:=(a1 nR)
def vA:FS:=(n9 (oT 1 (pd nW 0 (a1 ji)))
 (n9 (oT 2 (cS "bcdefghijklmnopqrstuvwxyz"))
 (qI (oB 1 [2,0,1] (iR1 (cC (.int 17))) (gN 0) pF (c2 EH (c2 dIx ak (c2 rG (c2 o9 aB (c2 sH gR af)) ji)) (c2 o9 aJ (pd nW 2 eZ)))))))
def vB:=fnM 0 3 vA
abbrev eW:=(cC (.int 5))
def sy:FS:=(n9 (tD 3 (oU ox))
 (n9 (tD 4 (qF ak (cL (oU (a1 (c2 dIx af eW))))))
 (n9 (sd (iL (cL (vU af (oAt cN) (oAt (c2 o9 cN (pd nW 2 eZ)))))) (gN 5) (n9 (oT 6 (c2 dIx (cL (oU (nU (cS "plain") (nU c5 (nU gS (nU (cS "fixed") (nU c5 (nU gS (nU c5 (a1 (cS "plain"))))))))))) (pd nW 2 eZ)))
 (n9 (oV (v5 3 (pG (nU aY (nU bh (a1 (zY 4 (pd nW 2 (a1 (xA (c1 pP aN)))))))))))
 (sIf (cT (c2 (dEq false) bh c5)) (oV (v5 4 aY)) o5))))
 (qI (NO 3)))))
def qD:=fnL 2 7 sy
abbrev eU:=(cC (.int 3))
def wB:FS:=(n9 (tD 1 (o6 qZ (nU af (a1 (cC (.int 110))))))
 (n9 (oT 2 (pd vB 1 ox))
 (n9 (oT 3 (cL (vU aw oNo (oAt (c2 o9 aJ (pd nW 1 (a1 eW)))))))
 (n9 (oT 4 (cL (qF (cL (oB 1 [] (iL aB) (gN 0) pF (pG (nU af (nU dq (a1 bG)))))) (cL (oU (a1 (pG (nU (c2 dIx aw eW) (nU cZ (a1 (c2 dIx aB (pd nW 1 (a1 (c1 pP aB))))))))))))))
 (n9 (oT 5 (cL (oU ox)))
 (n9 (sd (iL (cL (qF aN (uO qD 1 (nU aw gW))))) (gN 6) (n9 (oT 7 (pd nW 1 (a1 (c2 o9 (c1 pP aY) aJ))))
 (oT 5 (cL (qF (cL (qF (cL (vU aY oNo (oAt bN))) (cL (oU (a1 bh))))) (cL (vU aY (oAt bN) oNo)))))))
 (n9 (tD 8 (oU ox))
 (n9 (sd (iL (cL (vU aw (oAt (cC (.int 13))) (oAt (c2 o9 (cC (.int 13)) (pd nW 1 (a1 eW))))))) (gN 9) (n9 (oT 10 (c2 o9 aJ (pd nW 1 (a1 eU))))
 (oV (v5 8 (pG (nU (cV 9) (nU (pd nW 1 (a1 (c2 o9 (cV 10) aJ))) (a1 (cV 10)))))))))
 (n9 (oT 11 (cL (oB 1 [1] (iL aB) (gN 0) (cT (c2 (dEq false) (pd nW 1 (a1 dR)) aJ)) af)))
 (n9 (oT 12 (cL (oU (nU (pG ox) (nU (pG (a1 (cS "red"))) (a1 (pG (nU (cS "old") (a1 (cS "red"))))))))))
 (n9 (oT 13 (cL (oB 3 [12,1] (iL aY) (gT (oo (gN 0) (oo (gN 1) (oo (gN 2) pT))) 3) pF (zx (pG bC) (c2 dIx aB (pd nW 4 (a1 eU)))))))
 (oQ (yg [("rows", aY),("marks", (cFz 8)),("dark", (cV 11)),("words", (cV 13)),("you", (c2 dIx aw eW))])))))))))))))
def wC:=fnD 1 14 wB
def vC:FS:=(n9 (oT 1 (cL (oB 2 [] (iZ (nU (c2 qK af (cS "rows")) (a1 (c2 qK af (cS "words"))))) (gT (oo (gN 0) (oo (gN 1) pT)) 2) pF (pb 0 (λds=>yu (ds++[])) (nU (c2 dIx af aX) (nU ak (nU (c2 dIx af aJ) (a1 (c2 dIx af dR)))))))))
 (n9 (oT 2 (cL (oB 3 [] (iL (c2 qK af (cS "marks"))) (gT (oo (gN 0) (oo (gN 1) (oo (gN 2) pT))) 3) pF (pb 1 (λds=>zG (ds++[])) (nU af kY)))))
 (oQ (pb 14 (λds=>rQ (ds++[])) (nU ak (nU aw (nU (cL (uK (c2 qK af (cS "dark")))) (nU (cL (oU ox)) (nU (cL (oU ox)) (a1 (cL (oU ox))))))))))))
def vE:=fnD 1 3 vC
def CQ:FS:=(qI (oB 3 [1] (iL (c2 qK af (cS "rows"))) (gT (oo (gN 0) (oo (gN 1) (oo (gN 2) pT))) 3) (cT (c2 (dIn false) ak aB)) af))
def qE:=fnN 2 2 CQ
def vF:FS:=(n9 (ye 1)
 (n9 (sd (iL (cL (o6 qE (nU af (a1 (cL (oU (nU c5 (a1 gS))))))))) (gN 2) (pB 1 aw aJ))
 (n9 (sd (iL (c2 qK af (cS "marks"))) (gT (oo (gN 2) (oo (gN 3) (oo (gN 4) pT))) 3) (pB 1 aw aN))
 (oQ (cFz 1)))))
def rT:=fnD 1 5 vF
abbrev nF:=(a1 (cL (oU (nU (cS "plain") (nU (cS "fixed") (a1 (cS "lamp")))))))
def sA:FS:=(n9 (ye 2)
 (n9 (tD 3 (o6 qE (nU af (a1 (cL (oU (nU dq (a1 cZ))))))))
 (n9 (tD 4 (o6 qE (nU af (a1 (cL (oU (a1 c5)))))))
 (n9 (whL (w9 (cT (c2 (dEq true) aN (cL (oU ox))))) (n9 (oT 5 (xE 4 (pd nW 1 (a1 (xA (c1 pP aN))))))
 (n9 (pB 2 aY (zY 3 (pd nW 1 (a1 (xA (c1 pP aB))))))
 (oV (v5 3 aY)))) 50)
 (n9 (sd (iL (cL (o6 qE (nU af nF)))) (gN 6) (pB 2 bh (zY 3 (pd nW 1 (a1 (xA (c1 pP aB)))))))
 (n9 (oT 7 (cL (o6 qE (nU af (a1 (cL (oU (a1 dq))))))))
 (n9 (pB 2 (c2 qK af cZ) (c2 dIx bN (pd nW 1 (a1 (c1 pP bN)))))
 (oQ (cFz 2)))))))))
def sC:=fnL 1 8 sA
def sU:FS:=(n9 (ye 2)
 (n9 (sd (iIt (n4 rT bC)) (gT (oo (gN 3) (oo (gN 4) pT)) 2) (pB 2 aB (pd nW 1 (a1 (c2 o9 aN aJ)))))
 (oQ (cFz 2))))
def sV:=fnL 1 5 sU
def yF:FS:=(n9 (oT 2 (cL (oB 2 [] (iIt af) (gT (oo (gN 0) (oo (gN 1) pT)) 2) pF (pG (nU (pG (nU fL bC)) dr)))))
 (oQ (EC (cL (A4 (cL (qF aw (cL (oB 2 [] (iIt ak) (gT (oo (gN 0) (oo (gN 1) pT)) 2) pF (pG (nU (pG (nU cD bC)) dr)))))))))))
def sW:=fnD 2 3 yF
abbrev nI:=(nU (c2 o9 aY aJ) (nU (c1 E1 aJ) (nU cM (nU cy (nU (cS "0") (nU bG (nU (c2 ya dS (cC (.int 30))) (a1 (pG (a1 aX))))))))))
abbrev nL:=(nU af (a1 (cL (oU (nU c5 (a1 cZ))))))
def qr:FS:=(n9 (IF ak (gT (oo (gN 3) (oo (gN 4) pT)) 2))
 (n9 (sIf (cT (c2 (dEq false) aB cD)) (n9 (oT 5 (c2 qK (n4 rT bC) aN))
 (oQ (c2 dIx (cL (oU nI)) (pd nW 2 eZ)))) o5)
 (n9 (oT 6 (cL (qF (cL (o6 qE (nU af nF))) (cL (oB 3 [] (iL (c2 qK af (cS "marks"))) (gT (oo (gN 0) (oo (gN 1) (oo (gN 2) pT))) 3) pF af)))))
 (n9 (oT 6 (cL (qF bh (cL (oU (nU (cS "here") (nU cp (nU (cS "") (nU (cS "nobody") (nU bG (nU aX (a1 (pG (nU fL fM))))))))))))))
 (n9 (sIf (cT (c2 (dEq false) aN (c2 qK af cZ))) (oT 6 (cL (qF bh (cL (o6 qE nL))))) o5)
 (oQ (c2 dIx bh (pd nW 2 (a1 (c1 pP bh))))))))))
def qt:=fnL 2 7 qr
abbrev nH:=(nU (cL (oU (nU aB (a1 aN)))) (nU (pG (nU (cL (uK aB)) (a1 aN))) (nU (pG (nU aB (nU aN (a1 aX)))) (nU (pG gW) (a1 aN)))))
def qL:FS:=(n9 (IF ak (gT (oo (gN 3) (oo (gN 4) pT)) 2))
 (n9 (IF aB (gT (oo (gN 5) (oo (gN 6) pT)) 2))
 (n9 (oT 7 (pd nW 2 (a1 gR)))
 (n9 (sIf (cT (c2 yR bN eU)) (oQ (pG (nU aB (a1 (uO qt 2 (nU af gW)))))) o5)
 (n9 (sIf (cT (c2 (dEq false) bN eU)) (oQ (pG (nU (pG (nU (c2 dIx (cL (oU (nU cD (a1 fL)))) (c1 NW (c2 (dEq false) aY cD))) (a1 bh))) fM))) o5)
 (n9 (sIf (cT (c2 (dEq false) bN (cC (.int 4)))) (oQ (pG (nU (pG (nU aY (a1 (c2 Cm bh (cS "q"))))) fM))) o5)
 (oQ (c2 dIx (cL (oU nH)) (pd nW 2 (a1 eW))))))))))
def qM:=fnL 2 8 qL
abbrev nG:=(nU (cL (uK ak)) (nU bG (nU (pG ox) (nU gR (nU (cS "stand") (nU (cL (oU ox)) (nU (yg []) (nU cM (nU (pG (a1 ak)) (a1 (vL ak (pG (a1 bG)))))))))))))
def sE:FS:=(n9 (oT 3 (pd nW 2 (a1 (c1 pP ak))))
 (n9 (oT 4 (pd nW 2 eZ))
 (n9 (sIf (cT (c2 (dEq false) aN aX)) (oQ (vL (xH ak oNo (oAt aB)) (xH ak (oAt (c2 o9 aB aJ)) oNo))) o5)
 (n9 (sIf (cT (c2 (dEq false) aN aJ)) (oQ (vL (xH ak oNo (oAt (c2 o9 aB aJ))) (xH ak (oAt aB) oNo))) o5)
 (n9 (sIf (tY (cT (c2 (dEq false) aN dR)) (cT (c2 yR (c2 o9 aB aJ) (c1 pP ak)))) (oQ (vL (vL (xH ak oNo (oAt aB)) (pG (nU (c2 dIx ak (c2 o9 aB aJ)) (a1 (c2 dIx ak aB))))) (xH ak (oAt (c2 o9 aB dR)) oNo))) o5)
 (n9 (sIf (cT (c2 (dEq false) aN eU)) (oQ (c2 dIx (cL (oU nG)) (pd nW 2 (a1 dS)))) o5)
 (oQ (vL (vL (xH ak oNo (oAt aB)) (pG (a1 (uO qM 2 (nU af (a1 (c2 dIx ak aB))))))) (xH ak (oAt (c2 o9 aB aJ)) oNo)))))))))
def rj:=fnL 2 5 sE
def LU:FS:=(n9 (oT 1 (n4 wC (a1 (n4 rS (nU af kO)))))
 (n9 (oT 2 (n4 vE dr))
 (n9 (tD 3 (o6 qZ (nU (n4 rS (nU af (a1 aJ))) (a1 (cC (.int 60))))))
 (n9 (oT 4 (uO sC 3 dr))
 (n9 (oT 5 (n4 sW (nU aN (a1 (uO sV 3 dr)))))
 (n9 (sIf (cT (c2 wJ (n4 pN (nU aw (a1 aY))) cM)) (oQ cy) o5)
 (n9 (sd (iL (cL (cSl af (some 2) (some 22)))) (gN 6) (n9 (oT 7 (Ba rj (nU ak (a1 aY)) (o6 qZ (nU bh eZ))))
 (sIf (cT (c2 wJ (n4 pN (nU aw (a1 bN))) cy)) (oQ cy) o5)))
 (oQ (c2 OL (n4 pN (nU aw (a1 aY))) cM)))))))))
def Pw:=fnD 1 8 LU
section
variable{k:Nat}{cap:List Nat}{g:FG}{ft:FT}{fe e:FE}{s:FA}{ρ ρ1 ρ2:aU}{α:Type}
theorem qG{m:L4.D}(h:e ρ=some (.bl true,ρ1)):oV (n4 oi (nU e (nU (cC m) ox))) ρ=some (.nx ρ1):=pW (nY (nX h (nX rfl rfl)) rfl)
theorem um(dd h:α->L4.D)(l:List α)(hs:s ρ=some (l.map dd,ρ1))(hl:l.length<=1000)(st:∀a∈l,∃ρ2 ρ3,g (dd a) (xw k cap ρ1)=some ρ2/\fe ρ2=some (h a,ρ3)/\rf cap (ρ3.drop k) ρ1=some ρ1):
  oB k cap s g pF fe ρ=some (l.map h,ρ1):=(vd hs (by rw[ah];exact hl)).trans (DJ dd h l st)
theorem uB(dd h:α->L4.D)(p:α->Bool)(l:List α)(hs:s ρ=some (l.map dd,ρ1))(hl:l.length<=1000)
  (st:∀a∈l,∃ρ2 ρ3,g (dd a) (xw k cap ρ1)=some ρ2/\ft ρ2=some (p a,ρ3)/\(p a=true->∃ρ4,fe ρ3=some (h a,ρ4)/\rf cap (ρ4.drop k) ρ1=some ρ1)/\(p a=false->rf cap (ρ3.drop k) ρ1=some ρ1)):
  oB k cap s g ft fe ρ=some ((l.filter p).map h,ρ1):=(vd hs (by rw[ah];exact hl)).trans (A7 dd p h l st)
theorem uC(dd:α->L4.D)(l:List α)(hs:s ρ=some (l.map dd,ρ1))(hl:l.length<=1000)(st:∀a∈l,∃ρ2 ρ3,g (dd a) (xw k cap ρ1)=some ρ2/\fe ρ2=some (.bl true,ρ3)/\rf cap (ρ3.drop k) ρ1=some ρ1):
  c1 tE (cL (oB k cap s g pF fe)) ρ=some (.bl true,ρ1):=
 oX (px (um dd (λ_=>.bl true) l hs hl st)) ((DL l λ_=>true).trans (by rw[bB.mpr λ_ _=>rfl]))
theorem LV(dd:α->L4.D)(l:List α)(hs:s ρ=some (l.map dd,ρ1))(hl:l.length<=1000)(st:∀a∈l,∃ρ2 ρ3,g (dd a) (xw k cap ρ1)=some ρ2/\fe ρ2=some (.bl false,ρ3)/\rf cap (ρ3.drop k) ρ1=some ρ1):
  c1 AR (cL (oB k cap s g pF fe)) ρ=some (.bl false,ρ1):=
 oX (px (um dd (λ_=>.bl false) l hs hl st)) ((Ow l λ_=>false).trans (by rw[mw.mpr λ_ _=>bj]))
end
inductive Kd where
 |room|you|plain|fixed|box|lamp
deriving DecidableEq
def Kd.s:Kd->Str
 |.room=>"room" |.you=>"you" |.plain=>"plain" |.fixed=>"fixed" |.box=>"box" |.lamp=>"lamp"
def Kd.pl:Kd->Bool
 |.room=>false|.you=>false|_=>true
def Kd.hd:Kd->Bool
 |.room=>true|.you=>true|.box=>true|_=>false
def Kd.mk:Kd->Bool
 |.box=>true|.lamp=>true|_=>false
structure Th where
 n:Str
 w:aG
 k:Kd
 s:Option Str
def oS:Option Str->L4.D
 |none=>.non
 |some x=>.str x
def thD(t:Th):L4.D:=.obj 0 ["name", "words", "kind", "start"] [.str t.n,.tup (t.w.map D.str),.str t.k.s,oS t.s]
theorem sR(t:Th):oF oA "name" (thD t)=some (.str t.n):=rfl
theorem DR(t:Th):oF qA "words" (thD t)=some (.tup (t.w.map D.str)):=rfl
theorem vG(t:Th):oF pf "kind" (thD t)=some (.str t.k.s):=rfl
theorem DS(t:Th):oF p6 "start" (thD t)=some (oS t.s):=rfl
theorem CS(a b:Kd):dEq false (.str a.s) (.str b.s)=some (.bl (decide (a=b))):=by cases a<;>cases b<;>kernel_rfl
theorem DT(t:Th):uS [thD t]=some (.bl t.k.hd):=by obtain⟨n,w,k,s⟩:=t;cases k<;>kernel_rfl
theorem DU(t:Th):uU [thD t]=some (.bl t.k.mk):=by obtain⟨n,w,k,s⟩:=t;cases k<;>kernel_rfl
theorem LW(t:Th):tP [thD t]=some (.bl t.k.pl):=by obtain⟨n,w,k,s⟩:=t;cases k<;>kernel_rfl
theorem OO(t:Th):qb [.str t.k.s,DQ]=some (.bl true):=by obtain⟨n,w,k,s⟩:=t;cases k<;>kernel_rfl
abbrev TD(T:List Th):L4.D:=.lst (T.map thD)
theorem count_eq(T:List Th)(hl:T.length<=1000)(k:Kd):vq [TD T,.str k.s]=some (.int (T.filter λt=>decide (t.k=k)).length):=by refine oP (ρ:=[.im (TD T),.im (.str k.s)]) rfl ?_;refine oM (oX (px (uB thD thD (λt=>decide (t.k=k)) T (ρ1:=[.im (TD T),.im (.str k.s)]) rfl hl λt _=>⟨[.im (thD t),.im (.str k.s)],[.im (thD t),.im (.str k.s)],rfl,pL (om (oX rfl (vG t)) rfl (CS t.k k)),λ_=>⟨_,rfl,rfl⟩,λ_=>rfl⟩)) ?_);show some (D.int _)=_;rw[ah]
theorem uD(T:List Th)(hl:T.length<=1000):qW [TD T]=some ((T.filter λt=>t.k.pl).map thD):=by refine yV (ρ:=[.im (TD T)]) rfl ?_;exact tZ (uB thD thD (λt=>t.k.pl) T (ρ1:=[.im (TD T)]) rfl hl λt _=>⟨[.im (thD t)],[.im (thD t)],rfl,pL (pK (xs:=[.str t.n,.tup (t.w.map D.str),.str t.k.s,oS t.s]) (ys:=[]) rfl rfl rfl rfl (LW t)),λ_=>⟨_,rfl,rfl⟩,λ_=>rfl⟩)
variable{ρ:aU}
theorem yG{a b c:FE}{x y z:Int}(h1:a ρ=some (.int x,ρ))(h2:b ρ=some (.int y,ρ))(h3:c ρ=some (.int z,ρ))(hx:x<=y)(hy:y<=z):qm rK rK a b c ρ=some (.bl true,ρ):=by
 unfold qm;rw[h1];simp only[h2];have e1:rK (.int x) (.int y)=some (.bl true):=by show some (D.bl (decide (x<=y)))=_;rw[aV hx]
 have e2:rK (.int y) (.int z)=some (.bl true):=by show some (D.bl (decide (y<=z)))=_;rw[aV hy]
 simp only[e1,h3,e2]
theorem Px{a b:FE}{x y:Int}(h1:a ρ=some (.int x,ρ))(h2:b ρ=some (.int y,ρ))(hx:x<=y):c2 rK a b ρ=some (.bl true,ρ):=om h1 h2 (by
 show some (D.bl (decide (x<=y)))=_;rw[aV hx])
theorem zZ(T:List Th)(hl:T.length<=1000)(h1:1<=(T.filter λt=>decide (t.k=.room)).length)(h5:(T.filter λt=>decide (t.k=.room)).length<=5)(hy:(T.filter λt=>decide (t.k=.you)).length=1)(h7:(T.filter λt=>t.k.pl).length<=7):
  tR [TD T]=some .non:=by
 let ρ:aU:=[.im (TD T),.im (.bl true)];refine wa (ρ:=ρ) rfl ?_;unfold tQ;rw[nV (show _=some (Out.nx ρ) from(oG ((pO rfl).trans (uC thD T (ρ1:=[.im (TD T),.un]) rfl hl λt _=>⟨_,_,rfl,rfl,rfl⟩))).trans rfl)];rw[nV (qG (ρ1:=ρ) rfl)];rw[nV (qG (ρ1:=ρ) (uC thD T rfl hl λt _=>⟨[.im (thD t)],[.im (thD t)],rfl,nY (nX (oX rfl (vG t)) (nX rfl rfl)) (OO t),rfl⟩))];rw[nV (qG (ρ1:=ρ) (yG (x:=1) (y:=(T.filter λt=>decide (t.k=.room)).length) (z:=5) rfl (nY (ds:=[TD T,.str Kd.room.s]) rfl (count_eq T hl .room)) rfl (by omega) (by omega)))];rw[nV (qG (ρ1:=ρ) (om (ρ1:=ρ) (x:=.int (T.filter λt=>decide (t.k=.you)).length) (y:=.int 1) (nY (ds:=[TD T,.str Kd.you.s]) rfl (count_eq T hl .you)) rfl (by rw[hy];rfl)))];refine qG (ρ1:=ρ) (Px (x:=(T.filter λt=>t.k.pl).length) (y:=7) (oX (px (nY rfl (uD T hl))) ?_) rfl (by omega));show some (D.int _)=_;rw[ah]
structure Mk where
 n:Str
 st:Int
 mo:Int
def mkD(m:Mk):L4.D:=.obj 1 ["name", "start", "most"] [.str m.n,.int m.st,.int m.mo]
def Mk.ok(m:Mk):Prop:=1<=m.mo/\m.mo<=3/\0<=m.st/\m.st<=m.mo
abbrev MD(M:List Mk):L4.D:=.lst (M.map mkD)
theorem Aj(m:Mk):oF oA "name" (mkD m)=some (.str m.n):=rfl
theorem Gu(m:Mk)(h:m.ok):y9 [mkD m]=some (.bl true):=by obtain⟨h1,h2,h3,h4⟩:=h;refine oP (ρ:=[.im (mkD m)]) rfl ?_;unfold y8;rw[nV (show _=some (Out.nx [.im (mkD m)]) from rfl)];exact oM ((pO (yG (x:=1) (y:=m.mo) (z:=3) rfl rfl rfl h1 h2)).trans (yG (x:=0) (y:=m.st) (z:=m.mo) rfl rfl rfl h3 h4))
theorem Bp(M:List Mk)(hl:M.length<=4)(h:∀m∈M,m.ok):uu [MD M]=some .non:=by
 let ρ:aU:=[.im (MD M),.im (.bl true)];refine wa (ρ:=ρ) rfl ?_;unfold ur;have e0:p8 [MD M,sT]=some (.bl true):=by refine oP (ρ:=[.im (MD M),.im (.int 4)]) rfl ?_;refine oM ((pO rfl).trans (Px (x:=M.length) (y:=4) ?_ rfl (by omega)));refine oX rfl ?_;show some (D.int _)=_;rw[ah]
 rw[nV (show _=some (Out.nx ρ) from(oG ((pO (nY (ds:=[MD M,sT]) rfl e0)).trans (uC mkD M (ρ1:=[.im (MD M),.un]) rfl (by omega) λm hm=>⟨[.im (mkD m)],[.im (mkD m)],rfl,nY rfl (Gu m (h m hm)),rfl⟩))).trans rfl)];exact qG (ρ1:=ρ) rfl
def nmS(l c:Nat):Str:=gE ⟨#[98+l]⟩ (1+(c:Int))
def Nm(x:Str):Prop:=∃l c,l<25/\c<8/\x=nmS l c
def isT:Option L4.D->Bool
 |some (.bl b)=>b
 |_=>false
theorem LX{o:Option L4.D}(h:isT o=true):o=some (.bl true):=by
 unfold isT at h;split at h
 ·rw[h]
 ·cases h
theorem Bq{p:Str->Bool}(h:((bg 25).all λl=>(bg 8).all λc=>p (nmS l c))=true){x:Str}(hx:Nm x):p x=true:=by obtain⟨l,c,hl,hc,rfl⟩:=hx;exact bB.mp (bB.mp h l (cm.mpr hl)) c (cm.mpr hc)
theorem Gv{x:Str}(h:Nm x):wU [.str x]=some (.bl true):=LX (Bq (p:=λx=>isT (wU [.str x])) (by kernel_rfl) h)
theorem Gw{x:Str}(h:Nm x):tq [.str x]=some (.bl true):=LX (Bq (p:=λx=>isT (tq [.str x])) (by kernel_rfl) h)
theorem E6:tq [.str "red"]=some (.bl true):=by kernel_rfl
theorem E7:tq [.str "old"]=some (.bl true):=by kernel_rfl
def noW(x:Str):Bool:=decide (x∉(["red", "old", "take", "drop", "open", "shut", "light", "douse", "put", "go", "wait", "in", "the", "a", "undo", "restart"]:aG))
theorem LY{x:Str}(h:Nm x):x∉(["red", "old", "take", "drop", "open", "shut", "light", "douse", "put", "go", "wait", "in", "the", "a", "undo", "restart"]:aG):=bA (Bq (p:=noW) (by kernel_rfl) h)
def sg(x:Str):Nat:=x.cps.getD 0 0
theorem Ve{l c:Nat}(hl:l<25)(hc:c<8):sg (nmS l c)=98+l:=by
 have h:((bg 25).all λl=>(bg 8).all λc=>sg (nmS l c)==98+l)=true:=by kernel_rfl
 exact eJ (bB.mp (bB.mp h l (cm.mpr hl)) c (cm.mpr hc))
theorem Br{l:aG}(h:l.Nodup)(hl:l.length<=1000):qc [.lst (l.map D.str)]=some (.bl true):=by
 refine oP (ρ:=[.im (.lst (l.map D.str))]) rfl ?_;refine oM (om (x:=.int l.length) (y:=.int l.length) (oX rfl (Oe (zB h hl))) (oX rfl ?_) ?_)
 ·show some (D.int _)=_;rw[ah]
 ·rw[ud];simp
theorem Gx{l:aG}(h:l.Nodup)(hl:l.length<=1000):qc [.tup (l.map D.str)]=some (.bl true):=by
 refine oP (ρ:=[.im (.tup (l.map D.str))]) rfl ?_;refine oM (om (x:=.int l.length) (y:=.int l.length) (oX rfl (zB h hl)) (oX rfl ?_) ?_)
 ·show some (D.int _)=_;rw[ah]
 ·rw[ud];simp
theorem Bs(T:List Th)(M:List Mk)(hT:T.length<=400)(hM:M.length<=400)(hn:∀x∈T.map Th.n++M.map Mk.n,Nm x)(nd:(T.map Th.n++M.map Mk.n).Nodup):uw [TD T,MD M]=some .non:=by
 have hl:(T.map Th.n++M.map Mk.n).length<=1000:=by rw[ay,ah,ah];omega
 let ρ0:aU:=[.im (TD T),.im (MD M),.un];let ρ:aU:=[.im (TD T),.im (MD M),.im (.lst ((T.map Th.n++M.map Mk.n).map D.str))];refine wa (ρ:=ρ) rfl ?_;unfold uv;have e1:oB 1 [] (iL af) (gN 0) pF (c1 (oF oA "name") af) ρ0=some (T.map λt=>D.str t.n,ρ0):=um thD (λt=>D.str t.n) T rfl (by omega) λt _=>⟨_,_,rfl,oX rfl (sR t),rfl⟩;have e2:oB 1 [] (iL ak) (gN 0) pF (c1 (oF oA "name") af) ρ0=some (M.map λt=>D.str t.n,ρ0):=um mkD (λt=>D.str t.n) M rfl (by omega) λt _=>⟨_,_,rfl,oX rfl (Aj t),rfl⟩;have e3:=oG (i:=2) (px (rL (px e1) (px e2) (by rw[ah,ah];omega)));refine(nV (ρ':=ρ) (e3.trans (by
  have:(T.map λt=>D.str t.n)++(M.map λt=>D.str t.n)=(T.map Th.n++M.map Mk.n).map D.str:=by rw[aR,aK,aK];rfl
  rw[this];rfl))).trans ?_
 rw[nV (qG (ρ1:=ρ) (uC D.str (T.map Th.n++M.map Mk.n) rfl hl λx hx=>⟨_,_,rfl,nY rfl (Gv (hn x hx)),rfl⟩))];exact qG (ρ1:=ρ) (nY rfl (Br nd hl))
def rmN(T:List Th):aG:=(T.filter λt=>decide (t.k=.room)).map Th.n
def hdN(T:List Th):aG:=(T.filter λt=>t.k.hd).map Th.n
variable{i:Nat}
abbrev gO:=(cC (.str "room"))
theorem E8(T:List Th)(hl:T.length<=1000)(hi:cV i ρ=some (TD T,ρ)):oB 1 [] (iL (cV i)) (gN 0) (cT (c2 (dEq false) (c1 (oF pf "kind") af) gO)) (c1 (oF oA "name") af) ρ=some ((rmN T).map D.str,ρ):=by
 have hs:iL (cV i) ρ=some (T.map thD,ρ):=by unfold iL;rw[hi]
 have:=uB (k:=1) (cap:=[]) (g:=gN 0) (ft:=cT (c2 (dEq false) (c1 (oF pf "kind") af) gO)) (fe:=c1 (oF oA "name") af) thD (λt=>D.str t.n) (λt=>decide (t.k=.room)) T hs hl λt _=>⟨[.im (thD t)],[.im (thD t)],rfl,pL (om (oX rfl (vG t)) rfl (CS t.k .room)),λ_=>⟨_,oX rfl (sR t),rfl⟩,λ_=>rfl⟩
 rw[this];unfold rmN;rw[aK];rfl
theorem Gy(T:List Th)(hl:T.length<=1000)(hi:cV i ρ=some (TD T,ρ)):oB 1 [] (iL (cV i)) (gN 0) (cT (pj pU "can_hold" af ox)) (c1 (oF oA "name") af) ρ=some ((hdN T).map D.str,ρ):=by
 have hs:iL (cV i) ρ=some (T.map thD,ρ):=by unfold iL;rw[hi]
 have:=uB (k:=1) (cap:=[]) (g:=gN 0) (ft:=cT (pj pU "can_hold" af ox)) (fe:=c1 (oF oA "name") af) thD (λt=>D.str t.n) (λt=>t.k.hd) T hs hl λt _=>⟨[.im (thD t)],[.im (thD t)],rfl,pL (pK (xs:=[.str t.n,.tup (t.w.map D.str),.str t.k.s,oS t.s]) (ys:=[]) rfl rfl rfl rfl (DT t)),λ_=>⟨_,oX rfl (sR t),rfl⟩,λ_=>rfl⟩
 rw[this];unfold hdN;rw[aK];rfl
theorem zi{x:Str}{l:aG}(h:x∈l):qb [.str x,.lst (l.map D.str)]=some (.bl true):=by refine oP (ρ:=[.im (.str x),.im (.lst (l.map D.str))]) rfl ?_;refine oM ((pO rfl).trans (om rfl rfl ?_));rw[A8];simp[h]
theorem BW(dk rm:aG)(hl:dk.length<=1000)(nd:dk.Nodup)(h:∀x∈dk,x∈rm):vv [.lst (dk.map D.str),.lst (rm.map D.str)]=some .non:=by let ρ0:aU:=[.im (.lst (dk.map D.str)),.im (.lst (rm.map D.str)),.un];let ρ:aU:=[.im (.lst (dk.map D.str)),.im (.lst (rm.map D.str)),.im (.bl true)];refine wa (ρ:=ρ) rfl ?_;unfold vt;rw[nV (show _=some (Out.nx ρ) from(oG ((pO (ρ1:=ρ0) rfl).trans ((pO (uC D.str dk (ρ1:=ρ0) rfl hl λx hx=>⟨[.im (.str x),.im (.lst (rm.map D.str))],[.im (.str x),.im (.lst (rm.map D.str))],rfl,nY rfl (zi (h x hx)),rfl⟩)).trans (nY (ρ1:=ρ0) rfl (Br nd hl))))).trans rfl)];exact qG (ρ1:=ρ) rfl
def DV(T:List Th)(t:Th):Prop:=match t.k,t.s with
 |.room,none=>True
 |.room,some _=>False
 |_,none=>False
 |.you,some x=>x∈rmN T
 |_,some x=>x∈hdN T
theorem E9(T:List Th)(hl:T.length<=1000)(t:Th)(h:DV T t):xN [TD T,thD t]=some (.bl true):=by
 refine oP (ρ:=[.im (TD T),.im (thD t)]) rfl ?_;unfold xM;obtain⟨n,w,k,s⟩:=t;have els:∀k:Kd,k≠.room->k≠.you->∀x,x∈hdN T->(n9 (sIf (cT (c2 (dEq false) (c1 (oF pf "kind") ak) gO)) (oQ (c2 yb (c1 (oF p6 "start") ak) bG)) o5)
   (n9 (sIf (cT (c2 (dEq false) (c1 (oF pf "kind") ak) (cC (.str "you")))) (oQ (n4 qb (nU (c1 (oF p6 "start") ak) (nU (cL (oB 1 [] (iL af) (gN 0) (cT (c2 (dEq false) (c1 (oF pf "kind") af) gO)) (c1 (oF oA "name") af))) ox)))) o5)
   (oQ (n4 qb (nU (c1 (oF p6 "start") ak) (nU (cL (oB 1 [] (iL af) (gN 0) (cT (pj pU "can_hold" af ox)) (c1 (oF oA "name") af))) ox)))))) [.im (TD T),.im (thD ⟨n,w,k,some x⟩)]=some (.rt (.bl true) [.im (TD T),.im (thD ⟨n,w,k,some x⟩)]):=λk h1 h2 x hx=>by
  let ρ:aU:=[.im (TD T),.im (thD ⟨n,w,k,some x⟩)];rw[nV (show _=some (Out.nx ρ) from(oZ (ρ':=ρ) (pL (om (ρ1:=ρ) (ρ2:=ρ) (oX rfl (vG _)) rfl ((CS k .room).trans (by rw[aO h1]))))).trans rfl)];rw[nV (show _=some (Out.nx ρ) from(oZ (ρ':=ρ) (pL (om (ρ1:=ρ) (ρ2:=ρ) (oX rfl (vG _)) rfl ((CS k .you).trans (by rw[aO h2]))))).trans rfl)];exact oM (nY (nX (oX rfl (DS _)) (nX (px (Gy T hl rfl)) rfl)) (zi hx))
 cases k with
 |room=>
  cases s with
  |none=>rfl
  |some x=>exact h.elim
 |you=>
  cases s with
  |none=>exact h.elim
  |some x=>let ρ:aU:=[.im (TD T),.im (thD ⟨n,w,.you,some x⟩)];rw[nV (show _=some (Out.nx ρ) from rfl)];refine oW ((ph (ρ':=ρ) rfl).trans ?_);exact oM (nY (nX (oX rfl (DS _)) (nX (px (E8 T hl rfl)) rfl)) (zi h))
 |plain=>cases s with
  |none=>exact h.elim
  |some x=>exact els .plain (by decide) (by decide) x h
 |fixed=>cases s with
  |none=>exact h.elim
  |some x=>exact els .fixed (by decide) (by decide) x h
 |box=>cases s with
  |none=>exact h.elim
  |some x=>exact els .box (by decide) (by decide) x h
 |lamp=>cases s with
  |none=>exact h.elim
  |some x=>exact els .lamp (by decide) (by decide) x h
def kS(x:Str):Key:=Sum.inr x
variable{fk fv:FE}{ks:List Key}{ds:List L4.D}{d:L4.D}
theorem wD{x:Str}(h1:fv ρ=some (d,ρ))(h2:ρ[i]?=some (.dk ks ds))(h3:fk ρ=some (.str x,ρ))(hn:kS x∉ks)(hl:ks.length<1000)(he:ds.length=ks.length):
  pB i fk fv ρ=some (.nx (ρ.set i (.dk (ks++[kS x]) (ds++[d])))):=by
 have hk:AO ks (kS x)=false:=by unfold AO;rw[ip];intro z;obtain⟨y,hy,ey⟩:=fq.mp z;exact hn (by rw[<-bA ey];exact hy)
 unfold pB;rw[h1];simp only[h2,h3];rw[show yW (.str x)=some (kS x) from rfl];simp only;rw[ai hl,ai he,hk];rfl
section
variable{α:Type}{g:FG}{i:Nat}{fk fv:FE}
theorem uY(dd:α->L4.D)(kf:α->Str)(vf:α->L4.D)(st:List Key->List L4.D->Sl->aU)
  (hs:∀(a:α) (ks:List Key) (ds:List L4.D) (s:Sl),∃ρ1,g (dd a) (st ks ds s)=some ρ1/\fv ρ1=some (vf a,ρ1)/\ρ1[i]?=some (.dk ks ds)/\fk ρ1=some (.str (kf a),ρ1)/\∀ks' ds',∃s',ρ1.set i (.dk ks' ds')=st ks' ds' s'):
  ∀(l:List α) (ks:List Key) (ds:List L4.D) (s:Sl),(ks++l.map λa=>kS (kf a)).Nodup->ks.length+l.length<=1000->ds.length=ks.length->
   ∃s',forL g (pB i fk fv) (l.map dd) (st ks ds s)=some (.nx (st (ks++l.map λa=>kS (kf a)) (ds++l.map vf) s'))
 |[],ks,ds,s,_,_,_=>⟨s,by rw[bJ,bJ,bJ,bz,bz];rfl⟩
 |a::l,ks,ds,s,nd,hl,he=>by
  obtain⟨ρ1,h1,h2,h3,h4,h5⟩:=hs a ks ds s;obtain⟨s1,h6⟩:=h5 (ks++[kS (kf a)]) (ds++[vf a]);rw[aF]at hl;have nd':((ks++[kS (kf a)])++l.map λa=>kS (kf a)).Nodup:=by rw[bw];exact nd
  have hn:kS (kf a)∉ks:=λz=>by rw[bO]at nd;exact nd.2.2 _ z _ (by rw[ar];exact aS) rfl
  obtain⟨s',h7⟩:=uY dd kf vf st hs l (ks++[kS (kf a)]) (ds++[vf a]) s1 nd' (by rw[ay,aZ];omega) (by rw[ay,ay,he,aZ,aZ]);refine⟨s',?_⟩;rw[ar];unfold forL;rw[h1];simp only[wD h2 h3 h4 hn (by omega) he,h6];rw[h7,ar,ar,bw,bw];rfl
end
def nK(T:List Th):List Key:=T.map λt=>kS t.n
variable{b:Str}
theorem LZ{a:Str}(h:kS a=kS b):a=b:=kl h
variable{T:List Th}
theorem HJ(h:(T.map Th.n).Nodup):(nK T).Nodup:=by have:=tf h;rw[aK]at this;exact this
variable{t:Th}
theorem HK(h:(T.map Th.n).Nodup)(vf:Th->L4.D)(ht:t∈T):rX (nK T) (T.map vf) (kS t.n)=some (vf t):=by refine ym (HJ h) ?_;unfold nK;rw[jZ];exact cg (f:=λt=>(kS t.n,vf t)) ht
def GA(T:List Th)(r:Str->Nat):Prop:=∀t∈T,r t.n<T.length/\∀p,t.s=some p->r p<r t.n/\∃u∈T,u.n=p
def stD(T:List Th):L4.D:=.dic (nK T) (T.map λt=>oS t.s)
theorem L0(T:List Th)(hl:T.length<=1000)(nd:(T.map Th.n).Nodup)(r:Str->Nat)(hr:GA T r)(t:Th)(ht:t∈T):qp [stD T,.str t.n]=some (.bl true):=by
 have loop:∀(m:Nat) (l:List L4.D),l.length=m->∀(a:Option Str) (s:Sl),(∀x,a=some x->(∃u∈T,u.n=x)/\r x<m)->
   (∃ρ,forL (gN 3) (n9 (sIf (cT (c2 yb aw bG)) (oQ cM) o5) (oT 2 (c2 qK af aw))) l [.im (stD T),.im (.str t.n),.im (oS a),s]=some (.rt (.bl true) ρ))\/
   (∃s',forL (gN 3) (n9 (sIf (cT (c2 yb aw bG)) (oQ cM) o5) (oT 2 (c2 qK af aw))) l [.im (stD T),.im (.str t.n),.im (oS a),s]=some (.nx [.im (stD T),.im (.str t.n),.im .non,s'])):=by
  intro m
  induction m with
  |zero=>
   intro l h a s ha;cases l with
   |cons d l=>cases h
   |nil=>
    cases a with
    |none=>exact .inr ⟨s,rfl⟩
    |some x=>exact aq (ha x rfl).2 (mW _)
  |succ m ih=>
   intro l h a s ha;cases l with
   |nil=>cases h
   |cons d l=>
    cases a with
    |none=>refine .inl ⟨[.im (stD T),.im (.str t.n),.im .non,.im d],?_⟩;unfold forL;rw[show gN 3 d [.im (stD T),.im (.str t.n),.im (oS none),s]=some [.im (stD T),.im (.str t.n),.im .non,.im d] from rfl];rfl
    |some x=>
     obtain⟨⟨u,hu,rfl⟩,hx⟩:=ha x rfl;have e:n9 (sIf (cT (c2 yb aw bG)) (oQ cM) o5) (oT 2 (c2 qK af aw)) [.im (stD T),.im (.str t.n),.im (.str u.n),.im d]=some (.nx [.im (stD T),.im (.str t.n),.im (oS u.s),.im d]):=by refine(nV (ρ':=[.im (stD T),.im (.str t.n),.im (.str u.n),.im d]) rfl).trans ?_;exact(oG (om rfl rfl (HK nd (λt=>oS t.s) hu))).trans rfl
     have key:=ih l (by simpa using h) u.s (.im d) λy hy=>by obtain⟨h1,h2⟩:=hr u hu;obtain⟨h3,h4⟩:=h2 y hy;exact⟨h4,by omega⟩
     unfold forL;rw[show gN 3 d [.im (stD T),.im (.str t.n),.im (oS (some u.n)),s]=some [.im (stD T),.im (.str t.n),.im (.str u.n),.im d] from rfl];simp only[e];exact key
 obtain⟨h1,h2⟩:=hr t ht;have l0:=loop T.length (xZ 0 T.length) (by unfold xZ;simp) t.s .un λx hx=>⟨(h2 x hx).2,by have:=(h2 x hx).1;omega⟩;have e0:oT 2 (c2 qK af ak) [.im (stD T),.im (.str t.n),.un,.un]=some (.nx [.im (stD T),.im (.str t.n),.im (oS t.s),.un]):=(oG (om rfl rfl (HK nd (λt=>oS t.s) ht))).trans rfl;have e1:iR1 (c1 pP af) [.im (stD T),.im (.str t.n),.im (oS t.s),.un]=some (xZ 0 T.length,[.im (stD T),.im (.str t.n),.im (oS t.s),.un]):=by unfold iR1;rw[show c1 pP af [.im (stD T),.im (.str t.n),.im (oS t.s),.un]=some (.int T.length,[.im (stD T),.im (.str t.n),.im (oS t.s),.un]) from oX rfl (by show some (D.int _)=_;unfold nK;rw[ah])];simp only;rw[ai (by omega),dY]
 rcases l0 with ⟨ρ,q⟩|⟨s',q⟩
 ·refine oP (ρ:=ρ) rfl ?_;refine(nV e0).trans (oW ((p5 e1).trans q))
 ·refine oP (ρ:=[.im (stD T),.im (.str t.n),.im .non,s']) rfl ?_;refine(nV e0).trans ((nV ((p5 e1).trans q)).trans rfl)
theorem z7(T:List Th)(hl:T.length<=900)(nd:(T.map Th.n).Nodup)(r:Str->Nat)(hr:GA T r)(hs:∀t∈T,DV T t):tT [TD T]=some .non:=by
 obtain⟨s',e1⟩:=uY (g:=gN 2) (i:=1) (fk:=c1 (oF oA "name") aw) (fv:=c1 (oF p6 "start") aw) thD Th.n (λt=>oS t.s) (λks ds s=>[.im (TD T),.dk ks ds,s])
  (λt ks ds s=>⟨[.im (TD T),.dk ks ds,.im (thD t)],rfl,oX rfl (DS t),rfl,oX rfl (sR t),λks' ds'=>⟨_,rfl⟩⟩) T [] [] .un (by rw[bI];exact HJ nd) (by simp;omega) rfl
 refine wa (ρ:=[.im (TD T),.im (stD T),s']) rfl ?_;unfold tS;refine(nV (qG (ρ1:=[.im (TD T),.un,.un]) (uC thD T rfl (by omega) λt ht=>⟨[.im (thD t),.im (TD T)],[.im (thD t),.im (TD T)],rfl,nY rfl (E9 T (by omega) t (hs t ht)),rfl⟩))).trans ?_;refine(nV (ρ':=[.im (TD T),.dk [] [],.un]) rfl).trans ?_;refine(nV ((p5 rfl).trans e1)).trans ?_;have src:iD (cFz 1) [.im (TD T),.dk ([]++T.map λa=>kS a.n) ([]++T.map λt=>oS t.s),s']=some ((T.map λt=>D.str t.n),[.im (TD T),.im (stD T),s']):=by rw[bI,bI];unfold iD;rw[show cFz 1 [.im (TD T),.dk (T.map λa=>kS a.n) (T.map λt=>oS t.s),s']=some (stD T,[.im (TD T),.im (stD T),s']) from rfl];show (if (nK T).length=(T.map λt=>oS t.s).length then some ((nK T).map Gb,_)else none)=_;unfold nK;rw[ai (by rw[ah,ah]),aK];rfl
 exact qG (ρ1:=[.im (TD T),.im (stD T),s']) (uC (λt:Th=>D.str t.n) T src (by omega) λt ht=>⟨[.im (.str t.n),.im (stD T)],[.im (.str t.n),.im (stD T)],rfl,nY rfl (L0 T (by omega) nd r hr t ht),rfl⟩)
def CT:List aG:=[[],["red"],["old", "red"]]
def qN(t:Th):Prop:=Nm t.n/\∃m∈CT,t.w=t.n::m
theorem rH(h:qN t):t.w=[t.n]\/t.w=[t.n,"red"]\/t.w=[t.n,"old", "red"]:=by
 obtain⟨_,m,hm,e⟩:=h;unfold CT at hm;simp only[aP,bu,or_false]at hm;rcases hm with rfl|rfl|rfl
 ·exact .inl e
 ·exact .inr (.inl e)
 ·exact .inr (.inr e)
theorem zj(h:qN t){x:Str}(hx:x∈t.w):x=t.n\/x="red" \/ x="old" := by
 rcases rH h with e|e|e<;>rw[e]at hx<;>simp only[aP,bu,or_false]at hx
 ·exact .inl hx
 ·rcases hx with h|h
  ·exact .inl h
  ·exact .inr (.inl h)
 ·rcases hx with h|h|h
  ·exact .inl h
  ·exact .inr (.inr h)
  ·exact .inr (.inl h)
theorem Py{x:Str}(h:Nm x):x≠"red" /\ x≠"old" := by have:=LY h;exact⟨λz=>this (by rw[z];decide),λz=>this (by rw[z];decide)⟩
theorem DW(h:qN t):wu [.tup (t.w.map D.str)]=some (.bl true):=by
 have hn:=h.1;obtain⟨n1,n2⟩:=Py hn;have len:1<=t.w.length/\t.w.length<=4:=by rcases rH h with e|e|e<;>rw[e]<;>simp
 have nd:t.w.Nodup:=by
  rcases rH h with e|e|e<;>rw[e]
  ·simp
  ·simp[n1]
  ·simp[n1,n2];decide
 let ρ:aU:=[.im (.tup (t.w.map D.str))];refine oP (ρ:=ρ) rfl ?_;unfold wt;have e1:qm rK rK aJ (c1 pP af) (cC vp) ρ=some (.bl true,ρ):=yG (x:=1) (y:=t.w.length) (z:=4) rfl (oX rfl (by show some (D.int _)=_;rw[ah])) rfl (by omega) (by omega);refine(nV (ρ':=ρ) ((oZ (ρ':=ρ) (tG (ρ1:=ρ) rfl (qJ (pL e1)))).trans rfl)).trans ?_;refine oM ((pO (uC D.str t.w (ρ1:=ρ) rfl (by omega) λx hx=>⟨_,_,rfl,nY rfl ?_,rfl⟩)).trans (nY rfl (Gx nd (by omega))));rcases zj h hx with rfl|rfl|rfl
 ·exact Gw hn
 ·exact E6
 ·exact E7
theorem GB(t u:Th)(ht:qN t)(hu:qN u)(hne:u.n≠t.n):wV [.tup (u.w.map D.str),.tup (t.w.map D.str)]=some (.bl false):=by
 obtain⟨n1,n2⟩:=Py ht.1;have hl:t.w.length<=1000:=by rcases rH ht with e|e|e<;>rw[e]<;>simp
 let ρ:aU:=[.im (.tup (u.w.map D.str)),.im (.tup (t.w.map D.str))];refine oP (ρ:=ρ) rfl ?_;refine oM (oX (px (um D.str (λx=>.bl (decide (x∈u.w))) t.w (ρ1:=ρ) rfl hl λx _=>⟨_,_,rfl,om rfl rfl (EY false x u.w),rfl⟩)) ?_);rw[DL];have:t.w.all (λx=>decide (x∈u.w))=false:=by
  rw[ip];intro z;have:=bA (bB.mp z t.n (by rcases rH ht with e|e|e<;>rw[e]<;>simp));rcases zj hu this with h|h|h
  ·exact hne h.symm
  ·exact n1 h
  ·exact n2 h
 rw[this]
theorem BX(P:List Th)(hl:P.length<=900)(hw:∀t∈P,qN t)(t:Th)(ht:qN t):sO [TD P,thD t]=some (.bl true):=by
 let O:=P.filter λu=>!decide (u.n=t.n);let ρ:aU:=[.im (TD P),.im (thD t),.im (TD O)];have hO:O.length<=900:=bS (fR _ _) hl;refine oP (ρ:=ρ) rfl ?_;unfold sN;refine(nV (ρ':=ρ) ((oG (px (uB thD thD (λu=>!decide (u.n=t.n)) P (ρ1:=[.im (TD P),.im (thD t),.un]) rfl (by omega) λu _=>⟨[.im (thD u),.im (thD t)],[.im (thD u),.im (thD t)],rfl,pL (om (oX rfl (sR u)) (oX rfl (sR t)) (vo true u.n t.n)),λ_=>⟨_,rfl,rfl⟩,λ_=>rfl⟩))).trans rfl)).trans ?_;have e:c1 AR (cL (oB 1 [1] (iL aw) (gN 0) pF (n4 wV (nU (c1 (oF qA "words") af) (nU (c1 (oF qA "words") ak) ox))))) ρ=some (.bl false,ρ):=
  LV thD O rfl (by omega) λu hu=>⟨[.im (thD u),.im (thD t)],[.im (thD u),.im (thD t)],rfl,nY (nX (oX rfl (DR u)) (nX (oX rfl (DR t)) rfl)) (GB t u ht (hw u (ck.mp hu).1) (by simpa using (ck.mp hu).2)),rfl⟩
 refine oM ?_;unfold Dv;rw[e];rfl
theorem Bt(T:List Th)(hl:T.length<=900)(hw:∀t∈T,qN t):qh [TD T]=some .non:=by let P:=T.filter λt=>t.k.pl;have hP:P.length<=900:=bS (fR _ _) hl;have hwP:∀t∈P,qN t:=λt ht=>hw t (ck.mp ht).1;let ρ:aU:=[.im (TD T),.im (TD P)];refine wa (ρ:=ρ) rfl ?_;unfold qg;refine(nV (qG (ρ1:=[.im (TD T),.un]) (uC thD T rfl (by omega) λt ht=>⟨[.im (thD t)],[.im (thD t)],rfl,nY (nX (oX rfl (DR t)) rfl) (DW (hw t ht)),rfl⟩))).trans ?_;refine(nV (ρ':=ρ) ((oG (px (nY rfl (uD T (by omega))))).trans rfl)).trans ?_;exact qG (ρ1:=ρ) (uC thD P rfl (by omega) λt ht=>⟨[.im (thD t),.im (TD P)],[.im (thD t),.im (TD P)],rfl,nY rfl (BX P hP hwP t (hwP t ht)),rfl⟩)
def xn(n f:Str)(j:L4.D):L4.D:=.obj 2 ["name", "others", "form", "joining"] [.str n,.tup [],.str f,j]
def oN:List L4.D:=[xn "take" "one" .non,xn "drop" "one" .non,xn "open" "one" .non,xn "shut" "one" .non,xn "light" "one" .non,xn "douse" "one" .non,xn "put" "two" (.str "in"),xn "go" "way" .non,xn "wait" "alone" .non]
theorem Fb:qj []=some oN:=by kernel_rfl
def vN:aG:=["take", "drop", "open", "shut", "light", "douse", "put", "go", "wait"]
def vI:aG:=["take", "drop", "open", "shut", "light", "douse", "put", "go", "wait", "in"]
variable{e:FE}{ρ1:aU}
theorem OP{b:Bool}(h:e ρ=some (.bl b,ρ1)):Dv e ρ=some (.bl !b,ρ1):=by unfold Dv;rw[h]
theorem L1{l m:aG}(hd:d=.lst (m.map D.str)\/d=.tup (m.map D.str))(hl:l.length<=900)(h:∀x∈l,x∉m):sJ [.lst (l.map D.str),d]=some (.bl true):=by
 let ρ:aU:=[.im (.lst (l.map D.str)),.im d];refine oP (ρ:=ρ) rfl ?_;have e:c1 AR (cL (oB 1 [1] (iL af) (gN 0) pF (c2 (dIn false) af ak))) ρ=some (.bl false,ρ):=LV D.str l rfl (by omega) λx hx=>⟨[.im (.str x),.im d],[.im (.str x),.im d],rfl,om rfl rfl (by
  rcases hd with rfl|rfl
  ·rw[A8];simp[h x hx]
  ·rw[EY];simp[h x hx]),rfl⟩
 exact oM (OP e)
theorem Jx(h:qN t):t.w.length<=3:=by rcases rH h with e|e|e<;>rw[e]<;>simp
theorem Bu{a b c s5 s6 s7:Sl}:∀(P:List Th) (acc:aG) (s:Sl),acc.length+3 * P.length<=900->(∀t∈P,qN t)->
  ∃s',forL (gN 4) (oV (zy 3 (c1 (oF qA "words") aN))) (P.map thD) [a,b,c,.ls (acc.map D.str),s,s5,s6,s7]=some (.nx [a,b,c,.ls ((acc++P.flatMap Th.w).map D.str),s',s5,s6,s7])
 |[],acc,s,_,_=>⟨s,by simp;rfl⟩
 |t::P,acc,s,hl,hw=>by
  have h3:=Jx (hw t aS);rw[aF]at hl;obtain⟨s',e⟩:=Bu P (acc++t.w) (.im (thD t)) (by rw[ay];omega) λu hu=>hw u (ba _ hu);refine⟨s',?_⟩;rw[ar];unfold forL;have e1:oV (zy 3 (c1 (oF qA "words") aN)) [a,b,c,.ls (acc.map D.str),.im (thD t),s5,s6,s7]=some (.nx [a,b,c,.ls ((acc++t.w).map D.str),.im (thD t),s5,s6,s7]):=by refine(pW (d:=.non) (ρ':=[a,b,c,.ls ((acc++t.w).map D.str),.im (thD t),s5,s6,s7]) ?_);unfold zy;show (if (acc.map D.str).length+(t.w.map D.str).length<=1000 then some (D.non,[a,b,c,.ls (acc.map D.str++t.w.map D.str),.im (thD t),s5,s6,s7])else none)=_;rw[ai (by rw[ah,ah];omega),aR]
  rw[show gN 4 (thD t) [a,b,c,.ls (acc.map D.str),s,s5,s6,s7]=some [a,b,c,.ls (acc.map D.str),.im (thD t),s5,s6,s7] from rfl];simp only[e1];rw[e,List.flatMap_cons,bw]
theorem Bv(T:List Th)(hl:T.length<=200)(hw:∀t∈T,qN t):qq [TD T,.lst [],.lst oN]=some .non:=by
 let P:=T.filter λt=>t.k.pl;have hP:P.length<=200:=bS (fR _ _) hl;have hwP:∀t∈P,qN t:=λt ht=>hw t (ck.mp ht).1;obtain⟨s',e1⟩:=Bu (a:=.im (TD T)) (b:=.im (.lst [])) (c:=.im (.lst oN)) (s5:=.un) (s6:=.un) (s7:=.un) P [] .un (by simp;omega) hwP;let O:=P.flatMap Th.w;let m1:Sl:=.ls (O.map D.str);let z:Sl:=.im (xn "wait" "alone" .non);refine wa (ρ:=[.im (TD T),.im (.lst []),.im (.lst oN),.im (.lst (O.map D.str)),s',.im (.lst (vN.map D.str)),z,.im (.lst [.str "in"])]) rfl ?_;unfold rE;refine(nV (ρ':=[.im (TD T),.im (.lst []),.im (.lst oN),.ls [],.un,.un,.un,.un]) rfl).trans ?_;refine(nV (ρ':=[.im (TD T),.im (.lst []),.im (.lst oN),m1,s',.un,.un,.un]) ((p5 (ds:=P.map thD) (ρ1:=[.im (TD T),.im (.lst []),.im (.lst oN),.ls [],.un,.un,.un,.un]) ?_).trans e1)).trans ?_
 ·unfold iL;rw[px (nY (g:=qW) (ds:=[TD T]) (ρ1:=[.im (TD T),.im (.lst []),.im (.lst oN),.ls [],.un,.un,.un,.un]) rfl (uD T (by omega)))]
 refine(nV (ρ':=[.im (TD T),.im (.lst []),.im (.lst oN),m1,s',.ls [],.un,.un]) rfl).trans ?_;refine(nV (ρ':=[.im (TD T),.im (.lst []),.im (.lst oN),m1,s',.ls (vN.map D.str),z,.un]) (by kernel_rfl)).trans ?_;refine(nV (ρ':=[.im (TD T),.im (.lst []),.im (.lst oN),m1,s',.ls (vN.map D.str),z,.im (.lst [.str "in"])]) (by kernel_rfl)).trans ?_;refine(nV (qG (ρ1:=[.im (TD T),.im (.lst []),.im (.lst oN),m1,s',.im (.lst (vN.map D.str)),z,.im (.lst [.str "in"])]) (by kernel_rfl))).trans ?_;have no:∀x∈vI,x∉O:=λx hx ho=>by
  obtain⟨t,ht,hxt⟩:=List.mem_flatMap.mp ho;have hn:=(hwP t ht).1;rcases zj (hwP t ht) hxt with rfl|rfl|rfl
  ·have sub:∀x∈vI,x∈(["red", "old", "take", "drop", "open", "shut", "light", "douse", "put", "go", "wait", "in", "the", "a", "undo", "restart"]:aG):=by decide
   exact LY hn (sub _ hx)
  ·exact aq hx (by decide)
  ·exact aq hx (by decide)
 have a1:=L1 (l:=vI) (m:=O) (.inl rfl) (by decide) no;refine(nV (qG (ρ1:=[.im (TD T),.im (.lst []),.im (.lst oN),.im (.lst (O.map D.str)),s',.im (.lst (vN.map D.str)),z,.im (.lst [.str "in"])]) (nY (nX (d:=.lst (vI.map D.str)) (ρ1:=[.im (TD T),.im (.lst []),.im (.lst oN),m1,s',.im (.lst (vN.map D.str)),z,.im (.lst [.str "in"])]) (by kernel_rfl) (nX rfl rfl)) a1))).trans ?_;refine(nV (qG (ρ1:=[.im (TD T),.im (.lst []),.im (.lst oN),.im (.lst (O.map D.str)),s',.im (.lst (vN.map D.str)),z,.im (.lst [.str "in"])]) (by kernel_rfl))).trans ?_;exact qG (by kernel_rfl)
structure Good(T:List Th)(M:List Mk)(dk:aG):Prop where
 len:T.length<=200
 r1:1<=(T.filter λt=>decide (t.k=.room)).length
 r5:(T.filter λt=>decide (t.k=.room)).length<=5
 y1:(T.filter λt=>decide (t.k=.you)).length=1
 p7:(T.filter λt=>t.k.pl).length<=7
 m4:M.length<=4
 mo:∀m∈M,m.ok
 nm:∀x∈T.map Th.n++M.map Mk.n,Nm x
 nd:(T.map Th.n++M.map Mk.n).Nodup
 st:∀t∈T,DV T t
 rk:∃r,GA T r
 wd:∀t∈T,qN t
 d0:dk.length<=5
 d1:dk.Nodup
 d2:∀x∈dk,x∈rmN T
variable{M:List Mk}{dk:aG}
theorem Good.ndT(g:Good T M dk):(T.map Th.n).Nodup:=(bO.mp g.nd).1
theorem BY(T:List Th)(M:List Mk)(hl:T.length<=200)(hM:M.length<=4):∃l,qo [TD T,MD M]=some l:=by
 let ρ:aU:=[.im (TD T),.im (MD M)];refine⟨_,yV (ρ:=ρ) rfl (tZ (rL (px (uB thD (λt=>D.str t.n) (λt=>t.k.mk) T (ρ1:=ρ) rfl (by omega) λt _=>⟨[.im (thD t)],[.im (thD t)],rfl,pL (pK (xs:=[.str t.n,.tup (t.w.map D.str),.str t.k.s,oS t.s]) (ys:=[]) rfl rfl rfl rfl (DU t)),λ_=>⟨_,oX rfl (sR t),rfl⟩,λ_=>rfl⟩))
  (px (um mkD (λt=>D.str t.n) M rfl (by omega) λt _=>⟨_,_,rfl,oX rfl (Aj t),rfl⟩)) ?_))⟩
 have:=fR (λt:Th=>t.k.mk) T;rw[ah,ah];omega
theorem Bw(g:Good T M dk):uz [TD T,MD M,.lst (dk.map D.str),.lst [],.lst [],.lst oN]=some .non:=by
 have hl:=g.len;have hdk:dk.length<=1000:=by have:=g.d0;omega
 obtain⟨r,hr⟩:=g.rk;obtain⟨mn,emn⟩:=BY T M hl g.m4;let ρ0:aU:=[.im (TD T),.im (MD M),.im (.lst (dk.map D.str)),.im (.lst []),.im (.lst []),.im (.lst oN),.un];let ρ:aU:=[.im (TD T),.im (MD M),.im (.lst (dk.map D.str)),.im (.lst []),.im (.lst []),.im (.lst oN),.im (.lst ((rmN T).map D.str))];refine wa (ρ:=ρ) rfl ?_;unfold uy;refine(nV (pW (ρ':=ρ0) (nY rfl (zZ T (by omega) g.r1 g.r5 g.y1 g.p7)))).trans ?_;refine(nV (pW (ρ':=ρ0) (nY rfl (Bp M g.m4 g.mo)))).trans ?_;refine(nV (pW (ρ':=ρ0) (nY rfl (Bs T M (by omega) (by have:=g.m4;omega) g.nm g.nd)))).trans ?_;refine(nV (pW (ρ':=ρ0) (nY rfl (z7 T (by omega) g.ndT r hr g.st)))).trans ?_;refine(nV (pW (ρ':=ρ0) (nY rfl (Bt T (by omega) g.wd)))).trans ?_;refine(nV (ρ':=ρ) ((oG (px (E8 T (by omega) rfl))).trans rfl)).trans ?_;refine(nV (pW (ρ':=ρ) (nY rfl (BW dk (rmN T) hdk g.d1 g.d2)))).trans ?_;have cw:vw [.lst [],.lst ((rmN T).map D.str),.lst mn]=some .non:=by kernel_rfl
 refine(nV (pW (ρ':=ρ) (nY (nX rfl (nX rfl (nX (px (nY (g:=qo) (ds:=[TD T,MD M]) rfl emn)) rfl))) cw))).trans ?_;refine(nV (pW (ρ':=ρ) (nY (g:=ux) (ds:=[.lst []]) (r:=.non) rfl (by kernel_rfl)))).trans ?_;exact pW (ρ':=ρ) (nY (g:=qq) (ds:=[TD T,.lst [],.lst oN]) rfl (Bv T hl g.wd))
theorem GE(T:List Th)(hl:T.length<=900)(nd:(T.map Th.n).Nodup):zd [TD T]=some (.dic (nK T) (T.map thD)):=by
 obtain⟨s',e1⟩:=uY (g:=gN 2) (i:=1) (fk:=c1 (oF oA "name") aw) (fv:=cV 2) thD Th.n thD (λks ds s=>[.im (TD T),.dk ks ds,s])
  (λt ks ds s=>⟨[.im (TD T),.dk ks ds,.im (thD t)],rfl,rfl,rfl,oX rfl (sR t),λks' ds'=>⟨_,rfl⟩⟩) T [] [] .un (by rw[bI];exact HJ nd) (by simp;omega) rfl
 refine oP (ρ:=[.im (TD T),.im (.dic (nK T) (T.map thD)),s']) rfl ?_;unfold zc;refine(nV (ρ':=[.im (TD T),.dk [] [],.un]) rfl).trans ?_;refine(nV ((p5 rfl).trans e1)).trans ?_;rw[bI,bI];rfl
theorem OQ(m:Mk):oF tI "most" (mkD m)=some (.int m.mo):=rfl
theorem GF(T:List Th)(hl:T.length<=1000)(ns:aG)(rest:List L4.D)(k:Kd):sQ [.obj 14 ("kept_things" ::ns) (TD T::rest),.str k.s]=some (.lst ((T.filter λt=>decide (t.k=k)).map λt=>D.str t.n)):=by let ρ:aU:=[.im (.obj 14 ("kept_things" ::ns) (TD T::rest)),.im (.str k.s)];refine Gj (ρ:=ρ) rfl ?_;exact tZ (uB thD (λt=>D.str t.n) (λt=>decide (t.k=k)) T (ρ1:=ρ) rfl hl λt _=>⟨[.im (thD t),.im (.str k.s)],[.im (thD t),.im (.str k.s)],rfl,pL (om (oX rfl (vG t)) rfl (CS t.k k)),λ_=>⟨_,oX rfl (sR t),rfl⟩,λ_=>rfl⟩)
def shD(y:Str):List L4.D:=(qU [.str y,.lst []]).getD []
theorem Vf(y:Str):qU [.str y,.lst []]=some (shD y):=by kernel_rfl
def vwD:L4.D:=(qz [.lst oN]).getD .non
def rbD(y:Str):L4.D:=(uV [.lst (shD y)]).getD .non
def wNs:aG:=["kept_things", "kept_marks", "kept_dark", "kept_ways", "kept_verbs", "shared_verbs", "your_name", "things_by_name", "mosts_by_name", "verbs_by_word", "kept_rules", "shared_rules", "copied_rules", "rules_by_verb"]
def wDs(T:List Th)(M:List Mk)(dk:aG)(y:Str)(mo:L4.D):List L4.D:=[TD T,MD M,.lst (dk.map D.str),.lst [],.lst [],.lst oN,.str y,.dic (nK T) (T.map thD),mo,vwD,.lst [],.lst (shD y),.lst [],rbD y]
abbrev wR(T:List Th)(M:List Mk)(dk:aG)(ns:aG)(ds:List L4.D)(q:Sl):aU:=[.ob 14 ns ds,.im (TD T),.im (MD M),.im (.lst (dk.map D.str)),.im (.lst []),.im (.lst []),.im (.lst []),q]
abbrev wL(T:List Th)(M:List Mk)(dk:aG)(ns:aG)(ds:List L4.D)(q:Sl):aU:=[.im (.obj 14 ns ds),.im (TD T),.im (MD M),.im (.lst (dk.map D.str)),.im (.lst []),.im (.lst []),.im (.lst []),xD q]
variable{ns:aG}
section
variable{T:List Th}{M:List Mk}{dk:aG}
theorem yH{nm:Str}{q:Sl}(h1:e (wR T M dk ns ds q)=some (d,wR T M dk ns ds q))(h2:ns.contains nm=false)(h3:ds.length=ns.length)(h4:ns.length<900):o7 14 0 nm e (wR T M dk ns ds q)=some (.nx (wR T M dk (ns++[nm]) (ds++[d]) q)):=by unfold o7;rw[h1];show (if 14=14 then if ns.contains nm=true then none else if ds.length=ns.length then if ns.length<900 then some (Out.nx (wR T M dk (ns++[nm]) (ds++[d]) q))else none else none else none)=_;rw[ai rfl,h2,aj bj,ai h3,ai h4]
theorem L6{q:Sl}{r:aU}(h1:e (wL T M dk ns ds q)=some (d,r))(h2:noC 15 14 d=true):ub 15 e (wR T M dk ns ds q)=some (d,wR T M dk ns ds q):=by
 unfold ub;show (match e (wL T M dk ns ds q)with
  |some (d,_)=>if (decide (14<15)&&noC 15 14 d)=true then some (d,wR T M dk ns ds q)else none
  |none=>none)=_
 rw[h1];simp only[h2];rfl
abbrev d6(T:List Th)(M:List Mk)(dk:aG):List L4.D:=[TD T,MD M,.lst (dk.map D.str),.lst [],.lst [],.lst oN]
abbrev n6:aG:=["kept_things", "kept_marks", "kept_dark", "kept_ways", "kept_verbs", "shared_verbs"]
theorem Vg(y:Str)(hl:T.length<=1000)(hy:(T.filter λt=>decide (t.k=.you)).map Th.n=[y]):ub 15 (c2 dIx (pj su "of_kind" af (nU (cC (.str "you")) ox)) aX) (wR T M dk n6 (d6 T M dk) .un)=some (.str y,wR T M dk n6 (d6 T M dk) .un):=by
 refine L6 (r:=wL T M dk n6 (d6 T M dk) .un) (om (pK (xs:=d6 T M dk) (ys:=[.str Kd.you.s]) (hh:=sQ) rfl rfl rfl rfl (GF T hl _ _ .you)) rfl ?_) rfl;have:((T.filter λt=>decide (t.k=.you)).map λt=>D.str t.n)=[.str y]:=by rw[show (λt:Th=>D.str t.n)=D.str∘Th.n from rfl,<- aK,hy];rfl
 rw[this];rfl
end
variable{mo:L4.D}
section
variable{T:List Th}{M:List Mk}{dk:aG}
theorem Vh:qz [.lst oN]=some vwD:=by kernel_rfl
theorem Vi(y:Str):uV [.lst (shD y)]=some (rbD y):=by kernel_rfl
theorem Ts:noC 15 14 vwD=true:=by kernel_rfl
theorem Tt(y:Str):noC 15 14 (rbD y)=true:=by kernel_rfl
theorem Tu(y:Str):noC 15 14 (.lst (shD y))=true:=by kernel_rfl
theorem Tv(y:Str):(shD y).length<=900:=c9 (by kernel_rfl)
abbrev n7:aG:=["kept_things", "kept_marks", "kept_dark", "kept_ways", "kept_verbs", "shared_verbs", "your_name"]
abbrev d7(T:List Th)(M:List Mk)(dk:aG)(y:Str):List L4.D:=[TD T,MD M,.lst (dk.map D.str),.lst [],.lst [],.lst oN,.str y]
theorem Vj(ns:aG)(ds:List L4.D):rO [.obj 14 (n6++ns) (d6 T M dk++ds)]=some (.lst oN):=by kernel_rfl
theorem OR(ns:aG)(ds:List L4.D)(q:Sl)(hc:(n6++ns).contains "all_verbs" = false):ub 15 (n4 qz (nU (pj rl "all_verbs" af ox) ox)) (wR T M dk (n6++ns) (d6 T M dk++ds) q)=some (vwD,wR T M dk (n6++ns) (d6 T M dk++ds) q):=
 L6 (r:=wL T M dk (n6++ns) (d6 T M dk++ds) q) (nY (nX (pK (xs:=d6 T M dk++ds) (ys:=[]) (hh:=rO) rfl rfl hc rfl (Vj ns ds)) rfl) Vh) Ts
theorem L7(y:Str)(ns:aG)(ds:List L4.D)(q:Sl):ub 15 (cL (o6 qU (nU (c1 (oF sr "your_name") af) (nU aN ox)))) (wR T M dk (n7++ns) (d7 T M dk y++ds) q)=some (.lst (shD y),wR T M dk (n7++ns) (d7 T M dk y++ds) q):=
 L6 (r:=wL T M dk (n7++ns) (d7 T M dk y++ds) q) (px (nY (ds:=[.str y,.lst []]) rfl (Vf y))) (Tu y)
abbrev n13:aG:=["kept_things", "kept_marks", "kept_dark", "kept_ways", "kept_verbs", "shared_verbs", "your_name", "things_by_name", "mosts_by_name", "verbs_by_word", "kept_rules", "shared_rules", "copied_rules"]
theorem VI(y:Str)(a b c d:L4.D)(q:Sl):ub 15 (n4 uV (nU (cL (qF (c1 (oF sj "copied_rules") af) (c1 (oF sk "shared_rules") af))) ox)) (wR T M dk n13 [TD T,MD M,.lst (dk.map D.str),.lst [],.lst [],.lst oN,.str y,a,b,c,d,.lst (shD y),.lst []] q)=some (rbD y,wR T M dk n13 [TD T,MD M,.lst (dk.map D.str),.lst [],.lst [],.lst oN,.str y,a,b,c,d,.lst (shD y),.lst []] q):=
 L6 (r:=wL T M dk n13 [TD T,MD M,.lst (dk.map D.str),.lst [],.lst [],.lst oN,.str y,a,b,c,d,.lst (shD y),.lst []] q) (nY (nX (px (rL (xs:=[]) (ys:=shD y) rfl rfl (by have:=Tv y;simp;omega))) rfl) (Vi y)) (Tt y)
theorem L8(g:Good T M dk)(y:Str)(hy:(T.filter λt=>decide (t.k=.you)).map Th.n=[y])(emo:qw [TD T,MD M]=some mo):rQ [TD T,MD M,.lst (dk.map D.str),.lst [],.lst [],.lst []]=some (wNs,wDs T M dk y mo):=by
 have hl:=g.len;have e:rP (wR T M dk [] [] .un)=some (.nx (wR T M dk wNs (wDs T M dk y mo) (.im (.bl true)))):=by unfold rP;refine(nV (pW (ρ':=wR T M dk [] [] .un) (nY (nX rfl (nX rfl (nX rfl (nX rfl (nX rfl (nX (px (nY (g:=qj) (ds:=[]) rfl Fb)) rfl)))))) (Bw g)))).trans ?_;refine(nV (ρ':=wR T M dk ["kept_things"] [TD T] .un) (yH (T:=T) (M:=M) (dk:=dk) (ns:=[]) (ds:=[]) (d:=TD T) (q:=.un) rfl rfl rfl (by decide))).trans ?_;refine(nV (ρ':=wR T M dk ["kept_things", "kept_marks"] [TD T,MD M] .un) (yH (T:=T) (M:=M) (dk:=dk) (ns:=["kept_things"]) (ds:=[TD T]) (d:=MD M) (q:=.un) rfl rfl rfl (by decide))).trans ?_;refine(nV (ρ':=wR T M dk ["kept_things", "kept_marks", "kept_dark"] [TD T,MD M,.lst (dk.map D.str)] .un) (yH (T:=T) (M:=M) (dk:=dk) (ns:=["kept_things", "kept_marks"]) (ds:=[TD T,MD M]) (d:=.lst (dk.map D.str)) (q:=.un) rfl rfl rfl (by decide))).trans ?_;refine(nV (ρ':=wR T M dk ["kept_things", "kept_marks", "kept_dark", "kept_ways"] [TD T,MD M,.lst (dk.map D.str),.lst []] .un) (yH (T:=T) (M:=M) (dk:=dk) (ns:=["kept_things", "kept_marks", "kept_dark"]) (ds:=[TD T,MD M,.lst (dk.map D.str)]) (d:=.lst []) (q:=.un) rfl rfl rfl (by decide))).trans ?_;refine(nV (ρ':=wR T M dk ["kept_things", "kept_marks", "kept_dark", "kept_ways", "kept_verbs"] [TD T,MD M,.lst (dk.map D.str),.lst [],.lst []] .un) (yH (T:=T) (M:=M) (dk:=dk) (ns:=["kept_things", "kept_marks", "kept_dark", "kept_ways"]) (ds:=[TD T,MD M,.lst (dk.map D.str),.lst []]) (d:=.lst []) (q:=.un) rfl rfl rfl (by decide))).trans ?_;refine(nV (ρ':=wR T M dk ["kept_things", "kept_marks", "kept_dark", "kept_ways", "kept_verbs", "shared_verbs"] [TD T,MD M,.lst (dk.map D.str),.lst [],.lst [],.lst oN] .un) (yH (T:=T) (M:=M) (dk:=dk) (ns:=["kept_things", "kept_marks", "kept_dark", "kept_ways", "kept_verbs"]) (ds:=[TD T,MD M,.lst (dk.map D.str),.lst [],.lst []]) (d:=.lst oN) (q:=.un) (px (nY (g:=qj) (ds:=[]) rfl Fb)) rfl rfl (by decide))).trans ?_;refine(nV (ρ':=wR T M dk ["kept_things", "kept_marks", "kept_dark", "kept_ways", "kept_verbs", "shared_verbs", "your_name"] [TD T,MD M,.lst (dk.map D.str),.lst [],.lst [],.lst oN,.str y] .un) (yH (T:=T) (M:=M) (dk:=dk) (ns:=["kept_things", "kept_marks", "kept_dark", "kept_ways", "kept_verbs", "shared_verbs"]) (ds:=[TD T,MD M,.lst (dk.map D.str),.lst [],.lst [],.lst oN]) (d:=.str y) (q:=.un) (Vg y (by omega) hy) rfl rfl (by decide))).trans ?_;refine(nV (ρ':=wR T M dk ["kept_things", "kept_marks", "kept_dark", "kept_ways", "kept_verbs", "shared_verbs", "your_name", "things_by_name"] [TD T,MD M,.lst (dk.map D.str),.lst [],.lst [],.lst oN,.str y,.dic (nK T) (T.map thD)] .un) (yH (T:=T) (M:=M) (dk:=dk) (ns:=["kept_things", "kept_marks", "kept_dark", "kept_ways", "kept_verbs", "shared_verbs", "your_name"]) (ds:=[TD T,MD M,.lst (dk.map D.str),.lst [],.lst [],.lst oN,.str y]) (d:=.dic (nK T) (T.map thD)) (q:=.un) (nY (ds:=[TD T]) rfl (GE T (by omega) g.ndT)) rfl rfl (by decide))).trans ?_;refine(nV (ρ':=wR T M dk ["kept_things", "kept_marks", "kept_dark", "kept_ways", "kept_verbs", "shared_verbs", "your_name", "things_by_name", "mosts_by_name"] [TD T,MD M,.lst (dk.map D.str),.lst [],.lst [],.lst oN,.str y,.dic (nK T) (T.map thD),mo] .un) (yH (T:=T) (M:=M) (dk:=dk) (ns:=["kept_things", "kept_marks", "kept_dark", "kept_ways", "kept_verbs", "shared_verbs", "your_name", "things_by_name"]) (ds:=[TD T,MD M,.lst (dk.map D.str),.lst [],.lst [],.lst oN,.str y,.dic (nK T) (T.map thD)]) (d:=mo) (q:=.un) (nY (ds:=[TD T,MD M]) rfl emo) rfl rfl (by decide))).trans ?_;refine(nV (ρ':=wR T M dk ["kept_things", "kept_marks", "kept_dark", "kept_ways", "kept_verbs", "shared_verbs", "your_name", "things_by_name", "mosts_by_name", "verbs_by_word"] [TD T,MD M,.lst (dk.map D.str),.lst [],.lst [],.lst oN,.str y,.dic (nK T) (T.map thD),mo,vwD] .un) (yH (T:=T) (M:=M) (dk:=dk) (ns:=["kept_things", "kept_marks", "kept_dark", "kept_ways", "kept_verbs", "shared_verbs", "your_name", "things_by_name", "mosts_by_name"]) (ds:=[TD T,MD M,.lst (dk.map D.str),.lst [],.lst [],.lst oN,.str y,.dic (nK T) (T.map thD),mo]) (d:=vwD) (q:=.un) (OR ["your_name", "things_by_name", "mosts_by_name"] [.str y,.dic (nK T) (T.map thD),mo] .un rfl) rfl rfl (by decide))).trans ?_;refine(nV (ρ':=wR T M dk ["kept_things", "kept_marks", "kept_dark", "kept_ways", "kept_verbs", "shared_verbs", "your_name", "things_by_name", "mosts_by_name", "verbs_by_word"] [TD T,MD M,.lst (dk.map D.str),.lst [],.lst [],.lst oN,.str y,.dic (nK T) (T.map thD),mo,vwD] (.im (.bl true))) ((oG (i:=7) (L6 (d:=.bl true) (r:=wL T M dk ["kept_things", "kept_marks", "kept_dark", "kept_ways", "kept_verbs", "shared_verbs", "your_name", "things_by_name", "mosts_by_name", "verbs_by_word"] [TD T,MD M,.lst (dk.map D.str),.lst [],.lst [],.lst oN,.str y,.dic (nK T) (T.map thD),mo,vwD] .un) rfl rfl)).trans rfl)).trans ?_;refine(nV (qG (ρ1:=wR T M dk ["kept_things", "kept_marks", "kept_dark", "kept_ways", "kept_verbs", "shared_verbs", "your_name", "things_by_name", "mosts_by_name", "verbs_by_word"] [TD T,MD M,.lst (dk.map D.str),.lst [],.lst [],.lst oN,.str y,.dic (nK T) (T.map thD),mo,vwD] (.im (.bl true))) rfl)).trans ?_;refine(nV (ρ':=wR T M dk ["kept_things", "kept_marks", "kept_dark", "kept_ways", "kept_verbs", "shared_verbs", "your_name", "things_by_name", "mosts_by_name", "verbs_by_word", "kept_rules"] [TD T,MD M,.lst (dk.map D.str),.lst [],.lst [],.lst oN,.str y,.dic (nK T) (T.map thD),mo,vwD,.lst []] (.im (.bl true))) (yH (T:=T) (M:=M) (dk:=dk) (ns:=["kept_things", "kept_marks", "kept_dark", "kept_ways", "kept_verbs", "shared_verbs", "your_name", "things_by_name", "mosts_by_name", "verbs_by_word"]) (ds:=[TD T,MD M,.lst (dk.map D.str),.lst [],.lst [],.lst oN,.str y,.dic (nK T) (T.map thD),mo,vwD]) (d:=.lst []) (q:=(.im (.bl true))) rfl rfl rfl (by decide))).trans ?_;refine(nV (ρ':=wR T M dk ["kept_things", "kept_marks", "kept_dark", "kept_ways", "kept_verbs", "shared_verbs", "your_name", "things_by_name", "mosts_by_name", "verbs_by_word", "kept_rules", "shared_rules"] [TD T,MD M,.lst (dk.map D.str),.lst [],.lst [],.lst oN,.str y,.dic (nK T) (T.map thD),mo,vwD,.lst [],.lst (shD y)] (.im (.bl true))) (yH (T:=T) (M:=M) (dk:=dk) (ns:=["kept_things", "kept_marks", "kept_dark", "kept_ways", "kept_verbs", "shared_verbs", "your_name", "things_by_name", "mosts_by_name", "verbs_by_word", "kept_rules"]) (ds:=[TD T,MD M,.lst (dk.map D.str),.lst [],.lst [],.lst oN,.str y,.dic (nK T) (T.map thD),mo,vwD,.lst []]) (d:=.lst (shD y)) (q:=(.im (.bl true))) (L7 y ["things_by_name", "mosts_by_name", "verbs_by_word", "kept_rules"] [.dic (nK T) (T.map thD),mo,vwD,.lst []] (.im (.bl true))) rfl rfl (by decide))).trans ?_;refine(nV (ρ':=wR T M dk ["kept_things", "kept_marks", "kept_dark", "kept_ways", "kept_verbs", "shared_verbs", "your_name", "things_by_name", "mosts_by_name", "verbs_by_word", "kept_rules", "shared_rules", "copied_rules"] [TD T,MD M,.lst (dk.map D.str),.lst [],.lst [],.lst oN,.str y,.dic (nK T) (T.map thD),mo,vwD,.lst [],.lst (shD y),.lst []] (.im (.bl true))) (yH (T:=T) (M:=M) (dk:=dk) (ns:=["kept_things", "kept_marks", "kept_dark", "kept_ways", "kept_verbs", "shared_verbs", "your_name", "things_by_name", "mosts_by_name", "verbs_by_word", "kept_rules", "shared_rules"]) (ds:=[TD T,MD M,.lst (dk.map D.str),.lst [],.lst [],.lst oN,.str y,.dic (nK T) (T.map thD),mo,vwD,.lst [],.lst (shD y)]) (d:=.lst []) (q:=(.im (.bl true))) rfl rfl rfl (by decide))).trans ?_;exact yH (T:=T) (M:=M) (dk:=dk) (ns:=["kept_things", "kept_marks", "kept_dark", "kept_ways", "kept_verbs", "shared_verbs", "your_name", "things_by_name", "mosts_by_name", "verbs_by_word", "kept_rules", "shared_rules", "copied_rules"]) (ds:=[TD T,MD M,.lst (dk.map D.str),.lst [],.lst [],.lst oN,.str y,.dic (nK T) (T.map thD),mo,vwD,.lst [],.lst (shD y),.lst []]) (d:=rbD y) (q:=(.im (.bl true))) (VI y _ _ _ _ (.im (.bl true))) rfl rfl (by decide)
 unfold rQ fnI;rw[ai (show [TD T,MD M,D.lst (dk.map D.str),D.lst [],D.lst [],D.lst []].length=6 from rfl)];rw[show rP (stI 14 8 [TD T,MD M,.lst (dk.map D.str),.lst [],.lst [],.lst []])=some (.nx (wR T M dk wNs (wDs T M dk y mo) (.im (.bl true)))) from e];rfl
end
def IL(ds:List L4.D):Prop:=∃xs:List Int,ds=xs.map D.int
theorem IL.nil:IL []:=⟨[],rfl⟩
theorem IL.snoc{ds:List L4.D}(h:IL ds)(i:Int):IL (ds++[.int i]):=by obtain⟨xs,rfl⟩:=h;exact⟨xs++[i],by rw[aR];rfl⟩
variable{es:List L4.D}
theorem IL.sub(h:IL ds)(hs:∀d∈es,d∈ds):IL es:=by
 induction es with
 |nil=>exact IL.nil
 |cons d es ih=>obtain⟨ys,rfl⟩:=ih λd hd=>hs d (ba _ hd);obtain⟨xs,rfl⟩:=h;obtain⟨i,_,rfl⟩:=aL.mp (hs d aS);exact⟨i::ys,rfl⟩
theorem OS{lo hi:Option Int}:∀d∈cutD ds lo hi,d∈ds:=λd hd=>by unfold cutD at hd;exact lY (lZ hd)
def HL:FS:=(n9 (oV (v5 2 (c2 rG aB (c2 ya dS cN))))
 (oT 3 (c2 w6 aB (c2 ya dS cN))))
def L9:FT:=w9 (tY (cT (c2 KE aB aX)) (cT (c2 yR (c1 pP aw) ak)))
theorem zT(c:Int)(m:Nat)(hm:m<=110):∀(n:Nat) (ds:List L4.D) (r:Int),IL ds->ds.length<=m->m - ds.length<n->∃ds' r',IL ds'/\ds'.length<=m/\
  whL L9 HL n [.im (.int c),.im (.int m),.ls ds,.im (.int r),.un,.un,.un]=some (.nx [.im (.int c),.im (.int m),.ls ds',.im (.int r'),.un,.un,.un])
 |0,ds,r,_,_,h=>aq h (mW _)
 |n+1,ds,r,hi,hl,hn=>by
  have ht:L9 [.im (.int c),.im (.int m),.ls ds,.im (.int r),.un,.un,.un]=some (decide (0<r)&&decide (ds.length<m),[.im (.int c),.im (.int m),.ls ds,.im (.int r),.un,.un,.un]):=by
   refine Dy (ρ1:=[.im (.int c),.im (.int m),.im (.lst ds),.im (.int r),.un,.un,.un]) ?_;show tY _ _ [.im (.int c),.im (.int m),.im (.lst ds),.im (.int r),.un,.un,.un]=_;unfold tY;rw[show cT (c2 KE aB aX) [.im (.int c),.im (.int m),.im (.lst ds),.im (.int r),.un,.un,.un]=some (decide (0<r),[.im (.int c),.im (.int m),.im (.lst ds),.im (.int r),.un,.un,.un]) from rfl];cases decide (0<r)with
   |false=>rfl
   |true=>show cT (c2 yR (c1 pP aw) ak) _=some (decide (ds.length<m),_);rw[show cT (c2 yR (c1 pP aw) ak) [.im (.int c),.im (.int m),.im (.lst ds),.im (.int r),.un,.un,.un]=some (decide ((ds.length:Int)<m),[.im (.int c),.im (.int m),.im (.lst ds),.im (.int r),.un,.un,.un]) from rfl];simp only[Int.ofNat_lt]
  unfold whL;rw[ht];cases hq:(decide (0<r)&&decide (ds.length<m))with
  |false=>exact⟨ds,r,hi,hl,rfl⟩
  |true=>
   rw[bo,bR,bR]at hq;have e1:HL [.im (.int c),.im (.int m),.ls ds,.im (.int r),.un,.un,.un]=some (.nx [.im (.int c),.im (.int m),.ls (ds++[.int (r % 1000000)]),.im (.int (r / 1000000)),.un,.un,.un]):=by unfold HL;refine(nV (ρ':=[.im (.int c),.im (.int m),.ls (ds++[.int (r % 1000000)]),.im (.int r),.un,.un,.un]) ((pW (yU (es0:=ds) (es:=ds) (ρ1:=[.im (.int c),.im (.int m),.ls ds,.im (.int r),.un,.un,.un]) rfl (om rfl rfl (t8 (by decide))) rfl (by omega))).trans rfl)).trans ?_;exact(oG (om rfl rfl (div_pos (by decide) (by decide)))).trans rfl
   simp only[e1];exact zT c m hm n _ _ (hi.snoc _) (by rw[ay,aZ];omega) (by rw[ay,aZ];omega)
def fBody:FS:=(n9 (oT 4 (c2 rG (c2 sH (c2 o9 (c2 o9 aN (c2 sH (cC (.int 7919)) aY)) aJ) jh) dQ))
 (n9 (oT 6 (c2 rG (c2 sH aN (c2 o9 (c2 w6 aN (cC (.int 1009))) (cC (.int 69621)))) dQ))
 (oV (v5 2 (c2 rG (c2 sH bh (c2 o9 (c2 w6 bh (cC (.int 2003))) (cC (.int 40692)))) (cC (.int 2147483399)))))))
theorem modS(a:Int):0<=a % 2147483647/\a % 2147483647<2147483647:=⟨mX _ (by decide),mq _ (by decide)⟩
theorem CU(a b r:Sl):∀(l:List Int) (ds:List L4.D) (x:Int) (s5 s6:Sl),IL ds->ds.length+l.length<=900->∃ds' x' t5 t6,IL ds'/\
  forL (gN 5) fBody (l.map D.int) [a,b,.ls ds,r,.im (.int x),s5,s6]=some (.nx [a,b,.ls ds',r,.im (.int x'),t5,t6])
 |[],ds,x,s5,s6,hi,_=>⟨ds,x,s5,s6,hi,rfl⟩
 |k::l,ds,x,s5,s6,hi,hl=>by
  rw[aF]at hl;let y:=(x+7919 * k+1) * 48271 % 2147483647;let z:=y * (y / 1009+69621) % 2147483647;let v:=z * (z / 2003+40692) % 2147483399;have hy:=modS ((x+7919 * k+1) * 48271);have hz:=modS (y * (y / 1009+69621));have e1:fBody [a,b,.ls ds,r,.im (.int x),.im (.int k),s6]=some (.nx [a,b,.ls (ds++[.int v]),r,.im (.int y),.im (.int k),.im (.int z)]):=by unfold fBody;refine(nV (ρ':=[a,b,.ls ds,r,.im (.int y),.im (.int k),s6]) ((oG (om (om (om (om rfl (om rfl rfl (sZ (.inl (by decide)))) rfl) rfl rfl) rfl (sZ (.inr (by decide)))) rfl (t8 (by decide)))).trans rfl)).trans ?_;refine(nV (ρ':=[a,b,.ls ds,r,.im (.int y),.im (.int k),.im (.int z)]) ((oG (om (om rfl (om (om rfl rfl (div_pos (by decide) (by decide))) rfl rfl) (sZ (.inl (EF hy.1 hy.2)))) rfl (t8 (by decide)))).trans rfl)).trans ?_;exact(pW (yU (es0:=ds) (es:=ds) (ρ1:=[a,b,.ls ds,r,.im (.int y),.im (.int k),.im (.int z)]) rfl (om (om rfl (om (om rfl rfl (div_pos (by decide) (by decide))) rfl rfl) (sZ (.inl (EF hz.1 hz.2)))) rfl (t8 (by decide))) rfl (by omega))).trans rfl
  obtain⟨ds',x',t5,t6,h1,h2⟩:=CU a b r l (ds++[.int v]) y (.im (.int k)) (.im (.int z)) (hi.snoc _) (by rw[ay,aZ];omega);refine⟨ds',x',t5,t6,h1,?_⟩;rw[ar];unfold forL;rw[show gN 5 (.int k) [a,b,.ls ds,r,.im (.int x),s5,s6]=some [a,b,.ls ds,r,.im (.int x),.im (.int k),s6] from rfl];simp only[e1];exact h2
theorem Bx(c:Int)(m:Nat)(hm:m<=110):∃ds,IL ds/\qZ [.int c,.int m]=some ds:=by
 have fin:∀r0:Int,∃ds,IL ds/\∃ρ,n9 (whL L9 HL 200) (n9 (oT 4 (c2 rG (c2 sH (c2 o9 (c2 rG af dQ) aJ) jh) dQ)) (n9 (sd (iR1 ak) (gN 5) fBody) (qI (vU (cFz 2) oNo (oAt ak))))) [.im (.int c),.im (.int m),.ls [],.im (.int r0),.un,.un,.un]=some (.rn ds ρ):=λr0=>by obtain⟨ds,r,h1,h2,h3⟩:=zT c m hm 200 [] r0 IL.nil (bW _) (by simp;omega);let x:=(c % 2147483647+1) * 48271 % 2147483647;obtain⟨ds',x',t5,t6,h4,h5⟩:=CU (.im (.int c)) (.im (.int m)) (.im (.int r)) ((bg m).map λ(i:Nat)=>(0:Int)+(i:Int)) ds x .un .un h1 (by rw[ah,dw];omega);refine⟨cutD ds' none (some m),h4.sub OS,[.im (.int c),.im (.int m),.im (.lst ds'),.im (.int r),.im (.int x'),t5,t6],?_⟩;refine(nV h3).trans ?_;refine(nV (ρ':=[.im (.int c),.im (.int m),.ls ds,.im (.int r),.im (.int x),.un,.un]) ((oG (om (om (om (om rfl rfl (t8 (by decide))) rfl rfl) rfl (sZ (.inr (by decide)))) rfl (t8 (by decide)))).trans rfl)).trans ?_;refine(nV ((p5 (ds:=((bg m).map λ(i:Nat)=>(0:Int)+(i:Int)).map D.int) (ρ1:=[.im (.int c),.im (.int m),.ls ds,.im (.int r),.im (.int x),.un,.un]) ?_).trans h5)).trans rfl;unfold iR1;show (if -1000000<=(m:Int)/\(m:Int)<=1000000 then some (xZ 0 (m:Int).toNat,_)else none)=_;rw[ai (by omega),dY];unfold xZ;rw[aK];rfl
 by_cases hc:(1000000000000000000:Int)<=c
 ·obtain⟨ds,h1,ρ,h2⟩:=fin (c - 1000000000000000000);refine⟨ds,h1,yV (ρ:=ρ) rfl ?_⟩;refine(nV (ρ':=[.im (.int c),.im (.int m),.ls [],.un,.un,.un,.un]) rfl).trans ((nV (ρ':=[.im (.int c),.im (.int m),.ls [],.im (.int 0),.un,.un,.un]) rfl).trans ((nV (ρ':=[.im (.int c),.im (.int m),.ls [],.im (.int (c - 1000000000000000000)),.un,.un,.un]) ((ph (ρ':=[.im (.int c),.im (.int m),.ls [],.im (.int 0),.un,.un,.un]) ?_).trans rfl)).trans h2));refine pL (om (y:=.int 1000000000000000000) rfl rfl ?_);show some (D.bl (decide _))=_;rw[aV hc]
 ·obtain⟨ds,h1,ρ,h2⟩:=fin 0;refine⟨ds,h1,yV (ρ:=ρ) rfl ?_⟩;refine(nV (ρ':=[.im (.int c),.im (.int m),.ls [],.un,.un,.un,.un]) rfl).trans ((nV (ρ':=[.im (.int c),.im (.int m),.ls [],.im (.int 0),.un,.un,.un]) rfl).trans ((nV (ρ':=[.im (.int c),.im (.int m),.ls [],.im (.int 0),.un,.un,.un]) ((oZ (ρ':=[.im (.int c),.im (.int m),.ls [],.im (.int 0),.un,.un,.un]) ?_).trans rfl)).trans h2));refine pL (om (y:=.int 1000000000000000000) rfl rfl ?_);show some (D.bl (decide _))=_;rw[aO hc]
theorem CV:∀xs:List Int,yS (xs.map D.int)=some (xs.map L3.Dq.int)
 |[]=>rfl
 |x::xs=>by rw[ar];unfold yS;rw[CV xs];rfl
theorem Fc(x:Int)(xs:List Int):dEq false (.lst ((x::xs).map D.int)) (.lst [])=some (.bl false):=by
 have e0:BP false (.lst ((x::xs).map D.int)) (.lst [])=none:=rfl;have e1:toD (.lst ((x::xs).map D.int))=some (.lst ((x::xs).map L3.Dq.int)):=by unfold toD;rw[CV]
 have e2:∀ys:List Int,qk (ys.map L3.Dq.int)=0:=λys=>by
  induction ys with
  |nil=>rfl
  |cons y ys ih=>rw[ar];unfold qk;rw[ih];unfold dpt;rfl
 have e3:dpt (.lst ((x::xs).map L3.Dq.int))=1:=by rw[dpt,e2]
 unfold dEq;rw[e0];show EB false _ _=_;unfold EB;rw[e1,show toD (.lst [])=some (.lst []) from rfl];show (if G3 (.lst ((x::xs).map L3.Dq.int)) (.lst [])&&decide (dpt (.lst ((x::xs).map L3.Dq.int))<=20)&&decide (dpt (.lst [])<=20)then some (D.bl (eqD (.lst ((x::xs).map L3.Dq.int)) (.lst [])))else none)=_;rw[e3];rfl
theorem qd(h:IL es)(n:Int)(hn:0<n):∃r es',IL es'/\0<=r/\r<n/\nW es [.int n]=some (.int r,es'):=by
 obtain⟨xs,rfl⟩:=h;cases xs with
 |nil=>exact⟨0,[],IL.nil,Int.le_refl _,hn,rfl⟩
 |cons x xs=>refine⟨x % n,xs.map D.int,⟨xs,rfl⟩,mX _ (by omega),mq _ hn,?_⟩;refine Q7 (ρ:=[.pm (xs.map D.int),.im (.int n)]) rfl ?_ rfl;refine(nV (ρ':=[.pm ((x::xs).map D.int),.im (.int n)]) ((oZ (ρ':=[.pm ((x::xs).map D.int),.im (.int n)]) (Dy (ρ1:=[.im (.lst ((x::xs).map D.int)),.im (.int n)]) (pL (om (x:=.lst ((x::xs).map D.int)) (y:=.lst []) rfl rfl (Fc x xs))))).trans rfl)).trans ?_;exact oM (om (x:=.int x) (ρ1:=[.pm (xs.map D.int),.im (.int n)]) rfl rfl (t8 hn))
def lets:Str:="bcdefghijklmnopqrstuvwxyz"
theorem Tw(i:Nat)(h:i<25):dIx (.str lets) (.int i)=some (.str ⟨#[98+i]⟩):=by
 have q:((bg 25).all λi=>match dIx (.str lets) (.int i)with|some (.str x)=>decide (x=⟨#[98+i]⟩)|_=>false)=true:=by kernel_rfl
 have:=bB.mp q i (cm.mpr h);revert this;split
 ·rename_i x e;intro z;rw[e,bA z]
 ·intro z;cases z
abbrev eQ:=(nU (cC (.int 8)) ox)
def Vk:FE:=(c2 EH (c2 dIx ak (c2 rG (c2 o9 aB (c2 sH gR af)) ji)) (c2 o9 aJ (pd nW 2 eQ)))
theorem OT(h:IL es)(s k:Nat):∃c es',c<8/\IL es'/\Vk [.im (.int k),.im (.str lets),.pm es,.im (.int s)]=some (.str (nmS ((s+7 * k) % 25) c),[.im (.int k),.im (.str lets),.pm es',.im (.int s)]):=by
 obtain⟨r,es',h1,h2,h3,h4⟩:=qd h 8 (by decide);obtain⟨c,rfl⟩:=cq h2;refine⟨c,es',by omega,h1,?_⟩;have hm:(s+7 * k) % 25<25:=Nat.mod_lt _ (by decide);let ρ:aU:=[.im (.int k),.im (.str lets),.pm es,.im (.int s)];let ρ':aU:=[.im (.int k),.im (.str lets),.pm es',.im (.int s)];have e1:c2 dIx ak (c2 rG (c2 o9 aB (c2 sH gR af)) ji) ρ=some (.str ⟨#[98+(s+7 * k) % 25]⟩,ρ):=by
  refine om (y:=.int (((s+7 * k) % 25:Nat):Int)) rfl (om (om rfl (om rfl rfl (sZ (.inl (by decide)))) rfl) rfl ((t8 (by decide)).trans ?_)) (Tw _ hm);have:((s:Int)+7 * k) % 25=(((s+7 * k) % 25:Nat):Int):=by omega
  rw[this]
 have e2:c2 o9 aJ (pd nW 2 eQ) ρ=some (.int (1+(c:Int)),ρ'):=om rfl ((qR (es0:=es) (es:=es) (ρ1:=ρ) rfl rfl rfl h4).trans rfl) rfl;refine om e1 e2 ?_;show (if 0<=1+(c:Int)/\1+(c:Int)<=1000/\Str.length ⟨#[98+(s+7 * k) % 25]⟩<=100 then some (D.str (gE ⟨#[98+(s+7 * k) % 25]⟩ (1+(c:Int))))else none)=_;rw[ai ⟨by omega,by omega,by show 1<=100;decide⟩];rfl
theorem Fd(s:Nat):∀(l:List Nat) (es:List L4.D),IL es->∃cs es',cs.length=l.length/\(∀c∈cs,c<8)/\IL es'/\
  rW 1 [2,0,1] (gN 0) pF Vk (l.map λ(k:Nat)=>D.int k) [.pm es,.im (.int s),.im (.str lets)]=some (cR (λ(k c:Nat)=>D.str (nmS ((s+7 * k) % 25) c)) l cs,[.pm es',.im (.int s),.im (.str lets)])
 |[],es,h=>⟨[],es,rfl,λc hc=>(bu hc).elim,h,rfl⟩
 |k::l,es,h=>by
  obtain⟨c,es1,h1,h2,h3⟩:=OT h s k;obtain⟨cs,es',h4,h5,h6,h7⟩:=Fd s l es1 h2;refine⟨c::cs,es',by rw[aF,aF,h4],λx hx=>?_,h6,?_⟩
  ·rcases aP.mp hx with rfl|hx
   ·exact h1
   ·exact h5 x hx
  ·rw[ar];unfold rW;rw[show gN 0 (.int k) (xw 1 [2,0,1] [.pm es,.im (.int s),.im (.str lets)])=some [.im (.int k),.im (.str lets),.pm es,.im (.int s)] from rfl];simp only[pF,h3];rw[show rf [2,0,1] (([.im (.int k),.im (.str lets),.pm es1,.im (.int s)]:aU).drop 1) [.pm es,.im (.int s),.im (.str lets)]=some [.pm es1,.im (.int s),.im (.str lets)] from rfl];simp only[h7];rfl
theorem Ma(s:Nat)(hs:s<25):∀(l cs:List Nat),cs.length=l.length->(∀c∈cs,c<8)->(l.map λk=>(s+7 * k) % 25).Nodup->∃N:aG,N.length=l.length/\(∀x∈N,Nm x)/\N.Nodup/\(∀x∈N,∃k∈l,sg x=98+(s+7 * k) % 25)/\cR (λ(k c:Nat)=>D.str (nmS ((s+7 * k) % 25) c)) l cs=N.map D.str
 |[],[],_,_,_=>⟨[],rfl,λx h=>(bu h).elim,fw,λx h=>(bu h).elim,rfl⟩
 |[],c::cs,h,_,_=>by cases h
 |k::l,[],h,_,_=>by cases h
 |k::l,c::cs,h,hc,nd=>by
  rw[ar,bV]at nd;obtain⟨N,h1,h2,h3,h4,h5⟩:=Ma s hs l cs (by simpa using h) (λx hx=>hc x (ba _ hx)) nd.2;have hm:(s+7 * k) % 25<25:=Nat.mod_lt _ (by decide);have hsg:=Ve hm (hc c aS);refine⟨nmS ((s+7 * k) % 25) c::N,by rw[aF,aF,h1],λx hx=>?_,?_,λx hx=>?_,?_⟩
  ·rcases aP.mp hx with rfl|hx
   ·exact⟨_,_,hm,hc c aS,rfl⟩
   ·exact h2 x hx
  ·rw[bV];refine⟨λz=>?_,h3⟩;obtain⟨j,hj,e⟩:=h4 _ z;rw[hsg]at e;exact nd.1 (aL.mpr ⟨j,hj,by omega⟩)
  ·rcases aP.mp hx with rfl|hx
   ·exact⟨k,aS,hsg⟩
   ·obtain⟨j,hj,e⟩:=h4 x hx;exact⟨j,ba _ hj,e⟩
  ·rw[du,h5];rfl
structure Nms(N:aG):Prop where
 len:N.length=17
 nm:∀x∈N,Nm x
 nd:N.Nodup
theorem Mb(h:IL es):∃N es',Nms N/\IL es'/\vB es []=some (.lst (N.map D.str),es'):=by
 obtain⟨r,es1,h1,h2,h3,h4⟩:=qd h 25 (by decide);obtain⟨s,rfl⟩:=cq h2;have hs:s<25:=by omega
 obtain⟨cs,es2,h5,h6,h7,h8⟩:=Fd s (bg 17) es1 h1;have nd:((bg 17).map λk=>(s+7 * k) % 25).Nodup:=by
  have q:((bg 25).all λs=>decide ((bg 17).map λk=>(s+7 * k) % 25).Nodup)=true:=by decide +kernel
  exact bA (bB.mp q s (cm.mpr hs))
 obtain⟨N,n1,n2,n3,_,n5⟩:=Ma s hs (bg 17) cs h5 h6 nd;refine⟨N,es2,⟨by rw[n1,dw],n2,n3⟩,h7,Q8 (ρ:=[.pm es2,.im (.int s),.im (.str lets)]) rfl ?_ rfl⟩;unfold vA;refine(nV (ρ':=[.pm es1,.im (.int s),.un]) ((oG (qR (es0:=es) (es:=es) (ρ1:=[.pm es,.un,.un]) rfl rfl rfl h4)).trans rfl)).trans ?_;refine(nV (ρ':=[.pm es1,.im (.int s),.im (.str lets)]) rfl).trans ?_;refine tZ ((vd (ds:=(bg 17).map λ(k:Nat)=>D.int k) (ρ1:=[.pm es1,.im (.int s),.im (.str lets)]) ?_ (by simp)).trans (by rw[<-n5];exact h8));unfold iR1;show (if _ then some (xZ 0 17,_)else none)=_;rw[ai (by decide)];unfold xZ;simp only[Int.zero_add]
structure Rw where
 n:Str
 k:Kd
 s:Option Str
def oE(r:Rw):L4.D:=.tup [.str r.n,.str r.k.s,oS r.s]
def DX(l:List Rw)(r:Rw):Prop:=(r.k=.room/\r.s=none)\/(r.k=.you/\∃u∈l,r.s=some u.n/\u.k=.room)\/(r.k.pl=true/\∃u∈l,r.s=some u.n/\u.k.hd=true)
inductive Ord:List Rw->Prop
 |nil:Ord []
 |snoc {l:List Rw} {r:Rw} (h:Ord l) (h':DX l r):Ord (l++[r])
theorem DX.mono{l l':List Rw}{r:Rw}(h:DX l r)(hs:∀u∈l,u∈l'):DX l' r:=by
 rcases h with h|⟨h1,u,h2,h3⟩|⟨h1,u,h2,h3⟩
 ·exact .inl h
 ·exact .inr (.inl ⟨h1,u,hs u h2,h3⟩)
 ·exact .inr (.inr ⟨h1,u,hs u h2,h3⟩)
theorem Ord.all{l:List Rw}(h:Ord l):∀r∈l,DX l r:=by
 induction h with
 |nil=>exact λr hr=>(bu hr).elim
 |snoc h h' ih=>
  intro r hr;rcases bb.mp hr with hr|hr
  ·exact(ih r hr).mono λu hu=>bE _ hu
  ·rw[aW]at hr;subst hr;exact h'.mono λu hu=>bE _ hu
theorem DX.start{l:List Rw}{r:Rw}(h:DX l r){p:Str}(hp:r.s=some p):∃u∈l,u.n=p:=by
 rcases h with ⟨_,h⟩|⟨_,u,h2,h3,_⟩|⟨_,u,h2,h3,_⟩
 ·rw[h]at hp;cases hp
 ·rw[h3]at hp;cases hp;exact⟨u,h2,rfl⟩
 ·rw[h3]at hp;cases hp;exact⟨u,h2,rfl⟩
theorem Ord.rank{l:List Rw}(h:Ord l):(l.map Rw.n).Nodup->∃rk:Str->Nat,∀t∈l,rk t.n<l.length/\∀p,t.s=some p->rk p<rk t.n/\∃u∈l,u.n=p:=by
 induction h with
 |nil=>exact λ_=>⟨λ_=>0,λt ht=>(bu ht).elim⟩
 |@snoc l r h h' ih=>
  intro nd;rw[aR,bO]at nd;obtain⟨rk,hk⟩:=ih nd.1;have ne:∀u∈l,u.n≠r.n:=λu hu z=>nd.2.2 _ (cg hu) _ (by simp) z;refine⟨λx=>if x=r.n then l.length else rk x,λt ht=>?_⟩;rw[ay,aZ];dsimp only;rcases bb.mp ht with ht|ht
  ·obtain⟨h1,h2⟩:=hk t ht;rw[aj (ne t ht)];refine⟨by omega,λp hp=>?_⟩;obtain⟨h3,u,hu,rfl⟩:=h2 p hp;rw[aj (ne u hu)];exact⟨h3,u,bE _ hu,rfl⟩
  ·rw[aW]at ht;subst ht;rw[ai rfl];refine⟨by omega,λp hp=>?_⟩;obtain⟨u,hu,rfl⟩:=h'.start hp;rw[aj (ne u hu)];exact⟨(hk u hu).1,u,bE _ hu,rfl⟩
variable{j:Nat}
theorem uZ{l:aG}{x:Str}(h:l[j]?=some x):atI (l.map D.str) (j:Int)=some (.str x):=xT (by rw[bt,h];rfl)
def kT:List Kd:=[.plain,.box,.lamp,.fixed,.box,.lamp,.box,.plain]
theorem Vl(j:Nat)(h:j<8):∃k,k∈kT/\dIx (.lst [.str "plain", .str "box", .str "lamp", .str "fixed", .str "box", .str "lamp", .str "box", .str "plain"]) (.int j)=some (.str (Kd.s k)):=by
 match j,h with
 |0,_=>exact⟨.plain,by decide,rfl⟩
 |1,_=>exact⟨.box,by decide,rfl⟩
 |2,_=>exact⟨.lamp,by decide,rfl⟩
 |3,_=>exact⟨.fixed,by decide,rfl⟩
 |4,_=>exact⟨.box,by decide,rfl⟩
 |5,_=>exact⟨.lamp,by decide,rfl⟩
 |6,_=>exact⟨.box,by decide,rfl⟩
 |7,_=>exact⟨.plain,by decide,rfl⟩
abbrev gQ:=(cC (.str "box"))
abbrev jj:=(nU (xA (c1 pP aN)) ox)
def Mc:FS:=(n9 (oT 6 (c2 dIx (cL (oU (nU (cC (.str "plain")) (nU gQ (nU (cC (.str "lamp")) (nU (cC (.str "fixed")) (nU gQ (nU (cC (.str "lamp")) (nU gQ (nU (cC (.str "plain")) ox)))))))))) (pd nW 2 eQ)))
 (n9 (oV (v5 3 (pG (nU aY (nU bh (nU (zY 4 (pd nW 2 jj)) ox))))))
 (sIf (cT (c2 (dEq false) bh gQ)) (oV (v5 4 aY)) o5)))
variable{Hs:aG}
theorem GH(h:IL es)(h0:Hs≠[])(hi:pZ ρ i=some es)(hj:pZ ρ j=some (Hs.map D.str))(hb:cV j (ρ.map Sl.bor)=some (.lst (Hs.map D.str),ρ.map Sl.bor))(hne:∀es',pZ (putAt ρ i es') j=some (Hs.map D.str)):
  ∃x es',x∈Hs/\IL es'/\zY j (pd nW i (nU (xA (c1 pP (cV j))) ox)) ρ=some (.str x,putAt ρ i es'):=by
 have hp:0<Hs.length:=l7.mpr h0;obtain⟨r,es',h1,h2,h3,h4⟩:=qd h Hs.length (by omega);obtain⟨m,rfl⟩:=cq h2;have hm:m<Hs.length:=by omega
 refine⟨Hs[m],es',cj hm,h1,?_⟩;have e1:xA (c1 pP (cV j)) ρ=some (.int Hs.length,ρ):=KY (oX hb (by show some (D.int _)=_;rw[ah])) rfl;have e2:pd nW i (nU (xA (c1 pP (cV j))) ox) ρ=some (.int m,putAt ρ i es'):=qR hi (nX e1 rfl) hi h4;unfold zY;rw[hj];simp only[e2,hne es'];rw[show atI (Hs.map D.str) (m:Int)=some (.str Hs[m]) from uZ (aI hm)]
theorem zU(a b:Sl)(B:List Rw):∀(l:aG) (es:List L4.D) (O:List Rw) (Hs:aG) (s5 s6:Sl),IL es->Hs≠[]->(∀x∈Hs,∃u∈B++O,u.n=x/\u.k.hd=true)->Ord (B++O)->O.length+l.length<=900->Hs.length+l.length<=900->
  ∃(es':List L4.D) (O':List Rw) (Hs':aG) (t5 t6:Sl),IL es'/\Ord (B++(O++O'))/\O'.map Rw.n=l/\(∀r∈O',r.k.pl=true)/\
   forL (gN 5) Mc (l.map D.str) [a,b,.pm es,.ls (O.map oE),.ls (Hs.map D.str),s5,s6]=some (.nx [a,b,.pm es',.ls ((O++O').map oE),.ls (Hs'.map D.str),t5,t6])
 |[],es,O,Hs,s5,s6,hi,_,_,ho,_,_=>⟨es,[],Hs,s5,s6,hi,by rw[bz];exact ho,rfl,λr hr=>(bu hr).elim,by rw[bz];rfl⟩
 |x::l,es,O,Hs,s5,s6,hi,h0,hH,ho,hl,hl'=>by
  rw[aF]at hl hl';obtain⟨r,es1,h1,h2,h3,h4⟩:=qd hi 8 (by decide);obtain⟨j,rfl⟩:=cq h2;obtain⟨k,hk,ek⟩:=Vl j (by omega);let ρ1:aU:=[a,b,.pm es1,.ls (O.map oE),.ls (Hs.map D.str),.im (.str x),.im (.str k.s)];obtain⟨p,es2,hp,h5,e2⟩:=GH (ρ:=ρ1) (i:=2) (j:=4) h1 h0 rfl rfl rfl (λ_=>rfl);have hpl:k.pl=true:=by
   have:∀k∈kT,Kd.pl k=true:=by decide
   exact this k hk
  let rw0:Rw:=⟨x,k,some p⟩;obtain⟨u,hu,hun,huk⟩:=hH p hp;have ok:DX (B++O) rw0:=.inr (.inr ⟨hpl,u,hu,by rw[hun],huk⟩);let Hs1:aG:=if k=.box then Hs++[x]else Hs
  have e3:Mc [a,b,.pm es,.ls (O.map oE),.ls (Hs.map D.str),.im (.str x),s6]=some (.nx [a,b,.pm es2,.ls ((O++[rw0]).map oE),.ls (Hs1.map D.str),.im (.str x),.im (.str k.s)]):=by
   unfold Mc;refine(nV (ρ':=ρ1) ((oG (om (x:=.lst [.str "plain", .str "box", .str "lamp", .str "fixed", .str "box", .str "lamp", .str "box", .str "plain"]) (ρ1:=[a,b,.pm es,.ls (O.map oE),.ls (Hs.map D.str),.im (.str x),s6]) rfl (qR (es0:=es) (es:=es) (ρ1:=[a,b,.pm es,.ls (O.map oE),.ls (Hs.map D.str),.im (.str x),s6]) rfl rfl rfl h4) ek)).trans rfl)).trans ?_;let ρ2:aU:=[a,b,.pm es2,.ls (O.map oE),.ls (Hs.map D.str),.im (.str x),.im (.str k.s)];let ρ3:aU:=[a,b,.pm es2,.ls ((O++[rw0]).map oE),.ls (Hs.map D.str),.im (.str x),.im (.str k.s)];refine(nV (ρ':=ρ3) ((pW (yU (es0:=O.map oE) (es:=O.map oE) (ρ1:=ρ2) (d:=oE rw0) rfl (uq (nX rfl (nX rfl (nX e2 rfl))) (by show 3<=1000;decide)) rfl (by rw[ah];omega))).trans ?_)).trans ?_
   ·show some (Out.nx [a,b,.pm es2,.ls (O.map oE++[oE rw0]),.ls (Hs.map D.str),.im (.str x),.im (.str k.s)])=_;rw[show O.map oE++[oE rw0]=(O++[rw0]).map oE by rw[aR];rfl]
   ·have et:cT (c2 (dEq false) bh gQ) ρ3=some (decide (k=.box),ρ3):=pL (om rfl rfl (CS k .box));by_cases hb:k=.box
    ·rw[aV hb]at et;refine(ph et).trans ((pW (yU (es0:=Hs.map D.str) (es:=Hs.map D.str) (ρ1:=ρ3) (d:=.str x) rfl rfl rfl (by rw[ah];omega))).trans ?_);show some (Out.nx [a,b,.pm es2,.ls ((O++[rw0]).map oE),.ls (Hs.map D.str++[.str x]),.im (.str x),.im (.str k.s)])=_;rw[show Hs1.map D.str=Hs.map D.str++[.str x] by rw[show Hs1=Hs++[x] from ai hb,aR];rfl]
    ·rw[aO hb]at et;refine(oZ et).trans ?_;rw[show Hs1=Hs from aj hb];rfl
  have ho1:Ord (B++(O++[rw0])):=by rw[<-bw];exact ho.snoc ok
  have hH1:∀y∈Hs1,∃u∈B++(O++[rw0]),u.n=y/\u.k.hd=true:=λy hy=>by
   have old:y∈Hs->∃u∈B++(O++[rw0]),u.n=y/\u.k.hd=true:=λhy=>by obtain⟨v,hv,h⟩:=hH y hy;exact⟨v,by rw[<-bw];exact bE _ hv,h⟩
   by_cases hb:k=.box
   ·rw[show Hs1=Hs++[x] from ai hb]at hy;rcases bb.mp hy with hy|hy
    ·exact old hy
    ·rw[aW]at hy;refine⟨rw0,by simp,hy.symm,?_⟩;show k.hd=true;rw[hb];rfl
   ·rw[show Hs1=Hs from aj hb]at hy;exact old hy
  have h01:Hs1≠[]:=by
   by_cases hb:k=.box
   ·rw[show Hs1=Hs++[x] from ai hb];simp
   ·rw[show Hs1=Hs from aj hb];exact h0
  have hl1:Hs1.length<=Hs.length+1:=by
   by_cases hb:k=.box
   ·rw[show Hs1=Hs++[x] from ai hb];simp
   ·rw[show Hs1=Hs from aj hb];omega
  obtain⟨es',O',Hs',t5,t6,g1,g2,g3,g4,g5⟩:=zU a b B l es2 (O++[rw0]) Hs1 (.im (.str x)) (.im (.str k.s)) h5 h01 hH1 ho1 (by rw[ay,aZ];omega) (by omega);refine⟨es',rw0::O',Hs',t5,t6,g1,by rw[bw]at g2;exact g2,by rw[ar,g3],λr hr=>?_,?_⟩
  ·rcases aP.mp hr with rfl|hr
   ·exact hpl
   ·exact g4 r hr
  ·rw[ar];unfold forL;rw[show gN 5 (.str x) [a,b,.pm es,.ls (O.map oE),.ls (Hs.map D.str),s5,s6]=some [a,b,.pm es,.ls (O.map oE),.ls (Hs.map D.str),.im (.str x),s6] from rfl];simp only[e3];rw[g5,bw];rfl
theorem Md(k:Nat)(h:k<=ds.length):cutD ds none (some (k:Int))=ds.take k:=by unfold cutD;rw[HT.xR,HT.wH,eE h,m7,Nat.sub_zero]
theorem Tx(k:Nat)(h:k<=ds.length):cutD ds (some (k:Int)) none=ds.drop k:=by unfold cutD;rw[HT.xR,HT.wH,eE h,jr (by rw[bM];omega)]
theorem HM(k m:Nat)(h:k+m<=ds.length):cutD ds (some (k:Int)) (some ((k+m:Nat):Int))=(ds.drop k).take m:=by unfold cutD;rw[HT.wH,HT.wH,eE h,eE (show k<=ds.length by omega)];congr 1;omega
variable{N:aG}
theorem Jy{rooms:aG}(hN:Nms N)(B:List Rw)(h:IL es)(hB:Ord B)(hr:rooms.length<=100)(hH:∀x∈rooms++[N[5]'(by rw[hN.len];decide)],∃u∈B,u.n=x/\u.k.hd=true):
  ∃(q:Nat) (es':List L4.D) (O:List Rw),q<8/\IL es'/\Ord (B++O)/\O.map Rw.n=(N.drop 6).take q/\(∀r∈O,r.k.pl=true)/\qD es [.lst (N.map D.str),.lst (rooms.map D.str)]=some (.lst (O.map oE),es'):=by
 have h5:5<N.length:=by rw[hN.len];decide
 obtain⟨r,es1,h1,h2,h3,h4⟩:=qd h 8 (by decide);obtain⟨q,rfl⟩:=cq h2;let Hs:=rooms++[N[5]];obtain⟨es',O,Hs',t5,t6,g1,g2,g3,g4,g5⟩:=zU (.im (.lst (N.map D.str))) (.im (.lst (rooms.map D.str))) B ((N.drop 6).take q) es1 [] Hs .un .un h1 (by simp[Hs]) (λx hx=>by rw[bz];exact hH x hx) (by rw[bz];exact hB) (by rw[br,bM,hN.len];simp;omega) (by rw[br,bM,hN.len];simp[Hs];omega);rw[bI]at g2 g5;refine⟨q,es',O,by omega,g1,g2,g3,g4,?_⟩;have run:sy (stL 7 es [.lst (N.map D.str),.lst (rooms.map D.str)])=some (.rn (O.map oE) [.im (.lst (N.map D.str)),.im (.lst (rooms.map D.str)),.pm es',.un,.ls (Hs'.map D.str),t5,t6]):=by
  unfold sy;refine(nV (ρ':=[.im (.lst (N.map D.str)),.im (.lst (rooms.map D.str)),.pm es,.ls [],.un,.un,.un]) rfl).trans ?_;refine(nV (ρ':=[.im (.lst (N.map D.str)),.im (.lst (rooms.map D.str)),.pm es,.ls [],.ls (Hs.map D.str),.un,.un]) ((yc (rL (xs:=rooms.map D.str) (ys:=[.str N[5]]) rfl (px (DA (nX (om rfl rfl (uZ (j:=5) (aI h5))) rfl) (by show 1<=1000;decide))) (by rw[ah];simp;omega))).trans ?_)).trans ?_
  ·show some (Out.nx [_,_,_,_,.ls (rooms.map D.str++[.str N[5]]),_,_])=_;rw[show rooms.map D.str++[.str N[5]]=Hs.map D.str by simp[Hs]]
  ·refine(nV ((p5 (ds:=((N.drop 6).take q).map D.str) (ρ1:=[.im (.lst (N.map D.str)),.im (.lst (rooms.map D.str)),.pm es1,.ls [],.ls (Hs.map D.str),.un,.un]) ?_).trans g5)).trans rfl;have e:vU af (oAt cN) (oAt (c2 o9 cN (pd nW 2 eQ))) [.im (.lst (N.map D.str)),.im (.lst (rooms.map D.str)),.pm es,.ls [],.ls (Hs.map D.str),.un,.un]=some (((N.drop 6).take q).map D.str,[.im (.lst (N.map D.str)),.im (.lst (rooms.map D.str)),.pm es1,.ls [],.ls (Hs.map D.str),.un,.un]):=by
    have e1:c2 o9 cN (pd nW 2 eQ) [.im (.lst (N.map D.str)),.im (.lst (rooms.map D.str)),.pm es,.ls [],.ls (Hs.map D.str),.un,.un]=some (.int ((6+q:Nat):Int),[.im (.lst (N.map D.str)),.im (.lst (rooms.map D.str)),.pm es1,.ls [],.ls (Hs.map D.str),.un,.un]):=om rfl ((qR (es0:=es) (es:=es) (ρ1:=[.im (.lst (N.map D.str)),.im (.lst (rooms.map D.str)),.pm es,.ls [],.ls (Hs.map D.str),.un,.un]) rfl rfl rfl h4).trans rfl) (by show some (D.int (6+(q:Int)))=_;congr 2);have e2:oAt (c2 o9 cN (pd nW 2 eQ)) [.im (.lst (N.map D.str)),.im (.lst (rooms.map D.str)),.pm es,.ls [],.ls (Hs.map D.str),.un,.un]=some (some ((6+q:Nat):Int),[.im (.lst (N.map D.str)),.im (.lst (rooms.map D.str)),.pm es1,.ls [],.ls (Hs.map D.str),.un,.un]):=by unfold oAt;rw[e1]
    unfold vU;show (match oAt (c2 o9 cN (pd nW 2 eQ)) [.im (.lst (N.map D.str)),.im (.lst (rooms.map D.str)),.pm es,.ls [],.ls (Hs.map D.str),.un,.un]with
     |some (h,ρ3)=>some (cutD (N.map D.str) (some 6) h,ρ3)
     |none=>none)=_
    rw[e2];show some (cutD (N.map D.str) (some ((6:Nat):Int)) (some ((6+q:Nat):Int)),_)=_;rw[HM 6 q (by rw[ah,hN.len];omega),fC,fA]
   unfold iL;rw[px e]
 unfold qD fnL;rw[ai (show [D.lst (N.map D.str),D.lst (rooms.map D.str)].length=2 from rfl),run];rfl
def TB:FS:=(n9 (oT 7 (pd nW 1 (nU (c2 o9 (c1 pP aY) aJ) ox)))
 (oT 5 (cL (qF (cL (qF (cL (vU aY oNo (oAt bN))) (cL (oU (nU bh ox))))) (cL (vU aY (oAt bN) oNo))))))
theorem Fe{a b c d x8 x9 x10 x11 x12 x13:Sl}:∀(l:List Rw) (es:List L4.D) (R:List Rw) (s6 s7:Sl),IL es->R.length+l.length<=900->∃(es':List L4.D) (R':List Rw) (t6 t7:Sl),IL es'/\R'.Perm (R++l)/\
  forL (gN 6) TB (l.map oE) [a,.ls es,b,c,d,.im (.lst (R.map oE)),s6,s7,x8,x9,x10,x11,x12,x13]=some (.nx [a,.ls es',b,c,d,.im (.lst (R'.map oE)),t6,t7,x8,x9,x10,x11,x12,x13])
 |[],es,R,s6,s7,hi,_=>⟨es,R,s6,s7,hi,by rw[bz],rfl⟩
 |r::l,es,R,s6,s7,hi,hl=>by
  rw[aF]at hl;obtain⟨v,es1,h1,h2,h3,h4⟩:=qd hi ((R.map oE).length+1:Int) (by omega);obtain⟨k,rfl⟩:=cq h2;have hk:k<=(R.map oE).length:=by omega
  let R1:=R.take k++r::R.drop k;have p1:R1.Perm (R++[r]):=by have:=(List.perm_middle (a:=r) (l₁:=R.take k) (l₂:=R.drop k));rw[lT]at this;exact this.trans (List.perm_append_singleton r R).symm
  have hR1:R1.length=R.length+1:=p1.length_eq.trans (by simp);let ρ1:aU:=[a,.ls es1,b,c,d,.im (.lst (R.map oE)),.im (oE r),.im (.int k),x8,x9,x10,x11,x12,x13];have e1:TB [a,.ls es,b,c,d,.im (.lst (R.map oE)),.im (oE r),s7,x8,x9,x10,x11,x12,x13]=some (.nx [a,.ls es1,b,c,d,.im (.lst (R1.map oE)),.im (oE r),.im (.int k),x8,x9,x10,x11,x12,x13]):=by
   unfold TB;refine(nV (ρ':=ρ1) ((oG (i:=7) (qR (i:=1) (es0:=es) (es:=es) (ρ1:=[a,.ls es,b,c,d,.im (.lst (R.map oE)),.im (oE r),s7,x8,x9,x10,x11,x12,x13]) rfl (show nU (c2 o9 (c1 pP aY) aJ) ox _=some ([.int ((R.map oE).length+1)],_) from rfl) rfl h4)).trans rfl)).trans ?_;have c1:vU aY oNo (oAt bN) ρ1=some ((R.map oE).take k,ρ1):=by show some (cutD (R.map oE) none (some (k:Int)),ρ1)=_;rw[Md k hk]
   have c2:vU aY (oAt bN) oNo ρ1=some ((R.map oE).drop k,ρ1):=by show some (cutD (R.map oE) (some (k:Int)) none,ρ1)=_;rw[Tx k hk]
   refine(oG (px (rL (px (rL (px c1) (px (DA (ds:=[oE r]) rfl (by show 1<=1000;decide))) ?_)) (px c2) ?_))).trans ?_
   ·rw[br,ah];simp;omega
   ·rw[ay,br,bM,ah];simp;omega
   ·show some (Out.nx [a,.ls es1,b,c,d,.im (.lst ((R.map oE).take k++[oE r]++(R.map oE).drop k)),.im (oE r),.im (.int k),x8,x9,x10,x11,x12,x13])=_;rw[show (R.map oE).take k++[oE r]++(R.map oE).drop k=R1.map oE by simp[R1,fC,fA]]
  obtain⟨es',R',t6,t7,g1,g2,g3⟩:=Fe (a:=a) (b:=b) (c:=c) (d:=d) (x8:=x8) (x9:=x9) (x10:=x10) (x11:=x11) (x12:=x12) (x13:=x13) l es1 R1 (.im (oE r)) (.im (.int k)) h1 (by omega);refine⟨es',R',t6,t7,g1,g2.trans ((p1.append_right l).trans (by rw[bw];exact iH _)),?_⟩;rw[ar];unfold forL;rw[show gN 6 (oE r) [a,.ls es,b,c,d,.im (.lst (R.map oE)),s6,s7,x8,x9,x10,x11,x12,x13]=some [a,.ls es,b,c,d,.im (.lst (R.map oE)),.im (oE r),s7,x8,x9,x10,x11,x12,x13] from rfl];simp only[e1];exact g3
def mkT(m:Mk):L4.D:=.tup [.str m.n,.int m.st,.int m.mo]
abbrev kW:=(nU eU ox)
def mkB:FS:=(n9 (oT 10 (c2 o9 aJ (pd nW 1 kW)))
 (oV (v5 8 (pG (nU (cV 9) (nU (pd nW 1 (nU (c2 o9 (cV 10) aJ) ox)) (nU (cV 10) ox)))))))
theorem HN{a b c d x5 x6 x7 x11 x12 x13:Sl}:∀(l:aG) (es:List L4.D) (M:List Mk) (s9 s10:Sl),IL es->M.length+l.length<=900->∃(es':List L4.D) (M':List Mk) (t9 t10:Sl),IL es'/\M'.map Mk.n=l/\(∀m∈M',m.ok)/\
  forL (gN 9) mkB (l.map D.str) [a,.ls es,b,c,d,x5,x6,x7,.ls (M.map mkT),s9,s10,x11,x12,x13]=some (.nx [a,.ls es',b,c,d,x5,x6,x7,.ls ((M++M').map mkT),t9,t10,x11,x12,x13])
 |[],es,M,s9,s10,hi,_=>⟨es,[],s9,s10,hi,rfl,λm hm=>(bu hm).elim,by rw[bz];rfl⟩
 |x::l,es,M,s9,s10,hi,hl=>by
  rw[aF]at hl;obtain⟨v,es1,h1,h2,h3,h4⟩:=qd hi 3 (by decide);obtain⟨w,es2,h5,h6,h7,h8⟩:=qd h1 (1+v+1) (by omega);let m:Mk:=⟨x,w,1+v⟩;let ρ1:aU:=[a,.ls es1,b,c,d,x5,x6,x7,.ls (M.map mkT),.im (.str x),.im (.int (1+v)),x11,x12,x13];let ρ2:aU:=[a,.ls es2,b,c,d,x5,x6,x7,.ls (M.map mkT),.im (.str x),.im (.int (1+v)),x11,x12,x13];have e1:mkB [a,.ls es,b,c,d,x5,x6,x7,.ls (M.map mkT),.im (.str x),s10,x11,x12,x13]=some (.nx [a,.ls es2,b,c,d,x5,x6,x7,.ls ((M++[m]).map mkT),.im (.str x),.im (.int (1+v)),x11,x12,x13]):=by unfold mkB;refine(nV (ρ':=ρ1) ((oG (om rfl (qR (es0:=es) (es:=es) (ρ1:=[a,.ls es,b,c,d,x5,x6,x7,.ls (M.map mkT),.im (.str x),s10,x11,x12,x13]) rfl rfl rfl h4) rfl)).trans rfl)).trans ?_;refine(pW (yU (es0:=M.map mkT) (es:=M.map mkT) (ρ1:=ρ2) (d:=mkT m) rfl (uq (nX rfl (nX ((qR (es0:=es1) (es:=es1) (ρ1:=ρ1) rfl (nX (om rfl rfl rfl) rfl) rfl h8).trans rfl) rfl)) (by show 3<=1000;decide)) rfl (by rw[ah];omega))).trans ?_;show some (Out.nx [a,.ls es2,b,c,d,x5,x6,x7,.ls (M.map mkT++[mkT m]),.im (.str x),.im (.int (1+v)),x11,x12,x13])=_;rw[show M.map mkT++[mkT m]=(M++[m]).map mkT by rw[aR];rfl]
  obtain⟨es',M',t9,t10,g1,g2,g3,g4⟩:=HN (a:=a) (b:=b) (c:=c) (d:=d) (x5:=x5) (x6:=x6) (x7:=x7) (x11:=x11) (x12:=x12) (x13:=x13) l es2 (M++[m]) (.im (.str x)) (.im (.int (1+v))) h5 (by rw[ay,aZ];omega);refine⟨es',m::M',t9,t10,g1,by rw[ar,g2],λy hy=>?_,?_⟩
  ·rcases aP.mp hy with rfl|hy
   ·exact⟨by show 1<=1+v;omega,by show 1+v<=3;omega,h6,by show w<=1+v;omega⟩
   ·exact g3 y hy
  ·rw[ar];unfold forL;rw[show gN 9 (.str x) [a,.ls es,b,c,d,x5,x6,x7,.ls (M.map mkT),s9,s10,x11,x12,x13]=some [a,.ls es,b,c,d,x5,x6,x7,.ls (M.map mkT),.im (.str x),s10,x11,x12,x13] from rfl];simp only[e1];rw[g4,bw];rfl
abbrev kX:=(nU dR ox)
theorem CW{a b c d x5 x6 x7 x8 x9 x10 x11 x12 x13:Sl}:∀(l:aG) (es:List L4.D),IL es->∃(dk:aG) (es':List L4.D),dk.Sublist l/\IL es'/\
  rW 1 [1] (gN 0) (cT (c2 (dEq false) (pd nW 1 kX) aJ)) af (l.map D.str) [a,.ls es,b,c,d,x5,x6,x7,x8,x9,x10,x11,x12,x13]=some (dk.map D.str,[a,.ls es',b,c,d,x5,x6,x7,x8,x9,x10,x11,x12,x13])
 |[],es,h=>⟨[],es,dA _,h,rfl⟩
 |x::l,es,h=>by
  obtain⟨v,es1,h1,h2,h3,h4⟩:=qd h 2 (by decide);obtain⟨dk,es',g1,g2,g3⟩:=CW (a:=a) (b:=b) (c:=c) (d:=d) (x5:=x5) (x6:=x6) (x7:=x7) (x8:=x8) (x9:=x9) (x10:=x10) (x11:=x11) (x12:=x12) (x13:=x13) l es1 h1;have et:cT (c2 (dEq false) (pd nW 1 kX) aJ) [.im (.str x),.pm es]=some (decide (v=1),[.im (.str x),.pm es1]):=pL (om ((qR (es0:=es) (es:=es) (ρ1:=[.im (.str x),.pm es]) rfl rfl rfl h4).trans rfl) rfl (ud false v 1));have st:rW 1 [1] (gN 0) (cT (c2 (dEq false) (pd nW 1 kX) aJ)) af ((x::l).map D.str) [a,.ls es,b,c,d,x5,x6,x7,x8,x9,x10,x11,x12,x13]=some ((if v=1 then x::dk else dk).map D.str,[a,.ls es',b,c,d,x5,x6,x7,x8,x9,x10,x11,x12,x13]):=by
   rw[ar];unfold rW;rw[show gN 0 (.str x) (xw 1 [1] [a,.ls es,b,c,d,x5,x6,x7,x8,x9,x10,x11,x12,x13])=some [.im (.str x),.pm es] from rfl];simp only[et];have un:rf [1] (([.im (.str x),.pm es1]:aU).drop 1) [a,.ls es,b,c,d,x5,x6,x7,x8,x9,x10,x11,x12,x13]=some [a,.ls es1,b,c,d,x5,x6,x7,x8,x9,x10,x11,x12,x13]:=rfl;by_cases hv:v=1
   ·rw[ai hv,aV hv];simp only;simp only[show cV 0 [.im (.str x),.pm es1]=some (.str x,[.im (.str x),.pm es1]) from rfl,un,g3];rfl
   ·rw[aj hv,aO hv];simp only[un,g3]
  by_cases hv:v=1
  ·rw[ai hv]at st;exact⟨x::dk,es',g1.cons_cons x,g2,st⟩
  ·rw[aj hv]at st;exact⟨dk,es',g1.cons x,g2,st⟩
def moD:L4.D:=.lst [.tup [],.tup [.str "red"],.tup [.str "old", .str "red"]]
theorem OU(j:Nat)(h:j<3):∃m∈CT,dIx moD (.int j)=some (.tup (m.map D.str)):=by
 match j,h with
 |0,_=>exact⟨[],by decide,rfl⟩
 |1,_=>exact⟨["red"],by decide,rfl⟩
 |2,_=>exact⟨["old", "red"],by decide,rfl⟩
def Th.rw(t:Th):Rw:=⟨t.n,t.k,t.s⟩
def wdD(t:Th):L4.D:=.tup (t.w.map D.str)
abbrev eX:=(nU af ox)
def TC:FE:=(zx (pG eX) (c2 dIx aB (pd nW 4 kW)))
theorem By{a b c d x5 x6 x7 x8 x9 x10 x11 x13:Sl}:∀(R:List Rw) (es:List L4.D),IL es->∃(T:List Th) (es':List L4.D),T.map Th.rw=R/\(∀t∈T,∃m∈CT,t.w=t.n::m)/\IL es'/\
  rW 3 [12,1] (gT (oo (gN 0) (oo (gN 1) (oo (gN 2) pT))) 3) pF TC (R.map oE) [a,.ls es,b,c,d,x5,x6,x7,x8,x9,x10,x11,.im moD,x13]=some (T.map wdD,[a,.ls es',b,c,d,x5,x6,x7,x8,x9,x10,x11,.im moD,x13])
 |[],es,h=>⟨[],es,rfl,λt ht=>(bu ht).elim,h,rfl⟩
 |r::R,es,h=>by
  obtain⟨v,es1,h1,h2,h3,h4⟩:=qd h 3 (by decide);obtain⟨j,rfl⟩:=cq h2;obtain⟨m,hm,em⟩:=OU j (by omega);obtain⟨T,es',g1,g2,g3,g4⟩:=By (a:=a) (b:=b) (c:=c) (d:=d) (x5:=x5) (x6:=x6) (x7:=x7) (x8:=x8) (x9:=x9) (x10:=x10) (x11:=x11) (x13:=x13) R es1 h1;let t:Th:=⟨r.n,r.n::m,r.k,r.s⟩;have hml:m.length<=2:=by
   have:∀m∈CT,b0 m<=2:=by decide
   exact this m hm
  refine⟨t::T,es',by rw[ar,g1];rfl,λu hu=>?_,g3,?_⟩
  ·rcases aP.mp hu with rfl|hu
   ·exact⟨m,hm,rfl⟩
   ·exact g2 u hu
  ·let ρ2:aU:=[.im (.str r.n),.im (.str r.k.s),.im (oS r.s),.im moD,.pm es];have e1:TC ρ2=some (wdD t,[.im (.str r.n),.im (.str r.k.s),.im (oS r.s),.im moD,.pm es1]):=by have e2:c2 dIx aB (pd nW 4 kW) ρ2=some (.tup (m.map D.str),[.im (.str r.n),.im (.str r.k.s),.im (oS r.s),.im moD,.pm es1]):=om rfl ((qR (es0:=es) (es:=es) (ρ1:=ρ2) rfl rfl rfl h4).trans rfl) em;unfold TC zx;rw[show pG eX ρ2=some (.tup [.str r.n],ρ2) from rfl];simp only[e2];rw[ai (by rw[ah];simp;omega)];rfl
   rw[ar];unfold rW;rw[show gT (oo (gN 0) (oo (gN 1) (oo (gN 2) pT))) 3 (oE r) (xw 3 [12,1] [a,.ls es,b,c,d,x5,x6,x7,x8,x9,x10,x11,.im moD,x13])=some ρ2 from rfl];simp only[pF,e1];rw[show rf [12,1] (([.im (.str r.n),.im (.str r.k.s),.im (oS r.s),.im moD,.pm es1]:aU).drop 3) [a,.ls es,b,c,d,x5,x6,x7,x8,x9,x10,x11,.im moD,x13]=some [a,.ls es1,b,c,d,x5,x6,x7,x8,x9,x10,x11,.im moD,x13] from rfl];simp only[g4];rfl
def rY(x:Str):Rw:=⟨x,.room,none⟩
theorem OV:∀N:aG,N.length=17->∃x,N[5]?=some x/\N.take 5++([x]++((N.drop 6).take 7++N.drop 13))=N
 |[a0,a1,a2,a3,a4,a5,a6,a7,a8,a9,a10,a11,a12,a13,a14,a15,a16],_=>⟨a5,rfl,rfl⟩
theorem Fg{α:Type}(l:List α){a b:Nat}(h:a<=b):(l.take a).Sublist (l.take b):=by
 have:l.take a=(l.take b).take a:=by rw[List.take_take,eE h]
 rw[this];exact il _ _
variable{y:Str}{r:Nat}
theorem Jz(h:N.length=17)(hy:N[5]?=some y){q p:Nat}(hr:r<5)(hq:q<8):((N.take (1+r)++([y]++(N.drop 6).take q))++(N.drop 13).take p).Sublist N:=by obtain⟨x,h1,h2⟩:=OV N h;rw[hy]at h1;cases h1;rw[bw,bw];have:=(Fg N (show 1+r<=5 by omega)).append ((dA [y]).append ((Fg (N.drop 6) (show q<=7 by omega)).append (il p (N.drop 13))));rw[h2]at this;exact this
theorem TF{R:List Rw}(h:T.map Th.rw=R){u:Rw}(hu:u∈R):∃t∈T,t.rw=u:=by rw[<-h]at hu;exact aL.mp hu
theorem OW(T:List Th)(p:Kd->Bool):(T.filter λt=>p t.k).map Th.rw=(T.map Th.rw).filter λr=>p r.k:=by rw[List.filter_map];rfl
theorem OX(hN:Nms N)(hy:N[5]?=some y){q p:Nat}(hr:r<5)(hq:q<8)(hp:p<5){z:Str}(hz:z∈N.take (1+r)){O:List Rw}
  (ho:Ord (((N.take (1+r)).map rY++[⟨y,.you,some z⟩])++O)) (hO:O.map Rw.n=(N.drop 6).take q) (hOp:∀u∈O,u.k.pl=true) (hT:(T.map Th.rw).Perm (((N.take (1+r)).map rY++[⟨y,.you,some z⟩])++O)) (hw:∀t∈T,∃m∈CT,t.w=t.n::m)
  (hM:M.map Mk.n=(N.drop 13).take p) (hMo:∀m∈M,m.ok) (hd:dk.Sublist (N.take (1+r))):Good T M dk/\(T.filter λt=>decide (t.k=.you)).map Th.n=[y]:=by
 let B:List Rw:=((N.take (1+r)).map rY++[⟨y,.you,some z⟩])++O;have hl:(N.take (1+r)).length=1+r:=by rw[br,hN.len];omega
 have hOl:O.length=q:=by have:=aQ b0 hO;rw[ah,br,bM,hN.len]at this;omega
 have hMl:M.length=min p 4:=by have:=aQ b0 hM;rw[ah,br,bM,hN.len]at this;exact this
 have hBl:B.length=1+r+1+q:=by simp only[B,ay,ah,hl,hOl,aZ]
 have hTl:T.length=B.length:=by have:=hT.length_eq;rw[ah]at this;exact this
 have hBn:B.map Rw.n=N.take (1+r)++([y]++(N.drop 6).take q):=by simp only[B,aR,hO,aK,bw];rw[show (Rw.n∘rY)=id from rfl,kz];rfl
 have hTn:T.map Th.n=(T.map Th.rw).map Rw.n:=by rw[aK];rfl
 have perm:(T.map Th.n++M.map Mk.n).Perm ((N.take (1+r)++([y]++(N.drop 6).take q))++(N.drop 13).take p):=by rw[hTn,hM,<- hBn];exact(hT.map Rw.n).append_right _
 have sub:=Jz hN.len hy hr hq (p:=p);have nd:(T.map Th.n++M.map Mk.n).Nodup:=perm.nodup_iff.mpr (hN.nd.sublist sub);have nm:∀x∈T.map Th.n++M.map Mk.n,Nm x:=λx hx=>hN.nm x (sub.subset (perm.subset hx));have back:∀u∈B,∃t∈T,t.rw=u:=λu hu=>TF rfl (hT.mem_iff.mpr hu);have fwd:∀t∈T,DX B t.rw:=λt ht=>ho.all _ (hT.mem_iff.mp (cg ht));have filt:∀pp:Kd->Bool,((T.filter λt=>pp t.k).map Th.rw).Perm (B.filter λu=>pp u.k):=λpp=>by rw[OW];exact hT.filter _
 have fl:∀pp:Kd->Bool,(T.filter λt=>pp t.k).length=(B.filter λu=>pp u.k).length:=λpp=>by have:=(filt pp).length_eq;rw[ah]at this;exact this
 have allF:∀(pp:Kd->Bool) (l:List Rw),(∀u∈l,pp u.k=false)->(l.filter λu=>pp u.k)=[]:=λpp l h=>List.filter_eq_nil_iff.mpr λu hu=>by rw[h u hu];exact bj
 have rooms:∀(pp:Kd->Bool),∀u∈(N.take (1+r)).map rY,pp u.k=pp .room:=λpp u hu=>by obtain⟨x,_,rfl⟩:=aL.mp hu;rfl
 have oth:∀u∈O,decide (u.k=.room)=false/\decide (u.k=.you)=false:=λu hu=>by have:=hOp u hu;refine⟨aO λh=>?_,aO λh=>?_⟩<;>rw[h]at this<;>cases this
 have fB:∀pp:Kd->Bool,(B.filter λu=>pp u.k)=((N.take (1+r)).map rY).filter (λu=>pp u.k)++([⟨y,.you,some z⟩]:List Rw).filter (λu=>pp u.k)++O.filter (λu=>pp u.k):=λpp=>by simp only[B,List.filter_append]
 have one:∀(pp:Kd->Bool) (b:Bool),pp .you=b->([⟨y,.you,some z⟩]:List Rw).filter (λu=>pp u.k)=if b then [⟨y,.you,some z⟩]else []:=λpp b h=>by rw[f6,List.filter_nil];show (if pp .you=true then _ else _)=_;rw[h]
 have gr:∀pp:Kd->Bool,pp .room=true->pp .you=false->(∀u∈O,pp u.k=false)->(B.filter λu=>pp u.k)=(N.take (1+r)).map rY:=λpp h1 h2 h3=>by rw[fB pp,allF pp O h3,jA.mpr λu hu=>(rooms pp u hu).trans h1,one pp false h2];simp
 have gy:∀pp:Kd->Bool,pp .room=false->pp .you=true->(∀u∈O,pp u.k=false)->(B.filter λu=>pp u.k)=[⟨y,.you,some z⟩]:=λpp h1 h2 h3=>by rw[fB pp,allF pp O h3,allF pp _ λu hu=>(rooms pp u hu).trans h1,one pp true h2];rfl
 have gp:∀pp:Kd->Bool,pp .room=false->pp .you=false->(∀u∈O,pp u.k=true)->(B.filter λu=>pp u.k)=O:=λpp h1 h2 h3=>by rw[fB pp,jA.mpr h3,allF pp _ λu hu=>(rooms pp u hu).trans h1,one pp false h2];rfl
 have fr:=gr (λk=>decide (k=.room)) rfl rfl λu hu=>(oth u hu).1;have fy:=gy (λk=>decide (k=.you)) rfl rfl λu hu=>(oth u hu).2;have fp:=gp Kd.pl rfl rfl hOp;have ndT:(T.map Th.n).Nodup:=(bO.mp nd).1;obtain⟨rk,hk⟩:=ho.rank ((hT.map Rw.n).nodup_iff.mp (by rw[<-hTn];exact ndT));have inR:∀x∈N.take (1+r),x∈rmN T:=λx hx=>by obtain⟨t,ht,e⟩:=back (rY x) (bE _ (bE _ (cg hx)));have h1:t.n=x:=aQ Rw.n e;have h2:t.k=.room:=aQ Rw.k e;exact aL.mpr ⟨t,ck.mpr ⟨ht,aV h2⟩,h1⟩
 refine⟨{
  len:=by omega
  r1:=by have:=fl λk=>decide (k=.room);rw[fr,ah,hl]at this;omega
  r5:=by have:=fl λk=>decide (k=.room);rw[fr,ah,hl]at this;omega
  y1:=by have:=fl λk=>decide (k=.you);rw[fy]at this;exact this
  p7:=by have:=fl Kd.pl;rw[fp,hOl]at this;omega
  m4:=by omega
  mo:=hMo
  nm:=nm
  nd:=nd
  st:=λt ht=>?_
  rk:=⟨rk,λt ht=>?_⟩
  wd:=λt ht=>⟨nm _ (bE _ (cg ht)),hw t ht⟩
  d0:=by have:=hd.length_le;omega
  d1:=(hN.nd.sublist (il _ _)).sublist hd
  d2:=λx hx=>inR x (hd.subset hx) },?_⟩
 ·obtain⟨n,w,k,s⟩:=t;rcases fwd _ ht with ⟨h1,h2⟩|⟨h1,u,hu,h2,h3⟩|⟨h1,u,hu,h2,h3⟩
  ·cases h1;cases h2;trivial
  ·cases h1;cases h2;obtain⟨t',ht',e⟩:=back u hu;refine aL.mpr ⟨t',ck.mpr ⟨ht',aV ?_⟩,aQ Rw.n e⟩;rw[<-h3];exact aQ Rw.k e
  ·obtain⟨t',ht',e⟩:=back u hu;have mem:u.n∈hdN T:=aL.mpr ⟨t',ck.mpr ⟨ht',by rw[<-h3];exact aQ Kd.hd (aQ Rw.k e)⟩,aQ Rw.n e⟩;have h2':s=some u.n:=h2;subst h2';have h1':k.pl=true:=h1;cases k with
   |room=>cases h1'
   |you=>cases h1'
   |plain=>exact mem
   |fixed=>exact mem
   |box=>exact mem
   |lamp=>exact mem
 ·obtain⟨h1,h2⟩:=hk t.rw (hT.mem_iff.mp (cg ht));refine⟨by rw[hTl];exact h1,λpq hpq=>?_⟩;obtain⟨h3,u,hu,h4⟩:=h2 pq hpq;obtain⟨t',ht',e⟩:=back u hu;exact⟨h3,t',ht',by rw[<-h4,<- e];rfl⟩
 ·have h:=filt λk=>decide (k=.you);rw[fy]at h;have e:=List.perm_singleton.mp h;have:=aQ (List.map Rw.n) e;rw[aK]at this;exact this
def rV(T:List Th)(M:List Mk)(dk:aG)(y:Str):L4.D:=.dic [kS "rows", kS "marks", kS "dark", kS "words", kS "you"] [.lst (T.map λt=>oE t.rw),.lst (M.map mkT),.lst (dk.map D.str),.lst (T.map wdD),.str y]
theorem JA:∀l:aG,Ord (l.map rY):=λl=>by
 suffices h:∀(l k:aG),Ord (k.map rY)->Ord ((k++l).map rY) from h l [] .nil
 intro l
 induction l with
 |nil=>intro k h;rw[bz];exact h
 |cons x l ih=>
  intro k h;have:=ih (k++[x]) (by rw[aR];exact h.snoc (.inl ⟨rfl,rfl⟩))
  rwa [bw]at this
theorem BA(h:e ρ=some (.lst ds,ρ1)):iL e ρ=some (ds,ρ1):=by unfold iL;rw[h]
variable{f:FE}{ρ2:aU}
theorem Fh{x:Str}{r:List (Str×FE)}(h1:f ρ=some (d,ρ1))(h2:se r ρ1=some (ds,ρ2)):se ((x,f)::r) ρ=some (d::ds,ρ2):=by unfold se;rw[h1];simp only[h2]
theorem OY{kfs:List (Str×FE)}(h:se kfs ρ=some (ds,ρ1)):yg kfs ρ=some (.dic (kfs.map λq=>kS q.1) ds,ρ1):=by unfold yg;rw[h];rfl
variable{es':List L4.D}
theorem Vm{n v:Int}{a b2 b3 b4 b5 b6 b7 b8 b9 b10 b11 b12 b13:Sl}(h:nW es [.int n]=some (.int v,es')):pd nW 1 (nU (cC (.int n)) ox) [a,.ls es,b2,b3,b4,b5,b6,b7,b8,b9,b10,b11,b12,b13]=some (.int v,[a,.ls es',b2,b3,b4,b5,b6,b7,b8,b9,b10,b11,b12,b13]):=
 (qR (es0:=es) (es:=es) (ρ1:=[a,.ls es,b2,b3,b4,b5,b6,b7,b8,b9,b10,b11,b12,b13]) rfl rfl rfl h).trans rfl
abbrev jl:=(nU aB ox)
theorem OZ(c:Int):∃T M dk y,wC [.int c]=some (rV T M dk y)/\Good T M dk/\(T.filter λt=>decide (t.k=.you)).map Th.n=[y]:=by
 obtain⟨es0,i0,d0⟩:=Bx c 110 (by decide);obtain⟨N,es1,hN,i1,d1⟩:=Mb i0;obtain⟨r,es2,i2,r0,r1,d2⟩:=qd i1 5 (by decide);obtain⟨r,rfl⟩:=cq r0;have hr:r<5:=by omega
 let rooms:=N.take (1+r);have hl:rooms.length=1+r:=by simp only[rooms];rw[br,hN.len];omega
 obtain⟨i,es3,i3,j0,j1,d3⟩:=qd i2 rooms.length (by omega);obtain⟨i,rfl⟩:=cq j0;have hi:i<rooms.length:=by omega
 have h5:5<N.length:=by rw[hN.len];decide
 let y:=N[5];let z:=rooms[i];have hz:z∈rooms:=cj hi;let B:List Rw:=rooms.map rY++[⟨y,.you,some z⟩];have hB:Ord B:=(JA rooms).snoc (.inr (.inl ⟨rfl,rY z,cg hz,rfl,rfl⟩));obtain⟨q,es4,O,hq,i4,hO,hOn,hOp,d4⟩:=Jy hN B i3 hB (rooms:=rooms) (by omega) λx hx=>by
  rcases bb.mp hx with hx|hx
  ·exact⟨rY x,bE _ (cg hx),rfl,rfl⟩
  ·rw[aW]at hx;exact⟨⟨y,.you,some z⟩,bD _ (aW.mpr rfl),hx.symm,rfl⟩
 have hOl:O.length<=7:=by have:=aQ b0 hOn;rw[ah,br]at this;omega
 have hBl:B.length<=6:=by simp only[B,ay,ah,aZ];omega
 obtain⟨es5,R,t6,t7,i5,hR,d5⟩:=Fe (a:=.im (.int c)) (b:=.im (.lst (N.map D.str))) (c:=.im (.lst (rooms.map D.str))) (d:=.im (.lst (B.map oE))) (x8:=.un) (x9:=.un) (x10:=.un) (x11:=.un) (x12:=.un) (x13:=.un) (B++O) es4 [] .un .un i4 (by rw[ay];simp;omega);rw[bI]at hR;obtain⟨p,es6,i6,p0,p1,d6⟩:=qd i5 5 (by decide);obtain⟨p,rfl⟩:=cq p0;obtain⟨es7,M,t9,t10,i7,hMn,hMo,d7⟩:=HN (a:=.im (.int c)) (b:=.im (.lst (N.map D.str))) (c:=.im (.lst (rooms.map D.str))) (d:=.im (.lst (B.map oE))) (x5:=.im (.lst (R.map oE))) (x6:=t6) (x7:=t7) (x11:=.un) (x12:=.un) (x13:=.un) ((N.drop 13).take p) es6 [] .un .un i6 (by rw[br,bM,hN.len];simp;omega);rw[bI]at d7;obtain⟨dk,es8,hdk,i8,d8⟩:=CW (a:=.im (.int c)) (b:=.im (.lst (N.map D.str))) (c:=.im (.lst (rooms.map D.str))) (d:=.im (.lst (B.map oE))) (x5:=.im (.lst (R.map oE))) (x6:=t6) (x7:=t7) (x8:=.ls (M.map mkT)) (x9:=t9) (x10:=t10) (x11:=.un) (x12:=.un) (x13:=.un) rooms es7 i7;obtain⟨T,es9,hT,hw,i9,d9⟩:=By (a:=.im (.int c)) (b:=.im (.lst (N.map D.str))) (c:=.im (.lst (rooms.map D.str))) (d:=.im (.lst (B.map oE))) (x5:=.im (.lst (R.map oE))) (x6:=t6) (x7:=t7) (x8:=.ls (M.map mkT)) (x9:=t9) (x10:=t10) (x11:=.im (.lst (dk.map D.str))) (x13:=.un) R es8 i8;obtain⟨g1,g2⟩:=OX hN (aI h5) hr hq (by omega) hz hO hOn hOp (hT▸hR) hw hMn hMo hdk;refine⟨T,M,dk,y,oP (ρ:=[.im (.int c),.ls es9,.im (.lst (N.map D.str)),.im (.lst (rooms.map D.str)),.im (.lst (B.map oE)),.im (.lst (R.map oE)),t6,t7,.im (.lst (M.map mkT)),t9,t10,.im (.lst (dk.map D.str)),.im moD,.im (.lst (T.map wdD))]) rfl ?_,g1,g2⟩;unfold wB;refine(nV (ρ':=[.im (.int c),.ls es0,.un,.un,.un,.un,.un,.un,.un,.un,.un,.un,.un,.un]) ((yc (nY (ds:=[.int c,.int 110]) rfl d0)).trans rfl)).trans ?_;refine(nV (ρ':=[.im (.int c),.ls es1,.im (.lst (N.map D.str)),.un,.un,.un,.un,.un,.un,.un,.un,.un,.un,.un]) ((oG (qR (es0:=es0) (es:=es0) (ds:=[]) (ρ1:=[.im (.int c),.ls es0,.un,.un,.un,.un,.un,.un,.un,.un,.un,.un,.un,.un]) rfl rfl rfl d1)).trans rfl)).trans ?_;have cutE:∀{lo hi:FO} {ρ ρ1 ρ2:aU} {l h:Option Int},cV 2 ρ=some (.lst (N.map D.str),ρ)->lo ρ=some (l,ρ1)->hi ρ1=some (h,ρ2)->vU aw lo hi ρ=some (cutD (N.map D.str) l h,ρ2):=λ{lo hi ρ ρ1 ρ2 l h} h1 h2 h3=>by unfold vU;simp only[h1,h2,h3]
 have addE:∀{k:Nat} {v:Nat} {n:Int} {ρ ρ1:aU},pd nW 1 (nU (cC (.int n)) ox) ρ=some (.int v,ρ1)->oAt (c2 o9 (cC (.int k)) (pd nW 1 (nU (cC (.int n)) ox))) ρ=some (some ((k+v:Nat):Int),ρ1):=λ{k v n ρ ρ1} h=>by unfold oAt;rw[om (g:=o9) (x:=.int k) (z:=.int ((k+v:Nat):Int)) rfl h (by show some (D.int ((k:Int)+(v:Int)))=_;congr 2)]
 refine(nV (ρ':=[.im (.int c),.ls es2,.im (.lst (N.map D.str)),.im (.lst (rooms.map D.str)),.un,.un,.un,.un,.un,.un,.un,.un,.un,.un]) ((oG (px (cutE rfl rfl (addE (k:=1) (v:=r) (Vm d2))))).trans ?_)).trans ?_
 ·rw[Md (1+r) (by rw[ah,hN.len];omega),<- fC];rfl
 let ρ3:List L4.D->aU:=λes=>[.im (.int c),.ls es,.im (.lst (N.map D.str)),.im (.lst (rooms.map D.str)),.un,.un,.un,.un,.un,.un,.un,.un,.un,.un];refine(nV (ρ':=[.im (.int c),.ls es3,.im (.lst (N.map D.str)),.im (.lst (rooms.map D.str)),.im (.lst (B.map oE)),.un,.un,.un,.un,.un,.un,.un,.un,.un]) ((oG (px (rL (xs:=rooms.map λx=>oE (rY x)) (ys:=[oE ⟨y,.you,some z⟩]) (ρ1:=ρ3 es2) (ρ2:=ρ3 es3)
  (px (um D.str (λx=>oE (rY x)) rooms rfl (by omega) λx _=>⟨_,_,rfl,rfl,rfl⟩))
  (px (DA (nX (uq (ds:=[.str y,.str "you", .str z]) (nX (om rfl rfl (uZ (j:=5) (aI h5))) (nX rfl (nX (om (ρ1:=ρ3 es2) (x:=.lst (rooms.map D.str)) (y:=.int i) rfl ((qR (i:=1) (es0:=es2) (es:=es2) (ρ1:=ρ3 es2) (ds:=[.int rooms.length]) rfl (by show some ([D.int ((rooms.map D.str).length:Nat)],_)=_;rw[ah]) rfl d3).trans rfl) (uZ (aI hi))) rfl))) (by show 3<=1000;decide)) rfl) (by show 1<=1000;decide))) (by rw[ah];simp;omega)))).trans ?_)).trans ?_
 ·show some (Out.nx [.im (.int c),.ls es3,.im (.lst (N.map D.str)),.im (.lst (rooms.map D.str)),.im (.lst ((rooms.map λx=>oE (rY x))++[oE ⟨y,.you,some z⟩])),.un,.un,.un,.un,.un,.un,.un,.un,.un])=_;rw[show (rooms.map λx=>oE (rY x))++[oE ⟨y,.you,some z⟩]=B.map oE by simp only[B,aR,aK];rfl]
 refine(nV (ρ':=[.im (.int c),.ls es3,.im (.lst (N.map D.str)),.im (.lst (rooms.map D.str)),.im (.lst (B.map oE)),.im (.lst []),.un,.un,.un,.un,.un,.un,.un,.un]) rfl).trans ?_;let ρ5:List L4.D->aU:=λes=>[.im (.int c),.ls es,.im (.lst (N.map D.str)),.im (.lst (rooms.map D.str)),.im (.lst (B.map oE)),.im (.lst []),.un,.un,.un,.un,.un,.un,.un,.un];refine(nV ((p5 (ds:=(B++O).map oE) (ρ1:=ρ5 es4) ?_).trans d5)).trans ?_
 ·have em:uO qD 1 (nU aw jl) (ρ5 es3)=some (.lst (O.map oE),ρ5 es4):=by
   unfold uO;show (match qD es3 [.lst (N.map D.str),.lst (rooms.map D.str)]with
    |some (d,es')=>some (d,putAt (ρ5 es3) 1 es')
    |none=>none)=_
   rw[d4];rfl
  exact(BA (px (rL (xs:=B.map oE) (ys:=O.map oE) rfl em (by rw[ah,ah];omega)))).trans (by rw[<-aR])
 refine(nV (ρ':=[.im (.int c),.ls es5,.im (.lst (N.map D.str)),.im (.lst (rooms.map D.str)),.im (.lst (B.map oE)),.im (.lst (R.map oE)),t6,t7,.ls [],.un,.un,.un,.un,.un]) rfl).trans ?_;refine(nV ((p5 (ds:=((N.drop 13).take p).map D.str) (ρ1:=[.im (.int c),.ls es6,.im (.lst (N.map D.str)),.im (.lst (rooms.map D.str)),.im (.lst (B.map oE)),.im (.lst (R.map oE)),t6,t7,.ls [],.un,.un,.un,.un,.un]) ?_).trans d7)).trans ?_
 ·refine(BA (px (cutE (l:=some ((13:Nat):Int)) rfl rfl (addE (k:=13) (v:=p) (Vm d6))))).trans ?_;have ec:cutD (N.map D.str) (some ((13:Nat):Int)) (some ((13+p:Nat):Int))=((N.drop 13).take p).map D.str:=by rw[HM 13 p (by rw[ah,hN.len];omega),fC,fA]
  rw[ec]
 refine(nV (ρ':=[.im (.int c),.ls es8,.im (.lst (N.map D.str)),.im (.lst (rooms.map D.str)),.im (.lst (B.map oE)),.im (.lst (R.map oE)),t6,t7,.ls (M.map mkT),t9,t10,.im (.lst (dk.map D.str)),.un,.un]) ((oG (px ((vd (ds:=rooms.map D.str) (ρ1:=[.im (.int c),.ls es7,.im (.lst (N.map D.str)),.im (.lst (rooms.map D.str)),.im (.lst (B.map oE)),.im (.lst (R.map oE)),t6,t7,.ls (M.map mkT),t9,t10,.un,.un,.un]) rfl (by rw[ah];omega)).trans d8))).trans rfl)).trans ?_;refine(nV (ρ':=[.im (.int c),.ls es8,.im (.lst (N.map D.str)),.im (.lst (rooms.map D.str)),.im (.lst (B.map oE)),.im (.lst (R.map oE)),t6,t7,.ls (M.map mkT),t9,t10,.im (.lst (dk.map D.str)),.im moD,.un]) rfl).trans ?_;have hRl:R.length<=900:=by have:=hR.length_eq;rw[ay]at this;omega
 refine(nV (ρ':=[.im (.int c),.ls es9,.im (.lst (N.map D.str)),.im (.lst (rooms.map D.str)),.im (.lst (B.map oE)),.im (.lst (R.map oE)),t6,t7,.ls (M.map mkT),t9,t10,.im (.lst (dk.map D.str)),.im moD,.im (.lst (T.map wdD))]) ((oG (px ((vd (ds:=R.map oE) (ρ1:=[.im (.int c),.ls es8,.im (.lst (N.map D.str)),.im (.lst (rooms.map D.str)),.im (.lst (B.map oE)),.im (.lst (R.map oE)),t6,t7,.ls (M.map mkT),t9,t10,.im (.lst (dk.map D.str)),.im moD,.un]) rfl (by rw[ah];omega)).trans d9))).trans rfl)).trans ?_;refine oM ?_;have eN:c2 dIx aw eW [.im (.int c),.ls es9,.im (.lst (N.map D.str)),.im (.lst (rooms.map D.str)),.im (.lst (B.map oE)),.im (.lst (R.map oE)),t6,t7,.im (.lst (M.map mkT)),t9,t10,.im (.lst (dk.map D.str)),.im moD,.im (.lst (T.map wdD))]=some (.str y,[.im (.int c),.ls es9,.im (.lst (N.map D.str)),.im (.lst (rooms.map D.str)),.im (.lst (B.map oE)),.im (.lst (R.map oE)),t6,t7,.im (.lst (M.map mkT)),t9,t10,.im (.lst (dk.map D.str)),.im moD,.im (.lst (T.map wdD))]):=om rfl rfl (uZ (j:=5) (aI h5));have eT:R.map oE=T.map λt=>oE t.rw:=by rw[<-hT,aK];rfl
 unfold rV;rw[<-eT];exact OY (Fh rfl (Fh rfl (Fh rfl (Fh rfl (Fh eN rfl)))))
theorem Me:∀T:List Th,uN (T.map λt=>oE t.rw) (T.map wdD)=T.map λt=>D.tup [oE t.rw,wdD t]
 |[]=>rfl
 |t::T=>by have:=Me T;unfold uN at this ⊢;rw[ar,ar,du,this];rfl
theorem Mg(g:Good T M dk)(hy:(T.filter λt=>decide (t.k=.you)).map Th.n=[y])(emo:qw [TD T,MD M]=some mo):vE [rV T M dk y]=some (.obj 14 wNs (wDs T M dk y mo)):=by
 have e:=L8 g y hy emo;have hl:=g.len;have hm:=g.m4;let sp:=rV T M dk y;refine oP (ρ:=[.im sp,.im (TD T),.im (MD M)]) rfl ?_;unfold vC;refine(nV (ρ':=[.im sp,.im (TD T),.un]) ((oG (px (um (λt=>D.tup [oE t.rw,wdD t]) thD T (ρ1:=[.im sp,.un,.un]) ?_ (by omega) λt _=>⟨[.im (oE t.rw),.im (wdD t)],[.im (oE t.rw),.im (wdD t)],rfl,rfl,rfl⟩))).trans rfl)).trans ?_
 ·show some (uN (T.map λt=>oE t.rw) (T.map wdD),[Sl.im sp,.un,.un])=_;rw[Me]
 refine(nV (ρ':=[.im sp,.im (TD T),.im (MD M)]) ((oG (px (um mkT mkD M (ρ1:=[.im sp,.im (TD T),.un]) rfl (by omega) λm _=>⟨[.im (.str m.n),.im (.int m.st),.im (.int m.mo)],[.im (.str m.n),.im (.int m.st),.im (.int m.mo)],rfl,rfl,rfl⟩))).trans rfl)).trans ?_;exact oM (Ox (g:=λds=>rQ (ds++[])) (ds:=[TD T,MD M,.lst (dk.map D.str),.lst [],.lst [],.lst []]) rfl e)
def nmK(T:List Th)(p:Kd->Bool):aG:=(T.filter λt=>p t.k).map Th.n
theorem of_ok(hl:T.length<=900){K:L4.D}(p:Kd->Bool)(hp:∀k:Kd,dIn false (.str k.s) K=some (.bl (p k))):qE [rV T M dk y,K]=some ((nmK T p).map D.str):=by
 let sp:=rV T M dk y;refine yV (ρ:=[.im sp,.im K]) rfl ?_;have:=uB (k:=3) (cap:=[1]) (g:=gT (oo (gN 0) (oo (gN 1) (oo (gN 2) pT))) 3) (ft:=cT (c2 (dIn false) ak aB)) (fe:=cV 0) (s:=iL (c2 qK af (cC (.str "rows")))) (λt:Th=>oE t.rw) (λt=>D.str t.n) (λt=>p t.k) T (ρ:=[.im sp,.im K]) (ρ1:=[.im sp,.im K]) rfl (by omega) λt _=>⟨[.im (.str t.n),.im (.str t.k.s),.im (oS t.s),.im K],[.im (.str t.n),.im (.str t.k.s),.im (oS t.s),.im K],rfl,pL (om rfl rfl (hp t.k)),λ_=>⟨_,rfl,rfl⟩,λ_=>rfl⟩
 refine tZ (this.trans ?_);unfold nmK;rw[aK];rfl
theorem TH(k:Kd):dIn false (.str k.s) (.lst [.str "box"])=some (.bl (decide (k=.box))):=by cases k<;>kernel_rfl
theorem Vn(k:Kd):dIn false (.str k.s) (.lst [.str "box", .str "lamp"])=some (.bl k.mk):=by cases k<;>kernel_rfl
theorem Vo(k:Kd):dIn false (.str k.s) (.lst [.str "room", .str "you"])=some (.bl !k.pl):=by cases k<;>kernel_rfl
theorem O0(k:Kd):dIn false (.str k.s) (.lst [.str "room"])=some (.bl (decide (k=.room))):=by cases k<;>kernel_rfl
def Kd.ot:Kd->Bool
 |.plain=>true|.fixed=>true|.lamp=>true|_=>false
theorem Pz(k:Kd):dIn false (.str k.s) (.lst [.str "plain", .str "fixed", .str "lamp"])=some (.bl k.ot):=by cases k<;>kernel_rfl
theorem pE(T:List Th)(p:Kd->Bool):(nmK T p).Sublist (T.map Th.n):=List.Sublist.map _ List.filter_sublist
abbrev dcI(V:List (Str×Int)):L4.D:=.dic (V.map λq=>kS q.1) (V.map λq=>D.int q.2)
def moL(T:List Th)(M:List Mk):List (Str×Int):=((nmK T Kd.mk).map λx=>(x,(1:Int)))++M.map λm=>(m.n,m.mo)
theorem Fi(g:Good T M dk):∃V:List (Str×Int),rT [rV T M dk y]=some (dcI V)/\V.map aD=nmK T Kd.mk++M.map Mk.n/\(∀q∈V,1<=q.2)/\V=moL T M:=by
 have hl:=g.len;have hm:=g.m4;let sp:=rV T M dk y;have nd:(nmK T Kd.mk++M.map Mk.n).Nodup:=g.nd.sublist ((pE T _).append (dA _));have ndk:(((nmK T Kd.mk).map kS)++M.map λm=>kS m.n).Nodup:=by have:=tf nd;rw[aR,aK]at this;exact this
 have hln:(nmK T Kd.mk).length<=200:=by have:=(pE T Kd.mk).length_le;rw[ah]at this;omega
 obtain⟨s2,e1⟩:=uY (g:=gN 2) (i:=1) (fk:=cV 2) (fv:=cC (.int 1)) D.str id (λ_=>D.int 1) (λks ds s=>[.im sp,.dk ks ds,s,.un,.un])
  (λx ks ds s=>⟨[.im sp,.dk ks ds,.im (.str x),.un,.un],rfl,rfl,rfl,rfl,λks' ds'=>⟨_,rfl⟩⟩) (nmK T Kd.mk) [] [] .un (by rw[bI];exact(bO.mp ndk).1) (by simp;omega) rfl
 rw[bI,bI]at e1;have gen:∀(l:List Mk) (ks:List Key) (ds:List L4.D) (a b c:Sl),(ks++l.map λm=>kS m.n).Nodup->ks.length+l.length<=1000->ds.length=ks.length->∃a' b' c',forL (gT (oo (gN 2) (oo (gN 3) (oo (gN 4) pT))) 3) (pB 1 aw aN) (l.map mkT) [.im sp,.dk ks ds,a,b,c]=some (.nx [.im sp,.dk (ks++l.map λm=>kS m.n) (ds++l.map λm=>D.int m.mo),a',b',c']):=by
  intro l
  induction l with
  |nil=>intro ks ds a b c _ _ _;exact⟨a,b,c,by rw[bJ,bJ,bJ,bz,bz];rfl⟩
  |cons m l ih=>
   intro ks ds a b c nd hl he;rw[aF]at hl;have hn:kS m.n∉ks:=λz=>by rw[bO]at nd;exact nd.2.2 _ z _ (by rw[ar];exact aS) rfl
   obtain⟨a',b',c',h⟩:=ih (ks++[kS m.n]) (ds++[.int m.mo]) (.im (.str m.n)) (.im (.int m.st)) (.im (.int m.mo)) (by rw[bw];exact nd) (by rw[ay,aZ];omega) (by rw[ay,ay,he,aZ,aZ]);refine⟨a',b',c',?_⟩;rw[ar];unfold forL;rw[show gT (oo (gN 2) (oo (gN 3) (oo (gN 4) pT))) 3 (mkT m) [.im sp,.dk ks ds,a,b,c]=some [.im sp,.dk ks ds,.im (.str m.n),.im (.int m.st),.im (.int m.mo)] from rfl];simp only[wD (i:=1) (fk:=cV 2) (fv:=cV 4) (ρ:=[.im sp,.dk ks ds,.im (.str m.n),.im (.int m.st),.im (.int m.mo)]) (x:=m.n) (d:=.int m.mo) rfl rfl rfl hn (by omega) he];refine h.trans ?_;rw[ar,ar,bw,bw];rfl
 obtain⟨a',b',c',e2⟩:=gen M ((nmK T Kd.mk).map kS) ((nmK T Kd.mk).map λ_=>D.int 1) s2 .un .un ndk (by rw[ah];omega) (by rw[ah,ah]);let V:List (Str×Int):=((nmK T Kd.mk).map λx=>(x,(1:Int)))++M.map λm=>(m.n,m.mo);refine⟨V,oP (ρ:=[.im sp,.im (dcI V),a',b',c']) rfl ?_,?_,λq hq=>?_,rfl⟩
 ·unfold vF;refine(nV (ρ':=[.im sp,.dk [] [],.un,.un,.un]) rfl).trans ?_;refine(nV ((p5 (BA (px (nY (nX rfl (nX rfl rfl)) (of_ok (by omega) Kd.mk Vn))))).trans e1)).trans ?_;refine(nV ((p5 rfl).trans e2)).trans ?_;have q1:V.map (λq=>kS q.1)=(nmK T Kd.mk).map kS++M.map λm=>kS m.n:=by simp only[V,aR,aK];rfl
  have q2:V.map (λq=>D.int q.2)=((nmK T Kd.mk).map λ_=>D.int 1)++M.map λm=>D.int m.mo:=by simp only[V,aR,aK];rfl
  unfold dcI;rw[q1,q2];rfl
 ·simp only[V,aR,aK];rw[show (aD∘λx:Str=>(x,(1:Int)))=id from rfl,kz];rfl
 ·rcases bb.mp hq with h|h
  ·obtain⟨x,_,rfl⟩:=aL.mp h;exact Int.le_refl _
  ·obtain⟨m,h1,rfl⟩:=aL.mp h;exact(g.mo m h1).1
theorem GI(h:e ρ=some (.dic ks ds,ρ1)):iIt e ρ=some (uN (ks.map Gb) ds,ρ1):=by unfold iIt;rw[h]
theorem zk:∀V:List (Str×Int),uN ((V.map λq=>kS q.1).map Gb) (V.map λq=>D.int q.2)=V.map λq=>D.tup [.str q.1,.int q.2]
 |[]=>rfl
 |q::V=>by have:=zk V;unfold uN at this ⊢;rw[ar,ar,ar,du,this];rfl
abbrev kP:=(nU (c2 o9 aN aJ) ox)
theorem Mh(g:Good T M dk)(hi:IL es):∃(V:List (Str×Int)) (es':List L4.D),IL es'/\sV es [rV T M dk y]=some (dcI V,es')/\V.map aD=nmK T Kd.mk++M.map Mk.n/\∀p∈V,∃q∈moL T M,p.1=q.1/\0<=p.2/\p.2<=q.2:=by
 obtain⟨V0,e0,n0,p0,w0⟩:=Fi (y:=y) g;let sp:=rV T M dk y;have nd:(nmK T Kd.mk++M.map Mk.n).Nodup:=g.nd.sublist ((pE T _).append (dA _));have hln:V0.length<=204:=by have h1:=aQ b0 n0;have h2:=(pE T Kd.mk).length_le;have h3:=g.len;have h4:=g.m4;rw[ah,ay,ah]at h1;rw[ah]at h2;omega
 have gen:∀(l:List (Str×Int)) (es:List L4.D) (ks:List Key) (ds:List L4.D) (a b:Sl),IL es->(∀q∈l,1<=q.2)->(ks++l.map λq=>kS q.1).Nodup->ks.length+l.length<=1000->ds.length=ks.length->∃(V:List (Str×Int)) (es':List L4.D) (a' b':Sl),IL es'/\V.map aD=l.map aD/\(∀p∈V,∃q∈l,p.1=q.1/\0<=p.2/\p.2<=q.2)/\
   forL (gT (oo (gN 3) (oo (gN 4) pT)) 2) (pB 2 aB (pd nW 1 kP)) (l.map λq=>D.tup [.str q.1,.int q.2]) [.im sp,.pm es,.dk ks ds,a,b]=some (.nx [.im sp,.pm es',.dk (ks++V.map λq=>kS q.1) (ds++V.map λq=>D.int q.2),a',b']):=by
  intro l
  induction l with
  |nil=>intro es ks ds a b hi _ _ _ _;exact⟨[],es,a,b,hi,rfl,λp hp=>(bu hp).elim,by rw[bJ,bJ,bJ,bz,bz];rfl⟩
  |cons q l ih=>
   intro es ks ds a b hi hp nd hl he;rw[aF]at hl;have hq:=hp q aS;obtain⟨v,es1,h1,hv0,hv1,h4⟩:=qd hi (q.2+1) (by omega);have hn:kS q.1∉ks:=λz=>by rw[bO]at nd;exact nd.2.2 _ z _ (by rw[ar];exact aS) rfl
   obtain⟨V,es',a',b',g1,g2,gw,g3⟩:=ih es1 (ks++[kS q.1]) (ds++[.int v]) (.im (.str q.1)) (.im (.int q.2)) h1 (λq hq=>hp q (ba _ hq)) (by rw[bw];exact nd) (by rw[ay,aZ];omega) (by rw[ay,ay,he,aZ,aZ]);refine⟨(q.1,v)::V,es',a',b',g1,by rw[ar,ar,g2],λp hp=>?_,?_⟩
   ·rcases aP.mp hp with rfl|hp
    ·exact⟨q,aS,rfl,hv0,by show v<=q.2;omega⟩
    ·obtain⟨q',c1,c2⟩:=gw p hp;exact⟨q',ba _ c1,c2⟩
   rw[ar];unfold forL;rw[show gT (oo (gN 3) (oo (gN 4) pT)) 2 (.tup [.str q.1,.int q.2]) [.im sp,.pm es,.dk ks ds,a,b]=some [.im sp,.pm es,.dk ks ds,.im (.str q.1),.im (.int q.2)] from rfl];have ev:pd nW 1 kP [.im sp,.pm es,.dk ks ds,.im (.str q.1),.im (.int q.2)]=some (.int v,[.im sp,.pm es1,.dk ks ds,.im (.str q.1),.im (.int q.2)]):=(qR (es0:=es) (es:=es) (ρ1:=[.im sp,.pm es,.dk ks ds,.im (.str q.1),.im (.int q.2)]) rfl (nX (om rfl rfl rfl) rfl) rfl h4).trans rfl;have st:pB 2 aB (pd nW 1 kP) [.im sp,.pm es,.dk ks ds,.im (.str q.1),.im (.int q.2)]=some (.nx [.im sp,.pm es1,.dk (ks++[kS q.1]) (ds++[.int v]),.im (.str q.1),.im (.int q.2)]):=by have:=wD (i:=2) (fk:=cV 3) (fv:=cC (.int v)) (ρ:=[.im sp,.pm es1,.dk ks ds,.im (.str q.1),.im (.int q.2)]) (x:=q.1) (d:=.int v) rfl rfl rfl hn (by omega) he;unfold pB at this ⊢;rw[ev];exact this
   simp only[st];refine g3.trans ?_;rw[ar,ar,bw,bw];rfl
 have ndV:(([]:List Key)++V0.map λq=>kS q.1).Nodup:=by have:=tf (l:=V0.map aD) (by rw[n0];exact nd);rw[aK]at this;rw[bI];exact this
 obtain⟨V,es',a',b',g1,g2,gw,g3⟩:=gen V0 es [] [] .un .un hi p0 ndV (by simp;omega) rfl;rw[bI,bI]at g3;refine⟨V,es',g1,?_,by rw[g2,n0],λp hp=>w0▸gw p hp⟩;have run:sU (stL 5 es [sp])=some (.rt (dcI V) [.im sp,.pm es',.im (dcI V),a',b']):=by unfold sU;refine(nV (ρ':=[.im sp,.pm es,.dk [] [],.un,.un]) rfl).trans ?_;refine(nV ((p5 (ds:=V0.map λq=>D.tup [.str q.1,.int q.2]) (ρ1:=[.im sp,.pm es,.dk [] [],.un,.un]) ?_).trans g3)).trans rfl;exact(GI (nY (g:=rT) (ds:=[sp]) (ρ1:=[.im sp,.pm es,.dk [] [],.un,.un]) rfl e0)).trans (by rw[zk])
 unfold sV fnL;rw[ai (show [sp].length=1 from rfl),run];rfl
abbrev atD(A:List (Str×Str)):L4.D:=.dic (A.map λq=>kS q.1) (A.map λq=>D.str q.2)
structure Pl(y:Str)(rm:aG)(A:List (Str×Str))(Hs:aG)(rk:Str->Nat)(m:Nat):Prop where
 nd:(A.map aD).Nodup
 lt:∀q∈A,rk q.2<rk q.1/\rk q.1<m
 vh:∀q∈A,q.2∈Hs
 hs:∀h∈Hs,rk h<m
 ry:rk y=1
 rr:∀x∈rm,rk x=0
variable{rk:Str->Nat}
theorem Pl.add{rm:aG}{A:List (Str×Str)}{m:Nat}(P:Pl y rm A Hs rk m){x h:Str}(hh:h∈Hs)(h1:x∉A.map aD)(h2:x∉Hs)(h3:x≠y)(h4:x∉rm)(Hs':aG)(hH:∀z∈Hs',z∈Hs\/z=x)(hS:∀z∈Hs,z∈Hs'):
  ∃rk',Pl y rm (A++[(x,h)]) Hs' rk' (m+1):=by
 have ne:∀z∈Hs,z≠x:=λz hz e=>h2 (e▸hz);refine⟨λz=>if z=x then m else rk z,?_,λq hq=>?_,λq hq=>?_,λz hz=>?_,?_,λz hz=>?_⟩
 ·rw[aR,bO];refine⟨P.nd,by simp,λa ha b hb=>?_⟩;simp only[ar,bJ,aW]at hb;subst hb;exact λe=>h1 (e▸ha)
 ·rcases bb.mp hq with hq|hq
  ·obtain⟨a,b⟩:=P.lt q hq;rw[aj (ne _ (P.vh q hq)),aj (show ¬q.1=x from λe=>h1 (e▸cg hq))];exact⟨a,by omega⟩
  ·rw[aW]at hq;subst hq;rw[aj (ne h hh),ai rfl];exact⟨P.hs h hh,by omega⟩
 ·rcases bb.mp hq with hq|hq
  ·exact hS _ (P.vh q hq)
  ·rw[aW]at hq;subst hq;exact hS _ hh
 ·by_cases e:z=x
  ·rw[ai e];omega
  ·rw[aj e];rcases hH z hz with hz|hz
   ·have:=P.hs z hz;omega
   ·exact aq hz e
 ·rw[aj (λe=>h3 e.symm)];exact P.ry
 ·rw[aj (show ¬z=x from λe=>h4 (e▸hz))];exact P.rr z hz
theorem BB{α:Type}:∀(l:List α) (j:Nat) (h:j<l.length),(l[j]::l.eraseIdx j).Perm l
 |a::l,0,_=>iH _
 |a::l,j+1,h=>(List.Perm.swap a _ _).trans ((BB l j (by simpa using h)).cons a)
theorem CY{α β:Type}(f:α->β):∀(l:List α) (j:Nat),(l.map f).eraseIdx j=(l.eraseIdx j).map f
 |[],j=>rfl
 |a::l,0=>rfl
 |a::l,j+1=>by show f a::(l.map f).eraseIdx j=_;rw[CY f l j];rfl
theorem DY{x:Str}(h1:fv ρ=some (d,ρ1))(h2:ρ1[i]?=some (.dk ks ds))(h3:fk ρ1=some (.str x,ρ1))(hn:kS x∉ks)(hl:ks.length<1000)(he:ds.length=ks.length):
  pB i fk fv ρ=some (.nx (ρ1.set i (.dk (ks++[kS x]) (ds++[d])))):=by
 have:=wD (i:=i) (fk:=fk) (fv:=cC d) (ρ:=ρ1) rfl h2 h3 hn hl he;unfold pB at this ⊢;rw[h1];exact this
theorem GK{A:List (Str×Str)}{x:Str}(h:x∉A.map aD):kS x∉A.map λq=>kS q.1:=λz=>by obtain⟨q,hq,e⟩:=aL.mp z;exact h (aL.mpr ⟨q,hq,LZ e⟩)
abbrev dkA(A:List (Str×Str)):Sl:=.dk (A.map λq=>kS q.1) (A.map λq=>D.str q.2)
theorem BC(A:List (Str×Str))(x h:Str):Sl.dk ((A.map λq=>kS q.1)++[kS x]) ((A.map λq=>D.str q.2)++[.str h])=dkA (A++[(x,h)]):=by unfold dkA;rw[aR,aR];rfl
theorem CZ:∀xs:aG,yS (xs.map D.str)=some (xs.map L3.Dq.str)
 |[]=>rfl
 |x::xs=>by rw[ar];unfold yS;rw[CZ xs];rfl
theorem Fj(x:Str)(xs:aG):dEq true (.lst ((x::xs).map D.str)) (.lst [])=some (.bl true):=by
 have e0:BP true (.lst ((x::xs).map D.str)) (.lst [])=none:=rfl;have e1:toD (.lst ((x::xs).map D.str))=some (.lst ((x::xs).map L3.Dq.str)):=by unfold toD;rw[CZ]
 have e3:dpt (.lst ((x::xs).map L3.Dq.str))=1:=by rw[dpt,yN]
 unfold dEq;rw[e0];show EB true _ _=_;unfold EB;rw[e1,show toD (.lst [])=some (.lst []) from rfl];show (if G3 (.lst ((x::xs).map L3.Dq.str)) (.lst [])&&decide (dpt (.lst ((x::xs).map L3.Dq.str))<=20)&&decide (dpt (.lst [])<=20)then some (D.bl !(eqD (.lst ((x::xs).map L3.Dq.str)) (.lst [])))else none)=_;rw[e3];rfl
def PB:FT:=w9 (cT (c2 (dEq true) aN (cL (oU ox))))
abbrev kQ:=(nU (xA (c1 pP aB)) ox)
def Mi:FS:=(n9 (oT 5 (xE 4 (pd nW 1 jj)))
 (n9 (pB 2 aY (zY 3 (pd nW 1 kQ)))
 (oV (v5 3 aY))))
theorem Fk(sp:L4.D)(y:Str)(rm:aG):∀(n:Nat) (bx:aG) (es:List L4.D) (A:List (Str×Str)) (Hs:aG) (rk:Str->Nat) (m f:Nat) (s5:Sl),bx.length=n->n<f->IL es->Pl y rm A Hs rk m->Hs≠[]->bx.Nodup->(∀b∈bx,b∉A.map aD/\b∉Hs/\b≠y/\b∉rm)->A.length+n<=900->Hs.length+n<=900->
  ∃(es':List L4.D) (A':List (Str×Str)) (Hs':aG) (rk':Str->Nat) (t5:Sl),IL es'/\Pl y rm A' Hs' rk' (m+n)/\(∀z∈Hs',z∈Hs\/z∈bx)/\(∀z∈Hs,z∈Hs')/\(∀z∈A'.map aD,z∈A.map aD\/z∈bx)/\A'.length=A.length+n/\Hs'.length<=Hs.length+n/\
   whL PB Mi f [.im sp,.pm es,dkA A,.ls (Hs.map D.str),.ls (bx.map D.str),s5,.un,.un]=some (.nx [.im sp,.pm es',dkA A',.ls (Hs'.map D.str),.ls [],t5,.un,.un])
 |0,bx,es,A,Hs,rk,m,f+1,s5,hb,_,hi,P,_,_,_,_,_=>by
  cases bx with
  |cons b bx=>cases hb
  |nil=>exact⟨es,A,Hs,rk,s5,hi,P,λz hz=>.inl hz,λz hz=>hz,λz hz=>.inl hz,rfl,az _,rfl⟩
 |n+1,bx,es,A,Hs,rk,m,f+1,s5,hb,hf,hi,P,h0,nd,fr,hA,hHl=>by
  obtain⟨v,es1,i1,v0,v1,d1⟩:=qd hi bx.length (by omega);obtain⟨j,rfl⟩:=cq v0;have hj:j<bx.length:=by omega
  let b:=bx[j];let bx':=bx.eraseIdx j;have perm:(b::bx').Perm bx:=BB bx j hj;have ndb:(b::bx').Nodup:=perm.nodup_iff.mpr nd;have hbm:b∈bx:=cj hj;obtain⟨f1,f2,f3,f4⟩:=fr b hbm;have hbl:bx'.length=n:=by have:=perm.length_eq;rw[aF]at this;omega
  let ρ1:aU:=[.im sp,.pm es1,dkA A,.ls (Hs.map D.str),.ls (bx'.map D.str),.im (.str b),.un,.un];obtain⟨h,es2,hh,i2,d2⟩:=GH (ρ:=ρ1) (i:=1) (j:=3) i1 h0 rfl rfl rfl (λ_=>rfl);obtain⟨rk1,P1⟩:=P.add hh f1 f2 f3 f4 (Hs++[b]) (λz hz=>by
   rcases bb.mp hz with hz|hz
   ·exact .inl hz
   ·exact .inr (aW.mp hz)) λz hz=>bE _ hz
  obtain⟨es',A',Hs',rk',t5,g1,g2,g3,g4,g5,g6,g7,g8⟩:=Fk sp y rm n bx' es2 (A++[(b,h)]) (Hs++[b]) rk1 (m+1) f (.im (.str b)) hbl (by omega) i2 P1 (by simp) (bV.mp ndb).2 (λc hc=>by
   obtain⟨q1,q2,q3,q4⟩:=fr c (perm.subset (ba _ hc));have ne:c≠b:=λe=>(bV.mp ndb).1 (e▸hc);refine⟨λz=>?_,λz=>?_,q3,q4⟩
   ·rw[aR]at z;rcases bb.mp z with z|z
    ·exact q1 z
    ·exact ne (by simpa using z)
   ·rcases bb.mp z with z|z
    ·exact q2 z
    ·exact ne (aW.mp z)) (by rw[ay,aZ];omega) (by rw[ay,aZ];omega)
  refine⟨es',A',Hs',rk',t5,g1,by rw[show m+(n+1)=m+1+n by omega];exact g2,λz hz=>?_,λz hz=>g4 z (bE _ hz),λz hz=>?_,by rw[g6,ay,aZ];omega,by rw[ay,aZ]at g7;omega,?_⟩
  ·rcases g3 z hz with h|h
   ·rcases bb.mp h with h|h
    ·exact .inl h
    ·exact .inr (by rw[aW.mp h];exact hbm)
   ·exact .inr (perm.subset (ba _ h))
  ·rcases g5 z hz with h|h
   ·rw[aR]at h;rcases bb.mp h with h|h
    ·exact .inl h
    ·exact .inr (by rw[show z=b by simpa using h];exact hbm)
   ·exact .inr (perm.subset (ba _ h))
  ·have et:PB [.im sp,.pm es,dkA A,.ls (Hs.map D.str),.ls (bx.map D.str),s5,.un,.un]=some (true,[.im sp,.pm es,dkA A,.ls (Hs.map D.str),.ls (bx.map D.str),s5,.un,.un]):=by
    cases hx:bx with
    |nil=>rw[hx]at hb;cases hb
    |cons c bc=>exact Dy (ρ1:=[.im sp,.im (.lst es),.un,.im (.lst (Hs.map D.str)),.im (.lst ((c::bc).map D.str)),s5.bor,.un,.un]) (pL (om rfl rfl (Fj c bc)))
   have ep:xE 4 (pd nW 1 jj) [.im sp,.pm es,dkA A,.ls (Hs.map D.str),.ls (bx.map D.str),s5,.un,.un]=some (.str b,[.im sp,.pm es1,dkA A,.ls (Hs.map D.str),.ls (bx'.map D.str),s5,.un,.un]):=by have e1:xA (c1 pP aN) [.im sp,.pm es,dkA A,.ls (Hs.map D.str),.ls (bx.map D.str),s5,.un,.un]=some (.int bx.length,[.im sp,.pm es,dkA A,.ls (Hs.map D.str),.ls (bx.map D.str),s5,.un,.un]):=KY (ρ1:=[.im sp,.im (.lst es),.un,.im (.lst (Hs.map D.str)),.im (.lst (bx.map D.str)),s5.bor,.un,.un]) (oX (x:=.lst (bx.map D.str)) rfl (by show some (D.int _)=_;rw[ah])) rfl;have e2:pd nW 1 jj [.im sp,.pm es,dkA A,.ls (Hs.map D.str),.ls (bx.map D.str),s5,.un,.un]=some (.int j,[.im sp,.pm es1,dkA A,.ls (Hs.map D.str),.ls (bx.map D.str),s5,.un,.un]):=(qR (es0:=es) (es:=es) (ρ1:=[.im sp,.pm es,dkA A,.ls (Hs.map D.str),.ls (bx.map D.str),s5,.un,.un]) rfl (nX e1 rfl) rfl d1).trans rfl;unfold xE;rw[show pZ [.im sp,.pm es,dkA A,.ls (Hs.map D.str),.ls (bx.map D.str),s5,.un,.un] 4=some (bx.map D.str) from rfl];simp only[e2];rw[show pZ [.im sp,.pm es1,dkA A,.ls (Hs.map D.str),.ls (bx.map D.str),s5,.un,.un] 4=some (bx.map D.str) from rfl];simp only;rw[ai (by omega),dY,bt,aI hj];show (if (j:Int)<1000000 then some (D.str b,[Sl.im sp,.pm es1,dkA A,.ls (Hs.map D.str),.ls ((bx.map D.str).eraseIdx j),s5,.un,.un])else none)=_;rw[ai (by omega),CY]
   have e3:Mi [.im sp,.pm es,dkA A,.ls (Hs.map D.str),.ls (bx.map D.str),s5,.un,.un]=some (.nx [.im sp,.pm es2,dkA (A++[(b,h)]),.ls ((Hs++[b]).map D.str),.ls (bx'.map D.str),.im (.str b),.un,.un]):=by
    unfold Mi;refine(nV (ρ':=ρ1) ((oG ep).trans rfl)).trans ?_;refine(nV (ρ':=[.im sp,.pm es2,dkA (A++[(b,h)]),.ls (Hs.map D.str),.ls (bx'.map D.str),.im (.str b),.un,.un]) ((DY (x:=b) d2 rfl rfl (GK f1) (by rw[ah];omega) (by rw[ah,ah])).trans ?_)).trans ?_
    ·show some (Out.nx [.im sp,.pm es2,Sl.dk ((A.map λq=>kS q.1)++[kS b]) ((A.map λq=>D.str q.2)++[.str h]),.ls (Hs.map D.str),.ls (bx'.map D.str),.im (.str b),.un,.un])=_;rw[BC]
    ·refine(pW (yU (es0:=Hs.map D.str) (es:=Hs.map D.str) (ρ1:=[.im sp,.pm es2,dkA (A++[(b,h)]),.ls (Hs.map D.str),.ls (bx'.map D.str),.im (.str b),.un,.un]) (d:=.str b) rfl rfl rfl (by rw[ah];omega))).trans ?_;show some (Out.nx [.im sp,.pm es2,dkA (A++[(b,h)]),.ls (Hs.map D.str++[.str b]),.ls (bx'.map D.str),.im (.str b),.un,.un])=_;rw[show Hs.map D.str++[D.str b]=(Hs++[b]).map D.str by rw[aR];rfl]
   unfold whL;rw[et];simp only[e3];exact g8
theorem Fl(sp:L4.D)(y:Str)(rm:aG)(s4 s5:Sl):∀(l:aG) (es:List L4.D) (A:List (Str×Str)) (Hs:aG) (rk:Str->Nat) (m:Nat) (s6:Sl),IL es->Pl y rm A Hs rk m->Hs≠[]->l.Nodup->(∀b∈l,b∉A.map aD/\b∉Hs/\b≠y/\b∉rm)->A.length+l.length<=900->
  ∃(es':List L4.D) (A':List (Str×Str)) (rk':Str->Nat) (t6:Sl),IL es'/\Pl y rm A' Hs rk' (m+l.length)/\(∀z∈A'.map aD,z∈A.map aD\/z∈l)/\A'.length=A.length+l.length/\
   forL (gN 6) (pB 2 bh (zY 3 (pd nW 1 kQ))) (l.map D.str) [.im sp,.pm es,dkA A,.ls (Hs.map D.str),s4,s5,s6,.un]=some (.nx [.im sp,.pm es',dkA A',.ls (Hs.map D.str),s4,s5,t6,.un])
 |[],es,A,Hs,rk,m,s6,hi,P,_,_,_,_=>⟨es,A,rk,s6,hi,P,λz hz=>.inl hz,rfl,rfl⟩
 |b::l,es,A,Hs,rk,m,s6,hi,P,h0,nd,fr,hA=>by
  rw[aF]at hA;obtain⟨f1,f2,f3,f4⟩:=fr b aS;let ρ1:aU:=[.im sp,.pm es,dkA A,.ls (Hs.map D.str),s4,s5,.im (.str b),.un];obtain⟨h,es2,hh,i2,d2⟩:=GH (ρ:=ρ1) (i:=1) (j:=3) hi h0 rfl rfl rfl (λ_=>rfl);obtain⟨rk1,P1⟩:=P.add hh f1 f2 f3 f4 Hs (λz hz=>.inl hz) λz hz=>hz;obtain⟨es',A',rk',t6,g1,g2,g5,g6,g8⟩:=Fl sp y rm s4 s5 l es2 (A++[(b,h)]) Hs rk1 (m+1) (.im (.str b)) i2 P1 h0 (bV.mp nd).2 (λc hc=>by
   obtain⟨q1,q2,q3,q4⟩:=fr c (ba _ hc);have ne:c≠b:=λe=>(bV.mp nd).1 (e▸hc);refine⟨λz=>?_,q2,q3,q4⟩;rw[aR]at z;rcases bb.mp z with z|z
   ·exact q1 z
   ·exact ne (by simpa using z)) (by rw[ay,aZ];omega)
  refine⟨es',A',rk',t6,g1,by rw[aF,show m+(l.length+1)=m+1+l.length by omega];exact g2,λz hz=>?_,by rw[g6,ay,aZ,aF];omega,?_⟩
  ·rcases g5 z hz with h|h
   ·rw[aR]at h;rcases bb.mp h with h|h
    ·exact .inl h
    ·exact .inr (by rw[show z=b by simpa using h];exact aS)
   ·exact .inr (ba _ h)
  ·rw[ar];unfold forL;rw[show gN 6 (.str b) [.im sp,.pm es,dkA A,.ls (Hs.map D.str),s4,s5,s6,.un]=some ρ1 from rfl];have st:pB 2 bh (zY 3 (pd nW 1 kQ)) ρ1=some (.nx [.im sp,.pm es2,dkA (A++[(b,h)]),.ls (Hs.map D.str),s4,s5,.im (.str b),.un]):=by refine(DY (x:=b) d2 rfl rfl (GK f1) (by rw[ah];omega) (by rw[ah,ah])).trans ?_;show some (Out.nx [.im sp,.pm es2,Sl.dk ((A.map λq=>kS q.1)++[kS b]) ((A.map λq=>D.str q.2)++[.str h]),.ls (Hs.map D.str),s4,s5,.im (.str b),.un])=_;rw[BC]
   simp only[st];exact g8
theorem Mj(nd:(T.map Th.n).Nodup){u:Th}(ht:t∈T)(hu:u∈T)(e:t.n=u.n):t=u:=by
 induction T with
 |nil=>cases ht
 |cons a T ih=>
  rw[ar,bV]at nd;rcases aP.mp ht with h1|h1<;>rcases aP.mp hu with h2|h2
  ·exact h1.trans h2.symm
  ·exact aq (show a.n∈T.map Th.n from h1▸e▸cg h2) nd.1
  ·exact aq (show a.n∈T.map Th.n from h2▸e▸cg h1) nd.1
  ·exact ih nd.2 h1 h2
variable{p:Kd->Bool}
theorem sX{x:Str}(h:x∈nmK T p):∃t∈T,t.n=x/\p t.k=true:=by obtain⟨t,h1,h2⟩:=aL.mp h;obtain⟨h3,h4⟩:=ck.mp h1;exact⟨t,h3,h2,h4⟩
variable{q:Kd->Bool}
theorem wF(nd:(T.map Th.n).Nodup)(h:∀k,p k=true->q k=true->False){x:Str}(h1:x∈nmK T p)(h2:x∈nmK T q):False:=by obtain⟨t,a1,a2,a3⟩:=sX h1;obtain⟨u,b1,b2,b3⟩:=sX h2;have:=Mj nd a1 b1 (a2.trans b2.symm);subst this;exact h _ a3 b3
theorem DZ(h:∀k,p k=true->q k=true):(nmK T p).length<=(T.filter λt=>q t.k).length:=by unfold nmK;rw[ah,<- lj,<- lj];exact List.countP_mono_left λt _ ht=>h _ ht
theorem HP:∀{l L:aG},l.Nodup->(∀x∈l,x∈L)->L.length<=l.length->∀x∈L,x∈l
 |[],L,_,_,hl,x,hx=>by rw[cQ,Nat.le_zero,hU]at hl;subst hl;cases hx
 |a::l,L,nd,hs,hl,x,hx=>by
  rw[bV]at nd;have ha:=hs a aS;by_cases e:x=a
  ·rw[e];exact aS
  ·refine ba _ (HP (L:=L.erase a) nd.2 (λz hz=>(jw (show z≠a from λw=>nd.1 (w▸hz))).mpr (hs z (ba _ hz))) ?_ x ((jw e).mpr hx));rw[lF ha];rw[aF]at hl;omega
structure TJ(A:List (Str×Str))(y:Str):Prop where
 nd:(A.map aD).Nodup
 rk:∃rk:Str->Nat,∀q∈A,rk q.2<rk q.1/\rk q.1<40
 yo:∃r,(y,r)∈A
 ln:A.length<=20
theorem JB(g:Good T M dk)(hy:(T.filter λt=>decide (t.k=.you)).map Th.n=[y])(hi:IL es):∃(A:List (Str×Str)) (es':List L4.D),IL es'/\TJ A y/\(∀q∈A,q.2∈T.map Th.n)/\((∀x,x∈A.map aD ↔ x∈nmK T λk=>!decide (k=.room))/\(∀q∈A,q.2∈nmK T Kd.hd)/\∀r,(y,r)∈A->r∈nmK T λk=>decide (k=.room))/\sC es [rV T M dk y]=some (atD A,es'):=by
 have hl:=g.len;have nd:=g.ndT;let sp:=rV T M dk y;let rm:=nmK T λk=>decide (k=.room);let bx:=nmK T λk=>decide (k=.box);let ot:=nmK T Kd.ot;let Hs:=nmK T λk=>!k.pl;have hyy:y∈nmK T λk=>decide (k=.you):=by unfold nmK;rw[hy];exact aW.mpr rfl
 have hyH:y∈Hs:=by obtain⟨t,h1,h2,h3⟩:=sX hyy;refine aL.mpr ⟨t,ck.mpr ⟨h1,?_⟩,h2⟩;rw[bA h3];rfl
 have yrm:∀x∈rm,x≠y:=λx hx e=>wF nd (λk h1 h2=>by rw[bA h1]at h2;cases h2) (e▸hx) hyy;have P0:Pl y rm [] Hs (λz=>if z=y then 1 else 0) 2:=⟨fw,λq hq=>(bu hq).elim,λq hq=>(bu hq).elim,λh _=>by split<;>omega,ai rfl,λx hx=>aj (yrm x hx)⟩;have fresh:∀(p:Kd->Bool),(∀k,p k=true->k.pl=true)->∀b∈nmK T p,b∉Hs/\b≠y/\b∉rm:=λp hp b hb=>⟨λz=>wF nd (λk h1 h2=>by rw[hp k h1]at h2;cases h2) hb z,λe=>wF nd (λk h1 h2=>by have:=hp k h1;rw[bA h2]at this;cases this) hb (e▸hyy),λz=>wF nd (λk h1 h2=>by have:=hp k h1;rw[bA h2]at this;cases this) hb z⟩
 have hpb:∀k:Kd,decide (k=.box)=true->k.pl=true:=λk h=>by rw[bA h];rfl
 have hpo:∀k:Kd,k.ot=true->k.pl=true:=λk h=>by cases k<;>first|rfl|cases h
 have hbl:bx.length<=7:=bS (DZ hpb) g.p7;have hol:ot.length<=7:=bS (DZ hpo) g.p7;have hHl:Hs.length<=200:=by have:=(pE T λk=>!k.pl).length_le;rw[ah]at this;exact bS this hl
 obtain⟨es1,A1,Hs1,rk1,t5,i1,P1,h3,h4,h5,h6,h7,h8⟩:=Fk sp y rm bx.length bx es [] Hs _ 2 50 .un rfl (by omega) hi P0 (λe=>by rw[e]at hyH;cases hyH) (nd.sublist (pE T _)) (λb hb=>⟨λz=>(bu z).elim,fresh _ hpb b hb⟩) (by simp;omega) (by omega);have frO:∀b∈ot,b∉bx:=λb hb z=>wF nd (λk h1 h2=>by rw[bA h2]at h1;cases h1) hb z;obtain⟨es2,A2,rk2,t6,i2,P2,q5,q6,q8⟩:=Fl sp y rm (.ls []) t5 ot es1 A1 Hs1 rk1 (2+bx.length) .un i1 P1 (λe=>by have:=h4 y hyH;rw[e]at this;cases this) (nd.sublist (pE T _)) (λb hb=>by
  obtain⟨f1,f2,f3⟩:=fresh _ hpo b hb;refine⟨λz=>?_,λz=>?_,f2,f3⟩
  ·rcases h5 b z with z|z
   ·cases z
   ·exact frO b hb z
  ·rcases h3 b z with z|z
   ·exact f1 z
   ·exact frO b hb z) (by rw[h6];simp;omega)
 have hrl:0<rm.length:=by have:=g.r1;simp only[rm,nmK,ah];omega
 obtain⟨v,es3,i3,v0,v1,d3⟩:=qd i2 rm.length (by omega);obtain⟨j,rfl⟩:=cq v0;have hj:j<rm.length:=by omega
 let z:=rm[j];have hz:z∈rm:=cj hj;have hyk:y∉A2.map aD:=λw=>by
  rcases q5 y w with w|w
  ·rcases h5 y w with w|w
   ·cases w
   ·exact(fresh _ hpb y w).2.1 rfl
  ·exact(fresh _ hpo y w).2.1 rfl
 have hA2:A2.length<=14:=by rw[q6,h6];simp;omega
 refine⟨A2++[(y,z)],es3,i3,⟨?_,⟨rk2,λq hq=>?_⟩,⟨z,by simp⟩,by rw[ay,aZ];omega⟩,λq hq=>?_,⟨?K,?Hd,?Ry⟩,?_⟩
 ·rw[aR,bO];refine⟨P2.nd,by simp,λa ha b hb=>?_⟩;simp only[ar,bJ,aW]at hb;subst hb;exact λe=>hyk (e▸ha)
 ·rcases bb.mp hq with hq|hq
  ·obtain⟨a,b⟩:=P2.lt q hq;exact⟨a,by omega⟩
  ·rw[aW]at hq;subst hq;show rk2 z<rk2 y/\rk2 y<40;rw[P2.rr z hz,P2.ry];omega
 ·rcases bb.mp hq with hq|hq
  ·rcases h3 _ (P2.vh q hq)with w|w<;>exact(pE T _).subset w
  ·rw[aW]at hq;subst hq;exact(pE T _).subset hz
 case K=>
  have sub:∀x∈(A2++[(y,z)]).map aD,x∈bx++(ot++[y]):=λx hx=>by
   rw[aR]at hx;rcases bb.mp hx with hx|hx
   ·rcases q5 x hx with w|w
    ·rcases h5 x w with w|w
     ·cases w
     ·exact bE _ w
    ·exact bD _ (bE _ w)
   ·exact bD _ (bD _ hx)
  have nd2:((A2++[(y,z)]).map aD).Nodup:=by rw[aR,bO];refine⟨P2.nd,by simp,λa ha b hb=>?_⟩;simp only[ar,bJ,aW]at hb;subst hb;exact λe=>hyk (e▸ha)
  have ln:(bx++(ot++[y])).length<=((A2++[(y,z)]).map aD).length:=by rw[ah,ay,ay,ay,q6,h6,cQ,aZ,aZ];omega
  have all:=HP nd2 sub ln;have tok:∀(p:Kd->Bool),(∀k,p k=true->(!decide (k=.room))=true)->∀x∈nmK T p,x∈nmK T λk=>!decide (k=.room):=λp hp x hx=>by obtain⟨t,h1,h2,h3⟩:=sX hx;exact aL.mpr ⟨t,ck.mpr ⟨h1,hp _ h3⟩,h2⟩
  intro x;constructor
  ·intro hx;rcases bb.mp (sub x hx)with w|w
   ·exact tok _ (λk h=>by rw[bA h];rfl) x w
   ·rcases bb.mp w with w|w
    ·exact tok _ (λk h=>by cases k<;>first|rfl|cases h) x w
    ·rw[aW]at w;rw[w];exact tok _ (λk h=>by rw[bA h];rfl) y hyy
  ·intro hx;obtain⟨t,t1,t2,t3⟩:=sX hx;apply all;have mk:∀p:Kd->Bool,p t.k=true->x∈nmK T p:=λp h=>aL.mpr ⟨t,ck.mpr ⟨t1,h⟩,t2⟩;cases hk:t.k with
   |room=>rw[hk]at t3;cases t3
   |you=>have:=mk (λk=>decide (k=.you)) (by rw[hk];rfl);unfold nmK at this;rw[hy]at this;exact bD _ (bD _ this)
   |box=>exact bE _ (mk (λk=>decide (k=.box)) (by rw[hk];rfl))
   |plain=>exact bD _ (bE _ (mk Kd.ot (by rw[hk];rfl)))
   |fixed=>exact bD _ (bE _ (mk Kd.ot (by rw[hk];rfl)))
   |lamp=>exact bD _ (bE _ (mk Kd.ot (by rw[hk];rfl)))
 case Hd=>
  have toh:∀(p:Kd->Bool),(∀k,p k=true->k.hd=true)->∀x∈nmK T p,x∈nmK T Kd.hd:=λp hp x hx=>by obtain⟨t,h1,h2,h3⟩:=sX hx;exact aL.mpr ⟨t,ck.mpr ⟨h1,hp _ h3⟩,h2⟩
  intro q hq;rcases bb.mp hq with hq|hq
  ·rcases h3 _ (P2.vh q hq)with w|w
   ·exact toh _ (λk h=>by cases k<;>first|rfl|cases h) _ w
   ·exact toh _ (λk h=>by rw[bA h];rfl) _ w
  ·rw[aW]at hq;subst hq;exact toh _ (λk h=>by rw[bA h];rfl) _ hz
 case Ry=>
  intro r hr;rcases bb.mp hr with hr|hr
  ·exact aq (aL.mpr ⟨_,hr,rfl⟩) hyk
  ·rw[aW]at hr;cases hr;exact hz
 have run:sA (stL 8 es [sp])=some (.rt (atD (A2++[(y,z)])) [.im sp,.pm es3,.im (atD (A2++[(y,z)])),.ls (Hs1.map D.str),.ls [],t5,t6,.im (.lst (rm.map D.str))]):=by
  unfold sA;refine(nV (ρ':=[.im sp,.pm es,.dk [] [],.un,.un,.un,.un,.un]) rfl).trans ?_;refine(nV (ρ':=[.im sp,.pm es,.dk [] [],.ls (Hs.map D.str),.un,.un,.un,.un]) ((yc (nY (nX rfl (nX rfl rfl)) (of_ok (by omega) (λk=>!k.pl) Vo))).trans rfl)).trans ?_;refine(nV (ρ':=[.im sp,.pm es,.dk [] [],.ls (Hs.map D.str),.ls (bx.map D.str),.un,.un,.un]) ((yc (nY (nX rfl (nX rfl rfl)) (of_ok (by omega) (λk=>decide (k=.box)) TH))).trans rfl)).trans ?_;refine(nV h8).trans ?_;refine(nV ((p5 (BA (px (nY (nX rfl (nX rfl rfl)) (of_ok (by omega) Kd.ot Pz))))).trans q8)).trans ?_;refine(nV (ρ':=[.im sp,.pm es2,dkA A2,.ls (Hs1.map D.str),.ls [],t5,t6,.im (.lst (rm.map D.str))]) ((oG (px (nY (nX rfl (nX rfl rfl)) (of_ok (by omega) (λk=>decide (k=.room)) O0)))).trans rfl)).trans ?_;have ev:c2 dIx bN (pd nW 1 (nU (c1 pP bN) ox)) [.im sp,.pm es2,dkA A2,.ls (Hs1.map D.str),.ls [],t5,t6,.im (.lst (rm.map D.str))]=some (.str z,[.im sp,.pm es3,dkA A2,.ls (Hs1.map D.str),.ls [],t5,t6,.im (.lst (rm.map D.str))]):=
   om (x:=.lst (rm.map D.str)) (y:=.int j) (ρ1:=[.im sp,.pm es2,dkA A2,.ls (Hs1.map D.str),.ls [],t5,t6,.im (.lst (rm.map D.str))]) rfl ((qR (i:=1) (es0:=es2) (es:=es2) (ρ1:=[.im sp,.pm es2,dkA A2,.ls (Hs1.map D.str),.ls [],t5,t6,.im (.lst (rm.map D.str))]) (ds:=[.int rm.length]) rfl (by show some ([D.int ((rm.map D.str).length:Nat)],_)=_;rw[ah]) rfl d3).trans rfl) (uZ (aI hj))
  refine(nV (ρ':=[.im sp,.pm es3,dkA (A2++[(y,z)]),.ls (Hs1.map D.str),.ls [],t5,t6,.im (.lst (rm.map D.str))]) ((DY (x:=y) ev rfl rfl (GK hyk) (by rw[ah];omega) (by rw[ah,ah])).trans ?_)).trans rfl;show some (Out.nx [.im sp,.pm es3,Sl.dk ((A2.map λq=>kS q.1)++[kS y]) ((A2.map λq=>D.str q.2)++[.str z]),.ls (Hs1.map D.str),.ls [],t5,t6,.im (.lst (rm.map D.str))])=_;rw[BC]
 unfold sC fnL;rw[ai (show [sp].length=1 from rfl),run];rfl
theorem xO{α β:Type}{f:α->β}(hf:∀a b,f a=f b->a=b){l:List α}(h:l.Nodup):(l.map f).Nodup:=List.Pairwise.map f (λa b h e=>h (hf a b e)) h
abbrev Ky:=Str×Str
def prD(q:Ky×L4.D):L4.D:=.tup [.tup [.str q.1.1,.str q.1.2],q.2]
theorem O1(a b c d:Str):dEq false (.tup [.str a,.str b]) (.tup [.str c,.str d])=some (.bl (decide ((a,b)=(c,d)))):=by have e0:BP false (.tup [.str a,.str b]) (.tup [.str c,.str d])=none:=rfl;have e1:EB false (.tup [.str a,.str b]) (.tup [.str c,.str d])=some (.bl (L3.eqD (.tup [.str a,.str b]) (.tup [.str c,.str d]))):=rfl;unfold dEq;rw[e0];simp only;rw[e1];congr 2;rw[de];simp[L3.eqD,L3.sM]
theorem BD(p:Sl)(k:Ky):∀(S:List (Ky×L4.D)) (s:Sl),∃s',(∃d,(k,d)∈S/\forL (gN 2) (sIf (cT (c2 (dEq false) (c2 dIx aw aX) ak)) (oQ (c2 dIx aw aJ)) o5) (S.map prD) [p,.im (.tup [.str k.1,.str k.2]),s]=some (.rt d [p,.im (.tup [.str k.1,.str k.2]),s']))\/
  (k∉S.map aD/\forL (gN 2) (sIf (cT (c2 (dEq false) (c2 dIx aw aX) ak)) (oQ (c2 dIx aw aJ)) o5) (S.map prD) [p,.im (.tup [.str k.1,.str k.2]),s]=some (.nx [p,.im (.tup [.str k.1,.str k.2]),s']))
 |[],s=>⟨s,.inr ⟨bu,rfl⟩⟩
 |q::S,s=>by
  have ev:cT (c2 (dEq false) (c2 dIx aw aX) ak) [p,.im (.tup [.str k.1,.str k.2]),.im (prD q)]=some (decide (q.1=k),[p,.im (.tup [.str k.1,.str k.2]),.im (prD q)]):=pL (om (x:=.tup [.str q.1.1,.str q.1.2]) (y:=.tup [.str k.1,.str k.2]) rfl rfl (O1 _ _ _ _));rw[ar];unfold forL;rw[show gN 2 (prD q) [p,.im (.tup [.str k.1,.str k.2]),s]=some [p,.im (.tup [.str k.1,.str k.2]),.im (prD q)] from rfl];by_cases h:q.1=k
  ·rw[aV h]at ev;refine⟨.im (prD q),.inl ⟨q.2,by rw[<-h];exact aS,?_⟩⟩;simp only[ph ev];rfl
  ·rw[aO h]at ev;obtain⟨s',h1⟩:=BD p k S (.im (prD q));simp only[oZ ev];refine⟨s',?_⟩;rcases h1 with ⟨d,h1,h2⟩|⟨h1,h2⟩
   ·exact .inl ⟨d,ba _ h1,h2⟩
   ·exact .inr ⟨λz=>by
     rw[ar]at z;rcases aP.mp z with z|z
     ·exact h z.symm
     ·exact h1 z,h2⟩
theorem Fm(S:List (Ky×L4.D))(k:Ky):(∃d,(k,d)∈S/\vz [.tup (S.map prD),.tup [.str k.1,.str k.2]]=some d)\/(k∉S.map aD/\vz [.tup (S.map prD),.tup [.str k.1,.str k.2]]=some .non):=by
 obtain⟨s',h⟩:=BD (.im (.tup (S.map prD))) k S .un;rcases h with ⟨d,h1,h2⟩|⟨h1,h2⟩
 ·refine .inl ⟨d,h1,oP rfl (oW ((p5 rfl).trans h2))⟩
 ·refine .inr ⟨h1,oP rfl ((nV ((p5 rfl).trans h2)).trans rfl)⟩
def bas(A:List (Str×Str))(V:List (Str×Int)):List (Ky×L4.D):=(A.map λq=>((("at", q.1):Ky),D.str q.2))++V.map λq=>((("mark", q.1):Ky),D.int q.2)
theorem Fn:∀B:List (Ky×L4.D),v9 (B.map prD)=some (B.map λq=>[q.1.1,q.1.2])
 |[]=>rfl
 |q::B=>by rw[ar];unfold v9;rw[Fn B];rfl
theorem GL{α:Type}(d:α):∀l:List α,(bg l.length).map (λi=>l.getD i d)=l:=λl=>by
 apply mO
 ·rw[ah,dw]
 ·intro i h1 h2;rw[iy,ml,bH,aI h2];rfl
theorem BE:∀V:List (Str×Str),uN ((V.map λq=>kS q.1).map Gb) (V.map λq=>D.str q.2)=V.map λq=>D.tup [.str q.1,.str q.2]
 |[]=>rfl
 |q::V=>by have:=BE V;unfold uN at this ⊢;rw[ar,ar,ar,du,this];rfl
theorem O2(h:e ρ=some (.lst ds,ρ1))(h1:Cw ds=some es):A4 e ρ=some (es,ρ1):=by unfold A4;rw[h];simp only[h1]
structure JC(A:List (Str×Str))(V:List (Str×Int))(S:List (Ky×L4.D)):Prop where
 i:∀q∈A,((("at", q.1):Ky),D.str q.2)∈S
 o:∀x d,((("at", x):Ky),d)∈S->∃z,d=.str z/\(x,z)∈A
 mi:∀q∈V,((("mark", q.1):Ky),D.int q.2)∈S
 mo:∀x d,((("mark", x):Ky),d)∈S->∃z,d=.int z/\(x,z)∈V
inductive Ch(A:List (Str×Str)):Str->aG->Prop
 |nil {x}:x∉A.map aD->Ch A x []
 |cons {x z l}:(x,z)∈A->Ch A z l->Ch A x (z::l)
theorem Ml{A:List (Str×Str)}(a:TJ A y)(x:Str):∃l,Ch A x l/\l.length<=40:=by
 obtain⟨rk,hr⟩:=a.rk;have gen:∀(n:Nat) (x:Str),(x∈A.map aD->rk x<n)->∃l,Ch A x l/\l.length<=n:=by
  intro n
  induction n with
  |zero=>intro x h;exact⟨[],.nil (λz=>aq (h z) (by omega)),by simp⟩
  |succ n ih=>
   intro x h;by_cases hx:x∈A.map aD
   ·obtain⟨q,hq,rfl⟩:=aL.mp hx;have:=h hx;obtain⟨l,h1,h2⟩:=ih q.2 λ_=>by have:=(hr q hq).1;omega
    exact⟨q.2::l,.cons hq h1,by rw[aF];omega⟩
   ·exact⟨[],.nil hx,by simp⟩
 exact gen 40 x λh=>by obtain⟨q,hq,rfl⟩:=aL.mp h;exact(hr q hq).2
theorem Vp{A:List (Str×Str)}(hr:∀q∈A,rk q.2<rk q.1){x:Str}{l:aG}(c:Ch A x l):l.Nodup/\∀a∈l,rk a<rk x:=by
 induction c with
 |nil _=>exact⟨fw,λa h=>(bu h).elim⟩
 |@cons x z l h _ ih=>
  have hz:=hr _ h;refine⟨bV.mpr ⟨λw=>aq (ih.2 z w) (by omega),ih.1⟩,λa ha=>?_⟩;rcases aP.mp ha with e|ha
  ·rw[e];exact hz
  ·have:=ih.2 a ha;have hz':rk z<rk x:=hz;omega
abbrev kL(k:Ky):aG:=[k.1,k.2]
def kD(k:Ky):L4.D:=.tup [.str k.1,.str k.2]
def Mm(ks:List aG):List aG:=(ve (λi j=>pX (ks.getD i []) (ks.getD j [])) ks.length).map λi=>ks.getD i []
theorem getD_map{α β:Type}(f:α->β)(a:α)(b:β)(l:List α)(h:i<l.length):(l.map f).getD i b=f (l.getD i a):=by rw[bH,bH,bt,aI h];rfl
theorem Mn(B:List (Ky×L4.D))(nd:(B.map aD).Nodup)(h0:0<B.length)(h1:B.length<64):∃S:List (Ky×L4.D),S.Perm B/\Cw (B.map prD)=some (S.map prD)/\S.map (λq=>kL q.1)=Mm (B.map λq=>kL q.1):=by
 let ks:=B.map λq=>kL q.1;have hn:ks.Nodup:=by
  have:ks=(B.map aD).map kL:=by rw[aK];rfl
  rw[this];exact xO (λa b h=>by injection h with a1 a2;injection a2 with a2 _;exact ja a1 a2) nd
 let c:Nat->Nat->Bool:=λi j=>pX (ks.getD i []) (ks.getD j []);refine⟨(ve c B.length).map λi=>B.getD i (("", ""),.non),?_,?_,?_⟩
 ·have:=(uP c h0).map λi=>B.getD i (("", ""),.non);rw[GL]at this;exact this
 ·unfold Cw;rw[Fn];simp only[ah];rw[ai ⟨hn,h0,h1⟩,aK];congr 1;exact ie λi hi=>getD_map prD (("", ""),.non) .non B (uc c h0 i hi)
 ·unfold Mm;rw[aK,ah];exact ie λi hi=>(getD_map (λq:Ky×L4.D=>kL q.1) (("", ""),.non) [] B (uc c h0 i hi)).symm
theorem Fo:∀P:List Ky,wb (P.map kD)=some (P.map kL)
 |[]=>rfl
 |q::P=>by rw[ar];unfold wb;rw[Fo P];rfl
theorem Mo(P:List Ky)(h0:0<P.length)(h1:P.length<64):∃R:List Ky,y6 (P.map kD)=some (R.map kD)/\R.map kL=Mm (P.map kL):=by
 let ks:=P.map kL;let c:Nat->Nat->Bool:=λi j=>pX (ks.getD i []) (ks.getD j []);refine⟨(ve c P.length).map λi=>P.getD i ("", ""),?_,?_⟩
 ·unfold y6;rw[Fo];simp only[ah];rw[ai ⟨h0,h1⟩,aK];congr 1;exact ie λi hi=>getD_map kD ("", "") .non P (uc c h0 i hi)
 ·unfold Mm;rw[aK,ah];exact ie λi hi=>(getD_map kL ("", "") [] P (uc c h0 i hi)).symm
theorem Mp:∀{l m:List Ky},l.map kL=m.map kL->l=m
 |[],[],_=>rfl
 |[],_::_,h=>by cases h
 |_::_,[],h=>by cases h
 |a::l,b::m,h=>by rw[ar,ar]at h;injection h with h1 h2;injection h1 with a1 a2;injection a2 with a2 _;rw[Mp h2,ja a1 a2]
def z8(T:List Th)(M:List Mk):List Ky:=((nmK T λk=>!decide (k=.room)).map λx=>(("at", x):Ky))++(nmK T Kd.mk++M.map Mk.n).map λx=>(("mark", x):Ky)
theorem BZ(T:List Th)(M:List Mk)(hl:T.length<=200)(hM:M.length<=4):qo [TD T,MD M]=some ((nmK T Kd.mk++M.map Mk.n).map D.str):=by
 let ρ:aU:=[.im (TD T),.im (MD M)];have h:=fR (λt:Th=>t.k.mk) T;refine(yV (ρ:=ρ) rfl (tZ (rL (px (uB thD (λt=>D.str t.n) (λt=>t.k.mk) T (ρ1:=ρ) rfl (by omega) λt _=>⟨[.im (thD t)],[.im (thD t)],rfl,pL (pK (xs:=[.str t.n,.tup (t.w.map D.str),.str t.k.s,oS t.s]) (ys:=[]) rfl rfl rfl rfl (DU t)),λ_=>⟨_,oX rfl (sR t),rfl⟩,λ_=>rfl⟩))
  (px (um mkD (λt=>D.str t.n) M rfl (by omega) λt _=>⟨_,_,rfl,oX rfl (Aj t),rfl⟩)) (by rw[ah,ah];omega)))).trans ?_
 unfold nmK;rw[aR,aK,aK];rfl
section
variable{A:List (Str×Str)}{V:List (Str×Int)}{y:Str}{T:List Th}{M:List Mk}{dk:aG}{mo:L4.D}
abbrev wO(T:List Th)(M:List Mk)(dk:aG)(y:Str)(mo:L4.D):L4.D:=.obj 14 wNs (wDs T M dk y mo)
theorem TL(t:Th):dEq true (.str t.k.s) (.str "room")=some (.bl (!decide (t.k=.room))):=by cases t.k<;>kernel_rfl
abbrev jg:=(cC (.str "mark"))
theorem Mq(hT:T.length<=200)(hM:M.length<=4){R:List Ky}(h0:0<(z8 T M).length)(h1:(z8 T M).length<64)(e:y6 ((z8 T M).map kD)=some (R.map kD)):pz [wO T M dk y mo]=some (.lst (R.map kD)):=by
 let W:=wO T M dk y mo;let at':L4.D:=.lst ((nmK T λk=>!decide (k=.room)).map λx=>kD ("at", x));let mk':L4.D:=.lst ((nmK T Kd.mk++M.map Mk.n).map λx=>kD ("mark", x));let ρ:Sl->Sl->aU:=λp q=>[.im W,p,q];have hl1:(nmK T Kd.mk++M.map Mk.n).length<=1000:=by have:=(pE T Kd.mk).length_le;rw[ah]at this;rw[ay,ah];omega
 have e1:oB 1 [] (iL (c1 (oF pM "kept_things") af)) (gN 0) (cT (c2 (dEq true) (c1 (oF pf "kind") af) gO)) (pG (nU (cC (.str "at")) (nU (c1 (oF oA "name") af) ox))) (ρ .un .un)=some ((T.filter λt=>!decide (t.k=.room)).map λt=>kD ("at", t.n),ρ .un .un):=
  uB thD (λt=>kD ("at", t.n)) (λt=>!decide (t.k=.room)) T (ρ1:=ρ .un .un) rfl (by omega) λt _=>⟨[.im (thD t)],[.im (thD t)],rfl,pL (om (oX rfl (vG t)) rfl (TL t)),λ_=>⟨_,rfl,rfl⟩,λ_=>rfl⟩
 have e2:oB 1 [] (iL (cL (o6 qo (nU (c1 (oF pM "kept_things") af) (nU (c1 (oF tH "kept_marks") af) ox))))) (gN 0) pF (pG (nU jg eX)) (ρ (.im at') .un)=some ((nmK T Kd.mk++M.map Mk.n).map λx=>kD ("mark", x),ρ (.im at') .un):=
  um D.str (λx=>kD ("mark", x)) (nmK T Kd.mk++M.map Mk.n) (ρ1:=ρ (.im at') .un) (BA (px (nY (nX rfl (nX rfl rfl)) (BZ T M hT hM)))) hl1 λx _=>⟨[.im (.str x)],[.im (.str x)],rfl,rfl,rfl⟩
 have e3:y7 (cL (qF ak aw)) (ρ (.im at') (.im mk'))=some (R.map kD,ρ (.im at') (.im mk')):=by
  have q:cL (qF ak aw) (ρ (.im at') (.im mk'))=some (.lst ((z8 T M).map kD),ρ (.im at') (.im mk')):=by
   refine(px (rL (xs:=(nmK T λk=>!decide (k=.room)).map λx=>kD ("at", x)) (ys:=(nmK T Kd.mk++M.map Mk.n).map λx=>kD ("mark", x)) rfl rfl ?_)).trans ?_
   ·rw[ah,ah];have:=(pE T λk=>!decide (k=.room)).length_le;rw[ah]at this;have h3:=(pE T Kd.mk).length_le;rw[ah]at h3;rw[ay,ah];omega
   ·have eq:(z8 T M).map kD=((nmK T λk=>!decide (k=.room)).map λx=>kD ("at", x))++(nmK T Kd.mk++M.map Mk.n).map λx=>kD ("mark", x):=by unfold z8;generalize (nmK T Kd.mk++M.map Mk.n)=l;rw[aR,aK,aK];rfl
    rw[eq]
  unfold y7;rw[q];simp only[e]
 refine Gj (ρ:=ρ (.im at') (.im mk')) rfl ?_;refine(nV (ρ':=ρ (.im at') .un) ((oG (px e1)).trans ?_)).trans ((nV (ρ':=ρ (.im at') (.im mk')) ((oG (px e2)).trans rfl)).trans (tZ e3));show some (Out.nx [Sl.im W,.im (.lst ((T.filter λt=>!decide (t.k=.room)).map λt=>kD ("at", t.n))),.un])=some (Out.nx [Sl.im W,.im (.lst (((T.filter λt=>!decide (t.k=.room)).map Th.n).map λx=>kD ("at", x))),.un]);rw[aK];rfl
end
theorem Mr:∀{l L:aG},l.Nodup->(∀x∈l,x∈L)->l.length<=L.length
 |[],L,_,_=>bW _
 |a::l,L,nd,hs=>by rw[bV]at nd;have ha:=hs a aS;have:=Mr (L:=L.erase a) nd.2 λz hz=>(jw (show z≠a from λw=>nd.1 (w▸hz))).mpr (hs z (ba _ hz));rw[lF ha]at this;have:=lK ha;rw[aF];omega
theorem O3{A:List (Str×Str)}{x:Str}{l:aG}(c:Ch A x l):∀a∈(x::l).dropLast,a∈A.map aD:=by
 induction c with
 |nil _=>intro a h;cases h
 |@cons x z l h c ih=>
  intro a ha;rw[List.dropLast_cons_of_ne_nil (by simp)]at ha;rcases aP.mp ha with e|ha
  ·rw[e];exact aL.mpr ⟨_,h,rfl⟩
  ·exact ih a ha
theorem TM{A:List (Str×Str)}{x:Str}{l:aG}(a:TJ A y)(c:Ch A x l):l.length<=A.length:=by obtain⟨rk,hr⟩:=a.rk;obtain⟨h1,h2⟩:=Vp (λq hq=>(hr q hq).1) c;have nd:(x::l).Nodup:=bV.mpr ⟨λz=>aq (h2 x z) (cG _),h1⟩;have:=Mr (nd.sublist (List.dropLast_sublist _)) (O3 c);rw[List.length_dropLast,aF,ah]at this;omega
section
variable{A:List (Str×Str)}{V:List (Str×Int)}{S:List (Ky×L4.D)}{y:Str}{T:List Th}{M:List Mk}{dk:aG}{mo:L4.D}
abbrev sD(S:List (Ky×L4.D)):L4.D:=.tup (S.map prD)
theorem O4{A:List (Str×Str)}(nd:(A.map aD).Nodup){x z z':Str}(h:(x,z)∈A)(h':(x,z')∈A):z=z':=by
 induction A with
 |nil=>cases h
 |cons a A ih=>
  rw[ar,bV]at nd;rcases aP.mp h with h1|h1<;>rcases aP.mp h' with h2|h2
  ·rw[<-h1]at h2;exact(aQ fI h2).symm
  ·exact aq (show a.1∈A.map aD from h1▸aL.mpr ⟨_,h2,rfl⟩) nd.1
  ·exact aq (show a.1∈A.map aD from h2▸aL.mpr ⟨_,h1,rfl⟩) nd.1
  ·exact ih nd.2 h1 h2
theorem D1(nd:(A.map aD).Nodup)(o:JC A V S){x z:Str}(h:(x,z)∈A):sv [sD S,.str x]=some (.str z):=by
 refine oP (ρ:=[.im (sD S),.im (.str x)]) rfl (oM (nY (ds:=[sD S,.tup [.str "at", .str x]]) (nX rfl (nX rfl rfl)) ?_));rcases Fm S ("at", x)with ⟨d,h1,h2⟩|⟨h1,h2⟩
 ·obtain⟨z',rfl,h3⟩:=o.o x d h1;rw[h2,O4 nd h3 h]
 ·exact aq (aL.mpr ⟨_,o.i _ h,rfl⟩) h1
theorem D2(o:JC A V S){x:Str}(h:x∉A.map aD):sv [sD S,.str x]=some .non:=by
 refine oP (ρ:=[.im (sD S),.im (.str x)]) rfl (oM (nY (ds:=[sD S,.tup [.str "at", .str x]]) (nX rfl (nX rfl rfl)) ?_));rcases Fm S ("at", x)with ⟨d,h1,h2⟩|⟨h1,h2⟩
 ·obtain⟨z',rfl,h3⟩:=o.o x d h1;exact aq (aL.mpr ⟨_,h3,rfl⟩) h
 ·exact h2
abbrev eY:=(nU aw ox)
def HQ:FS:=(n9 (sIf (cT (c2 yb aw bG)) (oQ cM) o5)
 (oT 2 (n4 sv (nU af eY))))
theorem JD(nd:(A.map aD).Nodup)(o:JC A V S)(nm:Sl){x:Str}{l:aG}(c:Ch A x l):∀(rs:List L4.D) (ab:L4.D) (s3:Sl),sv [sD S,.str x]=some ab->l.length<=rs.length->∃s',forL (gN 3) HQ rs [.im (sD S),nm,.im ab,s3]=some (.rt (.bl true) [.im (sD S),nm,.im .non,s'])\/forL (gN 3) HQ rs [.im (sD S),nm,.im ab,s3]=some (.nx [.im (sD S),nm,.im .non,s']):=by
 induction c with
 |@nil x h=>
  intro rs ab s3 e _;rw[D2 o h]at e;cases e;cases rs with
  |nil=>exact⟨s3,.inr rfl⟩
  |cons r rs=>exact⟨.im r,.inl rfl⟩
 |@cons x z l h c ih=>
  intro rs ab s3 e hl;rw[D1 nd o h]at e;cases e;cases rs with
  |nil=>cases hl
  |cons r rs=>
   rw[aF,aF]at hl;obtain⟨ab',e'⟩:∃ab',sv [sD S,.str z]=some ab':=by
    cases c with
    |nil h=>exact⟨_,D2 o h⟩
    |cons h _=>exact⟨_,D1 nd o h⟩
   obtain⟨s',g⟩:=ih rs ab' (.im r) e' (by omega);refine⟨s',?_⟩;have ev:HQ [.im (sD S),nm,.im (.str z),.im r]=some (.nx [.im (sD S),nm,.im ab',.im r]):=by unfold HQ;exact(nV (ρ':=[.im (sD S),nm,.im (.str z),.im r]) rfl).trans ((oG (nY (nX rfl (nX rfl rfl)) e')).trans rfl)
   unfold forL;rw[show gN 3 r [.im (sD S),nm,.im (.str z),s3]=some [.im (sD S),nm,.im (.str z),.im r] from rfl];simp only[ev];exact g
theorem TN{n:Nat}(h:e ρ=some (.int n,ρ1))(hn:n<=1000):∃rs:List L4.D,rs.length=n/\iR1 e ρ=some (rs,ρ1):=by
 refine⟨xZ 0 n,?_,?_⟩
 ·unfold xZ;simp
 ·unfold iR1;rw[h];show (if -1000000<=(n:Int)/\(n:Int)<=1000000 then some (xZ 0 (n:Int).toNat,ρ1)else none)=_;rw[ai ⟨by omega,by omega⟩,dY]
abbrev kR:=(nU ak ox)
theorem O5(nd:(A.map aD).Nodup)(o:JC A V S){x:Str}{l:aG}(c:Ch A x l)(hl:l.length<=S.length)(hS:S.length<=900):o8 [sD S,.str x]=some (.bl true):=by
 obtain⟨ab,e⟩:∃ab,sv [sD S,.str x]=some ab:=by
  cases c with
  |nil h=>exact⟨_,D2 o h⟩
  |cons h _=>exact⟨_,D1 nd o h⟩
 let ρ:aU:=[.im (sD S),.im (.str x),.im ab,.un];obtain⟨rs,hr,er⟩:=TN (e:=c1 pP af) (ρ:=ρ) (ρ1:=ρ) (n:=S.length) (by show some (D.int ((S.map prD).length:Nat),ρ)=_;rw[ah]) (by omega);obtain⟨s',g⟩:=JD nd o (.im (.str x)) c rs ab .un e (by omega);have e1:oT 2 (n4 sv (nU af kR)) [.im (sD S),.im (.str x),.un,.un]=some (.nx ρ):=(oG (nY (nX rfl (nX rfl rfl)) e)).trans rfl;rcases g with g|g
 ·exact oP rfl ((nV e1).trans (oW ((p5 er).trans g)))
 ·exact oP rfl ((nV e1).trans ((nV ((p5 er).trans g)).trans rfl))
theorem zm(a b:L4.D):rh [.tup [a,b]]=some (.bl true):=rfl
theorem D3(a:Str):pI [.str a,.str a]=some (.bl true):=by refine oP (ρ:=[.im (.str a),.im (.str a)]) rfl (oM ((pO (ρ1:=[.im (.str a),.im (.str a)]) rfl).trans (om (x:=.str a) (y:=.str a) rfl rfl ?_)));rw[vo];simp
abbrev nM:=(nU (c2 dIx ak aJ) ox)
theorem D4(k:Ky):qY [.tup [.str k.1,.str k.2],kD k]=some (.bl true):=by let ρ:aU:=[.im (.tup [.str k.1,.str k.2]),.im (kD k)];have e1:n4 rh eX ρ=some (.bl true,ρ):=nY (nX rfl rfl) (zm _ _);have e2:n4 pI (nU (c2 dIx af aX) (nU (c2 dIx ak aX) ox)) ρ=some (.bl true,ρ):=nY (ds:=[.str k.1,.str k.1]) (nX rfl (nX rfl rfl)) (D3 _);have e3:n4 pI (nU (c2 dIx af aJ) nM) ρ=some (.bl true,ρ):=nY (ds:=[.str k.2,.str k.2]) (nX rfl (nX rfl rfl)) (D3 _);exact oP (ρ:=ρ) rfl (oM ((pO e1).trans ((pO e2).trans e3)))
theorem Ms:zQ [wO T M dk y mo]=some (.str y):=rfl
theorem Fp(nd:(T.map Th.n).Nodup)(ht:t∈T):qX [wO T M dk y mo,.str t.n]=some (thD t):=by refine oP (ρ:=[.im (wO T M dk y mo),.im (.str t.n)]) rfl (oM (om (x:=.dic (nK T) (T.map thD)) (y:=.str t.n) rfl rfl ?_));show some ((rX (nK T) (T.map thD) (kS t.n)).getD .non)=_;rw[ym (HJ nd) (d:=thD t) (by unfold nK;rw[jZ];exact aL.mpr ⟨t,ht,rfl⟩)];rfl
theorem HR(t:Th):dEq false (.str t.k.s) (.str "room")=some (.bl (decide (t.k=.room))):=by cases t.k<;>kernel_rfl
theorem JE(nd:(T.map Th.n).Nodup)(ht:t∈T){x:Str}(h1:x=y->t.k=.room)(h2:t.k.hd=true):uk [wO T M dk y mo,.str x,.str t.n]=some (.bl true):=by
 let W:=wO T M dk y mo;let ρ:aU:=[.im W,.im (.str x),.im (.str t.n),.im (thD t)];have e1:oT 3 (cIf (cT (c1 (qv (pR "str")) aw)) (pj pJ "thing_of" af eY) bG) [.im W,.im (.str x),.im (.str t.n),.un]=some (.nx ρ):=by
  have q:cIf (cT (c1 (qv (pR "str")) aw)) (pj pJ "thing_of" af eY) bG [.im W,.im (.str x),.im (.str t.n),.un]=some (thD t,[.im W,.im (.str x),.im (.str t.n),.un]):=by unfold cIf;show pj pJ "thing_of" af eY [.im W,.im (.str x),.im (.str t.n),.un]=_;exact pK (m:="thing_of") (ns:=wNs) (xs:=wDs T M dk y mo) (ys:=[.str t.n]) rfl rfl rfl rfl (Fp nd ht)
  exact(oG q).trans rfl
 have e2:cT (c2 (dEq false) ak (pj uW "you" af ox)) ρ=some (decide (x=y),ρ):=pL (om (x:=.str x) (y:=.str y) rfl (pK (m:="you") (ns:=wNs) (xs:=wDs T M dk y mo) (ys:=[]) rfl rfl rfl rfl Ms) (vo false x y));by_cases e:x=y
 ·rw[aV e]at e2;refine oP (ρ:=ρ) rfl ((nV e1).trans ((nV (ρ':=ρ) rfl).trans (oW ((ph e2).trans (oM (om (oX rfl (vG t)) rfl ?_))))));rw[HR,aV (h1 e)]
 ·rw[aO e]at e2;refine oP (ρ:=ρ) rfl ((nV e1).trans ((nV (ρ':=ρ) rfl).trans ((nV ((oZ e2).trans rfl)).trans (oM (pK (m:="can_hold") (ns:=["name", "words", "kind", "start"]) (xs:=[.str t.n,.tup (t.w.map D.str),.str t.k.s,oS t.s]) (ys:=[]) rfl rfl rfl rfl ?_)))));rw[<-h2];exact DT t
end
variable{m:Int}
section
variable{A:List (Str×Str)}{V:List (Str×Int)}{S:List (Ky×L4.D)}{y:Str}{T:List Th}{M:List Mk}{dk:aG}
theorem Mt(g:Good T M dk):qw [TD T,MD M]=some (dcI (moL T M)):=by
 have hl:=g.len;have hm:=g.m4;have nd:(nmK T Kd.mk++M.map Mk.n).Nodup:=g.nd.sublist ((pE T _).append (dA _));have ndk:(((nmK T Kd.mk).map kS)++M.map λm=>kS m.n).Nodup:=by have:=tf nd;rw[aR,aK]at this;exact this
 have hln:(nmK T Kd.mk).length<=200:=by have:=(pE T Kd.mk).length_le;rw[ah]at this;omega
 have g1:∀(l:List Th) (ks:List Key) (ds:List L4.D) (s:Sl),(ks++(nmK l Kd.mk).map kS).Nodup->ks.length+l.length<=900->ds.length=ks.length->∃s',forL (gN 3) (sIf (cT (pj qf "has_mark" aB ox)) (pB 2 (c1 (oF oA "name") aB) aJ) o5) (l.map thD) [.im (TD T),.im (MD M),.dk ks ds,s,.un]=some (.nx [.im (TD T),.im (MD M),.dk (ks++(nmK l Kd.mk).map kS) (ds++(nmK l Kd.mk).map λ_=>D.int 1),s',.un]):=by
  intro l
  induction l with
  |nil=>exact λks ds s _ _ _=>⟨s,by unfold nmK;simp;rfl⟩
  |cons t l ih=>
   intro ks ds s nd hk he;rw[aF]at hk;have em:cT (pj qf "has_mark" aB ox) [.im (TD T),.im (MD M),.dk ks ds,.im (thD t),.un]=some (t.k.mk,[.im (TD T),.im (MD M),.dk ks ds,.im (thD t),.un]):=pL (pK (xs:=[.str t.n,.tup (t.w.map D.str),.str t.k.s,oS t.s]) (ys:=[]) rfl rfl rfl rfl (DU t));cases q:t.k.mk with
   |true=>
    rw[q]at em;have e0:nmK (t::l) Kd.mk=t.n::nmK l Kd.mk:=by unfold nmK;rw[f6,q,ai rfl,ar]
    rw[e0,ar]at nd;rw[e0,ar,ar];have hn:kS t.n∉ks:=λz=>by rw[bO]at nd;exact nd.2.2 _ z _ aS rfl
    obtain⟨s',h⟩:=ih (ks++[kS t.n]) (ds++[.int 1]) (.im (thD t)) (by rw[bw];exact nd) (by rw[ay,aZ];omega) (by rw[ay,ay,he,aZ,aZ]);refine⟨s',?_⟩;rw[ar];unfold forL;rw[show gN 3 (thD t) [.im (TD T),.im (MD M),.dk ks ds,s,.un]=some [.im (TD T),.im (MD M),.dk ks ds,.im (thD t),.un] from rfl];have ev:=(ph (f:=pB 2 (c1 (oF oA "name") aB) aJ) (g:=o5) em).trans (wD (i:=2) (fk:=c1 (oF oA "name") aB) (fv:=cC (.int 1)) (ρ:=[.im (TD T),.im (MD M),.dk ks ds,.im (thD t),.un]) (x:=t.n) (d:=.int 1) rfl rfl (oX rfl (sR t)) hn (by omega) he);simp only[ev];refine h.trans ?_;rw[bw,bw];rfl
   |false=>
    rw[q]at em;have e0:nmK (t::l) Kd.mk=nmK l Kd.mk:=by unfold nmK;rw[f6,q,aj (by decide)]
    rw[e0]at nd ⊢;obtain⟨s',h⟩:=ih ks ds (.im (thD t)) nd (by omega) he;refine⟨s',?_⟩;rw[ar];unfold forL;rw[show gN 3 (thD t) [.im (TD T),.im (MD M),.dk ks ds,s,.un]=some [.im (TD T),.im (MD M),.dk ks ds,.im (thD t),.un] from rfl];have ev:=(oZ (f:=pB 2 (c1 (oF oA "name") aB) aJ) (g:=o5) em);simp only[ev];exact h
 obtain⟨s1,e1⟩:=g1 T [] [] .un (by rw[bI];exact(bO.mp ndk).1) (by simp;omega) rfl;rw[bI,bI]at e1;obtain⟨s2,e2⟩:=uY (g:=gN 4) (i:=2) (fk:=c1 (oF oA "name") aN) (fv:=c1 (oF tI "most") aN) mkD Mk.n (λm=>D.int m.mo) (λks ds s=>[.im (TD T),.im (MD M),.dk ks ds,s1,s])
  (λm ks ds s=>⟨[.im (TD T),.im (MD M),.dk ks ds,s1,.im (mkD m)],rfl,oX rfl (OQ m),rfl,oX rfl (Aj m),λks' ds'=>⟨_,rfl⟩⟩) M ((nmK T Kd.mk).map kS) ((nmK T Kd.mk).map λ_=>D.int 1) .un ndk (by rw[ah];omega) (by rw[ah,ah])
 refine oP (ρ:=[.im (TD T),.im (MD M),.im (dcI (moL T M)),s1,s2]) rfl ?_;unfold sP;refine(nV (ρ':=[.im (TD T),.im (MD M),.dk [] [],.un,.un]) rfl).trans ?_;refine(nV ((p5 rfl).trans e1)).trans ((nV ((p5 rfl).trans e2)).trans ?_);have q1:(moL T M).map (λq=>kS q.1)=(nmK T Kd.mk).map kS++M.map λm=>kS m.n:=by simp only[moL,aR,aK];rfl
 have q2:(moL T M).map (λq=>D.int q.2)=((nmK T Kd.mk).map λ_=>D.int 1)++M.map λm=>D.int m.mo:=by simp only[moL,aR,aK];rfl
 unfold dcI;rw[q1,q2];rfl
theorem O6:(moL T M).map aD=nmK T Kd.mk++M.map Mk.n:=by simp only[moL,aR,aK];rw[show (aD∘λx:Str=>(x,(1:Int)))=id from rfl,kz];rfl
abbrev wM(T:List Th)(M:List Mk)(dk:aG)(y:Str):L4.D:=wO T M dk y (dcI (moL T M))
theorem Mu{V:List (Str×Int)}(nv:(V.map aD).Nodup){x:Str}{z:Int}(h:(x,z)∈V):rX (V.map λq=>kS q.1) (V.map λq=>D.int q.2) (kS x)=some (.int z):=
 ym (by have:=tf nv;rw[aK]at this;exact this) (by rw[jZ];exact aL.mpr ⟨_,h,rfl⟩)
theorem HS(nd:(nmK T Kd.mk++M.map Mk.n).Nodup){x:Str}(h:(x,m)∈moL T M):vS [wM T M dk y,.str x]=some (.int m):=by refine oP (ρ:=[.im (wM T M dk y),.im (.str x)]) rfl (oM (om (x:=dcI (moL T M)) (y:=.str x) rfl rfl ?_));show some ((rX _ _ (kS x)).getD .non)=_;rw[Mu (by rw[O6];exact nd) h];rfl
theorem TQ(nd:(T.map Th.n).Nodup)(ht:t∈T){x:Str}(h1:x=y->t.k=.room)(h2:t.k.hd=true):oH [wM T M dk y,kD ("at", x),.str t.n]=some (.bl true):=by let ρ:aU:=[.im (wM T M dk y),.im (kD ("at", x)),.im (.str t.n)];have e1:cT (c2 (dEq false) (c2 dIx ak aX) jg) ρ=some (false,ρ):=pL (om (x:=.str "at") (y:=.str "mark") rfl rfl (by kernel_rfl));exact oP (ρ:=ρ) rfl ((nV ((oZ e1).trans rfl)).trans (oM (nY (ds:=[wM T M dk y,.str x,.str t.n]) (nX rfl (nX rfl (nX rfl rfl))) (JE nd ht h1 h2))))
theorem Fq{g g':L4.D->L4.D->Option L4.D}{fa fb fc:FE}{ρ3:aU}{x y z w:L4.D}(h1:fa ρ=some (x,ρ1))(h2:fb ρ1=some (y,ρ2))(q1:g x y=some (.bl true))(h3:fc ρ2=some (z,ρ3))(q2:g' y z=some w):qm g g' fa fb fc ρ=some (w,ρ3):=by unfold qm;rw[h1];simp only[h2,q1,h3,q2]
theorem Mv(nd:(nmK T Kd.mk++M.map Mk.n).Nodup){x:Str}{v:Int}(h:(x,m)∈moL T M)(h0:0<=v)(h1:v<=m):oH [wM T M dk y,kD ("mark", x),.int v]=some (.bl true):=by
 let ρ:aU:=[.im (wM T M dk y),.im (kD ("mark", x)),.im (.int v)];have e1:cT (c2 (dEq false) (c2 dIx ak aX) jg) ρ=some (true,ρ):=pL (om (x:=.str "mark") (y:=.str "mark") rfl rfl (by kernel_rfl));have e2:n4 rB eY ρ=some (.bl true,ρ):=nY (ds:=[.int v]) (nX rfl rfl) rfl;have e3:pj rg "most_of" af nM ρ=some (.int m,ρ):=pK (m:="most_of") (ns:=wNs) (xs:=wDs T M dk y (dcI (moL T M))) (ys:=[.str x]) rfl rfl rfl rfl (HS nd h);refine oP (ρ:=ρ) rfl (oW ((ph e1).trans (oM ((pO e2).trans ?_))));have q1:rK (.int 0) (.int v)=some (.bl true):=by show some (D.bl (decide ((0:Int)<=v)))=_;rw[aV h0]
 have q2:rK (.int v) (.int m)=some (.bl true):=by show some (D.bl (decide (v<=m)))=_;rw[aV h1]
 exact Fq (ρ1:=ρ) (ρ2:=ρ) rfl rfl q1 e3 q2
end
variable{a:FA}
section
variable{A:List (Str×Str)}{V:List (Str×Int)}{S:List (Ky×L4.D)}{y:Str}{T:List Th}{M:List Mk}{dk:aG}
theorem Mw(h:a ρ=some ([.tup ds,.lst es],ρ1))(hl:ds.length<=es.length):iZT a ρ=some (uN ds es,ρ1):=by unfold iZT;rw[h];simp only[hl,if_true]
theorem Mx:∀S:List (Ky×L4.D),uN (S.map prD) (S.map λq=>kD q.1)=S.map λq=>D.tup [prD q,kD q.1]
 |[]=>rfl
 |q::S=>by have:=Mx S;unfold uN at this ⊢;rw[ar,ar,du,this];rfl
abbrev kM:=(nU af (nU aN (nU (c2 dIx aB aJ) ox)))
abbrev kN:=(nU (c2 dIx aB aX) (nU aN ox))
def zV:FS:=(sIf (uJ (qu (cT (n4 rh jl))) (uJ (qu (cT (n4 qY kN))) (qu (cT (n4 oH kM))))) (oQ cy) o5)
theorem BF(W pt:L4.D):∀(l:List (Ky×L4.D)) (s3 s4:Sl),(∀q∈l,oH [W,kD q.1,q.2]=some (.bl true))->∃s3' s4',forL (gT (oo (gN 3) (oo (gN 4) pT)) 2) zV (l.map λq=>D.tup [prD q,kD q.1]) [.im W,.im (sD S),.im pt,s3,s4]=some (.nx [.im W,.im (sD S),.im pt,s3',s4'])
 |[],s3,s4,_=>⟨s3,s4,rfl⟩
 |q::l,s3,s4,h=>by
  obtain⟨s3',s4',g⟩:=BF W pt l (.im (prD q)) (.im (kD q.1)) λz hz=>h z (ba _ hz);refine⟨s3',s4',?_⟩;let ρ:aU:=[.im W,.im (sD S),.im pt,.im (prD q),.im (kD q.1)];have e1:qu (cT (n4 rh jl)) ρ=some (false,ρ):=qJ (pL (nY (ds:=[prD q]) (nX rfl rfl) (zm _ _)));have e2:qu (cT (n4 qY kN)) ρ=some (false,ρ):=qJ (pL (nY (ds:=[.tup [.str q.1.1,.str q.1.2],kD q.1]) (nX rfl (nX rfl rfl)) (D4 q.1)));have e3:qu (cT (n4 oH kM)) ρ=some (false,ρ):=qJ (pL (nY (ds:=[W,kD q.1,q.2]) (nX rfl (nX rfl (nX rfl rfl))) (h q aS)));have ev:zV ρ=some (.nx ρ):=by unfold zV;exact(oZ (tG e1 (tG e2 e3))).trans rfl
  rw[ar];unfold forL;rw[show gT (oo (gN 3) (oo (gN 4) pT)) 2 (D.tup [prD q,kD q.1]) [.im W,.im (sD S),.im pt,s3,s4]=some ρ from rfl];simp only[ev];exact g
theorem JF(hT:T.length<=200):xl [wO T M dk y mo]=some (.lst (T.map λt=>D.str t.n)):=by let ρ:aU:=[.im (wO T M dk y mo)];exact Gj (ρ:=ρ) rfl (tZ (um thD (λt=>D.str t.n) T (ρ1:=ρ) rfl (by omega) λt _=>⟨[.im (thD t)],[.im (thD t)],rfl,oX rfl (sR t),rfl⟩))
theorem GN(hT:T.length<=200)(cr:Str->Bool)(hp:pz [wM T M dk y]=some (.lst (S.map λq=>kD q.1)))(hv:∀q∈S,oH [wM T M dk y,kD q.1,q.2]=some (.bl true))(hc:∀t∈T,o8 [sD S,.str t.n]=some (.bl (cr t.n))):pN [wM T M dk y,sD S]=some (.bl (T.all λt=>cr t.n)):=by
 let W:=wM T M dk y;let pt:L4.D:=.lst (S.map λq=>kD q.1);let ρ:Sl->Sl->aU:=λa b=>[.im W,.im (sD S),.im pt,a,b];obtain⟨s3,s4,g⟩:=BF (S:=S) W pt S .un .un hv;have e1:oT 2 (pj uj "parts" af ox) [.im W,.im (sD S),.un,.un,.un]=some (.nx (ρ .un .un)):=(oG (pK (m:="parts") (ns:=wNs) (xs:=wDs T M dk y (dcI (moL T M))) (ys:=[]) rfl rfl rfl rfl hp)).trans rfl;have e2:uJ (qu (cT (c1 (qv (pR "tuple")) ak))) (cT (c2 (dEq true) (c1 pP ak) (c1 pP aw))) (ρ .un .un)=some (false,ρ .un .un):=by refine tG (ρ1:=ρ .un .un) rfl (pL (om (x:=.int (S.map prD).length) (y:=.int (S.map λq=>kD q.1).length) rfl rfl ?_));rw[ah,ah,ud];simp
 have e3:iZT (nU ak eY) (ρ .un .un)=some (S.map λq=>D.tup [prD q,kD q.1],ρ .un .un):=by rw[<-Mx];exact Mw rfl (by rw[ah,ah];exact az _)
 have e4:oB 1 [1] (iL (pj ui "names" af ox)) (gN 0) pF (n4 o8 (nU ak eX)) (ρ s3 s4)=some (T.map λt=>D.bl (cr t.n),ρ s3 s4):=
  um (λt:Th=>D.str t.n) (λt=>D.bl (cr t.n)) T (ρ1:=ρ s3 s4) (BA (pK (m:="names") (ns:=wNs) (xs:=wDs T M dk y (dcI (moL T M))) (ys:=[]) rfl rfl rfl rfl (JF hT))) (by omega) λt ht=>⟨[.im (.str t.n),.im (sD S)],[.im (.str t.n),.im (sD S)],rfl,nY (nX rfl (nX rfl rfl)) (hc t ht),rfl⟩
 refine oP (ρ:=ρ s3 s4) rfl ((nV e1).trans ((nV ((oZ e2).trans rfl)).trans ((nV ((p5 e3).trans g)).trans (oM (oX (px e4) (DL T λt=>cr t.n))))))
end
section
variable{A:List (Str×Str)}{V:List (Str×Int)}{y:Str}{T:List Th}{M:List Mk}{dk:aG}
abbrev nN:=(nU (pG (nU jg eX)) kR)
theorem TR(nA:(A.map aD).Nodup)(h0:0<A.length)(hl:A.length<=20)(nv:(V.map aD).Nodup)(lv:V.length<=40):∃S,S.Perm (bas A V)/\JC A V S/\sW [atD A,dcI V]=some (sD S)/\S.map (λq=>kL q.1)=Mm ((bas A V).map λq=>kL q.1):=by
 have nd:((bas A V).map aD).Nodup:=by
  unfold bas;rw[aR,aK,aK,bO];have e1:A.map (aD∘λq=>((("at", q.1):Ky),D.str q.2))=(A.map aD).map λx=>(("at", x):Ky):=by rw[aK];rfl
  have e2:V.map (aD∘λq=>((("mark", q.1):Ky),D.int q.2))=(V.map aD).map λx=>(("mark", x):Ky):=by rw[aK];rfl
  rw[e1,e2];refine⟨xO (λa b h=>aQ fI h) nA,xO (λa b h=>aQ fI h) nv,λx hx z hz e=>?_⟩;obtain⟨_,_,rfl⟩:=aL.mp hx;obtain⟨_,_,rfl⟩:=aL.mp hz;have:=aQ aD e;exact aq this (by decide:¬(("at" : Str)="mark"))
 obtain⟨S,p,e,eo⟩:=Mn (bas A V) nd (by unfold bas;rw[ay,ah];omega) (by unfold bas;rw[ay,ah,ah];omega);refine⟨S,p,⟨λq hq=>p.mem_iff.mpr (bE _ (aL.mpr ⟨q,hq,rfl⟩)),λx d h=>?_,λq hq=>p.mem_iff.mpr (bD _ (aL.mpr ⟨q,hq,rfl⟩)),λx d h=>?_⟩,?_,eo⟩
 ·rcases bb.mp (p.mem_iff.mp h)with h|h
  ·obtain⟨q,hq,e⟩:=aL.mp h;cases e;exact⟨_,rfl,hq⟩
  ·obtain⟨q,hq,e⟩:=aL.mp h;have:=aQ (λz=>z.1.1) e;exact aq this (by decide:¬(("mark" : Str)="at"))
 ·rcases bb.mp (p.mem_iff.mp h)with h|h
  ·obtain⟨q,hq,e⟩:=aL.mp h;have:=aQ (λz=>z.1.1) e;exact aq this (by decide:¬(("at" : Str)="mark"))
  ·obtain⟨q,hq,e⟩:=aL.mp h;cases e;exact⟨_,rfl,hq⟩
 ·let ρ0:aU:=[.im (atD A),.im (dcI V),.un];let pa:Str×Str->L4.D:=λq=>.tup [.tup [.str "at", .str q.1],.str q.2];let pm:Str×Int->L4.D:=λq=>.tup [.tup [.str "mark", .str q.1],.int q.2];let ρ1:aU:=[.im (atD A),.im (dcI V),.im (.lst (A.map pa))];have c1:oB 2 [] (iIt af) (gT (oo (gN 0) (oo (gN 1) pT)) 2) pF (pG (nU (pG (nU (cC (.str "at")) eX)) kR)) ρ0=some (A.map pa,ρ0):=by refine(vd (ds:=A.map λq=>D.tup [.str q.1,.str q.2]) (ρ1:=ρ0) ((GI rfl).trans (by rw[BE])) (by rw[ah];omega)).trans ?_;exact DJ (λq:Str×Str=>D.tup [.str q.1,.str q.2]) pa A λq _=>⟨[.im (.str q.1),.im (.str q.2)],_,rfl,rfl,rfl⟩
  have c2:oB 2 [] (iIt ak) (gT (oo (gN 0) (oo (gN 1) pT)) 2) pF (pG nN) ρ1=some (V.map pm,ρ1):=by refine(vd (ds:=V.map λq=>D.tup [.str q.1,.int q.2]) (ρ1:=ρ1) ((GI rfl).trans (by rw[zk])) (by rw[ah];omega)).trans ?_;exact DJ (λq:Str×Int=>D.tup [.str q.1,.int q.2]) pm V λq _=>⟨[.im (.str q.1),.im (.int q.2)],_,rfl,rfl,rfl⟩
  have eb:(bas A V).map prD=A.map pa++V.map pm:=by unfold bas;rw[aR,aK,aK];rfl
  have c3:=O2 (e:=cL (qF aw (cL (oB 2 [] (iIt ak) (gT (oo (gN 0) (oo (gN 1) pT)) 2) pF (pG nN))))) (ρ:=ρ1) (px (rL (xs:=A.map pa) rfl (px c2) (by rw[ah,ah];omega))) (eb▸e);refine oP (ρ:=ρ1) rfl ((nV (ρ':=ρ1) ((oG (px c1)).trans rfl)).trans (oM ?_));unfold EC;rw[px c3]
theorem My(g:Good T M dk)(nA:(A.map aD).Nodup)(h0:0<A.length)(hl:A.length<=20)(kA:∀x,x∈A.map aD ↔ x∈nmK T λk=>!decide (k=.room))(hH:∀q∈A,q.2∈nmK T Kd.hd)(hY:∀r,(y,r)∈A->r∈nmK T λk=>decide (k=.room))
  (vn:V.map aD=nmK T Kd.mk++M.map Mk.n) (vb:∀p∈V,∃q∈moL T M,p.1=q.1/\0<=p.2/\p.2<=q.2):
  ∃S,JC A V S/\S.length=A.length+V.length/\sW [atD A,dcI V]=some (sD S)/\(pz [wM T M dk y]=some (.lst (S.map λq=>kD q.1))/\(∀q∈S,oH [wM T M dk y,kD q.1,q.2]=some (.bl true))/\S.Perm (bas A V))/\∀cr:Str->Bool,(∀t∈T,o8 [sD S,.str t.n]=some (.bl (cr t.n)))->pN [wM T M dk y,sD S]=some (.bl (T.all λt=>cr t.n)):=by
 have ndT:=g.ndT;have ndm:(nmK T Kd.mk++M.map Mk.n).Nodup:=g.nd.sublist ((pE T _).append (dA _));have nv:(V.map aD).Nodup:=by rw[vn];exact ndm
 have lmk:(nmK T Kd.mk++M.map Mk.n).length<=11:=by
  rw[ay,ah];have h2:=DZ (T:=T) (p:=Kd.mk) (q:=Kd.pl) λk h=>by cases k<;>first|rfl|cases h
  have h3:=g.p7;have h4:=g.m4;omega
 have lv:V.length<=40:=by have h1:=aQ b0 vn;rw[ah]at h1;omega
 obtain⟨S,p,o,st,eo⟩:=TR nA h0 hl nv lv;have ndR:(nmK T λk=>!decide (k=.room)).Nodup:=ndT.sublist (pE T _);have pA:(A.map aD).Perm (nmK T λk=>!decide (k=.room)):=(List.perm_ext_iff_of_nodup nA ndR).mpr kA;have lA:=pA.length_eq;rw[ah]at lA;have lP:(z8 T M).length=A.length+V.length:=by have h1:=aQ b0 vn;rw[ah]at h1;unfold z8;rw[ay,ah,ah,<- lA,<- h1]
 obtain⟨R,er,eR⟩:=Mo (z8 T M) (by omega) (by omega);have e1:(bas A V).map (λq=>kL q.1)=((A.map aD).map λx=>(["at", x]:aG))++(V.map aD).map λx=>(["mark", x]:aG):=by unfold bas;rw[aR,aK,aK,aK,aK];rfl
 have e2:(z8 T M).map kL=((nmK T λk=>!decide (k=.room)).map λx=>(["at", x]:aG))++(V.map aD).map λx=>(["mark", x]:aG):=by unfold z8;rw[vn,aR,aK];congr 1;rw[aK];rfl
 have pk:((bas A V).map λq=>kL q.1).Perm ((z8 T M).map kL):=by rw[e1,e2];exact(pA.map _).append_right _
 have ndB:((bas A V).map λq=>kL q.1).Nodup:=by rw[e1,bO];refine⟨xO (λa b h=>by injection h with _ h;injection h) nA,xO (λa b h=>by injection h with _ h;injection h) nv,λx hx z hz e=>?_⟩;obtain⟨_,_,rfl⟩:=aL.mp hx;obtain⟨_,_,rfl⟩:=aL.mp hz;injection e with e _;exact aq e (by decide:¬(("at" : Str)="mark"))
 have two:∀k∈(bas A V).map (λq=>kL q.1),∃p q,k=[p,q]:=λk hk=>by obtain⟨q,_,rfl⟩:=aL.mp hk;exact⟨_,_,rfl⟩
 have lB:0<((bas A V).map λq=>kL q.1).length:=by unfold bas;rw[ah,ay,ah];omega
 have eq:S.map aD=R:=by apply Mp;rw[eR,aK];exact eo.trans (LK pk ndB two lB)
 have hp:pz [wM T M dk y]=some (.lst (S.map λq=>kD q.1)):=by have:=Mq (y:=y) (dk:=dk) (mo:=dcI (moL T M)) g.len g.m4 (by omega) (by omega) er;rw[<-eq,aK]at this;exact this
 have hv:∀q∈S,oH [wM T M dk y,kD q.1,q.2]=some (.bl true):=λq hq=>by
  rcases bb.mp (p.mem_iff.mp hq)with h|h
  ·obtain⟨b,hb,rfl⟩:=aL.mp h;obtain⟨t,t1,t2,t3⟩:=sX (hH b hb);show oH [wM T M dk y,kD ("at", b.1),.str b.2]=_;rw[<-t2];refine TQ ndT t1 (λe=>?_) t3;have:=hY b.2 (by rw[<-e];exact hb);obtain⟨u,u1,u2,u3⟩:=sX this;have:=Mj ndT u1 t1 (u2.trans t2.symm);subst this;exact bA u3
  ·obtain⟨b,hb,rfl⟩:=aL.mp h;obtain⟨m,m1,m2,m3,m4⟩:=vb b hb;exact Mv ndm (m:=m.2) (by rw[m2];exact m1) m3 m4
 refine⟨S,o,?_,st,⟨hp,hv,p⟩,λcr hc=>GN g.len cr hp hv hc⟩;rw[p.length_eq];unfold bas;rw[ay,ah,ah]
end
variable{c c':FT}
section
variable{S S1 S2:List (Ky×L4.D)}{y:Str}{T:List Th}{M:List Mk}{dk:aG}{q:Ky×L4.D}{x d W:L4.D}
theorem BG(h:c ρ=some (true,ρ1)):uJ c c' ρ=some (true,ρ1):=by unfold uJ;rw[h]
theorem Fs{e':FE}(h:e ρ=some (.bl false,ρ1)):ro e e' ρ=some (.bl false,ρ1):=by unfold ro;rw[h]
theorem Da(h:c ρ=some (true,ρ1)):tY c c' ρ=c' ρ1:=by unfold tY;rw[h]
theorem JG(h:c ρ=some (false,ρ1)):tY c c' ρ=some (false,ρ1):=by unfold tY;rw[h]
def Bad(W:L4.D)(k:Ky)(x:L4.D):Prop:=rh [x]=some (.bl false)\/∃a b,x=.tup [a,b]/\(qY [a,kD k]=some (.bl false)\/(qY [a,kD k]=some (.bl true)/\oH [W,kD k,b]=some (.bl false)))
theorem Mz{st pt:L4.D}{k:Ky}(h:Bad W k x):zV [.im W,.im st,.im pt,.im x,.im (kD k)]=some (.rt (.bl false) [.im W,.im st,.im pt,.im x,.im (kD k)]):=by
 let ρ:aU:=[.im W,.im st,.im pt,.im x,.im (kD k)];have c:uJ (qu (cT (n4 rh jl))) (uJ (qu (cT (n4 qY kN))) (qu (cT (n4 oH kM)))) ρ=some (true,ρ):=by
  rcases h with h|⟨a,b,rfl,h|⟨h,h'⟩⟩
  ·exact BG (qJ (b:=false) (pL (nY (ds:=[x]) rfl h)))
  ·exact tG (qJ (b:=true) (pL (nY (ds:=[.tup [a,b]]) rfl (zm a b)))) (BG (qJ (b:=false) (pL (nY (ds:=[a,kD k]) rfl h))))
  ·exact tG (qJ (b:=true) (pL (nY (ds:=[.tup [a,b]]) rfl (zm a b)))) (tG (qJ (b:=true) (pL (nY (ds:=[a,kD k]) rfl h))) (qJ (b:=false) (pL (nY (ds:=[W,kD k,b]) rfl h'))))
 unfold zV;exact(ph c).trans rfl
theorem Ft{st pt:L4.D}{k:Ky}(hx:Bad W k x)(R:List L4.D):∀(l:List (Ky×L4.D)) (s3 s4:Sl),(∀q∈l,oH [W,kD q.1,q.2]=some (.bl true))->∃s3' s4',forL (gT (oo (gN 3) (oo (gN 4) pT)) 2) zV (l.map (λq=>D.tup [prD q,kD q.1])++.tup [x,kD k]::R) [.im W,.im st,.im pt,s3,s4]=some (.rt (.bl false) [.im W,.im st,.im pt,s3',s4'])
 |[],s3,s4,_=>⟨.im x,.im (kD k),by
  rw[bJ,bI];unfold forL;rw[show gT (oo (gN 3) (oo (gN 4) pT)) 2 (D.tup [x,kD k]) [.im W,.im st,.im pt,s3,s4]=some [.im W,.im st,.im pt,.im x,.im (kD k)] from rfl];simp only[Mz hx]⟩
 |q::l,s3,s4,h=>by
  obtain⟨s3',s4',g⟩:=Ft (st:=st) (pt:=pt) hx R l (.im (prD q)) (.im (kD q.1)) λz hz=>h z (ba _ hz);refine⟨s3',s4',?_⟩;let ρ:aU:=[.im W,.im st,.im pt,.im (prD q),.im (kD q.1)];have ev:zV ρ=some (.nx ρ):=by unfold zV;exact(oZ (tG (qJ (b:=true) (pL (nY (ds:=[prD q]) rfl (zm _ _)))) (tG (qJ (b:=true) (pL (nY (ds:=[.tup [.str q.1.1,.str q.1.2],kD q.1]) rfl (D4 q.1)))) (qJ (b:=true) (pL (nY (ds:=[W,kD q.1,q.2]) rfl (h q aS))))))).trans rfl
  rw[ar,iA];unfold forL;rw[show gT (oo (gN 3) (oo (gN 4) pT)) 2 (D.tup [prD q,kD q.1]) [.im W,.im st,.im pt,s3,s4]=some ρ from rfl];simp only[ev];exact g
theorem HU:∀(S1:List (Ky×L4.D)) (x:L4.D) (R:List L4.D) (q:Ky×L4.D) (S2:List (Ky×L4.D)),∃R',uN (S1.map prD++x::R) ((S1++q::S2).map λq=>kD q.1)=S1.map (λq=>D.tup [prD q,kD q.1])++.tup [x,kD q.1]::R'
 |[],x,R,q,S2=>⟨_,rfl⟩
 |p::S1,x,R,q,S2=>by obtain⟨R',e⟩:=HU S1 x R q S2;refine⟨R',?_⟩;rw[ar,iA,iA,ar,ar,iA,<- e];rfl
theorem BH(hp:pz [wM T M dk y]=some (.lst (S.map λq=>kD q.1)))(h:ds.length≠S.length):pN [wM T M dk y,.tup ds]=some (.bl false):=by let W:=wM T M dk y;let ρ:aU:=[.im W,.im (.tup ds),.im (.lst (S.map λq=>kD q.1)),.un,.un];refine oP (ρ:=ρ) rfl ((nV (ρ':=ρ) ((oG (pK (m:="parts") (ns:=wNs) (xs:=wDs T M dk y (dcI (moL T M))) (ys:=[]) rfl rfl rfl rfl hp)).trans rfl)).trans (oW ((ph (ρ':=ρ) (tG (ρ1:=ρ) rfl (pL (om (x:=.int ds.length) (y:=.int (S.map λq=>kD q.1).length) rfl rfl ?_)))).trans rfl)));rw[ah,ud,aO (by omega)];rfl
theorem xP(hp:pz [wM T M dk y]=some (.lst (S.map λq=>kD q.1)))(h:qv (pR "tuple") d=some (.bl false)):pN [wM T M dk y,d]=some (.bl false):=by let W:=wM T M dk y;let ρ:aU:=[.im W,.im d,.im (.lst (S.map λq=>kD q.1)),.un,.un];exact oP (ρ:=ρ) rfl ((nV (ρ':=ρ) ((oG (pK (m:="parts") (ns:=wNs) (xs:=wDs T M dk y (dcI (moL T M))) (ys:=[]) rfl rfl rfl rfl hp)).trans rfl)).trans (oW ((ph (ρ':=ρ) (BG (qJ (b:=false) (pL (oX (x:=d) rfl h))))).trans rfl)))
theorem D5(hp:pz [wM T M dk y]=some (.lst ((S1++q::S2).map λq=>kD q.1)))(hv:∀q∈S1,oH [wM T M dk y,kD q.1,q.2]=some (.bl true))(hx:Bad (wM T M dk y) q.1 x){R:List L4.D}(hR:R.length=S2.length):pN [wM T M dk y,.tup (S1.map prD++x::R)]=some (.bl false):=by
 let W:=wM T M dk y;let ds:=S1.map prD++x::R;let pt:=(S1++q::S2).map λq=>kD q.1;let ρ:aU:=[.im W,.im (.tup ds),.im (.lst pt),.un,.un];have hl:ds.length=pt.length:=by show (S1.map prD++x::R).length=((S1++q::S2).map λq=>kD q.1).length;simp[hR]
 obtain⟨R',ez⟩:=HU S1 x R q S2;obtain⟨s3,s4,g⟩:=Ft (st:=.tup ds) (pt:=.lst pt) hx R' S1 .un .un hv;have e3:iZT (nU ak eY) ρ=some (S1.map (λq=>D.tup [prD q,kD q.1])++.tup [x,kD q.1]::R',ρ):=by rw[<-ez];exact Mw rfl (by rw[<-hl];exact az _)
 refine oP (ρ:=[.im W,.im (.tup ds),.im (.lst pt),s3,s4]) rfl ((nV (ρ':=ρ) ((oG (pK (m:="parts") (ns:=wNs) (xs:=wDs T M dk y (dcI (moL T M))) (ys:=[]) rfl rfl rfl rfl hp)).trans rfl)).trans ((nV (ρ':=ρ) ((oZ (ρ':=ρ) (tG (ρ1:=ρ) rfl (pL (om (x:=.int ds.length) (y:=.int pt.length) rfl rfl ?_)))).trans rfl)).trans (oW ((p5 e3).trans g))));rw[hl,ud,aV rfl];rfl
end
section
variable{A:List (Str×Str)}{V:List (Str×Int)}{y:Str}{T:List Th}{M:List Mk}{dk:aG}{es:List L4.D}
theorem wG{z:Str}(h:z∉T.map Th.n):qX [wO T M dk y mo,.str z]=some .non:=by
 refine oP (ρ:=[.im (wO T M dk y mo),.im (.str z)]) rfl (oM (om (x:=.dic (nK T) (T.map thD)) (y:=.str z) rfl rfl ?_));show some ((rX (nK T) (T.map thD) (kS z)).getD .non)=_;rw[CD λw=>h ?_]
 ·rfl
 ·unfold nK at w;obtain⟨t,ht,e⟩:=aL.mp w;exact aL.mpr ⟨t,ht,LZ e⟩
theorem HV{v hd:L4.D}{x:Str}(h:cIf (cT (c1 (qv (pR "str")) aw)) (pj pJ "thing_of" af c6) bG [.im (wM T M dk y),.im (.str x),.im v,.un]=some (hd,[.im (wM T M dk y),.im (.str x),.im v,.un]))
  (h2:hd=.non\/∃t:Th,hd=thD t/\(x=y->t.k≠.room)/\(x≠y->t.k.hd=false)):oH [wM T M dk y,kD ("at", x),v]=some (.bl false):=by
 let W:=wM T M dk y;let ρ:aU:=[.im W,.im (.str x),.im v,.im hd];have key:uk [W,.str x,v]=some (.bl false):=by
  refine oP (ρ:=ρ) rfl ((nV (ρ':=ρ) ((oG h).trans rfl)).trans ?_);rcases h2 with rfl|⟨t,rfl,h3,h4⟩
  ·exact oW ((ph rfl).trans rfl)
  ·have e2:cT (c2 (dEq false) ak (pj uW "you" af ox)) ρ=some (decide (x=y),ρ):=pL (om (x:=.str x) (y:=.str y) rfl (pK (m:="you") (ns:=wNs) (xs:=wDs T M dk y (dcI (moL T M))) (ys:=[]) rfl rfl rfl rfl Ms) (vo false x y));refine(nV (ρ':=ρ) rfl).trans ?_;by_cases e:x=y
   ·rw[aV e]at e2;refine oW ((ph e2).trans (oM (om (oX rfl (vG t)) rfl ?_)));rw[HR,aO (h3 e)]
   ·rw[aO e]at e2;refine(nV ((oZ e2).trans rfl)).trans (oM (pK (m:="can_hold") (ns:=["name", "words", "kind", "start"]) (xs:=[.str t.n,.tup (t.w.map D.str),.str t.k.s,oS t.s]) (ys:=[]) rfl rfl rfl rfl ?_));rw[<-h4 e];exact DT t
 have e1:cT (c2 (dEq false) (c2 dIx ak aX) cD) [.im W,.im (kD ("at", x)),.im v]=some (false,[.im W,.im (kD ("at", x)),.im v]):=pL (om (x:=.str "at") (y:=.str "mark") rfl rfl (by kernel_rfl));exact oP (ρ:=[.im W,.im (kD ("at", x)),.im v]) rfl ((nV ((oZ e1).trans rfl)).trans (oM (nY (ds:=[W,.str x,v]) rfl key)))
theorem D6{v:L4.D}{x:Str}(h:qv (pR "str") v=some (.bl false)):oH [wM T M dk y,kD ("at", x),v]=some (.bl false):=by refine HV (hd:=.non) ?_ (.inl rfl);unfold cIf;rw[pL (oX (e:=cV 2) (x:=v) (ρ1:=[.im (wM T M dk y),.im (.str x),.im v,.un]) rfl h)];rfl
theorem wW{z x:Str}{hd:L4.D}(h:qX [wM T M dk y,.str z]=some hd)(h2:hd=.non\/∃t:Th,hd=thD t/\(x=y->t.k≠.room)/\(x≠y->t.k.hd=false)):oH [wM T M dk y,kD ("at", x),.str z]=some (.bl false):=by refine HV ?_ h2;unfold cIf;show pj pJ "thing_of" af c6 [.im (wM T M dk y),.im (.str x),.im (.str z),.un]=_;exact pK (m:="thing_of") (ns:=wNs) (xs:=wDs T M dk y (dcI (moL T M))) (ys:=[.str z]) rfl rfl rfl rfl h
theorem u0{v:L4.D}{x:Str}(h:rB [v]=some (.bl false)):oH [wM T M dk y,kD ("mark", x),v]=some (.bl false):=by let ρ:aU:=[.im (wM T M dk y),.im (kD ("mark", x)),.im v];have e1:cT (c2 (dEq false) (c2 dIx ak aX) cD) ρ=some (true,ρ):=pL (om (x:=.str "mark") (y:=.str "mark") rfl rfl (by kernel_rfl));exact oP (ρ:=ρ) rfl (oW ((ph e1).trans (oM (Fs (nY (ds:=[v]) rfl h)))))
theorem BI(nd:(nmK T Kd.mk++M.map Mk.n).Nodup){x:Str}{v:Int}(h:(x,m)∈moL T M)(h0:v<0\/m<v):oH [wM T M dk y,kD ("mark", x),.int v]=some (.bl false):=by
 let ρ:aU:=[.im (wM T M dk y),.im (kD ("mark", x)),.im (.int v)];have e1:cT (c2 (dEq false) (c2 dIx ak aX) cD) ρ=some (true,ρ):=pL (om (x:=.str "mark") (y:=.str "mark") rfl rfl (by kernel_rfl));have e2:n4 rB c6 ρ=some (.bl true,ρ):=nY (ds:=[.int v]) rfl rfl;have e3:pj rg "most_of" af kU ρ=some (.int m,ρ):=pK (m:="most_of") (ns:=wNs) (xs:=wDs T M dk y (dcI (moL T M))) (ys:=[.str x]) rfl rfl rfl rfl (HS nd h);refine oP (ρ:=ρ) rfl (oW ((ph e1).trans (oM ((pO e2).trans ?_))));by_cases q0:0<=v
 ·have q1:rK (.int 0) (.int v)=some (.bl true):=by show some (D.bl (decide ((0:Int)<=v)))=_;rw[aV q0]
  have q2:rK (.int v) (.int m)=some (.bl false):=by show some (D.bl (decide (v<=m)))=_;rw[aO (by omega)]
  exact Fq (ρ1:=ρ) (ρ2:=ρ) rfl rfl q1 e3 q2
 ·have q1:rK (.int 0) (.int v)=some (.bl false):=by show some (D.bl (decide ((0:Int)<=v)))=_;rw[aO q0]
  unfold qm;show (match rK (.int 0) (.int v)with|some (.bl true)=>_|some (.bl false)=>_|_=>_)=_;rw[q1]
end
section
variable{A:List (Str×Str)}{V:List (Str×Int)}{y:Str}{T:List Th}{M:List Mk}{dk:aG}{es:List L4.D}
theorem tk{n:Int}{es:List L4.D}(hn:0<n)(hi:IL es)(h0:pZ ρ j=some es)(he:e ρ=some (.int n,ρ)):∃(r:Nat) (es':List L4.D),IL es'/\(r:Int)<n/\pd nW j (nU e ox) ρ=some (.int r,putAt ρ j es'):=by obtain⟨r,es',h1,h2,h3,h4⟩:=qd hi n hn;obtain⟨r,rfl⟩:=cq h2;exact⟨r,es',h1,h3,qR h0 (nX he rfl) h0 h4⟩
theorem ixL{L es:List L4.D}(hl:L≠[])(hi:IL es)(h0:pZ ρ j=some es)(hf:f ρ=some (.lst L,ρ))(he:e ρ=some (.int L.length,ρ)):∃v es',v∈L/\IL es'/\c2 dIx f (pd nW j (nU e ox)) ρ=some (v,putAt ρ j es'):=by
 have hp:=l7.mpr hl;obtain⟨r,es',h1,h3,h4⟩:=tk (n:=L.length) (by omega) hi h0 he;have hr:r<L.length:=by omega
 exact⟨L[r],es',cj hr,h1,om hf h4 (xT (aI hr))⟩
def VJ(x:Str):Bool:=decide (x∉(["here", "it", "", "nobody"]:aG))
theorem HW(g:Good T M dk){z:Str}(hz:z∈(["here", "it", "", "nobody"]:aG)):z∉T.map Th.n:=λh=>bA (Bq (p:=VJ) (by kernel_rfl) (g.nm z (bE _ h))) hz
theorem Vq(k:Kd):dIn false (.str k.s) (.lst [.str "box", .str "you"])=some (.bl (decide (k=.box)||decide (k=.you))):=by cases k<;>kernel_rfl
def Pt(T:List Th)(M:List Mk)(k:Ky):Prop:=k.1="at" \/ ∃m,k.1="mark" /\ (k.2,m)∈moL T M
theorem Vr(g:Good T M dk){x:Str}(h:(x,m)∈moL T M):m<=3:=by
 rcases bb.mp h with h|h
 ·obtain⟨_,_,e⟩:=aL.mp h;injection e with _ e;omega
 ·obtain⟨k,hk,e⟩:=aL.mp h;injection e with _ e;have:=(g.mo k hk).2.1;omega
theorem O7(g:Good T M dk)(hi:IL es){k:Ky}(hk:Pt T M k):∃v es',IL es'/\qt es [rV T M dk y,kD k]=some (v,es')/\oH [wM T M dk y,kD k,v]=some (.bl false):=by
 let sp:=rV T M dk y;have nd:(nmK T Kd.mk++M.map Mk.n).Nodup:=g.nd.sublist ((pE T _).append (dA _));have hT:=g.len;obtain⟨s,x⟩:=k;let ρ:List L4.D->Sl->Sl->aU:=λes a b=>[.im sp,.im (kD (s,x)),.pm es,.im (.str s),.im (.str x),a,b]
 suffices run:∃v es' a b,IL es'/\qr (stL 7 es [sp,kD (s,x)])=some (.rt v (ρ es' a b))/\oH [wM T M dk y,kD (s,x),v]=some (.bl false) by obtain⟨v,es',a,b,h1,h2,h3⟩:=run;refine⟨v,es',h1,?_,h3⟩;unfold qt fnL;rw[ai (show [sp,kD (s,x)].length=2 from rfl),h2];rfl
 unfold qr;rw[nV (show _=some (Out.nx (ρ es .un .un)) from rfl)];have em:cT (c2 (dEq false) aB cD) (ρ es .un .un)=some (decide (s="mark"),ρ es .un .un):=pL (om (x:=.str s) (y:=.str "mark") rfl rfl (vo false s "mark"));rcases hk with hs|⟨m,hs,hm⟩
 ·have hs:s="at" := hs;rw[aO (by rw[hs];decide)]at em;rw[nV ((oZ em).trans (show _=some (Out.nx (ρ es .un .un)) from rfl))];have cc:=um (k:=3) (cap:=[]) (s:=iL (c2 qK af (cS "marks"))) (g:=gT (oo (gN 0) (oo (gN 1) (oo (gN 2) pT))) 3) (fe:=cV 0) mkT (λm=>D.str m.n) M (ρ:=ρ es .un .un) (ρ1:=ρ es .un .un) rfl (by have:=g.m4;omega) λm _=>⟨_,_,rfl,rfl,rfl⟩;let P:List L4.D:=(nmK T Kd.ot).map D.str++M.map λm=>D.str m.n;let Q:List L4.D:=[.str "here", .str "it", .str "", .str "nobody", .non,.int 0,.tup [.str "at", .str x]];have lo:=(pE T Kd.ot).length_le;rw[ah]at lo;have lP:P.length<=300:=by show ((nmK T Kd.ot).map D.str++M.map λm=>D.str m.n).length<=300;rw[ay,ah,ah];have:=g.m4;omega
  rw[nV ((oG (px (rL (px (nY (ds:=[sp,.lst [.str "plain", .str "fixed", .str "lamp"]]) (ρ1:=ρ es .un .un) rfl (of_ok (by omega) Kd.ot Pz))) (px cc) (by rw[ah,ah];have:=g.m4;omega)))).trans (show _=some (Out.nx (ρ es .un (.im (.lst P)))) from rfl))];rw[nV ((oG (px (rL (xs:=P) (ys:=Q) (ρ:=ρ es .un (.im (.lst P))) (ρ1:=ρ es .un (.im (.lst P))) (ρ2:=ρ es .un (.im (.lst P))) rfl rfl (by show P.length+7<=1000;omega)))).trans (show _=some (Out.nx (ρ es .un (.im (.lst (P++Q))))) from rfl))];have ey:cT (c2 (dEq false) aN (c2 qK af cZ)) (ρ es .un (.im (.lst (P++Q))))=some (decide (x=y),ρ es .un (.im (.lst (P++Q)))):=pL (om (x:=.str x) (y:=.str y) rfl rfl (vo false x y));let B:List L4.D:=if x=y then (nmK T λk=>decide (k=.box)||decide (k=.you)).map D.str else []
  have lb:=(pE T λk=>decide (k=.box)||decide (k=.you)).length_le;rw[ah]at lb;have s3:(sIf (cT (c2 (dEq false) aN (c2 qK af cZ))) (oT 6 (cL (qF bh (cL (o6 qE nL))))) o5:FS) (ρ es .un (.im (.lst (P++Q))))=some (.nx (ρ es .un (.im (.lst (P++Q++B))))):=by
   by_cases h:x=y
   ·rw[aV h]at ey;refine(ph ey).trans ((oG (px (rL (xs:=P++Q) (ρ1:=ρ es .un (.im (.lst (P++Q)))) rfl (px (nY (ds:=[sp,.lst [.str "box", .str "you"]]) rfl (of_ok (by omega) _ Vq))) (by rw[ay,ah];show P.length+7+_<=1000;omega)))).trans ?_);show _=some (Out.nx (ρ es .un (.im (.lst (P++Q++if x=y then (nmK T λk=>decide (k=.box)||decide (k=.you)).map D.str else [])))));rw[ai h];rfl
   ·rw[aO h]at ey;refine(oZ ey).trans ?_;show _=some (Out.nx (ρ es .un (.im (.lst (P++Q++if x=y then (nmK T λk=>decide (k=.box)||decide (k=.you)).map D.str else [])))));rw[aj h,bz];rfl
  rw[nV s3];obtain⟨v,es',hv,i',e⟩:=ixL (ρ:=ρ es .un (.im (.lst (P++Q++B)))) (j:=2) (f:=cV 6) (e:=c1 pP bh) (L:=P++Q++B) (by simp[Q]) hi rfl rfl rfl;refine⟨v,es',_,_,i',oM e,?_⟩;rw[hs];have thg:∀{p:Kd->Bool} {z:Str},z∈nmK T p->(∀k,p k=true->(x=y->k≠.room)/\(x≠y->k.hd=false))->oH [wM T M dk y,kD ("at", x),.str z]=some (.bl false):=λ{p z} hz hp=>by obtain⟨t,h1,h2,h3⟩:=sX hz;rw[<-h2];exact wW (Fp g.ndT h1) (.inr ⟨t,rfl,(hp _ h3).1,(hp _ h3).2⟩)
  rcases bb.mp hv with hv|hv
  ·rcases bb.mp hv with hv|hv
   ·rcases bb.mp hv with hv|hv
    ·obtain⟨z,hz,rfl⟩:=aL.mp hv;exact thg hz λk h=>by cases k<;>first|exact aq h (by decide)|exact⟨λ_ e=>(by cases e),λ_=>rfl⟩
    ·obtain⟨m,hm,rfl⟩:=aL.mp hv;exact wW (wG λh=>(bO.mp g.nd).2.2 _ h _ (aL.mpr ⟨m,hm,rfl⟩) rfl) (.inl rfl)
   ·simp only[Q,aP,bu,or_false]at hv;rcases hv with rfl|rfl|rfl|rfl|rfl|rfl|rfl
    ·exact wW (wG (HW g (by simp))) (.inl rfl)
    ·exact wW (wG (HW g (by simp))) (.inl rfl)
    ·exact wW (wG (HW g (by simp))) (.inl rfl)
    ·exact wW (wG (HW g (by simp))) (.inl rfl)
    ·exact D6 rfl
    ·exact D6 rfl
    ·exact D6 rfl
  ·by_cases h:x=y
   ·have hv:v∈if x=y then (nmK T λk=>decide (k=.box)||decide (k=.you)).map D.str else []:=hv
    rw[ai h]at hv;obtain⟨z,hz,rfl⟩:=aL.mp hv;exact thg hz λk hk=>⟨λ_ e=>(by rw[e]at hk;cases hk),λn=>aq h n⟩
   ·have hv:v∈if x=y then (nmK T λk=>decide (k=.box)||decide (k=.you)).map D.str else []:=hv
    rw[aj h]at hv;cases hv
 ·have hs:s="mark" := hs;subst hs;rw[aV rfl]at em;obtain⟨V,eV,v1,v2,rfl⟩:=Fi (y:=y) g;have el:rX ((moL T M).map λq=>kS q.1) ((moL T M).map λq=>D.int q.2) (kS x)=some (.int m):=Mu (by rw[v1];exact nd) hm;let L:List L4.D:=[.int (m+1),.int (-1),.bl true,.bl false,.str "0", .non,.int (10 ^ 30),.tup [.int 0]];obtain⟨v,es',hv,i',e⟩:=ixL (ρ:=ρ es (.im (.int m)) .un) (j:=2) (f:=cL (oU nI)) (e:=cC (.int 8)) (L:=L) (by simp[L]) hi rfl (by kernel_rfl) rfl;refine⟨v,es',_,_,i',oW ((ph em).trans ((nV (ρ':=ρ es (.im (.int m)) .un) ((oG (om (x:=dcI (moL T M)) (y:=.str x) (nY (ds:=[sp]) rfl eV) rfl el)).trans rfl)).trans (oM e))),?_⟩;have h3:=Vr g hm;simp only[L,aP,bu,or_false]at hv;rcases hv with rfl|rfl|rfl|rfl|rfl|rfl|rfl|rfl
  ·exact BI nd hm (.inr (by omega))
  ·exact BI nd hm (.inl (by omega))
  ·exact u0 rfl
  ·exact u0 rfl
  ·exact u0 rfl
  ·exact u0 rfl
  ·exact BI nd hm (.inr (Int.lt_of_le_of_lt h3 (by decide)))
  ·exact u0 rfl
end
section
variable{A:List (Str×Str)}{V:List (Str×Int)}{y:Str}{T:List Th}{M:List Mk}{dk:aG}{es:List L4.D}
theorem Ak{g:List L4.D->List L4.D->Option (L4.D×List L4.D)}{es:List L4.D}(h1:a ρ=some (ds,ρ1))(h2:pZ ρ1 i=some es)(h3:g es ds=some (d,es')):uO g i a ρ=some (d,putAt ρ1 i es'):=by unfold uO;rw[h1];simp only[h2,h3]
theorem HX{a:Str}(h:a≠b):pI [.str a,.str b]=some (.bl false):=by refine oP (ρ:=[.im (.str a),.im (.str b)]) rfl (oM ((pO (ρ1:=[.im (.str a),.im (.str b)]) rfl).trans (om (x:=.str a) (y:=.str b) rfl rfl ?_)));rw[vo,aO h];rfl
theorem D7{k k':Ky}(h:k'≠k):qY [.tup [.str k'.1,.str k'.2],kD k]=some (.bl false):=by
 let ρ:aU:=[.im (.tup [.str k'.1,.str k'.2]),.im (kD k)];have e1:n4 rh bC ρ=some (.bl true,ρ):=nY (ds:=[.tup [.str k'.1,.str k'.2]]) rfl (zm _ _);refine oP (ρ:=ρ) rfl (oM ((pO e1).trans ?_));by_cases h1:k'.1=k.1
 ·have e2:n4 pI nJ ρ=some (.bl true,ρ):=nY (ds:=[.str k'.1,.str k.1]) rfl (by rw[h1];exact D3 _);exact(pO e2).trans (nY (ds:=[.str k'.2,.str k.2]) rfl (HX λe=>h (ja h1 e)))
 ·exact Fs (nY (ds:=[.str k'.1,.str k.1]) rfl (HX h1))
def qB(x:Str):Bool:=match Cm (.str x) (.str "q")with
 |some (.str z)=>decide (z≠x)
 |_=>false
theorem Vs{x:Str}(h:Nm x):∃z:Str,z≠x/\Cm (.str x) (.str "q")=some (.str z):=by
 have:=Bq (p:=qB) (by kernel_rfl) h;unfold qB at this;split at this
 ·rename_i z e;exact⟨z,bA this,e⟩
 ·cases this
theorem MA(g:Good T M dk)(hi:IL es){k:Ky}(hk:Pt T M k)(hn:Nm k.2)(hd:(∃z,d=.str z)\/∃n,d=.int n):∃x es',IL es'/\qM es [rV T M dk y,prD (k,d)]=some (x,es')/\Bad (wM T M dk y) k x:=by
 let sp:=rV T M dk y;let ρ:List L4.D->Sl->aU:=λes s=>[.im sp,.im (prD (k,d)),.pm es,.im (kD k),.im d,.im (.str k.1),.im (.str k.2),s]
 suffices run:∃x es' s,IL es'/\qL (stL 8 es [sp,prD (k,d)])=some (.rt x (ρ es' s))/\Bad (wM T M dk y) k x by obtain⟨x,es',s,h1,h2,h3⟩:=run;refine⟨x,es',h1,?_,h3⟩;unfold qM fnL;rw[ai (show [sp,prD (k,d)].length=2 from rfl),h2];rfl
 unfold qL;rw[nV (show _=some (Out.nx [.im sp,.im (prD (k,d)),.pm es,.im (kD k),.im d,.un,.un,.un]) from rfl),nV (show _=some (Out.nx (ρ es .un)) from rfl)];obtain⟨r,es1,i1,r7,e1⟩:=tk (ρ:=ρ es .un) (j:=2) (e:=cC (.int 7)) (n:=7) (by decide) hi rfl rfl;rw[nV ((oG e1).trans (show _=some (Out.nx (ρ es1 (.im (.int r)))) from rfl))];let σ:=ρ es1 (.im (.int r));have lt3:cT (c2 yR bN eU) σ=some (decide ((r:Int)<3),σ):=rfl;have eqn:∀j:Int,cT (c2 (dEq false) bN (cC (.int j))) σ=some (decide ((r:Int)=j),σ):=λj=>pL (om (x:=.int r) (y:=.int j) rfl rfl (ud false r j));by_cases h3:(r:Int)<3
 ·rw[aV h3]at lt3;obtain⟨v,es2,i2,e2,bv⟩:=O7 (y:=y) g i1 hk;refine⟨_,es2,_,i2,oW ((ph lt3).trans (oM (uq (nX rfl (nX ((Ak (ρ1:=σ) (ds:=[sp,kD k]) rfl rfl e2).trans rfl) rfl)) (c9 rfl)))),.inr ⟨kD k,v,rfl,.inr ⟨D4 k,bv⟩⟩⟩
 rw[aO h3]at lt3;rw[nV ((oZ lt3).trans (show _=some (Out.nx σ) from rfl))];have q3:=eqn 3;by_cases h4:(r:Int)=3
 ·rw[aV h4]at q3;have sw:∃s':Str,s'≠k.1/\c2 dIx (cL (oU (nU cD (a1 fL)))) (c1 NW (c2 (dEq false) aY cD)) σ=some (.str s',σ):=by
   rcases hk with h|⟨m,h,_⟩
   ·refine⟨"mark", by rw[h];decide,om (x:=.lst [.str "mark", .str "at"]) (y:=.int 0) rfl (oX (x:=.bl false) (om (x:=.str k.1) (y:=.str "mark") rfl rfl (by rw[h];kernel_rfl)) rfl) rfl⟩
   ·refine⟨"at", by rw[h];decide,om (x:=.lst [.str "mark", .str "at"]) (y:=.int 1) rfl (oX (x:=.bl true) (om (x:=.str k.1) (y:=.str "mark") rfl rfl (by rw[h];kernel_rfl)) rfl) rfl⟩
  obtain⟨s',hs',es'⟩:=sw;exact⟨_,es1,_,i1,oW ((ph q3).trans (oM (uq (nX (uq (nX es' (nX rfl rfl)) (c9 rfl)) (nX rfl rfl)) (c9 rfl)))),.inr ⟨_,d,rfl,.inl (D7 (k':=(s',k.2)) λe=>hs' (aQ aD e))⟩⟩
 rw[aO h4]at q3;rw[nV ((oZ q3).trans (show _=some (Out.nx σ) from rfl))];have q4:=eqn 4;by_cases h5:(r:Int)=4
 ·rw[aV h5]at q4;obtain⟨z,hz,ez⟩:=Vs hn;exact⟨_,es1,_,i1,oW ((ph q4).trans (oM (uq (nX (uq (nX rfl (nX (om (x:=.str k.2) (y:=.str "q") rfl rfl ez) rfl)) (c9 rfl)) (nX rfl rfl)) (c9 rfl)))),.inr ⟨_,d,rfl,.inl (D7 (k':=(k.1,z)) λe=>hz (aQ fI e))⟩⟩
 rw[aO h5]at q4;rw[nV ((oZ q4).trans (show _=some (Out.nx σ) from rfl))];let L:List L4.D:=[.lst [kD k,d],.tup [.lst [.str k.1,.str k.2],d],.tup [kD k,d,.int 0],.tup [kD k],d];obtain⟨v,es2,hv,i2,e2⟩:=ixL (ρ:=σ) (j:=2) (f:=cL (oU nH)) (e:=cC (.int 5)) (L:=L) (by simp[L]) i1 rfl rfl rfl;refine⟨v,es2,_,i2,oM e2,?_⟩;simp only[L,aP,bu,or_false]at hv;rcases hv with rfl|rfl|rfl|rfl|rfl
 ·exact .inl rfl
 ·exact .inr ⟨_,_,rfl,.inl rfl⟩
 ·exact .inl rfl
 ·exact .inl rfl
 ·rcases hd with ⟨z,rfl⟩|⟨z,rfl⟩<;>exact .inl rfl
end
theorem TU{k:Nat}(h:k<=ds.length):cutD ds none (some (k:Int))=ds.take k:=by unfold cutD;rw[HT.xR,HT.wH,eE h,m7,Nat.sub_zero]
theorem Fu{k:Nat}(h:k<=ds.length):cutD ds (some (k:Int)) none=ds.drop k:=by unfold cutD;rw[HT.xR,HT.wH,eE h,jr (by rw[bM];exact az _)]
variable{xs:List L4.D}
theorem GO{lo hi:FO}{l h:Option Int}(h1:f ρ=some (.tup ds,ρ))(h2:lo ρ=some (l,ρ))(h3:hi ρ=some (h,ρ))(e:cutD ds l h=xs):xH f lo hi ρ=some (.tup xs,ρ):=by unfold xH;rw[h1];simp only[h2,h3,e]
theorem vH{g:FE}{ys:List L4.D}(h1:f ρ=some (.tup xs,ρ1))(h2:g ρ1=some (.tup ys,ρ2))(hl:xs.length+ys.length<=900):vL f g ρ=some (.tup (xs++ys),ρ2):=by unfold vL;rw[h1];simp only[h2,hl,if_true]
section
variable{A:List (Str×Str)}{V:List (Str×Int)}{y:Str}{T:List Th}{M:List Mk}{dk:aG}{es:List L4.D}{S:List (Ky×L4.D)}
theorem JH(g:Good T M dk)(hp:pz [wM T M dk y]=some (.lst (S.map λq=>kD q.1)))(hv:∀q∈S,oH [wM T M dk y,kD q.1,q.2]=some (.bl true))(nd:(S.map aD).Nodup)(pt:∀q∈S,Pt T M q.1/\Nm q.1.2/\((∃z,q.2=.str z)\/∃n,q.2=.int n))(h0:0<S.length)(hl:S.length<=100)(hi:IL es):
  ∃d es',rj es [rV T M dk y,sD S]=some (d,es')/\pN [wM T M dk y,d]=some (.bl false):=by
 let sp:=rV T M dk y;let ds:=S.map prD;have ld:ds.length=S.length:=ah ..;let ρ:List L4.D->Sl->Sl->aU:=λes a b=>[.im sp,.im (sD S),.pm es,a,b]
 suffices run:∃d es' a b,sE (stL 5 es [sp,sD S])=some (.rt d (ρ es' a b))/\pN [wM T M dk y,d]=some (.bl false) by obtain⟨d,es',a,b,h2,h3⟩:=run;refine⟨d,es',?_,h3⟩;unfold rj fnL;rw[ai (show [sp,sD S].length=2 from rfl),h2];rfl
 unfold sE;obtain⟨r,es1,i1,r1,e1⟩:=tk (ρ:=ρ es .un .un) (j:=2) (e:=c1 pP ak) (n:=S.length) (by omega) hi rfl (by show some (D.int (ds.length:Nat),_)=_;rw[ld]);obtain⟨w,es2,i2,w1,e2⟩:=tk (ρ:=ρ es1 (.im (.int r)) .un) (j:=2) (e:=cC (.int 8)) (n:=8) (by decide) i1 rfl rfl;rw[show stL 5 es [sp,sD S]=ρ es .un .un from rfl,nV ((oG e1).trans (show _=some (Out.nx (ρ es1 (.im (.int r)) .un)) from rfl)),nV ((oG e2).trans (show _=some (Out.nx (ρ es2 (.im (.int r)) (.im (.int w)))) from rfl))];have hr:r<S.length:=by omega
 let σ:=ρ es2 (.im (.int r)) (.im (.int w));have eqn:∀j:Int,cT (c2 (dEq false) aN (cC (.int j))) σ=some (decide ((w:Int)=j),σ):=λj=>pL (om (x:=.int w) (y:=.int j) rfl rfl (ud false w j));have to:∀k:Nat,k<=S.length->∀{f:FE},f σ=some (.int k,σ)->xH ak oNo (oAt f) σ=some (.tup (ds.take k),σ):=λk hk f h=>GO (ds:=ds) rfl rfl (show oAt f σ=some (some (k:Int),σ) by unfold oAt;rw[h]) (TU (by omega));have fro:∀k:Nat,k<=S.length->∀{f:FE},f σ=some (.int k,σ)->xH ak (oAt f) oNo σ=some (.tup (ds.drop k),σ):=λk hk f h=>GO (ds:=ds) rfl (show oAt f σ=some (some (k:Int),σ) by unfold oAt;rw[h]) rfl (Fu (by omega));let S1:=S.take r;let q:=S[r];let S2:=S.drop (r+1);have eS:S1++q::S2=S:=by show S.take r++S[r]::S.drop (r+1)=S;rw[<-hE hr,lT]
 have t1:ds.take r=S1.map prD:=(fC ..).symm;have d2:ds.drop (r+1)=S2.map prD:=(fA ..).symm;have hp':pz [wM T M dk y]=some (.lst ((S1++q::S2).map λq=>kD q.1)):=by rw[eS];exact hp
 have hv':∀q∈S1,oH [wM T M dk y,kD q.1,q.2]=some (.bl true):=λx hx=>hv x (lZ hx);have hq:q∈S:=cj hr;have lS2:S2.length=S.length - (r+1):=bM ..;have lS1:S1.length=r:=by show (S.take r).length=r;rw[br];omega
 have q0:=eqn 0;by_cases h0':(w:Int)=0
 ·rw[aV h0']at q0;refine⟨_,es2,_,_,oW ((ph q0).trans (oM (vH (to r (by omega) rfl) (fro (r+1) (by omega) rfl) ?_))),BH hp ?_⟩
  ·rw[br,bM];omega
  ·rw[ay,br,bM];omega
 rw[aO h0']at q0;rw[nV ((oZ q0).trans (show _=some (Out.nx σ) from rfl))];have q1:=eqn 1;by_cases h1':(w:Int)=1
 ·rw[aV h1']at q1;refine⟨_,es2,_,_,oW ((ph q1).trans (oM (vH (to (r+1) (by omega) rfl) (fro r (by omega) rfl) ?_))),BH hp ?_⟩
  ·rw[br,bM];omega
  ·rw[ay,br,bM];omega
 rw[aO h1']at q1;rw[nV ((oZ q1).trans (show _=some (Out.nx σ) from rfl))];have q2:=eqn 2;have elt:cT (c2 yR (c2 o9 aB aJ) (c1 pP ak)) σ=some (decide ((r:Int)+1<(S.length:Int)),σ):=by show some (decide ((r:Int)+1<((S.map prD).length:Nat)),σ)=_;rw[ah]
 by_cases h2':(w:Int)=2/\(r:Int)+1<(S.length:Int)
 ·rw[aV h2'.1]at q2;rw[aV h2'.2]at elt;have hr2:r+1<S.length:=by omega
  have ix:∀{f:FE} (k:Nat) (hk:k<S.length),f σ=some (.int k,σ)->c2 dIx ak f σ=some (prD S[k],σ):=λ{f} k hk h=>om (x:=.tup ds) (y:=.int k) rfl h (xT (by show (S.map prD)[k]?=_;rw[bt,aI hk];rfl));refine⟨_,es2,_,_,oW ((ph ((Da q2).trans elt)).trans (oM (vH (ρ1:=σ) (vH (to r (by omega) rfl) (uq (nX (ix (r+1) hr2 rfl) (nX (ix r hr rfl) rfl)) (c9 rfl)) ?_) (fro (r+2) (by omega) rfl) ?_))),?_⟩
  ·rw[br];show min r ds.length+2<=900;omega
  ·rw[ay,br,bM];show min r ds.length+2+_<=900;omega
  ·rw[t1,bw];refine D5 (x:=prD S[r+1]) hp' hv' (.inr ⟨_,_,rfl,.inl (D7 (k':=S[r+1].1) λe=>?_)⟩) (R:=prD S[r]::ds.drop (r+2)) ?_
   ·have:=(List.nodup_iff_pairwise_ne.mp nd);rw[fg]at this;exact this r (r+1) (by rw[ah];exact hr) (by rw[ah];exact hr2) (by omega) (by rw[iy,iy];exact e.symm)
   ·rw[aF,bM,lS2];omega
 have e2f:tY (cT (c2 (dEq false) aN dR)) (cT (c2 yR (c2 o9 aB aJ) (c1 pP ak))) σ=some (false,σ):=by
  by_cases h:(w:Int)=2
  ·rw[aV h]at q2;rw[aO λz=>h2' ⟨h,z⟩]at elt;exact(Da q2).trans elt
  ·rw[aO h]at q2;exact JG q2
 rw[nV ((oZ e2f).trans (show _=some (Out.nx σ) from rfl))];have q3:=eqn 3;by_cases h3':(w:Int)=3
 ·rw[aV h3']at q3;let L:List L4.D:=[.lst ds,.non,.tup [],.int 7,.str "stand", .lst [],.dic [] [],.bl true,.tup [sD S],.tup (ds++[.non])];obtain⟨v,es3,hvL,i3,e3⟩:=ixL (ρ:=σ) (j:=2) (f:=cL (oU nG)) (e:=cC (.int 10)) (L:=L) (by simp[L]) i2 rfl (px (DA (nX rfl (nX rfl (nX rfl (nX rfl (nX rfl (nX rfl (nX rfl (nX rfl (nX rfl (nX (vH (xs:=ds) (ys:=[.non]) (ρ1:=σ) rfl rfl (by rw[ld];show S.length+1<=900;omega)) rfl)))))))))) (c9 rfl))) rfl;refine⟨v,es3,_,_,oW ((ph q3).trans (oM e3)),?_⟩;simp only[L,aP,bu,or_false]at hvL;rcases hvL with rfl|rfl|rfl|rfl|rfl|rfl|rfl|rfl|rfl|rfl
  ·exact xP hp rfl
  ·exact xP hp rfl
  ·exact BH hp (by show 0≠_;omega)
  ·exact xP hp rfl
  ·exact xP hp rfl
  ·exact xP hp rfl
  ·exact xP hp rfl
  ·exact xP hp rfl
  ·by_cases hn:S.length=1
   ·have e1:S1=[]:=List.eq_nil_of_length_eq_zero (by omega);have:=D5 (x:=sD S) (R:=[]) hp' hv' (.inl ?_) (by rw[lS2];show 0=_;omega)
    ·rw[e1]at this;exact this
    ·match S,hn with
     |[a],_=>rfl
   ·exact BH hp (by show 1≠_;omega)
  ·exact BH hp (by rw[ay,ld];show S.length+1≠_;omega)
 rw[aO h3']at q3;rw[nV ((oZ q3).trans (show _=some (Out.nx σ) from rfl))];obtain⟨p1,p2,p3⟩:=pt q hq;obtain⟨x,es3,i3,e3,bx⟩:=MA (y:=y) (k:=q.1) (d:=q.2) g i2 p1 p2 p3;have ix:c2 dIx ak aB σ=some (prD q,σ):=om (x:=.tup ds) (y:=.int r) rfl rfl (xT (by show (S.map prD)[r]?=_;rw[bt,aI hr];rfl));let τ:=ρ es3 (.im (.int r)) (.im (.int w));refine⟨_,es3,_,_,oM (vH (ρ1:=τ) (vH (to r (by omega) rfl) (uq (nX ((Ak (ρ1:=σ) (ds:=[sp,prD q]) (nX rfl (nX ix rfl)) rfl e3).trans rfl) rfl) (c9 rfl)) ?_) (GO (ds:=ds) (xs:=ds.drop (r+1)) rfl rfl rfl (Fu (k:=r+1) (by omega))) ?_),?_⟩
 ·rw[br];show min r ds.length+1<=900;omega
 ·rw[ay,br,bM];show min r ds.length+1+_<=900;omega
 ·rw[t1,bw];exact D5 (x:=x) (R:=ds.drop (r+1)) hp' hv' bx (by rw[bM,lS2,ld])
end
theorem HY(ns:List Int)(k:Nat):∃c,rS [.fzl (ns.map D.int),.int k]=some (.int c):=by
 let ρ:aU:=[.im (.fzl (ns.map D.int)),.im (.int k)];have ev:cT (c2 yR ak (c1 pP af)) ρ=some (decide ((k:Int)<((ns.map D.int).length:Nat)),ρ):=rfl;rw[ah]at ev;by_cases h:k<ns.length
 ·rw[aV (by omega)]at ev;refine⟨ns[k],oP (ρ:=ρ) rfl (oW ((ph ev).trans (oM (om (x:=.fzl (ns.map D.int)) (y:=.int k) rfl rfl ?_))))⟩;exact xT (by rw[bt,aI h];rfl)
 ·rw[aO (by omega)]at ev;exact⟨0,oP (ρ:=ρ) rfl ((nV ((oZ ev).trans rfl)).trans rfl)⟩
theorem O8{g:List L4.D->List L4.D->Option (L4.D×List L4.D)}{n:FA}{ns:List L4.D}(h1:a ρ=some (ds,ρ1))(h2:n ρ1=some (ns,ρ2))(h3:g ns ds=some (d,es')):Ba g a n ρ=some (d,ρ2):=by unfold Ba;rw[h1];simp only[h2,h3]
def lB:FS:=(n9 (oT 7 (Ba rj (nU ak (a1 aY)) (o6 qZ (nU bh eZ))))
 (sIf (cT (c2 wJ (n4 pN (nU aw (a1 bN))) cy)) (oQ cy) o5))
theorem TV(ns:List Int)(hl:ns.length<=63):Pw [.fzl (ns.map D.int)]=some (.bl true):=by
 obtain⟨c0,e0⟩:=HY ns 0;obtain⟨c1,e1⟩:=HY ns 1;obtain⟨T,M,dk,y,es,g,hy⟩:=OZ c0;have ew:=Mg g hy (Mt g);obtain⟨xs,ix,dx⟩:=Bx c1 60 (by decide);obtain⟨A,x1,i1,a,pn,⟨kA,hH,hY⟩,pl⟩:=JB g hy ix;obtain⟨V,x2,i2,mk,vn,vb⟩:=Mh (y:=y) g i1;have h0:0<A.length:=by obtain⟨r,h⟩:=a.yo;exact lK h
 obtain⟨S,o,lS,st,⟨hp,hv,pm⟩,is⟩:=My (y:=y) g a.nd h0 a.ln kA hH hY vn vb;have lV:V.length<=40:=by
  have h1:=aQ b0 vn;rw[ah,ay,ah]at h1;have h2:=DZ (T:=T) (p:=Kd.mk) (q:=Kd.pl) λk h=>by cases k<;>first|rfl|cases h
  have h3:=g.p7;have h4:=g.m4;omega
 have hA:=a.ln;have yes:=is (λ_=>true) λt ht=>by obtain⟨l,hc,_⟩:=Ml a t.n;exact O5 a.nd o hc (by have:=TM a hc;omega) (by omega)
 rw[show (T.all λt=>(λ_:Str=>true) t.n)=true by simp]at yes;have ndm:(nmK T Kd.mk++M.map Mk.n).Nodup:=g.nd.sublist ((pE T _).append (dA _));have nd:(S.map aD).Nodup:=by
  refine(pm.map aD).nodup_iff.mpr ?_;unfold bas;rw[aR,aK,aK,bO];refine⟨?_,?_,λx hx z hz e=>?_⟩
  ·have:A.map (aD∘λq=>((("at", q.1):Ky),D.str q.2))=(A.map aD).map λx=>(("at", x):Ky):=by rw[aK];rfl
   rw[this];exact xO (λa b h=>aQ fI h) a.nd
  ·have:V.map (aD∘λq=>((("mark", q.1):Ky),D.int q.2))=(V.map aD).map λx=>(("mark", x):Ky):=by rw[aK];rfl
   rw[this];exact xO (λa b h=>aQ fI h) (by rw[vn];exact ndm)
  ·obtain⟨_,_,rfl⟩:=aL.mp hx;obtain⟨_,_,rfl⟩:=aL.mp hz;exact aq (aQ aD e) (by decide:¬(("at" : Str)="mark"))
 have pt:∀q∈S,Pt T M q.1/\Nm q.1.2/\((∃z,q.2=.str z)\/∃n,q.2=.int n):=λq hq=>by
  rcases bb.mp (pm.mem_iff.mp hq)with h|h
  ·obtain⟨b,hb,rfl⟩:=aL.mp h;have hx:=(kA b.1).mp (aL.mpr ⟨b,hb,rfl⟩);exact⟨.inl rfl,g.nm _ (bE _ ((pE T _).subset hx)),.inl ⟨_,rfl⟩⟩
  ·obtain⟨b,hb,rfl⟩:=aL.mp h;obtain⟨m,m1,m2,_⟩:=vb b hb;have hx:b.1∈nmK T Kd.mk++M.map Mk.n:=by rw[<-vn];exact aL.mpr ⟨b,hb,rfl⟩
   refine⟨.inr ⟨m.2,rfl,by rw[m2];exact m1⟩,g.nm _ ?_,.inr ⟨_,rfl⟩⟩;rcases bb.mp hx with h|h
   ·exact bE _ ((pE T _).subset h)
   ·exact bD _ h
 let sc:=D.fzl (ns.map D.int);let W:=wM T M dk y;let sp:=rV T M dk y;let R:Sl->Sl->aU:=λs t=>[.im sc,.im sp,.im W,.ls x2,.im (atD A),.im (sD S),s,t];have loop:∀(l:List Int) (s t:Sl),∃s' t',forL (gN 6) lB (l.map D.int) (R s t)=some (.nx (R s' t')):=by
  intro l
  induction l with
  |nil=>exact λs t=>⟨s,t,rfl⟩
  |cons c l ih=>
   intro s t;obtain⟨zs,iz,dz⟩:=Bx c 8 (by decide);obtain⟨d,z',e2,bd⟩:=JH (y:=y) g hp hv nd pt (by omega) (by omega) iz;obtain⟨s',t',h⟩:=ih (.im (.int c)) (.im d);refine⟨s',t',?_⟩;rw[ar];unfold forL;rw[show gN 6 (.int c) (R s t)=some (R (.im (.int c)) t) from rfl];have ev:lB (R (.im (.int c)) t)=some (.nx (R (.im (.int c)) (.im d))):=by unfold lB;refine(nV (ρ':=R (.im (.int c)) (.im d)) ((oG (O8 (ds:=[sp,sD S]) (ρ1:=R (.im (.int c)) t) rfl (nY (ds:=[.int c,.int 8]) rfl dz) e2)).trans rfl)).trans ?_;exact(oZ (pL (om (x:=.bl false) (y:=.bl false) (nY (ds:=[W,d]) rfl bd) rfl rfl))).trans rfl
   simp only[ev];exact h
 let cs:List Int:=(ns.drop (HT.sIx ns.length 0 (some 2))).take (HT.sIx ns.length ns.length (some 22) - HT.sIx ns.length 0 (some 2));have ec:cutD (ns.map D.int) (some 2) (some 22)=cs.map D.int:=by unfold cutD;rw[ah,<- fA,<- fC]
 obtain⟨s',t',e⟩:=loop cs .un .un;refine oP (ρ:=R s' t') rfl ?_;refine(nV (ρ':=[.im sc,.im sp,.un,.un,.un,.un,.un,.un]) ((oG (nY (nX (nY (nX rfl (nX rfl rfl)) e0) rfl) es)).trans rfl)).trans ?_;refine(nV (ρ':=[.im sc,.im sp,.im W,.un,.un,.un,.un,.un]) ((oG (nY (nX rfl rfl) ew)).trans rfl)).trans ?_;refine(nV (ρ':=[.im sc,.im sp,.im W,.ls xs,.un,.un,.un,.un]) ((yc (nY (ds:=[.int c1,.int 60]) (nX (nY (ds:=[sc,.int 1]) rfl e1) rfl) dx)).trans rfl)).trans ?_;refine(nV (ρ':=[.im sc,.im sp,.im W,.ls x1,.im (atD A),.un,.un,.un]) ((oG (Ak (ρ1:=[.im sc,.im sp,.im W,.ls xs,.un,.un,.un,.un]) rfl rfl pl)).trans rfl)).trans ?_;refine(nV (ρ':=R .un .un) ((oG (nY (ds:=[atD A,dcI V]) (nX rfl (nX (Ak (ρ1:=[.im sc,.im sp,.im W,.ls x1,.im (atD A),.un,.un,.un]) rfl rfl mk) rfl)) st)).trans rfl)).trans ?_;refine(nV (ρ':=R .un .un) ((oZ (pL (om (x:=.bl true) (y:=.bl true) (nY (ds:=[W,sD S]) rfl yes) rfl rfl))).trans rfl)).trans ?_;refine(nV ((p5 (ds:=cs.map D.int) (ρ1:=R .un .un) ?_).trans e)).trans ?_
 ·exact(BA (px (show cSl af (some 2) (some 22) (R .un .un)=some (cutD (ns.map D.int) (some 2) (some 22),R .un .un) from rfl))).trans (by rw[ec])
 ·exact oM (om (x:=.bl true) (y:=.bl true) (nY (ds:=[W,sD S]) rfl yes) rfl rfl)
end K14x
namespace K14x
open PySem L2 L3 L4
open PySem.W (nsIn)
structure Fx(K:ao)(C0 C1 C2 C3 C4 C5 C6 C7 C8 C9 C10 C11 C12 C13 C14:Addr):Prop where
 a0:nsIn K mainGlobals "Thing" = some (some (.ref C0))
 a1:nsIn K mainGlobals "Mark" = some (some (.ref C1))
 a2:nsIn K mainGlobals "Verb" = some (some (.ref C2))
 a3:nsIn K mainGlobals "At" = some (some (.ref C3))
 a4:nsIn K mainGlobals "Has" = some (some (.ref C4))
 a5:nsIn K mainGlobals "Seen" = some (some (.ref C5))
 a6:nsIn K mainGlobals "Marked" = some (some (.ref C6))
 a7:nsIn K mainGlobals "Kind" = some (some (.ref C7))
 a8:nsIn K mainGlobals "Word" = some (some (.ref C8))
 a9:nsIn K mainGlobals "Not" = some (some (.ref C9))
 a10:nsIn K mainGlobals "Both" = some (some (.ref C10))
 a11:nsIn K mainGlobals "Move" = some (some (.ref C11))
 a12:nsIn K mainGlobals "Put" = some (some (.ref C12))
 a13:nsIn K mainGlobals "Rule" = some (some (.ref C13))
 a14:nsIn K mainGlobals "World" = some (some (.ref C14))
 k0:CF K C0 ["kind", "name", "start", "words"]
 k1:CF K C1 ["most", "name", "start"]
 k2:CF K C2 ["joining", "name", "others", "form"]
 k3:CF K C3 ["place", "term"]
 k4:CF K C4 ["term"]
 k5:CF K C5 []
 k6:CF K C6 ["term", "value"]
 k7:CF K C7 ["kind", "term"]
 k8:CF K C8 []
 k9:CF K C9 ["inner"]
 k10:CF K C10 []
 k11:CF K C11 ["place", "term"]
 k12:CF K C12 ["term", "value"]
 k13:CF K C13 ["verb", "deeds", "refuses", "tests", "text"]
 k14:CF K C14 ["copied_rules", "kept_marks", "kept_things", "kept_verbs", "mosts_by_name", "shared_rules", "shared_verbs", "things_by_name", "your_name", "kept_dark", "kept_rules", "kept_ways", "rules_by_verb", "verbs_by_word"]
 i_Mark:Ah K [C0,C1,C2,C3,C4,C5,C6,C7,C8,C9,C10,C11,C12,C13,C14] C1 1=true
 i_Thing:Ah K [C0,C1,C2,C3,C4,C5,C6,C7,C8,C9,C10,C11,C12,C13,C14] C0 0=true
 nd:decide ([C0,C1,C2,C3,C4,C5,C6,C7,C8,C9,C10,C11,C12,C13,C14]:List Addr).Nodup=true
 e:((["all", "any", "bool", "int", "isinstance", "len", "list", "range", "set", "sorted", "str", "tuple", "zip"]:aG).all λx=>match nsIn K mainGlobals x with|some none=>true|_=>false)=true
 g0:GS K "KINDS" ["room", "plain", "fixed", "box", "lamp", "you"]
 g1:GS K "KINDS_APART" ["room", "you"]
 g2:GS K "KINDS_THAT_HOLD" ["room", "box", "you"]
 g3:GS K "KINDS_WITH_MARK" ["box", "lamp"]
 g4:GC K "MOST_BESIDE" 7
 g5:GC K "MOST_IN_NAME" 8
 g6:GC K "MOST_IN_WORD" 12
 g7:GC K "MOST_MARKS" 4
 g8:GC K "MOST_OF_MARK" 3
 g9:GC K "MOST_ROOMS" 5
 g10:GC K "MOST_RULES" 20
 g11:GC K "MOST_VERBS" 6
 g12:GC K "MOST_WAYS" 10
 g13:GC K "MOST_WORDS" 4
 g14:GS K "NO_NAMES" ["it", "other", "here", "the", "a", "undo", "restart"]
 g15:GS K "NO_WORDS" ["the", "a"]
 g16:GS K "NO_WORDS_OF_ROWS" ["the", "a", "undo", "restart"]
 q17:GD K "is_small_letters" (top 6)
 q18:GD K "is_name" (top 7)
 q19:GD K "is_word" (top 8)
 q20:GD K "is_one_of" (top 10)
 q21:GD K "is_whole" (top 11)
 q22:GD K "is_list_up_to" (top 12)
 q23:GD K "own_list" (top 104)
 q24:GJ K C0 "Thing.__init__" (inClass (top 30) 0) [V.non]
 q25:GM K C1 "__init__" "Mark.__init__" (inClass (top 31) 0)
 q26:GJ K C2 "Verb.__init__" (inClass (top 32) 0) [V.non,(V.str "one"),V.non]
 q27:GM K C3 "__init__" "At.__init__" (inClass (top 81) 0)
 q28:GM K C4 "__init__" "Has.__init__" (inClass (top 82) 0)
 q29:GM K C6 "__init__" "Marked.__init__" (inClass (top 84) 0)
 q30:GM K C7 "__init__" "Kind.__init__" (inClass (top 85) 0)
 q31:GM K C9 "__init__" "Not.__init__" (inClass (top 88) 0)
 q32:GM K C11 "__init__" "Move.__init__" (inClass (top 95) 0)
 q33:GM K C12 "__init__" "Put.__init__" (inClass (top 96) 0)
 q34:GJ K C13 "Rule.__init__" (inClass (top 103) 0) [(V.bl false)]
 q35:GM K C0 "can_hold" "Thing.can_hold" (inClass (top 30) 1)
 q36:GM K C0 "has_mark" "Thing.has_mark" (inClass (top 30) 2)
 q37:GM K C0 "is_plainly" "Thing.is_plainly" (inClass (top 30) 3)
 q38:GD K "refuse_unless" (top 45)
 q39:GD K "count_of" (top 48)
 q40:GD K "plain_ones" (top 49)
 q41:GD K "is_mark" (top 51)
 q42:GD K "check_things" (top 47)
 q43:GD K "check_marks" (top 50)
 q44:GD K "are_unlike" (top 53)
 q45:GD K "check_names" (top 52)
 q46:GD K "mark_names" (top 54)
 q47:GD K "is_start" (top 56)
 q48:GDa K "comes_to_room_checks" "comes_to_room" (top 57)
 q49:GD K "check_starts" (top 55)
 q50:GD K "are_words" (top 60)
 q51:GD K "has_all" (top 62)
 q52:GD K "is_told_apart" (top 61)
 q53:GD K "check_words_of_things" (top 59)
 q54:GD K "check_dark" (top 63)
 q55:GD K "check_ways" (top 64)
 q56:GD K "check_verbs" (top 66)
 q57:GD K "are_apart" (top 69)
 q58:GD K "check_vocabulary" (top 68)
 q59:GD K "check_parts" (top 46)
 q60:GD K "does" (top 127)
 q61:GD K "refuses" (top 128)
 q62:GD K "hand_rules" (top 129)
 q63:GD K "put_rules" (top 130)
 q64:GD K "lid_rules" (top 131)
 q65:GD K "flame_rules" (top 132)
 q66:GD K "go_rules" (top 133)
 q67:GD K "wait_rules" (top 135)
 q68:GD K "common_rules" (top 126)
 q69:GD K "common_verbs" (top 125)
 q70:GD K "by_name" (top 139)
 q71:GD K "mosts_by_name" (top 140)
 q72:GD K "verbs_by_word" (top 141)
 q73:GD K "by_verb" (top 142)
 q74:GM K C14 "of_kind" "World.of_kind" (inClass (top 138) 3)
 q75:GM K C14 "all_verbs" "World.all_verbs" (inClass (top 138) 13)
 q76:GM K C14 "__init__" "World.__init__" (inClass (top 138) 0)
 q77:GD K "is_same_text" (top 9)
 q78:GM K C14 "you" "World.you" (inClass (top 138) 4)
 q79:GM K C14 "names" "World.names" (inClass (top 138) 1)
 q80:GM K C14 "thing_of" "World.thing_of" (inClass (top 138) 2)
 q81:GM K C14 "most_of" "World.most_of" (inClass (top 138) 6)
 q82:GM K C14 "parts" "World.parts" (inClass (top 138) 18)
 q83:GD K "value_of" (top 14)
 q84:GD K "at_of" (top 15)
 q85:GDa K "comes_to_room_stands" "comes_to_room" (top 22)
 q86:GD K "is_two" (top 18)
 q87:GD K "is_part" (top 19)
 q88:GD K "is_holder" (top 21)
 q89:GD K "is_value" (top 20)
 q90:GD K "is_stand" (top 17)
 q91:GD K "_law_cell_at" (top 144)
 q92:GD K "_law_draws" (top 145)
 q93:GD K "_law_take" (top 146)
 q94:GD K "_law_names" (top 147)
 q95:GD K "_law_others" (top 148)
 q96:GD K "_law_spec" (top 149)
 q97:GD K "_law_world" (top 150)
 q98:GD K "_law_of" (top 151)
 q99:GD K "_law_mosts" (top 152)
 q100:GD K "_law_places" (top 153)
 q101:GD K "_law_marks" (top 154)
 q102:GD K "_law_stand" (top 155)
 q103:GD K "_law_other_value" (top 156)
 q104:GD K "_law_other_pair" (top 157)
 q105:GD K "_law_spoilt" (top 158)
 q106:GD K "law" (top 159)
class Yx(B:Bz):Prop where
 y:Yw B.P B.w B.mg B.base B.G
 f:Fx B.G.K (B.G.ca 0) (B.G.ca 1) (B.G.ca 2) (B.G.ca 3) (B.G.ca 4) (B.G.ca 5) (B.G.ca 6) (B.G.ca 7) (B.G.ca 8) (B.G.ca 9) (B.G.ca 10) (B.G.ca 11) (B.G.ca 12) (B.G.ca 13) (B.G.ca 14)
section
variable{B:Bz}[Y:Yx B]
instance:Yb B:=⟨Y.y⟩
instance:Nb B "all" := ⟨Y.y.n Y.f.e 0 rfl⟩
instance:Nb B "any" := ⟨Y.y.n Y.f.e 1 rfl⟩
instance:Nb B "bool" := ⟨Y.y.n Y.f.e 2 rfl⟩
instance:Nb B "int" := ⟨Y.y.n Y.f.e 3 rfl⟩
instance:Nb B "isinstance" := ⟨Y.y.n Y.f.e 4 rfl⟩
instance:Nb B "len" := ⟨Y.y.n Y.f.e 5 rfl⟩
instance:Nb B "list" := ⟨Y.y.n Y.f.e 6 rfl⟩
instance:Nb B "range" := ⟨Y.y.n Y.f.e 7 rfl⟩
instance:Nb B "set" := ⟨Y.y.n Y.f.e 8 rfl⟩
instance:Nb B "sorted" := ⟨Y.y.n Y.f.e 9 rfl⟩
instance:Nb B "str" := ⟨Y.y.n Y.f.e 10 rfl⟩
instance:Nb B "tuple" := ⟨Y.y.n Y.f.e 11 rfl⟩
instance:Nb B "zip" := ⟨Y.y.n Y.f.e 12 rfl⟩
instance:Co B "KINDS" DQ:=⟨Y.y.cs Y.f.g0⟩
instance:Co B "KINDS_APART" xc:=⟨Y.y.cs Y.f.g1⟩
instance:Co B "KINDS_THAT_HOLD" uf:=⟨Y.y.cs Y.f.g2⟩
instance:Co B "KINDS_WITH_MARK" ug:=⟨Y.y.cs Y.f.g3⟩
instance:Co B "MOST_BESIDE" xf:=⟨Y.y.ci Y.f.g4⟩
instance:Co B "MOST_IN_NAME" wg:=⟨Y.y.ci Y.f.g5⟩
instance:Co B "MOST_IN_WORD" wj:=⟨Y.y.ci Y.f.g6⟩
instance:Co B "MOST_MARKS" sT:=⟨Y.y.ci Y.f.g7⟩
instance:Co B "MOST_OF_MARK" wm:=⟨Y.y.ci Y.f.g8⟩
instance:Co B "MOST_ROOMS" yn:=⟨Y.y.ci Y.f.g9⟩
instance:Co B "MOST_RULES" yq:=⟨Y.y.ci Y.f.g10⟩
instance:Co B "MOST_VERBS" yp:=⟨Y.y.ci Y.f.g11⟩
instance:Co B "MOST_WAYS" zD:=⟨Y.y.ci Y.f.g12⟩
instance:Co B "MOST_WORDS" vp:=⟨Y.y.ci Y.f.g13⟩
instance:Co B "NO_NAMES" Bb:=⟨Y.y.cs Y.f.g14⟩
instance:Co B "NO_WORDS" Bc:=⟨Y.y.cs Y.f.g15⟩
instance:Co B "NO_WORDS_OF_ROWS" tK:=⟨Y.y.cs Y.f.g16⟩
instance:Ff B sj "copied_rules" := ⟨vW (Y.f.k14.at 0 rfl)⟩
instance:Ff B wc "joining" := ⟨vW (Y.f.k2.at 0 rfl)⟩
instance:Ff B tH "kept_marks" := ⟨vW (Y.f.k14.at 1 rfl)⟩
instance:Ff B pM "kept_things" := ⟨vW (Y.f.k14.at 2 rfl)⟩
instance:Ff B we "kept_verbs" := ⟨vW (Y.f.k14.at 3 rfl)⟩
instance:Ff B pf "kind" := ⟨orQ (vW (Y.f.k0.at 0 rfl)) (Y.f.k7.at 0 rfl)⟩
instance:Ff B tI "most" := ⟨vW (Y.f.k1.at 0 rfl)⟩
instance:Ff B ue "mosts_by_name" := ⟨vW (Y.f.k14.at 4 rfl)⟩
instance:Ff B oA "name" := ⟨orQ (orQ (vW (Y.f.k0.at 1 rfl)) (Y.f.k1.at 1 rfl)) (Y.f.k2.at 1 rfl)⟩
instance:Ff B xI "others" := ⟨vW (Y.f.k2.at 2 rfl)⟩
instance:Ff B sk "shared_rules" := ⟨vW (Y.f.k14.at 5 rfl)⟩
instance:Ff B uQ "shared_verbs" := ⟨vW (Y.f.k14.at 6 rfl)⟩
instance:Ff B p6 "start" := ⟨orQ (vW (Y.f.k0.at 2 rfl)) (Y.f.k1.at 2 rfl)⟩
instance:Ff B tJ "things_by_name" := ⟨vW (Y.f.k14.at 7 rfl)⟩
instance:Ff B E4 "verb" := ⟨vW (Y.f.k13.at 0 rfl)⟩
instance:Ff B qA "words" := ⟨vW (Y.f.k0.at 3 rfl)⟩
instance:Ff B sr "your_name" := ⟨vW (Y.f.k14.at 8 rfl)⟩
instance:Af B 0 ["kind", "name", "start", "words"]:=⟨Y.f.k0⟩
instance:Af B 1 ["most", "name", "start"]:=⟨Y.f.k1⟩
instance:Af B 2 ["joining", "name", "others", "form"]:=⟨Y.f.k2⟩
instance:Af B 3 ["place", "term"]:=⟨Y.f.k3⟩
instance:Af B 4 ["term"]:=⟨Y.f.k4⟩
instance:Af B 6 ["term", "value"]:=⟨Y.f.k6⟩
instance:Af B 7 ["kind", "term"]:=⟨Y.f.k7⟩
instance:Af B 9 ["inner"]:=⟨Y.f.k9⟩
instance:Af B 11 ["place", "term"]:=⟨Y.f.k11⟩
instance:Af B 12 ["term", "value"]:=⟨Y.f.k12⟩
instance:Af B 13 ["verb", "deeds", "refuses", "tests", "text"]:=⟨Y.f.k13⟩
instance:Af B 14 ["copied_rules", "kept_marks", "kept_things", "kept_verbs", "mosts_by_name", "shared_rules", "shared_verbs", "things_by_name", "your_name", "kept_dark", "kept_rules", "kept_ways", "rules_by_verb", "verbs_by_word"]:=⟨Y.f.k14⟩
instance:Ic B "Mark" LR:=⟨1,CC Y.f.i_Mark rfl (OI 15 _) (Ju.at ⟨Y.f.k0.ci,Y.f.k1.ci,Y.f.k2.ci,Y.f.k3.ci,Y.f.k4.ci,Y.f.k5.ci,Y.f.k6.ci,Y.f.k7.ci,Y.f.k8.ci,Y.f.k9.ci,Y.f.k10.ci,Y.f.k11.ci,Y.f.k12.ci,Y.f.k13.ci,Y.f.k14.ci,trivial⟩),Y.y.g Y.f.a1⟩
instance:Ic B "Thing" HH:=⟨0,CC Y.f.i_Thing rfl (OI 15 _) (Ju.at ⟨Y.f.k0.ci,Y.f.k1.ci,Y.f.k2.ci,Y.f.k3.ci,Y.f.k4.ci,Y.f.k5.ci,Y.f.k6.ci,Y.f.k7.ci,Y.f.k8.ci,Y.f.k9.ci,Y.f.k10.ci,Y.f.k11.ci,Y.f.k12.ci,Y.f.k13.ci,Y.f.k14.ci,trivial⟩),Y.y.g Y.f.a0⟩
instance:Ij B 15:=⟨VG Y.f.nd⟩
local macro_rules|`(tactic|trivial)=>do let x:=("Vc U2 U1 U3 U4 LL U8 RR SK U5 RP SR SJ Rv Rx SL SN SF RV Sv RY SU RG RH RI RJ RD SO U9 SV RE RT SX SY SM Tb RS RQ RO Ru Sb Sd U6 S0 RM RN RK Va Vb Sj RA RB Sk RF S8 S9 Ta SZ S3 U7 RW RX S4 S5 Sm RZ R0 Sr Ss Su S6 S7 OG OF OH Sw Sx Sy SA Sa SC SD Se Sf Sg Sh Si Tg Sq So Sn RU Tp Tn To Tq Tr SH SI OE SW R9 R7 R8 Td Te Tf OD Tc SQ".splitOn " ").toArray.map fun s=>Lean.mkIdent (.mkSimple s);`(tactic|repeat' first|(with_reducible apply eqI);(first|rfl|kernel_rfl)|((with_reducible first|apply SG|apply zr_cpM);rotate_left 7;rfl)|(with_reducible first $[|apply $x]*)|(with_reducible intro _)|exact mY)
instance:Df B 1 "is_small_letters" (spF B.G rA):=gF4 rfl Y.f.q17 rfl (by unfold tL;trivial)
instance:Df B 2 "is_name" (spF B.G wU):=gF4 rfl Y.f.q18 rfl (by unfold CI;trivial)
instance:Df B 2 "is_word" (spF B.G tq):=gF4 rfl Y.f.q19 rfl (by unfold CJ;trivial)
instance:Df B 1 "is_one_of" (spF B.G qb):=gF4 rfl Y.f.q20 rfl (by unfold zE;trivial)
instance:Df B 1 "is_whole" (spF B.G rB):=gF4 rfl Y.f.q21 rfl (by unfold Bd;trivial)
instance:Df B 1 "is_list_up_to" (spF B.G p8):=gF4 rfl Y.f.q22 rfl (by unfold vM;trivial)
instance:Df B 1 "own_list" (spF B.G xJ):=gF4 rfl Y.f.q23 rfl (by unfold Be;trivial)
instance:Kf B 1 "Thing" 0 yu []:=gJ4 (dds:=[D.non]) Y.f.k0 Y.f.a0 rfl Y.f.q24 rfl rfl (by unfold yt;trivial) 1
instance:Kf B 1 "Mark" 1 zG []:=gI4 Y.f.k1 Y.f.a1 rfl Y.f.q25 rfl rfl (by unfold zF;trivial)
theorem vJ:Bdz B (nmO (inClass (top 32) 0)) "Verb.__init__" (inClass (top 32) 0) (oY (inClass (top 32) 0)) 0 wo:=by
 unfold wo;refine LL ?_ ?_
 all_goals trivial
instance:Kf B 1 "Verb" 2 qS [D.non,(D.str "one"),D.non]:=gJ4 (dds:=[D.non,(D.str "one"),D.non]) Y.f.k2 Y.f.a2 rfl Y.f.q26 rfl rfl vJ 0
instance:Kf B 1 "Verb" 2 qS [D.non]:=gJ4 (dds:=[D.non,(D.str "one"),D.non]) Y.f.k2 Y.f.a2 rfl Y.f.q26 rfl rfl vJ 2
instance:Kf B 1 "Verb" 2 qS []:=gJ4 (dds:=[D.non,(D.str "one"),D.non]) Y.f.k2 Y.f.a2 rfl Y.f.q26 rfl rfl vJ 3
instance:Kf B 1 "At" 3 CL []:=gI4 Y.f.k3 Y.f.a3 rfl Y.f.q27 rfl rfl (by unfold CK;trivial)
instance:Kf B 1 "Has" 4 xK []:=gI4 Y.f.k4 Y.f.a4 rfl Y.f.q28 rfl rfl (by unfold Bf;trivial)
instance:Kf B 1 "Marked" 6 qC []:=gI4 Y.f.k6 Y.f.a6 rfl Y.f.q29 rfl rfl (by unfold xg;trivial)
instance:Kf B 1 "Kind" 7 qT []:=gI4 Y.f.k7 Y.f.a7 rfl Y.f.q30 rfl rfl (by unfold zH;trivial)
instance:Kf B 1 "Not" 9 rD []:=gI4 Y.f.k9 Y.f.a9 rfl Y.f.q31 rfl rfl (by unfold Bh;trivial)
instance:Kf B 1 "Move" 11 sI []:=gI4 Y.f.k11 Y.f.a11 rfl Y.f.q32 rfl rfl (by unfold zI;trivial)
instance:Kf B 1 "Put" 12 tM []:=gI4 Y.f.k12 Y.f.a12 rfl Y.f.q33 rfl rfl (by unfold Bi;trivial)
instance:Kf B 2 "Rule" 13 wq []:=gJ4 (dds:=[(D.bl false)]) Y.f.k13 Y.f.a13 rfl Y.f.q34 rfl rfl (by unfold zJ;trivial) 1
instance:Mf B 9 "can_hold" pU:=⟨λc h e=>by
 unfold pU at e;split at e
 ·cases e;exact hF4 (k:=8) Y.f.k0 rfl Y.f.q35 rfl (by unfold uR;trivial)
 ·cases e⟩
instance:Mf B 9 "has_mark" qf:=⟨λc h e=>by
 unfold qf at e;split at e
 ·cases e;exact hF4 (k:=8) Y.f.k0 rfl Y.f.q36 rfl (by unfold uT;trivial)
 ·cases e⟩
instance:Mf B 9 "is_plainly" sm:=⟨λc h e=>by
 unfold sm at e;split at e
 ·cases e;exact hF4 (k:=8) Y.f.k0 rfl Y.f.q37 rfl (by unfold tN;trivial)
 ·cases e⟩
instance:Df B 1 "refuse_unless" (spF B.G oi):=gF4 rfl Y.f.q38 rfl (by unfold vO;trivial)
instance:Df B 1 "count_of" (spF B.G vq):=gF4 rfl Y.f.q39 rfl (by unfold Bj;trivial)
instance:Df B 10 "plain_ones" (spN B.G qW):=gN4 rfl Y.f.q40 rfl (by unfold yw;trivial)
instance:Df B 2 "is_mark" (spF B.G y9):=gF4 rfl Y.f.q41 rfl (by unfold y8;trivial)
instance:Df B 11 "check_things" (spF B.G tR):=gF4 rfl Y.f.q42 rfl (by unfold tQ;trivial)
instance:Df B 3 "check_marks" (spF B.G uu):=gF4 rfl Y.f.q43 rfl (by unfold ur;trivial)
instance:Df B 1 "are_unlike" (spF B.G qc):=gF4 rfl Y.f.q44 rfl (by unfold yx;trivial)
instance:Df B 3 "check_names" (spF B.G uw):=gF4 rfl Y.f.q45 rfl (by unfold uv;trivial)
instance:Df B 10 "mark_names" (spN B.G qo):=gN4 rfl Y.f.q46 rfl (by unfold yy;trivial)
instance:Df B 10 "is_start" (spF B.G xN):=gF4 rfl Y.f.q47 rfl (by unfold xM;trivial)
instance:Df B 1 "comes_to_room_checks" (spF B.G qp):=gA4 rfl Y.f.q48 rfl (by unfold rN;trivial)
instance:Df B 11 "check_starts" (spF B.G tT):=gF5 ["things", "starts", "thing"] rfl Y.f.q49 rfl (by unfold tS;trivial)
instance:Df B 3 "are_words" (spF B.G wu):=gF4 rfl Y.f.q50 rfl (by unfold wt;trivial)
instance:Df B 1 "has_all" (spF B.G wV):=gF4 rfl Y.f.q51 rfl (by unfold CM;trivial)
instance:Df B 2 "is_told_apart" (spF B.G sO):=gF4 rfl Y.f.q52 rfl (by unfold sN;trivial)
instance:Df B 11 "check_words_of_things" (spF B.G qh):=gF4 rfl Y.f.q53 rfl (by unfold qg;trivial)
instance:Df B 2 "check_dark" (spF B.G vv):=gF4 rfl Y.f.q54 rfl (by unfold vt;trivial)
instance:Df B 2 "check_ways" (spF B.G vw):=gF4 rfl Y.f.q55 rfl (by unfold yz;trivial)
instance:Df B 2 "check_verbs" (spF B.G ux):=gF4 rfl Y.f.q56 rfl (by unfold xh;trivial)
instance:Df B 1 "are_apart" (spF B.G sJ):=gF4 rfl Y.f.q57 rfl (by unfold zK;trivial)
instance:Df B 11 "check_vocabulary" (spF B.G qq):=gF4 rfl Y.f.q58 rfl (by unfold rE;trivial)
instance:Df B 12 "check_parts" (spF B.G uz):=gF4 rfl Y.f.q59 rfl (by unfold uy;trivial)
instance:Df B 4 "does" (spF B.G uA):=gF4 rfl Y.f.q60 rfl (by unfold LS;trivial)
instance:Df B 4 "refuses" (spF B.G pC):=gF4 rfl Y.f.q61 rfl (by unfold CN;trivial)
instance:Df B 5 "hand_rules" (spN B.G yB):=gN4 rfl Y.f.q62 rfl (by unfold yA;trivial)
instance:Df B 5 "put_rules" (spN B.G zM):=gN4 rfl Y.f.q63 rfl (by unfold zL;trivial)
instance:Df B 5 "lid_rules" (spN B.G zO):=gN4 rfl Y.f.q64 rfl (by unfold zN;trivial)
instance:Df B 5 "flame_rules" (spN B.G xj):=gN4 rfl Y.f.q65 rfl (by unfold xi;trivial)
instance:Df B 5 "go_rules" (spN B.G Bl):=gN4 rfl Y.f.q66 rfl (by unfold Bk;trivial)
instance:Df B 5 "wait_rules" (spN B.G yD):=gN4 rfl Y.f.q67 rfl (by unfold yC;trivial)
instance:Df B 6 "common_rules" (spN B.G qU):=gN4 rfl Y.f.q68 rfl (by unfold wx;trivial)
instance:Df B 3 "common_verbs" (spN B.G qj):=gN4 rfl Y.f.q69 rfl (by unfold wy;trivial)
instance:Df B 1 "by_name" (spF B.G zd):=gF4 rfl Y.f.q70 rfl (by unfold zc;trivial)
instance:Df B 10 "mosts_by_name" (spF B.G qw):=gF4 rfl Y.f.q71 rfl (by unfold sP;trivial)
instance:Df B 1 "verbs_by_word" (spF B.G qz):=gF4 rfl Y.f.q72 rfl (by unfold vP;trivial)
instance:Df B 1 "by_verb" (spF B.G uV):=gF4 rfl Y.f.q73 rfl (by unfold CO;refine⟨Jf (stW (by kernel_rfl) Aw rfl) (JR mY rfl (Ey (Ep B.G.K (FZ (pvI (by kernel_rfl))))) (pgI (by kernel_rfl)) (Dg (GQ (Ki B.G.K fY jE mm yK (Ld (pvI (by kernel_rfl)) (Kv (FZ (pvI (by kernel_rfl))) (Ff.p (B:=B))) (JZ uo) ⟨rfl,rfl,rfl,rfl⟩) (qH (pvI (by kernel_rfl)) uo))))) (Fw (PE.ghost (pvI (by kernel_rfl))))⟩)
instance:Mf B 9 "of_kind" su:=⟨λc h e=>by
 unfold su at e;split at e
 ·cases e;exact hF4 (k:=8) Y.f.k14 rfl Y.f.q74 rfl (by unfold vQ;trivial)
 ·cases e⟩
instance:Mf B 9 "all_verbs" rl:=⟨λc h e=>by
 unfold rl at e;split at e
 ·cases e;exact hF4 (k:=8) Y.f.k14 rfl Y.f.q75 rfl (by unfold uh;trivial)
 ·cases e⟩
instance:Kf B 13 "World" 14 rQ []:=gI4 Y.f.k14 Y.f.a14 rfl Y.f.q76 rfl rfl (by unfold rP;trivial)
instance:Df B 1 "is_same_text" (spF B.G pI):=gF4 rfl Y.f.q77 rfl (by unfold wz;trivial)
instance:Mf B 9 "you" uW:=⟨λc h e=>by
 unfold uW at e;split at e
 ·cases e;exact hF4 (k:=8) Y.f.k14 rfl Y.f.q78 rfl (by unfold zP;trivial)
 ·cases e⟩
instance:Mf B 9 "names" ui:=⟨λc h e=>by
 unfold ui at e;split at e
 ·cases e;exact hF4 (k:=8) Y.f.k14 rfl Y.f.q79 rfl (by unfold xk;trivial)
 ·cases e⟩
instance:Mf B 9 "thing_of" pJ:=⟨λc h e=>by
 unfold pJ at e;split at e
 ·cases e;exact hF4 (k:=8) Y.f.k14 rfl Y.f.q80 rfl (by unfold uX;trivial)
 ·cases e⟩
instance:Mf B 9 "most_of" rg:=⟨λc h e=>by
 unfold rg at e;split at e
 ·cases e;exact hF4 (k:=8) Y.f.k14 rfl Y.f.q81 rfl (by unfold vR;trivial)
 ·cases e⟩
instance:Mf B 12 "parts" uj:=⟨λc h e=>by
 unfold uj at e;split at e
 ·cases e;exact hF4 (k:=11) Y.f.k14 rfl Y.f.q82 rfl (by unfold xm;trivial)
 ·cases e⟩
instance:Df B 1 "value_of" (spF B.G vz):=gF4 rfl Y.f.q83 rfl (by unfold Bm;trivial)
instance:Df B 2 "at_of" (spF B.G sv):=gF4 rfl Y.f.q84 rfl (by unfold HI;trivial)
instance:Df B 3 "comes_to_room_stands" (spF B.G o8):=gA4 rfl Y.f.q85 rfl (by unfold rR;trivial)
instance:Df B 1 "is_two" (spF B.G rh):=gF4 rfl Y.f.q86 rfl (by unfold E5;trivial)
instance:Df B 2 "is_part" (spF B.G qY):=gF4 rfl Y.f.q87 rfl (by unfold CP;trivial)
instance:Df B 10 "is_holder" (spF B.G uk):=gF4 rfl Y.f.q88 rfl (by unfold zR;trivial)
instance:Df B 11 "is_value" (spF B.G oH):=gF4 rfl Y.f.q89 rfl (by unfold Bn;trivial)
instance:Df B 13 "is_stand" (spF B.G pN):=gF4 rfl Y.f.q90 rfl (by unfold Bo;trivial)
instance:Df B 1 "_law_cell_at" (spF B.G rS):=gF4 rfl Y.f.q91 rfl (by unfold wA;trivial)
instance:Df B 1 "_law_draws" (spN B.G qZ):=gN4 rfl Y.f.q92 rfl (by unfold yE;trivial)
instance:Df B 1 "_law_take" (spM B.G nW):=gM4 rfl Y.f.q93 rfl rfl (by unfold zS;trivial)
instance:Df B 2 "_law_names" (spM B.G vB):=gM4 rfl Y.f.q94 rfl rfl (by unfold vA;trivial)
instance:Df B 2 "_law_others" (spL B.G qD):=gL4 rfl Y.f.q95 rfl (by unfold sy;trivial)
instance:Df B 3 "_law_spec" (spF B.G wC):=gF4 rfl Y.f.q96 rfl (by unfold wB;trivial)
instance:Df B 15 "_law_world" (spF B.G vE):=gF4 rfl Y.f.q97 rfl (by unfold vC;trivial)
instance:Df B 1 "_law_of" (spN B.G qE):=gN4 rfl Y.f.q98 rfl (by unfold CQ;trivial)
instance:Df B 2 "_law_mosts" (spF B.G rT):=gF4 rfl Y.f.q99 rfl (by unfold vF;trivial)
instance:Df B 2 "_law_places" (spL B.G sC):=gL4 rfl Y.f.q100 rfl (by unfold sA;trivial)
instance:Df B 3 "_law_marks" (spL B.G sV):=gL4 rfl Y.f.q101 rfl (by unfold sU;trivial)
instance:Df B 1 "_law_stand" (spF B.G sW):=gF4 rfl Y.f.q102 rfl (by unfold yF;trivial)
instance:Df B 3 "_law_other_value" (spL B.G qt):=gL4 rfl Y.f.q103 rfl (by unfold qr;trivial)
instance:Df B 4 "_law_other_pair" (spL B.G qM):=gL4 rfl Y.f.q104 rfl (by unfold qL;trivial)
instance:Df B 5 "_law_spoilt" (spL B.G rj):=gL4 rfl Y.f.q105 rfl (by unfold sE;trivial)
theorem MB:Bdz B (nmO (top 159)) "law" (top 159) (oY (top 159)) 15 LU:=by
 unfold LU;refine LL ?_ ?_
 all_goals trivial
end
end K14x
namespace K14x
open PySem L2 L3 L4
def HZ(K:ao):Sp:=λvs H Q _=>∃(a:Addr) (ns:List Int),vs=[.ref a]/\SqL K H a (ns.map V.int)/\ns.length<=63/\∀H',Q (.bl true) H'
theorem Dc{G:Bg}{H:Hp}:∀ns:List Int,nZ G H (ns.map D.int) (ns.map V.int)
 |[]=>oO
 |n::ns=>oJ (ql n) (Dc ns)
theorem O9{G:Bg}:∀vs H Q E,HZ G.K vs H Q E->spF G Pw vs H Q E:=λvs H Q E h=>by obtain⟨a,ns,rfl,hs,hl,k⟩:=h;refine⟨H,[.fzl (ns.map D.int)],.bl true,oj.refl _,oJ (by unfold L4.Rep;exact⟨a,_,rfl,hs,Dc ns⟩) oO,TV ns hl,λv H0' H' _ _ _ _ r=>?_⟩;unfold L4.Rep at r;subst r;exact k H'
theorem all_mk{l:fG}{w:av}{K:ao}{h:Heap}{mg:Str->Option aa}{fa:Addr}(X:K.In h)(Gn:h.Ns mainGlobals mg)(hfa:mg "law" = some (.ref fa)){C0 C1 C2 C3 C4 C5 C6 C7 C8 C9 C10 C11 C12 C13 C14:Addr}(F:Fx K C0 C1 C2 C3 C4 C5 C6 C7 C8 C9 C10 C11 C12 C13 C14):
  ∃fd:bL,(∀(s:ae) (v:aa),fJ s fd ⟨[v],[]⟩ [("_law_script", v)])/\∀base:Heap,K.In base->base.Ns mainGlobals mg->sF l.prog w K mg base CX0 16 fa fd ["_law_script"] (HZ K):=by
 have gen:∃B:Bg,B.K=K/\B.ca 0=C0/\B.ca 1=C1/\B.ca 2=C2/\B.ca 3=C3/\B.ca 4=C4/\B.ca 5=C5/\B.ca 6=C6/\B.ca 7=C7/\B.ca 8=C8/\B.ca 9=C9/\B.ca 10=C10/\B.ca 11=C11/\B.ca 12=C12/\B.ca 13=C13/\B.ca 14=C14:=⟨⟨K,λc=>[C0,C1,C2,C3,C4,C5,C6,C7,C8,C9,C10,C11,C12,C13,C14].getD c 0⟩,rfl,rfl,rfl,rfl,rfl,rfl,rfl,rfl,rfl,rfl,rfl,rfl,rfl,rfl,rfl,rfl⟩;obtain⟨B,rfl,rfl,rfl,rfl,rfl,rfl,rfl,rfl,rfl,rfl,rfl,rfl,rfl,rfl,rfl,rfl⟩:=gen;have Z:∀base,Yx ⟨l.prog,w,mg,base,B⟩:=λbase=>⟨⟨h,X,Gn⟩,F⟩;obtain⟨f,fd,a,FF⟩:=F.q106;have e:=hfa.symm.trans (jf X Gn a);cases e;obtain⟨oc,od,kV,doc,pm,an,cdv,ct,osl,rfl,lk,hcd⟩:=FF.ex;exact⟨_,λs v=>.of_eq rfl,λbase _ _=>(Hn rfl rfl rfl FF (okk (N:=nmO (top 159)) (ps:=["_law_script"]) (np:=1) (n:=8) (by kernel_rfl)).1 ((@MB _ (Z base)).ok rfl _)).imp (O9 (G:=B))⟩
theorem walk{l:fG}{q:aA}{loose:aG}{XP:(Str->Option aa)->Heap->Prop}{YP:av->Heap->Prop}{d:DefRec}{K:gH->ao}(hn:l.most=some 63)(hdf:d.params.defaults=[])
  (hY:∀(w:av) (h:Heap),YP w h->(K w.params).In h)
  (F:∀(w:av) (mg:Str->Option aa) (fa:Addr) (h:Heap),(K w.params).In h->h.Ns mainGlobals mg->mg d.name=some (.ref fa)->
   ∃fd:bL,(∀(s:ae) (u:aa),fJ s fd ⟨[u],[]⟩ [("_law_script", u)])/\∀base:Heap,(K w.params).In base->base.Ns mainGlobals mg->sF l.prog w (K w.params) mg base CX0 16 fa fd ["_law_script"] (HZ (K w.params))):
  W.WalkO q loose XP YP l.row.toRowW d [] (λf vs=>kG f vs):=
 L2.Nc (n:=63) (k:=16) (x:="_law_script") (CX:=λ_=>CX0) (sp:=λw=>HZ (K w.params)) hn (by decide) hdf ⟨rfl,by decide,by decide⟩ hY F (λ_ _ a ns hl _ hS=>⟨a,ns,rfl,hS,hl,λ_=>rfl⟩) λ_ _ _ _ _ z=>z
end K14x
set_option maxHeartbeats 0
open PySem PySem.W PyProof.Rows
theorem PySem.Challenge.cw_tellworld_k14_what_is_no_stand_holds : PySem.Challenge.rw_tellworld_k14_what_is_no_stand.Holds := by
 refine hd ?_
 k_fill
 refine K14x.walk (l:=PySem.Challenge.rw_tellworld_k14_what_is_no_stand) rfl rfl (λw h Y=>Y) ?F
 case F=>
  intro w mg fa h KX G hmg;refine' K14x.all_mk KX G hmg ?Q
  case Q=>
   constructor
   all_goals first
   |k_is
   |kernel_rfl
   |exact⟨⟨⟨by k_is,by k_is,by k_is,by k_is⟩,by k_is,by k_is,by k_is,by k_is⟩,by k_is,by k_is,by kernel_rfl⟩
   |exact⟨_,by k_is⟩
   |exact⟨_,_,by k_is,⟨_,_,_,_,_,_,_,_,_,rfl,by k_is,by k_is⟩,by k_is⟩
   |exact⟨_,_,by k_is,by k_is,⟨_,_,_,_,_,_,_,_,_,rfl,by k_is,by k_is⟩,by k_is⟩
   |exact⟨_,_,_,_,by k_is,by k_is,by rfl,by rfl,by simp,by repeat' first|exact .nil|exact .cons rfl .nil|refine .cons rfl ?_⟩
   |exact⟨_,_,_,_,[_],_,by k_is,by k_is,⟨⟨_,_,_,_,_,_,_,_,_,rfl,by k_is,by k_is⟩,by k_is⟩,by k_is,by rfl,.cons (by first|rfl|exact⟨_,rfl⟩) .nil⟩
   |exact⟨_,_,_,_,[_,_,_],_,by k_is,by k_is,⟨⟨_,_,_,_,_,_,_,_,_,rfl,by k_is,by k_is⟩,by k_is⟩,by k_is,by rfl,.cons (by first|rfl|exact⟨_,rfl⟩) (.cons (by first|rfl|exact⟨_,rfl⟩) (.cons (by first|rfl|exact⟨_,rfl⟩) .nil))⟩
end
